/-
  What the bound of an 'upto' statement gives: the capacity of a slice of bytes and the length of a text among the arguments; no conditions.
-/
import Derived.Test.YtojhfoojodmmaaaOpen8
import Derived.JoinedCond
namespace Go.Proofs.Ytojhfoojodmmaaa

theorem bulk_pos {H : Type} (d : DataW H) : 1 ≤ Rows.uptoBulk d := by
  cases d with
  | lit l => cases l <;> simp [Rows.uptoBulk]
  | _ => simp [Rows.uptoBulk]

theorem bulk_len {H : Type} (l : List (DataW H)) : l.length ≤ Rows.uptoBulkAll l := by
  induction l with
  | nil => simp [Rows.uptoBulkAll]
  | cons d r ih =>
    have h := bulk_pos d
    rw [Rows.uptoBulkAll, List.length_cons]
    omega

theorem bulk_row {H : Type} {d : DataW H} {cap : Nat} (h : cap = 0 ∨ ∃ elems spare, d = .slice elems spare ∧ elems.length + spare.length = cap) : cap ≤ Rows.uptoBulk d := by
  rcases h with rfl | ⟨elems, spare, rfl, hc⟩
  · exact Nat.zero_le _
  · have h1 := bulk_len elems
    have h2 := bulk_len spare
    rw [Rows.uptoBulk]
    omega

theorem bulk_text {H : Type} (s : ByteArray) : s.size ≤ Rows.uptoBulk (DataW.lit (H := H) (.string s.data.toList)) := by
  rw [Rows.uptoBulk, Array.length_toList]
  have e : s.data.size = s.size := rfl
  omega
end Go.Proofs.Ytojhfoojodmmaaa
