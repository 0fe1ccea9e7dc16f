/-
  The walks of num.Sum and of the document's Sum: each returns what 'sumOf' makes of the slice's elements; no conditions beyond the slice's own reading.
-/
import Derived.Test.YtojhfoojodmmaaaRows
import Derived.WalkKit
import Derived.WalkSpells
namespace Go.Proofs.Ytojhfoojodmmaaa
open Go.RowKit

theorem hide {p : Prop} (h : p) : Hid p := h
theorem unhide {p : Prop} (h : Hid p) : p := h

/-- what numbers come to, from a sum on -/
def sumOf : Int → List Int → Int × Bool
  | s, [] => (s, true)
  | s, n :: l => if n < 0 ∨ 9223372036854775807 - s < n then (0, false) else sumOf (s + n) l

theorem sumOf_drop (s : Int) (l : List Int) (k : Nat) (h : k < l.length) :
    sumOf s (l.drop k) = if l.getD k 0 < 0 ∨ 9223372036854775807 - s < l.getD k 0 then (0, false) else sumOf (s + l.getD k 0) (l.drop (k + 1)) := by
  rw [List.drop_eq_getElem_cons h]
  have : l.getD k 0 = l[k] := by simp [List.getD, h]
  rw [this]; rfl

theorem sumOf_end (s : Int) (l : List Int) (k : Nat) (h : l.length ≤ k) : sumOf s (l.drop k) = (s, true) := by
  rw [List.drop_eq_nil_of_le h]; rfl

theorem ret_sum {p : Int × Bool} {a : Int} {b : Bool} (h : p = (a, b)) : Ending.returned (.tuple #[.int .i64 a, .bool b]) = .returned (.tuple #[.int .i64 p.1, .bool p.2]) := by rw [h]

set_option maxHeartbeats 400000 in
theorem sum_any (b off : Nat) (len cap : Nat) (zs : List Int) (w : World) (hz : len ≤ zs.length) (hm : len ≤ maxLen)
    (hc : ∀ k, k < zs.length → w.cell? ⟨b, off + k, none⟩ = some (.int .i64 (zs.getD k 0))) (hw : ∀ n ∈ zs, n ≤ 9223372036854775807) :
    Calls Try.prog 24 #[.slice (some ⟨b, off, none⟩) len cap] w fun e w' => e = .returned (.tuple #[.int .i64 (sumOf 0 (zs.take len)).1, .bool (sumOf 0 (zs.take len)).2]) ∧ w' = w := by
  unfold maxLen at hm
  go_enter Try.func24, Try.ntmps24
  go_wp2
  go_loop [4, 9] (fun t i => ∃ (k : Nat) (s : Int), k ≤ len ∧ 0 ≤ s ∧ s ≤ 9223372036854775807 ∧ i = .int .i64 k ∧ t = .int .i64 s ∧ Hid (sumOf 0 (zs.take len) = sumOf s ((zs.take len).drop k))) (fun _ i => len - (intOf i).toNat)
  case atStart => exact ⟨0, 0, Nat.zero_le _, by omega, by omega, rfl, rfl, hide rfl⟩
  case round =>
    obtain ⟨k, s, hk, s0, s1, rfl, rfl, HS⟩ := hrel
    by_cases hlt : k < len
    · have hcell := hc k (by omega)
      have hb : zs.getD k 0 ≤ 9223372036854775807 := by
        have : zs.getD k 0 = zs[k] := by simp [List.getD, (by omega : k < zs.length)]
        rw [this]; exact hw _ (List.getElem_mem _)
      have e1 := sumOf_drop s (zs.take len) k (by simp; omega)
      have e2 : (zs.take len).getD k 0 = zs.getD k 0 := by simp [List.getD, hlt]
      rw [e2] at e1
      have HE : Hid _ := hide e1
      clear e1 e2
      generalize zs.getD k 0 = n at *
      by_cases h1 : n < 0
      · go_wp2
        go_ret2
        exact ⟨ret_sum (by rw [unhide HS, unhide HE, if_pos (Or.inl h1)]), rfl⟩
      · by_cases h2 : 9223372036854775807 - s < n
        · go_wp2
          go_ret2
          exact ⟨ret_sum (by rw [unhide HS, unhide HE, if_pos (Or.inr h2)]), rfl⟩
        · go_wp2
          go_round
          case rel => exact ⟨k + 1, s + n, by omega, by omega, by omega, by go_num, by go_num, hide (by rw [unhide HS, unhide HE, if_neg (by omega)])⟩
          case measure => simp [intOf]; omega
    · go_wp2
      go_ret2
      exact ⟨ret_sum (by rw [unhide HS, sumOf_end _ _ _ (by simp; omega)]), rfl⟩

set_option maxHeartbeats 400000 in
theorem sum_none (a : Option Addr) (cap : Nat) (w : World) :
    Calls Try.prog 24 #[.slice a 0 cap] w fun e w' => e = .returned (.tuple #[.int .i64 0, .bool true]) ∧ w' = w := by
  go_enter Try.func24, Try.ntmps24
  go_wp2
  go_loop [4, 9] (fun t i => i = .int .i64 0 ∧ t = .int .i64 0) (fun _ _ => 0)
  case atStart => exact ⟨rfl, rfl⟩
  case round =>
    obtain ⟨rfl, rfl⟩ := hrel
    go_wp2
    go_ret2
    exact ⟨rfl, rfl⟩

set_option maxHeartbeats 400000 in
theorem refSum_none (a : Option Addr) (cap : Nat) (w : World) :
    Calls Try.prog 25 #[.slice a 0 cap] w fun e w' => e = .returned (.tuple #[.int .i64 0, .bool true]) ∧ w' = w := by
  go_enter Try.func25, Try.ntmps25
  go_wp2
  go_loop [5, 6] (fun t i => i = .int .i64 0 ∧ t = .int .i64 0) (fun _ _ => 0)
  case atStart => exact ⟨rfl, rfl⟩
  case round =>
    obtain ⟨rfl, rfl⟩ := hrel
    go_wp2
    go_ret2
    exact ⟨rfl, rfl⟩

set_option maxHeartbeats 400000 in
theorem refSum_any (b off : Nat) (len cap : Nat) (zs : List Int) (w : World) (hz : len ≤ zs.length) (hm : len ≤ maxLen)
    (hc : ∀ k, k < zs.length → w.cell? ⟨b, off + k, none⟩ = some (.int .i64 (zs.getD k 0))) (hw : ∀ n ∈ zs, n ≤ 9223372036854775807) :
    Calls Try.prog 25 #[.slice (some ⟨b, off, none⟩) len cap] w fun e w' => e = .returned (.tuple #[.int .i64 (sumOf 0 (zs.take len)).1, .bool (sumOf 0 (zs.take len)).2]) ∧ w' = w := by
  unfold maxLen at hm
  go_enter Try.func25, Try.ntmps25
  go_wp2
  go_loop [5, 6] (fun t i => ∃ (k : Nat) (s : Int), k ≤ len ∧ 0 ≤ s ∧ s ≤ 9223372036854775807 ∧ i = .int .i64 k ∧ t = .int .i64 s ∧ Hid (sumOf 0 (zs.take len) = sumOf s ((zs.take len).drop k))) (fun _ i => len - (intOf i).toNat)
  case atStart => exact ⟨0, 0, Nat.zero_le _, by omega, by omega, rfl, rfl, hide rfl⟩
  case round =>
    obtain ⟨k, s, hk, s0, s1, rfl, rfl, HS⟩ := hrel
    by_cases hlt : k < len
    · have hcell := hc k (by omega)
      have hb : zs.getD k 0 ≤ 9223372036854775807 := by
        have : zs.getD k 0 = zs[k] := by simp [List.getD, (by omega : k < zs.length)]
        rw [this]; exact hw _ (List.getElem_mem _)
      have e1 := sumOf_drop s (zs.take len) k (by simp; omega)
      have e2 : (zs.take len).getD k 0 = zs.getD k 0 := by simp [List.getD, hlt]
      rw [e2] at e1
      have HE : Hid _ := hide e1
      clear e1 e2
      generalize zs.getD k 0 = n at *
      by_cases h1 : n < 0
      · go_wp2
        go_ret2
        exact ⟨ret_sum (by rw [unhide HS, unhide HE, if_pos (Or.inl h1)]), rfl⟩
      · by_cases h2 : 9223372036854775807 - s < n
        · go_wp2
          go_ret2
          exact ⟨ret_sum (by rw [unhide HS, unhide HE, if_pos (Or.inr h2)]), rfl⟩
        · go_wp2
          go_round
          case rel => exact ⟨k + 1, s + n, by omega, by omega, by omega, by go_num, by go_num, hide (by rw [unhide HS, unhide HE, if_neg (by omega)])⟩
          case measure => simp [intOf]; omega
    · go_wp2
      go_ret2
      exact ⟨ret_sum (by rw [unhide HS, sumOf_end _ _ _ (by simp; omega)]), rfl⟩
end Go.Proofs.Ytojhfoojodmmaaa
