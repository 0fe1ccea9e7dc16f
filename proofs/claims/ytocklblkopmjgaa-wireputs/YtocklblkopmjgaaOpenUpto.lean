/-
  What the bound of an 'upto' statement gives: the capacity of a slice of bytes and the length of a text among the arguments; a value's weights; no conditions.
-/
import Derived.Test.YtocklblkopmjgaaOpen8
import Derived.Test.YtocklblkopmjgaaSized2
import Derived.JoinedCond
namespace Go.Proofs.Ytocklblkopmjgaa

theorem bulk_pos {H : Type} (d : DataW H) : 1 ≤ Rows.uptoBulk d := by
  cases d with
  | lit l => cases l <;> simp [Rows.uptoBulk]
  | _ => simp [Rows.uptoBulk]

theorem bulk_len {H : Type} (l : List (DataW H)) : l.length ≤ Rows.uptoBulkAll l := by
  induction l with
  | nil => simp [Rows.uptoBulkAll]
  | cons d r ih =>
    have h := bulk_pos d
    rw [Rows.uptoBulkAll, List.length_cons]
    omega

theorem bulk_part {H : Type} {d : DataW H} {l : List (DataW H)} (h : d ∈ l) : Rows.uptoBulk d ≤ Rows.uptoBulkAll l := by
  induction l with
  | nil => cases h
  | cons x r ih =>
    simp only [Rows.uptoBulkAll]
    cases List.mem_cons.1 h with
    | inl e => subst e; omega
    | inr e => have := ih e; omega

theorem bulk_row {H : Type} {d : DataW H} {cap : Nat} (h : cap = 0 ∨ ∃ elems spare, d = .slice elems spare ∧ elems.length + spare.length = cap) : cap ≤ Rows.uptoBulk d := by
  rcases h with rfl | ⟨elems, spare, rfl, hc⟩
  · exact Nat.zero_le _
  · have h1 := bulk_len elems
    have h2 := bulk_len spare
    rw [Rows.uptoBulk]
    omega

theorem bulk_text {H : Type} (s : ByteArray) : s.size ≤ Rows.uptoBulk (DataW.lit (H := H) (.string s.data.toList)) := by
  rw [Rows.uptoBulk, Array.length_toList]
  have e : s.data.size = s.size := rfl
  omega

theorem weightsAll_of {H : Type} {P : Program} {e : TypeId} {n : Nat} : ∀ {ds : List (DataW H)}, n ∈ DataW.weightsAll P e ds → ∃ d ∈ ds, n ∈ d.weights P e
  | [], h => by simp [DataW.weightsAll] at h
  | d :: r, h => by
    rw [DataW.weightsAll, List.mem_append] at h
    rcases h with h | h
    · exact ⟨d, List.mem_cons_self, h⟩
    · obtain ⟨d', hd, hn⟩ := weightsAll_of h
      exact ⟨d', List.mem_cons_of_mem _ hd, hn⟩

theorem weightsEach_of {H : Type} {P : Program} {n : Nat} : ∀ {ts : List TypeId} {ds : List (DataW H)}, n ∈ DataW.weightsEach P ts ds → ∃ t ∈ ts, ∃ d ∈ ds, n ∈ d.weights P t
  | [], ds, h => by cases ds <;> simp [DataW.weightsEach] at h
  | t :: ts, [], h => by simp [DataW.weightsEach] at h
  | t :: ts, d :: r, h => by
    rw [DataW.weightsEach, List.mem_append] at h
    rcases h with h | h
    · exact ⟨t, List.mem_cons_self, d, List.mem_cons_self, h⟩
    · obtain ⟨t', ht, d', hd, hn⟩ := weightsEach_of h
      exact ⟨t', List.mem_cons_of_mem _ ht, d', List.mem_cons_of_mem _ hd, hn⟩

/-- the types of these are slices of them, structs of them, or plain -/
def Plains (P : Program) (S : TypeId → Prop) : Prop := ∀ t, S t →
  (∃ e, P.underlying t = some (.slice e) ∧ S e ∧ P.bytesOf e ≤ 80) ∨ (∃ fs : Array Field, P.underlying t = some (.struct fs) ∧ ∀ u ∈ fs.toList.map (·.type), S u) ∨ (∃ k, P.underlying t = some (.int k)) ∨ P.underlying t = some .string

theorem weights_bulk {H : Type} {P : Program} {S : TypeId → Prop} (hS : Plains P S) : ∀ (m : Nat) (d : DataW H) (t : TypeId), S t → Rows.uptoBulk d ≤ m → ∀ n ∈ d.weights P t, n ≤ Rows.uptoBulk d * 80
  | 0, d, t, ht, hm, n, hn => by have := bulk_pos d; omega
  | m + 1, d, t, ht, hm, n, hn => by
    cases d with
    | lit l =>
      cases l with
      | string bytes => simp [DataW.weights] at hn; subst hn; rw [Rows.uptoBulk]; omega
      | _ => simp [DataW.weights] at hn
    | nil => simp [DataW.weights] at hn
    | held h => simp [DataW.weights] at hn
    | iface t d => simp [DataW.weights] at hn
    | ptr d => rcases hS t ht with ⟨e, hu, _⟩ | ⟨fs, hu, _⟩ | ⟨k, hu⟩ | hu <;> simp [DataW.weights, hu] at hn
    | map es => rcases hS t ht with ⟨e, hu, _⟩ | ⟨fs, hu, _⟩ | ⟨k, hu⟩ | hu <;> simp [DataW.weights, hu] at hn
    | slice elems spare =>
      rw [Rows.uptoBulk] at hm ⊢
      rcases hS t ht with ⟨e, hu, he, hb⟩ | ⟨fs, hu, _⟩ | ⟨k, hu⟩ | hu
      · simp only [DataW.weights, hu, List.mem_cons, List.mem_append] at hn
        have h1 := bulk_len elems
        have h2 := bulk_len spare
        rcases hn with rfl | h | h
        · exact Nat.mul_le_mul (by omega) hb
        · obtain ⟨d, hd, hn⟩ := weightsAll_of h
          have hp := bulk_part hd
          have := weights_bulk hS m d e he (by omega) n hn
          omega
        · obtain ⟨d, hd, hn⟩ := weightsAll_of h
          have hp := bulk_part hd
          have := weights_bulk hS m d e he (by omega) n hn
          omega
      all_goals simp [DataW.weights, hu] at hn
    | agg parts =>
      rw [Rows.uptoBulk] at hm ⊢
      rcases hS t ht with ⟨e, hu, he, hb⟩ | ⟨fs, hu, hf⟩ | ⟨k, hu⟩ | hu
      · simp [DataW.weights, hu] at hn
      · simp only [DataW.weights, hu] at hn
        obtain ⟨t', ht', d, hd, hn⟩ := weightsEach_of hn
        have hp := bulk_part hd
        have := weights_bulk hS m d t' (hf t' ht') (by omega) n hn
        omega
      all_goals simp [DataW.weights, hu] at hn

theorem reach_bulk {H : Type} {P : Program} {S : TypeId → Prop} (hS : Plains P S) {d : DataW H} {t : TypeId} (ht : S t) (hb : Rows.uptoBulk d ≤ 1048576) : Reach P t d := fun n hn => by
  have := weights_bulk hS _ d t ht (Nat.le_refl _) n hn
  unfold reachBytes
  omega
end Go.Proofs.Ytocklblkopmjgaa
