/-
  What a Hash has taken, block by block: the digest is that of the blocks of the padded message; the padding written out; no conditions.
-/
import Derived.Test.YtfmbaidpeliakaaDoorH2Sum
namespace Go.Proofs.YtfmbaidpeliakaaDoor
open Go.RowKit

/-- the state behind k blocks -/
def foldB (ks st l : List Int) : Nat → List Int
  | 0 => st
  | k + 1 => comp ks (foldB ks st l k) ((l.drop (64 * k)).take 64)

theorem foldB_len (ks st l : List Int) (k : Nat) : (foldB ks st l k).length = st.length := by
  induction k with
  | zero => rfl
  | succ k ih => show (comp ks _ _).length = _; rw [comp_len, ih]

theorem splice_all (bf c : List Int) (h1 : bf.length = 64) (h2 : c.length = 64) : splice bf 0 c = c := by
  unfold splice
  rw [List.take_zero, List.nil_append, Nat.zero_add, h2, List.drop_eq_nil_of_le (by omega), List.append_nil]

theorem feed_blocks (ks st bf l : List Int) (hb : bf.length = 64) : ∀ k, 64 * k ≤ l.length → ∃ bf', bf'.length = 64 ∧ feed ks (st, bf, 0) (l.take (64 * k)) = (foldB ks st l k, bf', 64 * k)
  | 0, _ => ⟨bf, hb, rfl⟩
  | k + 1, h => by
    obtain ⟨b1, h1, e1⟩ := feed_blocks ks st bf l hb k (by omega)
    have hc : ((l.drop (64 * k)).take 64).length = 64 := by simp; omega
    have hs : l.take (64 * (k + 1)) = l.take (64 * k) ++ (l.drop (64 * k)).take 64 := by
      rw [show 64 * (k + 1) = 64 * k + 64 from by omega, List.take_add]
    refine ⟨(l.drop (64 * k)).take 64, hc, ?_⟩
    rw [hs, feed_app, e1, feed_chunk ks _ _ b1 (64 * k) (by intro e; rw [e] at hc; simp at hc) (by rw [hc]; omega) h1, hc]
    rw [if_pos (by omega), show 64 * k % 64 = 0 by omega, splice_all b1 _ h1 hc]
    rfl

theorem pad_whole (n : Nat) : (n + padE n) % 64 = 0 := by unfold padE; split <;> omega

/-- the digest, by the padded message's blocks -/
theorem digM_is (ks m : List Int) : digM ks m = bytesL (foldB ks H0 (m ++ padL m.length) ((m.length + padE m.length) / 64)) := by
  have hn : (feed ks S0 m).2.2 = m.length := by rw [feed_n]; show 0 + m.length = _; omega
  unfold digM digS
  rw [hn, ← feed_app]
  have hl : (m ++ padL m.length).length = m.length + padE m.length := by rw [List.length_append, padL_len]
  have hw := pad_whole m.length
  have h64 : 64 * ((m.length + padE m.length) / 64) = m.length + padE m.length := by omega
  obtain ⟨bf', _, e⟩ := feed_blocks ks H0 (List.replicate 64 0) (m ++ padL m.length) (by simp) ((m.length + padE m.length) / 64) (by rw [hl, h64]; exact Nat.le_refl _)
  rw [h64, List.take_of_length_le (by omega)] at e
  show bytesL (feed ks (H0, List.replicate 64 0, 0) (m ++ padL m.length)).1 = _
  rw [e]

/-- the bytes of the length, the highest first -/
def lenL (n : Nat) : List Int := (List.range 8).map fun i => ((8 * n % 18446744073709551616 : Nat) : Int) / 2 ^ (8 * (7 - i)) % 256

theorem tail_at (n : Nat) : ∀ i, i ≤ 8 → ∀ j, j < padE n → (tailL n i).getD j 0 = if j = 0 then 128 else if padE n - i ≤ j then ((8 * n % 18446744073709551616 : Nat) : Int) / 2 ^ (8 * (padE n - 1 - j)) % 256 else 0
  | 0, _, j, hj => by
    have hE := padE_bounds n
    rw [if_neg (show ¬ padE n - 0 ≤ j by omega)]
    show ((List.replicate 72 (0 : Int)).set 0 128).getD j 0 = _
    rw [List.getD_eq_getElem?_getD]
    by_cases h0 : j = 0
    · subst h0
      rw [List.getElem?_set_self (by simp)]
      rfl
    · rw [List.getElem?_set_ne (by omega), List.getElem?_replicate, if_pos (by omega), if_neg h0]
      rfl
  | i + 1, hi, j, hj => by
    have hE := padE_bounds n
    have ih := tail_at n i (by omega) j hj
    show ((tailL n i).set (padE n - 1 - i) _).getD j 0 = _
    by_cases hji : padE n - 1 - i = j
    · subst hji
      rw [List.getD_eq_getElem?_getD, List.getElem?_set_self (by rw [tailL_len]; omega), if_neg (by omega), if_pos (by omega), show padE n - 1 - (padE n - 1 - i) = i by omega]
      rfl
    · rw [List.getD_eq_getElem?_getD, List.getElem?_set_ne hji, ← List.getD_eq_getElem?_getD, ih]
      by_cases h0 : j = 0
      · rw [if_pos h0, if_pos h0]
      · rw [if_neg h0, if_neg h0]
        by_cases hc : padE n - i ≤ j
        · rw [if_pos hc, if_pos (by omega)]
        · rw [if_neg hc, if_neg (by omega)]

/-- the padding, written out -/
theorem padL_is (n : Nat) : padL n = 128 :: (List.replicate (padE n - 9) 0 ++ lenL n) := by
  have hE := padE_bounds n
  have hl : (128 :: (List.replicate (padE n - 9) (0 : Int) ++ lenL n)).length = padE n := by simp [lenL]; omega
  refine List.ext_getElem (by rw [padL_len, hl]) fun j h1 h2 => ?_
  rw [padL_len] at h1
  have e1 : (padL n)[j]'(by rw [padL_len]; exact h1) = (tailL n 8).getD j 0 := by
    unfold padL
    rw [List.getElem_take]
    simp [List.getD, (by rw [tailL_len]; omega : j < (tailL n 8).length)]
  rw [e1, tail_at n 8 (by omega) j h1]
  by_cases h0 : j = 0
  · subst h0
    rfl
  · obtain ⟨k, rfl⟩ : ∃ k, j = k + 1 := ⟨j - 1, by omega⟩
    rw [if_neg (by omega), List.getElem_cons_succ]
    by_cases hc : padE n - 8 ≤ k + 1
    · rw [if_pos hc, List.getElem_append_right (by simp; omega)]
      simp only [lenL, List.getElem_map, List.getElem_range, List.length_replicate]
      rw [show 7 - (k - (padE n - 9)) = padE n - 1 - (k + 1) by omega]
    · rw [if_neg hc, List.getElem_append_left (by simp; omega)]
      simp
end Go.Proofs.YtfmbaidpeliakaaDoor
