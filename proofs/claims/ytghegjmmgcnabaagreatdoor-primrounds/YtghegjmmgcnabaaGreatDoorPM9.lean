/-
  Whole numbers that go round; no conditions.
-/
import Derived.Test.YtghegjmmgcnabaaGreatDoorPM8
namespace Go.Proofs.YtghegjmmgcnabaaGreatDoor
open Go.RowKit

theorem wrap_is (x : Int) : IntKind.wrap .i64 x = wrap64 x := by
  simp only [wrap64, IntKind.wrap_i64]

theorem wrap64_by (x a k : Int) (h : x = a + 18446744073709551616 * k) (ha : -9223372036854775808 ≤ a ∧ a ≤ 9223372036854775807) : wrap64 x = a := by
  simp only [wrap64]
  omega

theorem wrap64_ex (x : Int) : ∃ k, wrap64 x = x + 18446744073709551616 * k := by
  simp only [wrap64]
  refine ⟨-((x + 9223372036854775808) / 18446744073709551616), ?_⟩
  omega

theorem r_sub (a b : Int) (ha : -9223372036854775808 ≤ a ∧ a ≤ 9223372036854775807) : wrap64 (wrap64 (a - b) + b) = a := by
  obtain ⟨k, hk⟩ := wrap64_ex (a - b)
  exact wrap64_by _ _ k (by rw [hk]; omega) ha

theorem r_neg (a : Int) (ha : -9223372036854775808 ≤ a ∧ a ≤ 9223372036854775807) : wrap64 (-(wrap64 (-a))) = a := by
  obtain ⟨k, hk⟩ := wrap64_ex (-a)
  exact wrap64_by _ _ (-k) (by rw [hk]; omega) ha

theorem r_div (a b : Int) (ha : -9223372036854775808 ≤ a ∧ a ≤ 9223372036854775807) : wrap64 (wrap64 (wrap64 (a.tdiv b) * b) + a.tmod b) = a := by
  obtain ⟨k, hk⟩ := wrap64_ex (a.tdiv b)
  obtain ⟨m, hm⟩ := wrap64_ex (wrap64 (a.tdiv b) * b)
  have h1 : b * a.tdiv b + a.tmod b = a := Int.mul_tdiv_add_tmod a b
  refine wrap64_by _ _ (k * b + m) ?_ ha
  rw [hm, hk, Int.add_mul, Int.mul_assoc, Int.mul_add, Int.mul_comm (a.tdiv b) b]
  omega

theorem tmod_in (a b : Int) (ha : -9223372036854775808 ≤ a ∧ a ≤ 9223372036854775807) : -9223372036854775808 ≤ a.tmod b ∧ a.tmod b ≤ 9223372036854775807 := by
  have h := Int.natAbs_tmod a b
  have h2 : (a.tmod b).natAbs ≤ a.natAbs := by rw [h]; exact Nat.mod_le _ _
  by_cases hs : 0 ≤ a
  · have := Int.tmod_nonneg b hs
    omega
  · have h3 : (a.tmod b) = -((-a).tmod b) := by rw [Int.neg_tmod, Int.neg_neg]
    have h4 := Int.tmod_nonneg b (show 0 ≤ -a by omega)
    omega

theorem tmod_sign (a b : Int) (hr : ¬ a.tmod b = 0) : decide (a.tmod b < 0) = decide (a < 0) := by
  by_cases hs : 0 ≤ a
  · have := Int.tmod_nonneg b hs
    rw [decide_eq_false (by omega), decide_eq_false (by omega)]
  · have h3 : (a.tmod b) = -((-a).tmod b) := by rw [Int.neg_tmod, Int.neg_neg]
    have h4 := Int.tmod_nonneg b (show 0 ≤ -a by omega)
    rw [decide_eq_true (by omega), decide_eq_true (by omega)]
end Go.Proofs.YtghegjmmgcnabaaGreatDoor
