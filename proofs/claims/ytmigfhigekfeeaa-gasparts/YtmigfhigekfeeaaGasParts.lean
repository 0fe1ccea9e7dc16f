/-
  A part that is charged and joined counts as if the meter had been charged itself, for any limits and amount (GasPartsSaid); no conditions.
-/
import Derived.Test.YtmigfhigekfeeaaRows
import Derived.Test.YtmigfhigekfeeaaGMt
import Derived.ProofKit
import Derived.ShutString
import Derived.ChangeOld
namespace Go.Proofs.Ytmigfhigekfeeaa.gasParts
open Go.ChangeShapes Go.WideShapes Go.ChangeAt Go.RowKit
set_option linter.unusedVariables false

theorem own : ownKnob Try.prog.godebug = none := by kernel_rfl
theorem laidOut : laidOutB Try.prog = true := by kernel_rfl

set_option maxRecDepth 100000 in
set_option maxHeartbeats 800000 in
theorem walk_a (limit part n : Int) (w : World) (h : alwB limit = false) : Calls Try.prog 5 #[.int .i64 limit, .int .i64 part, .int .i64 n] w fun e w' => e = .returned (.bool true) ∧ Below w.heap.size w w' := by
  have HA : Hid (alwB 1 = true) := hide rfl
  have HL := hide h
  clear h
  go_enter Try.func5, Try.ntmps5
  go_wp2_with fail
  refine (new_no _ _ (unhide HL)).mono ?_
  rintro e w1 ⟨rfl, rfl⟩
  go_wp2_with fail
  refine (part_none _ _).mono ?_
  rintro e w2 ⟨rfl, rfl⟩
  go_wp2_with fail
  refine (new_ok _ _ (unhide HA)).mono ?_
  rintro e w3 ⟨rfl, hw3⟩
  have H : Hid (Below w2.heap.size w2 w3) := hide (by rw [hw3]; exact (Below.refl _ _).alloc (Nat.le_refl _) _)
  clear hw3
  go_wp2_with fail
  go_ret
  exact ⟨rfl, unhide H⟩

set_option maxRecDepth 100000 in
set_option maxHeartbeats 800000 in
theorem walk_b (limit part n : Int) (w : World) (h : alwB limit = true) (h' : alwB part = false) : Calls Try.prog 5 #[.int .i64 limit, .int .i64 part, .int .i64 n] w fun e w' => e = .returned (.bool true) ∧ Below w.heap.size w w' := by
  have HA : Hid (alwB 1 = true) := hide rfl
  have HL := hide h
  have HP := hide h'
  clear h h'
  go_enter Try.func5, Try.ntmps5
  go_wp2_with fail
  refine (new_ok _ _ (unhide HL)).mono ?_
  rintro e w1 ⟨rfl, hw1⟩
  have B1 : Hid (Below w.heap.size w w1) := hide (by rw [hw1]; exact (Below.refl _ _).alloc (Nat.le_refl _) _)
  clear hw1
  go_wp2_with fail
  refine (part_no _ (unhide HP) _ _).mono ?_
  rintro e w2 ⟨rfl, rfl⟩
  go_wp2_with fail
  refine (new_ok _ _ (unhide HA)).mono ?_
  rintro e w3 ⟨rfl, hw3⟩
  have H : Hid (Below w.heap.size w w3) := hide (by rw [hw3]; exact (unhide B1).alloc (unhide B1).size _)
  clear hw3
  go_wp2_with fail
  go_ret
  exact ⟨rfl, unhide H⟩

set_option maxRecDepth 100000 in
set_option maxHeartbeats 1600000 in
theorem walk_c (limit part n r : Int) (w : World) (h : alwB limit = true) (h' : alwB part = true) (hr : (limit ≤ part ∧ r = limit) ∨ (part < limit ∧ r = part)) : Calls Try.prog 5 #[.int .i64 limit, .int .i64 part, .int .i64 n] w fun e w' => e = .returned (.bool true) ∧ Below w.heap.size w w' := by
  have HR : Hid (room part limit false = r) := hide (by unfold room; simp only [Bool.false_eq_true, if_false]; omega)
  have HL := hide h
  have HP := hide h'
  obtain ⟨l0, l1⟩ := of_alw h
  obtain ⟨p0, p1⟩ := of_alw h'
  have r0 : 0 ≤ r := by omega
  have r1 : r ≤ limit := by omega
  clear h h'
  obtain ⟨k, hk⟩ : ∃ k : Nat, (n < 0 ∧ k = 0) ∨ (0 ≤ n ∧ n ≤ r ∧ k = 1) ∨ (0 ≤ n ∧ r < n ∧ k = 2) := by
    by_cases a : n < 0
    · exact ⟨0, .inl ⟨a, rfl⟩⟩
    · by_cases b : n ≤ r
      · exact ⟨1, .inr (.inl ⟨by omega, b, rfl⟩)⟩
      · exact ⟨2, .inr (.inr ⟨by omega, by omega, rfl⟩)⟩
  have HK := hide hk
  have HRR := hide hr
  clear hk hr
  go_enter Try.func5, Try.ntmps5
  go_wp2_with fail
  refine (new_ok _ _ (unhide HL)).mono ?_
  rintro e w1 ⟨rfl, hw1⟩
  have B1 : Hid (Below w.heap.size w w1) := hide (by rw [hw1]; exact (Below.refl _ _).alloc (Nat.le_refl _) _)
  have M1 : Mt w1 w.heap.size limit limit false none := by rw [hw1]; exact heap_alloc_new _ _
  have CP : Hid _ := hide (part_ok part (unhide HP) M1 l0 l1)
  have HM1 := hide M1.lt
  rw [unhide HR] at CP
  clear hw1 M1
  obtain ⟨g, hg⟩ : ∃ g, w.heap.size = g := ⟨_, rfl⟩
  have HG := hide hg
  rw [hg] at CP HM1 ⊢
  clear hg
  go_wp2_with fail
  refine (unhide CP).mono ?_
  rintro e w2 ⟨p, rfl, hp, M2, P2, B2⟩
  have hgp : g ≠ p := by have := unhide HM1; omega
  have HB : Hid (Below w.heap.size w w2) := hide (by
    have h1 := unhide B1
    have h2 := B2.below (B := w.heap.size) (by rw [unhide HG]; exact Nat.le_refl _) h1.size
    exact h1.trans h2)
  have HGP : Hid (g ≠ p ∧ w.heap.size ≤ g ∧ w.heap.size ≤ p) := hide ⟨hgp, by rw [unhide HG]; exact Nat.le_refl _, by have := (unhide B1).size; omega⟩
  have HM := hide M2
  have HP2 := hide P2
  clear hgp M2 P2 B2 hp CP HM1 B1
  go_wp2_with fail
  refine (left_any (unhide HP2)).mono ?_
  rintro e w3 ⟨rfl, rfl⟩
  rcases unhide HK with ⟨n0, hk⟩ | ⟨n0, n1, hk⟩ | ⟨n0, n1, hk⟩
  · clear hk HK
    go_wp2_with fail
    refine (charge_neg _ n0 _ _).mono ?_
    rintro e w4 ⟨rfl, hw4⟩
    have P4 : Mt w4 p r (r) false none := by rw [hw4]; exact unhide HP2
    have M4 : Mt w4 g limit (limit - r) false (some ⟨p, 0, none⟩) := by rw [hw4]; exact (unhide HM)
    have B4 : Hid (Below w.heap.size w w4) := hide (by rw [hw4]; exact unhide HB)
    have CJ := hide (join_ok M4 P4 (unhide HGP).1 (by omega) (by omega) (by omega) (by omega))
    clear hw4 M4 P4 HB HM HP2
    go_wp2_with fail
    refine (unhide CJ).mono ?_
    rintro e w5 ⟨rfl, M5, P5, _, _, B5⟩
    have CL := hide (left_any M5)
    have CQ := hide (left_any P5)
    have H5 : Hid (Below w.heap.size w w5) := hide ((unhide B4).trans (B5 _ (unhide HGP).2.1 (unhide HGP).2.2))
    have hs : limit - r + (r) = limit := by omega
    rw [hs] at CL
    clear M5 P5 B5 CJ B4 hs
    rcases unhide HRR with ⟨q, rfl⟩ | ⟨q, rfl⟩
    all_goals
      clear HRR
      go_wp2_with fail
      refine (unhide CL).mono ?_
      rintro e w6 ⟨rfl, rfl⟩
      go_wp2_with fail
      refine (unhide CQ).mono ?_
      rintro e w7 ⟨rfl, rfl⟩
      go_wp2_with fail
      go_ret
      exact ⟨rfl, unhide H5⟩
  · clear hk HK
    go_wp2_with fail
    refine (charge_ok _ n0 n1 (by omega) (unhide HP2)).mono ?_
    rintro e w4 ⟨rfl, hw4⟩
    have P4 : Mt w4 p r (r - n) false none := by rw [hw4]; exact (unhide HP2).setLeft _
    have M4 : Mt w4 g limit (limit - r) false (some ⟨p, 0, none⟩) := by rw [hw4]; exact (unhide HM).later (heap_setCell_other _ _ _ _ (unhide HGP).1)
    have B4 : Hid (Below w.heap.size w w4) := hide (by rw [hw4]; exact (unhide HB).setCell (p := ⟨p, 1, none⟩) (unhide HGP).2.2 _)
    have CJ := hide (join_ok M4 P4 (unhide HGP).1 (by omega) (by omega) (by omega) (by omega))
    clear hw4 M4 P4 HB HM HP2
    go_wp2_with fail
    refine (unhide CJ).mono ?_
    rintro e w5 ⟨rfl, M5, P5, _, _, B5⟩
    have CL := hide (left_any M5)
    have CQ := hide (left_any P5)
    have H5 : Hid (Below w.heap.size w w5) := hide ((unhide B4).trans (B5 _ (unhide HGP).2.1 (unhide HGP).2.2))
    have hs : limit - r + (r - n) = limit - n := by omega
    rw [hs] at CL
    clear M5 P5 B5 CJ B4 hs
    rcases unhide HRR with ⟨q, rfl⟩ | ⟨q, rfl⟩
    all_goals
      clear HRR
      go_wp2_with fail
      refine (unhide CL).mono ?_
      rintro e w6 ⟨rfl, rfl⟩
      go_wp2_with fail
      refine (unhide CQ).mono ?_
      rintro e w7 ⟨rfl, rfl⟩
      go_wp2_with fail
      go_ret
      exact ⟨rfl, unhide H5⟩
  · clear hk HK
    have nd : decide (n ≤ r) = false := by simpa using n1
    go_wp2_with fail
    refine (charge_over _ n0 n1 (unhide HP2)).mono ?_
    rintro e w4 ⟨rfl, hw4⟩
    have P4 : Mt w4 p r (0) true none := by rw [hw4]; exact ((unhide HP2).setLeft _).setSpent _
    have M4 : Mt w4 g limit (limit - r) false (some ⟨p, 0, none⟩) := by rw [hw4]; exact (unhide HM).later ((heap_setCell_other _ _ _ _ (unhide HGP).1).trans (heap_setCell_other _ _ _ _ (unhide HGP).1))
    have B4 : Hid (Below w.heap.size w w4) := hide (by rw [hw4]; exact ((unhide HB).setCell (p := ⟨p, 1, none⟩) (unhide HGP).2.2 _).setCell (p := ⟨p, 2, none⟩) (unhide HGP).2.2 _)
    have CJ := hide (join_ok M4 P4 (unhide HGP).1 (by omega) (by omega) (by omega) (by omega))
    clear hw4 M4 P4 HB HM HP2
    go_wp2_with fail
    refine (unhide CJ).mono ?_
    rintro e w5 ⟨rfl, M5, P5, _, _, B5⟩
    have CL := hide (left_any M5)
    have CQ := hide (left_any P5)
    have H5 : Hid (Below w.heap.size w w5) := hide ((unhide B4).trans (B5 _ (unhide HGP).2.1 (unhide HGP).2.2))
    have hs : limit - r + (0) = limit - r := by omega
    rw [hs] at CL
    clear M5 P5 B5 CJ B4 hs
    rcases unhide HRR with ⟨q, rfl⟩ | ⟨q, rfl⟩
    all_goals
      clear HRR
      go_wp2_with fail
      refine (unhide CL).mono ?_
      rintro e w6 ⟨rfl, rfl⟩
      go_wp2_with fail
      refine (unhide CQ).mono ?_
      rintro e w7 ⟨rfl, rfl⟩
      go_wp2_with fail
      go_ret
      exact ⟨rfl, unhide H5⟩

theorem walk (limit part n : Int) (w : World) : Calls Try.prog 5 #[.int .i64 limit, .int .i64 part, .int .i64 n] w fun e w' => e = .returned (.bool true) ∧ Below w.heap.size w w' := by
  cases h : alwB limit
  · exact walk_a _ _ _ _ h
  · cases h' : alwB part
    · exact walk_b _ _ _ _ h h'
    · by_cases e : limit ≤ part
      · exact walk_c _ _ _ limit _ h h' (.inl ⟨e, rfl⟩)
      · exact walk_c _ _ _ part _ h h' (.inr ⟨by omega, rfl⟩)

set_option maxRecDepth 100000 in
theorem lifted (os : Os) (started : os.Started) (H : Type) (enc : TypeId × Value → H) :
    ReturnsInHanded {} Try.checked os 5 .any (Rows.gasPartsSpec.pre6 enc Try.prog Try.f5 Rows.gasPartsRow.domain false) (Rows.gasPartsSpec.post enc Try.prog Try.f5 false true false false) := by
  refine returnsInHanded_of_change_sized (C := Try.checked) own started (by kernel_rfl) Try.func5
    (ChangeSpec.witness6 (enc := enc) (C := Try.checked) false ⟨#[], #[.int .i64 0, .int .i64 0, .int .i64 0], []⟩ 8 (by kernel_rfl) (by kernel_rfl) (by kernel_rfl) (by kernel_rfl)) ?_
  intro W base args ds gs before hval0 hW _ _ _
  have hval : ∀ (j : Nat) t v, Try.f5.params[j]? = some t → args[j]? = some v → Value.okWide Try.prog W .any base t v := hval0
  have hW' := hW
  obtain ⟨p, q, hA0, hV, rfl, hfz, hnd⟩ := hW
  have hA : DataW.TrodAll enc Try.prog W 0 (fun _ => true) true Try.f5.params.toList args.toList ds p := hA0
  rw [Try.params5] at hA hval
  obtain ⟨v0, vs0, d0, ds0, p0, q0, hargs, rfl, rfl, h0, r0⟩ := trodAll_cons hA
  obtain ⟨v1, vs1, d1, ds1, p1, q1, hargs1, rfl, rfl, h1, r1⟩ := trodAll_cons r0
  obtain ⟨v2, vs2, d2, ds2, p2, q2, hargs2, rfl, rfl, h2, r2⟩ := trodAll_cons r1
  obtain ⟨rfl, rfl, rfl⟩ := trodAll_nil r2
  subst hargs1 hargs2
  obtain rfl : args = #[v0, v1, v2] := by cases args; simp_all
  obtain ⟨rfl, rfl⟩ := trodVars_none hV
  obtain ⟨a0, rfl, rfl, rfl, w0⟩ := open_int Try.underlying2 (hval 0 2 v0 rfl rfl) h0
  obtain ⟨a1, rfl, rfl, rfl, w1⟩ := open_int Try.underlying2 (hval 1 2 v1 rfl rfl) h1
  obtain ⟨a2, rfl, rfl, rfl, w2⟩ := open_int Try.underlying2 (hval 2 2 v2 rfl rfl) h2
  clear hA0 hval0
  refine (walk a0 a1 a2 W).mono fun e W' ⟨he, bel⟩ => ?_
  subst he
  exact ⟨_, rfl, _, _, _, [], _, [], hW', trodAll_mk1 (shut_bool Try.underlying4 _), (trodAll_cons_mk (shut_int Try.underlying2 w0) (trodAll_cons_mk (shut_int Try.underlying2 w1) (trodAll_cons_mk (shut_int Try.underlying2 w2) trodAll_mk0))), rfl, bel.frame _, fun h => by cases h⟩

theorem over : Rows.gasPartsRow.holds Try.pinned (OpenSpec.ofChange Rows.gasPartsSpec) :=
  OpenClaim.holds_of_wide 5 Try.f5 rfl rfl rfl rfl rfl rfl rfl ⟨rfl, rfl, rfl, rfl, rfl⟩ rfl rfl rfl rfl rfl (by kernel_rfl) Try.func5 (by kernel_rfl)
    (of_decide_eq_true (by kernel_rfl)) (by unfold Func.isWrapper; first | (rw [if_pos (by decide +kernel)]; kernel_rfl) | (rw [if_neg (by decide +kernel)]; exact ⟨rfl, rfl⟩))
    (fun os started H enc _ => lifted os started H enc)
end Go.Proofs.Ytmigfhigekfeeaa.gasParts

namespace Go.Proofs.Ytmigfhigekfeeaa
theorem gasParts_holds : Rows.GasPartsSaid := gasParts.over
#print axioms gasParts_holds
end Go.Proofs.Ytmigfhigekfeeaa
