/-
  The walk of the document's Apply, of any entries and changes; conditions: the form's own reach.
  The walk of state.Apply, of any entries and changes; conditions: the form's own reach.
-/
import Derived.Test.YtlmgiimgmjbkeaaA43
import Derived.Test.YtlmgiimgmjbkeaaA41
set_option linter.unusedVariables false
set_option linter.unusedSimpArgs false
namespace Go.Proofs.Ytlmgiimgmjbkeaa
open Go.RowKit Go.Shelf
set_option linter.unusedVariables false
set_option linter.unusedSimpArgs false

set_option maxRecDepth 100000 in
set_option maxHeartbeats 2000000 in
theorem applyR_any (es : List En) (cs : List Ch) (al bl : Option Addr) (n cl m ck B : Nat) (w : World) (hn : es.length = n) (hm : cs.length = m) (h : IsE w (fun b => b < B) es al cl) (h' : IsH w (fun b => b < B) cs bl ck) (hB : B ≤ w.heap.size) :
    Calls Try.prog 15 #[.slice al n cl, .slice bl m ck] w fun e w' => ∃ sv xs, e = .returned (.tuple #[sv, .int .i64 (codeA es cs)]) ∧ EnN w' w.heap.size sv xs ∧ xs.map enOf = applyL es cs ∧ Below w.heap.size w w' := by
  have C0 := rightRs_any es al n cl B w hn h hB
  cases hR : rightE es with
  | false =>
    have e1 : codeA es cs = 70 := by unfold codeA; rw [hR]; rfl
    have e2 : applyL es cs = [] := by unfold applyL; rw [e1]; rfl
    rw [hR] at C0
    have C1 := hide C0
    rw [e1, e2]
    clear C0 h h' hR e1 e2 hn hm
    go_enter Try.func15, Try.ntmps15
    go_wp2_with fail
    refine (unhide C1).mono ?_
    rintro e u ⟨rfl, b1⟩
    have B1 := hide b1
    clear b1 C1
    go_wp2_with fail
    go_ret2
    exact ⟨_, [], rfl, EnN.nil _ _, rfl, unhide B1⟩
  | true =>
    by_cases hmm : m ≤ 256
    · exact applyR_right es cs al bl n cl m ck B w hn hm h h' hB hR hmm
    · have e1 : codeA es cs = 73 := code_many hR (by omega)
      have e2 : applyL es cs = [] := by unfold applyL; rw [e1]; rfl
      rw [hR] at C0
      have C1 := hide C0
      rw [e1, e2]
      have j0 : (256 : Int) < (m : Int) := by omega
      clear C0 h h' hR e1 e2 hn hm
      go_enter Try.func15, Try.ntmps15
      go_wp2_with fail
      refine (unhide C1).mono ?_
      rintro e u ⟨rfl, b1⟩
      have B1 := hide b1
      clear b1 C1
      go_wp2_with fail
      go_ret2
      exact ⟨_, [], rfl, EnN.nil _ _, rfl, unhide B1⟩
end Go.Proofs.Ytlmgiimgmjbkeaa

namespace Go.Proofs.Ytlmgiimgmjbkeaa
open Go.RowKit Go.Shelf
set_option linter.unusedVariables false
set_option linter.unusedSimpArgs false

set_option maxRecDepth 100000 in
set_option maxHeartbeats 2000000 in
theorem applyE_any (es : List En) (cs : List Ch) (al bl : Option Addr) (n cl m ck B : Nat) (w : World) (hn : es.length = n) (hm : cs.length = m) (h : IsE w (fun b => b < B) es al cl) (h' : IsH w (fun b => b < B) cs bl ck) (hB : B ≤ w.heap.size) (hmb : 104 * m ≤ 140737488355328) :
    Calls Try.prog 14 #[.slice al n cl, .slice bl m ck] w fun e w' => ∃ sv xs, e = .returned (.tuple #[sv, .int .i64 (codeA es cs)]) ∧ EnN w' w.heap.size sv xs ∧ xs.map enOf = applyL es cs ∧ Below w.heap.size w w' := by
  cases hR : rightE es with
  | false =>
    have e1 : codeA es cs = 70 := by unfold codeA; rw [hR]; rfl
    have e2 : applyL es cs = [] := by unfold applyL; rw [e1]; rfl
    rw [e1, e2]
    obtain ⟨g4, hg4⟩ : ∃ g4, w.heap.size = g4 := ⟨_, rfl⟩
    obtain ⟨v1, hv1⟩ : ∃ v1, w.alloc (.cells #[.slice none 0 0] 22) = v1 := ⟨_, rfl⟩
    obtain ⟨g5, hg5⟩ : ∃ g5, v1.heap.size = g5 := ⟨_, rfl⟩
    obtain ⟨v2, hv2⟩ : ∃ v2, v1.alloc (.cells #[.int .i64 0] 26) = v2 := ⟨_, rfl⟩
    have n4 : v1.heap[g4]? = some (.cells #[.slice none 0 0] 22 (0, 0)) := by rw [← hv1, ← hg4]; exact heap_alloc_new w _
    have x1 : Below w.heap.size w v1 := by rw [← hv1]; exact (Below.refl _ _).alloc (Nat.le_refl _) _
    have n5 : v2.heap[g5]? = some (.cells #[.int .i64 0] 26 (0, 0)) := by rw [← hv2, ← hg5]; exact heap_alloc_new v1 _
    have x2 : Below v1.heap.size v1 v2 := by rw [← hv2]; exact (Below.refl _ _).alloc (Nat.le_refl _) _
    have hs1 : v1.heap.size = w.heap.size + 1 := by rw [← hv1]; simp
    have HV0 : Hid (Below w.heap.size w v2 ∧ v2.heap[g4]? = some (.cells #[.slice none 0 0] 22 (0, 0)) ∧ v2.heap[g5]? = some (.cells #[.int .i64 0] 26 (0, 0)) ∧ w.heap.size ≤ g4 ∧ w.heap.size ≤ g5 ∧ g4 ≠ g5) := hide ⟨x1.trans (x2.mono x1.size), (x2.block g4 (Array.getElem?_eq_some_iff.1 n4).1).trans n4, n5, by omega, by omega, by omega⟩
    clear n4 n5 x1 x2 hs1
    have CR := rightE_any es al n cl B v2 hn (h.later ((unhide HV0).1.mono hB)) (Nat.le_trans hB (unhide HV0).1.size)
    rw [hR] at CR
    have C1 := hide CR
    clear CR h h' hR hm hn e1 e2
    go_enter Try.func14, Try.ntmps14
    go_wp2_with fail
    refine (unhide C1).mono ?_
    rintro e u ⟨rfl, b1⟩
    obtain ⟨q1, q2, q3, q4, q5, q6⟩ := unhide HV0
    have bb := q1.trans (b1.mono q1.size)
    have r4 := (b1.block g4 (Array.getElem?_eq_some_iff.1 q2).1).trans q2
    have r5 := (b1.block g5 (Array.getElem?_eq_some_iff.1 q3).1).trans q3
    have HT := hide (two_res r4 r5 q6 (.slice none 0 0) (.int .i64 70))
    have c4 : u.cell? ⟨g4, 0, none⟩ = some (.slice none 0 0) := by rw [cell_of_row u g4 0 _ _ (0, 0) r4]; rfl
    have f4 := frozen_of_row u g4 0 _ _ r4
    have e5 : (u.setCell ⟨g4, 0, none⟩ (.slice none 0 0)).heap[g5]? = _ := (heap_setCell_other _ _ _ _ (Ne.symm q6)).trans r5
    have c5 : (u.setCell ⟨g4, 0, none⟩ (.slice none 0 0)).cell? ⟨g5, 0, none⟩ = some (.int .i64 0) := by rw [cell_of_row _ g5 0 _ _ (0, 0) e5]; rfl
    have f5 := frozen_of_row _ g5 0 _ _ e5
    have HBE : Hid (Below w.heap.size w ((u.setCell ⟨g4, 0, none⟩ (.slice none 0 0)).setCell ⟨g5, 0, none⟩ (.int .i64 70))) := hide ((bb.setCell (p := ⟨g4, 0, none⟩) q4 _).setCell (p := ⟨g5, 0, none⟩) q5 _)
    clear e5 q1 q2 q3 q4 q5 q6 r4 r5 b1 bb
    go_wp2_with fail
    obtain ⟨t4, t5, t6, t7⟩ := unhide HT
    (try simp only [Exit.inBlock, Exit.then])
    refine bodyPost_ret (ret_cc rfl _ _ g4 g5 _ _ rfl rfl (loadSE _ _ _ _ t4) (loadER _ _ _ _ t5)) rfl ?_
    exact ⟨_, [], rfl, EnN.nil _ _, rfl, unhide HBE⟩
  | true =>
    cases hS : stepsE (keysH cs) with
    | false =>
      have e1 : codeA es cs = 73 := by unfold codeA; rw [hR, hS]; rfl
      have e2 : applyL es cs = [] := by unfold applyL; rw [e1]; rfl
      rw [e1, e2]
      obtain ⟨g4, hg4⟩ : ∃ g4, w.heap.size = g4 := ⟨_, rfl⟩
      obtain ⟨v1, hv1⟩ : ∃ v1, w.alloc (.cells #[.slice none 0 0] 22) = v1 := ⟨_, rfl⟩
      obtain ⟨g5, hg5⟩ : ∃ g5, v1.heap.size = g5 := ⟨_, rfl⟩
      obtain ⟨v2, hv2⟩ : ∃ v2, v1.alloc (.cells #[.int .i64 0] 26) = v2 := ⟨_, rfl⟩
      have n4 : v1.heap[g4]? = some (.cells #[.slice none 0 0] 22 (0, 0)) := by rw [← hv1, ← hg4]; exact heap_alloc_new w _
      have x1 : Below w.heap.size w v1 := by rw [← hv1]; exact (Below.refl _ _).alloc (Nat.le_refl _) _
      have n5 : v2.heap[g5]? = some (.cells #[.int .i64 0] 26 (0, 0)) := by rw [← hv2, ← hg5]; exact heap_alloc_new v1 _
      have x2 : Below v1.heap.size v1 v2 := by rw [← hv2]; exact (Below.refl _ _).alloc (Nat.le_refl _) _
      have hs1 : v1.heap.size = w.heap.size + 1 := by rw [← hv1]; simp
      have HV0 : Hid (Below w.heap.size w v2 ∧ v2.heap[g4]? = some (.cells #[.slice none 0 0] 22 (0, 0)) ∧ v2.heap[g5]? = some (.cells #[.int .i64 0] 26 (0, 0)) ∧ w.heap.size ≤ g4 ∧ w.heap.size ≤ g5 ∧ g4 ≠ g5) := hide ⟨x1.trans (x2.mono x1.size), (x2.block g4 (Array.getElem?_eq_some_iff.1 n4).1).trans n4, n5, by omega, by omega, by omega⟩
      clear n4 n5 x1 x2 hs1
      have CR := rightE_any es al n cl B v2 hn (h.later ((unhide HV0).1.mono hB)) (Nat.le_trans hB (unhide HV0).1.size)
      rw [hR] at CR
      have C1 := hide CR
      have C2 : Hid (∀ u, Below v2.heap.size v2 u → Calls Try.prog 32 #[.slice bl m ck, .func (.func 33) #[] #[]] u fun e w' => e = .returned (.bool false) ∧ Below u.heap.size u w') := hide (fun u hu => by
        have hwu := (unhide HV0).1.trans (hu.mono (unhide HV0).1.size)
        have := risingC_any cs bl m ck B u hm (h'.later (hwu.mono hB)) (Nat.le_trans hB hwu.size)
        rw [hS] at this
        exact this)
      clear CR h h' hR hS hm hn e1 e2
      go_enter Try.func14, Try.ntmps14
      go_wp2_with fail
      refine (unhide C1).mono ?_
      rintro e u0 ⟨rfl, b0⟩
      have B0 := hide b0
      have C3 := hide (unhide C2 u0 b0)
      clear b0 C1 C2
      go_wp2_with fail
      refine (unhide C3).mono ?_
      rintro e u ⟨rfl, b1'⟩
      have b1 : Below v2.heap.size v2 u := (unhide B0).trans (b1'.mono (unhide B0).size)
      clear b1'
      obtain ⟨q1, q2, q3, q4, q5, q6⟩ := unhide HV0
      have bb := q1.trans (b1.mono q1.size)
      have r4 := (b1.block g4 (Array.getElem?_eq_some_iff.1 q2).1).trans q2
      have r5 := (b1.block g5 (Array.getElem?_eq_some_iff.1 q3).1).trans q3
      have HT := hide (two_res r4 r5 q6 (.slice none 0 0) (.int .i64 73))
      have c4 : u.cell? ⟨g4, 0, none⟩ = some (.slice none 0 0) := by rw [cell_of_row u g4 0 _ _ (0, 0) r4]; rfl
      have f4 := frozen_of_row u g4 0 _ _ r4
      have e5 : (u.setCell ⟨g4, 0, none⟩ (.slice none 0 0)).heap[g5]? = _ := (heap_setCell_other _ _ _ _ (Ne.symm q6)).trans r5
      have c5 : (u.setCell ⟨g4, 0, none⟩ (.slice none 0 0)).cell? ⟨g5, 0, none⟩ = some (.int .i64 0) := by rw [cell_of_row _ g5 0 _ _ (0, 0) e5]; rfl
      have f5 := frozen_of_row _ g5 0 _ _ e5
      have HBE : Hid (Below w.heap.size w ((u.setCell ⟨g4, 0, none⟩ (.slice none 0 0)).setCell ⟨g5, 0, none⟩ (.int .i64 73))) := hide ((bb.setCell (p := ⟨g4, 0, none⟩) q4 _).setCell (p := ⟨g5, 0, none⟩) q5 _)
      clear e5 q1 q2 q3 q4 q5 q6 r4 r5 b1 bb
      go_wp2_with fail
      obtain ⟨t4, t5, t6, t7⟩ := unhide HT
      (try simp only [Exit.inBlock, Exit.then])
      refine bodyPost_ret (ret_cc rfl _ _ g4 g5 _ _ rfl rfl (loadSE _ _ _ _ t4) (loadER _ _ _ _ t5)) rfl ?_
      exact ⟨_, [], rfl, EnN.nil _ _, rfl, unhide HBE⟩
    | true =>
      refine (applyE_right es cs al bl n cl m ck B w hn hm h h' hB hmb hR hS).mono ?_
      rintro e w' ⟨sv, xs, c, rfl, hN, hb, ha⟩
      unfold ApAns at ha
      rw [← hn, ← hm] at ha
      cases hA : apB (es.length + cs.length) es cs with
      | false =>
        rw [hA] at ha
        have e1 : codeA es cs = 73 := by unfold codeA; rw [hR, hS, hA]; rfl
        have e2 : applyL es cs = [] := by unfold applyL; rw [e1]; rfl
        obtain ⟨rfl, rfl⟩ := ha
        exact ⟨sv, [], by rw [e1], hN, by rw [e2]; rfl, hb⟩
      | true =>
        rw [hA] at ha
        cases hQ : rightE (apL (es.length + cs.length) es cs) with
        | false =>
          rw [hQ] at ha
          have e1 : codeA es cs = 73 := by unfold codeA; rw [hR, hS, hA, hQ]; rfl
          have e2 : applyL es cs = [] := by unfold applyL; rw [e1]; rfl
          obtain ⟨rfl, rfl⟩ := ha
          exact ⟨sv, [], by rw [e1], hN, by rw [e2]; rfl, hb⟩
        | true =>
          rw [hQ] at ha
          have e1 : codeA es cs = 0 := by unfold codeA; rw [hR, hS, hA, hQ]; rfl
          have e2 : applyL es cs = apL (es.length + cs.length) es cs := by unfold applyL; rw [e1]; rfl
          obtain ⟨rfl, hx⟩ := ha
          exact ⟨sv, xs, by rw [e1], hN, by rw [e2]; exact hx, hb⟩
end Go.Proofs.Ytlmgiimgmjbkeaa
