/-
  PrimCompares: one way through it; conditions: the package's variables.
-/
import Derived.Test.YtghegjmmgcnabaaGreatDoorPC2
namespace Go.Proofs.YtghegjmmgcnabaaGreatDoor
open Go.RowKit Go.Shelf
set_option linter.unusedVariables false
set_option linter.unusedSimpArgs false

set_option maxRecDepth 100000 in
set_option maxHeartbeats 8000000 in
theorem cmp_no (p0 p1 : Int) (p2 : ByteArray) (p3 : Option Addr) (p4 p5 : Nat) (p6 : Option Addr) (p7 p8 : Nat) (q0 q1 : Int) (q2 : ByteArray) (q3 : Option Addr) (q4 q5 : Nat) (q6 : Option Addr) (q7 q8 : Nat) (ce cf : Int) (T1 T2 : ByteArray) (w : World) (HC :  ¬ ce = 0 ∨ (ce = 0 ∧ ¬ cf = 0))
    (hSh : ∀ u, Below w.heap.size w u → Calls Tryz.prog 9 #[] u fun e w' => e = .returned (.bool true) ∧ Below u.heap.size u w')
    (hE1 : ∀ u, Below w.heap.size w u → Calls Tryz.prog 23 #[.agg #[.int .i64 p0, .int .i64 p1, .string p2, .slice p3 p4 p5, .slice p6 p7 p8]] u fun e w' => ∃ (ao : Option Addr) (len cap : Nat), e = .returned (.tuple #[.slice ao len cap, .int .i64 ce]) ∧ (ce = 0 → ∀ u', Below w'.heap.size w' u' → Sem.run Tryz.prog (convert 40 9 (.slice ao len cap)) u' = .ok (.string T1) u') ∧ Below u.heap.size u w')
    (hE2 : ∀ u, Below w.heap.size w u → Calls Tryz.prog 23 #[.agg #[.int .i64 q0, .int .i64 q1, .string q2, .slice q3 q4 q5, .slice q6 q7 q8]] u fun e w' => ∃ (ao : Option Addr) (len cap : Nat), e = .returned (.tuple #[.slice ao len cap, .int .i64 cf]) ∧ (cf = 0 → ∀ u', Below w'.heap.size w' u' → Sem.run Tryz.prog (convert 40 9 (.slice ao len cap)) u' = .ok (.string T2) u') ∧ Below u.heap.size u w')
    (h17 : ∀ u, Below w.heap.size w u → Calls Tryz.prog 24 #[.int .i64 17, .agg #[.int .i64 p0, .int .i64 p1, .string p2, .slice p3 p4 p5, .slice p6 p7 p8], .agg #[.int .i64 q0, .int .i64 q1, .string q2, .slice q3 q4 q5, .slice q6 q7 q8]] u fun e w' => e = .returned (.tuple #[.bool false, .bool false]) ∧ Below u.heap.size u w')
    (h18 : ∀ u, Below w.heap.size w u → Calls Tryz.prog 24 #[.int .i64 18, .agg #[.int .i64 p0, .int .i64 p1, .string p2, .slice p3 p4 p5, .slice p6 p7 p8], .agg #[.int .i64 q0, .int .i64 q1, .string q2, .slice q3 q4 q5, .slice q6 q7 q8]] u fun e w' => e = .returned (.tuple #[.bool false, .bool false]) ∧ Below u.heap.size u w')
    (h19 : ∀ u, Below w.heap.size w u → Calls Tryz.prog 24 #[.int .i64 19, .agg #[.int .i64 p0, .int .i64 p1, .string p2, .slice p3 p4 p5, .slice p6 p7 p8], .agg #[.int .i64 q0, .int .i64 q1, .string q2, .slice q3 q4 q5, .slice q6 q7 q8]] u fun e w' => e = .returned (.tuple #[.bool false, .bool false]) ∧ Below u.heap.size u w')
    (h20 : ∀ u, Below w.heap.size w u → Calls Tryz.prog 24 #[.int .i64 20, .agg #[.int .i64 p0, .int .i64 p1, .string p2, .slice p3 p4 p5, .slice p6 p7 p8], .agg #[.int .i64 q0, .int .i64 q1, .string q2, .slice q3 q4 q5, .slice q6 q7 q8]] u fun e w' => e = .returned (.tuple #[.bool false, .bool false]) ∧ Below u.heap.size u w')
    (h21 : ∀ u, Below w.heap.size w u → Calls Tryz.prog 24 #[.int .i64 21, .agg #[.int .i64 p0, .int .i64 p1, .string p2, .slice p3 p4 p5, .slice p6 p7 p8], .agg #[.int .i64 q0, .int .i64 q1, .string q2, .slice q3 q4 q5, .slice q6 q7 q8]] u fun e w' => e = .returned (.tuple #[.bool false, .bool false]) ∧ Below u.heap.size u w')
    (h22 : ∀ u, Below w.heap.size w u → Calls Tryz.prog 24 #[.int .i64 22, .agg #[.int .i64 p0, .int .i64 p1, .string p2, .slice p3 p4 p5, .slice p6 p7 p8], .agg #[.int .i64 q0, .int .i64 q1, .string q2, .slice q3 q4 q5, .slice q6 q7 q8]] u fun e w' => e = .returned (.tuple #[.bool false, .bool false]) ∧ Below u.heap.size u w')
 :
    Calls Tryz.prog 6 #[.agg #[.int .i64 p0, .int .i64 p1, .string p2, .slice p3 p4 p5, .slice p6 p7 p8], .agg #[.int .i64 q0, .int .i64 q1, .string q2, .slice q3 q4 q5, .slice q6 q7 q8]] w fun e w' => e = .returned (.bool true) ∧ Below w.heap.size w w' := by
  obtain ⟨ga, hga⟩ : ∃ g, w.heap.size = g := ⟨_, rfl⟩
  obtain ⟨v1, hv1⟩ : ∃ v1, w.alloc (.cells #[.int .i64 p0, .int .i64 p1, .string p2, .slice p3 p4 p5, .slice p6 p7 p8] 25) = v1 := ⟨_, rfl⟩
  obtain ⟨gb, hgb⟩ : ∃ g, v1.heap.size = g := ⟨_, rfl⟩
  obtain ⟨v2, hv2⟩ : ∃ v2, v1.alloc (.cells #[.int .i64 q0, .int .i64 q1, .string q2, .slice q3 q4 q5, .slice q6 q7 q8] 25) = v2 := ⟨_, rfl⟩
  have n1 : v1.heap[ga]? = some (.cells #[.int .i64 p0, .int .i64 p1, .string p2, .slice p3 p4 p5, .slice p6 p7 p8] 25 (0, 0)) := by rw [← hv1, ← hga]; exact heap_alloc_new w _
  have n2 : v2.heap[gb]? = some (.cells #[.int .i64 q0, .int .i64 q1, .string q2, .slice q3 q4 q5, .slice q6 q7 q8] 25 (0, 0)) := by rw [← hv2, ← hgb]; exact heap_alloc_new v1 _
  have b1 : Below w.heap.size w v1 := by rw [← hv1]; exact (Below.refl _ _).alloc (Nat.le_refl _) _
  have b2 : Below v1.heap.size v1 v2 := by rw [← hv2]; exact (Below.refl _ _).alloc (Nat.le_refl _) _
  have HM : Hid (Below w.heap.size w v2 ∧ v2.heap[ga]? = some (.cells #[.int .i64 p0, .int .i64 p1, .string p2, .slice p3 p4 p5, .slice p6 p7 p8] 25 (0, 0)) ∧ v2.heap[gb]? = some (.cells #[.int .i64 q0, .int .i64 q1, .string q2, .slice q3 q4 q5, .slice q6 q7 q8] 25 (0, 0))) := hide ⟨b1.trans (b2.mono b1.size), (b2.block ga (Array.getElem?_eq_some_iff.1 n1).1).trans n1, n2⟩
  have HW : Hid (∀ u, Below v2.heap.size v2 u → Below w.heap.size w u) := hide (fun u hu => (unhide HM).1.trans (hu.mono (unhide HM).1.size))
  have CS := hide (hSh v2 (unhide HM).1)
  clear n1 n2 b1 b2 hSh
  go_enter Tryz.func6, Tryz.ntmps6
  go_wp2_with fail
  refine (unhide CS).mono ?_
  rintro e u1 ⟨rfl, dd⟩
  have Du1 : Hid (Below v2.heap.size v2 u1) := hide (dd)
  have C1 := hide (hE1 u1 (unhide HW u1 (unhide Du1)))
  obtain ⟨a0, a1, a2, a3, a4⟩ := block5 (((unhide Du1).block ga (Array.getElem?_eq_some_iff.1 (unhide HM).2.1).1).trans (unhide HM).2.1)
  obtain ⟨c0, c1, c2, c3, c4⟩ := block5 (((unhide Du1).block gb (Array.getElem?_eq_some_iff.1 (unhide HM).2.2).1).trans (unhide HM).2.2)
  clear dd CS hE1
  go_wp2_with fail
  refine (unhide C1).mono ?_
  rintro e u2 ⟨ao1, ln1, cp1, rfl, hv1c, dd⟩
  have Du2 : Hid (Below v2.heap.size v2 u2) := hide ((unhide Du1).trans (dd.mono (unhide Du1).size))
  have HV1 := hide hv1c
  have C2 := hide (hE2 u2 (unhide HW u2 (unhide Du2)))
  clear hv1c C1 hE2 a0 a1 a2 a3 a4 c0 c1 c2 c3 c4
  obtain ⟨a0, a1, a2, a3, a4⟩ := block5 (((unhide Du2).block ga (Array.getElem?_eq_some_iff.1 (unhide HM).2.1).1).trans (unhide HM).2.1)
  obtain ⟨c0, c1, c2, c3, c4⟩ := block5 (((unhide Du2).block gb (Array.getElem?_eq_some_iff.1 (unhide HM).2.2).1).trans (unhide HM).2.2)
  clear dd
  go_wp2_with fail
  refine (unhide C2).mono ?_
  rintro e u3 ⟨ao2, ln2, cp2, rfl, hv2c, dd⟩
  have Du3 : Hid (Below v2.heap.size v2 u3) := hide ((unhide Du2).trans (dd.mono (unhide Du2).size))
  have HV2 := hide hv2c
  have HD3 := hide dd
  have HE3 : Hid (Below u3.heap.size u3 u3) := hide (Below.refl _ _)
  have C3 := hide (h17 u3 (unhide HW u3 (unhide Du3)))
  clear hv2c C2 h17 a0 a1 a2 a3 a4 c0 c1 c2 c3 c4
  obtain ⟨a0, a1, a2, a3, a4⟩ := block5 (((unhide Du3).block ga (Array.getElem?_eq_some_iff.1 (unhide HM).2.1).1).trans (unhide HM).2.1)
  obtain ⟨c0, c1, c2, c3, c4⟩ := block5 (((unhide Du3).block gb (Array.getElem?_eq_some_iff.1 (unhide HM).2.2).1).trans (unhide HM).2.2)
  clear dd
  go_wp2_with fail
  refine (unhide C3).mono ?_
  rintro e u4 ⟨rfl, dd⟩
  have Du4 : Hid (Below v2.heap.size v2 u4) := hide ((unhide Du3).trans (dd.mono (unhide Du3).size))
  have HE4 : Hid (Below u3.heap.size u3 u4) := hide ((unhide HE3).trans (dd.mono (unhide HE3).size))
  have HD4 : Hid (Below u2.heap.size u2 u4) := hide ((unhide HD3).trans (dd.mono (unhide HD3).size))
  clear C3 a0 a1 a2 a3 a4 c0 c1 c2 c3 c4
  have C4 := hide (h18 u4 (unhide HW u4 (unhide Du4)))
  clear h18
  obtain ⟨a0, a1, a2, a3, a4⟩ := block5 (((unhide Du4).block ga (Array.getElem?_eq_some_iff.1 (unhide HM).2.1).1).trans (unhide HM).2.1)
  obtain ⟨c0, c1, c2, c3, c4⟩ := block5 (((unhide Du4).block gb (Array.getElem?_eq_some_iff.1 (unhide HM).2.2).1).trans (unhide HM).2.2)
  clear dd
  go_wp2_with fail
  refine (unhide C4).mono ?_
  rintro e u5 ⟨rfl, dd⟩
  have Du5 : Hid (Below v2.heap.size v2 u5) := hide ((unhide Du4).trans (dd.mono (unhide Du4).size))
  have HE5 : Hid (Below u3.heap.size u3 u5) := hide ((unhide HE4).trans (dd.mono (unhide HE4).size))
  have HD5 : Hid (Below u2.heap.size u2 u5) := hide ((unhide HD4).trans (dd.mono (unhide HD4).size))
  clear C4 a0 a1 a2 a3 a4 c0 c1 c2 c3 c4
  have C5 := hide (h19 u5 (unhide HW u5 (unhide Du5)))
  clear h19
  obtain ⟨a0, a1, a2, a3, a4⟩ := block5 (((unhide Du5).block ga (Array.getElem?_eq_some_iff.1 (unhide HM).2.1).1).trans (unhide HM).2.1)
  obtain ⟨c0, c1, c2, c3, c4⟩ := block5 (((unhide Du5).block gb (Array.getElem?_eq_some_iff.1 (unhide HM).2.2).1).trans (unhide HM).2.2)
  clear dd
  go_wp2_with fail
  refine (unhide C5).mono ?_
  rintro e u6 ⟨rfl, dd⟩
  have Du6 : Hid (Below v2.heap.size v2 u6) := hide ((unhide Du5).trans (dd.mono (unhide Du5).size))
  have HE6 : Hid (Below u3.heap.size u3 u6) := hide ((unhide HE5).trans (dd.mono (unhide HE5).size))
  have HD6 : Hid (Below u2.heap.size u2 u6) := hide ((unhide HD5).trans (dd.mono (unhide HD5).size))
  clear C5 a0 a1 a2 a3 a4 c0 c1 c2 c3 c4
  have C6 := hide (h20 u6 (unhide HW u6 (unhide Du6)))
  clear h20
  obtain ⟨a0, a1, a2, a3, a4⟩ := block5 (((unhide Du6).block ga (Array.getElem?_eq_some_iff.1 (unhide HM).2.1).1).trans (unhide HM).2.1)
  obtain ⟨c0, c1, c2, c3, c4⟩ := block5 (((unhide Du6).block gb (Array.getElem?_eq_some_iff.1 (unhide HM).2.2).1).trans (unhide HM).2.2)
  clear dd
  go_wp2_with fail
  refine (unhide C6).mono ?_
  rintro e u7 ⟨rfl, dd⟩
  have Du7 : Hid (Below v2.heap.size v2 u7) := hide ((unhide Du6).trans (dd.mono (unhide Du6).size))
  have HE7 : Hid (Below u3.heap.size u3 u7) := hide ((unhide HE6).trans (dd.mono (unhide HE6).size))
  have HD7 : Hid (Below u2.heap.size u2 u7) := hide ((unhide HD6).trans (dd.mono (unhide HD6).size))
  clear C6 a0 a1 a2 a3 a4 c0 c1 c2 c3 c4
  have C7 := hide (h21 u7 (unhide HW u7 (unhide Du7)))
  clear h21
  obtain ⟨a0, a1, a2, a3, a4⟩ := block5 (((unhide Du7).block ga (Array.getElem?_eq_some_iff.1 (unhide HM).2.1).1).trans (unhide HM).2.1)
  obtain ⟨c0, c1, c2, c3, c4⟩ := block5 (((unhide Du7).block gb (Array.getElem?_eq_some_iff.1 (unhide HM).2.2).1).trans (unhide HM).2.2)
  clear dd
  go_wp2_with fail
  refine (unhide C7).mono ?_
  rintro e u8 ⟨rfl, dd⟩
  have Du8 : Hid (Below v2.heap.size v2 u8) := hide ((unhide Du7).trans (dd.mono (unhide Du7).size))
  have HE8 : Hid (Below u3.heap.size u3 u8) := hide ((unhide HE7).trans (dd.mono (unhide HE7).size))
  have HD8 : Hid (Below u2.heap.size u2 u8) := hide ((unhide HD7).trans (dd.mono (unhide HD7).size))
  clear C7 a0 a1 a2 a3 a4 c0 c1 c2 c3 c4
  have C8 := hide (h22 u8 (unhide HW u8 (unhide Du8)))
  clear h22
  obtain ⟨a0, a1, a2, a3, a4⟩ := block5 (((unhide Du8).block ga (Array.getElem?_eq_some_iff.1 (unhide HM).2.1).1).trans (unhide HM).2.1)
  obtain ⟨c0, c1, c2, c3, c4⟩ := block5 (((unhide Du8).block gb (Array.getElem?_eq_some_iff.1 (unhide HM).2.2).1).trans (unhide HM).2.2)
  clear dd
  go_wp2_with fail
  refine (unhide C8).mono ?_
  rintro e u9 ⟨rfl, dd⟩
  have Du9 : Hid (Below v2.heap.size v2 u9) := hide ((unhide Du8).trans (dd.mono (unhide Du8).size))
  have HE9 : Hid (Below u3.heap.size u3 u9) := hide ((unhide HE8).trans (dd.mono (unhide HE8).size))
  have HD9 : Hid (Below u2.heap.size u2 u9) := hide ((unhide HD8).trans (dd.mono (unhide HD8).size))
  clear C8 a0 a1 a2 a3 a4 c0 c1 c2 c3 c4
  clear dd
  obtain ⟨a0, a1, a2, a3, a4⟩ := block5 (((unhide Du9).block ga (Array.getElem?_eq_some_iff.1 (unhide HM).2.1).1).trans (unhide HM).2.1)
  obtain ⟨c0, c1, c2, c3, c4⟩ := block5 (((unhide Du9).block gb (Array.getElem?_eq_some_iff.1 (unhide HM).2.2).1).trans (unhide HM).2.2)
  rcases HC with hce | ⟨hce, hcf⟩
  · have hceb : (ce == 0) = false := beq_eq_false_iff_ne.2 hce
    go_wp2_with fail
    go_ret
    have hb := unhide HW u9 (unhide Du9)
    exact ⟨by simp, by first | exact hb | (rw [← hga]; exact hb)⟩
  · have hcfb : (cf == 0) = false := beq_eq_false_iff_ne.2 hcf
    subst hce
    go_wp2_with fail
    go_ret
    have hb := unhide HW u9 (unhide Du9)
    exact ⟨by simp, by first | exact hb | (rw [← hga]; exact hb)⟩

set_option maxRecDepth 100000 in
set_option maxHeartbeats 8000000 in
theorem cmp_z1 (p0 p1 : Int) (p2 : ByteArray) (p3 : Option Addr) (p4 p5 : Nat) (p6 : Option Addr) (p7 p8 : Nat) (q0 q1 : Int) (q2 : ByteArray) (q3 : Option Addr) (q4 q5 : Nat) (q6 : Option Addr) (q7 q8 : Nat) (ce cf : Int) (T1 T2 : ByteArray) (w : World) (HC : ce = 0 ∧ cf = 0)
    (hSh : ∀ u, Below w.heap.size w u → Calls Tryz.prog 9 #[] u fun e w' => e = .returned (.bool true) ∧ Below u.heap.size u w')
    (hE1 : ∀ u, Below w.heap.size w u → Calls Tryz.prog 23 #[.agg #[.int .i64 p0, .int .i64 p1, .string p2, .slice p3 p4 p5, .slice p6 p7 p8]] u fun e w' => ∃ (ao : Option Addr) (len cap : Nat), e = .returned (.tuple #[.slice ao len cap, .int .i64 ce]) ∧ (ce = 0 → ∀ u', Below w'.heap.size w' u' → Sem.run Tryz.prog (convert 40 9 (.slice ao len cap)) u' = .ok (.string T1) u') ∧ Below u.heap.size u w')
    (hE2 : ∀ u, Below w.heap.size w u → Calls Tryz.prog 23 #[.agg #[.int .i64 q0, .int .i64 q1, .string q2, .slice q3 q4 q5, .slice q6 q7 q8]] u fun e w' => ∃ (ao : Option Addr) (len cap : Nat), e = .returned (.tuple #[.slice ao len cap, .int .i64 cf]) ∧ (cf = 0 → ∀ u', Below w'.heap.size w' u' → Sem.run Tryz.prog (convert 40 9 (.slice ao len cap)) u' = .ok (.string T2) u') ∧ Below u.heap.size u w')
    (h17 : ∀ u, Below w.heap.size w u → Calls Tryz.prog 24 #[.int .i64 17, .agg #[.int .i64 p0, .int .i64 p1, .string p2, .slice p3 p4 p5, .slice p6 p7 p8], .agg #[.int .i64 q0, .int .i64 q1, .string q2, .slice q3 q4 q5, .slice q6 q7 q8]] u fun e w' => e = .returned (.tuple #[.bool true, .bool true]) ∧ Below u.heap.size u w')
    (h18 : ∀ u, Below w.heap.size w u → Calls Tryz.prog 24 #[.int .i64 18, .agg #[.int .i64 p0, .int .i64 p1, .string p2, .slice p3 p4 p5, .slice p6 p7 p8], .agg #[.int .i64 q0, .int .i64 q1, .string q2, .slice q3 q4 q5, .slice q6 q7 q8]] u fun e w' => e = .returned (.tuple #[.bool false, .bool true]) ∧ Below u.heap.size u w')
    (h19 : ∀ u, Below w.heap.size w u → Calls Tryz.prog 24 #[.int .i64 19, .agg #[.int .i64 p0, .int .i64 p1, .string p2, .slice p3 p4 p5, .slice p6 p7 p8], .agg #[.int .i64 q0, .int .i64 q1, .string q2, .slice q3 q4 q5, .slice q6 q7 q8]] u fun e w' => e = .returned (.tuple #[.bool false, .bool true]) ∧ Below u.heap.size u w')
    (h20 : ∀ u, Below w.heap.size w u → Calls Tryz.prog 24 #[.int .i64 20, .agg #[.int .i64 p0, .int .i64 p1, .string p2, .slice p3 p4 p5, .slice p6 p7 p8], .agg #[.int .i64 q0, .int .i64 q1, .string q2, .slice q3 q4 q5, .slice q6 q7 q8]] u fun e w' => e = .returned (.tuple #[.bool true, .bool true]) ∧ Below u.heap.size u w')
    (h21 : ∀ u, Below w.heap.size w u → Calls Tryz.prog 24 #[.int .i64 21, .agg #[.int .i64 p0, .int .i64 p1, .string p2, .slice p3 p4 p5, .slice p6 p7 p8], .agg #[.int .i64 q0, .int .i64 q1, .string q2, .slice q3 q4 q5, .slice q6 q7 q8]] u fun e w' => e = .returned (.tuple #[.bool false, .bool true]) ∧ Below u.heap.size u w')
    (h22 : ∀ u, Below w.heap.size w u → Calls Tryz.prog 24 #[.int .i64 22, .agg #[.int .i64 p0, .int .i64 p1, .string p2, .slice p3 p4 p5, .slice p6 p7 p8], .agg #[.int .i64 q0, .int .i64 q1, .string q2, .slice q3 q4 q5, .slice q6 q7 q8]] u fun e w' => e = .returned (.tuple #[.bool true, .bool true]) ∧ Below u.heap.size u w')
    (hT : (T1.toList == T2.toList) = true) (hO : p0 = q0 ∧ (p0 = 2 ∨ p0 = 3)) :
    Calls Tryz.prog 6 #[.agg #[.int .i64 p0, .int .i64 p1, .string p2, .slice p3 p4 p5, .slice p6 p7 p8], .agg #[.int .i64 q0, .int .i64 q1, .string q2, .slice q3 q4 q5, .slice q6 q7 q8]] w fun e w' => e = .returned (.bool true) ∧ Below w.heap.size w w' := by
  obtain ⟨ga, hga⟩ : ∃ g, w.heap.size = g := ⟨_, rfl⟩
  obtain ⟨v1, hv1⟩ : ∃ v1, w.alloc (.cells #[.int .i64 p0, .int .i64 p1, .string p2, .slice p3 p4 p5, .slice p6 p7 p8] 25) = v1 := ⟨_, rfl⟩
  obtain ⟨gb, hgb⟩ : ∃ g, v1.heap.size = g := ⟨_, rfl⟩
  obtain ⟨v2, hv2⟩ : ∃ v2, v1.alloc (.cells #[.int .i64 q0, .int .i64 q1, .string q2, .slice q3 q4 q5, .slice q6 q7 q8] 25) = v2 := ⟨_, rfl⟩
  have n1 : v1.heap[ga]? = some (.cells #[.int .i64 p0, .int .i64 p1, .string p2, .slice p3 p4 p5, .slice p6 p7 p8] 25 (0, 0)) := by rw [← hv1, ← hga]; exact heap_alloc_new w _
  have n2 : v2.heap[gb]? = some (.cells #[.int .i64 q0, .int .i64 q1, .string q2, .slice q3 q4 q5, .slice q6 q7 q8] 25 (0, 0)) := by rw [← hv2, ← hgb]; exact heap_alloc_new v1 _
  have b1 : Below w.heap.size w v1 := by rw [← hv1]; exact (Below.refl _ _).alloc (Nat.le_refl _) _
  have b2 : Below v1.heap.size v1 v2 := by rw [← hv2]; exact (Below.refl _ _).alloc (Nat.le_refl _) _
  have HM : Hid (Below w.heap.size w v2 ∧ v2.heap[ga]? = some (.cells #[.int .i64 p0, .int .i64 p1, .string p2, .slice p3 p4 p5, .slice p6 p7 p8] 25 (0, 0)) ∧ v2.heap[gb]? = some (.cells #[.int .i64 q0, .int .i64 q1, .string q2, .slice q3 q4 q5, .slice q6 q7 q8] 25 (0, 0))) := hide ⟨b1.trans (b2.mono b1.size), (b2.block ga (Array.getElem?_eq_some_iff.1 n1).1).trans n1, n2⟩
  have HW : Hid (∀ u, Below v2.heap.size v2 u → Below w.heap.size w u) := hide (fun u hu => (unhide HM).1.trans (hu.mono (unhide HM).1.size))
  have CS := hide (hSh v2 (unhide HM).1)
  obtain ⟨rfl, rfl⟩ := HC
  have HO := hide hO
  clear hO
  clear n1 n2 b1 b2 hSh
  go_enter Tryz.func6, Tryz.ntmps6
  go_wp2_with fail
  refine (unhide CS).mono ?_
  rintro e u1 ⟨rfl, dd⟩
  have Du1 : Hid (Below v2.heap.size v2 u1) := hide (dd)
  have C1 := hide (hE1 u1 (unhide HW u1 (unhide Du1)))
  obtain ⟨a0, a1, a2, a3, a4⟩ := block5 (((unhide Du1).block ga (Array.getElem?_eq_some_iff.1 (unhide HM).2.1).1).trans (unhide HM).2.1)
  obtain ⟨c0, c1, c2, c3, c4⟩ := block5 (((unhide Du1).block gb (Array.getElem?_eq_some_iff.1 (unhide HM).2.2).1).trans (unhide HM).2.2)
  clear dd CS hE1
  go_wp2_with fail
  refine (unhide C1).mono ?_
  rintro e u2 ⟨ao1, ln1, cp1, rfl, hv1c, dd⟩
  have Du2 : Hid (Below v2.heap.size v2 u2) := hide ((unhide Du1).trans (dd.mono (unhide Du1).size))
  have HV1 := hide hv1c
  have C2 := hide (hE2 u2 (unhide HW u2 (unhide Du2)))
  clear hv1c C1 hE2 a0 a1 a2 a3 a4 c0 c1 c2 c3 c4
  obtain ⟨a0, a1, a2, a3, a4⟩ := block5 (((unhide Du2).block ga (Array.getElem?_eq_some_iff.1 (unhide HM).2.1).1).trans (unhide HM).2.1)
  obtain ⟨c0, c1, c2, c3, c4⟩ := block5 (((unhide Du2).block gb (Array.getElem?_eq_some_iff.1 (unhide HM).2.2).1).trans (unhide HM).2.2)
  clear dd
  go_wp2_with fail
  refine (unhide C2).mono ?_
  rintro e u3 ⟨ao2, ln2, cp2, rfl, hv2c, dd⟩
  have Du3 : Hid (Below v2.heap.size v2 u3) := hide ((unhide Du2).trans (dd.mono (unhide Du2).size))
  have HV2 := hide hv2c
  have HD3 := hide dd
  have HE3 : Hid (Below u3.heap.size u3 u3) := hide (Below.refl _ _)
  have C3 := hide (h17 u3 (unhide HW u3 (unhide Du3)))
  clear hv2c C2 h17 a0 a1 a2 a3 a4 c0 c1 c2 c3 c4
  obtain ⟨a0, a1, a2, a3, a4⟩ := block5 (((unhide Du3).block ga (Array.getElem?_eq_some_iff.1 (unhide HM).2.1).1).trans (unhide HM).2.1)
  obtain ⟨c0, c1, c2, c3, c4⟩ := block5 (((unhide Du3).block gb (Array.getElem?_eq_some_iff.1 (unhide HM).2.2).1).trans (unhide HM).2.2)
  clear dd
  go_wp2_with fail
  refine (unhide C3).mono ?_
  rintro e u4 ⟨rfl, dd⟩
  have Du4 : Hid (Below v2.heap.size v2 u4) := hide ((unhide Du3).trans (dd.mono (unhide Du3).size))
  have HE4 : Hid (Below u3.heap.size u3 u4) := hide ((unhide HE3).trans (dd.mono (unhide HE3).size))
  have HD4 : Hid (Below u2.heap.size u2 u4) := hide ((unhide HD3).trans (dd.mono (unhide HD3).size))
  clear C3 a0 a1 a2 a3 a4 c0 c1 c2 c3 c4
  have C4 := hide (h18 u4 (unhide HW u4 (unhide Du4)))
  clear h18
  obtain ⟨a0, a1, a2, a3, a4⟩ := block5 (((unhide Du4).block ga (Array.getElem?_eq_some_iff.1 (unhide HM).2.1).1).trans (unhide HM).2.1)
  obtain ⟨c0, c1, c2, c3, c4⟩ := block5 (((unhide Du4).block gb (Array.getElem?_eq_some_iff.1 (unhide HM).2.2).1).trans (unhide HM).2.2)
  clear dd
  go_wp2_with fail
  refine (unhide C4).mono ?_
  rintro e u5 ⟨rfl, dd⟩
  have Du5 : Hid (Below v2.heap.size v2 u5) := hide ((unhide Du4).trans (dd.mono (unhide Du4).size))
  have HE5 : Hid (Below u3.heap.size u3 u5) := hide ((unhide HE4).trans (dd.mono (unhide HE4).size))
  have HD5 : Hid (Below u2.heap.size u2 u5) := hide ((unhide HD4).trans (dd.mono (unhide HD4).size))
  clear C4 a0 a1 a2 a3 a4 c0 c1 c2 c3 c4
  have C5 := hide (h19 u5 (unhide HW u5 (unhide Du5)))
  clear h19
  obtain ⟨a0, a1, a2, a3, a4⟩ := block5 (((unhide Du5).block ga (Array.getElem?_eq_some_iff.1 (unhide HM).2.1).1).trans (unhide HM).2.1)
  obtain ⟨c0, c1, c2, c3, c4⟩ := block5 (((unhide Du5).block gb (Array.getElem?_eq_some_iff.1 (unhide HM).2.2).1).trans (unhide HM).2.2)
  clear dd
  go_wp2_with fail
  refine (unhide C5).mono ?_
  rintro e u6 ⟨rfl, dd⟩
  have Du6 : Hid (Below v2.heap.size v2 u6) := hide ((unhide Du5).trans (dd.mono (unhide Du5).size))
  have HE6 : Hid (Below u3.heap.size u3 u6) := hide ((unhide HE5).trans (dd.mono (unhide HE5).size))
  have HD6 : Hid (Below u2.heap.size u2 u6) := hide ((unhide HD5).trans (dd.mono (unhide HD5).size))
  clear C5 a0 a1 a2 a3 a4 c0 c1 c2 c3 c4
  have C6 := hide (h20 u6 (unhide HW u6 (unhide Du6)))
  clear h20
  obtain ⟨a0, a1, a2, a3, a4⟩ := block5 (((unhide Du6).block ga (Array.getElem?_eq_some_iff.1 (unhide HM).2.1).1).trans (unhide HM).2.1)
  obtain ⟨c0, c1, c2, c3, c4⟩ := block5 (((unhide Du6).block gb (Array.getElem?_eq_some_iff.1 (unhide HM).2.2).1).trans (unhide HM).2.2)
  clear dd
  go_wp2_with fail
  refine (unhide C6).mono ?_
  rintro e u7 ⟨rfl, dd⟩
  have Du7 : Hid (Below v2.heap.size v2 u7) := hide ((unhide Du6).trans (dd.mono (unhide Du6).size))
  have HE7 : Hid (Below u3.heap.size u3 u7) := hide ((unhide HE6).trans (dd.mono (unhide HE6).size))
  have HD7 : Hid (Below u2.heap.size u2 u7) := hide ((unhide HD6).trans (dd.mono (unhide HD6).size))
  clear C6 a0 a1 a2 a3 a4 c0 c1 c2 c3 c4
  have C7 := hide (h21 u7 (unhide HW u7 (unhide Du7)))
  clear h21
  obtain ⟨a0, a1, a2, a3, a4⟩ := block5 (((unhide Du7).block ga (Array.getElem?_eq_some_iff.1 (unhide HM).2.1).1).trans (unhide HM).2.1)
  obtain ⟨c0, c1, c2, c3, c4⟩ := block5 (((unhide Du7).block gb (Array.getElem?_eq_some_iff.1 (unhide HM).2.2).1).trans (unhide HM).2.2)
  clear dd
  go_wp2_with fail
  refine (unhide C7).mono ?_
  rintro e u8 ⟨rfl, dd⟩
  have Du8 : Hid (Below v2.heap.size v2 u8) := hide ((unhide Du7).trans (dd.mono (unhide Du7).size))
  have HE8 : Hid (Below u3.heap.size u3 u8) := hide ((unhide HE7).trans (dd.mono (unhide HE7).size))
  have HD8 : Hid (Below u2.heap.size u2 u8) := hide ((unhide HD7).trans (dd.mono (unhide HD7).size))
  clear C7 a0 a1 a2 a3 a4 c0 c1 c2 c3 c4
  have C8 := hide (h22 u8 (unhide HW u8 (unhide Du8)))
  clear h22
  obtain ⟨a0, a1, a2, a3, a4⟩ := block5 (((unhide Du8).block ga (Array.getElem?_eq_some_iff.1 (unhide HM).2.1).1).trans (unhide HM).2.1)
  obtain ⟨c0, c1, c2, c3, c4⟩ := block5 (((unhide Du8).block gb (Array.getElem?_eq_some_iff.1 (unhide HM).2.2).1).trans (unhide HM).2.2)
  clear dd
  go_wp2_with fail
  refine (unhide C8).mono ?_
  rintro e u9 ⟨rfl, dd⟩
  have Du9 : Hid (Below v2.heap.size v2 u9) := hide ((unhide Du8).trans (dd.mono (unhide Du8).size))
  have HE9 : Hid (Below u3.heap.size u3 u9) := hide ((unhide HE8).trans (dd.mono (unhide HE8).size))
  have HD9 : Hid (Below u2.heap.size u2 u9) := hide ((unhide HD8).trans (dd.mono (unhide HD8).size))
  clear C8 a0 a1 a2 a3 a4 c0 c1 c2 c3 c4
  clear dd
  obtain ⟨a0, a1, a2, a3, a4⟩ := block5 (((unhide Du9).block ga (Array.getElem?_eq_some_iff.1 (unhide HM).2.1).1).trans (unhide HM).2.1)
  obtain ⟨c0, c1, c2, c3, c4⟩ := block5 (((unhide Du9).block gb (Array.getElem?_eq_some_iff.1 (unhide HM).2.2).1).trans (unhide HM).2.2)
  have CV1 := unhide HV1 (by first | rfl | trivial) u9 (unhide HD9)
  have CV2 := unhide HV2 (by first | rfl | trivial) u9 (unhide HE9)
  obtain ⟨hk, hk2⟩ := unhide HO
  subst hk
  rcases hk2 with hk2 | hk2
  · subst hk2
    go_wp2_with fail
    go_ret
    have hb := unhide HW u9 (unhide Du9)
    exact ⟨by simp, by first | exact hb | (rw [← hga]; exact hb)⟩
  · subst hk2
    go_wp2_with fail
    go_ret
    have hb := unhide HW u9 (unhide Du9)
    exact ⟨by simp, by first | exact hb | (rw [← hga]; exact hb)⟩

set_option maxRecDepth 100000 in
set_option maxHeartbeats 8000000 in
theorem cmp_z0 (p0 p1 : Int) (p2 : ByteArray) (p3 : Option Addr) (p4 p5 : Nat) (p6 : Option Addr) (p7 p8 : Nat) (q0 q1 : Int) (q2 : ByteArray) (q3 : Option Addr) (q4 q5 : Nat) (q6 : Option Addr) (q7 q8 : Nat) (ce cf : Int) (T1 T2 : ByteArray) (w : World) (HC : ce = 0 ∧ cf = 0)
    (hSh : ∀ u, Below w.heap.size w u → Calls Tryz.prog 9 #[] u fun e w' => e = .returned (.bool true) ∧ Below u.heap.size u w')
    (hE1 : ∀ u, Below w.heap.size w u → Calls Tryz.prog 23 #[.agg #[.int .i64 p0, .int .i64 p1, .string p2, .slice p3 p4 p5, .slice p6 p7 p8]] u fun e w' => ∃ (ao : Option Addr) (len cap : Nat), e = .returned (.tuple #[.slice ao len cap, .int .i64 ce]) ∧ (ce = 0 → ∀ u', Below w'.heap.size w' u' → Sem.run Tryz.prog (convert 40 9 (.slice ao len cap)) u' = .ok (.string T1) u') ∧ Below u.heap.size u w')
    (hE2 : ∀ u, Below w.heap.size w u → Calls Tryz.prog 23 #[.agg #[.int .i64 q0, .int .i64 q1, .string q2, .slice q3 q4 q5, .slice q6 q7 q8]] u fun e w' => ∃ (ao : Option Addr) (len cap : Nat), e = .returned (.tuple #[.slice ao len cap, .int .i64 cf]) ∧ (cf = 0 → ∀ u', Below w'.heap.size w' u' → Sem.run Tryz.prog (convert 40 9 (.slice ao len cap)) u' = .ok (.string T2) u') ∧ Below u.heap.size u w')
    (h17 : ∀ u, Below w.heap.size w u → Calls Tryz.prog 24 #[.int .i64 17, .agg #[.int .i64 p0, .int .i64 p1, .string p2, .slice p3 p4 p5, .slice p6 p7 p8], .agg #[.int .i64 q0, .int .i64 q1, .string q2, .slice q3 q4 q5, .slice q6 q7 q8]] u fun e w' => e = .returned (.tuple #[.bool true, .bool true]) ∧ Below u.heap.size u w')
    (h18 : ∀ u, Below w.heap.size w u → Calls Tryz.prog 24 #[.int .i64 18, .agg #[.int .i64 p0, .int .i64 p1, .string p2, .slice p3 p4 p5, .slice p6 p7 p8], .agg #[.int .i64 q0, .int .i64 q1, .string q2, .slice q3 q4 q5, .slice q6 q7 q8]] u fun e w' => e = .returned (.tuple #[.bool false, .bool true]) ∧ Below u.heap.size u w')
    (h19 : ∀ u, Below w.heap.size w u → Calls Tryz.prog 24 #[.int .i64 19, .agg #[.int .i64 p0, .int .i64 p1, .string p2, .slice p3 p4 p5, .slice p6 p7 p8], .agg #[.int .i64 q0, .int .i64 q1, .string q2, .slice q3 q4 q5, .slice q6 q7 q8]] u fun e w' => e = .returned (.tuple #[.bool false, .bool false]) ∧ Below u.heap.size u w')
    (h20 : ∀ u, Below w.heap.size w u → Calls Tryz.prog 24 #[.int .i64 20, .agg #[.int .i64 p0, .int .i64 p1, .string p2, .slice p3 p4 p5, .slice p6 p7 p8], .agg #[.int .i64 q0, .int .i64 q1, .string q2, .slice q3 q4 q5, .slice q6 q7 q8]] u fun e w' => e = .returned (.tuple #[.bool false, .bool false]) ∧ Below u.heap.size u w')
    (h21 : ∀ u, Below w.heap.size w u → Calls Tryz.prog 24 #[.int .i64 21, .agg #[.int .i64 p0, .int .i64 p1, .string p2, .slice p3 p4 p5, .slice p6 p7 p8], .agg #[.int .i64 q0, .int .i64 q1, .string q2, .slice q3 q4 q5, .slice q6 q7 q8]] u fun e w' => e = .returned (.tuple #[.bool false, .bool false]) ∧ Below u.heap.size u w')
    (h22 : ∀ u, Below w.heap.size w u → Calls Tryz.prog 24 #[.int .i64 22, .agg #[.int .i64 p0, .int .i64 p1, .string p2, .slice p3 p4 p5, .slice p6 p7 p8], .agg #[.int .i64 q0, .int .i64 q1, .string q2, .slice q3 q4 q5, .slice q6 q7 q8]] u fun e w' => e = .returned (.tuple #[.bool false, .bool false]) ∧ Below u.heap.size u w')
    (hT : (T1.toList == T2.toList) = true) (hO : ¬ (p0 = q0 ∧ (p0 = 2 ∨ p0 = 3))) :
    Calls Tryz.prog 6 #[.agg #[.int .i64 p0, .int .i64 p1, .string p2, .slice p3 p4 p5, .slice p6 p7 p8], .agg #[.int .i64 q0, .int .i64 q1, .string q2, .slice q3 q4 q5, .slice q6 q7 q8]] w fun e w' => e = .returned (.bool true) ∧ Below w.heap.size w w' := by
  obtain ⟨ga, hga⟩ : ∃ g, w.heap.size = g := ⟨_, rfl⟩
  obtain ⟨v1, hv1⟩ : ∃ v1, w.alloc (.cells #[.int .i64 p0, .int .i64 p1, .string p2, .slice p3 p4 p5, .slice p6 p7 p8] 25) = v1 := ⟨_, rfl⟩
  obtain ⟨gb, hgb⟩ : ∃ g, v1.heap.size = g := ⟨_, rfl⟩
  obtain ⟨v2, hv2⟩ : ∃ v2, v1.alloc (.cells #[.int .i64 q0, .int .i64 q1, .string q2, .slice q3 q4 q5, .slice q6 q7 q8] 25) = v2 := ⟨_, rfl⟩
  have n1 : v1.heap[ga]? = some (.cells #[.int .i64 p0, .int .i64 p1, .string p2, .slice p3 p4 p5, .slice p6 p7 p8] 25 (0, 0)) := by rw [← hv1, ← hga]; exact heap_alloc_new w _
  have n2 : v2.heap[gb]? = some (.cells #[.int .i64 q0, .int .i64 q1, .string q2, .slice q3 q4 q5, .slice q6 q7 q8] 25 (0, 0)) := by rw [← hv2, ← hgb]; exact heap_alloc_new v1 _
  have b1 : Below w.heap.size w v1 := by rw [← hv1]; exact (Below.refl _ _).alloc (Nat.le_refl _) _
  have b2 : Below v1.heap.size v1 v2 := by rw [← hv2]; exact (Below.refl _ _).alloc (Nat.le_refl _) _
  have HM : Hid (Below w.heap.size w v2 ∧ v2.heap[ga]? = some (.cells #[.int .i64 p0, .int .i64 p1, .string p2, .slice p3 p4 p5, .slice p6 p7 p8] 25 (0, 0)) ∧ v2.heap[gb]? = some (.cells #[.int .i64 q0, .int .i64 q1, .string q2, .slice q3 q4 q5, .slice q6 q7 q8] 25 (0, 0))) := hide ⟨b1.trans (b2.mono b1.size), (b2.block ga (Array.getElem?_eq_some_iff.1 n1).1).trans n1, n2⟩
  have HW : Hid (∀ u, Below v2.heap.size v2 u → Below w.heap.size w u) := hide (fun u hu => (unhide HM).1.trans (hu.mono (unhide HM).1.size))
  have CS := hide (hSh v2 (unhide HM).1)
  obtain ⟨rfl, rfl⟩ := HC
  have HO := hide hO
  clear hO
  clear n1 n2 b1 b2 hSh
  go_enter Tryz.func6, Tryz.ntmps6
  go_wp2_with fail
  refine (unhide CS).mono ?_
  rintro e u1 ⟨rfl, dd⟩
  have Du1 : Hid (Below v2.heap.size v2 u1) := hide (dd)
  have C1 := hide (hE1 u1 (unhide HW u1 (unhide Du1)))
  obtain ⟨a0, a1, a2, a3, a4⟩ := block5 (((unhide Du1).block ga (Array.getElem?_eq_some_iff.1 (unhide HM).2.1).1).trans (unhide HM).2.1)
  obtain ⟨c0, c1, c2, c3, c4⟩ := block5 (((unhide Du1).block gb (Array.getElem?_eq_some_iff.1 (unhide HM).2.2).1).trans (unhide HM).2.2)
  clear dd CS hE1
  go_wp2_with fail
  refine (unhide C1).mono ?_
  rintro e u2 ⟨ao1, ln1, cp1, rfl, hv1c, dd⟩
  have Du2 : Hid (Below v2.heap.size v2 u2) := hide ((unhide Du1).trans (dd.mono (unhide Du1).size))
  have HV1 := hide hv1c
  have C2 := hide (hE2 u2 (unhide HW u2 (unhide Du2)))
  clear hv1c C1 hE2 a0 a1 a2 a3 a4 c0 c1 c2 c3 c4
  obtain ⟨a0, a1, a2, a3, a4⟩ := block5 (((unhide Du2).block ga (Array.getElem?_eq_some_iff.1 (unhide HM).2.1).1).trans (unhide HM).2.1)
  obtain ⟨c0, c1, c2, c3, c4⟩ := block5 (((unhide Du2).block gb (Array.getElem?_eq_some_iff.1 (unhide HM).2.2).1).trans (unhide HM).2.2)
  clear dd
  go_wp2_with fail
  refine (unhide C2).mono ?_
  rintro e u3 ⟨ao2, ln2, cp2, rfl, hv2c, dd⟩
  have Du3 : Hid (Below v2.heap.size v2 u3) := hide ((unhide Du2).trans (dd.mono (unhide Du2).size))
  have HV2 := hide hv2c
  have HD3 := hide dd
  have HE3 : Hid (Below u3.heap.size u3 u3) := hide (Below.refl _ _)
  have C3 := hide (h17 u3 (unhide HW u3 (unhide Du3)))
  clear hv2c C2 h17 a0 a1 a2 a3 a4 c0 c1 c2 c3 c4
  obtain ⟨a0, a1, a2, a3, a4⟩ := block5 (((unhide Du3).block ga (Array.getElem?_eq_some_iff.1 (unhide HM).2.1).1).trans (unhide HM).2.1)
  obtain ⟨c0, c1, c2, c3, c4⟩ := block5 (((unhide Du3).block gb (Array.getElem?_eq_some_iff.1 (unhide HM).2.2).1).trans (unhide HM).2.2)
  clear dd
  go_wp2_with fail
  refine (unhide C3).mono ?_
  rintro e u4 ⟨rfl, dd⟩
  have Du4 : Hid (Below v2.heap.size v2 u4) := hide ((unhide Du3).trans (dd.mono (unhide Du3).size))
  have HE4 : Hid (Below u3.heap.size u3 u4) := hide ((unhide HE3).trans (dd.mono (unhide HE3).size))
  have HD4 : Hid (Below u2.heap.size u2 u4) := hide ((unhide HD3).trans (dd.mono (unhide HD3).size))
  clear C3 a0 a1 a2 a3 a4 c0 c1 c2 c3 c4
  have C4 := hide (h18 u4 (unhide HW u4 (unhide Du4)))
  clear h18
  obtain ⟨a0, a1, a2, a3, a4⟩ := block5 (((unhide Du4).block ga (Array.getElem?_eq_some_iff.1 (unhide HM).2.1).1).trans (unhide HM).2.1)
  obtain ⟨c0, c1, c2, c3, c4⟩ := block5 (((unhide Du4).block gb (Array.getElem?_eq_some_iff.1 (unhide HM).2.2).1).trans (unhide HM).2.2)
  clear dd
  go_wp2_with fail
  refine (unhide C4).mono ?_
  rintro e u5 ⟨rfl, dd⟩
  have Du5 : Hid (Below v2.heap.size v2 u5) := hide ((unhide Du4).trans (dd.mono (unhide Du4).size))
  have HE5 : Hid (Below u3.heap.size u3 u5) := hide ((unhide HE4).trans (dd.mono (unhide HE4).size))
  have HD5 : Hid (Below u2.heap.size u2 u5) := hide ((unhide HD4).trans (dd.mono (unhide HD4).size))
  clear C4 a0 a1 a2 a3 a4 c0 c1 c2 c3 c4
  have C5 := hide (h19 u5 (unhide HW u5 (unhide Du5)))
  clear h19
  obtain ⟨a0, a1, a2, a3, a4⟩ := block5 (((unhide Du5).block ga (Array.getElem?_eq_some_iff.1 (unhide HM).2.1).1).trans (unhide HM).2.1)
  obtain ⟨c0, c1, c2, c3, c4⟩ := block5 (((unhide Du5).block gb (Array.getElem?_eq_some_iff.1 (unhide HM).2.2).1).trans (unhide HM).2.2)
  clear dd
  go_wp2_with fail
  refine (unhide C5).mono ?_
  rintro e u6 ⟨rfl, dd⟩
  have Du6 : Hid (Below v2.heap.size v2 u6) := hide ((unhide Du5).trans (dd.mono (unhide Du5).size))
  have HE6 : Hid (Below u3.heap.size u3 u6) := hide ((unhide HE5).trans (dd.mono (unhide HE5).size))
  have HD6 : Hid (Below u2.heap.size u2 u6) := hide ((unhide HD5).trans (dd.mono (unhide HD5).size))
  clear C5 a0 a1 a2 a3 a4 c0 c1 c2 c3 c4
  have C6 := hide (h20 u6 (unhide HW u6 (unhide Du6)))
  clear h20
  obtain ⟨a0, a1, a2, a3, a4⟩ := block5 (((unhide Du6).block ga (Array.getElem?_eq_some_iff.1 (unhide HM).2.1).1).trans (unhide HM).2.1)
  obtain ⟨c0, c1, c2, c3, c4⟩ := block5 (((unhide Du6).block gb (Array.getElem?_eq_some_iff.1 (unhide HM).2.2).1).trans (unhide HM).2.2)
  clear dd
  go_wp2_with fail
  refine (unhide C6).mono ?_
  rintro e u7 ⟨rfl, dd⟩
  have Du7 : Hid (Below v2.heap.size v2 u7) := hide ((unhide Du6).trans (dd.mono (unhide Du6).size))
  have HE7 : Hid (Below u3.heap.size u3 u7) := hide ((unhide HE6).trans (dd.mono (unhide HE6).size))
  have HD7 : Hid (Below u2.heap.size u2 u7) := hide ((unhide HD6).trans (dd.mono (unhide HD6).size))
  clear C6 a0 a1 a2 a3 a4 c0 c1 c2 c3 c4
  have C7 := hide (h21 u7 (unhide HW u7 (unhide Du7)))
  clear h21
  obtain ⟨a0, a1, a2, a3, a4⟩ := block5 (((unhide Du7).block ga (Array.getElem?_eq_some_iff.1 (unhide HM).2.1).1).trans (unhide HM).2.1)
  obtain ⟨c0, c1, c2, c3, c4⟩ := block5 (((unhide Du7).block gb (Array.getElem?_eq_some_iff.1 (unhide HM).2.2).1).trans (unhide HM).2.2)
  clear dd
  go_wp2_with fail
  refine (unhide C7).mono ?_
  rintro e u8 ⟨rfl, dd⟩
  have Du8 : Hid (Below v2.heap.size v2 u8) := hide ((unhide Du7).trans (dd.mono (unhide Du7).size))
  have HE8 : Hid (Below u3.heap.size u3 u8) := hide ((unhide HE7).trans (dd.mono (unhide HE7).size))
  have HD8 : Hid (Below u2.heap.size u2 u8) := hide ((unhide HD7).trans (dd.mono (unhide HD7).size))
  clear C7 a0 a1 a2 a3 a4 c0 c1 c2 c3 c4
  have C8 := hide (h22 u8 (unhide HW u8 (unhide Du8)))
  clear h22
  obtain ⟨a0, a1, a2, a3, a4⟩ := block5 (((unhide Du8).block ga (Array.getElem?_eq_some_iff.1 (unhide HM).2.1).1).trans (unhide HM).2.1)
  obtain ⟨c0, c1, c2, c3, c4⟩ := block5 (((unhide Du8).block gb (Array.getElem?_eq_some_iff.1 (unhide HM).2.2).1).trans (unhide HM).2.2)
  clear dd
  go_wp2_with fail
  refine (unhide C8).mono ?_
  rintro e u9 ⟨rfl, dd⟩
  have Du9 : Hid (Below v2.heap.size v2 u9) := hide ((unhide Du8).trans (dd.mono (unhide Du8).size))
  have HE9 : Hid (Below u3.heap.size u3 u9) := hide ((unhide HE8).trans (dd.mono (unhide HE8).size))
  have HD9 : Hid (Below u2.heap.size u2 u9) := hide ((unhide HD8).trans (dd.mono (unhide HD8).size))
  clear C8 a0 a1 a2 a3 a4 c0 c1 c2 c3 c4
  clear dd
  obtain ⟨a0, a1, a2, a3, a4⟩ := block5 (((unhide Du9).block ga (Array.getElem?_eq_some_iff.1 (unhide HM).2.1).1).trans (unhide HM).2.1)
  obtain ⟨c0, c1, c2, c3, c4⟩ := block5 (((unhide Du9).block gb (Array.getElem?_eq_some_iff.1 (unhide HM).2.2).1).trans (unhide HM).2.2)
  have CV1 := unhide HV1 (by first | rfl | trivial) u9 (unhide HD9)
  have CV2 := unhide HV2 (by first | rfl | trivial) u9 (unhide HE9)
  by_cases hk : p0 = q0
  · subst hk
    have m2 : ¬ p0 = 2 := fun e => unhide HO ⟨rfl, Or.inl e⟩
    have m3 : ¬ p0 = 3 := fun e => unhide HO ⟨rfl, Or.inr e⟩
    have n2 : (p0 == 2) = false := beq_eq_false_iff_ne.2 m2
    have n3 : (p0 == 3) = false := beq_eq_false_iff_ne.2 m3
    go_wp2_with fail
    go_ret
    have hb := unhide HW u9 (unhide Du9)
    exact ⟨by simp, by first | exact hb | (rw [← hga]; exact hb)⟩
  · have hkb : (p0 == q0) = false := beq_eq_false_iff_ne.2 hk
    go_wp2_with fail
    go_ret
    have hb := unhide HW u9 (unhide Du9)
    exact ⟨by simp, by first | exact hb | (rw [← hga]; exact hb)⟩
end Go.Proofs.YtghegjmmgcnabaaGreatDoor
