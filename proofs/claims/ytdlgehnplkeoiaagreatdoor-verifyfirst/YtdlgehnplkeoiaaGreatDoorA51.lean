/-
  The walks of the document's Encode and Right of a module (layer 9); no conditions but the form's own reach.
  The walk of the document's Right of a module (layer 9); no conditions but the form's own reach.
  Layer 12, the walk of VerifyFirst: a module's fault is that which Heights tells of the first function that has one; conditions: the package's variables, the form's own reach.
-/
import Derived.Test.YtdlgehnplkeoiaaGreatDoorA48
import Derived.Test.YtdlgehnplkeoiaaGreatDoorA50
import Derived.Test.YtdlgehnplkeoiaaGreatDoorA39
import Derived.Test.YtdlgehnplkeoiaaGreatDoorA42
import Derived.Test.YtdlgehnplkeoiaaGreatDoorA46
import Derived.Test.YtdlgehnplkeoiaaGreatDoorA47
import Derived.BigQuiet
import Derived.Deep.QuietTactic
set_option linter.unusedVariables false
set_option linter.unusedSimpArgs false
namespace Go.Proofs.YtdlgehnplkeoiaaGreatDoor
open Go.RowKit
set_option linter.unusedVariables false
set_option linter.unusedSimpArgs false

def codeM (m : Md) : Int := if rightM m = true then 0 else 90
def bytesM (m : Md) : List Int := if rightM m = true then encM m else []

set_option maxRecDepth 100000 in
set_option maxHeartbeats 1000000 in
theorem encodeR_any (m : Md) (a1 a2 a3 : Option Addr) (n1 c1 n2 c2 n3 c3 B : Nat) (w : World) (hn1 : m.cs.length = n1) (hn2 : m.fs.length = n2) (hn3 : m.xs.length = n3) (h : IsM w (fun b => b < B) m a1 c1 a2 c2 a3 c3) (hB : B ≤ w.heap.size) :
    Calls Tryz.prog 20 #[.agg #[.slice a1 n1 c1, .slice a2 n2 c2, .slice a3 n3 c3]] w fun e w' => ∃ (ao : Option Addr) (len cap : Nat), e = .returned (.tuple #[.slice ao len cap, .int .i64 (codeM m)]) ∧ Row8 w' ao len cap (bytesM m) ∧ Below w.heap.size w w' ∧ (∀ a, ao = some a → w.heap.size ≤ a.block) ∧ cap ≤ maxLen := by
  obtain ⟨g, hg⟩ : ∃ g, w.heap.size = g := ⟨_, rfl⟩
  have hfit := cs_fit h.hc
  have BX := BoxN.mk' w #[.slice a1 n1 c1, .slice a2 n2 c2, .slice a3 n3 c3] 27
  obtain ⟨w1, hw1⟩ : ∃ w1, w.alloc (.cells #[.slice a1 n1 c1, .slice a2 n2 c2, .slice a3 n3 c3] 27) = w1 := ⟨_, rfl⟩
  rw [hw1] at BX
  have HS : Hid (∀ u, Below w1.heap.size w1 u → SeeM u B g m (.slice a1 n1 c1) (.slice a2 n2 c2) (.slice a3 n3 c3) a1 c1 a2 c2 a3 c3 ∧ Below w.heap.size w u) := hide (fun u hu => by
    have S1 : SeeM w1 B g m (.slice a1 n1 c1) (.slice a2 n2 c2) (.slice a3 n3 c3) a1 c1 a2 c2 a3 c3 := ⟨by rw [← hg]; exact BX.row, h.later (BX.below.mono hB), by have := BX.size; omega⟩
    exact ⟨S1.later hu, BX.below.trans (hu.mono (by have := BX.size; omega))⟩)
  obtain ⟨m0, m1, m2⟩ := row_cell3 (unhide HS w1 (Below.refl _ _)).1.box
  have CW := hide (within_any m a1 a2 a3 n1 c1 n2 c2 n3 c3 B w1 hn1 hn2 hn3 (unhide HS w1 (Below.refl _ _)).1.mod (unhide HS w1 (Below.refl _ _)).1.low)
  cases hF : formedB m with
  | false =>
    rw [hF] at CW
    have hr : rightM m = false := by unfold rightM; rw [hF]; rfl
    have e1 : codeM m = 90 := by unfold codeM; rw [hr]; rfl
    have e2 : bytesM m = [] := by unfold bytesM; rw [hr]; rfl
    rw [e1, e2]
    clear h hB BX hF hr e1 e2 hfit
    go_enter Tryz.func20, Tryz.ntmps20
    go_wp2_with fail
    refine (unhide CW).mono ?_
    rintro e u ⟨rfl, b1⟩
    have B1 := hide (unhide HS u b1).2
    clear b1 CW
    go_wp2_with fail
    go_ret2
    exact ⟨none, 0, 0, rfl, nilRow _, by first | exact unhide B1 | (rw [← hg]; exact unhide B1), (fun a e => by cases e), by unfold maxLen; omega⟩
  | true =>
    rw [hF] at CW
    have HC : Hid (∀ u, Below w1.heap.size w1 u → Calls Tryz.prog 33 #[.agg #[.slice a1 n1 c1, .slice a2 n2 c2, .slice a3 n3 c3]] u fun e w' => ∃ g c : Nat, e = .returned (.slice (some ⟨g, 0, none⟩) (encM m).length c) ∧ w'.ownsRow u.heap.size 5 1 (.slice (some ⟨g, 0, none⟩) (encM m).length c) (encM m).length ((encM m).map (Value.int .u8)) ∧ Below u.heap.size u w') := hide (fun u hu => bytesR_any m a1 a2 a3 n1 c1 n2 c2 n3 c3 B u hn1 hn2 hn3 (unhide HS u hu).1.mod (unhide HS u hu).1.low hF)
    have HSM := hide (outM_small hF hfit 3 (by omega))
    have HRT : Hid (rightM m = decide ((encM m).length ≤ 65536)) := hide (by unfold rightM; rw [hF]; rfl)
    have hlim : 0 < (encM m).length := by
      have e : (encM m).length = (outM m 2).length + (secM 2 (partsM m 2)).length := List.length_append
      have h2 : 0 < (secM 2 (partsM m 2)).length := Nat.succ_pos _
      omega
    have hfar := unhide HSM
    obtain ⟨N, hN⟩ : ∃ N, (encM m).length = N := ⟨_, rfl⟩
    have HN := hide hN
    rw [hN] at HC HRT hlim
    clear h hB BX hF hfit hN hfar
    go_enter Tryz.func20, Tryz.ntmps20
    go_wp2_with fail
    refine (unhide CW).mono ?_
    rintro e u ⟨rfl, b1⟩
    have B1 := hide b1
    obtain ⟨m0, m1, m2⟩ := row_cell3 (unhide HS u b1).1.box
    have C2 := hide (unhide HC u b1)
    clear b1 CW
    go_wp2_with fail
    refine (unhide C2).mono ?_
    rintro e u2 ⟨g2, c2', rfl, o2, b2⟩
    have H2 : Hid (u2.ownsRow u.heap.size 5 1 (.slice (some ⟨g2, 0, none⟩) N c2') N ((encM m).map (Value.int .u8)) ∧ Below w.heap.size w u2 ∧ w.heap.size ≤ g2) := hide (by
      have hb := (unhide HS u (unhide B1)).2
      refine ⟨o2, hb.trans (b2.mono hb.size), ?_⟩
      have := (o2.lt g2 rfl).1
      have := hb.size
      omega)
    clear o2 b2 C2 m0 m1 m2
    by_cases hlt : 65536 < N
    · have j1 : (65536 : Int) < (N : Int) := by omega
      have hr : rightM m = false := by rw [unhide HRT]; simp; omega
      have e1 : codeM m = 90 := by unfold codeM; rw [hr]; rfl
      have e2 : bytesM m = [] := by unfold bytesM; rw [hr]; rfl
      have E1 := hide e1
      have E2 := hide e2
      clear hr e1 e2
      go_wp2_with fail
      go_ret2
      exact ⟨none, 0, 0, by rw [unhide E1]; rfl, by rw [unhide E2]; exact nilRow _, by first | exact (unhide H2).2.1 | (rw [← hg]; exact (unhide H2).2.1), (fun a e => by cases e), by unfold maxLen; omega⟩
    · have j1 : ¬ (65536 : Int) < (N : Int) := by omega
      have hr : rightM m = true := by rw [unhide HRT]; simp; omega
      have e1 : codeM m = 0 := by unfold codeM; rw [hr]; rfl
      have e2 : bytesM m = encM m := by unfold bytesM; rw [hr]; rfl
      have E1 := hide e1
      have E2 := hide e2
      clear hr e1 e2
      go_wp2_with fail
      go_ret2
      obtain ⟨q1, q2, q3⟩ := unhide H2
      have hle : c2' ≤ maxLen := by
        obtain ⟨_, _, hv, _, _, hm⟩ := row_of q1 (unhide HSM) hlim
        cases hv
        exact hm
      exact ⟨some ⟨g2, 0, none⟩, N, c2', by rw [unhide E1]; rfl, by rw [unhide E2]; exact Row8.own q1 (unhide HSM), by first | exact q2 | (rw [← hg]; exact q2), (fun a e => by cases e; dsimp only; omega), hle⟩

end Go.Proofs.YtdlgehnplkeoiaaGreatDoor

namespace Go.Proofs.YtdlgehnplkeoiaaGreatDoor
open Go.RowKit
set_option linter.unusedVariables false
set_option linter.unusedSimpArgs false

set_option maxRecDepth 100000 in
set_option maxHeartbeats 400000 in
theorem rightR_any (m : Md) (a1 a2 a3 : Option Addr) (n1 c1 n2 c2 n3 c3 B : Nat) (w : World) (hn1 : m.cs.length = n1) (hn2 : m.fs.length = n2) (hn3 : m.xs.length = n3) (h : IsM w (fun b => b < B) m a1 c1 a2 c2 a3 c3) (hB : B ≤ w.heap.size) :
    Calls Tryz.prog 14 #[.agg #[.slice a1 n1 c1, .slice a2 n2 c2, .slice a3 n3 c3]] w fun e w' => e = .returned (.bool (rightM m)) ∧ Below w.heap.size w w' := by
  obtain ⟨g, hg⟩ : ∃ g, w.heap.size = g := ⟨_, rfl⟩
  have BX := BoxN.mk' w #[.slice a1 n1 c1, .slice a2 n2 c2, .slice a3 n3 c3] 27
  obtain ⟨w1, hw1⟩ : ∃ w1, w.alloc (.cells #[.slice a1 n1 c1, .slice a2 n2 c2, .slice a3 n3 c3] 27) = w1 := ⟨_, rfl⟩
  rw [hw1] at BX
  obtain ⟨m0, m1, m2⟩ := row_cell3 (by have := BX.row; rw [hg] at this; exact this)
  have CE := hide (encodeR_any m a1 a2 a3 n1 c1 n2 c2 n3 c3 B w1 hn1 hn2 hn3 (h.later (BX.below.mono hB)) (by have := BX.size; omega))
  have HB := hide BX
  have hR : ∃ R, rightM m = R ∧ codeM m = (if R = true then 0 else 90) := ⟨_, rfl, rfl⟩
  obtain ⟨R, hR1, hR2⟩ := hR
  rw [hR1]
  rw [hR2] at CE
  clear h hB BX hR1 hR2
  cases R with
  | true =>
    rw [if_pos rfl] at CE
    go_enter Tryz.func14, Tryz.ntmps14
    go_wp2_with fail
    refine (unhide CE).mono ?_
    rintro e u ⟨ao, len, cap, rfl, _, b1, _, _⟩
    have B1 := hide b1
    clear b1 CE
    go_wp2_with fail
    go_ret
    have hb := (unhide HB).below.trans ((unhide B1).mono (by have := (unhide HB).size; omega))
    exact ⟨rfl, by first | exact hb | (rw [← hg]; exact hb)⟩
  | false =>
    rw [if_neg (by decide)] at CE
    go_enter Tryz.func14, Tryz.ntmps14
    go_wp2_with fail
    refine (unhide CE).mono ?_
    rintro e u ⟨ao, len, cap, rfl, _, b1, _, _⟩
    have B1 := hide b1
    clear b1 CE
    go_wp2_with fail
    go_ret
    have hb := (unhide HB).below.trans ((unhide B1).mono (by have := (unhide HB).size; omega))
    exact ⟨rfl, by first | exact hb | (rw [← hg]; exact hb)⟩
end Go.Proofs.YtdlgehnplkeoiaaGreatDoor

namespace Go.Proofs.YtdlgehnplkeoiaaGreatDoor
open Go.RowKit
set_option linter.unusedVariables false
set_option linter.unusedSimpArgs false

set_option maxRecDepth 100000 in
set_option maxHeartbeats 8000000 in
theorem first_any (m : Md) (b1 : Option Addr) (n1 d1 : Nat) (b2 : Option Addr) (n2 d2 : Nat) (b3 : Option Addr) (n3 d3 : Nat) (w : World)
    (hM : IsM w (fun b => b < w.heap.size) m b1 d1 b2 d2 b3 d3) (hT : Tab2 w) (hn1 : m.cs.length = n1) (hn2 : m.fs.length = n2) (hn3 : m.xs.length = n3) (hb1 : 80 * n1 ≤ 140737488351232) (hb2 : 40 * n2 ≤ 140737488351232) (hb3 : 24 * n3 ≤ 140737488351232) :
    Calls Tryz.prog 5 #[.agg #[.slice b1 n1 d1, .slice b2 n2 d2, .slice b3 n3 d3]] w fun e w' => e = .returned (.bool true) ∧ Below w.heap.size w w' := by
  obtain ⟨G, hG⟩ : ∃ G, w.heap.size = G := ⟨_, rfl⟩
  have hbig := hT.big
  obtain ⟨w1, hw1⟩ : ∃ w1, w.alloc (.cells #[.slice b1 n1 d1, .slice b2 n2 d2, .slice b3 n3 d3] 27) = w1 := ⟨_, rfl⟩
  have z1 : w1.heap.size = G + 1 := by rw [← hw1, ← hG]; simp
  have A1 : w1.heap[G]? = some (.cells #[.slice b1 n1 d1, .slice b2 n2 d2, .slice b3 n3 d3] 27 (0, 0)) := by rw [← hw1, ← hG]; exact heap_alloc_new _ _
  have B1 : Below w.heap.size w w1 := by rw [← hw1]; exact (Below.refl _ _).alloc (Nat.le_refl _) _
  have KEEP : Hid (∀ u, Below w1.heap.size w1 u → u.heap[G]? = some (.cells #[.slice b1 n1 d1, .slice b2 n2 d2, .slice b3 n3 d3] 27 (0, 0)) ∧ IsM u (fun b => b < w.heap.size) m b1 d1 b2 d2 b3 d3 ∧ Tab2 u ∧ Below w.heap.size w u ∧ w.heap.size ≤ u.heap.size) := hide (fun u hu => by
    have bu : Below w.heap.size w u := B1.trans (hu.mono B1.size)
    exact ⟨(hu.block G (by omega)).trans A1, hM.later bu, hT.below bu, bu, bu.size⟩)
  have HCB := hide hM.cbl
  obtain ⟨k1a, k1b, k1c, k1d, k1e⟩ := unhide KEEP w1 (Below.refl _ _)
  obtain ⟨c0, c1, c2⟩ := row_cell3 k1a
  have CM := hide (moduleOf_any m b1 n1 d1 b2 n2 d2 b3 n3 d3 w.heap.size w1 k1b k1e hn1 hn2 hn3 hb1 hb2 hb3)
  have HN := hide (And.intro hn1 (And.intro hn2 hn3))
  have hn2b : n2 ≤ 140737488351232 := by omega
  clear hM hT A1 B1 hn1 hn2 hn3 k1a k1b k1c k1d k1e
  go_enter Tryz.func5, Tryz.ntmps5
  go_wp2_with fail
  refine (unhide CM).mono ?_
  rintro e w3 ⟨a1, e1, a2, e2, a3, e3, rfl, hM3, x3⟩
  have H3 := hide x3
  have hs3 := (unhide H3).size
  have CV := hide (module_any m a1 n1 e1 a2 n2 e2 a3 n3 e3 w3.heap.size w3 hM3 (Nat.le_refl _) (by omega) (unhide KEEP w3 (unhide H3)).2.2.1 (unhide HN).1 (unhide HN).2.1 (unhide HN).2.2)
  clear hM3 x3 CM c0 c1 c2 hw1
  obtain ⟨⟨fa, fb, fc⟩, hfl⟩ : ∃ fl, modF m = fl := ⟨_, rfl⟩
  rw [hfl] at CV
  simp only [fltV] at CV
  have HFL := hide hfl
  clear hfl
  go_wp2_with fail
  refine (unhide CV).mono ?_
  rintro e w4 ⟨rfl, x4⟩
  have H4 : Hid (Below w1.heap.size w1 w4) := hide ((unhide H3).trans (x4.mono (unhide H3).size))
  have hs4 := (unhide H4).size
  clear x4 CV
  go_upto_region 2 with fail
  obtain ⟨w5, hw5⟩ : ∃ w5, w4.alloc (.cells #[.int .i64 fa, .int .i64 fb, .int .i64 fc] 31) = w5 := ⟨_, rfl⟩
  obtain ⟨R, hR⟩ : ∃ R, w4.heap.size = R := ⟨_, rfl⟩
  have d5 : w5.heap[R]? = some (.cells #[.int .i64 fa, .int .i64 fb, .int .i64 fc] 31 (0, 0)) := by rw [← hw5, ← hR]; exact heap_alloc_new _ _
  have z5 : w5.heap.size = R + 1 := by rw [← hw5, ← hR]; simp
  have x5 : Below w4.heap.size w4 w5 := by rw [← hw5]; exact (Below.refl _ _).alloc (Nat.le_refl _) _
  have H5 : Hid (Below w1.heap.size w1 w5) := hide ((unhide H4).trans (x5.mono (unhide H4).size))
  rw [hw5]
  rw [hR]
  have KF : Hid (∀ u, Below w5.heap.size w5 u → u.heap[R]? = some (.cells #[.int .i64 fa, .int .i64 fb, .int .i64 fc] 31 (0, 0)) ∧ Below w1.heap.size w1 u) := hide (fun u hu => ⟨(hu.block R (by omega)).trans d5, (unhide H5).trans (hu.mono (unhide H5).size)⟩)
  clear hw5 d5 x5
  obtain ⟨k5a, k5b, k5c, k5d, k5e⟩ := unhide KEEP w5 (unhide H5)
  obtain ⟨c0, c1, c2⟩ := row_cell3 k5a
  have CR := hide (rightR_any m b1 b2 b3 n1 d1 n2 d2 n3 d3 w.heap.size w5 (unhide HN).1 (unhide HN).2.1 (unhide HN).2.2 k5b k5e)
  obtain ⟨rt, hrt⟩ : ∃ rt, rightM m = rt := ⟨_, rfl⟩
  have HR := hide hrt
  rw [hrt] at CR
  clear hrt k5a k5b k5c k5d k5e
  go_wp2_with fail
  refine (unhide CR).mono ?_
  rintro e w6 ⟨rfl, x6⟩
  have F6 := hide x6
  clear x6 CR c0 c1 c2
  have CS := hide (shown_any w6 (unhide KEEP w6 (unhide KF w6 (unhide F6)).2).2.2.1)
  go_wp2_with fail
  refine (unhide CS).mono ?_
  rintro e w7 ⟨rfl, x7⟩
  have F7 : Hid (Below w5.heap.size w5 w7) := hide ((unhide F6).trans (x7.mono (unhide F6).size))
  clear x7 CS
  obtain ⟨k7a, k7b, k7c, k7d, k7e⟩ := unhide KEEP w7 (unhide KF w7 (unhide F7)).2
  obtain ⟨c0, c1, c2⟩ := row_cell3 k7a
  cases rt with
  | false =>
    have hfl : fa = 120 ∧ fb = 0 ∧ fc = 0 := by
      have e := unhide HFL
      unfold modF at e
      rw [if_neg (by rw [unhide HR]; decide)] at e
      simp only [Prod.mk.injEq] at e
      omega
    obtain ⟨rfl, rfl, rfl⟩ := hfl
    have hhg : hgtF m 0 = ([], (120, 0, 0)) := by
      unfold hgtF
      rw [if_neg (by rw [unhide HR]; simp)]
    have CM := hide (moduleOf_any m b1 n1 d1 b2 n2 d2 b3 n3 d3 w.heap.size w7 k7b k7e (unhide HN).1 (unhide HN).2.1 (unhide HN).2.2 hb1 hb2 hb3)
    clear k7a k7b k7c k7d k7e
    go_wp2_with fail
    refine (unhide CM).mono ?_
    rintro e w8 ⟨a1', e1', a2', e2', a3', e3', rfl, hM8, x8⟩
    have F8 : Hid (Below w5.heap.size w5 w8) := hide ((unhide F7).trans (x8.mono (unhide F7).size))
    have hs8 := (unhide F8).size
    have CH := hide (heights_any m a1' n1 e1' a2' n2 e2' a3' n3 e3' w8.heap.size 0 w8 hM8 (Nat.le_refl _) (by omega) (unhide KEEP w8 (unhide KF w8 (unhide F8)).2).2.2.1 (unhide HN).1 (unhide HN).2.1 (unhide HN).2.2)
    unfold HgtR at CH
    rw [hhg] at CH
    simp only [fltV, List.length_nil] at CH
    clear hM8 x8 CM c0 c1 c2 hhg
    go_wp2_with fail
    refine (unhide CH).mono ?_
    rintro e w9 ⟨ah, ⟨ch, rfl, ho9⟩, x9⟩
    have F9 : Hid (Below w5.heap.size w5 w9) := hide ((unhide F8).trans (x9.mono (unhide F8).size))
    clear x9 CH ho9
    go_upto_region 8 with fail
    obtain ⟨wA, hwA⟩ : ∃ wA, w9.alloc (.cells #[.int .i64 120, .int .i64 0, .int .i64 0] 31) = wA := ⟨_, rfl⟩
    have dA : wA.heap[w9.heap.size]? = some (.cells #[.int .i64 120, .int .i64 0, .int .i64 0] 31 (0, 0)) := by rw [← hwA]; exact heap_alloc_new _ _
    have xA : Below w9.heap.size w9 wA := by rw [← hwA]; exact (Below.refl _ _).alloc (Nat.le_refl _) _
    have FA : Hid (Below w5.heap.size w5 wA) := hide ((unhide F9).trans (xA.mono (unhide F9).size))
    rw [hwA]
    obtain ⟨RA, hRA⟩ : ∃ RA, w9.heap.size = RA := ⟨_, rfl⟩
    rw [hRA] at dA ⊢
    obtain ⟨r0, r1, r2⟩ := row_cell3 dA
    obtain ⟨s0, s1, s2⟩ := row_cell3 (unhide KF wA (unhide FA)).1
    clear hwA dA xA
    go_wp2_with fail
    go_ret
    have hb := (unhide KEEP wA (unhide KF wA (unhide FA)).2).2.2.2.1
    exact ⟨rfl, by first | exact hb | (rw [← hG]; exact hb)⟩
  | true =>
    have hfs := right_fs (unhide HR)
    have HFS := hide hfs
    clear hfs k7a k7b k7c k7d k7e c0 c1 c2
    go_upto_region 9 with fail
    go_wp2_with fail
    go_loopw [8] (fun v8 wr => ∃ k : Nat, v8 = .int .i64 (k : Int) ∧ Hid (k ≤ n2 ∧ ∀ j, j < k → (fltF m j).1 = 0) ∧ Hid (Below w5.heap.size w5 wr)) (fun v8 _ => n2 - (intOf v8).toNat)
    case atStart => exact ⟨0, rfl, hide ⟨Nat.zero_le _, fun j h => by omega⟩, F7⟩
    case round =>
      obtain ⟨k, rfl, HK, FB⟩ := hrel
      have KR := unhide KEEP wr (unhide KF wr (unhide FB)).2
      obtain ⟨c0, c1, c2⟩ := row_cell3 KR.1
      obtain ⟨s0, s1, s2⟩ := row_cell3 (unhide KF wr (unhide FB)).1
      by_cases hk : k < n2
      · have hk1 : (k : Int) < (n2 : Int) := by omega
        have hkm : k < m.fs.length := by rw [(unhide HN).2.1]; exact hk
        obtain ⟨⟨p, l, s, tt⟩, hy⟩ : ∃ y, m.fs[k]? = some y := ⟨_, List.getElem?_eq_getElem hkm⟩
        have CM := hide (moduleOf_any m b1 n1 d1 b2 n2 d2 b3 n3 d3 w.heap.size wr KR.2.1 KR.2.2.2.2 (unhide HN).1 (unhide HN).2.1 (unhide HN).2.2 hb1 hb2 hb3)
        have hhg := hgt_right (unhide HR) hkm
        have HY := hide hy
        clear KR hy s0 s1 s2
        go_wp2_with fail
        refine (unhide CM).mono ?_
        rintro e w8 ⟨a1', e1', a2', e2', a3', e3', rfl, hM8, x8⟩
        have F8 : Hid (Below w5.heap.size w5 w8) := hide ((unhide FB).trans (x8.mono (unhide FB).size))
        have hs8 := (unhide F8).size
        have CH := hide (heights_any m a1' n1 e1' a2' n2 e2' a3' n3 e3' w8.heap.size (k : Int) w8 hM8 (Nat.le_refl _) (by omega) (unhide KEEP w8 (unhide KF w8 (unhide F8)).2).2.2.1 (unhide HN).1 (unhide HN).2.1 (unhide HN).2.2)
        unfold HgtR at CH
        rw [hhg] at CH
        simp only [] at CH
        clear hM8 x8 CM c0 c1 c2 hhg
        by_cases hz : (fltF m k).1 = 0
        · rw [flt_none hz] at CH
          simp only [fltV] at CH
          go_wp2_with fail
          refine (unhide CH).mono ?_
          rintro e w9 ⟨ah, ⟨ch, rfl, ho9⟩, x9⟩
          have F9 : Hid (Below w5.heap.size w5 w9) := hide ((unhide F8).trans (x9.mono (unhide F8).size))
          clear x9 CH ho9
          generalize (htsF m k).length = hl
          go_upto_region 13 with fail
          obtain ⟨wA, hwA⟩ : ∃ wA, w9.alloc (.cells #[.int .i64 0, .int .i64 0, .int .i64 0] 31) = wA := ⟨_, rfl⟩
          have dA : wA.heap[w9.heap.size]? = some (.cells #[.int .i64 0, .int .i64 0, .int .i64 0] 31 (0, 0)) := by rw [← hwA]; exact heap_alloc_new _ _
          have xA : Below w9.heap.size w9 wA := by rw [← hwA]; exact (Below.refl _ _).alloc (Nat.le_refl _) _
          have FA : Hid (Below w5.heap.size w5 wA) := hide ((unhide F9).trans (xA.mono (unhide F9).size))
          rw [hwA]
          obtain ⟨RA, hRA⟩ : ∃ RA, w9.heap.size = RA := ⟨_, rfl⟩
          rw [hRA] at dA ⊢
          obtain ⟨r0, r1, r2⟩ := row_cell3 dA
          clear hwA dA xA
          go_wp2_with fail
          go_roundw
          case rel =>
            refine ⟨k + 1, by go_num, hide ⟨by omega, fun j hj => ?_⟩, FA⟩
            rcases Nat.lt_or_ge j k with h | h
            · exact (unhide HK).2 j h
            · rw [show j = k by omega]
              exact hz
          case measure => simp [intOf]; omega
        · obtain ⟨c, pl, hfe, hc0, hp0, hp1, hht⟩ := flt_some (unhide HFS) (unhide HCB) (unhide HY) hz
          have hfm := first_some (unhide HR) hkm (unhide HK).2 hz
          rw [unhide HFL, hfe] at hfm
          simp only [Prod.mk.injEq] at hfm
          obtain ⟨rfl, rfl, rfl⟩ := hfm
          rw [hfe, hht] at CH
          simp only [fltV, List.length_nil] at CH
          simp only [] at hp1
          go_wp2_with fail
          refine (unhide CH).mono ?_
          rintro e w9 ⟨ah, ⟨ch, rfl, ho9⟩, x9⟩
          have F9 : Hid (Below w5.heap.size w5 w9) := hide ((unhide F8).trans (x9.mono (unhide F8).size))
          clear x9 CH ho9
          go_upto_region 13 with fail
          obtain ⟨wA, hwA⟩ : ∃ wA, w9.alloc (.cells #[.int .i64 fa, .int .i64 (k : Int), .int .i64 fc] 31) = wA := ⟨_, rfl⟩
          have dA : wA.heap[w9.heap.size]? = some (.cells #[.int .i64 fa, .int .i64 (k : Int), .int .i64 fc] 31 (0, 0)) := by rw [← hwA]; exact heap_alloc_new _ _
          have xA : Below w9.heap.size w9 wA := by rw [← hwA]; exact (Below.refl _ _).alloc (Nat.le_refl _) _
          have FA : Hid (Below w5.heap.size w5 wA) := hide ((unhide F9).trans (xA.mono (unhide F9).size))
          rw [hwA]
          obtain ⟨RA, hRA⟩ : ∃ RA, w9.heap.size = RA := ⟨_, rfl⟩
          rw [hRA] at dA ⊢
          obtain ⟨r0, r1, r2⟩ := row_cell3 dA
          obtain ⟨s0, s1, s2⟩ := row_cell3 (unhide KF wA (unhide FA)).1
          have KA := unhide KEEP wA (unhide KF wA (unhide FA)).2
          obtain ⟨c0, c1, c2⟩ := row_cell3 KA.1
          obtain ⟨ad, rfl, hab, hts, f0, f1, f2, f3⟩ := KA.2.1.func k p l s tt (unhide HY)
          have qfa : (fa == 0) = false := by simpa using hc0
          clear hwA dA xA KA f0 f1 f2
          go_upto_region 14 with fail
          go_quiet (fail)
          go_wp2_with fail
          go_ret
          have hb := (unhide KEEP wA (unhide KF wA (unhide FA)).2).2.2.2.1
          exact ⟨rfl, by first | exact below_drewN hb _ | (rw [← hG]; exact below_drewN hb _)⟩
      · have hk1 : ¬ (k : Int) < (n2 : Int) := by omega
        have hfm := first_none (unhide HR) (fun j hj => (unhide HK).2 j (by have := (unhide HN).2.1; have := (unhide HK).1; omega))
        rw [unhide HFL] at hfm
        simp only [Prod.mk.injEq] at hfm
        obtain ⟨rfl, rfl, rfl⟩ := hfm
        clear KR
        go_wp2_with fail
        go_ret
        have hb := (unhide KEEP wr (unhide KF wr (unhide FB)).2).2.2.2.1
        exact ⟨rfl, by first | exact hb | (rw [← hG]; exact hb)⟩
end Go.Proofs.YtdlgehnplkeoiaaGreatDoor
