/-
  The walks of the document's Encode and Right of a module (layer 9); no conditions but the form's own reach.
  The walk of the document's Right of a module (layer 9); no conditions but the form's own reach.
  Layer 12, the document's own Module and Heights; conditions: the form's own reach.
-/
import Derived.Test.YtcknoeepdjhnoaaGreatDoorH43
import Derived.Test.YtcknoeepdjhnoaaGreatDoorH45
import Derived.Test.YtcknoeepdjhnoaaGreatDoorH32
import Derived.Test.YtcknoeepdjhnoaaGreatDoorH42
import Derived.Test.YtcknoeepdjhnoaaGreatDoorH34
set_option linter.unusedVariables false
set_option linter.unusedSimpArgs false
namespace Go.Proofs.YtcknoeepdjhnoaaGreatDoor
open Go.RowKit
set_option linter.unusedVariables false
set_option linter.unusedSimpArgs false

def codeM (m : Md) : Int := if rightM m = true then 0 else 90
def bytesM (m : Md) : List Int := if rightM m = true then encM m else []

set_option maxRecDepth 100000 in
set_option maxHeartbeats 1000000 in
theorem encodeR_any (m : Md) (a1 a2 a3 : Option Addr) (n1 c1 n2 c2 n3 c3 B : Nat) (w : World) (hn1 : m.cs.length = n1) (hn2 : m.fs.length = n2) (hn3 : m.xs.length = n3) (h : IsM w (fun b => b < B) m a1 c1 a2 c2 a3 c3) (hB : B ≤ w.heap.size) :
    Calls Tryz.prog 24 #[.agg #[.slice a1 n1 c1, .slice a2 n2 c2, .slice a3 n3 c3]] w fun e w' => ∃ (ao : Option Addr) (len cap : Nat), e = .returned (.tuple #[.slice ao len cap, .int .i64 (codeM m)]) ∧ Row8 w' ao len cap (bytesM m) ∧ Below w.heap.size w w' ∧ (∀ a, ao = some a → w.heap.size ≤ a.block) ∧ cap ≤ maxLen := by
  obtain ⟨g, hg⟩ : ∃ g, w.heap.size = g := ⟨_, rfl⟩
  have hfit := cs_fit h.hc
  have BX := BoxN.mk' w #[.slice a1 n1 c1, .slice a2 n2 c2, .slice a3 n3 c3] 27
  obtain ⟨w1, hw1⟩ : ∃ w1, w.alloc (.cells #[.slice a1 n1 c1, .slice a2 n2 c2, .slice a3 n3 c3] 27) = w1 := ⟨_, rfl⟩
  rw [hw1] at BX
  have HS : Hid (∀ u, Below w1.heap.size w1 u → SeeM u B g m (.slice a1 n1 c1) (.slice a2 n2 c2) (.slice a3 n3 c3) a1 c1 a2 c2 a3 c3 ∧ Below w.heap.size w u) := hide (fun u hu => by
    have S1 : SeeM w1 B g m (.slice a1 n1 c1) (.slice a2 n2 c2) (.slice a3 n3 c3) a1 c1 a2 c2 a3 c3 := ⟨by rw [← hg]; exact BX.row, h.later (BX.below.mono hB), by have := BX.size; omega⟩
    exact ⟨S1.later hu, BX.below.trans (hu.mono (by have := BX.size; omega))⟩)
  obtain ⟨m0, m1, m2⟩ := row_cell3 (unhide HS w1 (Below.refl _ _)).1.box
  have CW := hide (within_any m a1 a2 a3 n1 c1 n2 c2 n3 c3 B w1 hn1 hn2 hn3 (unhide HS w1 (Below.refl _ _)).1.mod (unhide HS w1 (Below.refl _ _)).1.low)
  cases hF : formedB m with
  | false =>
    rw [hF] at CW
    have hr : rightM m = false := by unfold rightM; rw [hF]; rfl
    have e1 : codeM m = 90 := by unfold codeM; rw [hr]; rfl
    have e2 : bytesM m = [] := by unfold bytesM; rw [hr]; rfl
    rw [e1, e2]
    clear h hB BX hF hr e1 e2 hfit
    go_enter Tryz.func24, Tryz.ntmps24
    go_wp2_with fail
    refine (unhide CW).mono ?_
    rintro e u ⟨rfl, b1⟩
    have B1 := hide (unhide HS u b1).2
    clear b1 CW
    go_wp2_with fail
    go_ret2
    exact ⟨none, 0, 0, rfl, nilRow _, by first | exact unhide B1 | (rw [← hg]; exact unhide B1), (fun a e => by cases e), by unfold maxLen; omega⟩
  | true =>
    rw [hF] at CW
    have HC : Hid (∀ u, Below w1.heap.size w1 u → Calls Tryz.prog 43 #[.agg #[.slice a1 n1 c1, .slice a2 n2 c2, .slice a3 n3 c3]] u fun e w' => ∃ g c : Nat, e = .returned (.slice (some ⟨g, 0, none⟩) (encM m).length c) ∧ w'.ownsRow u.heap.size 5 1 (.slice (some ⟨g, 0, none⟩) (encM m).length c) (encM m).length ((encM m).map (Value.int .u8)) ∧ Below u.heap.size u w') := hide (fun u hu => bytesR_any m a1 a2 a3 n1 c1 n2 c2 n3 c3 B u hn1 hn2 hn3 (unhide HS u hu).1.mod (unhide HS u hu).1.low hF)
    have HSM := hide (outM_small hF hfit 3 (by omega))
    have HRT : Hid (rightM m = decide ((encM m).length ≤ 65536)) := hide (by unfold rightM; rw [hF]; rfl)
    have hlim : 0 < (encM m).length := by
      have e : (encM m).length = (outM m 2).length + (secM 2 (partsM m 2)).length := List.length_append
      have h2 : 0 < (secM 2 (partsM m 2)).length := Nat.succ_pos _
      omega
    have hfar := unhide HSM
    obtain ⟨N, hN⟩ : ∃ N, (encM m).length = N := ⟨_, rfl⟩
    have HN := hide hN
    rw [hN] at HC HRT hlim
    clear h hB BX hF hfit hN hfar
    go_enter Tryz.func24, Tryz.ntmps24
    go_wp2_with fail
    refine (unhide CW).mono ?_
    rintro e u ⟨rfl, b1⟩
    have B1 := hide b1
    obtain ⟨m0, m1, m2⟩ := row_cell3 (unhide HS u b1).1.box
    have C2 := hide (unhide HC u b1)
    clear b1 CW
    go_wp2_with fail
    refine (unhide C2).mono ?_
    rintro e u2 ⟨g2, c2', rfl, o2, b2⟩
    have H2 : Hid (u2.ownsRow u.heap.size 5 1 (.slice (some ⟨g2, 0, none⟩) N c2') N ((encM m).map (Value.int .u8)) ∧ Below w.heap.size w u2 ∧ w.heap.size ≤ g2) := hide (by
      have hb := (unhide HS u (unhide B1)).2
      refine ⟨o2, hb.trans (b2.mono hb.size), ?_⟩
      have := (o2.lt g2 rfl).1
      have := hb.size
      omega)
    clear o2 b2 C2 m0 m1 m2
    by_cases hlt : 65536 < N
    · have j1 : (65536 : Int) < (N : Int) := by omega
      have hr : rightM m = false := by rw [unhide HRT]; simp; omega
      have e1 : codeM m = 90 := by unfold codeM; rw [hr]; rfl
      have e2 : bytesM m = [] := by unfold bytesM; rw [hr]; rfl
      have E1 := hide e1
      have E2 := hide e2
      clear hr e1 e2
      go_wp2_with fail
      go_ret2
      exact ⟨none, 0, 0, by rw [unhide E1]; rfl, by rw [unhide E2]; exact nilRow _, by first | exact (unhide H2).2.1 | (rw [← hg]; exact (unhide H2).2.1), (fun a e => by cases e), by unfold maxLen; omega⟩
    · have j1 : ¬ (65536 : Int) < (N : Int) := by omega
      have hr : rightM m = true := by rw [unhide HRT]; simp; omega
      have e1 : codeM m = 0 := by unfold codeM; rw [hr]; rfl
      have e2 : bytesM m = encM m := by unfold bytesM; rw [hr]; rfl
      have E1 := hide e1
      have E2 := hide e2
      clear hr e1 e2
      go_wp2_with fail
      go_ret2
      obtain ⟨q1, q2, q3⟩ := unhide H2
      have hle : c2' ≤ maxLen := by
        obtain ⟨_, _, hv, _, _, hm⟩ := row_of q1 (unhide HSM) hlim
        cases hv
        exact hm
      exact ⟨some ⟨g2, 0, none⟩, N, c2', by rw [unhide E1]; rfl, by rw [unhide E2]; exact Row8.own q1 (unhide HSM), by first | exact q2 | (rw [← hg]; exact q2), (fun a e => by cases e; dsimp only; omega), hle⟩

end Go.Proofs.YtcknoeepdjhnoaaGreatDoor

namespace Go.Proofs.YtcknoeepdjhnoaaGreatDoor
open Go.RowKit
set_option linter.unusedVariables false
set_option linter.unusedSimpArgs false

set_option maxRecDepth 100000 in
set_option maxHeartbeats 400000 in
theorem rightR_any (m : Md) (a1 a2 a3 : Option Addr) (n1 c1 n2 c2 n3 c3 B : Nat) (w : World) (hn1 : m.cs.length = n1) (hn2 : m.fs.length = n2) (hn3 : m.xs.length = n3) (h : IsM w (fun b => b < B) m a1 c1 a2 c2 a3 c3) (hB : B ≤ w.heap.size) :
    Calls Tryz.prog 15 #[.agg #[.slice a1 n1 c1, .slice a2 n2 c2, .slice a3 n3 c3]] w fun e w' => e = .returned (.bool (rightM m)) ∧ Below w.heap.size w w' := by
  obtain ⟨g, hg⟩ : ∃ g, w.heap.size = g := ⟨_, rfl⟩
  have BX := BoxN.mk' w #[.slice a1 n1 c1, .slice a2 n2 c2, .slice a3 n3 c3] 27
  obtain ⟨w1, hw1⟩ : ∃ w1, w.alloc (.cells #[.slice a1 n1 c1, .slice a2 n2 c2, .slice a3 n3 c3] 27) = w1 := ⟨_, rfl⟩
  rw [hw1] at BX
  obtain ⟨m0, m1, m2⟩ := row_cell3 (by have := BX.row; rw [hg] at this; exact this)
  have CE := hide (encodeR_any m a1 a2 a3 n1 c1 n2 c2 n3 c3 B w1 hn1 hn2 hn3 (h.later (BX.below.mono hB)) (by have := BX.size; omega))
  have HB := hide BX
  have hR : ∃ R, rightM m = R ∧ codeM m = (if R = true then 0 else 90) := ⟨_, rfl, rfl⟩
  obtain ⟨R, hR1, hR2⟩ := hR
  rw [hR1]
  rw [hR2] at CE
  clear h hB BX hR1 hR2
  cases R with
  | true =>
    rw [if_pos rfl] at CE
    go_enter Tryz.func15, Tryz.ntmps15
    go_wp2_with fail
    refine (unhide CE).mono ?_
    rintro e u ⟨ao, len, cap, rfl, _, b1, _, _⟩
    have B1 := hide b1
    clear b1 CE
    go_wp2_with fail
    go_ret
    have hb := (unhide HB).below.trans ((unhide B1).mono (by have := (unhide HB).size; omega))
    exact ⟨rfl, by first | exact hb | (rw [← hg]; exact hb)⟩
  | false =>
    rw [if_neg (by decide)] at CE
    go_enter Tryz.func15, Tryz.ntmps15
    go_wp2_with fail
    refine (unhide CE).mono ?_
    rintro e u ⟨ao, len, cap, rfl, _, b1, _, _⟩
    have B1 := hide b1
    clear b1 CE
    go_wp2_with fail
    go_ret
    have hb := (unhide HB).below.trans ((unhide B1).mono (by have := (unhide HB).size; omega))
    exact ⟨rfl, by first | exact hb | (rw [← hg]; exact hb)⟩
end Go.Proofs.YtcknoeepdjhnoaaGreatDoor

namespace Go.Proofs.YtcknoeepdjhnoaaGreatDoor
open Go.RowKit
set_option linter.unusedVariables false
set_option linter.unusedSimpArgs false

set_option maxRecDepth 100000 in
set_option maxHeartbeats 4000000 in
theorem heightsK_any (m : Md) (b1 : Option Addr) (n1 d1 : Nat) (b2 : Option Addr) (n2 d2 : Nat) (b3 : Option Addr) (n3 d3 : Nat) (B : Nat) (f : Int) (w : World)
    (hM : IsM w (fun b => b < B) m b1 d1 b2 d2 b3 d3) (hB : B ≤ w.heap.size) (hn1 : m.cs.length = n1) (hn2 : m.fs.length = n2) (hn3 : m.xs.length = n3) :
    Calls Tryz.prog 11 #[.agg #[.slice b1 n1 d1, .slice b2 n2 d2, .slice b3 n3 d3], .int .i64 f] w fun e w' => HgtR w w' m f e := by
  obtain ⟨G, hG⟩ : ∃ G, w.heap.size = G := ⟨_, rfl⟩
  obtain ⟨w1, hw1⟩ : ∃ w1, w.alloc (.cells #[.slice b1 n1 d1, .slice b2 n2 d2, .slice b3 n3 d3] 27) = w1 := ⟨_, rfl⟩
  have z1 : w1.heap.size = G + 1 := by rw [← hw1, ← hG]; simp
  have A1 : w1.heap[G]? = some (.cells #[.slice b1 n1 d1, .slice b2 n2 d2, .slice b3 n3 d3] 27 (0, 0)) := by rw [← hw1, ← hG]; exact heap_alloc_new _ _
  have B1 : Below w.heap.size w w1 := by rw [← hw1]; exact (Below.refl _ _).alloc (Nat.le_refl _) _
  obtain ⟨w2, hw2⟩ : ∃ w2, w1.alloc (.cells #[.int .i64 0, .int .i64 0, .int .i64 0] 31) = w2 := ⟨_, rfl⟩
  have z2 : w2.heap.size = G + 2 := by rw [← hw2]; simp; omega
  have A2 : w2.heap[G + 1]? = some (.cells #[.int .i64 0, .int .i64 0, .int .i64 0] 31 (0, 0)) := by rw [← hw2, ← z1]; exact heap_alloc_new _ _
  have B2 : Below w1.heap.size w1 w2 := by rw [← hw2]; exact (Below.refl _ _).alloc (Nat.le_refl _) _
  have BW : Below w.heap.size w w2 := B1.trans (B2.mono B1.size)
  have A1' : w2.heap[G]? = some (.cells #[.slice b1 n1 d1, .slice b2 n2 d2, .slice b3 n3 d3] 27 (0, 0)) := (B2.block G (by omega)).trans A1
  obtain ⟨c0, c1, c2⟩ := row_cell3 A1'
  have CR := hide (rightR_any m b1 b2 b3 n1 d1 n2 d2 n3 d3 B w2 hn1 hn2 hn3 (hM.later (BW.mono hB)) (Nat.le_trans hB BW.size))
  have hn2b : n2 ≤ 140737488351232 := by have := hM.len.2.1; omega
  obtain ⟨⟨RL, RF⟩, hR⟩ : ∃ R, hgtF m f = R := ⟨_, rfl⟩
  obtain ⟨r, hr⟩ : ∃ r, rightM m = r := ⟨_, rfl⟩
  have hR' := hR
  unfold hgtF at hR'
  rw [hr, hn2] at hR'
  rw [hr] at CR
  unfold HgtR
  rw [hR]
  simp only []
  have HW := hide (And.intro A1' (And.intro A2 BW))
  have HM := hide (And.intro hM (And.intro hB (And.intro hn1 hn2)))
  have HR := hide (And.intro hR' hr)
  clear hM hR hR' hr A1 A2 B1 B2 BW A1' hn1 hn2 hn3
  go_enter Tryz.func11, Tryz.ntmps11
  go_wp2_with fail
  refine (unhide CR).mono ?_
  rintro e w3 ⟨rfl, b3'⟩
  have H3 : Hid (Below w2.heap.size w2 w3) := hide b3'
  have F3 : Hid (w3.heap[G + 1]? = some (.cells #[.int .i64 0, .int .i64 0, .int .i64 0] 31 (0, 0))) := hide ((b3'.block _ (by omega)).trans (unhide HW).2.1)
  have X3 : Hid (Below w.heap.size w w3) := hide ((unhide HW).2.2.trans (b3'.mono (unhide HW).2.2.size))
  have A3 : Hid (w3.heap[G]? = some (.cells #[.slice b1 n1 d1, .slice b2 n2 d2, .slice b3 n3 d3] 27 (0, 0))) := hide ((b3'.block _ (by omega)).trans (unhide HW).1)
  have s3 := b3'.size
  clear b3' CR c0 c1 c2
  by_cases hbad : ¬ (r = true ∧ 0 ≤ f ∧ f < (n2 : Int))
  · have HE : Hid (RL = [] ∧ RF = (120, 0, 0)) := hide (by
      have := (unhide HR).1
      rw [if_neg hbad] at this
      cases this
      exact ⟨rfl, rfl⟩)
    obtain ⟨m0, m1, m2⟩ := row_cell3 (unhide A3)
    obtain ⟨q0, q1, q2⟩ := row_cell3 (unhide F3)
    have y0 := frozen_of_row w3 (G + 1) 0 _ _ (unhide F3)
    have y1 := frozen_of_row w3 (G + 1) 1 _ _ (unhide F3)
    have y2 := frozen_of_row w3 (G + 1) 2 _ _ (unhide F3)
    have FIN : Hid (∃ ao, (∃ cap, Ending.returned (.tuple #[.slice none 0 0, .agg #[.int .i64 120, .int .i64 0, .int .i64 0]]) = .returned (.tuple #[.slice ao RL.length cap, .agg (fltV RF)]) ∧ (((w3.setCell ⟨G + 1, 0, none⟩ (.int .i64 120)).setCell ⟨G + 1, 1, none⟩ (.int .i64 0)).setCell ⟨G + 1, 2, none⟩ (.int .i64 0)).ownsRow w.heap.size 3 1 (.slice ao RL.length cap) RL.length (RL.map (Value.int .i64))) ∧ Below w.heap.size w (((w3.setCell ⟨G + 1, 0, none⟩ (.int .i64 120)).setCell ⟨G + 1, 1, none⟩ (.int .i64 0)).setCell ⟨G + 1, 2, none⟩ (.int .i64 0))) := hide (by
      refine ⟨none, ⟨0, ?_, ?_⟩, set3_below (unhide X3) (by omega) _ _ _⟩
      · rw [(unhide HE).1, (unhide HE).2]; rfl
      · rw [(unhide HE).1]; exact World.ownsRow_nil _ _ _ _)
    cases r with
    | false =>
      go_wp2_with fail
      exact bodyPost_ret (ret_tc (p := 5) (u := 4) (T := 31) rfl _ _ (G + 1) _ _ _ rfl (set3 (unhide F3) _ _ _) Tryz.underlying31 rfl size_flt) rfl (unhide FIN)
    | true =>
      by_cases hf0 : f < 0
      · go_wp2_with fail
        exact bodyPost_ret (ret_tc (p := 5) (u := 4) (T := 31) rfl _ _ (G + 1) _ _ _ rfl (set3 (unhide F3) _ _ _) Tryz.underlying31 rfl size_flt) rfl (unhide FIN)
      · have hf1 : (n2 : Int) ≤ f := by
          rcases Int.lt_or_le f (n2 : Int) with h | h
          · exact absurd ⟨rfl, by omega, h⟩ hbad
          · exact h
        clear hbad
        go_wp2_with fail
        exact bodyPost_ret (ret_tc (p := 5) (u := 4) (T := 31) rfl _ _ (G + 1) _ _ _ rfl (set3 (unhide F3) _ _ _) Tryz.underlying31 rfl size_flt) rfl (unhide FIN)
  · have hgood : r = true ∧ 0 ≤ f ∧ f < (n2 : Int) := Classical.byContradiction hbad
    obtain ⟨rfl, hf0, hf1⟩ := hgood
    obtain ⟨k, rfl⟩ : ∃ k : Nat, f = (k : Int) := ⟨f.toNat, by omega⟩
    clear hbad
    have HE : Hid (htsF m k = RL ∧ fltF m k = RF) := hide (by
      have := (unhide HR).1
      rw [if_pos ⟨rfl, hf0, hf1⟩, Int.toNat_natCast] at this
      cases this
      exact ⟨rfl, rfl⟩)
    obtain ⟨hM, hB, hn1, hn2⟩ := unhide HM
    obtain ⟨⟨p, l, s, tt⟩, hy⟩ : ∃ y, m.fs[k]? = some y := ⟨_, List.getElem?_eq_getElem (by omega)⟩
    have CL := hide (functionK_any m b1 n1 d1 b2 n2 d2 b3 n3 d3 B k p l s tt w3 (hM.later ((unhide X3).mono hB)) (Nat.le_trans hB (unhide X3).size) hn1 hn2 hy (right_fs (unhide HR).2))
    unfold FunR at CL
    rw [(unhide HE).1, (unhide HE).2] at CL
    obtain ⟨fa, fb, fc⟩ := RF
    simp only [fltV] at CL
    obtain ⟨m0, m1, m2⟩ := row_cell3 (unhide A3)
    clear hM hB hn1 hn2 hy
    go_wp2_with fail
    refine (unhide CL).mono ?_
    rintro e w5 ⟨ao, ⟨cap, rfl, ho⟩, b5⟩
    have H5 := hide b5
    have HO := hide ho
    have F5 : Hid (w5.heap[G + 1]? = some (.cells #[.int .i64 0, .int .i64 0, .int .i64 0] 31 (0, 0))) := hide ((b5.block _ (by omega)).trans (unhide F3))
    have X5 : Hid (Below w.heap.size w w5) := hide ((unhide X3).trans (b5.mono (unhide X3).size))
    obtain ⟨q0, q1, q2⟩ := row_cell3 (unhide F5)
    have y0 := frozen_of_row w5 (G + 1) 0 _ _ (unhide F5)
    have y1 := frozen_of_row w5 (G + 1) 1 _ _ (unhide F5)
    have y2 := frozen_of_row w5 (G + 1) 2 _ _ (unhide F5)
    clear b5 ho CL m0 m1 m2
    go_wp2_with fail
    refine bodyPost_ret (ret_tc (p := 5) (u := 4) (T := 31) rfl _ _ (G + 1) _ _ _ rfl (set3 (unhide F5) _ _ _) Tryz.underlying31 rfl size_flt) rfl ⟨ao, ⟨cap, rfl, ?_⟩, set3_below (unhide X5) (by omega) _ _ _⟩
    have hsz : w.heap.size ≤ w3.heap.size := (unhide X3).size
    refine own_later (own_low (unhide HO) hsz) (fun b hl hb => ?_)
    have hbl := ((unhide HO).lt b hb).1
    have hne : b ≠ G + 1 := by omega
    rw [heap_setCell_other _ _ _ _ hne, heap_setCell_other _ _ _ _ hne, heap_setCell_other _ _ _ _ hne]
end Go.Proofs.YtcknoeepdjhnoaaGreatDoor
