/-
  The walks of the document's Encode and Right of a module (layer 9); no conditions but the form's own reach.
  The walk of the document's Right of a module (layer 9); no conditions but the form's own reach.
-/
import Derived.Test.YtdlgehnplkeoiaaGreatDoorB47
import Derived.Test.YtdlgehnplkeoiaaGreatDoorB49
import Derived.Test.YtdlgehnplkeoiaaGreatDoorB37
set_option linter.unusedVariables false
set_option linter.unusedSimpArgs false
namespace Go.Proofs.YtdlgehnplkeoiaaGreatDoor
open Go.RowKit
set_option linter.unusedVariables false
set_option linter.unusedSimpArgs false

def codeM (m : Md) : Int := if rightM m = true then 0 else 90
def bytesM (m : Md) : List Int := if rightM m = true then encM m else []

set_option maxRecDepth 100000 in
set_option maxHeartbeats 1000000 in
theorem encodeR_any (m : Md) (a1 a2 a3 : Option Addr) (n1 c1 n2 c2 n3 c3 B : Nat) (w : World) (hn1 : m.cs.length = n1) (hn2 : m.fs.length = n2) (hn3 : m.xs.length = n3) (h : IsM w (fun b => b < B) m a1 c1 a2 c2 a3 c3) (hB : B ≤ w.heap.size) :
    Calls Tryz.prog 20 #[.agg #[.slice a1 n1 c1, .slice a2 n2 c2, .slice a3 n3 c3]] w fun e w' => ∃ (ao : Option Addr) (len cap : Nat), e = .returned (.tuple #[.slice ao len cap, .int .i64 (codeM m)]) ∧ Row8 w' ao len cap (bytesM m) ∧ Below w.heap.size w w' ∧ (∀ a, ao = some a → w.heap.size ≤ a.block) ∧ cap ≤ maxLen := by
  obtain ⟨g, hg⟩ : ∃ g, w.heap.size = g := ⟨_, rfl⟩
  have hfit := cs_fit h.hc
  have BX := BoxN.mk' w #[.slice a1 n1 c1, .slice a2 n2 c2, .slice a3 n3 c3] 27
  obtain ⟨w1, hw1⟩ : ∃ w1, w.alloc (.cells #[.slice a1 n1 c1, .slice a2 n2 c2, .slice a3 n3 c3] 27) = w1 := ⟨_, rfl⟩
  rw [hw1] at BX
  have HS : Hid (∀ u, Below w1.heap.size w1 u → SeeM u B g m (.slice a1 n1 c1) (.slice a2 n2 c2) (.slice a3 n3 c3) a1 c1 a2 c2 a3 c3 ∧ Below w.heap.size w u) := hide (fun u hu => by
    have S1 : SeeM w1 B g m (.slice a1 n1 c1) (.slice a2 n2 c2) (.slice a3 n3 c3) a1 c1 a2 c2 a3 c3 := ⟨by rw [← hg]; exact BX.row, h.later (BX.below.mono hB), by have := BX.size; omega⟩
    exact ⟨S1.later hu, BX.below.trans (hu.mono (by have := BX.size; omega))⟩)
  obtain ⟨m0, m1, m2⟩ := row_cell3 (unhide HS w1 (Below.refl _ _)).1.box
  have CW := hide (within_any m a1 a2 a3 n1 c1 n2 c2 n3 c3 B w1 hn1 hn2 hn3 (unhide HS w1 (Below.refl _ _)).1.mod (unhide HS w1 (Below.refl _ _)).1.low)
  cases hF : formedB m with
  | false =>
    rw [hF] at CW
    have hr : rightM m = false := by unfold rightM; rw [hF]; rfl
    have e1 : codeM m = 90 := by unfold codeM; rw [hr]; rfl
    have e2 : bytesM m = [] := by unfold bytesM; rw [hr]; rfl
    rw [e1, e2]
    clear h hB BX hF hr e1 e2 hfit
    go_enter Tryz.func20, Tryz.ntmps20
    go_wp2_with fail
    refine (unhide CW).mono ?_
    rintro e u ⟨rfl, b1⟩
    have B1 := hide (unhide HS u b1).2
    clear b1 CW
    go_wp2_with fail
    go_ret2
    exact ⟨none, 0, 0, rfl, nilRow _, by first | exact unhide B1 | (rw [← hg]; exact unhide B1), (fun a e => by cases e), by unfold maxLen; omega⟩
  | true =>
    rw [hF] at CW
    have HC : Hid (∀ u, Below w1.heap.size w1 u → Calls Tryz.prog 33 #[.agg #[.slice a1 n1 c1, .slice a2 n2 c2, .slice a3 n3 c3]] u fun e w' => ∃ g c : Nat, e = .returned (.slice (some ⟨g, 0, none⟩) (encM m).length c) ∧ w'.ownsRow u.heap.size 5 1 (.slice (some ⟨g, 0, none⟩) (encM m).length c) (encM m).length ((encM m).map (Value.int .u8)) ∧ Below u.heap.size u w') := hide (fun u hu => bytesR_any m a1 a2 a3 n1 c1 n2 c2 n3 c3 B u hn1 hn2 hn3 (unhide HS u hu).1.mod (unhide HS u hu).1.low hF)
    have HSM := hide (outM_small hF hfit 3 (by omega))
    have HRT : Hid (rightM m = decide ((encM m).length ≤ 65536)) := hide (by unfold rightM; rw [hF]; rfl)
    have hlim : 0 < (encM m).length := by
      have e : (encM m).length = (outM m 2).length + (secM 2 (partsM m 2)).length := List.length_append
      have h2 : 0 < (secM 2 (partsM m 2)).length := Nat.succ_pos _
      omega
    have hfar := unhide HSM
    obtain ⟨N, hN⟩ : ∃ N, (encM m).length = N := ⟨_, rfl⟩
    have HN := hide hN
    rw [hN] at HC HRT hlim
    clear h hB BX hF hfit hN hfar
    go_enter Tryz.func20, Tryz.ntmps20
    go_wp2_with fail
    refine (unhide CW).mono ?_
    rintro e u ⟨rfl, b1⟩
    have B1 := hide b1
    obtain ⟨m0, m1, m2⟩ := row_cell3 (unhide HS u b1).1.box
    have C2 := hide (unhide HC u b1)
    clear b1 CW
    go_wp2_with fail
    refine (unhide C2).mono ?_
    rintro e u2 ⟨g2, c2', rfl, o2, b2⟩
    have H2 : Hid (u2.ownsRow u.heap.size 5 1 (.slice (some ⟨g2, 0, none⟩) N c2') N ((encM m).map (Value.int .u8)) ∧ Below w.heap.size w u2 ∧ w.heap.size ≤ g2) := hide (by
      have hb := (unhide HS u (unhide B1)).2
      refine ⟨o2, hb.trans (b2.mono hb.size), ?_⟩
      have := (o2.lt g2 rfl).1
      have := hb.size
      omega)
    clear o2 b2 C2 m0 m1 m2
    by_cases hlt : 65536 < N
    · have j1 : (65536 : Int) < (N : Int) := by omega
      have hr : rightM m = false := by rw [unhide HRT]; simp; omega
      have e1 : codeM m = 90 := by unfold codeM; rw [hr]; rfl
      have e2 : bytesM m = [] := by unfold bytesM; rw [hr]; rfl
      have E1 := hide e1
      have E2 := hide e2
      clear hr e1 e2
      go_wp2_with fail
      go_ret2
      exact ⟨none, 0, 0, by rw [unhide E1]; rfl, by rw [unhide E2]; exact nilRow _, by first | exact (unhide H2).2.1 | (rw [← hg]; exact (unhide H2).2.1), (fun a e => by cases e), by unfold maxLen; omega⟩
    · have j1 : ¬ (65536 : Int) < (N : Int) := by omega
      have hr : rightM m = true := by rw [unhide HRT]; simp; omega
      have e1 : codeM m = 0 := by unfold codeM; rw [hr]; rfl
      have e2 : bytesM m = encM m := by unfold bytesM; rw [hr]; rfl
      have E1 := hide e1
      have E2 := hide e2
      clear hr e1 e2
      go_wp2_with fail
      go_ret2
      obtain ⟨q1, q2, q3⟩ := unhide H2
      have hle : c2' ≤ maxLen := by
        obtain ⟨_, _, hv, _, _, hm⟩ := row_of q1 (unhide HSM) hlim
        cases hv
        exact hm
      exact ⟨some ⟨g2, 0, none⟩, N, c2', by rw [unhide E1]; rfl, by rw [unhide E2]; exact Row8.own q1 (unhide HSM), by first | exact q2 | (rw [← hg]; exact q2), (fun a e => by cases e; dsimp only; omega), hle⟩

end Go.Proofs.YtdlgehnplkeoiaaGreatDoor

namespace Go.Proofs.YtdlgehnplkeoiaaGreatDoor
open Go.RowKit
set_option linter.unusedVariables false
set_option linter.unusedSimpArgs false

set_option maxRecDepth 100000 in
set_option maxHeartbeats 400000 in
theorem rightR_any (m : Md) (a1 a2 a3 : Option Addr) (n1 c1 n2 c2 n3 c3 B : Nat) (w : World) (hn1 : m.cs.length = n1) (hn2 : m.fs.length = n2) (hn3 : m.xs.length = n3) (h : IsM w (fun b => b < B) m a1 c1 a2 c2 a3 c3) (hB : B ≤ w.heap.size) :
    Calls Tryz.prog 14 #[.agg #[.slice a1 n1 c1, .slice a2 n2 c2, .slice a3 n3 c3]] w fun e w' => e = .returned (.bool (rightM m)) ∧ Below w.heap.size w w' := by
  obtain ⟨g, hg⟩ : ∃ g, w.heap.size = g := ⟨_, rfl⟩
  have BX := BoxN.mk' w #[.slice a1 n1 c1, .slice a2 n2 c2, .slice a3 n3 c3] 27
  obtain ⟨w1, hw1⟩ : ∃ w1, w.alloc (.cells #[.slice a1 n1 c1, .slice a2 n2 c2, .slice a3 n3 c3] 27) = w1 := ⟨_, rfl⟩
  rw [hw1] at BX
  obtain ⟨m0, m1, m2⟩ := row_cell3 (by have := BX.row; rw [hg] at this; exact this)
  have CE := hide (encodeR_any m a1 a2 a3 n1 c1 n2 c2 n3 c3 B w1 hn1 hn2 hn3 (h.later (BX.below.mono hB)) (by have := BX.size; omega))
  have HB := hide BX
  have hR : ∃ R, rightM m = R ∧ codeM m = (if R = true then 0 else 90) := ⟨_, rfl, rfl⟩
  obtain ⟨R, hR1, hR2⟩ := hR
  rw [hR1]
  rw [hR2] at CE
  clear h hB BX hR1 hR2
  cases R with
  | true =>
    rw [if_pos rfl] at CE
    go_enter Tryz.func14, Tryz.ntmps14
    go_wp2_with fail
    refine (unhide CE).mono ?_
    rintro e u ⟨ao, len, cap, rfl, _, b1, _, _⟩
    have B1 := hide b1
    clear b1 CE
    go_wp2_with fail
    go_ret
    have hb := (unhide HB).below.trans ((unhide B1).mono (by have := (unhide HB).size; omega))
    exact ⟨rfl, by first | exact hb | (rw [← hg]; exact hb)⟩
  | false =>
    rw [if_neg (by decide)] at CE
    go_enter Tryz.func14, Tryz.ntmps14
    go_wp2_with fail
    refine (unhide CE).mono ?_
    rintro e u ⟨ao, len, cap, rfl, _, b1, _, _⟩
    have B1 := hide b1
    clear b1 CE
    go_wp2_with fail
    go_ret
    have hb := (unhide HB).below.trans ((unhide B1).mono (by have := (unhide HB).size; omega))
    exact ⟨rfl, by first | exact hb | (rw [← hg]; exact hb)⟩
end Go.Proofs.YtdlgehnplkeoiaaGreatDoor
