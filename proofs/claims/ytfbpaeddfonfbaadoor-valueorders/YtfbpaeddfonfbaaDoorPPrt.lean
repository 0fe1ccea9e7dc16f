/-
  The walk of the document's Print; conditions: the form's own reach.
-/
import Derived.Test.YtfbpaeddfonfbaaDoorPTxt
import Derived.Test.YtfbpaeddfonfbaaDoorVRefR
namespace Go.Proofs.YtfbpaeddfonfbaaDoor
open Go.RowKit
set_option linter.unusedVariables false
set_option linter.unusedSimpArgs false

/-- a value's text; nothing of one that is not right -/
def prt (v : Vl) : List UInt8 := if rightB v = true then txt v else []

theorem right_ok {v : Vl} (h : rightB v = true) : okB 8 v = true ∧ wt v ≤ 2048 := by
  unfold rightB at h
  rw [Bool.and_eq_true, decide_eq_true_eq] at h
  exact h

set_option maxRecDepth 100000 in
set_option maxHeartbeats 1000000 in
theorem printD_any (v : Vl) (x : Value) (B : Nat) (w : World) (hv : IsV w B v x) (hBs : B ≤ w.heap.size) :
    Calls Tryd.prog 11 #[x] w fun e w' => ∃ t : ByteArray, e = .returned (.string t) ∧ t.data.toList = prt v ∧ Below w.heap.size w w' := by
  obtain ⟨k, n, s, l, ks, al, ak, cl, ck, hvv, rfl⟩ := hv.shape
  clear hvv
  obtain ⟨m, hm⟩ : ∃ m, ks.length = m := ⟨_, rfl⟩
  obtain ⟨ln, hln⟩ : ∃ ln, l.length = ln := ⟨_, rfl⟩
  rw [hm, hln] at hv
  rw [hm, hln]
  obtain ⟨g, hg⟩ : ∃ g, w.heap.size = g := ⟨_, rfl⟩
  have BX := Box.mk' w (.int .i64 k) (.int .i64 n) (.string s) (.slice al ln cl) (.slice ak m ck)
  obtain ⟨w1, hw1⟩ : ∃ w1, w.alloc (.cells #[.int .i64 k, .int .i64 n, .string s, .slice al ln cl, .slice ak m ck] 25) = w1 := ⟨_, rfl⟩
  rw [hw1] at BX
  have at0 := BX.row
  rw [hg] at at0
  have HB : Hid (Below g w w1) := hide (by rw [← hg]; exact BX.below)
  have zb : g < w1.heap.size := by have := BX.size; omega
  have HT : Hid (∀ u, Below w1.heap.size w1 u → u.heap[g]? = some (.cells #[.int .i64 k, .int .i64 n, .string s, .slice al ln cl, .slice ak m ck] 25 (0, 0)) ∧ IsV u B v (.agg #[.int .i64 k, .int .i64 n, .string s, .slice al ln cl, .slice ak m ck]) ∧ B ≤ u.heap.size ∧ Below g w u) := hide (fun u hu => by
    have h1 : Below g w u := (unhide HB).trans (hu.mono (by omega))
    exact ⟨(hu.block g zb).trans at0, hv.mono (h1.mono (by omega)), by have := h1.size; omega, h1⟩)
  have CR := hide (right_ref v _ B w1 (unhide HT w1 (Below.refl _ _)).2.1 (unhide HT w1 (Below.refl _ _)).2.2.1)
  obtain ⟨c0, c1, c2, c3, c4⟩ := row_cell at0
  clear BX hv hm hln at0
  cases hR : rightB v with
  | false =>
    have HP : Hid (prt v = []) := hide (by unfold prt; rw [if_neg (by rw [hR]; simp)])
    rw [hR] at CR
    clear hR
    go_enter Tryd.func11, Tryd.ntmps11
    go_wp2_with fail
    refine (unhide CR).mono ?_
    rintro e u ⟨rfl, bu⟩
    have HF := hide (unhide HT u bu).2.2.2
    clear bu CR
    go_wp2_with fail
    go_ret
    exact ⟨_, rfl, by rw [unhide HP], by first | exact unhide HF | (rw [hg]; exact unhide HF)⟩
  | true =>
    have HP : Hid (prt v = txt v ∧ okB 8 v = true ∧ wt v ≤ 2048) := hide ⟨by unfold prt; rw [if_pos hR], (right_ok hR).1, (right_ok hR).2⟩
    rw [hR] at CR
    clear hR
    go_enter Tryd.func11, Tryd.ntmps11
    go_wp2_with fail
    refine (unhide CR).mono ?_
    rintro e u ⟨rfl, bu⟩
    have HU := hide bu
    clear bu CR c0 c1 c2 c3 c4
    obtain ⟨c0, c1, c2, c3, c4⟩ := row_cell (unhide HT u (unhide HU)).1
    have CT := hide (text_any 8 v _ B u (unhide HP).2.1 (unhide HP).2.2 (unhide HT u (unhide HU)).2.1 (unhide HT u (unhide HU)).2.2.1)
    go_wp2_with fail
    refine (unhide CT).mono ?_
    rintro e u2 ⟨t, rfl, ht, hsz, b2⟩
    have HF := hide (unhide HT u2 ((unhide HU).trans (b2.mono (unhide HU).size))).2.2.2
    have HTT := hide ht
    clear ht hsz b2 CT
    go_wp2_with fail
    go_ret
    exact ⟨t, rfl, by rw [(unhide HP).1]; exact unhide HTT, by first | exact unhide HF | (rw [hg]; exact unhide HF)⟩
end Go.Proofs.YtfbpaeddfonfbaaDoor
