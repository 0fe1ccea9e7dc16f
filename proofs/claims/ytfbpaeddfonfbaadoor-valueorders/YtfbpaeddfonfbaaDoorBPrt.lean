/-
  The walk of value's Print; conditions: the table of strconv as the program's text lays it.
-/
import Derived.Test.YtfbpaeddfonfbaaDoorBWrt2
import Derived.Test.YtfbpaeddfonfbaaDoorPPrt
import Derived.Test.YtfbpaeddfonfbaaDoorVCodeR
namespace Go.Proofs.YtfbpaeddfonfbaaDoor
open Go.RowKit
set_option linter.unusedVariables false
set_option linter.unusedSimpArgs false

set_option maxRecDepth 100000 in
set_option maxHeartbeats 1000000 in
theorem print_any (v : Vl) (x : Value) (B : Nat) (w : World) (hv : IsV w B v x) (hBs : B ≤ w.heap.size) (hG : 0 < B) (hP : PowAt w) :
    Calls Tryd.prog 8 #[x] w fun e w' => ∃ t : ByteArray, e = .returned (.string t) ∧ t.data.toList = prt v ∧ Below w.heap.size w w' := by
  obtain ⟨k, n, s, l, ks, al, ak, cl, ck, hvv, rfl⟩ := hv.shape
  clear hvv
  obtain ⟨m, hm⟩ : ∃ m, ks.length = m := ⟨_, rfl⟩
  obtain ⟨ln, hln⟩ : ∃ ln, l.length = ln := ⟨_, rfl⟩
  rw [hm, hln] at hv
  rw [hm, hln]
  obtain ⟨g, hg⟩ : ∃ g, w.heap.size = g := ⟨_, rfl⟩
  have BX := Box.mk' w (.int .i64 k) (.int .i64 n) (.string s) (.slice al ln cl) (.slice ak m ck)
  obtain ⟨w1, hw1⟩ : ∃ w1, w.alloc (.cells #[.int .i64 k, .int .i64 n, .string s, .slice al ln cl, .slice ak m ck] 25) = w1 := ⟨_, rfl⟩
  rw [hw1] at BX
  have at0 := BX.row
  rw [hg] at at0
  have HB : Hid (Below g w w1) := hide (by rw [← hg]; exact BX.below)
  have zb : g < w1.heap.size := by have := BX.size; omega
  have HT : Hid (∀ u, Below w1.heap.size w1 u → u.heap[g]? = some (.cells #[.int .i64 k, .int .i64 n, .string s, .slice al ln cl, .slice ak m ck] 25 (0, 0)) ∧ IsV u B v (.agg #[.int .i64 k, .int .i64 n, .string s, .slice al ln cl, .slice ak m ck]) ∧ B ≤ u.heap.size ∧ Below g w u ∧ PowAt u ∧ g < u.heap.size) := hide (fun u hu => by
    have h1 : Below g w u := (unhide HB).trans (hu.mono (by omega))
    have h2 := (hu.block g zb).trans at0
    exact ⟨h2, hv.mono (h1.mono (by omega)), by have := h1.size; omega, h1, hP.later (h1.mono (by omega : B ≤ g)) hG, (Array.getElem?_eq_some_iff.1 h2).1⟩)
  have CR := hide (right_code v _ B w1 (unhide HT w1 (Below.refl _ _)).2.1 (unhide HT w1 (Below.refl _ _)).2.2.1)
  obtain ⟨c0, c1, c2, c3, c4⟩ := row_cell at0
  have HGG := hide hG
  clear BX hv hm hln at0 hP
  cases hR : rightB v with
  | false =>
    have HP : Hid (prt v = []) := hide (by unfold prt; rw [if_neg (by rw [hR]; simp)])
    rw [hR] at CR
    clear hR
    go_enter Tryd.func8, Tryd.ntmps8
    go_wp2_with fail
    refine (unhide CR).mono ?_
    rintro e u ⟨rfl, bu⟩
    have HF := hide (unhide HT u bu).2.2.2.1
    clear bu CR
    go_wp2_with fail
    go_ret
    exact ⟨_, rfl, by rw [unhide HP], by first | exact unhide HF | (rw [hg]; exact unhide HF)⟩
  | true =>
    have HP : Hid (prt v = txt v ∧ okB 8 v = true ∧ wt v ≤ 2048) := hide ⟨by unfold prt; rw [if_pos hR], (right_ok hR).1, (right_ok hR).2⟩
    rw [hR] at CR
    clear hR
    go_enter Tryd.func8, Tryd.ntmps8
    go_wp2_with fail
    refine (unhide CR).mono ?_
    rintro e u ⟨rfl, bu⟩
    have HU := hide bu
    clear bu CR c0 c1 c2 c3 c4
    obtain ⟨B1, hB1⟩ : ∃ B1, u.heap.size = B1 := ⟨_, rfl⟩
    obtain ⟨u1, hu1⟩ : ∃ u1, u.alloc (.cells #[.pointer none, .slice none 0 0] 41) = u1 := ⟨_, rfl⟩
    have hbu : Below B1 u u1 := by rw [← hu1, ← hB1]; exact (Below.refl _ _).alloc (Nat.le_refl _) _
    have F1 : Bd u1 B1 B1 [] := by
      have h := Lib.IsBuilderF.of (Lib.fresh_isBuilder 41 5 u)
      rw [hu1, hB1] at h
      exact h
    obtain ⟨hbx, hV, hBw, hb1, hPw, hgw⟩ := unhide HT u (unhide HU)
    have hbx1 := (hbu.block g (by omega)).trans hbx
    obtain ⟨c0, c1, c2, c3, c4⟩ := row_cell hbx1
    have hV1 : IsV u1 B1 v _ := (hV.lift (by omega : B ≤ B1)).mono hbu
    have CW := hide (write_any 8 v _ B1 B1 [] u1 (unhide HP).2.1 (unhide HP).2.2 hV1 (by have := hbu.size; omega) (by have := unhide HGG; omega) (hPw.later hbu (by have := unhide HGG; omega)) F1 (by have := (unhide HP).2.2; show 0 + _ ≤ _; omega))
    have hg1 : g < u1.heap.size := (Array.getElem?_eq_some_iff.1 hbx1).1
    have HZ : Hid (B1 ≤ u1.heap.size) := hide (by have := hbu.size; omega)
    have HF : Hid (∀ u', Below B1 u1 u' → Below g w u') := hide (fun u' h' => hb1.trans ((hbu.trans h').mono (by omega)))
    have HBU := hide hbu
    clear hV1 hV hPw hbx hbx1 hb1 F1 hbu
    go_wp2_with fail
    refine (unhide CW).mono ?_
    rintro e u2 ⟨rfl, _, k2⟩
    have CS := hide (Tryd.Builder_String_any_k B1 B1 (txt v) u2 (by simpa using k2.bd) (k2.size (unhide HZ)))
    have HK := hide k2.below
    clear k2 CW c0 c1 c2 c3 c4
    go_wp2_with fail
    refine (unhide CS).mono ?_
    rintro e u3 ⟨rfl, _, b3, _⟩
    have HF3 := hide (unhide HF u3 ((unhide HK).trans b3))
    clear b3 CS
    go_wp2_with fail
    go_ret
    exact ⟨_, rfl, by rw [(unhide HP).1], by first | exact unhide HF3 | (rw [hg]; exact unhide HF3)⟩
end Go.Proofs.YtfbpaeddfonfbaaDoor
