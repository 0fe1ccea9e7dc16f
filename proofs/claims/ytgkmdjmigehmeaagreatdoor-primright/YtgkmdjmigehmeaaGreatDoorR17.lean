/-
  The walk of value.With where it refuses; conditions: the form's own reach.
-/
import Derived.Test.YtgkmdjmigehmeaaGreatDoorR16
namespace Go.Proofs.YtgkmdjmigehmeaaGreatDoor
set_option linter.unusedVariables false
set_option linter.unusedSimpArgs false
set_option maxRecDepth 100000
set_option maxHeartbeats 16000000
open Go.RowKit
def withC (v : Vl) (key : ByteArray) (x : Vl) : Int :=
 if rightB v = true ∧ rightB x = true then (if v.kind = 5 then (if key.size ≤ 32 then 0 else 32) else 31) else 30
theorem with_no (v x : Vl) (vv xx : Value) (B : Nat) (key : ByteArray) (w : World) (hv : IsV w B v vv) (hx : IsV w B x xx) (hBs : B ≤ w.heap.size) (hno : withC v key x ≠ 0) :
  Calls Tryz.prog 111 #[vv, .string key, xx] w fun e w' => e = .returned (.tuple #[.agg #[.int .i64 0, .int .i64 0, .string ⟨#[]⟩, .slice none 0 0, .slice none 0 0], .int .i64 (withC v key x)]) ∧ Below w.heap.size w w' := by
 obtain ⟨k, n, s, l, ks, al, ak, cl, ck, rfl, rfl⟩ := hv.shape
 obtain ⟨xk, xn, xs, xl, xks, xal, xak, xcl, xck, _, rfl⟩ := hx.shape
 obtain ⟨m, hm⟩ : ∃ m, ks.length = m := ⟨_, rfl⟩
 obtain ⟨ln, hln⟩ : ∃ ln, l.length = ln := ⟨_, rfl⟩
 obtain ⟨xm, hxm⟩ : ∃ xm, xks.length = xm := ⟨_, rfl⟩
 obtain ⟨xln, hxln⟩ : ∃ xln, xl.length = xln := ⟨_, rfl⟩
 rw [hm, hln] at hv
 rw [hxm, hxln] at hx
 rw [hm, hln, hxm, hxln]
 obtain ⟨g, hg⟩ : ∃ g, w.heap.size = g := ⟨_, rfl⟩
 obtain ⟨w3, hw3⟩ : ∃ w3, ((w.alloc (.cells #[.int .i64 k, .int .i64 n, .string s, .slice al ln cl, .slice ak m ck] 25)).alloc (.cells #[.int .i64 xk, .int .i64 xn, .string xs, .slice xal xln xcl, .slice xak xm xck] 25)).alloc (.cells #[.int .i64 0, .int .i64 0, .string ⟨#[]⟩, .slice none 0 0, .slice none 0 0] 25) = w3 := ⟨_, rfl⟩
 have hz3 : Wz w w3 g #[.int .i64 k, .int .i64 n, .string s, .slice al ln cl, .slice ak m ck] #[.int .i64 xk, .int .i64 xn, .string xs, .slice xal xln xcl, .slice xak xm xck] #[.int .i64 0, .int .i64 0, .string ⟨#[]⟩, .slice none 0 0, .slice none 0 0] := by
  have TW := Two.mk' w 25 #[.int .i64 k, .int .i64 n, .string s, .slice al ln cl, .slice ak m ck] #[.int .i64 xk, .int .i64 xn, .string xs, .slice xal xln xcl, .slice xak xm xck]
  rw [hg] at TW
  rw [← hw3]
  have h1 := heap_alloc_new ((w.alloc (.cells #[.int .i64 k, .int .i64 n, .string s, .slice al ln cl, .slice ak m ck] 25)).alloc (.cells #[.int .i64 xk, .int .i64 xn, .string xs, .slice xal xln xcl, .slice xak xm xck] 25)) (.cells #[.int .i64 0, .int .i64 0, .string ⟨#[]⟩, .slice none 0 0, .slice none 0 0] 25)
  rw [TW.size] at h1
  have hbb := (Below.refl ((w.alloc (.cells #[.int .i64 k, .int .i64 n, .string s, .slice al ln cl, .slice ak m ck] 25)).alloc (.cells #[.int .i64 xk, .int .i64 xn, .string xs, .slice xal xln xcl, .slice xak xm xck] 25)).heap.size ((w.alloc (.cells #[.int .i64 k, .int .i64 n, .string s, .slice al ln cl, .slice ak m ck] 25)).alloc (.cells #[.int .i64 xk, .int .i64 xn, .string xs, .slice xal xln xcl, .slice xak xm xck] 25))).alloc (Nat.le_refl _) (.cells #[.int .i64 0, .int .i64 0, .string ⟨#[]⟩, .slice none 0 0, .slice none 0 0] 25)
  have hs := TW.size
  refine ⟨(TW.later hbb).1, (TW.later hbb).2, h1, by simp [hs, hg], ?_⟩
  have := TW.below.trans (hbb.mono (by omega))
  rw [hg] at this
  exact this
 have HVV : Hid (∀ u, Below g w u → IsV u B (.mk k n s l ks) (.agg #[.int .i64 k, .int .i64 n, .string s, .slice al ln cl, .slice ak m ck]) ∧ IsV u B x (.agg #[.int .i64 xk, .int .i64 xn, .string xs, .slice xal xln xcl, .slice xak xm xck]) ∧ B ≤ u.heap.size) := hide (fun u hu => ⟨hv.mono (hu.mono (by omega)), hx.mono (hu.mono (by omega)), by have := hu.size; omega⟩)
 have CR := hide (right_code (.mk k n s l ks) _ B w3 (uh HVV w3 hz3.below).1 (uh HVV w3 hz3.below).2.2)
 have CX : Hid (∀ u, Below g w u → _) := hide (fun u hu => right_code x _ B u (uh HVV u hu).2.1 (uh HVV u hu).2.2)
 have HZ3 := hide hz3
 obtain ⟨c0, c1, c2, c3, c4⟩ := row_cell hz3.at0
 clear hz3 hv hx hm hln hxm hxln
 cases hR : rightB (.mk k n s l ks) with
 | false =>
  have hC : withC (.mk k n s l ks) key x = 30 := by unfold withC; rw [if_neg (by rw [hR]; simp)]
  rw [hC]
  rw [hR] at CR
  clear hno hC hR
  go_enter Tryz.func111, Tryz.ntmps111
  go_wp2_with fail
  refine (uh CR).mono ?_
  rintro e u3 ⟨rfl, b3⟩
  have HZu := hide ((uh HZ3).later b3)
  clear b3 CR c0 c1 c2 c3 c4 hw3
  have ATX : u3.heap[g + 1 + 1]? = some (.cells #[.int .i64 0, .int .i64 0, .string ⟨#[]⟩, .slice none 0 0, .slice none 0 0] 25 (0, 0)) := (uh HZu).at2
  obtain ⟨z0, z1, z2, z3, z4⟩ := row_cell ATX
  have fz : ∀ q, u3.frozen? ⟨g + 1 + 1, q, none⟩ = false := fun q => frozen_of_row u3 (g + 1 + 1) q _ _ ATX
  have fz0 := fz 0
  have fz1 := fz 1
  have fz2 := fz 2
  have fz3 := fz 3
  have fz4 := fz 4
  have HAT := hide ATX
  clear fz ATX
  go_wp2_with fail
  have ATX := uh HAT
  have BW : Below g w u3 := (uh HZu).below
  have R9 := five_set u3 (g + 1 + 1) 25 _ _ _ _ _ (.int .i64 0) (.int .i64 0) (.string ⟨#[]⟩) (.slice none 0 0) (.slice none 0 0) ATX
  have B9 := five_below (g := g + 1 + 1) BW (by omega) (.int .i64 0) (.int .i64 0) (.string ⟨#[]⟩) (.slice none 0 0) (.slice none 0 0)
  obtain ⟨w9, hw9⟩ : ∃ w9, (((((u3.setCell ⟨g + 1 + 1, 0, none⟩ (.int .i64 0)).setCell ⟨g + 1 + 1, 1, none⟩ (.int .i64 0)).setCell ⟨g + 1 + 1, 2, none⟩ (.string ⟨#[]⟩)).setCell ⟨g + 1 + 1, 3, none⟩ (.slice none 0 0)).setCell ⟨g + 1 + 1, 4, none⟩ (.slice none 0 0)) = w9 := ⟨_, rfl⟩
  rw [hw9] at R9 B9 ⊢
  obtain ⟨r0, r1, r2, r3, r4⟩ := row_cell R9
  refine bodyPost_ret (v := .tuple #[.agg #[.int .i64 0, .int .i64 0, .string ⟨#[]⟩, .slice none 0 0, .slice none 0 0], .int .i64 30]) (by simp [results, Tryz.results111, go_sem, r0, r1, r2, r3, r4]) rfl ?_
  rw [hg]
  exact ⟨rfl, B9⟩
 | true =>
  cases hX : rightB x with
  | false =>
   have hC : withC (.mk k n s l ks) key x = 30 := by unfold withC; rw [if_neg (by rw [hX]; simp)]
   rw [hC]
   rw [hR] at CR
   rw [hX] at CX
   clear hno hC hR hX
   go_enter Tryz.func111, Tryz.ntmps111
   go_wp2_with fail
   refine (uh CR).mono ?_
   rintro e u3 ⟨rfl, b3⟩
   have HZu := hide ((uh HZ3).later b3)
   clear b3 CR c0 c1 c2 c3 c4 hw3
   obtain ⟨d0, d1, d2, d3, d4⟩ := row_cell (uh HZu).at1
   go_wp2_with fail
   refine (uh CX u3 (uh HZu).below).mono ?_
   rintro e u4 ⟨rfl, b4⟩
   have HZ4 := hide ((uh HZu).later b4)
   clear b4 CX d0 d1 d2 d3 d4
   have ATX : u4.heap[g + 1 + 1]? = some (.cells #[.int .i64 0, .int .i64 0, .string ⟨#[]⟩, .slice none 0 0, .slice none 0 0] 25 (0, 0)) := (uh HZ4).at2
   obtain ⟨z0, z1, z2, z3, z4⟩ := row_cell ATX
   have fz : ∀ q, u4.frozen? ⟨g + 1 + 1, q, none⟩ = false := fun q => frozen_of_row u4 (g + 1 + 1) q _ _ ATX
   have fz0 := fz 0
   have fz1 := fz 1
   have fz2 := fz 2
   have fz3 := fz 3
   have fz4 := fz 4
   have HAT := hide ATX
   clear fz ATX
   go_wp2_with fail
   have ATX := uh HAT
   have BW : Below g w u4 := (uh HZ4).below
   have R9 := five_set u4 (g + 1 + 1) 25 _ _ _ _ _ (.int .i64 0) (.int .i64 0) (.string ⟨#[]⟩) (.slice none 0 0) (.slice none 0 0) ATX
   have B9 := five_below (g := g + 1 + 1) BW (by omega) (.int .i64 0) (.int .i64 0) (.string ⟨#[]⟩) (.slice none 0 0) (.slice none 0 0)
   obtain ⟨w9, hw9⟩ : ∃ w9, (((((u4.setCell ⟨g + 1 + 1, 0, none⟩ (.int .i64 0)).setCell ⟨g + 1 + 1, 1, none⟩ (.int .i64 0)).setCell ⟨g + 1 + 1, 2, none⟩ (.string ⟨#[]⟩)).setCell ⟨g + 1 + 1, 3, none⟩ (.slice none 0 0)).setCell ⟨g + 1 + 1, 4, none⟩ (.slice none 0 0)) = w9 := ⟨_, rfl⟩
   rw [hw9] at R9 B9 ⊢
   obtain ⟨r0, r1, r2, r3, r4⟩ := row_cell R9
   refine bodyPost_ret (v := .tuple #[.agg #[.int .i64 0, .int .i64 0, .string ⟨#[]⟩, .slice none 0 0, .slice none 0 0], .int .i64 30]) (by simp [results, Tryz.results111, go_sem, r0, r1, r2, r3, r4]) rfl ?_
   rw [hg]
   exact ⟨rfl, B9⟩
  | true =>
   by_cases h5 : k = 5
   ·have hk : (32 : Int) < (key.size : Int) := by
     unfold withC at hno
     rw [if_pos ⟨hR, hX⟩, if_pos h5] at hno
     split at hno
     ·exact absurd rfl hno
     ·omega
    have hC : withC (.mk k n s l ks) key x = 32 := by unfold withC; rw [if_pos ⟨hR, hX⟩, if_pos h5, if_neg (by omega)]
    rw [hC]
    rw [hR] at CR
    rw [hX] at CX
    clear hno hC hR hX
    subst h5
    go_enter Tryz.func111, Tryz.ntmps111
    go_wp2_with fail
    refine (uh CR).mono ?_
    rintro e u3 ⟨rfl, b3⟩
    have HZu := hide ((uh HZ3).later b3)
    clear b3 CR c0 c1 c2 c3 c4 hw3
    obtain ⟨d0, d1, d2, d3, d4⟩ := row_cell (uh HZu).at1
    go_wp2_with fail
    refine (uh CX u3 (uh HZu).below).mono ?_
    rintro e u4 ⟨rfl, b4⟩
    have HZ4 := hide ((uh HZu).later b4)
    clear b4 CX d0 d1 d2 d3 d4
    obtain ⟨c0, c1, c2, c3, c4⟩ := row_cell (uh HZ4).at0
    have ATX : u4.heap[g + 1 + 1]? = some (.cells #[.int .i64 0, .int .i64 0, .string ⟨#[]⟩, .slice none 0 0, .slice none 0 0] 25 (0, 0)) := (uh HZ4).at2
    obtain ⟨z0, z1, z2, z3, z4⟩ := row_cell ATX
    have fz : ∀ q, u4.frozen? ⟨g + 1 + 1, q, none⟩ = false := fun q => frozen_of_row u4 (g + 1 + 1) q _ _ ATX
    have fz0 := fz 0
    have fz1 := fz 1
    have fz2 := fz 2
    have fz3 := fz 3
    have fz4 := fz 4
    have HAT := hide ATX
    clear fz ATX
    go_wp2_with fail
    have ATX := uh HAT
    have BW : Below g w u4 := (uh HZ4).below
    have R9 := five_set u4 (g + 1 + 1) 25 _ _ _ _ _ (.int .i64 0) (.int .i64 0) (.string ⟨#[]⟩) (.slice none 0 0) (.slice none 0 0) ATX
    have B9 := five_below (g := g + 1 + 1) BW (by omega) (.int .i64 0) (.int .i64 0) (.string ⟨#[]⟩) (.slice none 0 0) (.slice none 0 0)
    obtain ⟨w9, hw9⟩ : ∃ w9, (((((u4.setCell ⟨g + 1 + 1, 0, none⟩ (.int .i64 0)).setCell ⟨g + 1 + 1, 1, none⟩ (.int .i64 0)).setCell ⟨g + 1 + 1, 2, none⟩ (.string ⟨#[]⟩)).setCell ⟨g + 1 + 1, 3, none⟩ (.slice none 0 0)).setCell ⟨g + 1 + 1, 4, none⟩ (.slice none 0 0)) = w9 := ⟨_, rfl⟩
    rw [hw9] at R9 B9 ⊢
    obtain ⟨r0, r1, r2, r3, r4⟩ := row_cell R9
    refine bodyPost_ret (v := .tuple #[.agg #[.int .i64 0, .int .i64 0, .string ⟨#[]⟩, .slice none 0 0, .slice none 0 0], .int .i64 32]) (by simp [results, Tryz.results111, go_sem, r0, r1, r2, r3, r4]) rfl ?_
    rw [hg]
    exact ⟨rfl, B9⟩
   ·have hC : withC (.mk k n s l ks) key x = 31 := by unfold withC; rw [if_pos ⟨hR, hX⟩, if_neg h5]
    rw [hC]
    rw [hR] at CR
    rw [hX] at CX
    clear hno hC hR hX
    go_enter Tryz.func111, Tryz.ntmps111
    go_wp2_with fail
    refine (uh CR).mono ?_
    rintro e u3 ⟨rfl, b3⟩
    have HZu := hide ((uh HZ3).later b3)
    clear b3 CR c0 c1 c2 c3 c4 hw3
    obtain ⟨d0, d1, d2, d3, d4⟩ := row_cell (uh HZu).at1
    go_wp2_with fail
    refine (uh CX u3 (uh HZu).below).mono ?_
    rintro e u4 ⟨rfl, b4⟩
    have HZ4 := hide ((uh HZu).later b4)
    clear b4 CX d0 d1 d2 d3 d4
    obtain ⟨c0, c1, c2, c3, c4⟩ := row_cell (uh HZ4).at0
    have ATX : u4.heap[g + 1 + 1]? = some (.cells #[.int .i64 0, .int .i64 0, .string ⟨#[]⟩, .slice none 0 0, .slice none 0 0] 25 (0, 0)) := (uh HZ4).at2
    obtain ⟨z0, z1, z2, z3, z4⟩ := row_cell ATX
    have fz : ∀ q, u4.frozen? ⟨g + 1 + 1, q, none⟩ = false := fun q => frozen_of_row u4 (g + 1 + 1) q _ _ ATX
    have fz0 := fz 0
    have fz1 := fz 1
    have fz2 := fz 2
    have fz3 := fz 3
    have fz4 := fz 4
    have HAT := hide ATX
    clear fz ATX
    go_wp2_with fail
    have ATX := uh HAT
    have BW : Below g w u4 := (uh HZ4).below
    have R9 := five_set u4 (g + 1 + 1) 25 _ _ _ _ _ (.int .i64 0) (.int .i64 0) (.string ⟨#[]⟩) (.slice none 0 0) (.slice none 0 0) ATX
    have B9 := five_below (g := g + 1 + 1) BW (by omega) (.int .i64 0) (.int .i64 0) (.string ⟨#[]⟩) (.slice none 0 0) (.slice none 0 0)
    obtain ⟨w9, hw9⟩ : ∃ w9, (((((u4.setCell ⟨g + 1 + 1, 0, none⟩ (.int .i64 0)).setCell ⟨g + 1 + 1, 1, none⟩ (.int .i64 0)).setCell ⟨g + 1 + 1, 2, none⟩ (.string ⟨#[]⟩)).setCell ⟨g + 1 + 1, 3, none⟩ (.slice none 0 0)).setCell ⟨g + 1 + 1, 4, none⟩ (.slice none 0 0)) = w9 := ⟨_, rfl⟩
    rw [hw9] at R9 B9 ⊢
    obtain ⟨r0, r1, r2, r3, r4⟩ := row_cell R9
    refine bodyPost_ret (v := .tuple #[.agg #[.int .i64 0, .int .i64 0, .string ⟨#[]⟩, .slice none 0 0, .slice none 0 0], .int .i64 31]) (by simp [results, Tryz.results111, go_sem, r0, r1, r2, r3, r4]) rfl ?_
    rw [hg]
    exact ⟨rfl, B9⟩
end Go.Proofs.YtgkmdjmigehmeaaGreatDoor
