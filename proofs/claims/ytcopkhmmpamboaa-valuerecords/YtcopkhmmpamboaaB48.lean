/-
  The walk of the document's With; conditions: the form's own reach.
-/
import Derived.Test.YtcopkhmmpamboaaB17
import Derived.Test.YtcopkhmmpamboaaB22
import Derived.Test.YtcopkhmmpamboaaB27
import Derived.Test.YtcopkhmmpamboaaB46
namespace Go.Proofs.Ytcopkhmmpamboaa
open Go.RowKit
set_option linter.unusedVariables false
set_option linter.unusedSimpArgs false

set_option maxRecDepth 100000 in
set_option maxHeartbeats 2000000 in
theorem withD_any (v x : Vl) (vv xx : Value) (B : Nat) (key : ByteArray) (w : World) (hv : IsV w B v vv) (hx : IsV w B x xx) (hBs : B ≤ w.heap.size) :
    Calls Try.prog 16 #[vv, .string key, xx] w fun e w' => ∃ x', e = .returned (.tuple #[x', .int .i64 (withE v key x)]) ∧ Below w.heap.size w w' ∧ (withE v key x = 0 → IsV w' w'.heap.size (withV v.l v.ks key x) x') ∧ (withE v key x ≠ 0 → x' = .agg #[.int .i64 0, .int .i64 0, .string ⟨#[]⟩, .slice none 0 0, .slice none 0 0]) := by
  obtain ⟨k, n, s, l, ks, al, ak, cl, ck, rfl, rfl⟩ := hv.shape
  obtain ⟨xk, xn, xs, xl, xks, xal, xak, xcl, xck, hxv, rfl⟩ := hx.shape
  clear hxv
  obtain ⟨m, hm⟩ : ∃ m, ks.length = m := ⟨_, rfl⟩
  obtain ⟨ln, hln⟩ : ∃ ln, l.length = ln := ⟨_, rfl⟩
  obtain ⟨xm, hxm⟩ : ∃ xm, xks.length = xm := ⟨_, rfl⟩
  obtain ⟨xln, hxln⟩ : ∃ xln, xl.length = xln := ⟨_, rfl⟩
  rw [hm, hln] at hv
  rw [hxm, hxln] at hx
  rw [hm, hln, hxm, hxln]
  obtain ⟨g, hg⟩ : ∃ g, w.heap.size = g := ⟨_, rfl⟩
  obtain ⟨w3, hw3⟩ : ∃ w3, ((w.alloc (.cells #[.int .i64 k, .int .i64 n, .string s, .slice al ln cl, .slice ak m ck] 27)).alloc (.cells #[.int .i64 xk, .int .i64 xn, .string xs, .slice xal xln xcl, .slice xak xm xck] 27)).alloc (.cells #[.int .i64 0, .int .i64 0, .string ⟨#[]⟩, .slice none 0 0, .slice none 0 0] 27) = w3 := ⟨_, rfl⟩
  have hz3 : Wz w w3 g #[.int .i64 k, .int .i64 n, .string s, .slice al ln cl, .slice ak m ck] #[.int .i64 xk, .int .i64 xn, .string xs, .slice xal xln xcl, .slice xak xm xck] #[.int .i64 0, .int .i64 0, .string ⟨#[]⟩, .slice none 0 0, .slice none 0 0] := by
    have TW := Two.mk' w 27 #[.int .i64 k, .int .i64 n, .string s, .slice al ln cl, .slice ak m ck] #[.int .i64 xk, .int .i64 xn, .string xs, .slice xal xln xcl, .slice xak xm xck]
    rw [hg] at TW
    rw [← hw3]
    have h1 := heap_alloc_new ((w.alloc (.cells #[.int .i64 k, .int .i64 n, .string s, .slice al ln cl, .slice ak m ck] 27)).alloc (.cells #[.int .i64 xk, .int .i64 xn, .string xs, .slice xal xln xcl, .slice xak xm xck] 27)) (.cells #[.int .i64 0, .int .i64 0, .string ⟨#[]⟩, .slice none 0 0, .slice none 0 0] 27)
    rw [TW.size] at h1
    have hbb := (Below.refl ((w.alloc (.cells #[.int .i64 k, .int .i64 n, .string s, .slice al ln cl, .slice ak m ck] 27)).alloc (.cells #[.int .i64 xk, .int .i64 xn, .string xs, .slice xal xln xcl, .slice xak xm xck] 27)).heap.size ((w.alloc (.cells #[.int .i64 k, .int .i64 n, .string s, .slice al ln cl, .slice ak m ck] 27)).alloc (.cells #[.int .i64 xk, .int .i64 xn, .string xs, .slice xal xln xcl, .slice xak xm xck] 27))).alloc (Nat.le_refl _) (.cells #[.int .i64 0, .int .i64 0, .string ⟨#[]⟩, .slice none 0 0, .slice none 0 0] 27)
    have hs := TW.size
    refine ⟨(TW.later hbb).1, (TW.later hbb).2, h1, by simp [hs, hg], ?_⟩
    have := TW.below.trans (hbb.mono (by omega))
    rw [hg] at this
    exact this
  have HVV : Hid (∀ u, Below g w u → IsV u B (.mk k n s l ks) (.agg #[.int .i64 k, .int .i64 n, .string s, .slice al ln cl, .slice ak m ck]) ∧ IsV u B x (.agg #[.int .i64 xk, .int .i64 xn, .string xs, .slice xal xln xcl, .slice xak xm xck]) ∧ B ≤ u.heap.size) := hide (fun u hu => ⟨hv.mono (hu.mono (by omega)), hx.mono (hu.mono (by omega)), by have := hu.size; omega⟩)
  have CR := hide (right_ref (.mk k n s l ks) _ B w3 (unhide HVV w3 hz3.below).1 (unhide HVV w3 hz3.below).2.2)
  have CX : Hid (∀ u, Below g w u → _) := hide (fun u hu => right_ref x _ B u (unhide HVV u hu).2.1 (unhide HVV u hu).2.2)
  have HZ3 := hide hz3
  obtain ⟨c0, c1, c2, c3, c4⟩ := row_cell hz3.at0
  have HLN := hide (And.intro hm hln)
  clear hz3 hv hx hm hln hxm hxln
  cases hR : rightB (.mk k n s l ks) with
  | false =>
    have HC : Hid (withE (.mk k n s l ks) key x = 30) := hide (by
      have h : withC (.mk k n s l ks) key x = 30 := by unfold withC; rw [if_neg (by rw [hR]; simp)]
      unfold withE
      rw [h]
      rfl)
    rw [hR] at CR
    clear hR
    cases hX : rightB x with
    | false =>
      rw [hX] at CX
      clear hX
      go_enter Try.func16, Try.ntmps16
      go_wp2_with fail
      refine (unhide CR).mono ?_
      rintro e u3 ⟨rfl, b3⟩
      have HZu := hide ((unhide HZ3).later b3)
      clear b3 CR c0 c1 c2 c3 c4 hw3
      obtain ⟨d0, d1, d2, d3, d4⟩ := row_cell (unhide HZu).at1
      go_wp2_with fail
      refine (unhide CX u3 (unhide HZu).below).mono ?_
      rintro e u4 ⟨rfl, b4⟩
      have HZ4 := hide ((unhide HZu).later b4)
      clear b4 CX d0 d1 d2 d3 d4
      obtain ⟨c0, c1, c2, c3, c4⟩ := row_cell (unhide HZ4).at0
      have ATX : u4.heap[g + 1 + 1]? = some (.cells #[.int .i64 0, .int .i64 0, .string ⟨#[]⟩, .slice none 0 0, .slice none 0 0] 27 (0, 0)) := (unhide HZ4).at2
      obtain ⟨z0, z1, z2, z3, z4⟩ := row_cell ATX
      have fz : ∀ q, u4.frozen? ⟨g + 1 + 1, q, none⟩ = false := fun q => frozen_of_row u4 (g + 1 + 1) q _ _ ATX
      have fz0 := fz 0
      have fz1 := fz 1
      have fz2 := fz 2
      have fz3 := fz 3
      have fz4 := fz 4
      have HAT := hide ATX
      clear fz ATX
      go_wp2_with fail
      have ATX := unhide HAT
      have BW : Below g w u4 := (unhide HZ4).below
      have R9 := five_set u4 (g + 1 + 1) 27 _ _ _ _ _ (.int .i64 0) (.int .i64 0) (.string ⟨#[]⟩) (.slice none 0 0) (.slice none 0 0) ATX
      have B9 := five_below (g := g + 1 + 1) BW (by omega) (.int .i64 0) (.int .i64 0) (.string ⟨#[]⟩) (.slice none 0 0) (.slice none 0 0)
      obtain ⟨w9, hw9⟩ : ∃ w9, (((((u4.setCell ⟨g + 1 + 1, 0, none⟩ (.int .i64 0)).setCell ⟨g + 1 + 1, 1, none⟩ (.int .i64 0)).setCell ⟨g + 1 + 1, 2, none⟩ (.string ⟨#[]⟩)).setCell ⟨g + 1 + 1, 3, none⟩ (.slice none 0 0)).setCell ⟨g + 1 + 1, 4, none⟩ (.slice none 0 0)) = w9 := ⟨_, rfl⟩
      rw [hw9] at R9 B9 ⊢
      obtain ⟨r0, r1, r2, r3, r4⟩ := row_cell R9
      refine bodyPost_ret (v := .tuple #[.agg #[.int .i64 0, .int .i64 0, .string ⟨#[]⟩, .slice none 0 0, .slice none 0 0], .int .i64 30]) (by simp [results, Try.results16, go_sem, r0, r1, r2, r3, r4]) rfl ?_
      rw [hg, unhide HC]
      exact ⟨_, rfl, B9, (fun h => by cases h), fun _ => rfl⟩
    | true =>
      rw [hX] at CX
      clear hX
      go_enter Try.func16, Try.ntmps16
      go_wp2_with fail
      refine (unhide CR).mono ?_
      rintro e u3 ⟨rfl, b3⟩
      have HZu := hide ((unhide HZ3).later b3)
      clear b3 CR c0 c1 c2 c3 c4 hw3
      obtain ⟨d0, d1, d2, d3, d4⟩ := row_cell (unhide HZu).at1
      go_wp2_with fail
      refine (unhide CX u3 (unhide HZu).below).mono ?_
      rintro e u4 ⟨rfl, b4⟩
      have HZ4 := hide ((unhide HZu).later b4)
      clear b4 CX d0 d1 d2 d3 d4
      obtain ⟨c0, c1, c2, c3, c4⟩ := row_cell (unhide HZ4).at0
      have ATX : u4.heap[g + 1 + 1]? = some (.cells #[.int .i64 0, .int .i64 0, .string ⟨#[]⟩, .slice none 0 0, .slice none 0 0] 27 (0, 0)) := (unhide HZ4).at2
      obtain ⟨z0, z1, z2, z3, z4⟩ := row_cell ATX
      have fz : ∀ q, u4.frozen? ⟨g + 1 + 1, q, none⟩ = false := fun q => frozen_of_row u4 (g + 1 + 1) q _ _ ATX
      have fz0 := fz 0
      have fz1 := fz 1
      have fz2 := fz 2
      have fz3 := fz 3
      have fz4 := fz 4
      have HAT := hide ATX
      clear fz ATX
      go_wp2_with fail
      have ATX := unhide HAT
      have BW : Below g w u4 := (unhide HZ4).below
      have R9 := five_set u4 (g + 1 + 1) 27 _ _ _ _ _ (.int .i64 0) (.int .i64 0) (.string ⟨#[]⟩) (.slice none 0 0) (.slice none 0 0) ATX
      have B9 := five_below (g := g + 1 + 1) BW (by omega) (.int .i64 0) (.int .i64 0) (.string ⟨#[]⟩) (.slice none 0 0) (.slice none 0 0)
      obtain ⟨w9, hw9⟩ : ∃ w9, (((((u4.setCell ⟨g + 1 + 1, 0, none⟩ (.int .i64 0)).setCell ⟨g + 1 + 1, 1, none⟩ (.int .i64 0)).setCell ⟨g + 1 + 1, 2, none⟩ (.string ⟨#[]⟩)).setCell ⟨g + 1 + 1, 3, none⟩ (.slice none 0 0)).setCell ⟨g + 1 + 1, 4, none⟩ (.slice none 0 0)) = w9 := ⟨_, rfl⟩
      rw [hw9] at R9 B9 ⊢
      obtain ⟨r0, r1, r2, r3, r4⟩ := row_cell R9
      refine bodyPost_ret (v := .tuple #[.agg #[.int .i64 0, .int .i64 0, .string ⟨#[]⟩, .slice none 0 0, .slice none 0 0], .int .i64 30]) (by simp [results, Try.results16, go_sem, r0, r1, r2, r3, r4]) rfl ?_
      rw [hg, unhide HC]
      exact ⟨_, rfl, B9, (fun h => by cases h), fun _ => rfl⟩
  | true =>
    cases hX : rightB x with
    | false =>
      have HC : Hid (withE (.mk k n s l ks) key x = 30) := hide (by
        have h : withC (.mk k n s l ks) key x = 30 := by unfold withC; rw [if_neg (by rw [hX]; simp)]
        unfold withE
        rw [h]
        rfl)
      rw [hR] at CR
      rw [hX] at CX
      clear hR hX
      go_enter Try.func16, Try.ntmps16
      go_wp2_with fail
      refine (unhide CR).mono ?_
      rintro e u3 ⟨rfl, b3⟩
      have HZu := hide ((unhide HZ3).later b3)
      clear b3 CR c0 c1 c2 c3 c4 hw3
      obtain ⟨d0, d1, d2, d3, d4⟩ := row_cell (unhide HZu).at1
      go_wp2_with fail
      refine (unhide CX u3 (unhide HZu).below).mono ?_
      rintro e u4 ⟨rfl, b4⟩
      have HZ4 := hide ((unhide HZu).later b4)
      clear b4 CX d0 d1 d2 d3 d4
      obtain ⟨c0, c1, c2, c3, c4⟩ := row_cell (unhide HZ4).at0
      have ATX : u4.heap[g + 1 + 1]? = some (.cells #[.int .i64 0, .int .i64 0, .string ⟨#[]⟩, .slice none 0 0, .slice none 0 0] 27 (0, 0)) := (unhide HZ4).at2
      obtain ⟨z0, z1, z2, z3, z4⟩ := row_cell ATX
      have fz : ∀ q, u4.frozen? ⟨g + 1 + 1, q, none⟩ = false := fun q => frozen_of_row u4 (g + 1 + 1) q _ _ ATX
      have fz0 := fz 0
      have fz1 := fz 1
      have fz2 := fz 2
      have fz3 := fz 3
      have fz4 := fz 4
      have HAT := hide ATX
      clear fz ATX
      go_wp2_with fail
      have ATX := unhide HAT
      have BW : Below g w u4 := (unhide HZ4).below
      have R9 := five_set u4 (g + 1 + 1) 27 _ _ _ _ _ (.int .i64 0) (.int .i64 0) (.string ⟨#[]⟩) (.slice none 0 0) (.slice none 0 0) ATX
      have B9 := five_below (g := g + 1 + 1) BW (by omega) (.int .i64 0) (.int .i64 0) (.string ⟨#[]⟩) (.slice none 0 0) (.slice none 0 0)
      obtain ⟨w9, hw9⟩ : ∃ w9, (((((u4.setCell ⟨g + 1 + 1, 0, none⟩ (.int .i64 0)).setCell ⟨g + 1 + 1, 1, none⟩ (.int .i64 0)).setCell ⟨g + 1 + 1, 2, none⟩ (.string ⟨#[]⟩)).setCell ⟨g + 1 + 1, 3, none⟩ (.slice none 0 0)).setCell ⟨g + 1 + 1, 4, none⟩ (.slice none 0 0)) = w9 := ⟨_, rfl⟩
      rw [hw9] at R9 B9 ⊢
      obtain ⟨r0, r1, r2, r3, r4⟩ := row_cell R9
      refine bodyPost_ret (v := .tuple #[.agg #[.int .i64 0, .int .i64 0, .string ⟨#[]⟩, .slice none 0 0, .slice none 0 0], .int .i64 30]) (by simp [results, Try.results16, go_sem, r0, r1, r2, r3, r4]) rfl ?_
      rw [hg, unhide HC]
      exact ⟨_, rfl, B9, (fun h => by cases h), fun _ => rfl⟩
    | true =>
      by_cases h5 : k = 5
      · subst h5
        by_cases h32 : key.size ≤ 32
        · have hk : ¬ (32 : Int) < (key.size : Int) := by omega
          have HWC : Hid (withE (.mk 5 n s l ks) key x = if rightB (withV l ks key x) = true then 0 else 33) := hide (by
            have h : withC (.mk 5 n s l ks) key x = 0 := by
              unfold withC
              rw [if_pos ⟨hR, hX⟩, if_pos rfl, if_pos h32]
            unfold withE
            rw [if_pos h])
          have HPW : Hid (putVl l ks key x = withV l ks key x) := hide (put_with l ks key x (right_keys hR).1 (right_keys hR).2)
          have HLL : Hid (ks.length = l.length ∧ ks.length ≤ 5000 ∧ key.size ≤ 32) := hide ⟨(right_keys hR).2, by
            have h := few_right hR
            unfold fewB at h
            have h1 := of_decide_eq_true h
            simp only [cnt] at h1
            have h2 := len_cntL l
            have h3 := (right_keys hR).2
            omega, h32⟩
          rw [hR] at CR
          rw [hX] at CX
          clear hR hX h32
          go_enter Try.func16, Try.ntmps16
          go_wp2_with fail
          refine (unhide CR).mono ?_
          rintro e u3 ⟨rfl, b3⟩
          have HZu := hide ((unhide HZ3).later b3)
          clear b3 CR c0 c1 c2 c3 c4 hw3
          obtain ⟨d0, d1, d2, d3, d4⟩ := row_cell (unhide HZu).at1
          go_wp2_with fail
          refine (unhide CX u3 (unhide HZu).below).mono ?_
          rintro e u4 ⟨rfl, b4⟩
          have HZ4 := hide ((unhide HZu).later b4)
          clear b4 CX d0 d1 d2 d3 d4
          obtain ⟨c0, c1, c2, c3, c4⟩ := row_cell (unhide HZ4).at0
          obtain ⟨d0, d1, d2, d3, d4⟩ := row_cell (unhide HZ4).at1
          have CP := put_any 5 n s l ks al ak cl ck x _ (fun b => b < B) key u4 (by rw [(unhide HLN).1, (unhide HLN).2]; exact (unhide HVV u4 (unhide HZ4).below).1) (unhide HLL).1 (unhide HVV u4 (unhide HZ4).below).2.1 (fun b hb => Nat.lt_of_lt_of_le hb (unhide HVV u4 (unhide HZ4).below).2.2) (unhide HLL).2.1 (by have := (unhide HLL).2.2; omega)
          rw [(unhide HLN).1, (unhide HLN).2, unhide HPW] at CP
          have CP := hide CP
          go_wp2_with fail
          refine (unhide CP).mono ?_
          rintro e u5 ⟨x5, rfl, p5', b5⟩
          have p5 : IsV u5 u5.heap.size (withV l ks key x) x5 := p5'.isV (fun b hb => by
            rcases hb with h | h
            · exact Nat.lt_of_lt_of_le h (Nat.le_trans (unhide HVV u4 (unhide HZ4).below).2.2 b5.size)
            · exact h.2)
          clear p5'
          obtain ⟨k5, n5, s5, l5, ks5, al5, ak5, cl5, ck5, _, hx5⟩ := p5.shape
          obtain ⟨q0, q1, q2, q3, q4, q5, q6, q7, q8, rfl⟩ : ∃ q0 q1 q2 q3 q4 q5 q6 q7 q8, x5 = .agg #[.int .i64 q0, .int .i64 q1, .string q2, .slice q3 q4 q5, .slice q6 q7 q8] := ⟨_, _, _, _, _, _, _, _, _, hx5⟩
          have HZ5 := hide ((unhide HZ4).later b5)
          have CS := hide (sizedD_any (withV l ks key x) _ u5.heap.size u5 p5 (Nat.le_refl _))
          clear hx5 b5 p5 CP c0 c1 c2 c3 c4 d0 d1 d2 d3 d4
          have hwe := unhide HWC
          rw [← hwe] at CS
          obtain ⟨E, hE⟩ : ∃ E, withE (.mk 5 n s l ks) key x = E := ⟨_, rfl⟩
          rw [hE] at CS hwe
          have HE0 := hide hE
          have HEE := hide hwe
          clear hE hwe HWC
          go_wp2_with fail
          refine (unhide CS).mono ?_
          rintro e u6 ⟨x6, rfl, b6, p6, z6⟩
          obtain ⟨y0, y1, y2, a3, n3, p3, a4, n4, p4, rfl⟩ : ∃ y0 y1 y2 a3 n3 p3 a4 n4 p4, x6 = .agg #[.int .i64 y0, .int .i64 y1, .string y2, .slice a3 n3 p3, .slice a4 n4 p4] := by
            cases hR : rightB (withV l ks key x) with
            | true =>
              obtain ⟨k4, n4, s4, l4, ks4, al4, ak4, cl4, ck4, _, h⟩ := (p6 hR).shape
              exact ⟨_, _, _, _, _, _, _, _, _, h⟩
            | false => exact ⟨_, _, _, _, _, _, _, _, _, z6 hR⟩
          have HZ6 := hide ((unhide HZ5).later b6)
          have HF := hide (And.intro p6 (And.intro z6 (And.intro b6.size (unhide HZ5).size)))
          clear b6 p6 z6 CS
          have ATX : u6.heap[g + 1 + 1]? = some (.cells #[.int .i64 0, .int .i64 0, .string ⟨#[]⟩, .slice none 0 0, .slice none 0 0] 27 (0, 0)) := (unhide HZ6).at2
          obtain ⟨z0, z1, z2, z3, z4⟩ := row_cell ATX
          have fz : ∀ q, u6.frozen? ⟨g + 1 + 1, q, none⟩ = false := fun q => frozen_of_row u6 (g + 1 + 1) q _ _ ATX
          have fz0 := fz 0
          have fz1 := fz 1
          have fz2 := fz 2
          have fz3 := fz 3
          have fz4 := fz 4
          have HAT := hide ATX
          clear fz ATX
          go_wp2_with fail
          have ATX := unhide HAT
          have BW : Below g w u6 := (unhide HZ6).below
          have R9 := five_set u6 (g + 1 + 1) 27 _ _ _ _ _ (.int .i64 y0) (.int .i64 y1) (.string y2) (.slice a3 n3 p3) (.slice a4 n4 p4) ATX
          have O9 := five_other u6 (g + 1 + 1) (x0 := .int .i64 y0) (x1 := .int .i64 y1) (x2 := .string y2) (x3 := .slice a3 n3 p3) (x4 := .slice a4 n4 p4)
          have S9 : (((((u6.setCell ⟨g + 1 + 1, 0, none⟩ (.int .i64 y0)).setCell ⟨g + 1 + 1, 1, none⟩ (.int .i64 y1)).setCell ⟨g + 1 + 1, 2, none⟩ (.string y2)).setCell ⟨g + 1 + 1, 3, none⟩ (.slice a3 n3 p3)).setCell ⟨g + 1 + 1, 4, none⟩ (.slice a4 n4 p4)).heap.size = u6.heap.size := by simp
          obtain ⟨w9, hw9⟩ : ∃ w9, (((((u6.setCell ⟨g + 1 + 1, 0, none⟩ (.int .i64 y0)).setCell ⟨g + 1 + 1, 1, none⟩ (.int .i64 y1)).setCell ⟨g + 1 + 1, 2, none⟩ (.string y2)).setCell ⟨g + 1 + 1, 3, none⟩ (.slice a3 n3 p3)).setCell ⟨g + 1 + 1, 4, none⟩ (.slice a4 n4 p4)) = w9 := ⟨_, rfl⟩
          rw [hw9] at R9 S9 ⊢
          have B9 : Below g w w9 := by rw [← hw9]; exact five_below BW (by omega) _ _ _ _ _
          obtain ⟨r0, r1, r2, r3, r4⟩ := row_cell R9
          refine bodyPost_ret (v := .tuple #[.agg #[.int .i64 y0, .int .i64 y1, .string y2, .slice a3 n3 p3, .slice a4 n4 p4], .int .i64 E]) (by simp [results, Try.results16, go_sem, r0, r1, r2, r3, r4]) rfl ?_
          obtain ⟨p6, z6, sz6, sz5⟩ := unhide HF
          have hC := unhide HEE
          rw [hg, unhide HE0]
          refine ⟨_, rfl, B9, fun h => ?_, fun h => ?_⟩
          · have hR : rightB (withV l ks key x) = true := by
              cases hR : rightB (withV l ks key x) with
              | true => rfl
              | false => rw [hR, h] at hC; simp at hC
            exact IsP.to (fun q hq => by rw [← hw9]; exact O9 q (by have h1 := hq.1; omega)) (fun q hq => by have := hq.2; omega) (p6 hR).1
          · cases hR : rightB (withV l ks key x) with
            | true => rw [hR] at hC; simp at hC; exact absurd hC h
            | false => exact z6 hR
        · have hk : (32 : Int) < (key.size : Int) := by omega
          have HC : Hid (withE (.mk 5 n s l ks) key x = 32) := hide (by
            have h : withC (.mk 5 n s l ks) key x = 32 := by unfold withC; rw [if_pos ⟨hR, hX⟩, if_pos rfl, if_neg h32]
            unfold withE
            rw [h]
            rfl)
          rw [hR] at CR
          rw [hX] at CX
          clear hR hX h32
          go_enter Try.func16, Try.ntmps16
          go_wp2_with fail
          refine (unhide CR).mono ?_
          rintro e u3 ⟨rfl, b3⟩
          have HZu := hide ((unhide HZ3).later b3)
          clear b3 CR c0 c1 c2 c3 c4 hw3
          obtain ⟨d0, d1, d2, d3, d4⟩ := row_cell (unhide HZu).at1
          go_wp2_with fail
          refine (unhide CX u3 (unhide HZu).below).mono ?_
          rintro e u4 ⟨rfl, b4⟩
          have HZ4 := hide ((unhide HZu).later b4)
          clear b4 CX d0 d1 d2 d3 d4
          obtain ⟨c0, c1, c2, c3, c4⟩ := row_cell (unhide HZ4).at0
          have ATX : u4.heap[g + 1 + 1]? = some (.cells #[.int .i64 0, .int .i64 0, .string ⟨#[]⟩, .slice none 0 0, .slice none 0 0] 27 (0, 0)) := (unhide HZ4).at2
          obtain ⟨z0, z1, z2, z3, z4⟩ := row_cell ATX
          have fz : ∀ q, u4.frozen? ⟨g + 1 + 1, q, none⟩ = false := fun q => frozen_of_row u4 (g + 1 + 1) q _ _ ATX
          have fz0 := fz 0
          have fz1 := fz 1
          have fz2 := fz 2
          have fz3 := fz 3
          have fz4 := fz 4
          have HAT := hide ATX
          clear fz ATX
          go_wp2_with fail
          have ATX := unhide HAT
          have BW : Below g w u4 := (unhide HZ4).below
          have R9 := five_set u4 (g + 1 + 1) 27 _ _ _ _ _ (.int .i64 0) (.int .i64 0) (.string ⟨#[]⟩) (.slice none 0 0) (.slice none 0 0) ATX
          have B9 := five_below (g := g + 1 + 1) BW (by omega) (.int .i64 0) (.int .i64 0) (.string ⟨#[]⟩) (.slice none 0 0) (.slice none 0 0)
          obtain ⟨w9, hw9⟩ : ∃ w9, (((((u4.setCell ⟨g + 1 + 1, 0, none⟩ (.int .i64 0)).setCell ⟨g + 1 + 1, 1, none⟩ (.int .i64 0)).setCell ⟨g + 1 + 1, 2, none⟩ (.string ⟨#[]⟩)).setCell ⟨g + 1 + 1, 3, none⟩ (.slice none 0 0)).setCell ⟨g + 1 + 1, 4, none⟩ (.slice none 0 0)) = w9 := ⟨_, rfl⟩
          rw [hw9] at R9 B9 ⊢
          obtain ⟨r0, r1, r2, r3, r4⟩ := row_cell R9
          refine bodyPost_ret (v := .tuple #[.agg #[.int .i64 0, .int .i64 0, .string ⟨#[]⟩, .slice none 0 0, .slice none 0 0], .int .i64 32]) (by simp [results, Try.results16, go_sem, r0, r1, r2, r3, r4]) rfl ?_
          rw [hg, unhide HC]
          exact ⟨_, rfl, B9, (fun h => by cases h), fun _ => rfl⟩
      · have HC : Hid (withE (.mk k n s l ks) key x = 31) := hide (by
          have h : withC (.mk k n s l ks) key x = 31 := by unfold withC; rw [if_pos ⟨hR, hX⟩, if_neg h5]
          unfold withE
          rw [h]
          rfl)
        rw [hR] at CR
        rw [hX] at CX
        clear hR hX
        go_enter Try.func16, Try.ntmps16
        go_wp2_with fail
        refine (unhide CR).mono ?_
        rintro e u3 ⟨rfl, b3⟩
        have HZu := hide ((unhide HZ3).later b3)
        clear b3 CR c0 c1 c2 c3 c4 hw3
        obtain ⟨d0, d1, d2, d3, d4⟩ := row_cell (unhide HZu).at1
        go_wp2_with fail
        refine (unhide CX u3 (unhide HZu).below).mono ?_
        rintro e u4 ⟨rfl, b4⟩
        have HZ4 := hide ((unhide HZu).later b4)
        clear b4 CX d0 d1 d2 d3 d4
        obtain ⟨c0, c1, c2, c3, c4⟩ := row_cell (unhide HZ4).at0
        have ATX : u4.heap[g + 1 + 1]? = some (.cells #[.int .i64 0, .int .i64 0, .string ⟨#[]⟩, .slice none 0 0, .slice none 0 0] 27 (0, 0)) := (unhide HZ4).at2
        obtain ⟨z0, z1, z2, z3, z4⟩ := row_cell ATX
        have fz : ∀ q, u4.frozen? ⟨g + 1 + 1, q, none⟩ = false := fun q => frozen_of_row u4 (g + 1 + 1) q _ _ ATX
        have fz0 := fz 0
        have fz1 := fz 1
        have fz2 := fz 2
        have fz3 := fz 3
        have fz4 := fz 4
        have HAT := hide ATX
        clear fz ATX
        go_wp2_with fail
        have ATX := unhide HAT
        have BW : Below g w u4 := (unhide HZ4).below
        have R9 := five_set u4 (g + 1 + 1) 27 _ _ _ _ _ (.int .i64 0) (.int .i64 0) (.string ⟨#[]⟩) (.slice none 0 0) (.slice none 0 0) ATX
        have B9 := five_below (g := g + 1 + 1) BW (by omega) (.int .i64 0) (.int .i64 0) (.string ⟨#[]⟩) (.slice none 0 0) (.slice none 0 0)
        obtain ⟨w9, hw9⟩ : ∃ w9, (((((u4.setCell ⟨g + 1 + 1, 0, none⟩ (.int .i64 0)).setCell ⟨g + 1 + 1, 1, none⟩ (.int .i64 0)).setCell ⟨g + 1 + 1, 2, none⟩ (.string ⟨#[]⟩)).setCell ⟨g + 1 + 1, 3, none⟩ (.slice none 0 0)).setCell ⟨g + 1 + 1, 4, none⟩ (.slice none 0 0)) = w9 := ⟨_, rfl⟩
        rw [hw9] at R9 B9 ⊢
        obtain ⟨r0, r1, r2, r3, r4⟩ := row_cell R9
        refine bodyPost_ret (v := .tuple #[.agg #[.int .i64 0, .int .i64 0, .string ⟨#[]⟩, .slice none 0 0, .slice none 0 0], .int .i64 31]) (by simp [results, Try.results16, go_sem, r0, r1, r2, r3, r4]) rfl ?_
        rw [hg, unhide HC]
        exact ⟨_, rfl, B9, (fun h => by cases h), fun _ => rfl⟩
end Go.Proofs.Ytcopkhmmpamboaa
