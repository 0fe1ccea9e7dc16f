/-
  The walk of ValueOrders; conditions: the form's own reach, the table of strconv as the program's text lays it.
-/
import Derived.Test.YtfbpaeddfonfbaaDoorOrdT
import Derived.Test.YtfbpaeddfonfbaaDoorBPrt
import Derived.Test.YtfbpaeddfonfbaaDoorVShown
import Derived.Deep.RegionHeld
import Derived.Deep.Cut
namespace Go.Proofs.YtfbpaeddfonfbaaDoor
open Go.RowKit
set_option linter.unusedVariables false
set_option linter.unusedSimpArgs false

theorem keepO {v w1 w2 : World} {P : World → Prop} (H : Hid (∀ w', Below v.heap.size v w' → P w')) (h : Below v.heap.size v w1) (hb : Below w1.heap.size w1 w2) : Below v.heap.size v w2 ∧ P w2 :=
  ⟨h.trans (hb.mono h.size), unhide H _ (h.trans (hb.mono h.size))⟩

theorem text_eqO {a b : ByteArray} (h : a.data.toList = b.data.toList) : a = b := Go.WideShapes.bytes_inj h

theorem shapeO {w : World} {P : Nat → Prop} {v : Vl} {x : Value} (h : IsP w P v x) : ∃ p0 p1 p2 p3 p4 p5 p6 p7 p8, x = .agg #[.int .i64 p0, .int .i64 p1, .string p2, .slice p3 p4 p5, .slice p6 p7 p8] := by
  obtain ⟨k, n, s, l, ks, al, ak, cl, ck, _, e⟩ := h.shape
  exact ⟨_, _, _, _, _, _, _, _, _, e⟩

theorem three_lex {x y : Int} (h : x = -1 ∨ x = 0 ∨ x = 1) (h' : y = -1 ∨ y = 0 ∨ y = 1) : (if x ≠ 0 then x else y) = -1 ∨ (if x ≠ 0 then x else y) = 0 ∨ (if x ≠ 0 then x else y) = 1 := by
  by_cases e : x = 0
  · rw [if_neg (by omega)]; exact h'
  · rw [if_pos e]; exact h

theorem cmpI_three (a b : Int) : cmpI a b = -1 ∨ cmpI a b = 0 ∨ cmpI a b = 1 := by unfold cmpI; split <;> first | omega | (split <;> omega)
theorem cmpS_3 (a b : ByteArray) : cmpS a b = -1 ∨ cmpS a b = 0 ∨ cmpS a b = 1 := by
  rcases cmpS_three a b with h | h | h
  · exact .inl h.1
  · exact .inr (.inl h.1)
  · exact .inr (.inr h.1)

theorem ordL_three : ∀ (r : Bool) (l : List Vl) (ks : List ByteArray) (l' : List Vl) (ks' : List ByteArray), ordL r l ks l' ks' = -1 ∨ ordL r l ks l' ks' = 0 ∨ ordL r l ks l' ks' = 1
  | _, [], _, [], _ => by simp [ordL]
  | _, [], _, _ :: _, _ => by simp [ordL]
  | _, _ :: _, _, [], _ => by simp [ordL]
  | r, .mk k n s l q :: xs, ks, .mk k' n' s' l' q' :: ys, ks' => by
    have h1 := ordL_three (decide (k = 5)) l q l' q'
    have h2 := ordL_three r xs ks.tail ys ks'.tail
    have h0 : ord (.mk k n s l q) (.mk k' n' s' l' q') = -1 ∨ ord (.mk k n s l q) (.mk k' n' s' l' q') = 0 ∨ ord (.mk k n s l q) (.mk k' n' s' l' q') = 1 := by
      unfold ord
      exact three_lex (cmpI_three _ _) (three_lex (cmpI_three _ _) (three_lex (cmpS_3 _ _) h1))
    rw [ordL_cons]
    cases r with
    | false =>
      simp only [Bool.false_eq_true, false_and, if_false]
      exact three_lex h0 h2
    | true =>
      simp only [true_and]
      exact three_lex (cmpS_3 _ _) (three_lex h0 h2)

theorem ord_three (a b : Vl) : ord a b = -1 ∨ ord a b = 0 ∨ ord a b = 1 := by
  cases a
  cases b
  unfold ord
  exact three_lex (cmpI_three _ _) (three_lex (cmpI_three _ _) (three_lex (cmpS_3 _ _) (ordL_three _ _ _ _ _)))

theorem ord0_right {a b : Vl} (ha : rightB a = true) (hb : rightB b = true) : ord0 a b = ord a b := by unfold ord0; rw [ha, hb]; rfl

set_option maxRecDepth 100000 in
set_option maxHeartbeats 8000000 in
theorem orders_any (a b c : Vl) (aa bb cc : Value) (B : Nat) (w : World) (ha : IsV w B a aa) (hb : IsV w B b bb) (hc : IsV w B c cc) (hBs : B ≤ w.heap.size) (hP : PowAt w) (hG : 0 < w.heap.size) :
    Calls Tryd.prog 4 #[aa, bb, cc] w fun e w' => e = .returned (.bool true) ∧ Below w.heap.size w w' := by
  obtain ⟨ya0, ya1, ya2, ya3, ya4, ya5, ya6, ya7, ya8, rfl⟩ := shapeO ha
  obtain ⟨yb0, yb1, yb2, yb3, yb4, yb5, yb6, yb7, yb8, rfl⟩ := shapeO hb
  obtain ⟨yc0, yc1, yc2, yc3, yc4, yc5, yc6, yc7, yc8, rfl⟩ := shapeO hc
  obtain ⟨g, hg⟩ : ∃ g, w.heap.size = g := ⟨_, rfl⟩
  obtain ⟨w3, hw3⟩ : ∃ w3, ((w.alloc (.cells #[.int .i64 ya0, .int .i64 ya1, .string ya2, .slice ya3 ya4 ya5, .slice ya6 ya7 ya8] 25)).alloc (.cells #[.int .i64 yb0, .int .i64 yb1, .string yb2, .slice yb3 yb4 yb5, .slice yb6 yb7 yb8] 25)).alloc (.cells #[.int .i64 yc0, .int .i64 yc1, .string yc2, .slice yc3 yc4 yc5, .slice yc6 yc7 yc8] 25) = w3 := ⟨_, rfl⟩
  have hz : w3.heap.size = g + 3 := by rw [← hw3, ← hg]; simp
  have hbl : Below g w w3 := by rw [← hw3, ← hg]; exact (((Below.refl _ _).alloc (Nat.le_refl _) _).alloc (by simp) _).alloc (by simp; omega) _
  have r0 : w3.heap[g]? = some (.cells #[.int .i64 ya0, .int .i64 ya1, .string ya2, .slice ya3 ya4 ya5, .slice ya6 ya7 ya8] 25 (0, 0)) := by rw [← hw3, heap_alloc_old _ _ (by simp; omega), heap_alloc_old _ _ (by simp; omega), ← hg]; exact heap_alloc_new w _
  have r1 : w3.heap[g + 1]? = some (.cells #[.int .i64 yb0, .int .i64 yb1, .string yb2, .slice yb3 yb4 yb5, .slice yb6 yb7 yb8] 25 (0, 0)) := by rw [← hw3, heap_alloc_old _ _ (by simp; omega), show g + 1 = (w.alloc (.cells #[.int .i64 ya0, .int .i64 ya1, .string ya2, .slice ya3 ya4 ya5, .slice ya6 ya7 ya8] 25)).heap.size by simp; omega]; exact heap_alloc_new _ _
  have r2 : w3.heap[g + 2]? = some (.cells #[.int .i64 yc0, .int .i64 yc1, .string yc2, .slice yc3 yc4 yc5, .slice yc6 yc7 yc8] 25 (0, 0)) := by rw [← hw3, show g + 2 = ((w.alloc (.cells #[.int .i64 ya0, .int .i64 ya1, .string ya2, .slice ya3 ya4 ya5, .slice ya6 ya7 ya8] 25)).alloc (.cells #[.int .i64 yb0, .int .i64 yb1, .string yb2, .slice yb3 yb4 yb5, .slice yb6 yb7 yb8] 25)).heap.size by simp; omega]; exact heap_alloc_new _ _
  have HT : Hid (∀ u, Below w3.heap.size w3 u → (u.heap[g]? = some (.cells #[.int .i64 ya0, .int .i64 ya1, .string ya2, .slice ya3 ya4 ya5, .slice ya6 ya7 ya8] 25 (0, 0)) ∧ u.heap[g + 1]? = some (.cells #[.int .i64 yb0, .int .i64 yb1, .string yb2, .slice yb3 yb4 yb5, .slice yb6 yb7 yb8] 25 (0, 0)) ∧ u.heap[g + 2]? = some (.cells #[.int .i64 yc0, .int .i64 yc1, .string yc2, .slice yc3 yc4 yc5, .slice yc6 yc7 yc8] 25 (0, 0))) ∧ (IsV u B a (.agg #[.int .i64 ya0, .int .i64 ya1, .string ya2, .slice ya3 ya4 ya5, .slice ya6 ya7 ya8]) ∧ IsV u B b (.agg #[.int .i64 yb0, .int .i64 yb1, .string yb2, .slice yb3 yb4 yb5, .slice yb6 yb7 yb8]) ∧ IsV u B c (.agg #[.int .i64 yc0, .int .i64 yc1, .string yc2, .slice yc3 yc4 yc5, .slice yc6 yc7 yc8])) ∧ B ≤ u.heap.size ∧ PowAt u ∧ Below g w u ∧ (g < u.heap.size ∧ g + 1 < u.heap.size ∧ g + 2 < u.heap.size)) := hide (fun u hu => by
    have h1 : Below g w u := hbl.trans (hu.mono (by omega))
    have h2 : Below B w u := h1.mono (by omega)
    have h3 := hu.size
    exact ⟨⟨(hu.block g (by omega)).trans r0, (hu.block (g + 1) (by omega)).trans r1, (hu.block (g + 2) (by omega)).trans r2⟩, ⟨ha.mono h2, hb.mono h2, hc.mono h2⟩, by omega, hP.later h1 (by omega), h1, by omega⟩)
  have HGG : Hid (0 < g) := hide (by omega)
  have HG := hide hg
  clear ha hb hc hP hbl r0 r1 r2 hz
  go_enter Tryd.func4, Tryd.ntmps4
  go_wp2_with fail
  refine (shown_any w3).mono ?_
  rintro e u0 ⟨rfl, b0⟩
  have HX0 := hide b0
  clear b0 hw3
  obtain ⟨Ra, hRa⟩ : ∃ R, rightB a = R := ⟨_, rfl⟩
  have HRa := hide hRa
  clear hRa
  obtain ⟨Rb, hRb⟩ : ∃ R, rightB b = R := ⟨_, rfl⟩
  have HRb := hide hRb
  clear hRb
  obtain ⟨Rc, hRc⟩ : ∃ R, rightB c = R := ⟨_, rfl⟩
  have HRc := hide hRc
  clear hRc
  obtain ⟨c0, c1, c2, c3, c4⟩ := row_cell (unhide HT u0 (unhide HX0)).1.1
  have zc := (unhide HT u0 (unhide HX0)).2.2.2.2.2.1
  have CW := right_code a _ B u0 (unhide HT u0 (unhide HX0)).2.1.1 (unhide HT u0 (unhide HX0)).2.2.1
  rw [unhide HRa] at CW
  have CW := hide CW
  go_wp2_with fail
  refine (unhide CW).mono ?_
  rintro e u1 ⟨rfl, b1⟩
  have HX1 := hide ((unhide HX0).trans (b1.mono (unhide HX0).size))
  clear b1 CW c0 c1 c2 c3 c4 zc
  obtain ⟨c0, c1, c2, c3, c4⟩ := row_cell (unhide HT u1 (unhide HX1)).1.2.1
  have zc := (unhide HT u1 (unhide HX1)).2.2.2.2.2.2.1
  have CW := right_code b _ B u1 (unhide HT u1 (unhide HX1)).2.1.2.1 (unhide HT u1 (unhide HX1)).2.2.1
  rw [unhide HRb] at CW
  have CW := hide CW
  go_wp2_with fail
  refine (unhide CW).mono ?_
  rintro e u2 ⟨rfl, b1⟩
  have HX2 := hide ((unhide HX1).trans (b1.mono (unhide HX1).size))
  clear b1 CW c0 c1 c2 c3 c4 zc
  obtain ⟨c0, c1, c2, c3, c4⟩ := row_cell (unhide HT u2 (unhide HX2)).1.2.2
  have zc := (unhide HT u2 (unhide HX2)).2.2.2.2.2.2.2
  have CW := right_code c _ B u2 (unhide HT u2 (unhide HX2)).2.1.2.2 (unhide HT u2 (unhide HX2)).2.2.1
  rw [unhide HRc] at CW
  have CW := hide CW
  go_wp2_with fail
  refine (unhide CW).mono ?_
  rintro e u3 ⟨rfl, b1⟩
  have HX3 := hide ((unhide HX2).trans (b1.mono (unhide HX2).size))
  clear b1 CW c0 c1 c2 c3 c4 zc
  by_cases hall : Ra = true ∧ Rb = true ∧ Rc = true
  rotate_left
  · have HF := hide (unhide HT u3 (unhide HX3)).2.2.2.2.1
    have hall' : Ra = false ∨ (Ra = true ∧ Rb = false) ∨ (Ra = true ∧ Rb = true ∧ Rc = false) := by
      cases Ra <;> cases Rb <;> cases Rc <;> simp at hall ⊢
    clear hall
    rcases hall' with rfl | ⟨rfl, rfl⟩ | ⟨rfl, rfl, rfl⟩
    all_goals
      go_wp2_with fail
      go_ret
      exact ⟨rfl, by rw [unhide HG]; exact unhide HF⟩
  obtain ⟨rfl, rfl, rfl⟩ := hall
  obtain ⟨X, hX⟩ : ∃ X, ord a b = X := ⟨_, rfl⟩
  obtain ⟨Y, hY⟩ : ∃ Y, ord b a = Y := ⟨_, rfl⟩
  obtain ⟨Z, hZ⟩ : ∃ Z, ord b c = Z := ⟨_, rfl⟩
  obtain ⟨U, hU⟩ : ∃ U, ord a c = U := ⟨_, rfl⟩
  have HXY : Hid (X = -Y ∧ Tr X Z U ∧ (X = -1 ∨ X = 0 ∨ X = 1) ∧ (Z = -1 ∨ Z = 0 ∨ Z = 1) ∧ (U = -1 ∨ U = 0 ∨ U = 1) ∧ (X = 0 ↔ txt a = txt b)) := hide (by
    rw [← hX, ← hY, ← hZ, ← hU]
    exact ⟨ord_neg a b, ord_tr a b c, ord_three _ _, ord_three _ _, ord_three _ _, txt_ord (unhide HRa) (unhide HRb)⟩)
  have HXX := hide hX
  have HYY := hide hY
  have HZZ := hide hZ
  have HUU := hide hU
  clear hX hY hZ hU
  obtain ⟨c0, c1, c2, c3, c4⟩ := row_cell (unhide HT u3 (unhide HX3)).1.1
  have zc := (unhide HT u3 (unhide HX3)).2.2.2.2.2.1
  obtain ⟨d0, d1, d2, d3, d4⟩ := row_cell (unhide HT u3 (unhide HX3)).1.2.1
  have zd := (unhide HT u3 (unhide HX3)).2.2.2.2.2.2.1
  have CW := compare_code a b _ _ B u3 (unhide HT u3 (unhide HX3)).2.1.1 (unhide HT u3 (unhide HX3)).2.1.2.1 (unhide HT u3 (unhide HX3)).2.2.1
  rw [ord0_right (unhide HRa) (unhide HRb), unhide HXX] at CW
  have CW := hide CW
  go_wp2_with fail
  refine (unhide CW).mono ?_
  rintro e u4 ⟨rfl, b1⟩
  have HX4 := hide ((unhide HX3).trans (b1.mono (unhide HX3).size))
  clear b1 CW c0 c1 c2 c3 c4 zc d0 d1 d2 d3 d4 zd
  obtain ⟨c0, c1, c2, c3, c4⟩ := row_cell (unhide HT u4 (unhide HX4)).1.2.1
  have zc := (unhide HT u4 (unhide HX4)).2.2.2.2.2.2.1
  obtain ⟨d0, d1, d2, d3, d4⟩ := row_cell (unhide HT u4 (unhide HX4)).1.1
  have zd := (unhide HT u4 (unhide HX4)).2.2.2.2.2.1
  have CW := compare_code b a _ _ B u4 (unhide HT u4 (unhide HX4)).2.1.2.1 (unhide HT u4 (unhide HX4)).2.1.1 (unhide HT u4 (unhide HX4)).2.2.1
  rw [ord0_right (unhide HRb) (unhide HRa), unhide HYY] at CW
  have CW := hide CW
  go_wp2_with fail
  refine (unhide CW).mono ?_
  rintro e u5 ⟨rfl, b1⟩
  have HX5 := hide ((unhide HX4).trans (b1.mono (unhide HX4).size))
  clear b1 CW c0 c1 c2 c3 c4 zc d0 d1 d2 d3 d4 zd
  obtain ⟨c0, c1, c2, c3, c4⟩ := row_cell (unhide HT u5 (unhide HX5)).1.2.1
  have zc := (unhide HT u5 (unhide HX5)).2.2.2.2.2.2.1
  obtain ⟨d0, d1, d2, d3, d4⟩ := row_cell (unhide HT u5 (unhide HX5)).1.2.2
  have zd := (unhide HT u5 (unhide HX5)).2.2.2.2.2.2.2
  have CW := compare_code b c _ _ B u5 (unhide HT u5 (unhide HX5)).2.1.2.1 (unhide HT u5 (unhide HX5)).2.1.2.2 (unhide HT u5 (unhide HX5)).2.2.1
  rw [ord0_right (unhide HRb) (unhide HRc), unhide HZZ] at CW
  have CW := hide CW
  go_wp2_with fail
  refine (unhide CW).mono ?_
  rintro e u6 ⟨rfl, b1⟩
  have HX6 := hide ((unhide HX5).trans (b1.mono (unhide HX5).size))
  clear b1 CW c0 c1 c2 c3 c4 zc d0 d1 d2 d3 d4 zd
  obtain ⟨c0, c1, c2, c3, c4⟩ := row_cell (unhide HT u6 (unhide HX6)).1.1
  have zc := (unhide HT u6 (unhide HX6)).2.2.2.2.2.1
  obtain ⟨d0, d1, d2, d3, d4⟩ := row_cell (unhide HT u6 (unhide HX6)).1.2.2
  have zd := (unhide HT u6 (unhide HX6)).2.2.2.2.2.2.2
  have CW := compare_code a c _ _ B u6 (unhide HT u6 (unhide HX6)).2.1.1 (unhide HT u6 (unhide HX6)).2.1.2.2 (unhide HT u6 (unhide HX6)).2.2.1
  rw [ord0_right (unhide HRa) (unhide HRc), unhide HUU] at CW
  have CW := hide CW
  go_wp2_with fail
  refine (unhide CW).mono ?_
  rintro e u7 ⟨rfl, b1⟩
  have HX7 := hide ((unhide HX6).trans (b1.mono (unhide HX6).size))
  clear b1 CW c0 c1 c2 c3 c4 zc d0 d1 d2 d3 d4 zd
  obtain ⟨v0, hv0⟩ : ∃ v0, u7 = v0 := ⟨_, rfl⟩
  subst hv0
  have HK : Hid (∀ w', Below u7.heap.size u7 w' → (w'.cell? ⟨g, 0, none⟩ = some (.int .i64 ya0) ∧ w'.cell? ⟨g, 1, none⟩ = some (.int .i64 ya1) ∧ w'.cell? ⟨g, 2, none⟩ = some (.string ya2) ∧ w'.cell? ⟨g, 3, none⟩ = some (.slice ya3 ya4 ya5) ∧ w'.cell? ⟨g, 4, none⟩ = some (.slice ya6 ya7 ya8)) ∧ (w'.cell? ⟨g + 1, 0, none⟩ = some (.int .i64 yb0) ∧ w'.cell? ⟨g + 1, 1, none⟩ = some (.int .i64 yb1) ∧ w'.cell? ⟨g + 1, 2, none⟩ = some (.string yb2) ∧ w'.cell? ⟨g + 1, 3, none⟩ = some (.slice yb3 yb4 yb5) ∧ w'.cell? ⟨g + 1, 4, none⟩ = some (.slice yb6 yb7 yb8))) := hide (fun u hu => by
    have h := (unhide HT u ((unhide HX7).trans (hu.mono (unhide HX7).size))).1
    exact ⟨row_cell h.1, row_cell h.2.1⟩)
  have D1 : Hid (∀ u, Below u7.heap.size u7 u → _) := hide (fun u (hu : Below u7.heap.size u7 u) => print_any a _ u.heap.size u ((unhide HT u ((unhide HX7).trans (hu.mono (unhide HX7).size))).2.1.1.lift (unhide HT u ((unhide HX7).trans (hu.mono (unhide HX7).size))).2.2.1) (Nat.le_refl _) (by have h1 := unhide HGG; have h2 := (unhide HT u ((unhide HX7).trans (hu.mono (unhide HX7).size))).2.2.2.2.2.1; omega) (unhide HT u ((unhide HX7).trans (hu.mono (unhide HX7).size))).2.2.2.1)
  have D2 : Hid (∀ u, Below u7.heap.size u7 u → _) := hide (fun u (hu : Below u7.heap.size u7 u) => print_any b _ u.heap.size u ((unhide HT u ((unhide HX7).trans (hu.mono (unhide HX7).size))).2.1.2.1.lift (unhide HT u ((unhide HX7).trans (hu.mono (unhide HX7).size))).2.2.1) (Nat.le_refl _) (by have h1 := unhide HGG; have h2 := (unhide HT u ((unhide HX7).trans (hu.mono (unhide HX7).size))).2.2.2.2.2.1; omega) (unhide HT u ((unhide HX7).trans (hu.mono (unhide HX7).size))).2.2.2.1)
  have z0 := (unhide HT u7 (unhide HX7)).2.2.2.2.2.1
  have z1 := (unhide HT u7 (unhide HX7)).2.2.2.2.2.2.1
  go_upto_region 11 with fail
  go_cut [15] from 46 to 50 (fun r wx => r = .bool (decide (X = 0)) ∧ Hid (Below g w wx))
  case first =>
    go_region_held (fun w' => Below u7.heap.size u7 w' ∧ (w'.cell? ⟨g, 0, none⟩ = some (.int .i64 ya0) ∧ w'.cell? ⟨g, 1, none⟩ = some (.int .i64 ya1) ∧ w'.cell? ⟨g, 2, none⟩ = some (.string ya2) ∧ w'.cell? ⟨g, 3, none⟩ = some (.slice ya3 ya4 ya5) ∧ w'.cell? ⟨g, 4, none⟩ = some (.slice ya6 ya7 ya8)) ∧ (w'.cell? ⟨g + 1, 0, none⟩ = some (.int .i64 yb0) ∧ w'.cell? ⟨g + 1, 1, none⟩ = some (.int .i64 yb1) ∧ w'.cell? ⟨g + 1, 2, none⟩ = some (.string yb2) ∧ w'.cell? ⟨g + 1, 3, none⟩ = some (.slice yb3 yb4 yb5) ∧ w'.cell? ⟨g + 1, 4, none⟩ = some (.slice yb6 yb7 yb8)))
      (first | assumption | exact ⟨(Below.refl _ _).drew, unhide HK _ (Below.refl _ _).drew⟩ | (refine keepO HK (And.left (by assumption)) (by assumption); done) | (refine keepO HK ?_ ?_ <;> assumption))
      (first | (go_at_call 8; with_reducible refine (unhide D1 _ (And.left (by assumption))).mono ?_; rintro e w6 ⟨t1, rfl, ht1, hb6⟩) | (go_at_call 8; refine (unhide D2 _ (And.left (by assumption))).mono ?_; rintro e w7 ⟨t2, rfl, ht2, hb7⟩))
    have B7 : Hid (Below g w w7) := hide (by
      have h1 : Below u7.heap.size u7 w7 := And.left (by assumption)
      exact (unhide HT w7 ((unhide HX7).trans (h1.mono (unhide HX7).size))).2.2.2.2.1)
    have HE : Hid ((t1.toList == t2.toList) = decide (X = 0)) := hide (by
      have e1 : prt a = txt a := by unfold prt; rw [if_pos (unhide HRa)]
      have e2 : prt b = txt b := by unfold prt; rw [if_pos (unhide HRb)]
      rw [ByteArray.toList_eq, ByteArray.toList_eq, ht1, ht2, e1, e2, Bool.eq_iff_iff, beq_iff_eq, decide_eq_true_eq]
      exact (unhide HXY).2.2.2.2.2.symm)
    clear ht1 ht2
    go_wp2_with fail
    go_meet
    exact ⟨by rw [unhide HE], B7⟩
  case rest =>
    obtain ⟨rfl, HF⟩ := hcut
    obtain ⟨q1, q2, q3, q4, q5, q6⟩ := unhide HXY
    clear q6 HXY HK D1 D2 z0 z1 HXX HYY HZZ HUU
    have q7 : Y = -1 ∨ Y = 0 ∨ Y = 1 := by omega
    rcases q3 with rfl | rfl | rfl <;> rcases q7 with rfl | rfl | rfl <;> first | (exfalso; omega) | skip
    all_goals clear q1
    all_goals rcases q4 with rfl | rfl | rfl <;> rcases q5 with rfl | rfl | rfl <;> first | (exfalso; unfold Tr at q2; omega) | skip
    all_goals
      clear q2
      go_wp2_with fail
      go_ret
      exact ⟨by first | rfl | simp, by first | exact unhide HF | (rw [unhide HG]; exact unhide HF)⟩
end Go.Proofs.YtfbpaeddfonfbaaDoor
