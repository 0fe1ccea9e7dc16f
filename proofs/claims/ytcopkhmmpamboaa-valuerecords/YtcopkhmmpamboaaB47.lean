/-
  The walk of the document's Get; conditions: the form's own reach.
-/
import Derived.Test.YtcopkhmmpamboaaB46
import Derived.Test.YtcopkhmmpamboaaB24
import Derived.Test.YtcopkhmmpamboaaB27
import Derived.Test.YtcopkhmmpamboaaB13
namespace Go.Proofs.Ytcopkhmmpamboaa
open Go.RowKit
set_option linter.unusedVariables false
set_option linter.unusedSimpArgs false

set_option maxRecDepth 100000 in
set_option maxHeartbeats 400000 in
theorem getD_no (v : Vl) (x : Value) (B : Nat) (w : World) (hv : IsV w B v x) (hBs : B ≤ w.heap.size) (key : ByteArray) (hno : getR v key = none) :
    Calls Try.prog 14 #[x, .string key] w fun e w' => e = .returned (.tuple #[.agg #[.int .i64 0, .int .i64 0, .string ⟨#[]⟩, .slice none 0 0, .slice none 0 0], .bool false]) ∧ Below w.heap.size w w' := by
  obtain ⟨k, n, s, l, ks, al, ak, cl, ck, rfl, hx⟩ := hv.shape
  obtain ⟨m, hm⟩ : ∃ m, ks.length = m := ⟨_, rfl⟩
  obtain ⟨ln, hln⟩ : ∃ ln, l.length = ln := ⟨_, rfl⟩
  rw [hm, hln] at hx
  subst hx
  have TW := Two.mk' w 27 #[.int .i64 k, .int .i64 n, .string s, .slice al ln cl, .slice ak m ck] #[.int .i64 0, .int .i64 0, .string ⟨#[]⟩, .slice none 0 0, .slice none 0 0]
  obtain ⟨w2, hw2⟩ : ∃ w2, (w.alloc (.cells #[.int .i64 k, .int .i64 n, .string s, .slice al ln cl, .slice ak m ck] 27)).alloc (.cells #[.int .i64 0, .int .i64 0, .string ⟨#[]⟩, .slice none 0 0, .slice none 0 0] 27) = w2 := ⟨_, rfl⟩
  rw [hw2] at TW
  obtain ⟨g, hg⟩ : ∃ g, w.heap.size = g := ⟨_, rfl⟩
  rw [hg] at TW
  have HT : Hid (∀ u, Below w2.heap.size w2 u → u.heap[g]? = some (.cells #[.int .i64 k, .int .i64 n, .string s, .slice al ln cl, .slice ak m ck] 27 (0, 0)) ∧ u.heap[g + 1]? = some (.cells #[.int .i64 0, .int .i64 0, .string ⟨#[]⟩, .slice none 0 0, .slice none 0 0] 27 (0, 0)) ∧ IsV u B (.mk k n s l ks) (.agg #[.int .i64 k, .int .i64 n, .string s, .slice al ln cl, .slice ak m ck]) ∧ B ≤ u.heap.size ∧ Below w.heap.size w u ∧ g + 2 ≤ u.heap.size) :=
    hide (fun u hu => by
      have h1 : Below w.heap.size w u := TW.below.trans (hu.mono (by have := TW.size; omega))
      have h2 := TW.size
      have h3 := hu.size
      exact ⟨(TW.later hu).1, (TW.later hu).2, hv.mono (h1.mono hBs), by omega, h1, by omega⟩)
  obtain ⟨c0, c1, c2, c3, c4⟩ := row_cell TW.at0
  have CF := hide (right_ref (.mk k n s l ks) _ B w2 (unhide HT w2 (Below.refl _ _)).2.2.1 (unhide HT w2 (Below.refl _ _)).2.2.2.1)
  have HL := hide (And.intro hm hln)
  clear TW hv hm hln
  cases hR : rightB (.mk k n s l ks) with
  | false =>
    rw [hR] at CF
    clear hR hno
    go_enter Try.func14, Try.ntmps14
    go_wp2_with fail
    refine (unhide CF).mono ?_
    rintro e u3 ⟨rfl, b3⟩
    have H3 := hide b3
    clear b3 CF c0 c1 c2 c3 c4
    obtain ⟨c0, c1, c2, c3, c4⟩ := row_cell (unhide HT u3 (unhide H3)).1
    have ATX := (unhide HT u3 (unhide H3)).2.1
    obtain ⟨z0, z1, z2, z3, z4⟩ := row_cell ATX
    have fz : ∀ q, u3.frozen? ⟨g + 1, q, none⟩ = false := fun q => frozen_of_row u3 (g + 1) q _ _ ATX
    have fz0 := fz 0
    have fz1 := fz 1
    have fz2 := fz 2
    have fz3 := fz 3
    have fz4 := fz 4
    have HAT := hide ATX
    clear fz ATX
    go_wp2_with fail
    have ATX := unhide HAT
    have BW := (unhide HT u3 (unhide H3)).2.2.2.2.1
    have R9 := five_set u3 (g + 1) 27 _ _ _ _ _ (.int .i64 0) (.int .i64 0) (.string ⟨#[]⟩) (.slice none 0 0) (.slice none 0 0) ATX
    have B9 := five_below (g := g + 1) BW (by omega) (.int .i64 0) (.int .i64 0) (.string ⟨#[]⟩) (.slice none 0 0) (.slice none 0 0)
    obtain ⟨w9, hw9⟩ : ∃ w9, (((((u3.setCell ⟨g + 1, 0, none⟩ (.int .i64 0)).setCell ⟨g + 1, 1, none⟩ (.int .i64 0)).setCell ⟨g + 1, 2, none⟩ (.string ⟨#[]⟩)).setCell ⟨g + 1, 3, none⟩ (.slice none 0 0)).setCell ⟨g + 1, 4, none⟩ (.slice none 0 0)) = w9 := ⟨_, rfl⟩
    rw [hw9] at R9 B9 ⊢
    obtain ⟨r0, r1, r2, r3, r4⟩ := row_cell R9
    refine bodyPost_ret (v := .tuple #[.agg #[.int .i64 0, .int .i64 0, .string ⟨#[]⟩, .slice none 0 0, .slice none 0 0], .bool false]) (by simp [results, Try.results14, go_sem, r0, r1, r2, r3, r4]) rfl ?_
    first | exact ⟨rfl, B9⟩ | (rw [hg] at B9; exact ⟨rfl, B9⟩)
  | true =>
    rw [hR] at CF
    by_cases h5 : k = 5
    · subst h5
      have HR := hide (right_keys hR).1
      have HNO : Hid (∀ i, placeK ks key = some i → l[i]? = none) := hide (fun i hi => by
        rw [getR, if_pos ⟨hR, rfl⟩, hi] at hno
        exact hno)
      have HKL := hide (right_keys hR).2
      clear hR hno
      go_enter Try.func14, Try.ntmps14
      go_wp2_with fail
      refine (unhide CF).mono ?_
      rintro e u3 ⟨rfl, b3⟩
      have H3 := hide b3
      clear b3 CF c0 c1 c2 c3 c4
      obtain ⟨c0, c1, c2, c3, c4⟩ := row_cell (unhide HT u3 (unhide H3)).1
      have hpI : placeI ks key = -1 := by
        cases hp : placeK ks key with
        | none => unfold placeI; rw [hp]
        | some I =>
          have h1 := unhide HNO I hp
          unfold placeK at hp
          have h2 := (List.findIdx?_eq_some_iff_getElem.1 hp).1
          have h3 := unhide HKL
          rw [List.getElem?_eq_getElem (by omega)] at h1
          cases h1
      have CB := place_any (.mk 5 n s l ks) _ B key u3 (unhide HT u3 (unhide H3)).2.2.1 (unhide HT u3 (unhide H3)).2.2.2.1
      rw [show (Vl.mk 5 n s l ks).ks = ks from rfl, hpI] at CB
      have CB := hide CB
      clear hpI
      go_wp2_with fail
      refine (unhide CB).mono ?_
      rintro e u4 ⟨rfl, b4⟩
      have H4 := hide ((unhide H3).trans (b4.mono (unhide H3).size))
      clear b4 CB H3 c0 c1 c2 c3 c4
      have H3 := H4
      clear H4
      have ATX := (unhide HT u4 (unhide H3)).2.1
      obtain ⟨z0, z1, z2, z3, z4⟩ := row_cell ATX
      have fz : ∀ q, u4.frozen? ⟨g + 1, q, none⟩ = false := fun q => frozen_of_row u4 (g + 1) q _ _ ATX
      have fz0 := fz 0
      have fz1 := fz 1
      have fz2 := fz 2
      have fz3 := fz 3
      have fz4 := fz 4
      have HAT := hide ATX
      clear fz ATX
      go_wp2_with fail
      have ATX := unhide HAT
      have BW := (unhide HT u4 (unhide H3)).2.2.2.2.1
      have R9 := five_set u4 (g + 1) 27 _ _ _ _ _ (.int .i64 0) (.int .i64 0) (.string ⟨#[]⟩) (.slice none 0 0) (.slice none 0 0) ATX
      have B9 := five_below (g := g + 1) BW (by omega) (.int .i64 0) (.int .i64 0) (.string ⟨#[]⟩) (.slice none 0 0) (.slice none 0 0)
      obtain ⟨w9, hw9⟩ : ∃ w9, (((((u4.setCell ⟨g + 1, 0, none⟩ (.int .i64 0)).setCell ⟨g + 1, 1, none⟩ (.int .i64 0)).setCell ⟨g + 1, 2, none⟩ (.string ⟨#[]⟩)).setCell ⟨g + 1, 3, none⟩ (.slice none 0 0)).setCell ⟨g + 1, 4, none⟩ (.slice none 0 0)) = w9 := ⟨_, rfl⟩
      rw [hw9] at R9 B9 ⊢
      obtain ⟨r0, r1, r2, r3, r4⟩ := row_cell R9
      refine bodyPost_ret (v := .tuple #[.agg #[.int .i64 0, .int .i64 0, .string ⟨#[]⟩, .slice none 0 0, .slice none 0 0], .bool false]) (by simp [results, Try.results14, go_sem, r0, r1, r2, r3, r4]) rfl ?_
      first | exact ⟨rfl, B9⟩ | (rw [hg] at B9; exact ⟨rfl, B9⟩)
    · have h5' : ¬ (k = 5) := h5
      clear hR hno h5
      go_enter Try.func14, Try.ntmps14
      go_wp2_with fail
      refine (unhide CF).mono ?_
      rintro e u3 ⟨rfl, b3⟩
      have H3 := hide b3
      clear b3 CF c0 c1 c2 c3 c4
      obtain ⟨c0, c1, c2, c3, c4⟩ := row_cell (unhide HT u3 (unhide H3)).1
      have ATX := (unhide HT u3 (unhide H3)).2.1
      obtain ⟨z0, z1, z2, z3, z4⟩ := row_cell ATX
      have fz : ∀ q, u3.frozen? ⟨g + 1, q, none⟩ = false := fun q => frozen_of_row u3 (g + 1) q _ _ ATX
      have fz0 := fz 0
      have fz1 := fz 1
      have fz2 := fz 2
      have fz3 := fz 3
      have fz4 := fz 4
      have HAT := hide ATX
      clear fz ATX
      go_wp2_with fail
      have ATX := unhide HAT
      have BW := (unhide HT u3 (unhide H3)).2.2.2.2.1
      have R9 := five_set u3 (g + 1) 27 _ _ _ _ _ (.int .i64 0) (.int .i64 0) (.string ⟨#[]⟩) (.slice none 0 0) (.slice none 0 0) ATX
      have B9 := five_below (g := g + 1) BW (by omega) (.int .i64 0) (.int .i64 0) (.string ⟨#[]⟩) (.slice none 0 0) (.slice none 0 0)
      obtain ⟨w9, hw9⟩ : ∃ w9, (((((u3.setCell ⟨g + 1, 0, none⟩ (.int .i64 0)).setCell ⟨g + 1, 1, none⟩ (.int .i64 0)).setCell ⟨g + 1, 2, none⟩ (.string ⟨#[]⟩)).setCell ⟨g + 1, 3, none⟩ (.slice none 0 0)).setCell ⟨g + 1, 4, none⟩ (.slice none 0 0)) = w9 := ⟨_, rfl⟩
      rw [hw9] at R9 B9 ⊢
      obtain ⟨r0, r1, r2, r3, r4⟩ := row_cell R9
      refine bodyPost_ret (v := .tuple #[.agg #[.int .i64 0, .int .i64 0, .string ⟨#[]⟩, .slice none 0 0, .slice none 0 0], .bool false]) (by simp [results, Try.results14, go_sem, r0, r1, r2, r3, r4]) rfl ?_
      first | exact ⟨rfl, B9⟩ | (rw [hg] at B9; exact ⟨rfl, B9⟩)

set_option maxRecDepth 100000 in
set_option maxHeartbeats 400000 in
theorem getD_is (v : Vl) (x : Value) (B : Nat) (w : World) (hv : IsV w B v x) (hBs : B ≤ w.heap.size) (key : ByteArray) (y : Vl) (hy : getR v key = some y) :
    Calls Try.prog 14 #[x, .string key] w fun e w' => ∃ x', e = .returned (.tuple #[x', .bool true]) ∧ Below w.heap.size w w' ∧ IsQ w' (fun b => w.heap.size ≤ b ∧ b < w'.heap.size) y x' := by
  obtain ⟨k, n, s, l, ks, al, ak, cl, ck, rfl, hx⟩ := hv.shape
  obtain ⟨m, hm⟩ : ∃ m, ks.length = m := ⟨_, rfl⟩
  obtain ⟨ln, hln⟩ : ∃ ln, l.length = ln := ⟨_, rfl⟩
  rw [hm, hln] at hx
  subst hx
  have TW := Two.mk' w 27 #[.int .i64 k, .int .i64 n, .string s, .slice al ln cl, .slice ak m ck] #[.int .i64 0, .int .i64 0, .string ⟨#[]⟩, .slice none 0 0, .slice none 0 0]
  obtain ⟨w2, hw2⟩ : ∃ w2, (w.alloc (.cells #[.int .i64 k, .int .i64 n, .string s, .slice al ln cl, .slice ak m ck] 27)).alloc (.cells #[.int .i64 0, .int .i64 0, .string ⟨#[]⟩, .slice none 0 0, .slice none 0 0] 27) = w2 := ⟨_, rfl⟩
  rw [hw2] at TW
  obtain ⟨g, hg⟩ : ∃ g, w.heap.size = g := ⟨_, rfl⟩
  rw [hg] at TW
  have HT : Hid (∀ u, Below w2.heap.size w2 u → u.heap[g]? = some (.cells #[.int .i64 k, .int .i64 n, .string s, .slice al ln cl, .slice ak m ck] 27 (0, 0)) ∧ u.heap[g + 1]? = some (.cells #[.int .i64 0, .int .i64 0, .string ⟨#[]⟩, .slice none 0 0, .slice none 0 0] 27 (0, 0)) ∧ IsV u B (.mk k n s l ks) (.agg #[.int .i64 k, .int .i64 n, .string s, .slice al ln cl, .slice ak m ck]) ∧ B ≤ u.heap.size ∧ Below w.heap.size w u ∧ g + 2 ≤ u.heap.size) :=
    hide (fun u hu => by
      have h1 : Below w.heap.size w u := TW.below.trans (hu.mono (by have := TW.size; omega))
      have h2 := TW.size
      have h3 := hu.size
      exact ⟨(TW.later hu).1, (TW.later hu).2, hv.mono (h1.mono hBs), by omega, h1, by omega⟩)
  obtain ⟨c0, c1, c2, c3, c4⟩ := row_cell TW.at0
  have CF := hide (right_ref (.mk k n s l ks) _ B w2 (unhide HT w2 (Below.refl _ _)).2.2.1 (unhide HT w2 (Below.refl _ _)).2.2.2.1)
  have HL := hide (And.intro hm hln)
  clear TW hv hm hln
  obtain ⟨hR, h5⟩ : rightB (.mk k n s l ks) = true ∧ k = 5 := by
    rw [getR] at hy
    split at hy
    · assumption
    · cases hy
  subst h5
  obtain ⟨I, hI, hyI⟩ : ∃ I, placeK ks key = some I ∧ l[I]? = some y := by
    rw [getR, if_pos ⟨hR, rfl⟩] at hy
    obtain ⟨I, h1, h2⟩ := Option.bind_eq_some_iff.1 hy
    exact ⟨I, h1, h2⟩
  have hcy : dep y ≤ dep y ∧ cnt y ≤ 5000 := by
    have h := few_right hR
    unfold fewB at h
    have h1 := of_decide_eq_true h
    have h2 := cntL_next l I y hyI
    have h3 := cntL_take_le l (I + 1)
    simp only [cnt] at h1
    exact ⟨Nat.le_refl _, by omega⟩
  rw [hR] at CF
  have HR := hide (right_keys hR).1
  have HP := hide (And.intro hI hyI)
  clear hR hy hI hyI
  go_enter Try.func14, Try.ntmps14
  go_wp2_with fail
  refine (unhide CF).mono ?_
  rintro e u3 ⟨rfl, b3⟩
  have H3 := hide b3
  clear b3 CF c0 c1 c2 c3 c4
  obtain ⟨c0, c1, c2, c3, c4⟩ := row_cell (unhide HT u3 (unhide H3)).1
  have hpI : placeI ks key = (I : Int) := by unfold placeI; rw [(unhide HP).1]
  have CB := place_any (.mk 5 n s l ks) _ B key u3 (unhide HT u3 (unhide H3)).2.2.1 (unhide HT u3 (unhide H3)).2.2.2.1
  rw [show (Vl.mk 5 n s l ks).ks = ks from rfl, hpI] at CB
  have CB := hide CB
  clear hpI
  go_wp2_with fail
  refine (unhide CB).mono ?_
  rintro e u4 ⟨rfl, b4⟩
  have H4 := hide ((unhide H3).trans (b4.mono (unhide H3).size))
  clear b4 H3 c0 c1 c2 c3 c4
  have H3 := H4
  clear H4
  obtain ⟨c0, c1, c2, c3, c4⟩ := row_cell (unhide HT u4 (unhide H3)).1
  obtain ⟨L, hLI⟩ : ∃ L, I = L := ⟨_, rfl⟩
  subst hLI
  have ln0 : ¬ (I : Int) < 0 := by omega
  have hlt : I < ln := by have := (List.getElem?_eq_some_iff.1 (unhide HP).2).1; have := (unhide HL).2; omega
  have l1 : (I : Int) < (ln : Int) := by omega
  have l0 : (0 : Int) ≤ (I : Int) := by omega
  obtain ⟨a, y0, y1, y2, al', ak', ll', m', cl', ck', rfl, hab, hce, hve⟩ := (unhide HT u4 (unhide H3)).2.2.1.elem I y (unhide HP).2
  have e0 : u4.cell? (a.add (I * 5)) = some (.int .i64 y0) := hce 0 _ rfl
  have e1 : u4.cell? ⟨(a.add (I * 5)).block, (a.add (I * 5)).off + 1, none⟩ = some (.int .i64 y1) := hce 1 _ rfl
  have e2 : u4.cell? ⟨(a.add (I * 5)).block, (a.add (I * 5)).off + 2, none⟩ = some (.string y2) := hce 2 _ rfl
  have e3 : u4.cell? ⟨(a.add (I * 5)).block, (a.add (I * 5)).off + 3, none⟩ = some (.slice al' ll' cl') := hce 3 _ rfl
  have e4 : u4.cell? ⟨(a.add (I * 5)).block, (a.add (I * 5)).off + 4, none⟩ = some (.slice ak' m' ck') := hce 4 _ rfl
  have CD := hide (cpd_any (dep y) y _ B u4 hcy.1 hcy.2 hve (unhide HT u4 (unhide H3)).2.2.2.1)
  clear CB hce hve hab hcy
  go_wp2_with fail
  refine (unhide CD).mono ?_
  rintro e u5 ⟨x4, rfl, p4, b4⟩
  obtain ⟨k4, n4, s4, l4, ks4, al4, ak4, cl4, ck4, hv4, rfl⟩ := p4.shape
  clear hv4
  obtain ⟨lc, hlc⟩ : ∃ lc, l4.length = lc := ⟨_, rfl⟩
  obtain ⟨mc, hmc⟩ : ∃ mc, ks4.length = mc := ⟨_, rfl⟩
  rw [hlc, hmc] at p4 ⊢
  have X4 := (unhide H3).trans (b4.mono (unhide H3).size)
  have H4 := hide (And.intro X4 (And.intro p4 b4.size))
  have ATX := (unhide HT u5 X4).2.1
  obtain ⟨z0, z1, z2, z3, z4⟩ := row_cell ATX
  have fz : ∀ q, u5.frozen? ⟨g + 1, q, none⟩ = false := fun q => frozen_of_row u5 (g + 1) q _ _ ATX
  have fz0 := fz 0
  have fz1 := fz 1
  have fz2 := fz 2
  have fz3 := fz 3
  have fz4 := fz 4
  have HAT := hide ATX
  clear fz ATX p4 b4 X4 CD hlc hmc c0 c1 c2 c3 c4 e0 e1 e2 e3 e4
  go_wp2_with fail
  have ATX := unhide HAT
  have BW := (unhide HT u5 (unhide H4).1).2.2.2.2.1
  have g3 := (unhide HT u4 (unhide H3)).2.2.2.2.2
  have R9 := five_set u5 (g + 1) 27 _ _ _ _ _ (.int .i64 k4) (.int .i64 n4) (.string s4) (.slice al4 lc cl4) (.slice ak4 mc ck4) ATX
  have O9 := five_other u5 (g + 1) (x0 := .int .i64 k4) (x1 := .int .i64 n4) (x2 := .string s4) (x3 := .slice al4 lc cl4) (x4 := .slice ak4 mc ck4)
  have S9 : (((((u5.setCell ⟨g + 1, 0, none⟩ (.int .i64 k4)).setCell ⟨g + 1, 1, none⟩ (.int .i64 n4)).setCell ⟨g + 1, 2, none⟩ (.string s4)).setCell ⟨g + 1, 3, none⟩ (.slice al4 lc cl4)).setCell ⟨g + 1, 4, none⟩ (.slice ak4 mc ck4)).heap.size = u5.heap.size := by simp
  obtain ⟨w9, hw9⟩ : ∃ w9, (((((u5.setCell ⟨g + 1, 0, none⟩ (.int .i64 k4)).setCell ⟨g + 1, 1, none⟩ (.int .i64 n4)).setCell ⟨g + 1, 2, none⟩ (.string s4)).setCell ⟨g + 1, 3, none⟩ (.slice al4 lc cl4)).setCell ⟨g + 1, 4, none⟩ (.slice ak4 mc ck4)) = w9 := ⟨_, rfl⟩
  rw [hw9] at R9 S9 ⊢
  have B9 : Below w.heap.size w w9 := by rw [← hw9]; exact five_below BW (by omega) _ _ _ _ _
  obtain ⟨r0, r1, r2, r3, r4⟩ := row_cell R9
  refine bodyPost_ret (v := .tuple #[.agg #[.int .i64 k4, .int .i64 n4, .string s4, .slice al4 lc cl4, .slice ak4 mc ck4], .bool true]) (by simp [results, Try.results14, go_sem, r0, r1, r2, r3, r4]) rfl ?_
  have Q9 : IsQ w9 (fun b => w.heap.size ≤ b ∧ b < w9.heap.size) y (.agg #[.int .i64 k4, .int .i64 n4, .string s4, .slice al4 lc cl4, .slice ak4 mc ck4]) := ((unhide H4).2.1.move (fun q hq => by rw [← hw9]; exact O9 q (by have := hq.1; omega))).weak (fun q hq => ⟨by have := hq.1; omega, by have := hq.2; omega⟩)
  first | exact ⟨_, rfl, B9, Q9⟩ | (rw [hg] at B9 Q9; exact ⟨_, rfl, B9, Q9⟩)

theorem getD_any (v : Vl) (vv : Value) (B : Nat) (key : ByteArray) (w : World) (hv : IsV w B v vv) (hBs : B ≤ w.heap.size) :
    Calls Try.prog 14 #[vv, .string key] w fun e w' => ∃ x', e = .returned (.tuple #[x', .bool (getR v key).isSome]) ∧ Below w.heap.size w w' ∧ IsV w' w'.heap.size ((getR v key).getD (.mk 0 0 ⟨#[]⟩ [] [])) x' := by
  cases h : getR v key with
  | none =>
    refine (getD_no v vv B w hv hBs key h).mono ?_
    rintro e w' ⟨rfl, b⟩
    exact ⟨_, rfl, b, IsP.of (V := fun _ => []) ⟨by omega, by omega, by decide, fun _ => ⟨rfl, rfl⟩, fun _ => ⟨rfl, rfl⟩, Nat.le_refl _, Nat.le_refl _, by decide, by decide, by decide, fun a ha => by (cases ha), fun i hi => by (simp at hi), fun a ha => by (cases ha), fun t ht => by (cases ht)⟩ (fun i y hy => by simp at hy)⟩
  | some y =>
    refine (getD_is v vv B w hv hBs key y h).mono ?_
    rintro e w' ⟨x', rfl, b, q⟩
    exact ⟨x', rfl, b, q.isV (fun b hb => hb.2)⟩
end Go.Proofs.Ytcopkhmmpamboaa
