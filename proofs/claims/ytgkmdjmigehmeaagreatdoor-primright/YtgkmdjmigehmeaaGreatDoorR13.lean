/-
  The walk of value.Get: what a record has under a key, in new memory; conditions: the form's own reach.
-/
import Derived.Test.YtgkmdjmigehmeaaGreatDoorR12
import Derived.Test.YtgkmdjmigehmeaaGreatDoorR11
import Derived.Laws.OwnMore
namespace Go.Proofs.YtgkmdjmigehmeaaGreatDoor
set_option linter.unusedVariables false
set_option linter.unusedSimpArgs false
set_option maxRecDepth 100000
set_option maxHeartbeats 16000000
open Go.RowKit
theorem rise_pair : ∀ (p : Option ByteArray) (ks : List ByteArray), risingFrom p ks = true → ks.Pairwise (fun a b => bl a b = true) ∧ ∀ q, p = some q → ∀ t ∈ ks, bl q t = true
 | p, [], _ => ⟨List.Pairwise.nil, fun _ _ t ht => by cases ht⟩
 | p, t :: r, h => by
  simp only [risingFrom, Bool.and_eq_true] at h
  obtain ⟨ih1, ih2⟩ := rise_pair (some t) r h.2
  refine ⟨List.Pairwise.cons (fun u hu => ih2 t rfl u hu) ih1, fun q hq u hu => ?_⟩
  subst hq
  have h1 : bl q t = true := h.1.2
  rcases List.mem_cons.1 hu with e | e
  ·rw [e]; exact h1
  ·exact kl_trans h1 (ih2 t rfl u e)
theorem rise_keys {ks : List ByteArray} (h : risingFrom none ks = true) : RisesK ks := by
 have h1 := (rise_pair none ks h).1
 intro i j p q hij hp hq
 obtain ⟨hi, rfl⟩ := List.getElem?_eq_some_iff.1 hp
 obtain ⟨hj, rfl⟩ := List.getElem?_eq_some_iff.1 hq
 exact List.pairwise_iff_getElem.1 h1 i j hi hj hij
theorem right_keys {n : Int} {s : ByteArray} {l : List Vl} {ks : List ByteArray} (h : rightB (.mk 5 n s l ks) = true) : RisesK ks ∧ ks.length = l.length := by
 have h1 := (right_wt h).1
 rw [show (8 : Nat) = 7 + 1 from rfl, okB, Bool.and_eq_true] at h1
 have h2 := h1.1
 unfold formB formM at h2
 simp at h2
 exact ⟨rise_keys h2.2, by have := h2.1; omega⟩
def placeK (ks : List ByteArray) (k : ByteArray) : Option Nat := ks.findIdx? (fun t => decide (t = k))
theorem place_of {ks : List ByteArray} {k : ByteArray} {L : Nat} (hr : RisesK ks) (hL : ∀ i p, ks[i]? = some p → (i < L ↔ bl p k = true)) : (ks[L]? = some k → placeK ks k = some L) ∧ (¬ ks[L]? = some k → placeK ks k = none) := by
 have hir := kl_irr k
 constructor
 ·intro h
  unfold placeK
  rw [List.findIdx?_eq_some_iff_getElem]
  obtain ⟨hl, he⟩ := List.getElem?_eq_some_iff.1 h
  refine ⟨hl, by simp [he], fun j hj => ?_⟩
  have h1 := (hL j ks[j] (List.getElem?_eq_getElem (by omega))).1 hj
  simp only [decide_eq_true_eq]
  intro e
  rw [e, hir] at h1
  cases h1
 ·intro h
  unfold placeK
  rw [List.findIdx?_eq_none_iff]
  intro x hx
  simp only [decide_eq_false_iff_not]
  intro e
  subst e
  obtain ⟨i, hi⟩ := List.getElem?_of_mem hx
  have h1 : ¬ i < L := fun hlt => by have := (hL i x hi).1 hlt; rw [hir] at this; cases this
  rcases Nat.lt_or_ge L i with hc | hc
  ·have hlt := (List.getElem?_eq_some_iff.1 hi).1
   have h2 := hr L i ks[L] x hc (List.getElem?_eq_getElem (by omega)) hi
   have h3 := (hL L ks[L] (List.getElem?_eq_getElem (by omega))).2 h2
   omega
  ·have : i = L := by omega
   rw [this] at hi
   exact h hi
def getR : Vl → ByteArray → Option Vl
 | .mk kd n s l ks, k => if rightB (.mk kd n s l ks) = true ∧ kd = 5 then (placeK ks k).bind (fun i => l[i]?) else none
theorem get_no (v : Vl) (x : Value) (B : Nat) (w : World) (hv : IsV w B v x) (hBs : B ≤ w.heap.size) (key : ByteArray) (hno : getR v key = none) :
  Calls Tryz.prog 108 #[x, .string key] w fun e w' => e = .returned (.tuple #[.agg #[.int .i64 0, .int .i64 0, .string ⟨#[]⟩, .slice none 0 0, .slice none 0 0], .bool false]) ∧ Below w.heap.size w w' := by
 obtain ⟨k, n, s, l, ks, al, ak, cl, ck, rfl, hx⟩ := hv.shape
 obtain ⟨m, hm⟩ : ∃ m, ks.length = m := ⟨_, rfl⟩
 obtain ⟨ln, hln⟩ : ∃ ln, l.length = ln := ⟨_, rfl⟩
 rw [hm, hln] at hx
 subst hx
 have TW := Two.mk' w 25 #[.int .i64 k, .int .i64 n, .string s, .slice al ln cl, .slice ak m ck] #[.int .i64 0, .int .i64 0, .string ⟨#[]⟩, .slice none 0 0, .slice none 0 0]
 obtain ⟨w2, hw2⟩ : ∃ w2, (w.alloc (.cells #[.int .i64 k, .int .i64 n, .string s, .slice al ln cl, .slice ak m ck] 25)).alloc (.cells #[.int .i64 0, .int .i64 0, .string ⟨#[]⟩, .slice none 0 0, .slice none 0 0] 25) = w2 := ⟨_, rfl⟩
 rw [hw2] at TW
 obtain ⟨g, hg⟩ : ∃ g, w.heap.size = g := ⟨_, rfl⟩
 rw [hg] at TW
 have HT : Hid (∀ u, Below w2.heap.size w2 u → u.heap[g]? = some (.cells #[.int .i64 k, .int .i64 n, .string s, .slice al ln cl, .slice ak m ck] 25 (0, 0)) ∧ u.heap[g + 1]? = some (.cells #[.int .i64 0, .int .i64 0, .string ⟨#[]⟩, .slice none 0 0, .slice none 0 0] 25 (0, 0)) ∧ IsV u B (.mk k n s l ks) (.agg #[.int .i64 k, .int .i64 n, .string s, .slice al ln cl, .slice ak m ck]) ∧ B ≤ u.heap.size ∧ Below w.heap.size w u ∧ g + 2 ≤ u.heap.size) :=
  hide (fun u hu => by
   have h1 : Below w.heap.size w u := TW.below.trans (hu.mono (by have := TW.size; omega))
   have h2 := TW.size
   have h3 := hu.size
   exact ⟨(TW.later hu).1, (TW.later hu).2, hv.mono (h1.mono hBs), by omega, h1, by omega⟩)
 obtain ⟨c0, c1, c2, c3, c4⟩ := row_cell TW.at0
 have CF := hide (right_code (.mk k n s l ks) _ B w2 (uh HT w2 (Below.refl _ _)).2.2.1 (uh HT w2 (Below.refl _ _)).2.2.2.1)
 have HL := hide (And.intro hm hln)
 clear TW hv hm hln
 cases hR : rightB (.mk k n s l ks) with
 | false =>
  rw [hR] at CF
  clear hR hno
  go_enter Tryz.func108, Tryz.ntmps108
  go_wp2_with fail
  refine (uh CF).mono ?_
  rintro e u3 ⟨rfl, b3⟩
  have H3 := hide b3
  clear b3 CF c0 c1 c2 c3 c4
  obtain ⟨c0, c1, c2, c3, c4⟩ := row_cell (uh HT u3 (uh H3)).1
  have ATX := (uh HT u3 (uh H3)).2.1
  obtain ⟨z0, z1, z2, z3, z4⟩ := row_cell ATX
  have fz : ∀ q, u3.frozen? ⟨g + 1, q, none⟩ = false := fun q => frozen_of_row u3 (g + 1) q _ _ ATX
  have fz0 := fz 0
  have fz1 := fz 1
  have fz2 := fz 2
  have fz3 := fz 3
  have fz4 := fz 4
  have HAT := hide ATX
  clear fz ATX
  go_wp2_with fail
  have ATX := uh HAT
  have BW := (uh HT u3 (uh H3)).2.2.2.2.1
  have R9 := five_set u3 (g + 1) 25 _ _ _ _ _ (.int .i64 0) (.int .i64 0) (.string ⟨#[]⟩) (.slice none 0 0) (.slice none 0 0) ATX
  have B9 := five_below (g := g + 1) BW (by omega) (.int .i64 0) (.int .i64 0) (.string ⟨#[]⟩) (.slice none 0 0) (.slice none 0 0)
  obtain ⟨w9, hw9⟩ : ∃ w9, (((((u3.setCell ⟨g + 1, 0, none⟩ (.int .i64 0)).setCell ⟨g + 1, 1, none⟩ (.int .i64 0)).setCell ⟨g + 1, 2, none⟩ (.string ⟨#[]⟩)).setCell ⟨g + 1, 3, none⟩ (.slice none 0 0)).setCell ⟨g + 1, 4, none⟩ (.slice none 0 0)) = w9 := ⟨_, rfl⟩
  rw [hw9] at R9 B9 ⊢
  obtain ⟨r0, r1, r2, r3, r4⟩ := row_cell R9
  refine bodyPost_ret (v := .tuple #[.agg #[.int .i64 0, .int .i64 0, .string ⟨#[]⟩, .slice none 0 0, .slice none 0 0], .bool false]) (by simp [results, Tryz.results108, go_sem, r0, r1, r2, r3, r4]) rfl ?_
  first | exact ⟨rfl, B9⟩ | (rw [hg] at B9; exact ⟨rfl, B9⟩)
 | true =>
  rw [hR] at CF
  by_cases h5 : k = 5
  ·subst h5
   have HR := hide (right_keys hR).1
   have HNO : Hid (∀ i, placeK ks key = some i → l[i]? = none) := hide (fun i hi => by
    rw [getR, if_pos ⟨hR, rfl⟩, hi] at hno
    exact hno)
   have HKL := hide (right_keys hR).2
   clear hR hno
   go_enter Tryz.func108, Tryz.ntmps108
   go_wp2_with fail
   refine (uh CF).mono ?_
   rintro e u3 ⟨rfl, b3⟩
   have H3 := hide b3
   clear b3 CF c0 c1 c2 c3 c4
   obtain ⟨c0, c1, c2, c3, c4⟩ := row_cell (uh HT u3 (uh H3)).1
   have VK := (uh HT u3 (uh H3)).2.2.1.keys.1
   have CB := hide (search_any ks ak ck u3 VK (uh HR) key)
   rw [(uh HL).1] at CB
   clear VK
   go_wp2_with fail
   refine (uh CB).mono ?_
   rintro e u4 ⟨L, rfl, hL1, hL2, rfl⟩
   have hF : decide (ks[L]? = some key) = false := by
    cases hd : decide (ks[L]? = some key) with
    | false => rfl
    | true =>
     have h1 := uh HNO L ((place_of (uh HR) hL2).1 (of_decide_eq_true hd))
     have h2 := (List.getElem?_eq_some_iff.1 (of_decide_eq_true hd)).1
     have h3 := uh HKL
     rw [List.getElem?_eq_getElem (by omega)] at h1
     cases h1
   rw [hF]
   clear hF hL1 hL2 CB
   have ATX := (uh HT u4 (uh H3)).2.1
   obtain ⟨z0, z1, z2, z3, z4⟩ := row_cell ATX
   have fz : ∀ q, u4.frozen? ⟨g + 1, q, none⟩ = false := fun q => frozen_of_row u4 (g + 1) q _ _ ATX
   have fz0 := fz 0
   have fz1 := fz 1
   have fz2 := fz 2
   have fz3 := fz 3
   have fz4 := fz 4
   have HAT := hide ATX
   clear fz ATX
   go_wp2_with fail
   have ATX := uh HAT
   have BW := (uh HT u4 (uh H3)).2.2.2.2.1
   have R9 := five_set u4 (g + 1) 25 _ _ _ _ _ (.int .i64 0) (.int .i64 0) (.string ⟨#[]⟩) (.slice none 0 0) (.slice none 0 0) ATX
   have B9 := five_below (g := g + 1) BW (by omega) (.int .i64 0) (.int .i64 0) (.string ⟨#[]⟩) (.slice none 0 0) (.slice none 0 0)
   obtain ⟨w9, hw9⟩ : ∃ w9, (((((u4.setCell ⟨g + 1, 0, none⟩ (.int .i64 0)).setCell ⟨g + 1, 1, none⟩ (.int .i64 0)).setCell ⟨g + 1, 2, none⟩ (.string ⟨#[]⟩)).setCell ⟨g + 1, 3, none⟩ (.slice none 0 0)).setCell ⟨g + 1, 4, none⟩ (.slice none 0 0)) = w9 := ⟨_, rfl⟩
   rw [hw9] at R9 B9 ⊢
   obtain ⟨r0, r1, r2, r3, r4⟩ := row_cell R9
   refine bodyPost_ret (v := .tuple #[.agg #[.int .i64 0, .int .i64 0, .string ⟨#[]⟩, .slice none 0 0, .slice none 0 0], .bool false]) (by simp [results, Tryz.results108, go_sem, r0, r1, r2, r3, r4]) rfl ?_
   first | exact ⟨rfl, B9⟩ | (rw [hg] at B9; exact ⟨rfl, B9⟩)
  ·have h5' : ¬ (k = 5) := h5
   clear hR hno h5
   go_enter Tryz.func108, Tryz.ntmps108
   go_wp2_with fail
   refine (uh CF).mono ?_
   rintro e u3 ⟨rfl, b3⟩
   have H3 := hide b3
   clear b3 CF c0 c1 c2 c3 c4
   obtain ⟨c0, c1, c2, c3, c4⟩ := row_cell (uh HT u3 (uh H3)).1
   have ATX := (uh HT u3 (uh H3)).2.1
   obtain ⟨z0, z1, z2, z3, z4⟩ := row_cell ATX
   have fz : ∀ q, u3.frozen? ⟨g + 1, q, none⟩ = false := fun q => frozen_of_row u3 (g + 1) q _ _ ATX
   have fz0 := fz 0
   have fz1 := fz 1
   have fz2 := fz 2
   have fz3 := fz 3
   have fz4 := fz 4
   have HAT := hide ATX
   clear fz ATX
   go_wp2_with fail
   have ATX := uh HAT
   have BW := (uh HT u3 (uh H3)).2.2.2.2.1
   have R9 := five_set u3 (g + 1) 25 _ _ _ _ _ (.int .i64 0) (.int .i64 0) (.string ⟨#[]⟩) (.slice none 0 0) (.slice none 0 0) ATX
   have B9 := five_below (g := g + 1) BW (by omega) (.int .i64 0) (.int .i64 0) (.string ⟨#[]⟩) (.slice none 0 0) (.slice none 0 0)
   obtain ⟨w9, hw9⟩ : ∃ w9, (((((u3.setCell ⟨g + 1, 0, none⟩ (.int .i64 0)).setCell ⟨g + 1, 1, none⟩ (.int .i64 0)).setCell ⟨g + 1, 2, none⟩ (.string ⟨#[]⟩)).setCell ⟨g + 1, 3, none⟩ (.slice none 0 0)).setCell ⟨g + 1, 4, none⟩ (.slice none 0 0)) = w9 := ⟨_, rfl⟩
   rw [hw9] at R9 B9 ⊢
   obtain ⟨r0, r1, r2, r3, r4⟩ := row_cell R9
   refine bodyPost_ret (v := .tuple #[.agg #[.int .i64 0, .int .i64 0, .string ⟨#[]⟩, .slice none 0 0, .slice none 0 0], .bool false]) (by simp [results, Tryz.results108, go_sem, r0, r1, r2, r3, r4]) rfl ?_
   first | exact ⟨rfl, B9⟩ | (rw [hg] at B9; exact ⟨rfl, B9⟩)
theorem get_is (v : Vl) (x : Value) (B : Nat) (w : World) (hv : IsV w B v x) (hBs : B ≤ w.heap.size) (key : ByteArray) (y : Vl) (hy : getR v key = some y) :
  Calls Tryz.prog 108 #[x, .string key] w fun e w' => ∃ x', e = .returned (.tuple #[x', .bool true]) ∧ Below w.heap.size w w' ∧ IsQ w' (fun b => w.heap.size ≤ b ∧ b < w'.heap.size) y x' := by
 obtain ⟨k, n, s, l, ks, al, ak, cl, ck, rfl, hx⟩ := hv.shape
 obtain ⟨m, hm⟩ : ∃ m, ks.length = m := ⟨_, rfl⟩
 obtain ⟨ln, hln⟩ : ∃ ln, l.length = ln := ⟨_, rfl⟩
 rw [hm, hln] at hx
 subst hx
 have TW := Two.mk' w 25 #[.int .i64 k, .int .i64 n, .string s, .slice al ln cl, .slice ak m ck] #[.int .i64 0, .int .i64 0, .string ⟨#[]⟩, .slice none 0 0, .slice none 0 0]
 obtain ⟨w2, hw2⟩ : ∃ w2, (w.alloc (.cells #[.int .i64 k, .int .i64 n, .string s, .slice al ln cl, .slice ak m ck] 25)).alloc (.cells #[.int .i64 0, .int .i64 0, .string ⟨#[]⟩, .slice none 0 0, .slice none 0 0] 25) = w2 := ⟨_, rfl⟩
 rw [hw2] at TW
 obtain ⟨g, hg⟩ : ∃ g, w.heap.size = g := ⟨_, rfl⟩
 rw [hg] at TW
 have HT : Hid (∀ u, Below w2.heap.size w2 u → u.heap[g]? = some (.cells #[.int .i64 k, .int .i64 n, .string s, .slice al ln cl, .slice ak m ck] 25 (0, 0)) ∧ u.heap[g + 1]? = some (.cells #[.int .i64 0, .int .i64 0, .string ⟨#[]⟩, .slice none 0 0, .slice none 0 0] 25 (0, 0)) ∧ IsV u B (.mk k n s l ks) (.agg #[.int .i64 k, .int .i64 n, .string s, .slice al ln cl, .slice ak m ck]) ∧ B ≤ u.heap.size ∧ Below w.heap.size w u ∧ g + 2 ≤ u.heap.size) :=
  hide (fun u hu => by
   have h1 : Below w.heap.size w u := TW.below.trans (hu.mono (by have := TW.size; omega))
   have h2 := TW.size
   have h3 := hu.size
   exact ⟨(TW.later hu).1, (TW.later hu).2, hv.mono (h1.mono hBs), by omega, h1, by omega⟩)
 obtain ⟨c0, c1, c2, c3, c4⟩ := row_cell TW.at0
 have CF := hide (right_code (.mk k n s l ks) _ B w2 (uh HT w2 (Below.refl _ _)).2.2.1 (uh HT w2 (Below.refl _ _)).2.2.2.1)
 have HL := hide (And.intro hm hln)
 clear TW hv hm hln
 obtain ⟨hR, h5⟩ : rightB (.mk k n s l ks) = true ∧ k = 5 := by
  rw [getR] at hy
  split at hy
  ·assumption
  ·cases hy
 subst h5
 obtain ⟨I, hI, hyI⟩ : ∃ I, placeK ks key = some I ∧ l[I]? = some y := by
  rw [getR, if_pos ⟨hR, rfl⟩] at hy
  obtain ⟨I, h1, h2⟩ := Option.bind_eq_some_iff.1 hy
  exact ⟨I, h1, h2⟩
 have hcy : dep y ≤ dep y ∧ cnt y ≤ 5000 := by
  have h := few_right hR
  unfold fewB at h
  have h1 := of_decide_eq_true h
  have h2 := cntL_next l I y hyI
  have h3 := cntL_take_le l (I + 1)
  simp only [cnt] at h1
  exact ⟨Nat.le_refl _, by omega⟩
 rw [hR] at CF
 have HR := hide (right_keys hR).1
 have HP := hide (And.intro hI hyI)
 clear hR hy hI hyI
 go_enter Tryz.func108, Tryz.ntmps108
 go_wp2_with fail
 refine (uh CF).mono ?_
 rintro e u3 ⟨rfl, b3⟩
 have H3 := hide b3
 clear b3 CF c0 c1 c2 c3 c4
 obtain ⟨c0, c1, c2, c3, c4⟩ := row_cell (uh HT u3 (uh H3)).1
 have VK := (uh HT u3 (uh H3)).2.2.1.keys.1
 have CB := hide (search_any ks ak ck u3 VK (uh HR) key)
 rw [(uh HL).1] at CB
 clear VK
 go_wp2_with fail
 refine (uh CB).mono ?_
 rintro e u4 ⟨L, rfl, hL1, hL2, rfl⟩
 have hF : decide (ks[L]? = some key) = true ∧ L = I := by
  cases hd : decide (ks[L]? = some key) with
  | false =>
   have h1 := (place_of (uh HR) hL2).2 (of_decide_eq_false hd)
   rw [(uh HP).1] at h1
   cases h1
  | true =>
   have h1 := (place_of (uh HR) hL2).1 (of_decide_eq_true hd)
   rw [(uh HP).1] at h1
   cases h1
   exact ⟨rfl, rfl⟩
 obtain ⟨hF1, rfl⟩ := hF
 rw [hF1]
 have hlt : L < ln := by have := (List.getElem?_eq_some_iff.1 (uh HP).2).1; have := (uh HL).2; omega
 have l1 : (L : Int) < (ln : Int) := by omega
 have l0 : (0 : Int) ≤ (L : Int) := by omega
 obtain ⟨a, y0, y1, y2, al', ak', ll', m', cl', ck', rfl, hab, hce, hve⟩ := (uh HT u4 (uh H3)).2.2.1.elem L y (uh HP).2
 have e0 : u4.cell? (a.add (L * 5)) = some (.int .i64 y0) := hce 0 _ rfl
 have e1 : u4.cell? ⟨(a.add (L * 5)).block, (a.add (L * 5)).off + 1, none⟩ = some (.int .i64 y1) := hce 1 _ rfl
 have e2 : u4.cell? ⟨(a.add (L * 5)).block, (a.add (L * 5)).off + 2, none⟩ = some (.string y2) := hce 2 _ rfl
 have e3 : u4.cell? ⟨(a.add (L * 5)).block, (a.add (L * 5)).off + 3, none⟩ = some (.slice al' ll' cl') := hce 3 _ rfl
 have e4 : u4.cell? ⟨(a.add (L * 5)).block, (a.add (L * 5)).off + 4, none⟩ = some (.slice ak' m' ck') := hce 4 _ rfl
 have CD := hide (cln_any (dep y) y _ B u4 hcy.1 hcy.2 hve (uh HT u4 (uh H3)).2.2.2.1)
 clear hF1 hL1 hL2 CB hce hve hab hcy
 go_wp2_with fail
 refine (uh CD).mono ?_
 rintro e u5 ⟨x4, rfl, p4, b4⟩
 obtain ⟨k4, n4, s4, l4, ks4, al4, ak4, cl4, ck4, hv4, rfl⟩ := p4.shape
 clear hv4
 obtain ⟨lc, hlc⟩ : ∃ lc, l4.length = lc := ⟨_, rfl⟩
 obtain ⟨mc, hmc⟩ : ∃ mc, ks4.length = mc := ⟨_, rfl⟩
 rw [hlc, hmc] at p4 ⊢
 have X4 := (uh H3).trans (b4.mono (uh H3).size)
 have H4 := hide (And.intro X4 (And.intro p4 b4.size))
 have ATX := (uh HT u5 X4).2.1
 obtain ⟨z0, z1, z2, z3, z4⟩ := row_cell ATX
 have fz : ∀ q, u5.frozen? ⟨g + 1, q, none⟩ = false := fun q => frozen_of_row u5 (g + 1) q _ _ ATX
 have fz0 := fz 0
 have fz1 := fz 1
 have fz2 := fz 2
 have fz3 := fz 3
 have fz4 := fz 4
 have HAT := hide ATX
 clear fz ATX p4 b4 X4 CD hlc hmc c0 c1 c2 c3 c4 e0 e1 e2 e3 e4
 go_wp2_with fail
 have ATX := uh HAT
 have BW := (uh HT u5 (uh H4).1).2.2.2.2.1
 have g3 := (uh HT u4 (uh H3)).2.2.2.2.2
 have R9 := five_set u5 (g + 1) 25 _ _ _ _ _ (.int .i64 k4) (.int .i64 n4) (.string s4) (.slice al4 lc cl4) (.slice ak4 mc ck4) ATX
 have O9 := five_other u5 (g + 1) (x0 := .int .i64 k4) (x1 := .int .i64 n4) (x2 := .string s4) (x3 := .slice al4 lc cl4) (x4 := .slice ak4 mc ck4)
 have S9 : (((((u5.setCell ⟨g + 1, 0, none⟩ (.int .i64 k4)).setCell ⟨g + 1, 1, none⟩ (.int .i64 n4)).setCell ⟨g + 1, 2, none⟩ (.string s4)).setCell ⟨g + 1, 3, none⟩ (.slice al4 lc cl4)).setCell ⟨g + 1, 4, none⟩ (.slice ak4 mc ck4)).heap.size = u5.heap.size := by simp
 obtain ⟨w9, hw9⟩ : ∃ w9, (((((u5.setCell ⟨g + 1, 0, none⟩ (.int .i64 k4)).setCell ⟨g + 1, 1, none⟩ (.int .i64 n4)).setCell ⟨g + 1, 2, none⟩ (.string s4)).setCell ⟨g + 1, 3, none⟩ (.slice al4 lc cl4)).setCell ⟨g + 1, 4, none⟩ (.slice ak4 mc ck4)) = w9 := ⟨_, rfl⟩
 rw [hw9] at R9 S9 ⊢
 have B9 : Below w.heap.size w w9 := by rw [← hw9]; exact five_below BW (by omega) _ _ _ _ _
 obtain ⟨r0, r1, r2, r3, r4⟩ := row_cell R9
 refine bodyPost_ret (v := .tuple #[.agg #[.int .i64 k4, .int .i64 n4, .string s4, .slice al4 lc cl4, .slice ak4 mc ck4], .bool true]) (by simp [results, Tryz.results108, go_sem, r0, r1, r2, r3, r4]) rfl ?_
 have Q9 : IsQ w9 (fun b => w.heap.size ≤ b ∧ b < w9.heap.size) y (.agg #[.int .i64 k4, .int .i64 n4, .string s4, .slice al4 lc cl4, .slice ak4 mc ck4]) := ((uh H4).2.1.move (fun q hq => by rw [← hw9]; exact O9 q (by have := hq.1; omega))).weak (fun q hq => ⟨by have := hq.1; omega, by have := hq.2; omega⟩)
 first | exact ⟨_, rfl, B9, Q9⟩ | (rw [hg] at B9 Q9; exact ⟨_, rfl, B9, Q9⟩)
def tw (ks : List ByteArray) (k : ByteArray) : Nat := (ks.takeWhile fun p => bl p k).length
theorem tw_of : ∀ (ks : List ByteArray) (k : ByteArray) (L : Nat), L ≤ ks.length → (∀ i p, ks[i]? = some p → (i < L ↔ bl p k = true)) → L = tw ks k
 | [], k, L, h, _ => by simp at h; subst h; rfl
 | p :: r, k, 0, _, h => by
  have h0 := h 0 p rfl
  have hb : bl p k = false := by
   cases hb : bl p k with
   | false => rfl
   | true => exact absurd (h0.2 hb) (by omega)
  simp [tw, hb]
 | p :: r, k, L + 1, hl, h => by
  have h0 := (h 0 p rfl).1 (by omega)
  have ih := tw_of r k L (by simpa using hl) (fun i q hq => by
   have := h (i + 1) q (by simpa using hq)
   rw [← this]
   omega)
  unfold tw at ih ⊢
  simp [List.takeWhile_cons, h0, ← ih]
def withV (l : List Vl) (ks : List ByteArray) (k : ByteArray) (x : Vl) : Vl :=
 if ks[tw ks k]? = some k then .mk 5 0 ⟨#[]⟩ (l.set (tw ks k) x) ks
 else .mk 5 0 ⟨#[]⟩ (l.take (tw ks k) ++ x :: l.drop (tw ks k)) (ks.take (tw ks k) ++ k :: ks.drop (tw ks k))
theorem isP_rows {w : World} {base : Nat} {P : Nat → Prop} {kv lv : Value} {n m : Nat} {ks : List ByteArray} {l : List Vl} {V : Nat → List Value} (hk : w.ownsRow base 9 1 kv m (ks.map Value.string)) (hl : w.ownsRow base 25 5 lv n (flat V n)) (hn : l.length = n)
  (hV : ∀ i, i < n → (V i).length = 5) (el : ∀ i y, l[i]? = some y → IsP w P y (.agg (V i).toArray)) (hP : ∀ b, base ≤ b → b < w.heap.size → P b) (b1 : n ≤ 140737488351232) (b2 : 16 * m ≤ 140737488351232) (b3 : ∀ t ∈ ks, t.size ≤ 140737488351232) :
  IsP w P (.mk 5 0 ⟨#[]⟩ l ks) (.agg #[.int .i64 5, .int .i64 0, .string ⟨#[]⟩, lv, kv]) := by
 have hkl : ks.length = m := by have := hk.1; simpa using this
 have hk2 := hk.2
 have hl2 := hl.2
 obtain ⟨ak, ck, rfl, k1, k2, k3⟩ : ∃ ak ck, kv = .slice ak m ck ∧ (ak = none → m = 0 ∧ ck = 0) ∧ m ≤ ck ∧ (∀ a, ak = some a → P a.block ∧ ∀ i t, ks[i]? = some t → w.cell? (a.add i) = some (.string t)) := by
  rcases hk2 with ⟨rfl, rfl⟩ | ⟨g, c, cur, rfl, hb, hg, hc, _⟩
  ·exact ⟨none, 0, rfl, fun _ => ⟨rfl, rfl⟩, Nat.le_refl _, fun a h => by cases h⟩
  ·refine ⟨some ⟨g, 0, none⟩, c, rfl, (fun e => by cases e), hc, fun a h => ?_⟩
   cases h
   exact ⟨hP g hb (hk.lt g rfl).2, fun i t ht => hk.cells (g := g) rfl i _ (by rw [List.getElem?_map, ht]; rfl)⟩
 obtain ⟨al, cl, rfl, l1, l2, l3⟩ : ∃ al cl, lv = .slice al n cl ∧ (al = none → n = 0 ∧ cl = 0) ∧ n ≤ cl ∧ (∀ a, al = some a → P a.block ∧ ∃ g, a = ⟨g, 0, none⟩ ∧ ∀ j u, (flat V n)[j]? = some u → w.cell? (a.add j) = some u) := by
  rcases hl2 with ⟨rfl, rfl⟩ | ⟨g, c, cur, rfl, hb, hg, hc, _⟩
  ·exact ⟨none, 0, rfl, fun _ => ⟨rfl, rfl⟩, Nat.le_refl _, fun a h => by cases h⟩
  ·refine ⟨some ⟨g, 0, none⟩, c, rfl, (fun e => by cases e), hc, fun a h => ?_⟩
   cases h
   exact ⟨hP g hb (hl.lt g rfl).2, g, rfl, hl.cells (g := g) rfl⟩
 subst hn
 subst hkl
 refine IsP.of (V := V) ⟨by omega, by omega, by decide, l1, k1, l2, k2, b1, by omega, b2, fun a ha i hi => ⟨(l3 a ha).1, fun j v hv => ?_⟩, hV, fun a ha i t ht => ⟨(k3 a ha).1, (k3 a ha).2 i t ht⟩, b3⟩ el
 obtain ⟨_, g, rfl, hc⟩ := l3 a ha
 have h1 := hc _ _ (flat_at V l.length hV i hi j v hv)
 rw [add_at0] at h1
 rw [add_at0]
 have e : (⟨g, i * 5, none⟩ : Addr).add j = ⟨g, i * 5 + j, none⟩ := by unfold Addr.add; split <;> simp_all
 rw [e]
 exact h1
def insF (V : Nat → List Value) (L : Nat) (X : List Value) : Nat → List Value := fun i => if i < L then V i else if i = L then X else V (i - 1)
def setF (V : Nat → List Value) (L : Nat) (X : List Value) : Nat → List Value := fun i => if i = L then X else V i
theorem flat_ext {V : Nat → List Value} {n : Nat} {xs : List Value} (hV : ∀ i, i < n → (V i).length = 5) (hx : xs.length = n * 5) (h : ∀ i, i < n → ∀ j, j < 5 → xs[i * 5 + j]? = (V i)[j]?) : flat V n = xs := by
 have hf := flat_len V n hV
 apply List.ext_getElem?
 intro q
 by_cases hq : q < n * 5
 ·have h5 := hV (q / 5) (by omega)
  have h1 := flat_at V n hV (q / 5) (by omega) (q % 5) ((V (q / 5))[q % 5]'(by omega)) (List.getElem?_eq_getElem (by omega))
  have h2 := h (q / 5) (by omega) (q % 5) (by omega)
  rw [show q / 5 * 5 + q % 5 = q by omega] at h1 h2
  rw [h1, h2, List.getElem?_eq_getElem (by omega)]
 ·rw [List.getElem?_eq_none (by omega), List.getElem?_eq_none (by omega)]
theorem flat_get {V : Nat → List Value} {n : Nat} (hV : ∀ i, i < n → (V i).length = 5) (i j : Nat) (hi : i < n) (hj : j < 5) : (flat V n)[i * 5 + j]? = (V i)[j]? := by
 have h5 := hV i hi
 rw [flat_at V n hV i hi j ((V i)[j]'(by omega)) (List.getElem?_eq_getElem (by omega)), List.getElem?_eq_getElem (by omega)]
theorem flat_ins {V : Nat → List Value} {n L : Nat} {X : List Value} (hV : ∀ i, i < n → (V i).length = 5) (hX : X.length = 5) (hL : L ≤ n) : flat (insF V L X) (n + 1) = (flat V n).take (L * 5) ++ X ++ (flat V n).drop (L * 5) := by
 have hf := flat_len V n hV
 refine flat_ext (fun i hi => ?_) (by simp only [List.length_append, List.length_take, List.length_drop]; omega) (fun i hi j hj => ?_)
 ·unfold insF
  split
  ·exact hV i (by omega)
  ·split
   ·exact hX
   ·exact hV (i - 1) (by omega)
 ·unfold insF
  by_cases h1 : i < L
  ·rw [if_pos h1, List.append_assoc, List.getElem?_append_left (by simp only [List.length_take]; omega), List.getElem?_take_of_lt (by omega)]
   exact flat_get hV i j (by omega) hj
  ·rw [if_neg h1, List.append_assoc, List.getElem?_append_right (by simp only [List.length_take]; omega)]
   have e : (List.take (L * 5) (flat V n)).length = L * 5 := by simp only [List.length_take]; omega
   rw [e]
   by_cases h2 : i = L
   ·subst h2
    rw [if_pos rfl, show i * 5 + j - i * 5 = j by omega, List.getElem?_append_left (by omega)]
   ·rw [if_neg h2, List.getElem?_append_right (by omega), List.getElem?_drop, show L * 5 + (i * 5 + j - L * 5 - X.length) = (i - 1) * 5 + j by omega]
    exact flat_get hV (i - 1) j (by omega) hj
theorem flat_set5 {V : Nat → List Value} {n L : Nat} {x0 x1 x2 x3 x4 : Value} (hV : ∀ i, i < n → (V i).length = 5) (hL : L < n) : flat (setF V L [x0, x1, x2, x3, x4]) n = (((((flat V n).set (L * 5) x0).set (L * 5 + 1) x1).set (L * 5 + 2) x2).set (L * 5 + 3) x3).set (L * 5 + 4) x4 := by
 have hf := flat_len V n hV
 refine flat_ext (fun i hi => ?_) (by simpa using hf) (fun i hi j hj => ?_)
 ·unfold setF
  split
  ·rfl
  ·exact hV i hi
 ·unfold setF
  simp only [List.getElem?_set, List.length_set]
  by_cases h : i = L
  ·subst h
   rw [if_pos rfl]
   match j, hj with
   | 0, _ => simp; omega
   | 1, _ => simp; omega
   | 2, _ => simp; omega
   | 3, _ => simp; omega
   | 4, _ => simp; omega
  ·rw [if_neg h, if_neg (by omega), if_neg (by omega), if_neg (by omega), if_neg (by omega), if_neg (by omega)]
   exact flat_get hV i j hi hj
theorem own_to5 {w w' : World} {base : Nat} {e : TypeId} {size : Nat} {v : Value} {n : Nat} {xs : List Value} (h : w.ownsRow base e size v n xs) (hk : ∀ g, v.ownBlock = some g → w'.heap[g]? = w.heap[g]?) : w'.ownsRow base e size v n xs := by
 refine ⟨h.1, ?_⟩
 rcases h.2 with hn | ⟨g, cap, cur, rfl, hbs, hg, rest⟩
 ·exact .inl hn
 ·exact .inr ⟨g, cap, cur, rfl, hbs, (hk g rfl).trans hg, rest⟩
theorem add_add5 (a : Addr) (p q : Nat) : (a.add p).add q = a.add (p + q) := by
 unfold Addr.add
 by_cases hp : p = 0 <;> by_cases hq : q = 0 <;> simp [hp, hq, Nat.add_assoc]
structure Wz (w u : World) (g : Nat) (A X Z : Array Value) : Prop where
 at0 : u.heap[g]? = some (.cells A 25 (0, 0))
 at1 : u.heap[g + 1]? = some (.cells X 25 (0, 0))
 at2 : u.heap[g + 2]? = some (.cells Z 25 (0, 0))
 size : g + 3 ≤ u.heap.size
 below : Below g w u
theorem Wz.later {w u u1 : World} {g : Nat} {A X Z : Array Value} (h : Wz w u g A X Z) (hu : Below u.heap.size u u1) : Wz w u1 g A X Z := by
 have hs := h.size
 exact ⟨(hu.block g (by omega)).trans h.at0, (hu.block (g + 1) (by omega)).trans h.at1, (hu.block (g + 2) (by omega)).trans h.at2, Nat.le_trans h.size hu.size, h.below.trans (hu.mono (by omega))⟩
theorem Wz.to {w u u1 : World} {g : Nat} {A X Z : Array Value} (h : Wz w u g A X Z) (hu : Below (g + 3) u u1) : Wz w u1 g A X Z :=
 ⟨(hu.block g (by omega)).trans h.at0, (hu.block (g + 1) (by omega)).trans h.at1, (hu.block (g + 2) (by omega)).trans h.at2, Nat.le_trans h.size hu.size, h.below.trans (hu.mono (by omega))⟩
structure W7 (w u : World) (g gb : Nat) (A X Z : Array Value) (KL FL : List Value) (m ln : Nat) (ka : Option Addr) (kc : Nat) (la : Option Addr) (lc : Nat) : Prop where
 box : u.heap[gb]? = some (.cells #[.int .i64 5, .int .i64 0, .string ⟨#[]⟩, .slice la ln lc, .slice ka m kc] 25 (0, 0))
 low : g + 3 ≤ gb
 wz : Wz w u g A X Z
 keys : u.ownsRow (g + 3) 9 1 (.slice ka m kc) m KL
 els : u.ownsRow (g + 3) 25 5 (.slice la ln lc) ln FL
 apL : ∀ b, (Value.slice la ln lc).ownBlock = some b → b ≠ gb
 apK : ∀ b, (Value.slice ka m kc).ownBlock = some b → b ≠ gb
theorem w7_store {w u : World} {g gb : Nat} {A X Z : Array Value} {KL FL : List Value} {m ln : Nat} {ka : Option Addr} {kc : Nat} {la : Option Addr} {lc : Nat} {z0 z1 z2 z3 z4 : Value}
  (hb : u.heap[gb]? = some (.cells #[z0, z1, z2, z3, z4] 25 (0, 0))) (hlow : g + 3 ≤ gb) (hz : Wz w u g A X Z) (hk : u.ownsRow (g + 3) 9 1 (.slice ka m kc) m KL) (hl : u.ownsRow (g + 3) 25 5 (.slice la ln lc) ln FL) (aL : ∀ b, (Value.slice la ln lc).ownBlock = some b → b ≠ gb) (aK : ∀ b, (Value.slice ka m kc).ownBlock = some b → b ≠ gb) :
  W7 w (((((u.setCell ⟨gb, 0, none⟩ (.int .i64 5)).setCell ⟨gb, 1, none⟩ (.int .i64 0)).setCell ⟨gb, 2, none⟩ (.string ⟨#[]⟩)).setCell ⟨gb, 3, none⟩ (.slice la ln lc)).setCell ⟨gb, 4, none⟩ (.slice ka m kc)) g gb A X Z KL FL m ln ka kc la lc := by
 have R := five_set u gb 25 _ _ _ _ _ (.int .i64 5) (.int .i64 0) (.string ⟨#[]⟩) (.slice la ln lc) (.slice ka m kc) hb
 have O := five_other u gb (x0 := .int .i64 5) (x1 := .int .i64 0) (x2 := .string ⟨#[]⟩) (x3 := .slice la ln lc) (x4 := .slice ka m kc)
 exact ⟨R, hlow, hz.to (five_below (Below.refl _ _) hlow _ _ _ _ _), own_to5 hk (fun b e => O b (aK b e)), own_to5 hl (fun b e => O b (aL b e)), aL, aK⟩
theorem own_isK {w : World} {base : Nat} {ak : Option Addr} {m ck : Nat} {ks : List ByteArray} (hk : w.ownsRow base 9 1 (.slice ak m ck) m (ks.map Value.string)) (b : m ≤ 140737488351232) (sm : ∀ t ∈ ks, t.size ≤ 140737488351232) : IsK w ks ak ck ∧ ks.length = m := by
 have hkl : ks.length = m := by have := hk.1; simpa using this
 refine ⟨?_, hkl⟩
 have hk2 := hk.2
 generalize hkv : Value.slice ak m ck = kv at hk hk2
 rcases hk2 with ⟨rfl, rfl⟩ | ⟨g, c, cur, rfl, hb, hg, hc, _⟩
 ·cases hkv
  exact ⟨fun _ => hkl, by omega, by omega, fun a h => by (cases h), sm⟩
 ·cases hkv
  exact ⟨fun e => by (cases e), by omega, by omega, fun a h i t ht => by
   cases h
   exact hk.cells (g := g) rfl i _ (by rw [List.getElem?_map, ht]; rfl), sm⟩
theorem w7_lt {w u : World} {g gb : Nat} {A X Z : Array Value} {KL FL : List Value} {m ln : Nat} {ka : Option Addr} {kc : Nat} {la : Option Addr} {lc : Nat} (h : W7 w u g gb A X Z KL FL m ln ka kc la lc) : gb < u.heap.size := by
 obtain ⟨hl, _⟩ := Array.getElem?_eq_some_iff.1 h.box
 exact hl
theorem w7_later {w u u1 : World} {g gb : Nat} {A X Z : Array Value} {KL FL : List Value} {m ln : Nat} {ka : Option Addr} {kc : Nat} {la : Option Addr} {lc : Nat} (h : W7 w u g gb A X Z KL FL m ln ka kc la lc) (hu : Below u.heap.size u u1) : W7 w u1 g gb A X Z KL FL m ln ka kc la lc :=
 ⟨(hu.block gb (w7_lt h)).trans h.box, h.low, h.wz.later hu, own_below h.keys hu, own_below h.els hu, h.apL, h.apK⟩
theorem own_two {u : World} {base s t n m : Nat} {d e : TypeId} {v x : Value} {F G : List Value} (h : u.ownsRow base d s v n F) (k : u.ownsRow base e t x m G) (hde : d ≠ e) {b : Nat} (hb : v.ownBlock = some b) : some b ≠ x.ownBlock := by
 intro hx
 rcases h.2 with ⟨rfl, _⟩ | ⟨g, cap, cur, rfl, _, hg, _⟩
 ·cases hb
 ·rcases k.2 with ⟨rfl, _⟩ | ⟨g2, cap2, cur2, rfl, _, hg2, _⟩
  ·cases hx
  ·have e1 : g = b := Option.some.inj hb
   have e2 : b = g2 := Option.some.inj hx
   subst e1
   subst e2
   rw [hg] at hg2
   have e3 := Option.some.inj hg2
   cases e3
   exact hde rfl
theorem set_box {u : World} {gb : Nat} {y0 y1 y2 y3 y4 : Value} (h : u.heap[gb]? = some (.cells #[y0, y1, y2, y3, y4] 25 (0, 0))) (v : Value) :
  (u.setCell ⟨gb, 4, none⟩ v).heap[gb]? = some (.cells #[y0, y1, y2, y3, v] 25 (0, 0)) ∧ (u.setCell ⟨gb, 3, none⟩ v).heap[gb]? = some (.cells #[y0, y1, y2, v, y4] 25 (0, 0)) :=
 ⟨heap_setCell_same u gb 4 _ _ v h, heap_setCell_same u gb 3 _ _ v h⟩
theorem w7_key {w u u1 : World} {g gb : Nat} {A X Z : Array Value} {KL FL KL' : List Value} {m ln m' : Nat} {ka ka' : Option Addr} {kc kc' : Nat} {la : Option Addr} {lc : Nat} (h : W7 w u g gb A X Z KL FL m ln ka kc la lc)
  (ok : u1.ownsRow (g + 3) 9 1 (.slice ka' m' kc') m' KL') (gk : Grew u u1 (.slice ka m kc) (.slice ka' m' kc')) : W7 w (u1.setCell ⟨gb, 4, none⟩ (.slice ka' m' kc')) g gb A X Z KL' FL m' ln ka' kc' la lc := by
 have hlt := w7_lt h
 have hB : Below (g + 3) u u1 := (Below.refl _ _).grown gk.grown h.wz.size (fun k e => (h.keys.lt k e).1)
 have b1 : u1.heap[gb]? = _ := (gk.far hlt (fun e => h.apK gb e.symm rfl)).trans h.box
 have e1 := own_to5 h.els (fun b e => gk.far (h.els.lt b e).2 (own_two h.els h.keys (by decide) e))
 have aK : ∀ b, (Value.slice ka' m' kc').ownBlock = some b → b ≠ gb := fun b e => by
  rcases gk.row b e with h' | h'
  ·exact h.apK b h'
  ·omega
 exact ⟨(set_box b1 _).1, h.low, (h.wz.to hB).to ((Below.refl _ _).setCell (p := ⟨gb, 4, none⟩) h.low _), own_to5 ok (fun b e => heap_setCell_other _ _ _ _ (aK b e)), own_to5 e1 (fun b e => heap_setCell_other _ _ _ _ (h.apL b e)), h.apL, aK⟩
theorem w7_els {w u u1 : World} {g gb : Nat} {A X Z : Array Value} {KL FL FL' : List Value} {m ln ln' : Nat} {ka : Option Addr} {kc : Nat} {la la' : Option Addr} {lc lc' : Nat} (h : W7 w u g gb A X Z KL FL m ln ka kc la lc)
  (ol : u1.ownsRow (g + 3) 25 5 (.slice la' ln' lc') ln' FL') (gl : Grew u u1 (.slice la ln lc) (.slice la' ln' lc')) : W7 w (u1.setCell ⟨gb, 3, none⟩ (.slice la' ln' lc')) g gb A X Z KL FL' m ln' ka kc la' lc' := by
 have hlt := w7_lt h
 have hB : Below (g + 3) u u1 := (Below.refl _ _).grown gl.grown h.wz.size (fun k e => (h.els.lt k e).1)
 have b1 : u1.heap[gb]? = _ := (gl.far hlt (fun e => h.apL gb e.symm rfl)).trans h.box
 have e1 := own_to5 h.keys (fun b e => gl.far (h.keys.lt b e).2 (own_two h.keys h.els (by decide) e))
 have aL : ∀ b, (Value.slice la' ln' lc').ownBlock = some b → b ≠ gb := fun b e => by
  rcases gl.row b e with h' | h'
  ·exact h.apL b h'
  ·omega
 exact ⟨(set_box b1 _).2, h.low, (h.wz.to hB).to ((Below.refl _ _).setCell (p := ⟨gb, 3, none⟩) h.low _), own_to5 e1 (fun b e => heap_setCell_other _ _ _ _ (h.apK b e)), own_to5 ol (fun b e => heap_setCell_other _ _ _ _ (aL b e)), aL, h.apK⟩
theorem w7_set {w u : World} {g gb b L : Nat} {A X Z : Array Value} {KL FL : List Value} {m ln : Nat} {ka : Option Addr} {kc lc : Nat} (h : W7 w u g gb A X Z KL FL m ln ka kc (some ⟨b, 0, none⟩) lc) (x0 x1 x2 x3 x4 : Value) :
  W7 w (((((u.setCell ⟨b, L * 5, none⟩ x0).setCell ⟨b, L * 5 + 1, none⟩ x1).setCell ⟨b, L * 5 + 2, none⟩ x2).setCell ⟨b, L * 5 + 3, none⟩ x3).setCell ⟨b, L * 5 + 4, none⟩ x4) g gb A X Z KL (((((FL.set (L * 5) x0).set (L * 5 + 1) x1).set (L * 5 + 2) x2).set (L * 5 + 3) x3).set (L * 5 + 4) x4) m ln ka kc (some ⟨b, 0, none⟩) lc := by
 have s0 := h.els.stored (L * 5) x0
 have s1 := s0.1.stored (L * 5 + 1) x1
 have s2 := s1.1.stored (L * 5 + 2) x2
 have s3 := s2.1.stored (L * 5 + 3) x3
 have s4 := s3.1.stored (L * 5 + 4) x4
 have hb : g + 3 ≤ b := (h.els.lt b rfl).1
 have hO : ∀ q, q ≠ b → (((((u.setCell ⟨b, L * 5, none⟩ x0).setCell ⟨b, L * 5 + 1, none⟩ x1).setCell ⟨b, L * 5 + 2, none⟩ x2).setCell ⟨b, L * 5 + 3, none⟩ x3).setCell ⟨b, L * 5 + 4, none⟩ x4).heap[q]? = u.heap[q]? := fun q hq => by
  rw [heap_setCell_other _ _ _ _ hq, heap_setCell_other _ _ _ _ hq, heap_setCell_other _ _ _ _ hq, heap_setCell_other _ _ _ _ hq, heap_setCell_other _ _ _ _ hq]
 have hB : Below (g + 3) u (((((u.setCell ⟨b, L * 5, none⟩ x0).setCell ⟨b, L * 5 + 1, none⟩ x1).setCell ⟨b, L * 5 + 2, none⟩ x2).setCell ⟨b, L * 5 + 3, none⟩ x3).setCell ⟨b, L * 5 + 4, none⟩ x4) :=
  ((((((Below.refl _ _).setCell (p := ⟨b, L * 5, none⟩) hb x0).setCell (p := ⟨b, L * 5 + 1, none⟩) hb x1).setCell (p := ⟨b, L * 5 + 2, none⟩) hb x2).setCell (p := ⟨b, L * 5 + 3, none⟩) hb x3).setCell (p := ⟨b, L * 5 + 4, none⟩) hb x4)
 exact ⟨(hO gb (fun e => h.apL b rfl e.symm)).trans h.box, h.low, h.wz.to hB, own_to5 h.keys (fun q e => hO q (fun e2 => own_two h.keys h.els (by decide) e (by rw [e2]; rfl))), s4.1, h.apL, h.apK⟩
theorem w7_isV {w u : World} {g gb B : Nat} {A X Z : Array Value} {ks : List ByteArray} {V : Nat → List Value} {l : List Vl} {m ln : Nat} {ka : Option Addr} {kc : Nat} {la : Option Addr} {lc : Nat} (h : W7 w u g gb A X Z (ks.map Value.string) (flat V ln) m ln ka kc la lc) (hl : l.length = ln) (hV : ∀ i, i < ln → (V i).length = 5)
  (el : ∀ i y, l[i]? = some y → IsP w (fun b => b < B) y (.agg (V i).toArray)) (hB : B ≤ g) (hg : g ≤ w.heap.size) (b1 : ln ≤ 140737488351232) (b2 : 16 * m ≤ 140737488351232) (b3 : ∀ t ∈ ks, t.size ≤ 140737488351232) :
  IsV u u.heap.size (.mk 5 0 ⟨#[]⟩ l ks) (.agg #[.int .i64 5, .int .i64 0, .string ⟨#[]⟩, .slice la ln lc, .slice ka m kc]) :=
 isP_rows h.keys h.els hl hV (fun i y hy => (el i y hy).to (fun b hb => h.wz.below.block b (by omega)) (fun b hb => by have := h.wz.below.size; omega)) (fun b h1 h2 => h2) b1 b2 b3
end Go.Proofs.YtgkmdjmigehmeaaGreatDoor
