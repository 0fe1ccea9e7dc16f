/-
  The walk of value.Get: what a record has under a key, in new memory; conditions: the form's own reach.
-/
import Derived.Test.YtcopkhmmpamboaaL19
import Derived.Test.YtcopkhmmpamboaaL21
namespace Go.Proofs.Ytcopkhmmpamboaa
open Go.RowKit
set_option linter.unusedVariables false
set_option linter.unusedSimpArgs false

theorem rise_pair : ∀ (p : Option ByteArray) (ks : List ByteArray), risingFrom p ks = true → ks.Pairwise (fun a b => bl a b = true) ∧ ∀ q, p = some q → ∀ t ∈ ks, bl q t = true
  | p, [], _ => ⟨List.Pairwise.nil, fun _ _ t ht => by cases ht⟩
  | p, t :: r, h => by
    simp only [risingFrom, Bool.and_eq_true] at h
    obtain ⟨ih1, ih2⟩ := rise_pair (some t) r h.2
    refine ⟨List.Pairwise.cons (fun u hu => ih2 t rfl u hu) ih1, fun q hq u hu => ?_⟩
    subst hq
    have h1 : bl q t = true := h.1.2
    rcases List.mem_cons.1 hu with e | e
    · rw [e]; exact h1
    · exact kl_trans h1 (ih2 t rfl u e)

theorem rise_keys {ks : List ByteArray} (h : risingFrom none ks = true) : RisesK ks := by
  have h1 := (rise_pair none ks h).1
  intro i j p q hij hp hq
  obtain ⟨hi, rfl⟩ := List.getElem?_eq_some_iff.1 hp
  obtain ⟨hj, rfl⟩ := List.getElem?_eq_some_iff.1 hq
  exact List.pairwise_iff_getElem.1 h1 i j hi hj hij

theorem right_keys {n : Int} {s : ByteArray} {l : List Vl} {ks : List ByteArray} (h : rightB (.mk 5 n s l ks) = true) : RisesK ks ∧ ks.length = l.length := by
  have h1 := (right_wt h).1
  rw [show (8 : Nat) = 7 + 1 from rfl, okB, Bool.and_eq_true] at h1
  have h2 := h1.1
  unfold formB formM at h2
  simp at h2
  exact ⟨rise_keys h2.2, by have := h2.1; omega⟩

/-- where a key stands -/
def placeK (ks : List ByteArray) (k : ByteArray) : Option Nat := ks.findIdx? (fun t => decide (t = k))

theorem place_of {ks : List ByteArray} {k : ByteArray} {L : Nat} (hr : RisesK ks) (hL : ∀ i p, ks[i]? = some p → (i < L ↔ bl p k = true)) : (ks[L]? = some k → placeK ks k = some L) ∧ (¬ ks[L]? = some k → placeK ks k = none) := by
  have hir := kl_irr k
  constructor
  · intro h
    unfold placeK
    rw [List.findIdx?_eq_some_iff_getElem]
    obtain ⟨hl, he⟩ := List.getElem?_eq_some_iff.1 h
    refine ⟨hl, by simp [he], fun j hj => ?_⟩
    have h1 := (hL j ks[j] (List.getElem?_eq_getElem (by omega))).1 hj
    simp only [decide_eq_true_eq]
    intro e
    rw [e, hir] at h1
    cases h1
  · intro h
    unfold placeK
    rw [List.findIdx?_eq_none_iff]
    intro x hx
    simp only [decide_eq_false_iff_not]
    intro e
    subst e
    obtain ⟨i, hi⟩ := List.getElem?_of_mem hx
    have h1 : ¬ i < L := fun hlt => by have := (hL i x hi).1 hlt; rw [hir] at this; cases this
    rcases Nat.lt_or_ge L i with hc | hc
    · have hlt := (List.getElem?_eq_some_iff.1 hi).1
      have h2 := hr L i ks[L] x hc (List.getElem?_eq_getElem (by omega)) hi
      have h3 := (hL L ks[L] (List.getElem?_eq_getElem (by omega))).2 h2
      omega
    · have : i = L := by omega
      rw [this] at hi
      exact h hi

/-- what a record has under a key -/
def getR : Vl → ByteArray → Option Vl
  | .mk kd n s l ks, k => if rightB (.mk kd n s l ks) = true ∧ kd = 5 then (placeK ks k).bind (fun i => l[i]?) else none
set_option maxRecDepth 100000 in
set_option maxHeartbeats 400000 in
theorem get_no (v : Vl) (x : Value) (B : Nat) (w : World) (hv : IsV w B v x) (hBs : B ≤ w.heap.size) (key : ByteArray) (hno : getR v key = none) :
    Calls Try.prog 13 #[x, .string key] w fun e w' => e = .returned (.tuple #[.agg #[.int .i64 0, .int .i64 0, .string ⟨#[]⟩, .slice none 0 0, .slice none 0 0], .bool false]) ∧ Below w.heap.size w w' := by
  obtain ⟨k, n, s, l, ks, al, ak, cl, ck, rfl, hx⟩ := hv.shape
  obtain ⟨m, hm⟩ : ∃ m, ks.length = m := ⟨_, rfl⟩
  obtain ⟨ln, hln⟩ : ∃ ln, l.length = ln := ⟨_, rfl⟩
  rw [hm, hln] at hx
  subst hx
  have TW := Two.mk' w 27 #[.int .i64 k, .int .i64 n, .string s, .slice al ln cl, .slice ak m ck] #[.int .i64 0, .int .i64 0, .string ⟨#[]⟩, .slice none 0 0, .slice none 0 0]
  obtain ⟨w2, hw2⟩ : ∃ w2, (w.alloc (.cells #[.int .i64 k, .int .i64 n, .string s, .slice al ln cl, .slice ak m ck] 27)).alloc (.cells #[.int .i64 0, .int .i64 0, .string ⟨#[]⟩, .slice none 0 0, .slice none 0 0] 27) = w2 := ⟨_, rfl⟩
  rw [hw2] at TW
  obtain ⟨g, hg⟩ : ∃ g, w.heap.size = g := ⟨_, rfl⟩
  rw [hg] at TW
  have HT : Hid (∀ u, Below w2.heap.size w2 u → u.heap[g]? = some (.cells #[.int .i64 k, .int .i64 n, .string s, .slice al ln cl, .slice ak m ck] 27 (0, 0)) ∧ u.heap[g + 1]? = some (.cells #[.int .i64 0, .int .i64 0, .string ⟨#[]⟩, .slice none 0 0, .slice none 0 0] 27 (0, 0)) ∧ IsV u B (.mk k n s l ks) (.agg #[.int .i64 k, .int .i64 n, .string s, .slice al ln cl, .slice ak m ck]) ∧ B ≤ u.heap.size ∧ Below w.heap.size w u ∧ g + 2 ≤ u.heap.size) :=
    hide (fun u hu => by
      have h1 : Below w.heap.size w u := TW.below.trans (hu.mono (by have := TW.size; omega))
      have h2 := TW.size
      have h3 := hu.size
      exact ⟨(TW.later hu).1, (TW.later hu).2, hv.mono (h1.mono hBs), by omega, h1, by omega⟩)
  obtain ⟨c0, c1, c2, c3, c4⟩ := row_cell TW.at0
  have CF := hide (right_code (.mk k n s l ks) _ B w2 (unhide HT w2 (Below.refl _ _)).2.2.1 (unhide HT w2 (Below.refl _ _)).2.2.2.1)
  have HL := hide (And.intro hm hln)
  clear TW hv hm hln
  cases hR : rightB (.mk k n s l ks) with
  | false =>
    rw [hR] at CF
    clear hR hno
    go_enter Try.func13, Try.ntmps13
    go_wp2_with fail
    refine (unhide CF).mono ?_
    rintro e u3 ⟨rfl, b3⟩
    have H3 := hide b3
    clear b3 CF c0 c1 c2 c3 c4
    obtain ⟨c0, c1, c2, c3, c4⟩ := row_cell (unhide HT u3 (unhide H3)).1
    have ATX := (unhide HT u3 (unhide H3)).2.1
    obtain ⟨z0, z1, z2, z3, z4⟩ := row_cell ATX
    have fz : ∀ q, u3.frozen? ⟨g + 1, q, none⟩ = false := fun q => frozen_of_row u3 (g + 1) q _ _ ATX
    have fz0 := fz 0
    have fz1 := fz 1
    have fz2 := fz 2
    have fz3 := fz 3
    have fz4 := fz 4
    have HAT := hide ATX
    clear fz ATX
    go_wp2_with fail
    have ATX := unhide HAT
    have BW := (unhide HT u3 (unhide H3)).2.2.2.2.1
    have R9 := five_set u3 (g + 1) 27 _ _ _ _ _ (.int .i64 0) (.int .i64 0) (.string ⟨#[]⟩) (.slice none 0 0) (.slice none 0 0) ATX
    have B9 := five_below (g := g + 1) BW (by omega) (.int .i64 0) (.int .i64 0) (.string ⟨#[]⟩) (.slice none 0 0) (.slice none 0 0)
    obtain ⟨w9, hw9⟩ : ∃ w9, (((((u3.setCell ⟨g + 1, 0, none⟩ (.int .i64 0)).setCell ⟨g + 1, 1, none⟩ (.int .i64 0)).setCell ⟨g + 1, 2, none⟩ (.string ⟨#[]⟩)).setCell ⟨g + 1, 3, none⟩ (.slice none 0 0)).setCell ⟨g + 1, 4, none⟩ (.slice none 0 0)) = w9 := ⟨_, rfl⟩
    rw [hw9] at R9 B9 ⊢
    obtain ⟨r0, r1, r2, r3, r4⟩ := row_cell R9
    refine bodyPost_ret (v := .tuple #[.agg #[.int .i64 0, .int .i64 0, .string ⟨#[]⟩, .slice none 0 0, .slice none 0 0], .bool false]) (by simp [results, Try.results13, go_sem, r0, r1, r2, r3, r4]) rfl ?_
    first | exact ⟨rfl, B9⟩ | (rw [hg] at B9; exact ⟨rfl, B9⟩)
  | true =>
    rw [hR] at CF
    by_cases h5 : k = 5
    · subst h5
      have HR := hide (right_keys hR).1
      have HNO : Hid (∀ i, placeK ks key = some i → l[i]? = none) := hide (fun i hi => by
        rw [getR, if_pos ⟨hR, rfl⟩, hi] at hno
        exact hno)
      have HKL := hide (right_keys hR).2
      clear hR hno
      go_enter Try.func13, Try.ntmps13
      go_wp2_with fail
      refine (unhide CF).mono ?_
      rintro e u3 ⟨rfl, b3⟩
      have H3 := hide b3
      clear b3 CF c0 c1 c2 c3 c4
      obtain ⟨c0, c1, c2, c3, c4⟩ := row_cell (unhide HT u3 (unhide H3)).1
      have VK := (unhide HT u3 (unhide H3)).2.2.1.keys.1
      have CB := hide (search_any ks ak ck u3 VK (unhide HR) key)
      rw [(unhide HL).1] at CB
      clear VK
      go_wp2_with fail
      refine (unhide CB).mono ?_
      rintro e u4 ⟨L, rfl, hL1, hL2, rfl⟩
      have hF : decide (ks[L]? = some key) = false := by
        cases hd : decide (ks[L]? = some key) with
        | false => rfl
        | true =>
          have h1 := unhide HNO L ((place_of (unhide HR) hL2).1 (of_decide_eq_true hd))
          have h2 := (List.getElem?_eq_some_iff.1 (of_decide_eq_true hd)).1
          have h3 := unhide HKL
          rw [List.getElem?_eq_getElem (by omega)] at h1
          cases h1
      rw [hF]
      clear hF hL1 hL2 CB
      have ATX := (unhide HT u4 (unhide H3)).2.1
      obtain ⟨z0, z1, z2, z3, z4⟩ := row_cell ATX
      have fz : ∀ q, u4.frozen? ⟨g + 1, q, none⟩ = false := fun q => frozen_of_row u4 (g + 1) q _ _ ATX
      have fz0 := fz 0
      have fz1 := fz 1
      have fz2 := fz 2
      have fz3 := fz 3
      have fz4 := fz 4
      have HAT := hide ATX
      clear fz ATX
      go_wp2_with fail
      have ATX := unhide HAT
      have BW := (unhide HT u4 (unhide H3)).2.2.2.2.1
      have R9 := five_set u4 (g + 1) 27 _ _ _ _ _ (.int .i64 0) (.int .i64 0) (.string ⟨#[]⟩) (.slice none 0 0) (.slice none 0 0) ATX
      have B9 := five_below (g := g + 1) BW (by omega) (.int .i64 0) (.int .i64 0) (.string ⟨#[]⟩) (.slice none 0 0) (.slice none 0 0)
      obtain ⟨w9, hw9⟩ : ∃ w9, (((((u4.setCell ⟨g + 1, 0, none⟩ (.int .i64 0)).setCell ⟨g + 1, 1, none⟩ (.int .i64 0)).setCell ⟨g + 1, 2, none⟩ (.string ⟨#[]⟩)).setCell ⟨g + 1, 3, none⟩ (.slice none 0 0)).setCell ⟨g + 1, 4, none⟩ (.slice none 0 0)) = w9 := ⟨_, rfl⟩
      rw [hw9] at R9 B9 ⊢
      obtain ⟨r0, r1, r2, r3, r4⟩ := row_cell R9
      refine bodyPost_ret (v := .tuple #[.agg #[.int .i64 0, .int .i64 0, .string ⟨#[]⟩, .slice none 0 0, .slice none 0 0], .bool false]) (by simp [results, Try.results13, go_sem, r0, r1, r2, r3, r4]) rfl ?_
      first | exact ⟨rfl, B9⟩ | (rw [hg] at B9; exact ⟨rfl, B9⟩)
    · have h5' : ¬ (k = 5) := h5
      clear hR hno h5
      go_enter Try.func13, Try.ntmps13
      go_wp2_with fail
      refine (unhide CF).mono ?_
      rintro e u3 ⟨rfl, b3⟩
      have H3 := hide b3
      clear b3 CF c0 c1 c2 c3 c4
      obtain ⟨c0, c1, c2, c3, c4⟩ := row_cell (unhide HT u3 (unhide H3)).1
      have ATX := (unhide HT u3 (unhide H3)).2.1
      obtain ⟨z0, z1, z2, z3, z4⟩ := row_cell ATX
      have fz : ∀ q, u3.frozen? ⟨g + 1, q, none⟩ = false := fun q => frozen_of_row u3 (g + 1) q _ _ ATX
      have fz0 := fz 0
      have fz1 := fz 1
      have fz2 := fz 2
      have fz3 := fz 3
      have fz4 := fz 4
      have HAT := hide ATX
      clear fz ATX
      go_wp2_with fail
      have ATX := unhide HAT
      have BW := (unhide HT u3 (unhide H3)).2.2.2.2.1
      have R9 := five_set u3 (g + 1) 27 _ _ _ _ _ (.int .i64 0) (.int .i64 0) (.string ⟨#[]⟩) (.slice none 0 0) (.slice none 0 0) ATX
      have B9 := five_below (g := g + 1) BW (by omega) (.int .i64 0) (.int .i64 0) (.string ⟨#[]⟩) (.slice none 0 0) (.slice none 0 0)
      obtain ⟨w9, hw9⟩ : ∃ w9, (((((u3.setCell ⟨g + 1, 0, none⟩ (.int .i64 0)).setCell ⟨g + 1, 1, none⟩ (.int .i64 0)).setCell ⟨g + 1, 2, none⟩ (.string ⟨#[]⟩)).setCell ⟨g + 1, 3, none⟩ (.slice none 0 0)).setCell ⟨g + 1, 4, none⟩ (.slice none 0 0)) = w9 := ⟨_, rfl⟩
      rw [hw9] at R9 B9 ⊢
      obtain ⟨r0, r1, r2, r3, r4⟩ := row_cell R9
      refine bodyPost_ret (v := .tuple #[.agg #[.int .i64 0, .int .i64 0, .string ⟨#[]⟩, .slice none 0 0, .slice none 0 0], .bool false]) (by simp [results, Try.results13, go_sem, r0, r1, r2, r3, r4]) rfl ?_
      first | exact ⟨rfl, B9⟩ | (rw [hg] at B9; exact ⟨rfl, B9⟩)

set_option maxRecDepth 100000 in
set_option maxHeartbeats 400000 in
theorem get_is (v : Vl) (x : Value) (B : Nat) (w : World) (hv : IsV w B v x) (hBs : B ≤ w.heap.size) (key : ByteArray) (y : Vl) (hy : getR v key = some y) :
    Calls Try.prog 13 #[x, .string key] w fun e w' => ∃ x', e = .returned (.tuple #[x', .bool true]) ∧ Below w.heap.size w w' ∧ IsQ w' (fun b => w.heap.size ≤ b ∧ b < w'.heap.size) y x' := by
  obtain ⟨k, n, s, l, ks, al, ak, cl, ck, rfl, hx⟩ := hv.shape
  obtain ⟨m, hm⟩ : ∃ m, ks.length = m := ⟨_, rfl⟩
  obtain ⟨ln, hln⟩ : ∃ ln, l.length = ln := ⟨_, rfl⟩
  rw [hm, hln] at hx
  subst hx
  have TW := Two.mk' w 27 #[.int .i64 k, .int .i64 n, .string s, .slice al ln cl, .slice ak m ck] #[.int .i64 0, .int .i64 0, .string ⟨#[]⟩, .slice none 0 0, .slice none 0 0]
  obtain ⟨w2, hw2⟩ : ∃ w2, (w.alloc (.cells #[.int .i64 k, .int .i64 n, .string s, .slice al ln cl, .slice ak m ck] 27)).alloc (.cells #[.int .i64 0, .int .i64 0, .string ⟨#[]⟩, .slice none 0 0, .slice none 0 0] 27) = w2 := ⟨_, rfl⟩
  rw [hw2] at TW
  obtain ⟨g, hg⟩ : ∃ g, w.heap.size = g := ⟨_, rfl⟩
  rw [hg] at TW
  have HT : Hid (∀ u, Below w2.heap.size w2 u → u.heap[g]? = some (.cells #[.int .i64 k, .int .i64 n, .string s, .slice al ln cl, .slice ak m ck] 27 (0, 0)) ∧ u.heap[g + 1]? = some (.cells #[.int .i64 0, .int .i64 0, .string ⟨#[]⟩, .slice none 0 0, .slice none 0 0] 27 (0, 0)) ∧ IsV u B (.mk k n s l ks) (.agg #[.int .i64 k, .int .i64 n, .string s, .slice al ln cl, .slice ak m ck]) ∧ B ≤ u.heap.size ∧ Below w.heap.size w u ∧ g + 2 ≤ u.heap.size) :=
    hide (fun u hu => by
      have h1 : Below w.heap.size w u := TW.below.trans (hu.mono (by have := TW.size; omega))
      have h2 := TW.size
      have h3 := hu.size
      exact ⟨(TW.later hu).1, (TW.later hu).2, hv.mono (h1.mono hBs), by omega, h1, by omega⟩)
  obtain ⟨c0, c1, c2, c3, c4⟩ := row_cell TW.at0
  have CF := hide (right_code (.mk k n s l ks) _ B w2 (unhide HT w2 (Below.refl _ _)).2.2.1 (unhide HT w2 (Below.refl _ _)).2.2.2.1)
  have HL := hide (And.intro hm hln)
  clear TW hv hm hln
  obtain ⟨hR, h5⟩ : rightB (.mk k n s l ks) = true ∧ k = 5 := by
    rw [getR] at hy
    split at hy
    · assumption
    · cases hy
  subst h5
  obtain ⟨I, hI, hyI⟩ : ∃ I, placeK ks key = some I ∧ l[I]? = some y := by
    rw [getR, if_pos ⟨hR, rfl⟩] at hy
    obtain ⟨I, h1, h2⟩ := Option.bind_eq_some_iff.1 hy
    exact ⟨I, h1, h2⟩
  have hcy : dep y ≤ dep y ∧ cnt y ≤ 5000 := by
    have h := few_right hR
    unfold fewB at h
    have h1 := of_decide_eq_true h
    have h2 := cntL_next l I y hyI
    have h3 := cntL_take_le l (I + 1)
    simp only [cnt] at h1
    exact ⟨Nat.le_refl _, by omega⟩
  rw [hR] at CF
  have HR := hide (right_keys hR).1
  have HP := hide (And.intro hI hyI)
  clear hR hy hI hyI
  go_enter Try.func13, Try.ntmps13
  go_wp2_with fail
  refine (unhide CF).mono ?_
  rintro e u3 ⟨rfl, b3⟩
  have H3 := hide b3
  clear b3 CF c0 c1 c2 c3 c4
  obtain ⟨c0, c1, c2, c3, c4⟩ := row_cell (unhide HT u3 (unhide H3)).1
  have VK := (unhide HT u3 (unhide H3)).2.2.1.keys.1
  have CB := hide (search_any ks ak ck u3 VK (unhide HR) key)
  rw [(unhide HL).1] at CB
  clear VK
  go_wp2_with fail
  refine (unhide CB).mono ?_
  rintro e u4 ⟨L, rfl, hL1, hL2, rfl⟩
  have hF : decide (ks[L]? = some key) = true ∧ L = I := by
    cases hd : decide (ks[L]? = some key) with
    | false =>
      have h1 := (place_of (unhide HR) hL2).2 (of_decide_eq_false hd)
      rw [(unhide HP).1] at h1
      cases h1
    | true =>
      have h1 := (place_of (unhide HR) hL2).1 (of_decide_eq_true hd)
      rw [(unhide HP).1] at h1
      cases h1
      exact ⟨rfl, rfl⟩
  obtain ⟨hF1, rfl⟩ := hF
  rw [hF1]
  have hlt : L < ln := by have := (List.getElem?_eq_some_iff.1 (unhide HP).2).1; have := (unhide HL).2; omega
  have l1 : (L : Int) < (ln : Int) := by omega
  have l0 : (0 : Int) ≤ (L : Int) := by omega
  obtain ⟨a, y0, y1, y2, al', ak', ll', m', cl', ck', rfl, hab, hce, hve⟩ := (unhide HT u4 (unhide H3)).2.2.1.elem L y (unhide HP).2
  have e0 : u4.cell? (a.add (L * 5)) = some (.int .i64 y0) := hce 0 _ rfl
  have e1 : u4.cell? ⟨(a.add (L * 5)).block, (a.add (L * 5)).off + 1, none⟩ = some (.int .i64 y1) := hce 1 _ rfl
  have e2 : u4.cell? ⟨(a.add (L * 5)).block, (a.add (L * 5)).off + 2, none⟩ = some (.string y2) := hce 2 _ rfl
  have e3 : u4.cell? ⟨(a.add (L * 5)).block, (a.add (L * 5)).off + 3, none⟩ = some (.slice al' ll' cl') := hce 3 _ rfl
  have e4 : u4.cell? ⟨(a.add (L * 5)).block, (a.add (L * 5)).off + 4, none⟩ = some (.slice ak' m' ck') := hce 4 _ rfl
  have CD := hide (cln_any (dep y) y _ B u4 hcy.1 hcy.2 hve (unhide HT u4 (unhide H3)).2.2.2.1)
  clear hF1 hL1 hL2 CB hce hve hab hcy
  go_wp2_with fail
  refine (unhide CD).mono ?_
  rintro e u5 ⟨x4, rfl, p4, b4⟩
  obtain ⟨k4, n4, s4, l4, ks4, al4, ak4, cl4, ck4, hv4, rfl⟩ := p4.shape
  clear hv4
  obtain ⟨lc, hlc⟩ : ∃ lc, l4.length = lc := ⟨_, rfl⟩
  obtain ⟨mc, hmc⟩ : ∃ mc, ks4.length = mc := ⟨_, rfl⟩
  rw [hlc, hmc] at p4 ⊢
  have X4 := (unhide H3).trans (b4.mono (unhide H3).size)
  have H4 := hide (And.intro X4 (And.intro p4 b4.size))
  have ATX := (unhide HT u5 X4).2.1
  obtain ⟨z0, z1, z2, z3, z4⟩ := row_cell ATX
  have fz : ∀ q, u5.frozen? ⟨g + 1, q, none⟩ = false := fun q => frozen_of_row u5 (g + 1) q _ _ ATX
  have fz0 := fz 0
  have fz1 := fz 1
  have fz2 := fz 2
  have fz3 := fz 3
  have fz4 := fz 4
  have HAT := hide ATX
  clear fz ATX p4 b4 X4 CD hlc hmc c0 c1 c2 c3 c4 e0 e1 e2 e3 e4
  go_wp2_with fail
  have ATX := unhide HAT
  have BW := (unhide HT u5 (unhide H4).1).2.2.2.2.1
  have g3 := (unhide HT u4 (unhide H3)).2.2.2.2.2
  have R9 := five_set u5 (g + 1) 27 _ _ _ _ _ (.int .i64 k4) (.int .i64 n4) (.string s4) (.slice al4 lc cl4) (.slice ak4 mc ck4) ATX
  have O9 := five_other u5 (g + 1) (x0 := .int .i64 k4) (x1 := .int .i64 n4) (x2 := .string s4) (x3 := .slice al4 lc cl4) (x4 := .slice ak4 mc ck4)
  have S9 : (((((u5.setCell ⟨g + 1, 0, none⟩ (.int .i64 k4)).setCell ⟨g + 1, 1, none⟩ (.int .i64 n4)).setCell ⟨g + 1, 2, none⟩ (.string s4)).setCell ⟨g + 1, 3, none⟩ (.slice al4 lc cl4)).setCell ⟨g + 1, 4, none⟩ (.slice ak4 mc ck4)).heap.size = u5.heap.size := by simp
  obtain ⟨w9, hw9⟩ : ∃ w9, (((((u5.setCell ⟨g + 1, 0, none⟩ (.int .i64 k4)).setCell ⟨g + 1, 1, none⟩ (.int .i64 n4)).setCell ⟨g + 1, 2, none⟩ (.string s4)).setCell ⟨g + 1, 3, none⟩ (.slice al4 lc cl4)).setCell ⟨g + 1, 4, none⟩ (.slice ak4 mc ck4)) = w9 := ⟨_, rfl⟩
  rw [hw9] at R9 S9 ⊢
  have B9 : Below w.heap.size w w9 := by rw [← hw9]; exact five_below BW (by omega) _ _ _ _ _
  obtain ⟨r0, r1, r2, r3, r4⟩ := row_cell R9
  refine bodyPost_ret (v := .tuple #[.agg #[.int .i64 k4, .int .i64 n4, .string s4, .slice al4 lc cl4, .slice ak4 mc ck4], .bool true]) (by simp [results, Try.results13, go_sem, r0, r1, r2, r3, r4]) rfl ?_
  have Q9 : IsQ w9 (fun b => w.heap.size ≤ b ∧ b < w9.heap.size) y (.agg #[.int .i64 k4, .int .i64 n4, .string s4, .slice al4 lc cl4, .slice ak4 mc ck4]) := ((unhide H4).2.1.move (fun q hq => by rw [← hw9]; exact O9 q (by have := hq.1; omega))).weak (fun q hq => ⟨by have := hq.1; omega, by have := hq.2; omega⟩)
  first | exact ⟨_, rfl, B9, Q9⟩ | (rw [hg] at B9 Q9; exact ⟨_, rfl, B9, Q9⟩)
end Go.Proofs.Ytcopkhmmpamboaa
