/-
  The walks of measure, Right, Weight, Depth: a value's weight and depth, 0 of what is not right; no conditions but the form's own reach.
  When two values are the same, field by field; no conditions.
  The walks of many and few: how many parts a value has; no conditions but the form's own reach.
  A step of a region that draws: make; no conditions.
-/
import Derived.Test.YtdaooapfokhfcaaGreatA03
import Derived.Laws.ResultCell
import Derived.Laws.EntriesVeiled
import Derived.WalkSpells
import Derived.WalkSmall
import Derived.Deep.AppendLies
import Derived.OwnWalk
namespace Go.Proofs.YtdaooapfokhfcaaGreat
open Go.RowKit

/-- is it right? -/
def rightB (v : Vl) : Bool := okB 8 v && decide (wt v ≤ 2048)
def wt0 (v : Vl) : Nat := if rightB v then wt v else 0
def dep0 (v : Vl) : Nat := if rightB v then dep v else 0

theorem dep_pos (v : Vl) : 1 ≤ dep v := by cases v; simp [dep]

theorem ret_cells {fn : Func} {p q : Tmp} (h : fn.results = #[.cell p 3, .cell q 3]) (tmps : Array Value) (w : World) (gp gq : Nat) (x y : Int) (hp : tmps.getD p undef = .pointer (some ⟨gp, 0, none⟩)) (hq : tmps.getD q undef = .pointer (some ⟨gq, 0, none⟩))
    (hx : w.cell? ⟨gp, 0, none⟩ = some (.int .i64 x)) (hy : w.cell? ⟨gq, 0, none⟩ = some (.int .i64 y)) : (results fn tmps).run Tryz.prog w = .ok (.tuple #[.int .i64 x, .int .i64 y]) w := by
  have hp' : tmps[p]?.getD undef = .pointer (some ⟨gp, 0, none⟩) := by simpa using hp
  have hq' : tmps[q]?.getD undef = .pointer (some ⟨gq, 0, none⟩) := by simpa using hq
  simp only [results, h]
  go_simp

set_option maxRecDepth 100000 in
set_option maxHeartbeats 400000 in
theorem measure_any (v : Vl) (x : Value) (B : Nat) (w : World) (hv : IsV w B v x) (hBs : B ≤ w.heap.size) :
    Calls Tryz.prog 74 #[x] w fun e w' => e = .returned (.tuple #[.int .i64 (wt0 v : Int), .int .i64 (dep0 v : Int)]) ∧ Below w.heap.size w w' := by
  obtain ⟨k', n', s', l', ks', al', ak', cl', ck', hy', hx⟩ := hv.shape
  obtain ⟨ll, hll⟩ : ∃ ll, l'.length = ll := ⟨_, rfl⟩
  obtain ⟨m, hm⟩ : ∃ m, ks'.length = m := ⟨_, rfl⟩
  rw [hll, hm] at hx
  subst hx
  obtain ⟨w1, hw1⟩ : ∃ w1, w.alloc (.cells #[.int .i64 k', .int .i64 n', .string s', .slice al' ll cl', .slice ak' m ck'] 32) = w1 := ⟨_, rfl⟩
  have BX := Box.mk' w (.int .i64 k') (.int .i64 n') (.string s') (.slice al' ll cl') (.slice ak' m ck')
  rw [hw1] at BX
  obtain ⟨g, hg⟩ : ∃ g, w.heap.size = g := ⟨_, rfl⟩
  have z1 := BX.size
  rw [hg] at z1
  obtain ⟨w2, hw2⟩ : ∃ w2, w1.alloc (.cells #[.int .i64 0] 3) = w2 := ⟨_, rfl⟩
  obtain ⟨w3, hw3⟩ : ∃ w3, w2.alloc (.cells #[.int .i64 0] 3) = w3 := ⟨_, rfl⟩
  obtain ⟨w4, hw4⟩ : ∃ w4, w3.alloc (.cells #[.nilFunc] 114) = w4 := ⟨_, rfl⟩
  have z2 : w2.heap.size = g + 2 := by rw [← hw2]; simp [z1]
  have z3 : w3.heap.size = g + 3 := by rw [← hw3]; simp [z2]
  have z4 : w4.heap.size = g + 4 := by rw [← hw4]; simp [z3]
  have b12 : Below w1.heap.size w1 w2 := by rw [← hw2]; exact (Below.refl _ _).alloc (Nat.le_refl _) _
  have b23 : Below w2.heap.size w2 w3 := by rw [← hw3]; exact (Below.refl _ _).alloc (Nat.le_refl _) _
  have b34 : Below w3.heap.size w3 w4 := by rw [← hw4]; exact (Below.refl _ _).alloc (Nat.le_refl _) _
  have r2 : w2.heap[g + 1]? = some (.cells #[.int .i64 0] 3 (0, 0)) := by rw [← hw2, ← z1]; exact heap_alloc_new w1 _
  have r3 : w3.heap[g + 2]? = some (.cells #[.int .i64 0] 3 (0, 0)) := by rw [← hw3, ← z2]; exact heap_alloc_new w2 _
  have r4 : w4.heap[g + 3]? = some (.cells #[.nilFunc] 114 (0, 0)) := by rw [← hw4, ← z3]; exact heap_alloc_new w3 _
  obtain ⟨w5, hw5⟩ : ∃ w5, w4.setCell ⟨g + 3, 0, none⟩ (.func (.func 93) #[] #[.pointer (some ⟨g + 2, 0, none⟩), .pointer (some ⟨g + 1, 0, none⟩), .pointer (some ⟨g + 3, 0, none⟩)]) = w5 := ⟨_, rfl⟩
  have z5 : w5.heap.size = g + 4 := by rw [← hw5]; simp [z4]
  have S5 : St w5 (g + 2) (g + 1) (g + 3) ((0 : Nat) : Int) ((0 : Nat) : Int) := by
    refine ⟨?_, ?_, ?_⟩
    · rw [← hw5, heap_setCell_other _ _ _ _ (by simp), b34.block _ (by omega)]; exact r3
    · rw [← hw5, heap_setCell_other _ _ _ _ (by simp), b34.block _ (by omega), b23.block _ (by omega)]; exact r2
    · rw [← hw5, heap_setCell_same w4 (g + 3) 0 _ _ _ r4]; rfl
  have P5 : Pl w5 g (g + 2) (g + 1) (g + 3) := ⟨by omega, by omega, by omega, by omega, by omega, by omega, by omega, by omega, by omega⟩
  have X5 : Below g w w5 := by
    have h := ((BX.below.trans (b12.mono (by omega))).trans (b23.mono (by omega))).trans (b34.mono (by omega))
    rw [hg] at h
    rw [← hw5]
    exact h.setCell (p := ⟨g + 3, 0, none⟩) (by show g ≤ g + 3; omega) _
  have R5 : w5.heap[g]? = some (.cells #[.int .i64 k', .int .i64 n', .string s', .slice al' ll cl', .slice ak' m ck'] 32 (0, 0)) := by
    rw [← hw5, heap_setCell_other _ _ _ _ (by simp), b34.block _ (by omega), b23.block _ (by omega), b12.block _ (by omega), ← hg]
    exact BX.row
  have q4 : w4.cell? ⟨g + 3, 0, none⟩ = some .nilFunc := (one_cell r4).1
  have f4 : w4.frozen? ⟨g + 3, 0, none⟩ = false := (one_cell r4).2
  have qr : w5.cell? ⟨g + 3, 0, none⟩ = some (.func (.func 93) #[] #[.pointer (some ⟨g + 2, 0, none⟩), .pointer (some ⟨g + 1, 0, none⟩), .pointer (some ⟨g + 3, 0, none⟩)]) := (one_cell S5.fn).1
  obtain ⟨c0, c1, c2, c3, c4⟩ := row_cell R5
  have CI := hide (right_any 8 v _ 1 0 0 g (g + 2) (g + 1) (g + 3) w5 (by omega) (by omega) ((hv.lift (by omega)).mono X5) (by omega) P5 S5 (by omega))
  have H := hide (And.intro P5 (And.intro X5 hy'))
  clear BX b12 b23 b34 r2 r3 r4 S5 P5 X5 R5 hv hy'
  rw [hg]
  simp only [Nat.zero_add] at CI
  obtain ⟨R, hR⟩ : ∃ R, (okB 8 v && decide (wt v ≤ 2048)) = R := ⟨_, rfl⟩
  rw [hR] at CI
  have HR := hide hR
  clear hR
  go_enter Tryz.func74, Tryz.ntmps74
  go_wp2_with fail
  refine (unhide CI).mono ?_
  rintro e w6 ⟨d', s', rfl, s6, b6, hok⟩
  have S6 := hide s6
  have X6 : Hid (Below g w w6) := hide ((unhide H).2.1.trans b6)
  have P6 : Hid (Pl w6 g (g + 2) (g + 1) (g + 3)) := hide ((unhide H).1.later b6.size)
  have HO := hide hok
  obtain ⟨qd, fd⟩ := one_cell s6.dep
  obtain ⟨qw, fw⟩ := one_cell s6.wgt
  clear s6 b6 hok CI c0 c1 c2 c3 c4 qr q4 f4 hw1 hw2 hw3 hw4 hw5
  cases R with
  | false =>
    have S7 := hide (((unhide S6).setW (unhide P6) 0).setD ((unhide P6).later (by simp)) 0)
    have X7 := hide (((unhide X6).setCell (p := ⟨g + 1, 0, none⟩) (by show g ≤ g + 1; omega) (.int .i64 0)).setCell (p := ⟨g + 2, 0, none⟩) (by show g ≤ g + 2; omega) (.int .i64 0))
    have hr : rightB v = false := unhide HR
    have HZ : Hid (wt0 v = 0 ∧ dep0 v = 0) := hide (by unfold wt0 dep0; rw [hr]; exact ⟨rfl, rfl⟩)
    clear hr
    go_wp2_with fail
    refine bodyPost_ret (ret_cells rfl _ _ (g + 1) (g + 2) 0 0 rfl rfl (one_cell (unhide S7).wgt).1 (one_cell (unhide S7).dep).1) rfl ⟨by rw [(unhide HZ).1, (unhide HZ).2]; rfl, unhide X7⟩
  | true =>
    obtain ⟨es, ed⟩ := unhide HO rfl
    subst es
    subst ed
    go_wp2_with fail
    go_region
    have hr : rightB v = true := unhide HR
    have HZ : Hid (wt0 v = wt v ∧ dep0 v = dep v) := hide (by unfold wt0 dep0; rw [hr]; exact ⟨rfl, rfl⟩)
    obtain ⟨W, hW⟩ : ∃ W : Nat, wt v = W := ⟨_, rfl⟩
    obtain ⟨D, hD⟩ : ∃ D : Nat, dep v = D := ⟨_, rfl⟩
    rw [hW, hD] at HZ
    rw [hW, hD]
    have S7 := hide (((unhide S6).setW (unhide P6) (W : Int)).setD ((unhide P6).later (by simp)) (D : Int))
    have X7 := hide ((((unhide X6).setCell (p := ⟨g + 1, 0, none⟩) (by show g ≤ g + 1; omega) (.int .i64 (W : Int))).setCell (p := ⟨g + 2, 0, none⟩) (by show g ≤ g + 2; omega) (.int .i64 (D : Int))).drew)
    clear hr HO S6
    go_wp2_with fail
    refine bodyPost_ret (ret_cells rfl _ _ (g + 1) (g + 2) (W : Int) (D : Int) rfl rfl (one_cell (unhide S7).wgt).1 (one_cell (unhide S7).dep).1) rfl ⟨by rw [(unhide HZ).1, (unhide HZ).2], unhide X7⟩
end Go.Proofs.YtdaooapfokhfcaaGreat

namespace Go.Proofs.YtdaooapfokhfcaaGreat
open Go.RowKit

/-! ### Are two values the same? -/
def sameL : List Vl → List Vl → Bool
  | [], _ => true
  | _ :: _, [] => true
  | .mk k n s l q :: xs, .mk k' n' s' l' q' :: ys => (decide (k = k') && decide (n = n') && (s.toList == s'.toList) && decide (l.length = l'.length) && decide (q = q') && sameL l l') && sameL xs ys
def sameB : Vl → Vl → Bool
  | .mk k n s l ks, .mk k' n' s' l' ks' => decide (k = k') && decide (n = n') && (s.toList == s'.toList) && decide (l.length = l'.length) && decide (ks = ks') && sameL l l'
theorem sameL_nil (l : List Vl) : sameL [] l = true := by simp only [sameL]
theorem sameL_cons (x : Vl) (xs : List Vl) (y : Vl) (ys : List Vl) : sameL (x :: xs) (y :: ys) = (sameB x y && sameL xs ys) := by
  cases x
  cases y
  simp only [sameL, sameB]

theorem bytes_beq (a b : ByteArray) : (a.toList == b.toList) = true ↔ a = b := by
  rw [beq_iff_eq, ByteArray.toList_eq, ByteArray.toList_eq]
  exact ⟨Go.WideShapes.bytes_inj, fun h => by rw [h]⟩

theorem sameB_iff_of {k n : Int} {s : ByteArray} {l : List Vl} {ks : List ByteArray} {k' n' : Int} {s' : ByteArray} {l' : List Vl} {ks' : List ByteArray} (h : l.length = l'.length → (sameL l l' = true ↔ l = l')) : sameB (.mk k n s l ks) (.mk k' n' s' l' ks') = true ↔ Vl.mk k n s l ks = .mk k' n' s' l' ks' := by
  simp only [sameB, Bool.and_eq_true, decide_eq_true_eq, bytes_beq, Vl.mk.injEq]
  constructor
  · rintro ⟨⟨⟨⟨⟨h1, h2⟩, h3⟩, h4⟩, h5⟩, h6⟩
    exact ⟨h1, h2, h3, (h h4).1 h6, h5⟩
  · rintro ⟨h1, h2, h3, h4, h5⟩
    exact ⟨⟨⟨⟨⟨h1, h2⟩, h3⟩, by rw [h4]⟩, h5⟩, (h (by rw [h4])).2 h4⟩
theorem sameL_iff : ∀ (l l' : List Vl), l.length = l'.length → (sameL l l' = true ↔ l = l')
  | [], [], _ => by simp [sameL_nil]
  | [], _ :: _, h => by simp at h
  | _ :: _, [], h => by simp at h
  | .mk k n s l q :: xs, .mk k' n' s' l' q' :: ys, h => by
    have h1 := sameB_iff_of (k := k) (n := n) (s := s) (ks := q) (k' := k') (n' := n') (s' := s') (ks' := q') (sameL_iff l l')
    have h2 := sameL_iff xs ys (by simpa using h)
    rw [sameL_cons, Bool.and_eq_true, h1, h2, List.cons.injEq]
theorem sameB_iff (a b : Vl) : sameB a b = true ↔ a = b := by
  cases a
  cases b
  exact sameB_iff_of (sameL_iff _ _)
end Go.Proofs.YtdaooapfokhfcaaGreat

namespace Go.Proofs.YtdaooapfokhfcaaGreat
open Go.RowKit

def cntL : List Vl → Nat
  | [] => 0
  | .mk _ _ _ l _ :: r => (1 + cntL l) + cntL r
def cnt : Vl → Nat
  | .mk _ _ _ l _ => 1 + cntL l
theorem cntL_nil : cntL [] = 0 := by simp only [cntL]
theorem cntL_cons (x : Vl) (r : List Vl) : cntL (x :: r) = cnt x + cntL r := by cases x; simp only [cntL, cnt]

theorem cntL_app (a b : List Vl) : cntL (a ++ b) = cntL a + cntL b := by
  induction a with
  | nil => simp [cntL_nil]
  | cons x r ih => simp [cntL_cons, ih]; omega

theorem cntL_next (l : List Vl) (i : Nat) (x : Vl) (h : l[i]? = some x) : cntL (l.take (i + 1)) = cntL (l.take i) + cnt x := by
  obtain ⟨hi, rfl⟩ := List.getElem?_eq_some_iff.1 h
  rw [List.take_succ_eq_append_getElem hi, cntL_app, cntL_cons, cntL_nil, Nat.add_zero]

theorem cntL_take_le (l : List Vl) (i : Nat) : cntL (l.take i) ≤ cntL l := by
  have h := cntL_app (l.take i) (l.drop i)
  rw [List.take_append_drop] at h
  omega

theorem cnt_pos (v : Vl) : 1 ≤ cnt v := by cases v; simp only [cnt]; omega

theorem len_cntL (l : List Vl) : l.length ≤ cntL l := by
  induction l with
  | nil => simp [cntL_nil]
  | cons x r ih => have := cnt_pos x; simp [cntL_cons]; omega

theorem cntL_wt : ∀ (l : List Vl), cntL l ≤ wtL l
  | [] => by simp [cntL_nil]
  | .mk _ _ s l ks :: r => by have := cntL_wt l; have := cntL_wt r; simp only [cntL, wtL]; omega
theorem cnt_wt (v : Vl) : cnt v ≤ wt v := by
  cases v with
  | mk k n s l ks => have := cntL_wt l; simp only [cnt, wt]; omega

theorem dep_elem (l : List Vl) (i : Nat) (x : Vl) (h : l[i]? = some x) : dep x ≤ depL l := by
  have h1 := depL_next l i x h
  have h2 := depL_app (l.take (i + 1)) (l.drop (i + 1))
  rw [List.take_append_drop] at h2
  omega

def ManyAt (b : Nat) : Prop := ∀ (v : Vl) (x : Value) (most B : Nat) (w : World), dep v ≤ b → IsV w B v x → B ≤ w.heap.size → most ≤ 5000 →
    Calls Tryz.prog 88 #[x, .int .i64 (most : Int)] w fun e w' => e = .returned (.int .i64 ((min (cnt v) (most + 1) : Nat) : Int)) ∧ Below w.heap.size w w'

theorem many_zero : ManyAt 0 := by
  intro v x most B w h
  have := dep_pos v
  omega

set_option maxRecDepth 100000 in
set_option maxHeartbeats 800000 in
theorem many_step (b : Nat) (ih : ManyAt b) : ManyAt (b + 1) := by
  intro v x most B w hd hv hBs hmo
  obtain ⟨k, n, s, l, ks, al, ak, cl, ck, rfl, rfl⟩ := hv.shape
  obtain ⟨m, hm⟩ : ∃ m, ks.length = m := ⟨_, rfl⟩
  obtain ⟨ln, hln⟩ : ∃ ln, l.length = ln := ⟨_, rfl⟩
  rw [hm, hln] at hv
  rw [hm, hln]
  have hlb : ln ≤ 140737488351232 := by
    obtain ⟨_, _, _, h1, h2, V, hf, _⟩ := IsP.at hv
    have := hf.bl
    omega
  obtain ⟨w1, hw1⟩ : ∃ w1, w.alloc (.cells #[.int .i64 k, .int .i64 n, .string s, .slice al ln cl, .slice ak m ck] 32) = w1 := ⟨_, rfl⟩
  have BX := Box.mk' w (.int .i64 k) (.int .i64 n) (.string s) (.slice al ln cl) (.slice ak m ck)
  rw [hw1] at BX
  obtain ⟨g, hg⟩ : ∃ g, w.heap.size = g := ⟨_, rfl⟩
  have z1 := BX.size
  have HRW : Hid (∀ u, Below w1.heap.size w1 u → u.heap[g]? = some (.cells #[.int .i64 k, .int .i64 n, .string s, .slice al ln cl, .slice ak m ck] 32 (0, 0))) := hide (fun u hu => by rw [← hg]; exact (hu.block _ (by omega)).trans BX.row)
  have HV : Hid (∀ u, Below w1.heap.size w1 u → IsV u B (.mk k n s l ks) (.agg #[.int .i64 k, .int .i64 n, .string s, .slice al ln cl, .slice ak m ck]) ∧ B ≤ u.heap.size) := hide (fun u hu => ⟨hv.mono ((BX.below.mono (by omega)).trans (hu.mono (by omega))), by have := hu.size; omega⟩)
  have HB : Hid (∀ u, Below w1.heap.size w1 u → Below w.heap.size w u) := hide (fun u hu => BX.below.trans (hu.mono (by omega)))
  have HL := hide hln
  have hdl : ∀ i y, l[i]? = some y → dep y ≤ b := fun i y h => by have h1 := dep_elem l i y h; simp only [dep] at hd; omega
  have HD := hide hdl
  obtain ⟨c0, c1, c2, c3, c4⟩ := row_cell (unhide HRW w1 (Below.refl _ _))
  have HC : Hid (cnt (.mk k n s l ks) = 1 + cntL l) := hide (by simp only [cnt])
  clear BX hv hm hln hdl hd
  go_enter Tryz.func88, Tryz.ntmps88
  go_wp2_with fail
  clear c0 c1 c2 c3 c4
  go_loopw [5, 6] (fun y x wr => ∃ (i N : Nat), i ≤ ln ∧ N ≤ most + 1 ∧ x = .int .i64 i ∧ y = .int .i64 (N : Int) ∧ Hid (Below w1.heap.size w1 wr) ∧ Hid (1 ≤ N ∧ N = max 1 (min (1 + cntL (l.take i)) (most + 1)))) (fun _ x _ => ln - (intOf x).toNat)
  case atStart => exact ⟨0, 1, Nat.zero_le _, by omega, rfl, rfl, hide (Below.refl _ _), hide (by simp [cntL])⟩
  case round =>
    obtain ⟨i, N, hi, hN, rfl, rfl, HX, HN⟩ := hrel
    obtain ⟨c0, c1, c2, c3, c4⟩ := row_cell (unhide HRW wr (unhide HX))
    by_cases hlt : i < ln
    · have i1 : (i : Int) < (ln : Int) := by omega
      by_cases hNm : N ≤ most
      · have n1 : (N : Int) ≤ (most : Int) := by omega
        obtain ⟨y, hy⟩ : ∃ y, l[i]? = some y := ⟨_, List.getElem?_eq_getElem (by have := unhide HL; omega)⟩
        obtain ⟨a, y0, y1, y2, al', ak', ll', m', cl', ck', rfl, hab, hce, hve⟩ := (unhide HV wr (unhide HX)).1.elem i y hy
        have e0 : wr.cell? (a.add (i * 5)) = some (.int .i64 y0) := hce 0 _ rfl
        have e1 : wr.cell? ⟨(a.add (i * 5)).block, (a.add (i * 5)).off + 1, none⟩ = some (.int .i64 y1) := hce 1 _ rfl
        have e2 : wr.cell? ⟨(a.add (i * 5)).block, (a.add (i * 5)).off + 2, none⟩ = some (.string y2) := hce 2 _ rfl
        have e3 : wr.cell? ⟨(a.add (i * 5)).block, (a.add (i * 5)).off + 3, none⟩ = some (.slice al' ll' cl') := hce 3 _ rfl
        have e4 : wr.cell? ⟨(a.add (i * 5)).block, (a.add (i * 5)).off + 4, none⟩ = some (.slice ak' m' ck') := hce 4 _ rfl
        obtain ⟨D, hD⟩ : ∃ D, most - N = D := ⟨_, rfl⟩
        have d1 : (most : Int) - (N : Int) = (D : Int) := by omega
        have d2 : IntKind.i64.wrap (D : Int) = (D : Int) := by rw [IntKind.wrap_i64]; omega
        have CI := hide (ih y _ D B wr (unhide HD i y hy) hve (unhide HV wr (unhide HX)).2 (by omega))
        obtain ⟨C, hC⟩ : ∃ C, min (cnt y) (D + 1) = C := ⟨_, rfl⟩
        rw [hC] at CI
        have hCb : C ≤ D + 1 := by omega
        have HN' : Hid (1 ≤ N + C ∧ N + C = max 1 (min (1 + cntL (l.take (i + 1))) (most + 1))) := hide (by
          have h1 := cntL_next l i y hy
          have h2 := unhide HN
          omega)
        have HI1 : Hid (i + 1 ≤ ln) := hide (by omega)
        obtain ⟨NC, hNCe⟩ : ∃ NC, N + C = NC := ⟨_, rfl⟩
        rw [hNCe] at HN'
        have s1 : (N : Int) + (C : Int) = (NC : Int) := by omega
        have s2 : IntKind.i64.wrap (NC : Int) = (NC : Int) := by rw [IntKind.wrap_i64]; omega
        have hNC : NC ≤ most + 1 := by omega
        clear hy hce hve hC hD hNCe
        go_wp2_with fail
        refine (unhide CI).mono ?_
        rintro e w5 ⟨rfl, b5⟩
        have HX5 : Hid (Below w1.heap.size w1 w5) := hide ((unhide HX).trans (b5.mono (unhide HX).size))
        clear b5 CI
        go_wp2_with fail
        go_roundw
        case rel => exact ⟨i + 1, NC, unhide HI1, hNC, by go_num, rfl, HX5, HN'⟩
        case measure => have := unhide HI1; simp [intOf]; omega
      · have n1 : ¬ (N : Int) ≤ (most : Int) := by omega
        have HG : Hid (((min (cnt (.mk k n s l ks)) (most + 1) : Nat) : Int) = (N : Int)) := hide (by
          have h1 := cntL_take_le l i
          have h2 := unhide HN
          rw [unhide HC]
          omega)
        go_wp2_with fail
        go_ret
        exact ⟨by rw [unhide HG]; rfl, by first | exact unhide HB _ (unhide HX) | (rw [← hg]; exact unhide HB _ (unhide HX))⟩
    · have i1 : ¬ (i : Int) < (ln : Int) := by omega
      have HG : Hid (((min (cnt (.mk k n s l ks)) (most + 1) : Nat) : Int) = (N : Int)) := hide (by
        have h2 := unhide HN
        rw [List.take_of_length_le (by have := unhide HL; omega)] at h2
        rw [unhide HC]
        omega)
      go_wp2_with fail
      go_ret
      exact ⟨by rw [unhide HG]; rfl, by first | exact unhide HB _ (unhide HX) | (rw [← hg]; exact unhide HB _ (unhide HX))⟩

theorem many_any : ∀ b, ManyAt b
  | 0 => many_zero
  | b + 1 => many_step b (many_any b)

def fewB (v : Vl) : Bool := decide (cnt v ≤ 5000)

set_option maxRecDepth 100000 in
set_option maxHeartbeats 400000 in
theorem few_any (v : Vl) (x : Value) (B : Nat) (w : World) (hv : IsV w B v x) (hBs : B ≤ w.heap.size) :
    Calls Tryz.prog 61 #[x] w fun e w' => e = .returned (.bool (fewB v)) ∧ Below w.heap.size w w' := by
  obtain ⟨k', n', s', l', ks', al', ak', cl', ck', hy', hx⟩ := hv.shape
  obtain ⟨ll, hll⟩ : ∃ ll, l'.length = ll := ⟨_, rfl⟩
  obtain ⟨m, hm⟩ : ∃ m, ks'.length = m := ⟨_, rfl⟩
  rw [hll, hm] at hx
  subst hx
  obtain ⟨w1, hw1⟩ : ∃ w1, w.alloc (.cells #[.int .i64 k', .int .i64 n', .string s', .slice al' ll cl', .slice ak' m ck'] 32) = w1 := ⟨_, rfl⟩
  have BX := Box.mk' w (.int .i64 k') (.int .i64 n') (.string s') (.slice al' ll cl') (.slice ak' m ck')
  rw [hw1] at BX
  obtain ⟨c0, c1, c2, c3, c4⟩ := row_cell BX.row
  have z1 := BX.size
  have HB := hide BX.below
  have CM := hide (many_any (dep v) v _ 5000 B w1 (Nat.le_refl _) (hv.mono (BX.below.mono hBs)) (by omega) (Nat.le_refl _))
  obtain ⟨C, hC⟩ : ∃ C, min (cnt v) (5000 + 1) = C := ⟨_, rfl⟩
  rw [hC] at CM
  have HRB : Hid (decide ((C : Int) ≤ 5000) = fewB v) := hide (by
    unfold fewB
    rw [decide_eq_decide]
    omega)
  clear BX hv hy' hC
  go_enter Tryz.func61, Tryz.ntmps61
  go_wp2_with fail
  refine (unhide CM).mono ?_
  rintro e w2 ⟨rfl, b2⟩
  have B2 := hide b2
  clear b2 CM
  go_wp2_with fail
  go_ret
  exact ⟨by rw [← unhide HRB]; rfl, (unhide HB).trans ((unhide B2).mono (by omega))⟩

theorem few_right {v : Vl} (h : rightB v = true) : fewB v = true := by
  unfold rightB at h
  rw [Bool.and_eq_true, decide_eq_true_eq] at h
  have := cnt_wt v
  unfold fewB
  exact decide_eq_true (by omega)
end Go.Proofs.YtdaooapfokhfcaaGreat

namespace Go.Proofs.YtdaooapfokhfcaaGreat
open Go.RowKit

/-- 'make([]T, 0, n)', as one step of a region that draws -/
theorem step_make_own {P : Program} {ops : Array Oper} {o : Oper} {a : Act} {w : World} {K : Act → World → Prop} {Q : Exit → Act → World → Prop} {E : Prop}
    (hg : o.guard = none) (l c : Operand) (t : TypeId) (hop : o.op = Op.makeSlice t l c)
    (base : Nat) (e : TypeId) (i : TypeInfo) (z : Value) (size : Nat) (h1 : P.underlying t = some (.slice e)) (h2 : P.info? e = some i) (h3 : i.zero = some z) (h4 : i.size = size)
    (kl kc : IntKind) (C : Int) (n : Nat) (hl : a.eval l = .int kl 0) (hc : a.eval c = .int kc C) (hC : C = (n : Int)) (b2 : i.bytes * n ≤ 281474976710656) (b3 : n ≤ maxLen) (b4 : base ≤ w.heap.size)
    (hK : ∀ w', w'.ownsRow base e size (.slice (some ⟨w.heap.size, 0, none⟩) 0 n) 0 [] → w.grownBy w' none → K (a.put o.dst (.slice (some ⟨w.heap.size, 0, none⟩) 0 n)) w') :
    if Region.wanted o (yielded ops a.tmps) = true then Oper.wp P o a w K Q else E := by
  have hw : Region.wanted o (yielded ops a.tmps) = true := by simp [Region.wanted, hg]
  rw [if_pos hw]
  obtain ⟨w', hrun, r1, r2⟩ := run_make_own (P := P) w base t e i z size h1 h2 h3 h4 kl kc n b2 b3 b4
  subst hC
  unfold Oper.wp
  simp [execOp, hop, hl, hc, hrun, Result.andThen]
  exact hK w' r1 r2
end Go.Proofs.YtdaooapfokhfcaaGreat
