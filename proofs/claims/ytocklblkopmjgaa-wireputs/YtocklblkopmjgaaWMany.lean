/-
  The walks of many and few: how many parts a value has; no conditions but the form's own reach.
-/
import Derived.Test.YtocklblkopmjgaaWEnc
import Derived.WalkSpells
import Derived.WalkSmall
namespace Go.Proofs.Ytocklblkopmjgaa
open Go.RowKit

def cntL : List Vl → Nat
  | [] => 0
  | .mk _ _ _ l _ :: r => (1 + cntL l) + cntL r
def cnt : Vl → Nat
  | .mk _ _ _ l _ => 1 + cntL l
theorem cntL_nil : cntL [] = 0 := by simp only [cntL]
theorem cntL_cons (x : Vl) (r : List Vl) : cntL (x :: r) = cnt x + cntL r := by cases x; simp only [cntL, cnt]

theorem cntL_app (a b : List Vl) : cntL (a ++ b) = cntL a + cntL b := by
  induction a with
  | nil => simp [cntL_nil]
  | cons x r ih => simp [cntL_cons, ih]; omega

theorem cntL_next (l : List Vl) (i : Nat) (x : Vl) (h : l[i]? = some x) : cntL (l.take (i + 1)) = cntL (l.take i) + cnt x := by
  obtain ⟨hi, rfl⟩ := List.getElem?_eq_some_iff.1 h
  rw [List.take_succ_eq_append_getElem hi, cntL_app, cntL_cons, cntL_nil, Nat.add_zero]

theorem cntL_take_le (l : List Vl) (i : Nat) : cntL (l.take i) ≤ cntL l := by
  have h := cntL_app (l.take i) (l.drop i)
  rw [List.take_append_drop] at h
  omega

theorem cnt_pos (v : Vl) : 1 ≤ cnt v := by cases v; simp only [cnt]; omega

theorem len_cntL (l : List Vl) : l.length ≤ cntL l := by
  induction l with
  | nil => simp [cntL_nil]
  | cons x r ih => have := cnt_pos x; simp [cntL_cons]; omega

theorem cntL_wt : ∀ (l : List Vl), cntL l ≤ wtL l
  | [] => by simp [cntL_nil]
  | .mk _ _ s l ks :: r => by have := cntL_wt l; have := cntL_wt r; simp only [cntL, wtL]; omega
theorem cnt_wt (v : Vl) : cnt v ≤ wt v := by
  cases v with
  | mk k n s l ks => have := cntL_wt l; simp only [cnt, wt]; omega

theorem dep_elem (l : List Vl) (i : Nat) (x : Vl) (h : l[i]? = some x) : dep x ≤ depL l := by
  have h1 := depL_next l i x h
  have h2 := depL_app (l.take (i + 1)) (l.drop (i + 1))
  rw [List.take_append_drop] at h2
  omega

def ManyAt (b : Nat) : Prop := ∀ (v : Vl) (x : Value) (most B : Nat) (w : World), dep v ≤ b → IsV w B v x → B ≤ w.heap.size → most ≤ 5000 →
    Calls Try.prog 82 #[x, .int .i64 (most : Int)] w fun e w' => e = .returned (.int .i64 ((min (cnt v) (most + 1) : Nat) : Int)) ∧ Below w.heap.size w w'

theorem many_zero : ManyAt 0 := by
  intro v x most B w h
  have := dep_pos v
  omega

set_option maxRecDepth 100000 in
set_option maxHeartbeats 800000 in
theorem many_step (b : Nat) (ih : ManyAt b) : ManyAt (b + 1) := by
  intro v x most B w hd hv hBs hmo
  obtain ⟨k, n, s, l, ks, al, ak, cl, ck, rfl, rfl⟩ := hv.shape
  obtain ⟨m, hm⟩ : ∃ m, ks.length = m := ⟨_, rfl⟩
  obtain ⟨ln, hln⟩ : ∃ ln, l.length = ln := ⟨_, rfl⟩
  rw [hm, hln] at hv
  rw [hm, hln]
  have hlb : ln ≤ 140737488351232 := by
    obtain ⟨_, _, _, h1, h2, V, hf, _⟩ := IsP.at hv
    have := hf.bl
    omega
  obtain ⟨w1, hw1⟩ : ∃ w1, w.alloc (.cells #[.int .i64 k, .int .i64 n, .string s, .slice al ln cl, .slice ak m ck] 27) = w1 := ⟨_, rfl⟩
  have BX := Box.mk' w (.int .i64 k) (.int .i64 n) (.string s) (.slice al ln cl) (.slice ak m ck)
  rw [hw1] at BX
  obtain ⟨g, hg⟩ : ∃ g, w.heap.size = g := ⟨_, rfl⟩
  have z1 := BX.size
  have HRW : Hid (∀ u, Below w1.heap.size w1 u → u.heap[g]? = some (.cells #[.int .i64 k, .int .i64 n, .string s, .slice al ln cl, .slice ak m ck] 27 (0, 0))) := hide (fun u hu => by rw [← hg]; exact (hu.block _ (by omega)).trans BX.row)
  have HV : Hid (∀ u, Below w1.heap.size w1 u → IsV u B (.mk k n s l ks) (.agg #[.int .i64 k, .int .i64 n, .string s, .slice al ln cl, .slice ak m ck]) ∧ B ≤ u.heap.size) := hide (fun u hu => ⟨hv.mono ((BX.below.mono (by omega)).trans (hu.mono (by omega))), by have := hu.size; omega⟩)
  have HB : Hid (∀ u, Below w1.heap.size w1 u → Below w.heap.size w u) := hide (fun u hu => BX.below.trans (hu.mono (by omega)))
  have HL := hide hln
  have hdl : ∀ i y, l[i]? = some y → dep y ≤ b := fun i y h => by have h1 := dep_elem l i y h; simp only [dep] at hd; omega
  have HD := hide hdl
  obtain ⟨c0, c1, c2, c3, c4⟩ := row_cell (unhide HRW w1 (Below.refl _ _))
  have HC : Hid (cnt (.mk k n s l ks) = 1 + cntL l) := hide (by simp only [cnt])
  clear BX hv hm hln hdl hd
  go_enter Try.func82, Try.ntmps82
  go_wp2_with fail
  clear c0 c1 c2 c3 c4
  go_loopw [5, 6] (fun y x wr => ∃ (i N : Nat), i ≤ ln ∧ N ≤ most + 1 ∧ x = .int .i64 i ∧ y = .int .i64 (N : Int) ∧ Hid (Below w1.heap.size w1 wr) ∧ Hid (1 ≤ N ∧ N = max 1 (min (1 + cntL (l.take i)) (most + 1)))) (fun _ x _ => ln - (intOf x).toNat)
  case atStart => exact ⟨0, 1, Nat.zero_le _, by omega, rfl, rfl, hide (Below.refl _ _), hide (by simp [cntL])⟩
  case round =>
    obtain ⟨i, N, hi, hN, rfl, rfl, HX, HN⟩ := hrel
    obtain ⟨c0, c1, c2, c3, c4⟩ := row_cell (unhide HRW wr (unhide HX))
    by_cases hlt : i < ln
    · have i1 : (i : Int) < (ln : Int) := by omega
      by_cases hNm : N ≤ most
      · have n1 : (N : Int) ≤ (most : Int) := by omega
        obtain ⟨y, hy⟩ : ∃ y, l[i]? = some y := ⟨_, List.getElem?_eq_getElem (by have := unhide HL; omega)⟩
        obtain ⟨a, y0, y1, y2, al', ak', ll', m', cl', ck', rfl, hab, hce, hve⟩ := (unhide HV wr (unhide HX)).1.elem i y hy
        have e0 : wr.cell? (a.add (i * 5)) = some (.int .i64 y0) := hce 0 _ rfl
        have e1 : wr.cell? ⟨(a.add (i * 5)).block, (a.add (i * 5)).off + 1, none⟩ = some (.int .i64 y1) := hce 1 _ rfl
        have e2 : wr.cell? ⟨(a.add (i * 5)).block, (a.add (i * 5)).off + 2, none⟩ = some (.string y2) := hce 2 _ rfl
        have e3 : wr.cell? ⟨(a.add (i * 5)).block, (a.add (i * 5)).off + 3, none⟩ = some (.slice al' ll' cl') := hce 3 _ rfl
        have e4 : wr.cell? ⟨(a.add (i * 5)).block, (a.add (i * 5)).off + 4, none⟩ = some (.slice ak' m' ck') := hce 4 _ rfl
        obtain ⟨D, hD⟩ : ∃ D, most - N = D := ⟨_, rfl⟩
        have d1 : (most : Int) - (N : Int) = (D : Int) := by omega
        have d2 : IntKind.i64.wrap (D : Int) = (D : Int) := by rw [IntKind.wrap_i64]; omega
        have CI := hide (ih y _ D B wr (unhide HD i y hy) hve (unhide HV wr (unhide HX)).2 (by omega))
        obtain ⟨C, hC⟩ : ∃ C, min (cnt y) (D + 1) = C := ⟨_, rfl⟩
        rw [hC] at CI
        have hCb : C ≤ D + 1 := by omega
        have HN' : Hid (1 ≤ N + C ∧ N + C = max 1 (min (1 + cntL (l.take (i + 1))) (most + 1))) := hide (by
          have h1 := cntL_next l i y hy
          have h2 := unhide HN
          omega)
        have HI1 : Hid (i + 1 ≤ ln) := hide (by omega)
        obtain ⟨NC, hNCe⟩ : ∃ NC, N + C = NC := ⟨_, rfl⟩
        rw [hNCe] at HN'
        have s1 : (N : Int) + (C : Int) = (NC : Int) := by omega
        have s2 : IntKind.i64.wrap (NC : Int) = (NC : Int) := by rw [IntKind.wrap_i64]; omega
        have hNC : NC ≤ most + 1 := by omega
        clear hy hce hve hC hD hNCe
        go_wp2_with fail
        refine (unhide CI).mono ?_
        rintro e w5 ⟨rfl, b5⟩
        have HX5 : Hid (Below w1.heap.size w1 w5) := hide ((unhide HX).trans (b5.mono (unhide HX).size))
        clear b5 CI
        go_wp2_with fail
        go_roundw
        case rel => exact ⟨i + 1, NC, unhide HI1, hNC, by go_num, rfl, HX5, HN'⟩
        case measure => have := unhide HI1; simp [intOf]; omega
      · have n1 : ¬ (N : Int) ≤ (most : Int) := by omega
        have HG : Hid (((min (cnt (.mk k n s l ks)) (most + 1) : Nat) : Int) = (N : Int)) := hide (by
          have h1 := cntL_take_le l i
          have h2 := unhide HN
          rw [unhide HC]
          omega)
        go_wp2_with fail
        go_ret
        exact ⟨by rw [unhide HG]; rfl, by first | exact unhide HB _ (unhide HX) | (rw [← hg]; exact unhide HB _ (unhide HX))⟩
    · have i1 : ¬ (i : Int) < (ln : Int) := by omega
      have HG : Hid (((min (cnt (.mk k n s l ks)) (most + 1) : Nat) : Int) = (N : Int)) := hide (by
        have h2 := unhide HN
        rw [List.take_of_length_le (by have := unhide HL; omega)] at h2
        rw [unhide HC]
        omega)
      go_wp2_with fail
      go_ret
      exact ⟨by rw [unhide HG]; rfl, by first | exact unhide HB _ (unhide HX) | (rw [← hg]; exact unhide HB _ (unhide HX))⟩

theorem many_any : ∀ b, ManyAt b
  | 0 => many_zero
  | b + 1 => many_step b (many_any b)

def fewB (v : Vl) : Bool := decide (cnt v ≤ 5000)

set_option maxRecDepth 100000 in
set_option maxHeartbeats 400000 in
theorem few_any (v : Vl) (x : Value) (B : Nat) (w : World) (hv : IsV w B v x) (hBs : B ≤ w.heap.size) :
    Calls Try.prog 59 #[x] w fun e w' => e = .returned (.bool (fewB v)) ∧ Below w.heap.size w w' := by
  obtain ⟨k', n', s', l', ks', al', ak', cl', ck', hy', hx⟩ := hv.shape
  obtain ⟨ll, hll⟩ : ∃ ll, l'.length = ll := ⟨_, rfl⟩
  obtain ⟨m, hm⟩ : ∃ m, ks'.length = m := ⟨_, rfl⟩
  rw [hll, hm] at hx
  subst hx
  obtain ⟨w1, hw1⟩ : ∃ w1, w.alloc (.cells #[.int .i64 k', .int .i64 n', .string s', .slice al' ll cl', .slice ak' m ck'] 27) = w1 := ⟨_, rfl⟩
  have BX := Box.mk' w (.int .i64 k') (.int .i64 n') (.string s') (.slice al' ll cl') (.slice ak' m ck')
  rw [hw1] at BX
  obtain ⟨c0, c1, c2, c3, c4⟩ := row_cell BX.row
  have z1 := BX.size
  have HB := hide BX.below
  have CM := hide (many_any (dep v) v _ 5000 B w1 (Nat.le_refl _) (hv.mono (BX.below.mono hBs)) (by omega) (Nat.le_refl _))
  obtain ⟨C, hC⟩ : ∃ C, min (cnt v) (5000 + 1) = C := ⟨_, rfl⟩
  rw [hC] at CM
  have HRB : Hid (decide ((C : Int) ≤ 5000) = fewB v) := hide (by
    unfold fewB
    rw [decide_eq_decide]
    omega)
  clear BX hv hy' hC
  go_enter Try.func59, Try.ntmps59
  go_wp2_with fail
  refine (unhide CM).mono ?_
  rintro e w2 ⟨rfl, b2⟩
  have B2 := hide b2
  clear b2 CM
  go_wp2_with fail
  go_ret
  exact ⟨by rw [← unhide HRB]; rfl, (unhide HB).trans ((unhide B2).mono (by omega))⟩

theorem few_right {v : Vl} (h : rightB v = true) : fewB v = true := by
  unfold rightB at h
  rw [Bool.and_eq_true, decide_eq_true_eq] at h
  have := cnt_wt v
  unfold fewB
  exact decide_eq_true (by omega)
end Go.Proofs.Ytocklblkopmjgaa
