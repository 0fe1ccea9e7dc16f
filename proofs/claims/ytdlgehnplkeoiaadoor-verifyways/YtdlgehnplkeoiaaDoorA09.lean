/-
  The same as WMid.
  The walks of many and few: how many parts a value has; no conditions but the form's own reach.
  A region that draws its order and closes with a store over a cell that it has read: the read may be taken first, since the store waits for it; no conditions.
-/
import Derived.Test.YtdlgehnplkeoiaaDoorA08
import Derived.Test.YtdlgehnplkeoiaaDoorA07
import Derived.Test.YtdlgehnplkeoiaaDoorA00
import Derived.Deep.RegionHeld3

set_option linter.unusedVariables false
set_option linter.unusedSimpArgs false
namespace Go.Proofs.YtdlgehnplkeoiaaDoor
open Go.RowKit

def ManyAt (b : Nat) : Prop := ∀ (v : Vl) (x : Value) (most B : Nat) (w : World), dep v ≤ b → IsV w B v x → B ≤ w.heap.size → most ≤ 5000 →
    Calls Tryd.prog 36 #[x, .int .i64 (most : Int)] w fun e w' => e = .returned (.int .i64 ((min (cnt v) (most + 1) : Nat) : Int)) ∧ Below w.heap.size w w'

theorem many_zero : ManyAt 0 := by
  intro v x most B w h
  have := dep_pos v
  omega

set_option maxRecDepth 100000 in
set_option maxHeartbeats 800000 in
theorem many_step (b : Nat) (ih : ManyAt b) : ManyAt (b + 1) := by
  intro v x most B w hd hv hBs hmo
  obtain ⟨k, n, s, l, ks, al, ak, cl, ck, rfl, rfl⟩ := hv.shape
  obtain ⟨m, hm⟩ : ∃ m, ks.length = m := ⟨_, rfl⟩
  obtain ⟨ln, hln⟩ : ∃ ln, l.length = ln := ⟨_, rfl⟩
  rw [hm, hln] at hv
  rw [hm, hln]
  have hlb : ln ≤ 140737488351232 := by
    obtain ⟨_, _, _, h1, h2, V, hf, _⟩ := IsP.at hv
    have := hf.bl
    omega
  obtain ⟨w1, hw1⟩ : ∃ w1, w.alloc (.cells #[.int .i64 k, .int .i64 n, .string s, .slice al ln cl, .slice ak m ck] 51) = w1 := ⟨_, rfl⟩
  have BX := Box.mk' w (.int .i64 k) (.int .i64 n) (.string s) (.slice al ln cl) (.slice ak m ck)
  rw [hw1] at BX
  obtain ⟨g, hg⟩ : ∃ g, w.heap.size = g := ⟨_, rfl⟩
  have z1 := BX.size
  have HRW : Hid (∀ u, Below w1.heap.size w1 u → u.heap[g]? = some (.cells #[.int .i64 k, .int .i64 n, .string s, .slice al ln cl, .slice ak m ck] 51 (0, 0))) := hide (fun u hu => by rw [← hg]; exact (hu.block _ (by omega)).trans BX.row)
  have HV : Hid (∀ u, Below w1.heap.size w1 u → IsV u B (.mk k n s l ks) (.agg #[.int .i64 k, .int .i64 n, .string s, .slice al ln cl, .slice ak m ck]) ∧ B ≤ u.heap.size) := hide (fun u hu => ⟨hv.mono ((BX.below.mono (by omega)).trans (hu.mono (by omega))), by have := hu.size; omega⟩)
  have HB : Hid (∀ u, Below w1.heap.size w1 u → Below w.heap.size w u) := hide (fun u hu => BX.below.trans (hu.mono (by omega)))
  have HL := hide hln
  have hdl : ∀ i y, l[i]? = some y → dep y ≤ b := fun i y h => by have h1 := dep_elem l i y h; simp only [dep] at hd; omega
  have HD := hide hdl
  obtain ⟨c0, c1, c2, c3, c4⟩ := row_cell (unhide HRW w1 (Below.refl _ _))
  have HC : Hid (cnt (.mk k n s l ks) = 1 + cntL l) := hide (by simp only [cnt])
  clear BX hv hm hln hdl hd
  go_enter Tryd.func36, Tryd.ntmps36
  go_wp2_with fail
  clear c0 c1 c2 c3 c4
  go_loopw [5, 6] (fun y x wr => ∃ (i N : Nat), i ≤ ln ∧ N ≤ most + 1 ∧ x = .int .i64 i ∧ y = .int .i64 (N : Int) ∧ Hid (Below w1.heap.size w1 wr) ∧ Hid (1 ≤ N ∧ N = max 1 (min (1 + cntL (l.take i)) (most + 1)))) (fun _ x _ => ln - (intOf x).toNat)
  case atStart => exact ⟨0, 1, Nat.zero_le _, by omega, rfl, rfl, hide (Below.refl _ _), hide (by simp [cntL])⟩
  case round =>
    obtain ⟨i, N, hi, hN, rfl, rfl, HX, HN⟩ := hrel
    obtain ⟨c0, c1, c2, c3, c4⟩ := row_cell (unhide HRW wr (unhide HX))
    by_cases hlt : i < ln
    · have i1 : (i : Int) < (ln : Int) := by omega
      by_cases hNm : N ≤ most
      · have n1 : (N : Int) ≤ (most : Int) := by omega
        obtain ⟨y, hy⟩ : ∃ y, l[i]? = some y := ⟨_, List.getElem?_eq_getElem (by have := unhide HL; omega)⟩
        obtain ⟨a, y0, y1, y2, al', ak', ll', m', cl', ck', rfl, hab, hce, hve⟩ := (unhide HV wr (unhide HX)).1.elem i y hy
        have e0 : wr.cell? (a.add (i * 5)) = some (.int .i64 y0) := hce 0 _ rfl
        have e1 : wr.cell? ⟨(a.add (i * 5)).block, (a.add (i * 5)).off + 1, none⟩ = some (.int .i64 y1) := hce 1 _ rfl
        have e2 : wr.cell? ⟨(a.add (i * 5)).block, (a.add (i * 5)).off + 2, none⟩ = some (.string y2) := hce 2 _ rfl
        have e3 : wr.cell? ⟨(a.add (i * 5)).block, (a.add (i * 5)).off + 3, none⟩ = some (.slice al' ll' cl') := hce 3 _ rfl
        have e4 : wr.cell? ⟨(a.add (i * 5)).block, (a.add (i * 5)).off + 4, none⟩ = some (.slice ak' m' ck') := hce 4 _ rfl
        obtain ⟨D, hD⟩ : ∃ D, most - N = D := ⟨_, rfl⟩
        have d1 : (most : Int) - (N : Int) = (D : Int) := by omega
        have d2 : IntKind.i64.wrap (D : Int) = (D : Int) := by rw [IntKind.wrap_i64]; omega
        have CI := hide (ih y _ D B wr (unhide HD i y hy) hve (unhide HV wr (unhide HX)).2 (by omega))
        obtain ⟨C, hC⟩ : ∃ C, min (cnt y) (D + 1) = C := ⟨_, rfl⟩
        rw [hC] at CI
        have hCb : C ≤ D + 1 := by omega
        have HN' : Hid (1 ≤ N + C ∧ N + C = max 1 (min (1 + cntL (l.take (i + 1))) (most + 1))) := hide (by
          have h1 := cntL_next l i y hy
          have h2 := unhide HN
          omega)
        have HI1 : Hid (i + 1 ≤ ln) := hide (by omega)
        obtain ⟨NC, hNCe⟩ : ∃ NC, N + C = NC := ⟨_, rfl⟩
        rw [hNCe] at HN'
        have s1 : (N : Int) + (C : Int) = (NC : Int) := by omega
        have s2 : IntKind.i64.wrap (NC : Int) = (NC : Int) := by rw [IntKind.wrap_i64]; omega
        have hNC : NC ≤ most + 1 := by omega
        clear hy hce hve hC hD hNCe
        go_wp2_with fail
        refine (unhide CI).mono ?_
        rintro e w5 ⟨rfl, b5⟩
        have HX5 : Hid (Below w1.heap.size w1 w5) := hide ((unhide HX).trans (b5.mono (unhide HX).size))
        clear b5 CI
        go_wp2_with fail
        go_roundw
        case rel => exact ⟨i + 1, NC, unhide HI1, hNC, by go_num, rfl, HX5, HN'⟩
        case measure => have := unhide HI1; simp [intOf]; omega
      · have n1 : ¬ (N : Int) ≤ (most : Int) := by omega
        have HG : Hid (((min (cnt (.mk k n s l ks)) (most + 1) : Nat) : Int) = (N : Int)) := hide (by
          have h1 := cntL_take_le l i
          have h2 := unhide HN
          rw [unhide HC]
          omega)
        go_wp2_with fail
        go_ret
        exact ⟨by rw [unhide HG]; rfl, by first | exact unhide HB _ (unhide HX) | (rw [← hg]; exact unhide HB _ (unhide HX))⟩
    · have i1 : ¬ (i : Int) < (ln : Int) := by omega
      have HG : Hid (((min (cnt (.mk k n s l ks)) (most + 1) : Nat) : Int) = (N : Int)) := hide (by
        have h2 := unhide HN
        rw [List.take_of_length_le (by have := unhide HL; omega)] at h2
        rw [unhide HC]
        omega)
      go_wp2_with fail
      go_ret
      exact ⟨by rw [unhide HG]; rfl, by first | exact unhide HB _ (unhide HX) | (rw [← hg]; exact unhide HB _ (unhide HX))⟩

theorem many_any : ∀ b, ManyAt b
  | 0 => many_zero
  | b + 1 => many_step b (many_any b)

def fewB (v : Vl) : Bool := decide (cnt v ≤ 5000)

set_option maxRecDepth 100000 in
set_option maxHeartbeats 400000 in
theorem few_any (v : Vl) (x : Value) (B : Nat) (w : World) (hv : IsV w B v x) (hBs : B ≤ w.heap.size) :
    Calls Tryd.prog 20 #[x] w fun e w' => e = .returned (.bool (fewB v)) ∧ Below w.heap.size w w' := by
  obtain ⟨k', n', s', l', ks', al', ak', cl', ck', hy', hx⟩ := hv.shape
  obtain ⟨ll, hll⟩ : ∃ ll, l'.length = ll := ⟨_, rfl⟩
  obtain ⟨m, hm⟩ : ∃ m, ks'.length = m := ⟨_, rfl⟩
  rw [hll, hm] at hx
  subst hx
  obtain ⟨w1, hw1⟩ : ∃ w1, w.alloc (.cells #[.int .i64 k', .int .i64 n', .string s', .slice al' ll cl', .slice ak' m ck'] 51) = w1 := ⟨_, rfl⟩
  have BX := Box.mk' w (.int .i64 k') (.int .i64 n') (.string s') (.slice al' ll cl') (.slice ak' m ck')
  rw [hw1] at BX
  obtain ⟨c0, c1, c2, c3, c4⟩ := row_cell BX.row
  have z1 := BX.size
  have HB := hide BX.below
  have CM := hide (many_any (dep v) v _ 5000 B w1 (Nat.le_refl _) (hv.mono (BX.below.mono hBs)) (by omega) (Nat.le_refl _))
  obtain ⟨C, hC⟩ : ∃ C, min (cnt v) (5000 + 1) = C := ⟨_, rfl⟩
  rw [hC] at CM
  have HRB : Hid (decide ((C : Int) ≤ 5000) = fewB v) := hide (by
    unfold fewB
    rw [decide_eq_decide]
    omega)
  clear BX hv hy' hC
  go_enter Tryd.func20, Tryd.ntmps20
  go_wp2_with fail
  refine (unhide CM).mono ?_
  rintro e w2 ⟨rfl, b2⟩
  have B2 := hide b2
  clear b2 CM
  go_wp2_with fail
  go_ret
  exact ⟨by rw [← unhide HRB]; rfl, (unhide HB).trans ((unhide B2).mono (by omega))⟩

theorem few_right {v : Vl} (h : rightB v = true) : fewB v = true := by
  unfold rightB at h
  rw [Bool.and_eq_true, decide_eq_true_eq] at h
  have := cnt_wt v
  unfold fewB
  exact decide_eq_true (by omega)
end Go.Proofs.YtdlgehnplkeoiaaDoor

namespace Go.Proofs.YtdlgehnplkeoiaaDoor
open Go.RowKit

section
variable {P : Program} {ops : Array Oper} {Q : Exit → Act → World → Prop} {md : Region.Mode} {S : World → Prop} {z : Nat}

/-- whatever order is picked from here on, S holding behind each operation but number z -/
def Till (P : Program) (md : Region.Mode) (ops : Array Oper) (Q : Exit → Act → World → Prop) (S : World → Prop) (z : Nat) : Nat → Array Bool → Act → World → Prop
  | 0, listed, a, w => Region.ready md ops listed = [] ∧ Q .normal a w
  | f + 1, listed, a, w => (Region.ready md ops listed = [] → Q .normal a w) ∧ ∀ i ∈ Region.ready md ops listed, wpOp P ops Q i (fun a' w' => (i = z ∨ S w') ∧ Till P md ops Q S z f (listed.setIfInBounds i true) a' w') a w

theorem Till.any : ∀ (f : Nat) (listed : Array Bool) (a : Act) (w : World), Till P md ops Q S z f listed a w → wpAny P md ops Q f listed a w
  | 0, _, _, _, h => h
  | f + 1, _, _, _, h => ⟨h.1, fun i hi => wpOp_mono (fun a' w' h' => Till.any f _ a' w' h'.2) (h.2 i hi)⟩

theorem Till.first {i : Nat} {oi oz : Oper} {v : Value} (hi : ops[i]? = some oi) (hz : ops[z]? = some oz) (hwait : ∃ e ∈ oz.after, Region.binds md e = true ∧ e.on = i)
    (hsel : ∀ (j : Nat) (o : Oper) cs b, ops[j]? = some o → o.op ≠ .select cs b) (hQ : ∀ c a w, Q (.panic c) (a.put oi.dst v) w → Q (.panic c) a w) :
    ∀ (f : Nat) (listed : Array Bool) (a : Act) (w : World),
      (∀ j oj, ops[j]? = some oj → j ≠ i → listed.getD j true = false → (∀ e ∈ oj.after, Region.binds md e = true → e.on ≠ i) → oi.apart ops oj = true) →
      i ∈ Region.ready md ops listed → YieldsIf P ops S oi v a → S w →
      Till P md ops Q S z f (listed.setIfInBounds i true) (a.put oi.dst v) w → Till P md ops Q S z (f + 1) listed a w := by
  intro f
  induction f with
  | zero =>
    intro listed a w _ hr hy hS H
    refine ⟨fun h => (by rw [h] at hr; cases hr), fun j hj => ?_⟩
    by_cases e : j = i
    · rw [e]
      exact hy.wpOp hi hS ⟨Or.inr hS, H⟩
    · exact absurd (ready_mono hj e) (by rw [H.1]; simp)
  | succ f ih =>
    intro listed a w hfree hr hy hS H
    refine ⟨fun h => (by rw [h] at hr; cases hr), fun j hj => ?_⟩
    by_cases e : j = i
    · rw [e]
      exact hy.wpOp hi hS ⟨Or.inr hS, H⟩
    · obtain ⟨hun, oj, hoj, hall⟩ := mem_ready.1 hj
      have hi0 := (mem_ready.1 hr).1
      -- nobody who may come up now waits for number i
      have hnot : ∀ x ∈ oj.after, Region.binds md x = true → x.on ≠ i := fun x hx hb he => by
        have h1 := hall x hx hb
        rw [he] at h1
        rcases Nat.lt_or_ge i listed.size with hl | hl
        · simp [hl] at hi0 h1
          rw [hi0] at h1
          cases h1
        · simp [Array.getElem?_eq_none hl] at h1
      have hjz : j ≠ z := fun he => by
        obtain ⟨x, hx, hb, hon⟩ := hwait
        rw [he] at hoj
        rw [hoj] at hz
        cases hz
        exact hnot x hx hb hon
      have h2 := wpOp_putIf hoj (hfree j oj hoj e hun hnot) (fun cs b => hsel i oi cs b hi) (fun cs b => hsel j oj cs b hoj) hQ hy (H.2 j (ready_mono hj e))
      refine wpOp_mono (fun a' w' h3 => ?_) h2
      obtain ⟨hy', hS', hT⟩ := h3
      have hSw : S w' := hS'.resolve_left hjz
      refine ⟨Or.inr hSw, ih (listed.setIfInBounds j true) a' w' (fun k ok hk hki hu hno => hfree k ok hk hki ?_ hno) (ready_mono hr (Ne.symm e)) hy' hSw ?_⟩
      · by_cases hjk : j = k
        · rw [← hjk]; exact hun
        · rw [getD_set_ne true hjk] at hu; exact hu
      · rw [Array.setIfInBounds_comm _ _ e]
        exact hT

/-- number i first -/
theorem till_take {f : Nat} {listed : Array Bool} {a : Act} {w : World} (i : Nat) {oi oz : Oper} {v : Value} (d : Option Tmp) (hi : ops[i]? = some oi) (hd : oi.dst = d) (hz : ops[z]? = some oz) (hwait : (oz.after.any fun e => Region.binds md e && e.on == i) = true)
    (hs : Region.noSelect ops = true) (hf : Region.free md ops listed i = true) (hr : (Region.ready md ops listed).contains i = true)
    (hQ : ∀ c a w, Q (.panic c) (a.put d v) w → Q (.panic c) a w) (hy : YieldsIf P ops S oi v a) (hS : S w)
    (h : Till P md ops Q S z f (listed.setIfInBounds i true) (a.put d v) w) : Till P md ops Q S z (f + 1) listed a w := by
  subst hd
  refine Till.first hi hz ?_ (Region.noSelect_spec hs) hQ f listed a w (Region.free_spec hi hf) (by simpa using hr) hy hS h
  rw [Array.any_eq_true] at hwait
  obtain ⟨k, hk, hx⟩ := hwait
  rw [Bool.and_eq_true, beq_iff_eq] at hx
  exact ⟨_, Array.getElem_mem hk, hx.1, hx.2⟩

/-- one alone may come up -/
theorem till_one {f : Nat} {listed : Array Bool} {a : Act} {w : World} (i : Nat) {o : Oper} (hr : Region.ready md ops listed = [i]) (ho : ops[i]? = some o)
    (h : ∀ K' : Act → World → Prop, Shut (∀ a w, (i = z ∨ S w) → Till P md ops Q S z f (listed.setIfInBounds i true) a w → K' a w) → if Region.wanted o (yielded ops a.tmps) = true then Oper.wp P o a w K' Q else K' (a.put o.dst undef) w) :
    Till P md ops Q S z (f + 1) listed a w := by
  refine ⟨fun e => (by rw [e] at hr; cases hr), fun j hj => ?_⟩
  rw [hr, List.mem_singleton] at hj
  subst hj
  exact wpOp_step ho (fun K' hK => h K' (fun a w hS hT => hK a w ⟨hS, hT⟩))

/-- two may come up -/
theorem till_two {f : Nat} {listed : Array Bool} {a : Act} {w : World} (i j : Nat) {oi oj : Oper} (hr : Region.ready md ops listed = [i, j]) (hi : ops[i]? = some oi) (hj : ops[j]? = some oj)
    (h1 : ∀ K' : Act → World → Prop, Shut (∀ a w, (i = z ∨ S w) → Till P md ops Q S z f (listed.setIfInBounds i true) a w → K' a w) → if Region.wanted oi (yielded ops a.tmps) = true then Oper.wp P oi a w K' Q else K' (a.put oi.dst undef) w)
    (h2 : ∀ K' : Act → World → Prop, Shut (∀ a w, (j = z ∨ S w) → Till P md ops Q S z f (listed.setIfInBounds j true) a w → K' a w) → if Region.wanted oj (yielded ops a.tmps) = true then Oper.wp P oj a w K' Q else K' (a.put oj.dst undef) w) :
    Till P md ops Q S z (f + 1) listed a w := by
  refine ⟨fun e => (by rw [e] at hr; cases hr), fun k hk => ?_⟩
  rw [hr, List.mem_cons, List.mem_singleton] at hk
  rcases hk with e | e
  · rw [e]
    exact wpOp_step hi (fun K' hK => h1 K' (fun a w hS hT => hK a w ⟨hS, hT⟩))
  · rw [e]
    exact wpOp_step hj (fun K' hK => h2 K' (fun a w hS hT => hK a w ⟨hS, hT⟩))

theorem till_done {listed : Array Bool} {a : Act} {w : World} (hr : Region.ready md ops listed = []) (h : Q .normal a w) : ∀ f, Till P md ops Q S z f listed a w
  | 0 => ⟨hr, h⟩
  | _ + 1 => ⟨fun _ => h, by rw [hr]; simp⟩

theorem till_begin {id : Nat} {a : Act} {w : World} (z : Nat) (hm : P.follows .mixedOrders = true) (h : Till P .any ops Q S z ops.size (Array.replicate ops.size false) a w.drew) : (Code.region id ops true).wp P Q a w :=
  wp_region_any hm (Till.any _ _ _ _ h)
end
end Go.Proofs.YtdlgehnplkeoiaaDoor
