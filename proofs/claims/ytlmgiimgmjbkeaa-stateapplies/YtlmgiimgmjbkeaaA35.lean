/-
  Changes in memory; the walk of rising over changes; no conditions but the form's own reach.
  The walks of blank and leads; no conditions but the form's own reach.
-/
import Derived.Test.YtlmgiimgmjbkeaaA33
import Derived.Test.YtlmgiimgmjbkeaaA18
set_option linter.unusedVariables false
set_option linter.unusedSimpArgs false
namespace Go.Proofs.Ytlmgiimgmjbkeaa
open Go.RowKit Go.Shelf
set_option linter.unusedVariables false
set_option linter.unusedSimpArgs false

def keysH (l : List Ch) : List ByteArray := l.map (·.1)

/-- how changes lie in memory, their values' lists in blocks of P -/
structure HsF (w : World) (P : Nat → Prop) (es : List Ch) (al : Option Addr) (cl : Nat) (V : Nat → List Value) : Prop where
  nl : al = none → es.length = 0 ∧ cl = 0
  ll : es.length ≤ cl
  bl : es.length ≤ 140737488351232
  hl : ∀ a, al = some a → ∀ i e, es[i]? = some e → P a.block ∧ ∀ j v, (Value.string e.1 :: Value.bool e.2.1 :: V i)[j]? = some v → w.cell? ((a.add (i * 7)).add j) = some v
  bt : ∀ e ∈ es, e.1.size ≤ 140737488351232
  hv : ∀ i e, es[i]? = some e → (V i).length = 5 ∧ IsP w P e.2.2 (.agg (V i).toArray)

def IsH (w : World) (P : Nat → Prop) (es : List Ch) (al : Option Addr) (cl : Nat) : Prop := ∃ V, HsF w P es al cl V

theorem IsH.to {w w' : World} {P Q : Nat → Prop} (hw : ∀ b, P b → w'.heap[b]? = w.heap[b]?) (hP : ∀ b, P b → Q b) {es : List Ch} {al : Option Addr} {cl : Nat} (h : IsH w P es al cl) : IsH w' Q es al cl := by
  obtain ⟨V, h⟩ := h
  refine ⟨V, h.nl, h.ll, h.bl, fun a ha i e he => ⟨hP _ (h.hl a ha i e he).1, fun j v hv => ?_⟩, h.bt, fun i e he => ⟨(h.hv i e he).1, (h.hv i e he).2.to hw hP⟩⟩
  have e : w'.cell? ((a.add (i * 7)).add j) = w.cell? ((a.add (i * 7)).add j) := World.cell?_of_block (by rw [block_add, block_add]; exact hw _ (h.hl a ha i e he).1)
  rw [e]
  exact (h.hl a ha i _ he).2 j v hv

theorem IsH.weak {w : World} {P Q : Nat → Prop} (hP : ∀ b, P b → Q b) {es : List Ch} {al : Option Addr} {cl : Nat} (h : IsH w P es al cl) : IsH w Q es al cl := h.to (fun _ _ => rfl) hP
theorem IsH.move {w w' : World} {P : Nat → Prop} (hw : ∀ b, P b → w'.heap[b]? = w.heap[b]?) {es : List Ch} {al : Option Addr} {cl : Nat} (h : IsH w P es al cl) : IsH w' P es al cl := h.to hw (fun _ h => h)
theorem IsH.later {w w' : World} {B : Nat} {es : List Ch} {al : Option Addr} {cl : Nat} (h : IsH w (fun b => b < B) es al cl) (hb : Below B w w') : IsH w' (fun b => b < B) es al cl := h.move (fun b hl => hb.block b hl)

theorem IsH.len {w : World} {P : Nat → Prop} {es : List Ch} {al : Option Addr} {cl : Nat} (h : IsH w P es al cl) : es.length ≤ cl ∧ es.length ≤ 140737488351232 ∧ (al = none → es.length = 0) := by
  obtain ⟨V, h⟩ := h
  exact ⟨h.ll, h.bl, fun e => (h.nl e).1⟩

theorem IsH.fit {w : World} {P : Nat → Prop} {es : List Ch} {al : Option Addr} {cl : Nat} (h : IsH w P es al cl) : ∀ e ∈ es, fitB e.2.2 = true := by
  obtain ⟨V, h⟩ := h
  intro e he
  obtain ⟨i, hi⟩ := List.getElem?_of_mem he
  exact (h.hv i e hi).2.fit

/-- the cells of a change -/
theorem IsH.elem {w : World} {P : Nat → Prop} {es : List Ch} {al : Option Addr} {cl : Nat} (h : IsH w P es al cl) (i : Nat) (e : Ch) (he : es[i]? = some e) :
    ∃ (a : Addr) (x0 x1 : Int) (x2 : ByteArray) (al' ak' : Option Addr) (ll' m' cl' ck' : Nat), al = some a ∧ P a.block ∧ e.1.size ≤ 140737488351232 ∧ (∀ j v, [Value.string e.1, .bool e.2.1, .int .i64 x0, .int .i64 x1, .string x2, .slice al' ll' cl', .slice ak' m' ck'][j]? = some v → w.cell? ((a.add (i * 7)).add j) = some v) ∧ IsP w P e.2.2 (.agg #[.int .i64 x0, .int .i64 x1, .string x2, .slice al' ll' cl', .slice ak' m' ck']) := by
  obtain ⟨V, h⟩ := h
  cases al with
  | none => have := (h.nl rfl).1; have := (List.getElem?_eq_some_iff.1 he).1; omega
  | some a =>
    obtain ⟨_, hp⟩ := h.hv i e he
    obtain ⟨k', n', s', l', ks', al', ak', cl', ck', hy', hx⟩ := hp.shape
    have hVi : V i = [.int .i64 k', .int .i64 n', .string s', .slice al' l'.length cl', .slice ak' ks'.length ck'] := by
      have h1 := Value.agg.inj hx
      have h2 := congrArg Array.toList h1
      simpa using h2
    have hc := h.hl a rfl i e he
    rw [hVi] at hc hp
    exact ⟨a, k', n', s', al', ak', l'.length, ks'.length, cl', ck', rfl, hc.1, h.bt e (List.mem_of_getElem? he), hc.2, hp⟩

set_option maxRecDepth 100000 in
set_option maxHeartbeats 1000000 in
theorem risingC_any (es : List Ch) (al : Option Addr) (n cl B : Nat) (w : World) (hn : es.length = n) (h : IsH w (fun b => b < B) es al cl) (hB : B ≤ w.heap.size) :
    Calls Try.prog 32 #[.slice al n cl, .func (.func 33) #[] #[]] w fun e w' => e = .returned (.bool (stepsE (keysH es))) ∧ Below w.heap.size w w' := by
  have hl := h.len
  rw [hn] at hl
  have HV : Hid (∀ u, Below w.heap.size w u → IsH u (fun b => b < B) es al cl) := hide (fun u hu => h.later (hu.mono hB))
  have HN := hide hn
  have hk1 : stepsE ((keysH es).take 1) = true := by cases keysH es <;> simp [stepsE]
  have HK1 := hide hk1
  clear h hn hk1
  go_enter Try.func32, Try.ntmps32
  go_wp2_with fail
  go_loopw [5] (fun x wr => ∃ (i : Nat), x = .int .i64 (i : Int) ∧ Hid (1 ≤ i ∧ i ≤ n + 1 ∧ Below w.heap.size w wr) ∧ Hid (stepsE ((keysH es).take i) = true)) (fun x _ => n + 1 - (intOf x).toNat)
  case atStart => exact ⟨1, rfl, hide ⟨by omega, by omega, Below.refl _ _⟩, HK1⟩
  case round =>
    obtain ⟨i, rfl, HX, HR⟩ := hrel
    obtain ⟨wq, hwq⟩ : ∃ wq, wq = wr := ⟨_, rfl⟩
    subst hwq
    by_cases hlt : i < n
    · have i1 : (i : Int) < (n : Int) := by omega
      obtain ⟨j, hj⟩ : ∃ j, i = j + 1 := ⟨i - 1, by have := (unhide HX).1; omega⟩
      have i2 : IntKind.i64.wrap ((i : Int) - 1) = (j : Int) := by rw [IntKind.wrap_i64]; omega
      have i3 : (j : Int) < (n : Int) := by omega
      obtain ⟨e0, he0⟩ : ∃ e0, es[j]? = some e0 := ⟨_, List.getElem?_eq_getElem (by have := unhide HN; omega)⟩
      obtain ⟨e1, he1⟩ : ∃ e1, es[i]? = some e1 := ⟨_, List.getElem?_eq_getElem (by have := unhide HN; omega)⟩
      have hv := unhide HV wq (unhide HX).2.2
      obtain ⟨a, x0, x1, x2, al', ak', ll', m', cl', ck', rfl, _, _, hc, _⟩ := hv.elem j e0 he0
      obtain ⟨a', y0, y1, y2, bl', bk', lb', mb', clb', ckb', ha', _, _, hd, _⟩ := hv.elem i e1 he1
      cases ha'
      clear hv
      obtain ⟨s0, hs0⟩ : ∃ s0, e0.1 = s0 := ⟨_, rfl⟩
      obtain ⟨s1, hs1⟩ : ∃ s1, e1.1 = s1 := ⟨_, rfl⟩
      obtain ⟨g0, hg0⟩ : ∃ g0, e0.2.1 = g0 := ⟨_, rfl⟩
      obtain ⟨g1, hg1⟩ : ∃ g1, e1.2.1 = g1 := ⟨_, rfl⟩
      rw [hs0, hg0] at hc
      rw [hs1, hg1] at hd
      clear hg0 hg1
      have c0 : wq.cell? (a.add (j * 7)) = some (.string s0) := hc 0 _ rfl
      have c6 : wq.cell? ⟨(a.add (j * 7)).block, (a.add (j * 7)).off + 1, none⟩ = some (.bool g0) := hc 1 _ rfl
      have c1 : wq.cell? ⟨(a.add (j * 7)).block, (a.add (j * 7)).off + 2, none⟩ = some (.int .i64 x0) := hc 2 _ rfl
      have c2 : wq.cell? ⟨(a.add (j * 7)).block, (a.add (j * 7)).off + 3, none⟩ = some (.int .i64 x1) := hc 3 _ rfl
      have c3 : wq.cell? ⟨(a.add (j * 7)).block, (a.add (j * 7)).off + 4, none⟩ = some (.string x2) := hc 4 _ rfl
      have c4 : wq.cell? ⟨(a.add (j * 7)).block, (a.add (j * 7)).off + 5, none⟩ = some (.slice al' ll' cl') := hc 5 _ rfl
      have c5 : wq.cell? ⟨(a.add (j * 7)).block, (a.add (j * 7)).off + 6, none⟩ = some (.slice ak' m' ck') := hc 6 _ rfl
      have d0 : wq.cell? (a.add (i * 7)) = some (.string s1) := hd 0 _ rfl
      have d6 : wq.cell? ⟨(a.add (i * 7)).block, (a.add (i * 7)).off + 1, none⟩ = some (.bool g1) := hd 1 _ rfl
      have d1 : wq.cell? ⟨(a.add (i * 7)).block, (a.add (i * 7)).off + 2, none⟩ = some (.int .i64 y0) := hd 2 _ rfl
      have d2 : wq.cell? ⟨(a.add (i * 7)).block, (a.add (i * 7)).off + 3, none⟩ = some (.int .i64 y1) := hd 3 _ rfl
      have d3 : wq.cell? ⟨(a.add (i * 7)).block, (a.add (i * 7)).off + 4, none⟩ = some (.string y2) := hd 4 _ rfl
      have d4 : wq.cell? ⟨(a.add (i * 7)).block, (a.add (i * 7)).off + 5, none⟩ = some (.slice bl' lb' clb') := hd 5 _ rfl
      have d5 : wq.cell? ⟨(a.add (i * 7)).block, (a.add (i * 7)).off + 6, none⟩ = some (.slice bk' mb' ckb') := hd 6 _ rfl
      have HKK : Hid (∀ w', Below wq.heap.size wq w' → w'.cell? (a.add (j * 7)) = some (.string s0) ∧ w'.cell? ⟨(a.add (j * 7)).block, (a.add (j * 7)).off + 1, none⟩ = some (.bool g0) ∧ w'.cell? ⟨(a.add (j * 7)).block, (a.add (j * 7)).off + 2, none⟩ = some (.int .i64 x0) ∧ w'.cell? ⟨(a.add (j * 7)).block, (a.add (j * 7)).off + 3, none⟩ = some (.int .i64 x1) ∧ w'.cell? ⟨(a.add (j * 7)).block, (a.add (j * 7)).off + 4, none⟩ = some (.string x2) ∧ w'.cell? ⟨(a.add (j * 7)).block, (a.add (j * 7)).off + 5, none⟩ = some (.slice al' ll' cl') ∧ w'.cell? ⟨(a.add (j * 7)).block, (a.add (j * 7)).off + 6, none⟩ = some (.slice ak' m' ck') ∧ w'.cell? (a.add (i * 7)) = some (.string s1) ∧ w'.cell? ⟨(a.add (i * 7)).block, (a.add (i * 7)).off + 1, none⟩ = some (.bool g1) ∧ w'.cell? ⟨(a.add (i * 7)).block, (a.add (i * 7)).off + 2, none⟩ = some (.int .i64 y0) ∧ w'.cell? ⟨(a.add (i * 7)).block, (a.add (i * 7)).off + 3, none⟩ = some (.int .i64 y1) ∧ w'.cell? ⟨(a.add (i * 7)).block, (a.add (i * 7)).off + 4, none⟩ = some (.string y2) ∧ w'.cell? ⟨(a.add (i * 7)).block, (a.add (i * 7)).off + 5, none⟩ = some (.slice bl' lb' clb') ∧ w'.cell? ⟨(a.add (i * 7)).block, (a.add (i * 7)).off + 6, none⟩ = some (.slice bk' mb' ckb')) := hide (fun w' hb6 => ⟨cell_later hb6 c0, cell_later hb6 c6, cell_later hb6 c1, cell_later hb6 c2, cell_later hb6 c3, cell_later hb6 c4, cell_later hb6 c5, cell_later hb6 d0, cell_later hb6 d6, cell_later hb6 d1, cell_later hb6 d2, cell_later hb6 d3, cell_later hb6 d4, cell_later hb6 d5⟩)
      have HJ := hide hj
      have HE := hide (And.intro he0 (And.intro he1 (And.intro hs0 hs1)))
      have HI1 : Hid (i + 1 ≤ n + 1) := hide (by omega)
      clear hc hd hj he0 he1 hs0 hs1
      obtain ⟨R, hR⟩ : ∃ R, Op.bytesLess s0.toList s1.toList = R := ⟨_, rfl⟩
      have hle : (Op.bytesLess s1.toList s0.toList || s1.toList == s0.toList) = !R := by rw [← hR, bl_not s0.toList s1.toList, Bool.not_not]
      have HS : Hid (stepsE ((keysH es).take (i + 1)) = R) := hide (by
        obtain ⟨q0, q1, q2, q3⟩ := unhide HE
        have := stepsE_next (keysH es) j s0 s1 (by simp [keysH, q0, q2]) (by rw [← unhide HJ]; simp [keysH, q1, q3])
        rw [← unhide HJ] at this
        rw [show j + 2 = i + 1 by have := unhide HJ; omega] at this
        rw [this, unhide HR, hR]
        rfl)
      clear hR
      go_upto_region 4 with fail
      go_cut [25] from 10 to 26 (fun r wx => r = .bool (!R) ∧ Hid (Below w.heap.size w wx))
      case first =>
        go_region_held3 (fun w' => Below wq.heap.size wq w' ∧ w'.cell? (a.add (j * 7)) = some (.string s0) ∧ w'.cell? ⟨(a.add (j * 7)).block, (a.add (j * 7)).off + 1, none⟩ = some (.bool g0) ∧ w'.cell? ⟨(a.add (j * 7)).block, (a.add (j * 7)).off + 2, none⟩ = some (.int .i64 x0) ∧ w'.cell? ⟨(a.add (j * 7)).block, (a.add (j * 7)).off + 3, none⟩ = some (.int .i64 x1) ∧ w'.cell? ⟨(a.add (j * 7)).block, (a.add (j * 7)).off + 4, none⟩ = some (.string x2) ∧ w'.cell? ⟨(a.add (j * 7)).block, (a.add (j * 7)).off + 5, none⟩ = some (.slice al' ll' cl') ∧ w'.cell? ⟨(a.add (j * 7)).block, (a.add (j * 7)).off + 6, none⟩ = some (.slice ak' m' ck') ∧ w'.cell? (a.add (i * 7)) = some (.string s1) ∧ w'.cell? ⟨(a.add (i * 7)).block, (a.add (i * 7)).off + 1, none⟩ = some (.bool g1) ∧ w'.cell? ⟨(a.add (i * 7)).block, (a.add (i * 7)).off + 2, none⟩ = some (.int .i64 y0) ∧ w'.cell? ⟨(a.add (i * 7)).block, (a.add (i * 7)).off + 3, none⟩ = some (.int .i64 y1) ∧ w'.cell? ⟨(a.add (i * 7)).block, (a.add (i * 7)).off + 4, none⟩ = some (.string y2) ∧ w'.cell? ⟨(a.add (i * 7)).block, (a.add (i * 7)).off + 5, none⟩ = some (.slice bl' lb' clb') ∧ w'.cell? ⟨(a.add (i * 7)).block, (a.add (i * 7)).off + 6, none⟩ = some (.slice bk' mb' ckb'))
          (first | assumption | exact ⟨(Below.refl _ _).drew, unhide HKK _ (Below.refl _ _).drew⟩ | (refine keepE HKK (And.left (by assumption)) (by assumption); done) | (refine keepE HKK ?_ ?_ <;> assumption))
          (first | (go_at_call 33; refine (ckey_any _ _ _ _ _ _ _ _ _ _ _ _).mono ?_; rintro e w5 ⟨rfl, b5⟩))
        have hb5 : Below wq.heap.size wq w5 := And.left (by assumption)
        have HX5 : Hid (Below w.heap.size w w5) := hide ((unhide HX).2.2.trans (hb5.mono (unhide HX).2.2.size))
        clear b5 hb5
        go_wp2_with fail
        go_meet
        exact ⟨rfl, HX5⟩
      case rest =>
        obtain ⟨rfl, HX5⟩ := hcut
        clear c0 c1 c2 c3 c4 c5 c6 d0 d1 d2 d3 d4 d5 d6 HKK hle
        cases R with
        | true =>
          go_wp2_with fail
          go_roundw
          case rel => exact ⟨i + 1, by go_num, hide ⟨by omega, unhide HI1, unhide HX5⟩, HS⟩
          case measure => have := unhide HI1; simp [intOf]; omega
        | false =>
          have HF : Hid (stepsE (keysH es) = false) := hide (by
            cases h : stepsE (keysH es) with
            | false => rfl
            | true =>
              have := stepsE_pre (keysH es) (i + 1) h
              rw [unhide HS] at this
              cases this)
          go_wp2_with fail
          go_ret
          exact ⟨by rw [unhide HF]; rfl, unhide HX5⟩
    · have i1 : ¬ (i : Int) < (n : Int) := by omega
      have HF : Hid (stepsE (keysH es) = true) := hide (by
        have := unhide HR
        rw [List.take_of_length_le (by have := unhide HN; simp [keysH]; omega)] at this
        exact this)
      have HX5 : Hid (Below w.heap.size w wq) := hide (unhide HX).2.2
      go_wp2_with fail
      go_ret
      exact ⟨by rw [unhide HF]; rfl, unhide HX5⟩
end Go.Proofs.Ytlmgiimgmjbkeaa

namespace Go.Proofs.Ytlmgiimgmjbkeaa
open Go.RowKit Go.Shelf
set_option linter.unusedVariables false
set_option linter.unusedSimpArgs false

/-- is it the zero value? -/
def blankB (v : Vl) : Bool := match v with
  | .mk k n s l ks => (k == 0) && rightB (.mk k n s l ks)

set_option maxRecDepth 100000 in
set_option maxHeartbeats 1000000 in
theorem blank_any (v : Vl) (x : Value) (B : Nat) (w : World) (hv : IsV w B v x) (hBs : B ≤ w.heap.size) :
    Calls Try.prog 53 #[x] w fun e w' => e = .returned (.bool (blankB v)) ∧ Below w.heap.size w w' := by
  obtain ⟨k', n', s', l', ks', al', ak', cl', ck', hy', hx⟩ := hv.shape
  obtain ⟨ll, hll⟩ : ∃ ll, l'.length = ll := ⟨_, rfl⟩
  obtain ⟨m, hm⟩ : ∃ m, ks'.length = m := ⟨_, rfl⟩
  rw [hll, hm] at hx
  subst hx
  obtain ⟨w1, hw1⟩ : ∃ w1, w.alloc (.cells #[.int .i64 k', .int .i64 n', .string s', .slice al' ll cl', .slice ak' m ck'] 34) = w1 := ⟨_, rfl⟩
  have BX := Box.mk' w (.int .i64 k') (.int .i64 n') (.string s') (.slice al' ll cl') (.slice ak' m ck')
  rw [hw1] at BX
  obtain ⟨c0, c1, c2, c3, c4⟩ := row_cell BX.row
  have HB := hide BX.below
  have CR := hide (right_code v _ B w1 (hv.mono (BX.below.mono hBs)) (by have := BX.size; omega))
  obtain ⟨R, hR⟩ : ∃ R, rightB v = R := ⟨_, rfl⟩
  rw [hR] at CR
  have HBL : Hid (blankB v = ((k' == 0) && R)) := hide (by subst hy'; rw [← hR]; rfl)
  obtain ⟨S, hS⟩ : ∃ S, blankB v = S := ⟨_, rfl⟩
  have HS := hide hS
  rw [hS]
  clear BX hv hy' hR hll hm hS
  by_cases hz : k' = 0
  · subst hz
    go_enter Try.func53, Try.ntmps53
    go_wp2_with fail
    refine (unhide CR).mono ?_
    rintro e w2 ⟨rfl, b2⟩
    have B2 := hide ((unhide HB).trans (b2.mono (unhide HB).size))
    clear b2 CR
    go_wp2_with fail
    go_ret
    exact ⟨by rw [← unhide HS, unhide HBL]; simp, unhide B2⟩
  · have hz1 : (k' == 0) = false := beq_eq_false_iff_ne.2 hz
    go_enter Try.func53, Try.ntmps53
    go_wp2_with fail
    go_ret
    exact ⟨by rw [← unhide HS, unhide HBL, hz1]; rfl, unhide HB⟩

/-- is this what leads from what stands there to something else? -/
def leadsB (xh : Bool) (xv : Vl) (yg yh : Bool) (yv : Vl) : Bool := if yh then (if yg then (xh && blankB yv) else (!xh || !(ord0 xv yv == 0))) else true

set_option maxRecDepth 100000 in
set_option maxHeartbeats 2000000 in
theorem leads_any (xk : ByteArray) (xt0 xt1 : Int) (xt2 : ByteArray) (xt3 : Option Addr) (xt4 xt5 : Nat) (xt6 : Option Addr) (xt7 xt8 : Nat) (xh : Bool) (yk : ByteArray) (yt0 yt1 : Int) (yt2 : ByteArray) (yt3 : Option Addr) (yt4 yt5 : Nat) (yt6 : Option Addr) (yt7 yt8 : Nat) (yg yh : Bool) (xv yv : Vl) (B : Nat) (w : World) (hx : xh = true → IsV w B xv (.agg #[.int .i64 xt0, .int .i64 xt1, .string xt2, .slice xt3 xt4 xt5, .slice xt6 xt7 xt8])) (hy : yh = true → IsV w B yv (.agg #[.int .i64 yt0, .int .i64 yt1, .string yt2, .slice yt3 yt4 yt5, .slice yt6 yt7 yt8])) (hBs : B ≤ w.heap.size) :
    Calls Try.prog 35 #[.agg #[.string xk, .int .i64 xt0, .int .i64 xt1, .string xt2, .slice xt3 xt4 xt5, .slice xt6 xt7 xt8, .bool xh], .agg #[.string yk, .bool yg, .int .i64 yt0, .int .i64 yt1, .string yt2, .slice yt3 yt4 yt5, .slice yt6 yt7 yt8, .bool yh]] w fun e w' => e = .returned (.bool (leadsB xh xv yg yh yv)) ∧ Below w.heap.size w w' := by
  obtain ⟨q, hq⟩ : ∃ q, w.heap.size = q := ⟨_, rfl⟩
  obtain ⟨w1, hw1⟩ : ∃ w1, w.alloc (.cells #[.string xk, .int .i64 xt0, .int .i64 xt1, .string xt2, .slice xt3 xt4 xt5, .slice xt6 xt7 xt8, .bool xh] 55) = w1 := ⟨_, rfl⟩
  obtain ⟨q2, hq2⟩ : ∃ q2, w1.heap.size = q2 := ⟨_, rfl⟩
  obtain ⟨w2, hw2⟩ : ∃ w2, w1.alloc (.cells #[.string yk, .bool yg, .int .i64 yt0, .int .i64 yt1, .string yt2, .slice yt3 yt4 yt5, .slice yt6 yt7 yt8, .bool yh] 68) = w2 := ⟨_, rfl⟩
  have n1 : w1.heap[q]? = some (.cells #[.string xk, .int .i64 xt0, .int .i64 xt1, .string xt2, .slice xt3 xt4 xt5, .slice xt6 xt7 xt8, .bool xh] 55 (0, 0)) := by rw [← hw1, ← hq]; exact heap_alloc_new w _
  have b1 : Below w.heap.size w w1 := by rw [← hw1]; exact (Below.refl _ _).alloc (Nat.le_refl _) _
  have n2 : w2.heap[q2]? = some (.cells #[.string yk, .bool yg, .int .i64 yt0, .int .i64 yt1, .string yt2, .slice yt3 yt4 yt5, .slice yt6 yt7 yt8, .bool yh] 68 (0, 0)) := by rw [← hw2, ← hq2]; exact heap_alloc_new w1 _
  have b2 : Below w1.heap.size w1 w2 := by rw [← hw2]; exact (Below.refl _ _).alloc (Nat.le_refl _) _
  have HB : Hid (Below w.heap.size w w2) := hide (b1.trans (b2.mono b1.size))
  obtain ⟨x0, x1, x2, x3, x4, x5, x6⟩ := row_cell7 ((b2.block q (Array.getElem?_eq_some_iff.1 n1).1).trans n1)
  obtain ⟨y0, y1, y2, y3, y4, y5, y6, y7⟩ := row_cell8 n2
  have HX : Hid (xh = true → IsV w2 B xv (.agg #[.int .i64 xt0, .int .i64 xt1, .string xt2, .slice xt3 xt4 xt5, .slice xt6 xt7 xt8])) := hide (fun e => IsV.mono ((unhide HB).mono hBs) (hx e))
  have HY : Hid (yh = true → IsV w2 B yv (.agg #[.int .i64 yt0, .int .i64 yt1, .string yt2, .slice yt3 yt4 yt5, .slice yt6 yt7 yt8])) := hide (fun e => IsV.mono ((unhide HB).mono hBs) (hy e))
  have HBs : Hid (B ≤ w2.heap.size) := hide (Nat.le_trans hBs (unhide HB).size)
  obtain ⟨S, hS⟩ : ∃ S, leadsB xh xv yg yh yv = S := ⟨_, rfl⟩
  have HS := hide hS
  rw [hS]
  clear n1 n2 b1 b2 hx hy hBs hS
  cases yh with
  | false =>
    go_enter Try.func35, Try.ntmps35
    go_wp2_with fail
    go_ret
    exact ⟨by rw [← unhide HS]; rfl, by first | exact unhide HB | (rw [← hq]; exact unhide HB)⟩
  | true =>
    cases yg with
    | true =>
      cases xh with
      | false =>
        go_enter Try.func35, Try.ntmps35
        go_wp2_with fail
        go_ret
        exact ⟨by rw [← unhide HS]; rfl, by first | exact unhide HB | (rw [← hq]; exact unhide HB)⟩
      | true =>
        have CB := hide (blank_any yv _ B w2 (unhide HY rfl) (unhide HBs))
        go_enter Try.func35, Try.ntmps35
        go_wp2_with fail
        refine (unhide CB).mono ?_
        rintro e w3 ⟨rfl, b3⟩
        have B3 := hide ((unhide HB).trans (b3.mono (unhide HB).size))
        clear b3 CB
        go_wp2_with fail
        go_ret
        exact ⟨by rw [← unhide HS]; simp [leadsB], by first | exact unhide B3 | (rw [← hq]; exact unhide B3)⟩
    | false =>
      cases xh with
      | false =>
        go_enter Try.func35, Try.ntmps35
        go_wp2_with fail
        go_ret
        exact ⟨by rw [← unhide HS]; rfl, by first | exact unhide HB | (rw [← hq]; exact unhide HB)⟩
      | true =>
        have CC := hide (compare_code xv yv _ _ B w2 (unhide HX rfl) (unhide HY rfl) (unhide HBs))
        obtain ⟨O, hO⟩ : ∃ O, ord0 xv yv = O := ⟨_, rfl⟩
        rw [hO] at CC
        have HO := hide hO
        clear hO
        have HL : Hid (S = !(O == 0)) := hide (by rw [← unhide HS, ← unhide HO]; simp [leadsB])
        go_enter Try.func35, Try.ntmps35
        go_wp2_with fail
        refine (unhide CC).mono ?_
        rintro e w3 ⟨rfl, b3⟩
        have B3 := hide ((unhide HB).trans (b3.mono (unhide HB).size))
        clear b3 CC
        by_cases hz : O = 0
        · subst hz
          go_wp2_with fail
          go_ret
          exact ⟨by rw [unhide HL]; rfl, by first | exact unhide B3 | (rw [← hq]; exact unhide B3)⟩
        · have hz1 : (O == 0) = false := beq_eq_false_iff_ne.2 hz
          go_wp2_with fail
          go_ret
          exact ⟨by rw [unhide HL]; rfl, by first | exact unhide B3 | (rw [← hq]; exact unhide B3)⟩
end Go.Proofs.Ytlmgiimgmjbkeaa
