/-
  A state's entries: which may be a store's, as functions; no conditions.
  A state's entries in memory; no conditions.
  entryKey.
  The walk of rising over entries: does each key stand behind the one ahead of it? no conditions but the form's own reach.
  The walks of weigh and right over entries; no conditions but the form's own reach.
-/
import Derived.Test.YtlmgiimgmjbkeaaA03
import Derived.Test.YtlmgiimgmjbkeaaA06
import Derived.Test.YtlmgiimgmjbkeaaA00
import Derived.WalkSpells
import Derived.WalkSmall
import Derived.BigQuiet
import Derived.Deep.QuietTactic
import Derived.Deep.RegionHeld3
set_option linter.unusedVariables false
set_option linter.unusedSimpArgs false
namespace Go.Proofs.Ytlmgiimgmjbkeaa
open Go.RowKit

/-- an entry: a key and its value -/
abbrev En := ByteArray × Vl

def entB (e : En) : Bool := decide (1 ≤ e.1.size) && decide (e.1.size ≤ 32) && rightB e.2
def entW (e : En) : Nat := 1 + e.1.size + wt0 e.2
def entsW : List En → Nat
  | [] => 0
  | e :: r => entW e + entsW r

theorem entsW_app (a b : List En) : entsW (a ++ b) = entsW a + entsW b := by
  induction a with
  | nil => simp [entsW]
  | cons x r ih => simp [entsW, ih]; omega

/-- does each key stand behind the one ahead of it? -/
def stepsE : List ByteArray → Bool
  | a :: b :: r => Op.bytesLess a.toList b.toList && stepsE (b :: r)
  | _ => true

theorem stepsE_next : ∀ (l : List ByteArray) (i : Nat) (a b : ByteArray), l[i]? = some a → l[i + 1]? = some b → stepsE (l.take (i + 2)) = (stepsE (l.take (i + 1)) && Op.bytesLess a.toList b.toList)
  | [], i, a, b, h, _ => by simp at h
  | [x], i, a, b, _, h => by simp at h
  | x :: y :: r, 0, a, b, h, h' => by
    simp at h h'
    subst h h'
    simp [stepsE]
  | x :: y :: r, i + 1, a, b, h, h' => by
    have ih := stepsE_next (y :: r) i a b (by simpa using h) (by simpa using h')
    have e1 : (x :: y :: r).take (i + 1 + 2) = x :: y :: r.take (i + 1) := rfl
    have e2 : (x :: y :: r).take (i + 1 + 1) = x :: y :: r.take i := rfl
    have e3 : (y :: r).take (i + 2) = y :: r.take (i + 1) := rfl
    have e4 : (y :: r).take (i + 1) = y :: r.take i := rfl
    rw [e3, e4] at ih
    rw [e1, e2, stepsE, stepsE, ih, Bool.and_assoc]

theorem stepsE_pre : ∀ (l : List ByteArray) (i : Nat), stepsE l = true → stepsE (l.take i) = true
  | [], i, _ => by simp [stepsE]
  | [x], i, _ => by cases i <;> simp [stepsE]
  | x :: y :: r, 0, _ => by simp [stepsE]
  | x :: y :: r, 1, _ => by simp [stepsE]
  | x :: y :: r, i + 2, h => by
    simp only [stepsE, Bool.and_eq_true] at h
    have ih := stepsE_pre (y :: r) (i + 1) h.2
    rw [List.take_succ_cons] at ih
    rw [List.take_succ_cons, List.take_succ_cons, stepsE, h.1, ih]
    rfl

theorem stepsE_snoc (l : List ByteArray) (a b : ByteArray) (h : stepsE (l ++ [a]) = true) (hb : Op.bytesLess a.toList b.toList = true) : stepsE (l ++ [a] ++ [b]) = true := by
  have := stepsE_next (l ++ [a] ++ [b]) l.length a b (by simp) (by simp)
  rw [List.take_of_length_le (by simp), List.take_left' (by simp)] at this
  rw [this, h, hb]
  rfl

def keysE (l : List En) : List ByteArray := l.map (·.1)

/-- may these be a store's entries? -/
def rightE (l : List En) : Bool := decide (l.length ≤ 128) && stepsE (keysE l) && l.all entB && decide (entsW l ≤ 32768)

end Go.Proofs.Ytlmgiimgmjbkeaa

namespace Go.Proofs.Ytlmgiimgmjbkeaa
open Go.RowKit

/-- how entries lie in memory, their values' lists in blocks of P -/
structure EsF (w : World) (P : Nat → Prop) (es : List En) (al : Option Addr) (cl : Nat) (V : Nat → List Value) : Prop where
  nl : al = none → es.length = 0 ∧ cl = 0
  ll : es.length ≤ cl
  bl : es.length ≤ 140737488351232
  hl : ∀ a, al = some a → ∀ i e, es[i]? = some e → P a.block ∧ ∀ j v, (Value.string e.1 :: V i)[j]? = some v → w.cell? ((a.add (i * 6)).add j) = some v
  bt : ∀ e ∈ es, e.1.size ≤ 140737488351232
  hv : ∀ i e, es[i]? = some e → (V i).length = 5 ∧ IsP w P e.2 (.agg (V i).toArray)

def IsE (w : World) (P : Nat → Prop) (es : List En) (al : Option Addr) (cl : Nat) : Prop := ∃ V, EsF w P es al cl V

theorem IsE.to {w w' : World} {P Q : Nat → Prop} (hw : ∀ b, P b → w'.heap[b]? = w.heap[b]?) (hP : ∀ b, P b → Q b) {es : List En} {al : Option Addr} {cl : Nat} (h : IsE w P es al cl) : IsE w' Q es al cl := by
  obtain ⟨V, h⟩ := h
  refine ⟨V, h.nl, h.ll, h.bl, fun a ha i e he => ⟨hP _ (h.hl a ha i e he).1, fun j v hv => ?_⟩, h.bt, fun i e he => ⟨(h.hv i e he).1, (h.hv i e he).2.to hw hP⟩⟩
  have e : w'.cell? ((a.add (i * 6)).add j) = w.cell? ((a.add (i * 6)).add j) := World.cell?_of_block (by rw [block_add, block_add]; exact hw _ (h.hl a ha i e he).1)
  rw [e]
  exact (h.hl a ha i _ he).2 j v hv

theorem IsE.weak {w : World} {P Q : Nat → Prop} (hP : ∀ b, P b → Q b) {es : List En} {al : Option Addr} {cl : Nat} (h : IsE w P es al cl) : IsE w Q es al cl := h.to (fun _ _ => rfl) hP
theorem IsE.move {w w' : World} {P : Nat → Prop} (hw : ∀ b, P b → w'.heap[b]? = w.heap[b]?) {es : List En} {al : Option Addr} {cl : Nat} (h : IsE w P es al cl) : IsE w' P es al cl := h.to hw (fun _ h => h)
theorem IsE.later {w w' : World} {B : Nat} {es : List En} {al : Option Addr} {cl : Nat} (h : IsE w (fun b => b < B) es al cl) (hb : Below B w w') : IsE w' (fun b => b < B) es al cl := h.move (fun b hl => hb.block b hl)

theorem IsE.len {w : World} {P : Nat → Prop} {es : List En} {al : Option Addr} {cl : Nat} (h : IsE w P es al cl) : es.length ≤ cl ∧ es.length ≤ 140737488351232 ∧ (al = none → es.length = 0) := by
  obtain ⟨V, h⟩ := h
  exact ⟨h.ll, h.bl, fun e => (h.nl e).1⟩

theorem IsE.fit {w : World} {P : Nat → Prop} {es : List En} {al : Option Addr} {cl : Nat} (h : IsE w P es al cl) : ∀ e ∈ es, fitB e.2 = true := by
  obtain ⟨V, h⟩ := h
  intro e he
  obtain ⟨i, hi⟩ := List.getElem?_of_mem he
  exact (h.hv i e hi).2.fit

/-- the cells of an entry -/
theorem IsE.elem {w : World} {P : Nat → Prop} {es : List En} {al : Option Addr} {cl : Nat} (h : IsE w P es al cl) (i : Nat) (e : En) (he : es[i]? = some e) :
    ∃ (a : Addr) (x0 x1 : Int) (x2 : ByteArray) (al' ak' : Option Addr) (ll' m' cl' ck' : Nat), al = some a ∧ P a.block ∧ e.1.size ≤ 140737488351232 ∧ (∀ j v, [Value.string e.1, .int .i64 x0, .int .i64 x1, .string x2, .slice al' ll' cl', .slice ak' m' ck'][j]? = some v → w.cell? ((a.add (i * 6)).add j) = some v) ∧ IsP w P e.2 (.agg #[.int .i64 x0, .int .i64 x1, .string x2, .slice al' ll' cl', .slice ak' m' ck']) := by
  obtain ⟨V, h⟩ := h
  cases al with
  | none => have := (h.nl rfl).1; have := (List.getElem?_eq_some_iff.1 he).1; omega
  | some a =>
    obtain ⟨_, hp⟩ := h.hv i e he
    obtain ⟨k', n', s', l', ks', al', ak', cl', ck', hy', hx⟩ := hp.shape
    have hVi : V i = [.int .i64 k', .int .i64 n', .string s', .slice al' l'.length cl', .slice ak' ks'.length ck'] := by
      have h1 := Value.agg.inj hx
      have h2 := congrArg Array.toList h1
      simpa using h2
    have hc := h.hl a rfl i e he
    rw [hVi] at hc hp
    exact ⟨a, k', n', s', al', ak', l'.length, ks'.length, cl', ck', rfl, hc.1, h.bt e (List.mem_of_getElem? he), hc.2, hp⟩
end Go.Proofs.Ytlmgiimgmjbkeaa

namespace Go.Proofs.Ytlmgiimgmjbkeaa
open Go.RowKit

set_option maxRecDepth 100000 in
theorem ekey_any (k : ByteArray) (k0 n0 : Int) (s0 : ByteArray) (al ak : Option Addr) (ll cl lk ck : Nat) (w : World) :
    Calls Try.prog 22 #[.agg #[.string k, .int .i64 k0, .int .i64 n0, .string s0, .slice al ll cl, .slice ak lk ck]] w fun e w' => e = .returned (.string k) ∧ Below w.heap.size w w' := by
  go_enter Try.func22, Try.ntmps22
  go_wp2_with fail
  go_ret
  exact ⟨rfl, (Below.refl _ _).alloc (Nat.le_refl _) _⟩
end Go.Proofs.Ytlmgiimgmjbkeaa

namespace Go.Proofs.Ytlmgiimgmjbkeaa
open Go.RowKit

theorem keepE {v w1 w2 : World} {P : World → Prop} (H : Hid (∀ w', Below v.heap.size v w' → P w')) (h : Below v.heap.size v w1) (hb : Below w1.heap.size w1 w2) : Below v.heap.size v w2 ∧ P w2 :=
  ⟨h.trans (hb.mono h.size), unhide H _ (h.trans (hb.mono h.size))⟩

set_option maxRecDepth 100000 in
set_option maxHeartbeats 1000000 in
theorem risingE_any (es : List En) (al : Option Addr) (n cl B : Nat) (w : World) (hn : es.length = n) (h : IsE w (fun b => b < B) es al cl) (hB : B ≤ w.heap.size) :
    Calls Try.prog 41 #[.slice al n cl, .func (.func 22) #[] #[]] w fun e w' => e = .returned (.bool (stepsE (keysE es))) ∧ Below w.heap.size w w' := by
  have hl := h.len
  rw [hn] at hl
  have HV : Hid (∀ u, Below w.heap.size w u → IsE u (fun b => b < B) es al cl) := hide (fun u hu => h.later (hu.mono hB))
  have HN := hide hn
  have hk1 : stepsE ((keysE es).take 1) = true := by cases keysE es <;> simp [stepsE]
  have HK1 := hide hk1
  clear h hn hk1
  go_enter Try.func41, Try.ntmps41
  go_wp2_with fail
  go_loopw [5] (fun x wr => ∃ (i : Nat), x = .int .i64 (i : Int) ∧ Hid (1 ≤ i ∧ i ≤ n + 1 ∧ Below w.heap.size w wr) ∧ Hid (stepsE ((keysE es).take i) = true)) (fun x _ => n + 1 - (intOf x).toNat)
  case atStart => exact ⟨1, rfl, hide ⟨by omega, by omega, Below.refl _ _⟩, HK1⟩
  case round =>
    obtain ⟨i, rfl, HX, HR⟩ := hrel
    obtain ⟨wq, hwq⟩ : ∃ wq, wq = wr := ⟨_, rfl⟩
    subst hwq
    by_cases hlt : i < n
    · have i1 : (i : Int) < (n : Int) := by omega
      obtain ⟨j, hj⟩ : ∃ j, i = j + 1 := ⟨i - 1, by have := (unhide HX).1; omega⟩
      have i2 : IntKind.i64.wrap ((i : Int) - 1) = (j : Int) := by rw [IntKind.wrap_i64]; omega
      have i3 : (j : Int) < (n : Int) := by omega
      obtain ⟨e0, he0⟩ : ∃ e0, es[j]? = some e0 := ⟨_, List.getElem?_eq_getElem (by have := unhide HN; omega)⟩
      obtain ⟨e1, he1⟩ : ∃ e1, es[i]? = some e1 := ⟨_, List.getElem?_eq_getElem (by have := unhide HN; omega)⟩
      have hv := unhide HV wq (unhide HX).2.2
      obtain ⟨a, x0, x1, x2, al', ak', ll', m', cl', ck', rfl, _, _, hc, _⟩ := hv.elem j e0 he0
      obtain ⟨a', y0, y1, y2, bl', bk', lb', mb', clb', ckb', ha', _, _, hd, _⟩ := hv.elem i e1 he1
      cases ha'
      clear hv
      obtain ⟨s0, hs0⟩ : ∃ s0, e0.1 = s0 := ⟨_, rfl⟩
      obtain ⟨s1, hs1⟩ : ∃ s1, e1.1 = s1 := ⟨_, rfl⟩
      rw [hs0] at hc
      rw [hs1] at hd
      have c0 : wq.cell? (a.add (j * 6)) = some (.string s0) := hc 0 _ rfl
      have c1 : wq.cell? ⟨(a.add (j * 6)).block, (a.add (j * 6)).off + 1, none⟩ = some (.int .i64 x0) := hc 1 _ rfl
      have c2 : wq.cell? ⟨(a.add (j * 6)).block, (a.add (j * 6)).off + 2, none⟩ = some (.int .i64 x1) := hc 2 _ rfl
      have c3 : wq.cell? ⟨(a.add (j * 6)).block, (a.add (j * 6)).off + 3, none⟩ = some (.string x2) := hc 3 _ rfl
      have c4 : wq.cell? ⟨(a.add (j * 6)).block, (a.add (j * 6)).off + 4, none⟩ = some (.slice al' ll' cl') := hc 4 _ rfl
      have c5 : wq.cell? ⟨(a.add (j * 6)).block, (a.add (j * 6)).off + 5, none⟩ = some (.slice ak' m' ck') := hc 5 _ rfl
      have d0 : wq.cell? (a.add (i * 6)) = some (.string s1) := hd 0 _ rfl
      have d1 : wq.cell? ⟨(a.add (i * 6)).block, (a.add (i * 6)).off + 1, none⟩ = some (.int .i64 y0) := hd 1 _ rfl
      have d2 : wq.cell? ⟨(a.add (i * 6)).block, (a.add (i * 6)).off + 2, none⟩ = some (.int .i64 y1) := hd 2 _ rfl
      have d3 : wq.cell? ⟨(a.add (i * 6)).block, (a.add (i * 6)).off + 3, none⟩ = some (.string y2) := hd 3 _ rfl
      have d4 : wq.cell? ⟨(a.add (i * 6)).block, (a.add (i * 6)).off + 4, none⟩ = some (.slice bl' lb' clb') := hd 4 _ rfl
      have d5 : wq.cell? ⟨(a.add (i * 6)).block, (a.add (i * 6)).off + 5, none⟩ = some (.slice bk' mb' ckb') := hd 5 _ rfl
      have HKK : Hid (∀ w', Below wq.heap.size wq w' → w'.cell? (a.add (j * 6)) = some (.string s0) ∧ w'.cell? ⟨(a.add (j * 6)).block, (a.add (j * 6)).off + 1, none⟩ = some (.int .i64 x0) ∧ w'.cell? ⟨(a.add (j * 6)).block, (a.add (j * 6)).off + 2, none⟩ = some (.int .i64 x1) ∧ w'.cell? ⟨(a.add (j * 6)).block, (a.add (j * 6)).off + 3, none⟩ = some (.string x2) ∧ w'.cell? ⟨(a.add (j * 6)).block, (a.add (j * 6)).off + 4, none⟩ = some (.slice al' ll' cl') ∧ w'.cell? ⟨(a.add (j * 6)).block, (a.add (j * 6)).off + 5, none⟩ = some (.slice ak' m' ck') ∧ w'.cell? (a.add (i * 6)) = some (.string s1) ∧ w'.cell? ⟨(a.add (i * 6)).block, (a.add (i * 6)).off + 1, none⟩ = some (.int .i64 y0) ∧ w'.cell? ⟨(a.add (i * 6)).block, (a.add (i * 6)).off + 2, none⟩ = some (.int .i64 y1) ∧ w'.cell? ⟨(a.add (i * 6)).block, (a.add (i * 6)).off + 3, none⟩ = some (.string y2) ∧ w'.cell? ⟨(a.add (i * 6)).block, (a.add (i * 6)).off + 4, none⟩ = some (.slice bl' lb' clb') ∧ w'.cell? ⟨(a.add (i * 6)).block, (a.add (i * 6)).off + 5, none⟩ = some (.slice bk' mb' ckb')) := hide (fun w' hb6 => ⟨cell_later hb6 c0, cell_later hb6 c1, cell_later hb6 c2, cell_later hb6 c3, cell_later hb6 c4, cell_later hb6 c5, cell_later hb6 d0, cell_later hb6 d1, cell_later hb6 d2, cell_later hb6 d3, cell_later hb6 d4, cell_later hb6 d5⟩)
      have HJ := hide hj
      have HE := hide (And.intro he0 (And.intro he1 (And.intro hs0 hs1)))
      have HI1 : Hid (i + 1 ≤ n + 1) := hide (by omega)
      clear hc hd hj he0 he1 hs0 hs1
      obtain ⟨R, hR⟩ : ∃ R, Op.bytesLess s0.toList s1.toList = R := ⟨_, rfl⟩
      have hle : (Op.bytesLess s1.toList s0.toList || s1.toList == s0.toList) = !R := by rw [← hR, bl_not s0.toList s1.toList, Bool.not_not]
      have HS : Hid (stepsE ((keysE es).take (i + 1)) = R) := hide (by
        obtain ⟨q0, q1, q2, q3⟩ := unhide HE
        have := stepsE_next (keysE es) j s0 s1 (by simp [keysE, q0, q2]) (by rw [← unhide HJ]; simp [keysE, q1, q3])
        rw [← unhide HJ] at this
        rw [show j + 2 = i + 1 by have := unhide HJ; omega] at this
        rw [this, unhide HR, hR]
        rfl)
      clear hR
      go_upto_region 4 with fail
      go_cut [25] from 10 to 26 (fun r wx => r = .bool (!R) ∧ Hid (Below w.heap.size w wx))
      case first =>
        go_region_held3 (fun w' => Below wq.heap.size wq w' ∧ w'.cell? (a.add (j * 6)) = some (.string s0) ∧ w'.cell? ⟨(a.add (j * 6)).block, (a.add (j * 6)).off + 1, none⟩ = some (.int .i64 x0) ∧ w'.cell? ⟨(a.add (j * 6)).block, (a.add (j * 6)).off + 2, none⟩ = some (.int .i64 x1) ∧ w'.cell? ⟨(a.add (j * 6)).block, (a.add (j * 6)).off + 3, none⟩ = some (.string x2) ∧ w'.cell? ⟨(a.add (j * 6)).block, (a.add (j * 6)).off + 4, none⟩ = some (.slice al' ll' cl') ∧ w'.cell? ⟨(a.add (j * 6)).block, (a.add (j * 6)).off + 5, none⟩ = some (.slice ak' m' ck') ∧ w'.cell? (a.add (i * 6)) = some (.string s1) ∧ w'.cell? ⟨(a.add (i * 6)).block, (a.add (i * 6)).off + 1, none⟩ = some (.int .i64 y0) ∧ w'.cell? ⟨(a.add (i * 6)).block, (a.add (i * 6)).off + 2, none⟩ = some (.int .i64 y1) ∧ w'.cell? ⟨(a.add (i * 6)).block, (a.add (i * 6)).off + 3, none⟩ = some (.string y2) ∧ w'.cell? ⟨(a.add (i * 6)).block, (a.add (i * 6)).off + 4, none⟩ = some (.slice bl' lb' clb') ∧ w'.cell? ⟨(a.add (i * 6)).block, (a.add (i * 6)).off + 5, none⟩ = some (.slice bk' mb' ckb'))
          (first | assumption | exact ⟨(Below.refl _ _).drew, unhide HKK _ (Below.refl _ _).drew⟩ | (refine keepE HKK (And.left (by assumption)) (by assumption); done) | (refine keepE HKK ?_ ?_ <;> assumption))
          (first | (go_at_call 22; refine (ekey_any _ _ _ _ _ _ _ _ _ _ _).mono ?_; rintro e w5 ⟨rfl, b5⟩))
        have hb5 : Below wq.heap.size wq w5 := And.left (by assumption)
        have HX5 : Hid (Below w.heap.size w w5) := hide ((unhide HX).2.2.trans (hb5.mono (unhide HX).2.2.size))
        clear b5 hb5
        go_wp2_with fail
        go_meet
        exact ⟨rfl, HX5⟩
      case rest =>
        obtain ⟨rfl, HX5⟩ := hcut
        clear c0 c1 c2 c3 c4 c5 d0 d1 d2 d3 d4 d5 HKK hle
        cases R with
        | true =>
          go_wp2_with fail
          go_roundw
          case rel => exact ⟨i + 1, by go_num, hide ⟨by omega, unhide HI1, unhide HX5⟩, HS⟩
          case measure => have := unhide HI1; simp [intOf]; omega
        | false =>
          have HF : Hid (stepsE (keysE es) = false) := hide (by
            cases h : stepsE (keysE es) with
            | false => rfl
            | true =>
              have := stepsE_pre (keysE es) (i + 1) h
              rw [unhide HS] at this
              cases this)
          go_wp2_with fail
          go_ret
          exact ⟨by rw [unhide HF]; rfl, unhide HX5⟩
    · have i1 : ¬ (i : Int) < (n : Int) := by omega
      have HF : Hid (stepsE (keysE es) = true) := hide (by
        have := unhide HR
        rw [List.take_of_length_le (by have := unhide HN; simp [keysE]; omega)] at this
        exact this)
      have HX5 : Hid (Below w.heap.size w wq) := hide (unhide HX).2.2
      go_wp2_with fail
      go_ret
      exact ⟨by rw [unhide HF]; rfl, unhide HX5⟩
end Go.Proofs.Ytlmgiimgmjbkeaa

namespace Go.Proofs.Ytlmgiimgmjbkeaa
open Go.RowKit

theorem row_cell6 {w : World} {g : Nat} {x0 x1 x2 x3 x4 x5 : Value} (h : w.heap[g]? = some (.cells #[x0, x1, x2, x3, x4, x5] 48 (0, 0))) :
    w.cell? ⟨g, 0, none⟩ = some x0 ∧ w.cell? ⟨g, 1, none⟩ = some x1 ∧ w.cell? ⟨g, 2, none⟩ = some x2 ∧ w.cell? ⟨g, 3, none⟩ = some x3 ∧ w.cell? ⟨g, 4, none⟩ = some x4 ∧ w.cell? ⟨g, 5, none⟩ = some x5 :=
  ⟨by rw [cell_of_row w g 0 _ _ (0, 0) h]; rfl, by rw [cell_of_row w g 1 _ _ (0, 0) h]; rfl, by rw [cell_of_row w g 2 _ _ (0, 0) h]; rfl, by rw [cell_of_row w g 3 _ _ (0, 0) h]; rfl, by rw [cell_of_row w g 4 _ _ (0, 0) h]; rfl, by rw [cell_of_row w g 5 _ _ (0, 0) h]; rfl⟩

theorem wt0_le (v : Vl) : wt0 v ≤ 2048 := by
  unfold wt0 rightB
  split
  · rename_i h; simp at h; omega
  · omega

/-- an entry that was put into a block of its own -/
structure Box6 (w w1 : World) (x0 x1 x2 x3 x4 x5 : Value) : Prop where
  row : w1.heap[w.heap.size]? = some (.cells #[x0, x1, x2, x3, x4, x5] 48 (0, 0))
  size : w1.heap.size = w.heap.size + 1
  below : Below w.heap.size w w1

theorem Box6.mk' (w : World) (x0 x1 x2 x3 x4 x5 : Value) : Box6 w (w.alloc (.cells #[x0, x1, x2, x3, x4, x5] 48)) x0 x1 x2 x3 x4 x5 :=
  ⟨heap_alloc_new w _, by simp, (Below.refl _ _).alloc (Nat.le_refl _) _⟩

set_option maxRecDepth 100000 in
set_option maxHeartbeats 400000 in
theorem weigh_any (s : ByteArray) (v : Vl) (x0 x1 : Int) (x2 : ByteArray) (al ak : Option Addr) (ll cl m ck B : Nat) (w : World) (hv : IsV w B v (.agg #[.int .i64 x0, .int .i64 x1, .string x2, .slice al ll cl, .slice ak m ck])) (hBs : B ≤ w.heap.size) (hs : s.size ≤ 140737488351232) :
    Calls Try.prog 43 #[.agg #[.string s, .int .i64 x0, .int .i64 x1, .string x2, .slice al ll cl, .slice ak m ck]] w fun e w' => e = .returned (.int .i64 ((entW (s, v) : Nat) : Int)) ∧ Below w.heap.size w w' := by
  obtain ⟨g, hg⟩ : ∃ g, w.heap.size = g := ⟨_, rfl⟩
  have BX := Box6.mk' w (.string s) (.int .i64 x0) (.int .i64 x1) (.string x2) (.slice al ll cl) (.slice ak m ck)
  obtain ⟨w1, hw1⟩ : ∃ w1, w.alloc (.cells #[.string s, .int .i64 x0, .int .i64 x1, .string x2, .slice al ll cl, .slice ak m ck] 48) = w1 := ⟨_, rfl⟩
  rw [hw1] at BX
  have hdr : Below w1.heap.size w1 w1.drew := (Below.refl _ _).drew
  have CW := hide (weight_code v _ B w1.drew (hv.mono ((BX.below.trans (hdr.mono (by have := BX.size; omega))).mono hBs)) (by have := BX.size; have := hdr.size; omega))
  have hwt := wt0_le v
  obtain ⟨t, ht⟩ : ∃ t, wt0 v = t := ⟨_, rfl⟩
  have HW : Hid (entW (s, v) = 1 + s.size + t) := hide (by unfold entW; rw [ht])
  rw [ht] at CW hwt
  have e1 : IntKind.i64.wrap (1 + (s.size : Int)) = 1 + (s.size : Int) := by rw [IntKind.wrap_i64]; omega
  have e2 : IntKind.i64.wrap (1 + (s.size : Int) + (t : Int)) = 1 + (s.size : Int) + (t : Int) := by rw [IntKind.wrap_i64]; omega
  obtain ⟨c0, c1, c2, c3, c4, c5⟩ := row_cell6 (by have := BX.row; rw [hg] at this; exact this)
  have HB := hide BX
  clear BX hv ht hdr
  go_enter Try.func43, Try.ntmps43
  go_upto_region 1 with fail
  go_region_held3 (fun w' => w'.cell? ⟨g, 0, none⟩ = some (.string s) ∧ w'.cell? ⟨g, 1, none⟩ = some (.int .i64 x0) ∧ w'.cell? ⟨g, 2, none⟩ = some (.int .i64 x1) ∧ w'.cell? ⟨g, 3, none⟩ = some (.string x2) ∧ w'.cell? ⟨g, 4, none⟩ = some (.slice al ll cl) ∧ w'.cell? ⟨g, 5, none⟩ = some (.slice ak m ck))
    (first | go_keep | (have hb6 := below_drew_of' b5; exact ⟨cell_later hb6 c0, cell_later hb6 c1, cell_later hb6 c2, cell_later hb6 c3, cell_later hb6 c4, cell_later hb6 c5⟩))
    (first | (go_at_call 59; refine (unhide CW).mono ?_; rintro e w5 ⟨rfl, b5⟩))
  have B5 := hide (below_drew_of' b5)
  clear b5
  go_wp2_with fail
  go_ret
  have BX := unhide HB
  exact ⟨by rw [unhide HW]; congr 2, BX.below.trans ((unhide B5).mono (by have := BX.size; omega))⟩

theorem entsW_next (l : List En) (i : Nat) (e : En) (h : l[i]? = some e) : entsW (l.take (i + 1)) = entsW (l.take i) + entW e := by
  obtain ⟨hi, rfl⟩ := List.getElem?_eq_some_iff.1 h
  rw [List.take_succ_eq_append_getElem hi, entsW_app]
  simp [entsW]

theorem all_next (l : List En) (i : Nat) (e : En) (h : l[i]? = some e) : (l.take (i + 1)).all entB = ((l.take i).all entB && entB e) := by
  obtain ⟨hi, rfl⟩ := List.getElem?_eq_some_iff.1 h
  rw [List.take_succ_eq_append_getElem hi, List.all_append]
  simp

theorem all_no (l : List En) (i : Nat) (e : En) (h : l[i]? = some e) (hb : entB e = false) : l.all entB = false := by
  cases ha : l.all entB with
  | false => rfl
  | true =>
    rw [List.all_eq_true] at ha
    rw [ha e (List.mem_of_getElem? h)] at hb
    cases hb

theorem entW_le {e : En} (h : entB e = true) : entW e ≤ 2081 := by
  unfold entB at h
  simp at h
  have := wt0_le e.2
  unfold entW
  omega

set_option maxRecDepth 100000 in
set_option maxHeartbeats 1000000 in
theorem rightE_any (es : List En) (al : Option Addr) (n cl B : Nat) (w : World) (hn : es.length = n) (h : IsE w (fun b => b < B) es al cl) (hB : B ≤ w.heap.size) :
    Calls Try.prog 20 #[.slice al n cl] w fun e w' => e = .returned (.bool (rightE es)) ∧ Below w.heap.size w w' := by
  have hl := h.len
  rw [hn] at hl
  have CR := hide (risingE_any es al n cl B w hn h hB)
  have HV : Hid (∀ u, Below w.heap.size w u → IsE u (fun b => b < B) es al cl) := hide (fun u hu => h.later (hu.mono hB))
  have HN := hide hn
  clear hn
  by_cases hbig : 128 < n
  · have hR : rightE es = false := by unfold rightE; rw [decide_eq_false (by have := unhide HN; omega)]; rfl
    rw [hR]
    have i1 : (128 : Int) < (n : Int) := by omega
    clear h hR
    go_enter Try.func20, Try.ntmps20
    go_wp2_with fail
    go_ret
    exact ⟨rfl, Below.refl _ _⟩
  have i1 : ¬ (128 : Int) < (n : Int) := by omega
  cases hS : stepsE (keysE es) with
  | false =>
    rw [hS] at CR
    have hR : rightE es = false := by unfold rightE; rw [hS]; simp
    rw [hR]
    clear h hR hS
    go_enter Try.func20, Try.ntmps20
    go_wp2_with fail
    refine (unhide CR).mono ?_
    rintro e u ⟨rfl, b1⟩
    have B1 := hide b1
    clear b1
    go_wp2_with fail
    go_ret
    exact ⟨rfl, unhide B1⟩
  | true =>
    rw [hS] at CR
    have hR : rightE es = (es.all entB && decide (entsW es ≤ 32768)) := by unfold rightE; rw [hS, decide_eq_true (by have := unhide HN; omega)]; simp
    rw [hR]
    clear h hR hS
    go_enter Try.func20, Try.ntmps20
    go_wp2_with fail
    refine (unhide CR).mono ?_
    rintro e u ⟨rfl, b1⟩
    have B1 := hide b1
    clear b1 CR
    go_wp2_with fail
    go_loopw [3, 16] (fun x y wr => ∃ (i t : Nat), x = .int .i64 (t : Int) ∧ y = .int .i64 (i : Int) ∧ Hid (i ≤ n ∧ t ≤ i * 2081 ∧ Below w.heap.size w wr) ∧ Hid ((es.take i).all entB = true ∧ t = entsW (es.take i))) (fun _ y _ => n - (intOf y).toNat)
    case atStart => exact ⟨0, 0, rfl, rfl, hide ⟨by omega, by omega, unhide B1⟩, hide ⟨by simp, by simp [entsW]⟩⟩
    case round =>
      obtain ⟨i, t, rfl, rfl, HX, HR⟩ := hrel
      by_cases hlt : i < n
      · have j1 : (i : Int) < (n : Int) := by omega
        have HI1 : Hid (i + 1 ≤ n) := hide (by omega)
        obtain ⟨e, he⟩ : ∃ e, es[i]? = some e := ⟨_, List.getElem?_eq_getElem (by have := unhide HN; omega)⟩
        have hv := unhide HV wr (unhide HX).2.2
        obtain ⟨a, x0, x1, x2, al', ak', ll', m', cl', ck', rfl, _, hsz, hc, hp⟩ := hv.elem i e he
        obtain ⟨s, hs⟩ : ∃ s, e.1 = s := ⟨_, rfl⟩
        obtain ⟨v, hvv⟩ : ∃ v, e.2 = v := ⟨_, rfl⟩
        obtain rfl : e = (s, v) := by rw [← hs, ← hvv]
        clear hs hvv hv
        dsimp only at hsz hc hp
        have c0 : wr.cell? (a.add (i * 6)) = some (.string s) := hc 0 _ rfl
        have c1 : wr.cell? ⟨(a.add (i * 6)).block, (a.add (i * 6)).off + 1, none⟩ = some (.int .i64 x0) := hc 1 _ rfl
        have c2 : wr.cell? ⟨(a.add (i * 6)).block, (a.add (i * 6)).off + 2, none⟩ = some (.int .i64 x1) := hc 2 _ rfl
        have c3 : wr.cell? ⟨(a.add (i * 6)).block, (a.add (i * 6)).off + 3, none⟩ = some (.string x2) := hc 3 _ rfl
        have c4 : wr.cell? ⟨(a.add (i * 6)).block, (a.add (i * 6)).off + 4, none⟩ = some (.slice al' ll' cl') := hc 4 _ rfl
        have c5 : wr.cell? ⟨(a.add (i * 6)).block, (a.add (i * 6)).off + 5, none⟩ = some (.slice ak' m' ck') := hc 5 _ rfl
        obtain ⟨g, hg⟩ : ∃ g, wr.heap.size = g := ⟨_, rfl⟩
        have BX := Box6.mk' wr (.string s) (.int .i64 x0) (.int .i64 x1) (.string x2) (.slice al' ll' cl') (.slice ak' m' ck')
        obtain ⟨w5, hw5⟩ : ∃ w5, wr.alloc (.cells #[.string s, .int .i64 x0, .int .i64 x1, .string x2, .slice al' ll' cl', .slice ak' m' ck'] 48) = w5 := ⟨_, rfl⟩
        rw [hw5] at BX
        obtain ⟨d0, d1, d2, d3, d4, d5⟩ := row_cell6 (by have := BX.row; rw [hg] at this; exact this)
        have hBr : B ≤ wr.heap.size := Nat.le_trans hB (unhide HX).2.2.size
        have HP : Hid (∀ u, Below w5.heap.size w5 u → IsV u B v (.agg #[.int .i64 x0, .int .i64 x1, .string x2, .slice al' ll' cl', .slice ak' m' ck']) ∧ u.heap[g]? = some (.cells #[.string s, .int .i64 x0, .int .i64 x1, .string x2, .slice al' ll' cl', .slice ak' m' ck'] 48 (0, 0)) ∧ B ≤ u.heap.size ∧ Below w.heap.size w u) := hide (fun u hu => by
          have hz := BX.size
          have b5 : Below wr.heap.size wr u := BX.below.trans (hu.mono (by omega))
          refine ⟨IsV.mono (b5.mono hBr) hp, (hu.block g (by omega)).trans (by rw [← hg]; exact BX.row), Nat.le_trans hBr b5.size, (unhide HX).2.2.trans (b5.mono (unhide HX).2.2.size)⟩)
        have HE := hide he
        have CV := hide (right_code v _ B w5 (unhide HP w5 (Below.refl _ _)).1 (unhide HP w5 (Below.refl _ _)).2.2.1)
        clear hc hp BX hBr he
        by_cases hz0 : s.size = 0
        · have k1 : ((s.size : Int) == 0) = true := beq_iff_eq.2 (by omega)
          have k2 : (s.size : Int) = 0 := by omega
          have HF : Hid (es.all entB = false) := hide (all_no es i _ (unhide HE) (by unfold entB; dsimp only; rw [decide_eq_false (by omega)]; rfl))
          go_wp2_with fail
          go_ret
          exact ⟨by rw [unhide HF]; rfl, (unhide HP w5 (Below.refl _ _)).2.2.2⟩
        · have k1 : ((s.size : Int) == 0) = false := beq_eq_false_iff_ne.2 (by omega)
          have k2 : ¬ (s.size : Int) = 0 := by omega
          by_cases hz1 : 32 < s.size
          · have k3 : (32 : Int) < (s.size : Int) := by omega
            have HF : Hid (es.all entB = false) := hide (all_no es i _ (unhide HE) (by unfold entB; dsimp only; rw [decide_eq_false (p := s.size ≤ 32) (by omega), Bool.and_false]; rfl))
            go_wp2_with fail
            go_ret
            exact ⟨by rw [unhide HF]; rfl, (unhide HP w5 (Below.refl _ _)).2.2.2⟩
          · have k3 : ¬ (32 : Int) < (s.size : Int) := by omega
            cases hRv : rightB v with
            | false =>
              rw [hRv] at CV
              have HF : Hid (es.all entB = false) := hide (all_no es i _ (unhide HE) (by unfold entB; dsimp only; rw [hRv, Bool.and_false]))
              go_wp2_with fail
              refine (unhide CV).mono ?_
              rintro e u6 ⟨rfl, b6⟩
              have B6 := hide (unhide HP u6 b6).2.2.2
              clear b6
              go_wp2_with fail
              go_ret
              exact ⟨by rw [unhide HF]; rfl, unhide B6⟩
            | true =>
              rw [hRv] at CV
              have HEB : Hid (entB (s, v) = true) := hide (by unfold entB; dsimp only; rw [hRv, decide_eq_true (p := 1 ≤ s.size) (by omega), decide_eq_true (p := s.size ≤ 32) (by omega)]; rfl)
              go_wp2_with fail
              refine (unhide CV).mono ?_
              rintro e u6 ⟨rfl, b6⟩
              obtain ⟨p6, r6, z6, x6⟩ := unhide HP u6 b6
              have CG := hide (weigh_any s v x0 x1 x2 al' ak' ll' cl' m' ck' B u6 p6 z6 hsz)
              obtain ⟨E, hE⟩ : ∃ E, entW (s, v) = E := ⟨_, rfl⟩
              have hE2 : E ≤ 2081 := by rw [← hE]; exact entW_le (unhide HEB)
              rw [hE] at CG
              have hti : t ≤ i * 2081 := (unhide HX).2.1
              have e1 : IntKind.i64.wrap ((t : Int) + (E : Int)) = ((t + E : Nat) : Int) := by rw [IntKind.wrap_i64]; omega
              have HR' : Hid ((es.take (i + 1)).all entB = true ∧ t + E = entsW (es.take (i + 1))) := hide (by
                obtain ⟨q1, q2⟩ := unhide HR
                refine ⟨by rw [all_next es i _ (unhide HE), q1, unhide HEB]; rfl, by rw [entsW_next es i _ (unhide HE), ← q2, hE]⟩)
              have HT : Hid (t + E ≤ (i + 1) * 2081) := hide (by omega)
              obtain ⟨f0, f1, f2, f3, f4, f5⟩ := row_cell6 r6
              have B6 := hide x6
              clear b6 p6 r6 z6 x6 d0 d1 d2 d3 d4 d5 c0 c1 c2 c3 c4 c5 CV hE hti
              go_wp2_with fail
              refine (unhide CG).mono ?_
              rintro e u7 ⟨rfl, b7⟩
              have B7 := hide ((unhide B6).trans (b7.mono (unhide B6).size))
              clear b7 f0 f1 f2 f3 f4 f5
              go_wp2_with fail
              go_roundw
              case rel => exact ⟨i + 1, t + E, by first | rfl | go_num, by go_num, hide ⟨unhide HI1, unhide HT, unhide B7⟩, HR'⟩
              case measure => have := unhide HI1; simp [intOf]; omega
      · have j1 : ¬ (i : Int) < (n : Int) := by omega
        have HF : Hid ((es.all entB && decide (entsW es ≤ 32768)) = decide ((t : Int) ≤ 32768)) := hide (by
          obtain ⟨q1, q2⟩ := unhide HR
          rw [List.take_of_length_le (by have := unhide HN; omega)] at q1 q2
          rw [q1, q2, Bool.true_and]
          exact decide_eq_decide.2 (by omega))
        have B7 := hide (unhide HX).2.2
        go_wp2_with fail
        go_ret
        exact ⟨by rw [unhide HF]; first | rfl | (congr 2; exact decide_eq_decide.2 (by omega)), unhide B7⟩
end Go.Proofs.Ytlmgiimgmjbkeaa
