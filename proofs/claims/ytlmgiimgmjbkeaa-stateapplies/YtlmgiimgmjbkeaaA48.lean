/-
  The walk of scruplelaw07.spoil over entries that came out; conditions: the row and its values' lists are the owner's own.
  The walk of Entries: are two rows the same? no conditions but the form's own reach.
-/
import Derived.Test.YtlmgiimgmjbkeaaA39
import Derived.Test.YtlmgiimgmjbkeaaA47
import Derived.Test.YtlmgiimgmjbkeaaA29
import Derived.Test.YtlmgiimgmjbkeaaA10
set_option linter.unusedVariables false
set_option linter.unusedSimpArgs false
namespace Go.Proofs.Ytlmgiimgmjbkeaa
open Go.RowKit Go.Shelf
set_option linter.unusedVariables false
set_option linter.unusedSimpArgs false

/-- a row of entries that is its owner's -/
def OwnE (w : World) (P : Nat → Prop) (n : Nat) (al : Option Addr) (cl : Nat) : Prop :=
  (al = none ∧ n = 0 ∧ cl = 0) ∨ ∃ b cs, al = some ⟨b, 0, none⟩ ∧ P b ∧ w.heap[b]? = some (.cells cs 48 (0, 0)) ∧ cs.size = cl * 6 ∧ n ≤ cl ∧ cl ≤ maxLen ∧ ∀ i, i < n → ∃ k y0 y1 y2 y3 y4 r, cs[i * 6]? = some (.string k) ∧ (cs[i * 6 + 1]? = some y0 ∧ cs[i * 6 + 2]? = some y1 ∧ cs[i * 6 + 3]? = some y2 ∧ cs[i * 6 + 4]? = some y3 ∧ cs[i * 6 + 5]? = some y4) ∧ Ty w (fun q => P q ∧ q ≠ b) r (.agg #[y0, y1, y2, y3, y4])

theorem cellsN_at : ∀ (xs : List Eo) (i : Nat) (p : Eo), xs[i]? = some p → ∀ j v, (Value.string p.1 :: th5 p.2.1)[j]? = some v → (cellsN xs)[i * 6 + j]? = some v
  | [], i, p, hp, _, _, _ => by simp at hp
  | c :: r, i, p, hp, j, v, hv => by
    have hj : j < 6 := by
      have := (List.getElem?_eq_some_iff.1 hv).1
      obtain ⟨t0, t1, t2, t3, t4, t5, t6, t7, t8⟩ := p.2.1
      simpa [th5] using this
    have hlen : (Value.string c.1 :: th5 c.2.1).length = 6 := by
      obtain ⟨t0, t1, t2, t3, t4, t5, t6, t7, t8⟩ := c.2.1
      rfl
    have hcc : cellsN (c :: r) = (Value.string c.1 :: th5 c.2.1) ++ cellsN r := by simp [cellsN]
    rw [hcc]
    cases i with
    | zero =>
      simp at hp
      subst hp
      rw [Nat.zero_mul, Nat.zero_add, List.getElem?_append_left (by omega)]
      exact hv
    | succ i =>
      rw [List.getElem?_append_right (by rw [hlen]; omega), hlen, show (i + 1) * 6 + j - 6 = i * 6 + j by omega]
      exact cellsN_at r i p (by simpa using hp) j v hv

/-- entries that came out are their owner's -/
theorem EnN.own {w : World} {lo n cl : Nat} {al : Option Addr} {xs : List Eo} (h : EnN w lo (.slice al n cl) xs) : OwnE w (fun b => lo ≤ b ∧ b < w.heap.size) n al cl := by
  rcases h.row.2 with ⟨e, e2⟩ | ⟨g, cap, cur, e, hlo, hg, hcap, hmax, hsz, hcur⟩
  · simp only [Value.slice.injEq] at e
    exact Or.inl e
  · simp only [Value.slice.injEq] at e
    obtain ⟨rfl, rfl, rfl⟩ := e
    refine Or.inr ⟨g, cur, rfl, ⟨hlo, (Array.getElem?_eq_some_iff.1 hg).1⟩, hg, hsz, hcap, hmax, fun i hi => ?_⟩
    obtain ⟨⟨k, ⟨t0, t1, t2, t3, t4, t5, t6, t7, t8⟩, v⟩, hp⟩ : ∃ p, xs[i]? = some p := ⟨_, List.getElem?_eq_getElem hi⟩
    have hc := fun j u hj => cellsN_at xs i _ hp j u hj
    have hq := h.el _ (List.mem_of_getElem? hp)
    have hcell : ∀ j u, (cellsN xs)[j]? = some u → cur[j]? = some u := fun j u hu => by
      have hlt := (List.getElem?_eq_some_iff.1 hu).1
      have hl2 : j < xs.length * 6 := by rw [← hcur, List.length_take] at hlt; omega
      rw [← hcur, List.getElem?_take_of_lt hl2] at hu
      rw [← Array.getElem?_toList]
      exact hu
    refine ⟨k, _, _, _, _, _, dep v, hcell _ _ (hc 0 _ rfl), ⟨hcell _ _ (hc 1 _ rfl), hcell _ _ (hc 2 _ rfl), hcell _ _ (hc 3 _ rfl), hcell _ _ (hc 4 _ rfl), hcell _ _ (hc 5 _ rfl)⟩, ?_⟩
    exact Ty.to (fun _ _ => rfl) (fun b hb => ⟨⟨hb.1.1, hb.1.2.1⟩, fun e => hb.1.2.2 (by rw [e]; rfl)⟩) _ _ hq.2

/-- nothing is changed but what is someone's own, and what is new -/
structure Sp (Q : Nat → Prop) (w u : World) : Prop where
  os : u.os = w.os
  tape : u.tape = w.tape
  output : u.output = w.output
  size : w.heap.size ≤ u.heap.size
  block : ∀ b, b < w.heap.size → ¬ Q b → u.heap[b]? = w.heap[b]?

theorem Sp.of_wiped {Q : Nat → Prop} {w u : World} (h : Wiped Q w u) : Sp Q w u := ⟨h.os, h.tape, h.output, h.size, fun b hb hq => h.far hb hq⟩
theorem Sp.set {Q : Nat → Prop} {w u : World} (h : Sp Q w u) {b o : Nat} {x : Value} (hq : Q b ∨ w.heap.size ≤ b) : Sp Q w (u.setCell ⟨b, o, none⟩ x) := by
  have B := (Below.refl 0 u).setCell (p := ⟨b, o, none⟩) (Nat.zero_le _) x
  refine ⟨B.os.trans h.os, B.tape.trans h.tape, B.output.trans h.output, Nat.le_trans h.size B.size, fun q hl hn => ?_⟩
  have hne : q ≠ b := fun e => by
    subst e
    rcases hq with h | h
    · exact hn h
    · omega
  rw [heap_setCell_other _ _ _ _ hne]
  exact h.block q hl hn
theorem Sp.on {Q : Nat → Prop} {w u u' : World} (h : Sp Q w u) (hb : Below u.heap.size u u') : Sp Q w u' := ⟨hb.os.trans h.os, hb.tape.trans h.tape, hb.output.trans h.output, Nat.le_trans h.size hb.size, fun q hl hn => (hb.block q (Nat.lt_of_lt_of_le hl h.size)).trans (h.block q hl hn)⟩

theorem six_far (cs : Array Value) (o q : Nat) (x0 x1 x2 x3 x4 x5 : Value) (h : q < o ∨ o + 6 ≤ q) : ((((((cs.setIfInBounds o x0).setIfInBounds (o + 1) x1).setIfInBounds (o + 2) x2).setIfInBounds (o + 3) x3).setIfInBounds (o + 4) x4).setIfInBounds (o + 5) x5)[q]? = cs[q]? := by
  rw [Array.getElem?_setIfInBounds_ne (by omega), Array.getElem?_setIfInBounds_ne (by omega), Array.getElem?_setIfInBounds_ne (by omega), Array.getElem?_setIfInBounds_ne (by omega), Array.getElem?_setIfInBounds_ne (by omega), Array.getElem?_setIfInBounds_ne (by omega)]

/-- six cells of a row are set -/
theorem six_row (w : World) (b o : Nat) (T : TypeId) (cs : Array Value) (x0 x1 x2 x3 x4 x5 : Value) (h : w.heap[b]? = some (.cells cs T (0, 0))) :
    ((((((w.setCell ⟨b, o, none⟩ x0).setCell ⟨b, o + 1, none⟩ x1).setCell ⟨b, o + 2, none⟩ x2).setCell ⟨b, o + 3, none⟩ x3).setCell ⟨b, o + 4, none⟩ x4).setCell ⟨b, o + 5, none⟩ x5).heap[b]? = some (.cells ((((((cs.setIfInBounds o x0).setIfInBounds (o + 1) x1).setIfInBounds (o + 2) x2).setIfInBounds (o + 3) x3).setIfInBounds (o + 4) x4).setIfInBounds (o + 5) x5) T (0, 0)) ∧
    (∀ q, q ≠ b → ((((((w.setCell ⟨b, o, none⟩ x0).setCell ⟨b, o + 1, none⟩ x1).setCell ⟨b, o + 2, none⟩ x2).setCell ⟨b, o + 3, none⟩ x3).setCell ⟨b, o + 4, none⟩ x4).setCell ⟨b, o + 5, none⟩ x5).heap[q]? = w.heap[q]?) := by
  have h1 := heap_setCell_same w b o _ T x0 h
  have h2 := heap_setCell_same _ b (o + 1) _ T x1 h1
  have h3 := heap_setCell_same _ b (o + 2) _ T x2 h2
  have h4 := heap_setCell_same _ b (o + 3) _ T x3 h3
  have h5 := heap_setCell_same _ b (o + 4) _ T x4 h4
  have h6 := heap_setCell_same _ b (o + 5) _ T x5 h5
  refine ⟨h6, fun q hq => ?_⟩
  rw [heap_setCell_other _ _ _ _ hq, heap_setCell_other _ _ _ _ hq, heap_setCell_other _ _ _ _ hq, heap_setCell_other _ _ _ _ hq, heap_setCell_other _ _ _ _ hq, heap_setCell_other _ _ _ _ hq]

/-- how far spoil is -/
def Sq (w u : World) (P : Nat → Prop) (b n cl i : Nat) : Prop := Sp P w u ∧ ∃ cs, u.heap[b]? = some (.cells cs 48 (0, 0)) ∧ cs.size = cl * 6 ∧ ∀ j, i ≤ j → j < n → ∃ k y0 y1 y2 y3 y4 r, cs[j * 6]? = some (.string k) ∧ (cs[j * 6 + 1]? = some y0 ∧ cs[j * 6 + 2]? = some y1 ∧ cs[j * 6 + 3]? = some y2 ∧ cs[j * 6 + 4]? = some y3 ∧ cs[j * 6 + 5]? = some y4) ∧ Ty u (fun q => P q ∧ q ≠ b) r (.agg #[y0, y1, y2, y3, y4])

theorem Sp.wiped {P Q : Nat → Prop} {w u u' : World} (h : Sp P w u) (hw : Wiped Q u u') (hQ : ∀ b, Q b → P b) : Sp P w u' :=
  ⟨hw.os.trans h.os, hw.tape.trans h.tape, hw.output.trans h.output, Nat.le_trans h.size hw.size, fun b hb hn => (hw.far (Nat.lt_of_lt_of_le hb h.size) (fun q => hn (hQ b q))).trans (h.block b hb hn)⟩

theorem Sq.wiped {w u u' : World} {P : Nat → Prop} {b n cl i : Nat} (h : Sq w u P b n cl i) (hw : Wiped (fun q => P q ∧ q ≠ b) u u') : Sq w u' P b n cl i := by
  obtain ⟨h1, cs, h2, h3, h4⟩ := h
  refine ⟨h1.wiped hw (fun b hb => hb.1), cs, (hw.far (lt_of_row h2) (fun q => q.2 rfl)).trans h2, h3, fun j hj hn => ?_⟩
  obtain ⟨k, y0, y1, y2, y3, y4, r, g0, g, ht⟩ := h4 j hj hn
  exact ⟨k, y0, y1, y2, y3, y4, r, g0, g, Ty.wiped hw _ _ ht⟩

theorem Sq.next {w u : World} {P : Nat → Prop} {b n cl i : Nat} {x0 x1 x2 x3 x4 x5 : Value} (h : Sq w u P b n cl i) (hP : P b) : Sq w ((((((u.setCell ⟨b, i * 6, none⟩ x0).setCell ⟨b, i * 6 + 1, none⟩ x1).setCell ⟨b, i * 6 + 2, none⟩ x2).setCell ⟨b, i * 6 + 3, none⟩ x3).setCell ⟨b, i * 6 + 4, none⟩ x4).setCell ⟨b, i * 6 + 5, none⟩ x5) P b n cl (i + 1) := by
  obtain ⟨h1, cs, h2, h3, h4⟩ := h
  obtain ⟨r1, r2⟩ := six_row u b (i * 6) _ cs x0 x1 x2 x3 x4 x5 h2
  refine ⟨(((((h1.set (Or.inl hP)).set (Or.inl hP)).set (Or.inl hP)).set (Or.inl hP)).set (Or.inl hP)).set (Or.inl hP), _, r1, by simpa using h3, fun j hj hn => ?_⟩
  obtain ⟨k, y0, y1, y2, y3, y4, r, g0, ⟨g1, g2, g3, g4, g5⟩, ht⟩ := h4 j (by omega) hn
  refine ⟨k, y0, y1, y2, y3, y4, r, ?_, ⟨?_, ?_, ?_, ?_, ?_⟩, Ty.to (fun q hq => r2 q hq.2) (fun _ h => h) _ _ ht⟩
  · rw [six_far _ _ _ _ _ _ _ _ _ (Or.inr (by omega))]; exact g0
  · rw [six_far _ _ _ _ _ _ _ _ _ (Or.inr (by omega))]; exact g1
  · rw [six_far _ _ _ _ _ _ _ _ _ (Or.inr (by omega))]; exact g2
  · rw [six_far _ _ _ _ _ _ _ _ _ (Or.inr (by omega))]; exact g3
  · rw [six_far _ _ _ _ _ _ _ _ _ (Or.inr (by omega))]; exact g4
  · rw [six_far _ _ _ _ _ _ _ _ _ (Or.inr (by omega))]; exact g5

set_option maxRecDepth 100000 in
set_option maxHeartbeats 2000000 in
theorem spoilS_any (P : Nat → Prop) (w : World) (al : Option Addr) (n cl : Nat) (h : OwnE w P n al cl) (hP : ∀ b, P b → b < w.heap.size) :
    Calls Try.prog 17 #[.slice al n cl] w fun e w' => e = .returned (.tuple #[]) ∧ Sp P w w' := by
  rcases h with ⟨rfl, rfl, rfl⟩ | ⟨b, cs, rfl, hPb, hbb, hsz, hlc, hcm, hel⟩
  · have i1 : ¬ ((0 : Nat) : Int) < ((0 : Nat) : Int) := by omega
    go_enter Try.func17, Try.ntmps17
    go_wp2_with fail
    go_loopw [2] (fun x wr => x = .int .i64 0 ∧ wr = w) (fun _ _ => 0)
    case atStart => exact ⟨rfl, rfl⟩
    case round =>
      obtain ⟨rfl, rfl⟩ := hrel
      go_wp2_with fail
      go_end0
      exact ⟨rfl, rfl, rfl, rfl, Nat.le_refl _, fun _ _ _ => rfl⟩
  · have H0 : Hid (Sq w w P b n cl 0) := hide ⟨⟨rfl, rfl, rfl, Nat.le_refl _, fun _ _ _ => rfl⟩, cs, hbb, hsz, fun j _ hn => hel j hn⟩
    have HP := hide (And.intro hPb hP)
    have hcl : cl ≤ 9223372036854775807 := by unfold maxLen at hcm; omega
    clear hel hbb hsz hP
    go_enter Try.func17, Try.ntmps17
    go_wp2_with fail
    go_loopw [2] (fun x wr => ∃ i : Nat, i ≤ n ∧ x = .int .i64 (i : Int) ∧ Hid (Sq w wr P b n cl i)) (fun x _ => n - (intOf x).toNat)
    case atStart => exact ⟨0, by omega, rfl, H0⟩
    case round =>
      clear H0
      obtain ⟨i, hi, rfl, HS⟩ := hrel
      by_cases hlt : i < n
      · have i1 : (i : Int) < (n : Int) := by omega
        have i0 : (0 : Int) ≤ (i : Int) := by omega
        obtain ⟨hsp, cs, hbb, hsz, hel⟩ := unhide HS
        obtain ⟨k, y0, y1, y2, y3, y4, r, g0, ⟨g1, g2, g3, g4, g5⟩, hty⟩ := hel i (Nat.le_refl _) hlt
        obtain ⟨k', n', t', al', ll', cl', ak', m', ck', hs⟩ := hty.shape
        simp only [Value.agg.injEq, Array.mk.injEq, List.cons.injEq, and_true] at hs
        obtain ⟨rfl, rfl, rfl, rfl, rfl⟩ := hs
        have e1 : wr.cell? ⟨b, i * 6 + 1, none⟩ = some (.int .i64 k') := by rw [cell_of_row wr b (i * 6 + 1) cs _ (0, 0) hbb]; exact g1
        have e2 : wr.cell? ⟨b, i * 6 + 2, none⟩ = some (.int .i64 n') := by rw [cell_of_row wr b (i * 6 + 2) cs _ (0, 0) hbb]; exact g2
        have e3 : wr.cell? ⟨b, i * 6 + 3, none⟩ = some (.string t') := by rw [cell_of_row wr b (i * 6 + 3) cs _ (0, 0) hbb]; exact g3
        have e4 : wr.cell? ⟨b, i * 6 + 4, none⟩ = some (.slice al' ll' cl') := by rw [cell_of_row wr b (i * 6 + 4) cs _ (0, 0) hbb]; exact g4
        have e5 : wr.cell? ⟨b, i * 6 + 5, none⟩ = some (.slice ak' m' ck') := by rw [cell_of_row wr b (i * 6 + 5) cs _ (0, 0) hbb]; exact g5
        have CI := hide (spoil_any r _ (fun q => P q ∧ q ≠ b) wr hty (fun z hz => Nat.lt_of_lt_of_le ((unhide HP).2 z hz.1) hsp.size))
        clear hel hbb hsz hsp g0 g1 g2 g3 g4 g5 hty
        go_wp2_with fail
        refine (unhide CI).mono ?_
        rintro e w5 ⟨rfl, h5⟩
        have HS5 := hide ((unhide HS).wiped h5)
        clear h5 CI e1 e2 e3 e4 e5
        obtain ⟨hsp, cs, hbb, hsz, hel⟩ := unhide HS5
        obtain ⟨z0, g0⟩ : ∃ z, cs[i * 6]? = some z := ⟨_, Array.getElem?_eq_getElem (by omega)⟩
        obtain ⟨z1, g1⟩ : ∃ z, cs[i * 6 + 1]? = some z := ⟨_, Array.getElem?_eq_getElem (by omega)⟩
        obtain ⟨z2, g2⟩ : ∃ z, cs[i * 6 + 2]? = some z := ⟨_, Array.getElem?_eq_getElem (by omega)⟩
        obtain ⟨z3, g3⟩ : ∃ z, cs[i * 6 + 3]? = some z := ⟨_, Array.getElem?_eq_getElem (by omega)⟩
        obtain ⟨z4, g4⟩ : ∃ z, cs[i * 6 + 4]? = some z := ⟨_, Array.getElem?_eq_getElem (by omega)⟩
        obtain ⟨z5, g5⟩ : ∃ z, cs[i * 6 + 5]? = some z := ⟨_, Array.getElem?_eq_getElem (by omega)⟩
        have e0 : w5.cell? ⟨b, i * 6, none⟩ = some z0 := by rw [cell_of_row w5 b (i * 6) cs _ (0, 0) hbb]; exact g0
        have e1 : w5.cell? ⟨b, i * 6 + 1, none⟩ = some z1 := by rw [cell_of_row w5 b (i * 6 + 1) cs _ (0, 0) hbb]; exact g1
        have e2 : w5.cell? ⟨b, i * 6 + 2, none⟩ = some z2 := by rw [cell_of_row w5 b (i * 6 + 2) cs _ (0, 0) hbb]; exact g2
        have e3 : w5.cell? ⟨b, i * 6 + 3, none⟩ = some z3 := by rw [cell_of_row w5 b (i * 6 + 3) cs _ (0, 0) hbb]; exact g3
        have e4 : w5.cell? ⟨b, i * 6 + 4, none⟩ = some z4 := by rw [cell_of_row w5 b (i * 6 + 4) cs _ (0, 0) hbb]; exact g4
        have e5 : w5.cell? ⟨b, i * 6 + 5, none⟩ = some z5 := by rw [cell_of_row w5 b (i * 6 + 5) cs _ (0, 0) hbb]; exact g5
        have f0 := frozen_of_row w5 b (i * 6) _ _ hbb
        have f1 := frozen_of_row w5 b (i * 6 + 1) _ _ hbb
        have f2 := frozen_of_row w5 b (i * 6 + 2) _ _ hbb
        have f3 := frozen_of_row w5 b (i * 6 + 3) _ _ hbb
        have f4 := frozen_of_row w5 b (i * 6 + 4) _ _ hbb
        have f5 := frozen_of_row w5 b (i * 6 + 5) _ _ hbb
        have HS6 := hide ((unhide HS5).next (x0 := .string ⟨#[109, 105, 110, 101]⟩) (x1 := .int .i64 0) (x2 := .int .i64 0) (x3 := .string ⟨#[]⟩) (x4 := .slice none 0 0) (x5 := .slice none 0 0) (unhide HP).1)
        clear hel hbb hsz hsp g0 g1 g2 g3 g4 g5
        go_wp2_with fail
        go_roundw
        case rel => exact ⟨i + 1, by omega, by go_num, HS6⟩
        case measure => simp [intOf]; omega
      · have i1 : ¬ (i : Int) < (n : Int) := by omega
        go_wp2_with fail
        go_end0
        exact ⟨rfl, (unhide HS).1⟩
end Go.Proofs.Ytlmgiimgmjbkeaa

namespace Go.Proofs.Ytlmgiimgmjbkeaa
open Go.RowKit

def ResEq (es fs : List En) (w : World) (e : Ending) (w' : World) : Prop := ∃ r, e = .returned (.bool r) ∧ (r = true ↔ es = fs) ∧ Below w.heap.size w w'

set_option maxRecDepth 100000 in
set_option maxHeartbeats 1000000 in
theorem entries_any (es fs : List En) (al bl : Option Addr) (n m ca cb B : Nat) (w : World) (hn : es.length = n) (hm : fs.length = m) (h : IsE w (fun b => b < B) es al ca) (h' : IsE w (fun b => b < B) fs bl cb) (hB : B ≤ w.heap.size) :
    Calls Try.prog 16 #[.slice al n ca, .slice bl m cb] w fun e w' => ResEq es fs w e w' := by
  have hl := h.len
  have hl' := h'.len
  rw [hn] at hl
  rw [hm] at hl'
  have HV : Hid (∀ u, Below w.heap.size w u → IsE u (fun b => b < B) es al ca ∧ IsE u (fun b => b < B) fs bl cb) := hide (fun u hu => ⟨h.later (hu.mono hB), h'.later (hu.mono hB)⟩)
  have HN := hide (And.intro hn hm)
  clear h h' hn hm
  by_cases hnm : n = m
  · subst hnm
    go_enter Try.func16, Try.ntmps16
    go_wp2_with fail
    go_loopw [5] (fun x wr => ∃ (i : Nat), x = .int .i64 (i : Int) ∧ Hid (i ≤ n ∧ Below w.heap.size w wr) ∧ Hid (es.take i = fs.take i)) (fun x _ => n - (intOf x).toNat)
    case atStart => exact ⟨0, rfl, hide ⟨by omega, Below.refl _ _⟩, hide rfl⟩
    case round =>
      obtain ⟨i, rfl, HX, HR⟩ := hrel
      obtain ⟨wq, hwq⟩ : ∃ wq, wq = wr := ⟨_, rfl⟩
      subst hwq
      by_cases hlt : i < n
      · have i1 : (i : Int) < (n : Int) := by omega
        have HI1 : Hid (i + 1 ≤ n) := hide (by omega)
        obtain ⟨⟨s, v⟩, he⟩ : ∃ e, es[i]? = some e := ⟨_, List.getElem?_eq_getElem (by have := unhide HN; omega)⟩
        obtain ⟨⟨s', v'⟩, hf⟩ : ∃ e, fs[i]? = some e := ⟨_, List.getElem?_eq_getElem (by have := unhide HN; omega)⟩
        obtain ⟨hv, hv'⟩ := unhide HV wq (unhide HX).2
        obtain ⟨a, x0, x1, x2, al', ak', ll', m', cl', ck', rfl, _, _, hc, hp⟩ := hv.elem i _ he
        obtain ⟨a', y0, y1, y2, bl', bk', lb', mb', clb', ckb', rfl, _, _, hd, hp'⟩ := hv'.elem i _ hf
        dsimp only at hc hp hd hp'
        focus
          have c0 : wq.cell? (a.add (i * 6)) = some (.string s) := hc 0 _ rfl
          have c1 : wq.cell? ⟨(a.add (i * 6)).block, (a.add (i * 6)).off + 1, none⟩ = some (.int .i64 x0) := hc 1 _ rfl
          have c2 : wq.cell? ⟨(a.add (i * 6)).block, (a.add (i * 6)).off + 2, none⟩ = some (.int .i64 x1) := hc 2 _ rfl
          have c3 : wq.cell? ⟨(a.add (i * 6)).block, (a.add (i * 6)).off + 3, none⟩ = some (.string x2) := hc 3 _ rfl
          have c4 : wq.cell? ⟨(a.add (i * 6)).block, (a.add (i * 6)).off + 4, none⟩ = some (.slice al' ll' cl') := hc 4 _ rfl
          have c5 : wq.cell? ⟨(a.add (i * 6)).block, (a.add (i * 6)).off + 5, none⟩ = some (.slice ak' m' ck') := hc 5 _ rfl
          have d0 : wq.cell? (a'.add (i * 6)) = some (.string s') := hd 0 _ rfl
          have d1 : wq.cell? ⟨(a'.add (i * 6)).block, (a'.add (i * 6)).off + 1, none⟩ = some (.int .i64 y0) := hd 1 _ rfl
          have d2 : wq.cell? ⟨(a'.add (i * 6)).block, (a'.add (i * 6)).off + 2, none⟩ = some (.int .i64 y1) := hd 2 _ rfl
          have d3 : wq.cell? ⟨(a'.add (i * 6)).block, (a'.add (i * 6)).off + 3, none⟩ = some (.string y2) := hd 3 _ rfl
          have d4 : wq.cell? ⟨(a'.add (i * 6)).block, (a'.add (i * 6)).off + 4, none⟩ = some (.slice bl' lb' clb') := hd 4 _ rfl
          have d5 : wq.cell? ⟨(a'.add (i * 6)).block, (a'.add (i * 6)).off + 5, none⟩ = some (.slice bk' mb' ckb') := hd 5 _ rfl
          have hBr : B ≤ wq.heap.size := Nat.le_trans hB (unhide HX).2.size
          have hdr : Below wq.heap.size wq wq.drew := (Below.refl _ _).drew
          have CR := hide (alike_any (dep v) v v' _ _ B wq.drew (Nat.le_refl _) (IsV.mono (hdr.mono hBr) hp) (IsV.mono (hdr.mono hBr) hp') (by have := hdr.size; omega))
          have HE := hide (And.intro he hf)
          obtain ⟨R, hR⟩ : ∃ R, sameB v v' = R := ⟨_, rfl⟩
          rw [hR] at CR
          have HRR := hide hR
          clear hR hc hd hp hp' hv hv' he hf hdr
          go_upto_region 6 with fail
          go_cut [6] from 16 to 29 (fun r wx => r = .bool R ∧ Hid (Below wq.heap.size wq wx))
          case first =>
            go_region_held3 (fun w' => w'.cell? ⟨(a.add (i * 6)).block, (a.add (i * 6)).off + 1, none⟩ = some (.int .i64 x0) ∧ w'.cell? ⟨(a.add (i * 6)).block, (a.add (i * 6)).off + 2, none⟩ = some (.int .i64 x1) ∧ w'.cell? ⟨(a.add (i * 6)).block, (a.add (i * 6)).off + 3, none⟩ = some (.string x2) ∧ w'.cell? ⟨(a.add (i * 6)).block, (a.add (i * 6)).off + 4, none⟩ = some (.slice al' ll' cl') ∧ w'.cell? ⟨(a.add (i * 6)).block, (a.add (i * 6)).off + 5, none⟩ = some (.slice ak' m' ck') ∧ w'.cell? ⟨(a'.add (i * 6)).block, (a'.add (i * 6)).off + 1, none⟩ = some (.int .i64 y0) ∧ w'.cell? ⟨(a'.add (i * 6)).block, (a'.add (i * 6)).off + 2, none⟩ = some (.int .i64 y1) ∧ w'.cell? ⟨(a'.add (i * 6)).block, (a'.add (i * 6)).off + 3, none⟩ = some (.string y2) ∧ w'.cell? ⟨(a'.add (i * 6)).block, (a'.add (i * 6)).off + 4, none⟩ = some (.slice bl' lb' clb') ∧ w'.cell? ⟨(a'.add (i * 6)).block, (a'.add (i * 6)).off + 5, none⟩ = some (.slice bk' mb' ckb'))
              (first | go_keep | (have hb6 := below_drew_of' b5; exact ⟨cell_later hb6 c1, cell_later hb6 c2, cell_later hb6 c3, cell_later hb6 c4, cell_later hb6 c5, cell_later hb6 d1, cell_later hb6 d2, cell_later hb6 d3, cell_later hb6 d4, cell_later hb6 d5⟩))
              (first | (go_at_call 29; refine (unhide CR).mono ?_; rintro e w5 ⟨rfl, b5⟩))
            have HX5 : Hid (Below wq.heap.size wq w5) := hide (below_drew_of' b5)
            clear b5 CR
            go_wp2_with fail
            go_meet
            exact ⟨rfl, HX5⟩
          case rest =>
            obtain ⟨rfl, HX5⟩ := hcut
            have HY : Hid (Below w.heap.size w wc) := hide ((unhide HX).2.trans ((unhide HX5).mono (unhide HX).2.size))
            have c0' := cell_later (unhide HX5) c0
            have d0' := cell_later (unhide HX5) d0
            clear c0 c1 c2 c3 c4 c5 d0 d1 d2 d3 d4 d5 CR
            cases R with
            | false =>
              have HF : Hid (¬ es = fs) := hide (fun e => by
                obtain ⟨q1, q2⟩ := unhide HE
                rw [e, q2] at q1
                cases q1
                have := unhide HRR
                rw [(sameB_iff v v).2 rfl] at this
                cases this)
              go_upto_region 7 with fail
              go_quiet (fail)
              go_wp2_with fail
              go_ret
              exact ⟨false, rfl, ⟨(fun h => by cases h), fun h => absurd h (unhide HF)⟩, below_drewN (unhide HY) _⟩
            | true =>
              cases hbe : (s.toList == s'.toList) with
              | true =>
                have HR' : Hid (es.take (i + 1) = fs.take (i + 1)) := hide (by
                  obtain ⟨q1, q2⟩ := unhide HE
                  have e1 := (bytes_beq s s').1 hbe
                  have e2 := (sameB_iff v v').1 (unhide HRR)
                  subst e1 e2
                  exact take_next es fs i _ q1 q2 (unhide HR))
                go_upto_region 7 with fail
                go_quiet (fail)
                go_wp2_with fail
                go_roundw
                case rel => exact ⟨i + 1, by go_num, hide ⟨unhide HI1, below_drewN (unhide HY) _⟩, HR'⟩
                case measure => have := unhide HI1; simp [intOf]; omega
              | false =>
                have HF : Hid (¬ es = fs) := hide (fun e => by
                  obtain ⟨q1, q2⟩ := unhide HE
                  rw [e, q2] at q1
                  cases q1
                  rw [(bytes_beq s s).2 rfl] at hbe
                  cases hbe)
                go_upto_region 7 with fail
                go_quiet (fail)
                go_wp2_with fail
                go_ret
                exact ⟨false, rfl, ⟨(fun h => by cases h), fun h => absurd h (unhide HF)⟩, below_drewN (unhide HY) _⟩
      · have i1 : ¬ (i : Int) < (n : Int) := by omega
        have HF : Hid (es = fs) := hide (by
          have h := unhide HR
          obtain ⟨q1, q2⟩ := unhide HN
          rw [List.take_of_length_le (by omega), List.take_of_length_le (by omega)] at h
          exact h)
        have HY := hide (unhide HX).2
        go_wp2_with fail
        go_ret
        exact ⟨true, rfl, ⟨fun _ => unhide HF, fun _ => rfl⟩, unhide HY⟩
  · have HF : Hid (¬ es = fs) := hide (fun e => hnm (by obtain ⟨q1, q2⟩ := unhide HN; rw [← q1, ← q2, e]))
    have k1 : ¬ (n : Int) = (m : Int) := by omega
    have k2 : ((n : Int) == (m : Int)) = false := beq_eq_false_iff_ne.2 k1
    go_enter Try.func16, Try.ntmps16
    go_wp2_with fail
    go_ret
    exact ⟨false, rfl, ⟨(fun h => by cases h), fun h => absurd h (unhide HF)⟩, Below.refl _ _⟩
end Go.Proofs.Ytlmgiimgmjbkeaa
