/-
  The walk of scruplelaw09.spoil: a module's lists are written over, and grown; conditions: the lists are the owner's own.
-/
import Derived.Test.YtfdnhpmldnmncaaR51
namespace Go.Proofs.Ytfdnhpmldnmncaa
open Go.RowKit
set_option linter.unusedVariables false
set_option linter.unusedSimpArgs false

theorem infoFs : (Try.prog.info? 53).map (fun i => (i.zero, i.size, i.bytes)) = some (some (.agg #[.int .i64 0, .int .i64 0, .int .i64 0, .string ⟨#[]⟩]), 4, 40) := by kernel_rfl
theorem infoXs : (Try.prog.info? 55).map (fun i => (i.zero, i.size, i.bytes)) = some (some (.agg #[.string ⟨#[]⟩, .int .i64 0]), 2, 24) := by kernel_rfl

/-- nothing is changed but what is someone's own, and what is new -/
structure Sp (Q : Nat → Prop) (w u : World) : Prop where
  os : u.os = w.os
  tape : u.tape = w.tape
  output : u.output = w.output
  size : w.heap.size ≤ u.heap.size
  block : ∀ b, b < w.heap.size → ¬ Q b → u.heap[b]? = w.heap[b]?

theorem Sp.of_wiped {Q : Nat → Prop} {w u : World} (h : Wiped Q w u) : Sp Q w u := ⟨h.os, h.tape, h.output, h.size, fun b hb hq => h.far hb hq⟩
theorem Sp.set {Q : Nat → Prop} {w u : World} (h : Sp Q w u) {b o : Nat} {x : Value} (hq : Q b ∨ w.heap.size ≤ b) : Sp Q w (u.setCell ⟨b, o, none⟩ x) := by
  have B := (Below.refl 0 u).setCell (p := ⟨b, o, none⟩) (Nat.zero_le _) x
  refine ⟨B.os.trans h.os, B.tape.trans h.tape, B.output.trans h.output, Nat.le_trans h.size B.size, fun q hl hn => ?_⟩
  have hne : q ≠ b := fun e => by
    subst e
    rcases hq with h | h
    · exact hn h
    · omega
  rw [heap_setCell_other _ _ _ _ hne]
  exact h.block q hl hn
theorem Sp.aft {Q : Nat → Prop} {w u u' : World} {e : TypeId} {size n c : Nat} {news : List Value} {v' : Value} (h : Sp Q w u) (ha : AftN u u' Q w.heap.size e size n c news v') : Sp Q w u' := by
  rcases ha.2 with ⟨b, cs, hg, hq, hfit, rfl⟩ | hb
  · refine ⟨h.os, h.tape, h.output, by have := h.size; simpa [World.setRow] using this, fun q hl hn => ?_⟩
    have hne : q ≠ b := fun e => by
      subst e
      rcases hq with h | h
      · exact hn h
      · omega
    rw [setRow_other u b q _ hne]
    exact h.block q hl hn
  · exact ⟨hb.os.trans h.os, hb.tape.trans h.tape, hb.output.trans h.output, Nat.le_trans h.size hb.size, fun q hl hn => (hb.block q (Nat.lt_of_lt_of_le hl h.size)).trans (h.block q hl hn)⟩
theorem Sp.on {Q : Nat → Prop} {w u u' : World} (h : Sp Q w u) (hb : Below u.heap.size u u') : Sp Q w u' := ⟨hb.os.trans h.os, hb.tape.trans h.tape, hb.output.trans h.output, Nat.le_trans h.size hb.size, fun q hl hn => (hb.block q (Nat.lt_of_lt_of_le hl h.size)).trans (h.block q hl hn)⟩

theorem Row.set {w : World} {Q : Nat → Prop} {lo : Nat} {e' : TypeId} {s : Nat} {v : Value} {n : Nat} (h : Row w Q lo e' s v n) {b o : Nat} {x : Value} {cs : Array Value} {e : TypeId} (hb : w.heap[b]? = some (.cells cs e (0, 0))) : Row (w.setCell ⟨b, o, none⟩ x) Q lo e' s v n := by
  rcases h with h | ⟨b', cap, cs', h1, h2, h3, h4, h5⟩
  · exact Or.inl h
  · by_cases hbb : b' = b
    · subst hbb
      rw [hb] at h3
      cases h3
      exact Or.inr ⟨b', cap, _, h1, h2, heap_setCell_same w b' o _ _ x hb, by simpa using h4, h5⟩
    · exact Or.inr ⟨b', cap, cs', h1, h2, (heap_setCell_other _ _ _ _ hbb).trans h3, h4, h5⟩

/-- what spoil keeps: its module, two rows -/
structure Sl (Q : Nat → Prop) (w u : World) (g : Nat) (A : Array Value) (f : Value) (nf : Nat) (x : Value) (nx : Nat) : Prop where
  sp : Sp Q w u
  box : u.heap[g]? = some (.cells A 28 (0, 0))
  rf : Row u Q w.heap.size 53 4 f nf
  rx : Row u Q w.heap.size 55 2 x nx

theorem Sl.set {Q : Nat → Prop} {w u : World} {g : Nat} {A : Array Value} {f x : Value} {nf nx : Nat} (h : Sl Q w u g A f nf x nx) {b o : Nat} {y : Value} {cs : Array Value} {e : TypeId} (hb : u.heap[b]? = some (.cells cs e (0, 0))) (hq : Q b ∨ w.heap.size ≤ b) (he : e ≠ 28) : Sl Q w (u.setCell ⟨b, o, none⟩ y) g A f nf x nx ∧ (u.setCell ⟨b, o, none⟩ y).heap[b]? = some (.cells (cs.setIfInBounds o y) e (0, 0)) := by
  have hne : g ≠ b := fun e0 => by
    have h1 := h.box
    rw [e0, hb] at h1
    cases h1
    exact he rfl
  exact ⟨⟨h.sp.set hq, (heap_setCell_other _ _ _ _ hne).trans h.box, h.rf.set hb, h.rx.set hb⟩, heap_setCell_same u b o _ _ y hb⟩

theorem Sl.four {Q : Nat → Prop} {w u : World} {g : Nat} {A : Array Value} {f x : Value} {nf nx : Nat} (h : Sl Q w u g A f nf x nx) {b o : Nat} {y0 y1 y2 y3 : Value} {cs : Array Value} {e : TypeId} (hb : u.heap[b]? = some (.cells cs e (0, 0))) (hq : Q b ∨ w.heap.size ≤ b) (he : e ≠ 28) : Sl Q w ((((u.setCell ⟨b, o, none⟩ y0).setCell ⟨b, o + 1, none⟩ y1).setCell ⟨b, o + 2, none⟩ y2).setCell ⟨b, o + 3, none⟩ y3) g A f nf x nx := by
  obtain ⟨h1, b1⟩ := h.set (o := o) (y := y0) hb hq he
  obtain ⟨h2, b2⟩ := h1.set (o := o + 1) (y := y1) b1 hq he
  obtain ⟨h3, b3⟩ := h2.set (o := o + 2) (y := y2) b2 hq he
  exact (h3.set (o := o + 3) (y := y3) b3 hq he).1
theorem Sl.two {Q : Nat → Prop} {w u : World} {g : Nat} {A : Array Value} {f x : Value} {nf nx : Nat} (h : Sl Q w u g A f nf x nx) {b o : Nat} {y0 y1 : Value} {cs : Array Value} {e : TypeId} (hb : u.heap[b]? = some (.cells cs e (0, 0))) (hq : Q b ∨ w.heap.size ≤ b) (he : e ≠ 28) : Sl Q w ((u.setCell ⟨b, o, none⟩ y0).setCell ⟨b, o + 1, none⟩ y1) g A f nf x nx := by
  obtain ⟨h1, b1⟩ := h.set (o := o) (y := y0) hb hq he
  exact (h1.set (o := o + 1) (y := y1) b1 hq he).1
theorem Sl.on {Q : Nat → Prop} {w u u' : World} {g : Nat} {A : Array Value} {f x : Value} {nf nx : Nat} (h : Sl Q w u g A f nf x nx) (hb : Below u.heap.size u u') : Sl Q w u' g A f nf x nx :=
  ⟨h.sp.on hb, (hb.block g (lt_of_row h.box)).trans h.box, h.rf.later hb, h.rx.later hb⟩

/-- rows of other types are not written over -/
theorem Wiped.other {Q : Nat → Prop} {w w' : World} (h : Wiped Q w w') {b : Nat} {cs : Array Value} {e : TypeId} (h1 : e ≠ 51) (h2 : e ≠ 9) (hb : w.heap[b]? = some (.cells cs e (0, 0))) : w'.heap[b]? = some (.cells cs e (0, 0)) := by
  rcases h.block b (Array.getElem?_eq_some_iff.1 hb).1 with e0 | ⟨_, ⟨ds, ds', g1, _⟩ | ⟨ds, ds', g1, _⟩⟩
  · exact e0.trans hb
  · rw [hb] at g1; cases g1; exact absurd rfl h1
  · rw [hb] at g1; cases g1; exact absurd rfl h2

theorem Row.at' {w : World} {Q : Nat → Prop} {lo : Nat} {e : TypeId} {s : Nat} {v : Value} {n : Nat} (h : Row w Q lo e s v n) (hn : 0 < n) : ∃ b cap cs, v = .slice (some ⟨b, 0, none⟩) n cap ∧ (Q b ∨ lo ≤ b) ∧ w.heap[b]? = some (.cells cs e (0, 0)) ∧ cs.size = cap * s ∧ n ≤ cap ∧ cap ≤ maxLen := by
  rcases h with ⟨_, h0⟩ | h
  · omega
  · exact h

set_option maxRecDepth 100000 in
set_option maxHeartbeats 4000000 in
theorem spoilM_any (r : Nat) (Q : Nat → Prop) (w : World) (a1 a2 a3 : Option Addr) (n1 c1 n2 c2 n3 c3 : Nat) (hc : Ty w Q r (.agg #[.int .i64 4, .int .i64 0, .string ⟨#[]⟩, .slice a1 n1 c1, .slice none 0 0])) (hF : Row w Q w.heap.size 53 4 (.slice a2 n2 c2) n2) (hX : Row w Q w.heap.size 55 2 (.slice a3 n3 c3) n3) (hQ : ∀ b, Q b → b < w.heap.size) (b2 : n2 ≤ 1000000) (b3 : n3 ≤ 1000000) :
    Calls Try.prog 10 #[.agg #[.slice a1 n1 c1, .slice a2 n2 c2, .slice a3 n3 c3]] w fun e w' => e = .returned (.tuple #[]) ∧ Sp Q w w' := by
  have BX := BoxN.mk' w #[.slice a1 n1 c1, .slice a2 n2 c2, .slice a3 n3 c3] 28
  obtain ⟨w1, hw1⟩ : ∃ w1, w.alloc (.cells #[.slice a1 n1 c1, .slice a2 n2 c2, .slice a3 n3 c3] 28) = w1 := ⟨_, rfl⟩
  rw [hw1] at BX
  obtain ⟨g, hg⟩ : ∃ g, w.heap.size = g := ⟨_, rfl⟩
  have W01 : Wiped Q w w1 := Wiped.of_below BX.below
  have zb := BX.size
  have hb1 : n1 ≤ 1000000 := by
    obtain ⟨hl, _, _⟩ := hc.parts
    rcases hl with ⟨_, rfl, _⟩ | ⟨_, _, _, _, _, _, _, _, h, _⟩
    · omega
    · exact h
  have HT : Hid (∀ u, Wiped Q w1 u → Sl Q w u g #[.slice a1 n1 c1, .slice a2 n2 c2, .slice a3 n3 c3] (.slice a2 n2 c2) n2 (.slice a3 n3 c3) n3 ∧ (TyL u Q (Ty u Q (r - 1)) a1 n1 c1 ∧ (r = 0 → n1 = 0)) ∧ Wiped Q w u) := hide (fun u hu => by
    have h2 := W01.trans hu
    have h3 := (Ty.wiped h2 _ _ hc).parts
    refine ⟨⟨Sp.of_wiped h2, ?_, hF.other (fun b cs hb => h2.other (by decide) (by decide) hb), hX.other (fun b cs hb => h2.other (by decide) (by decide) hb)⟩, ⟨h3.1, h3.2.2⟩, h2⟩
    exact hu.other (by decide) (by decide) (by rw [← hg]; exact BX.row))
  have HQ := hide (And.intro hQ hg)
  have H1 : Hid (Wiped Q w1 w1) := hide (Wiped.refl _ _)
  clear BX W01 hc hQ hF hX zb
  go_enter Try.func10, Try.ntmps10
  go_wp2_with fail
  go_loopw [2] (fun x wr => ∃ i : Nat, i ≤ n1 ∧ x = .int .i64 i ∧ Hid (Wiped Q w1 wr)) (fun x _ => n1 - (intOf x).toNat)
  case atStart => exact ⟨0, by omega, rfl, H1⟩
  case round =>
    clear H1
    obtain ⟨i, hi, rfl, HW⟩ := hrel
    obtain ⟨hsl, ⟨hl, h0⟩, hw⟩ := unhide HT wr (unhide HW)
    obtain ⟨m0, m1, m2⟩ := row_cell3 hsl.box
    by_cases hlt : i < n1
    · rcases hl with ⟨_, hz, _⟩ | ⟨b, cs, rfl, hqb, hbb, hsz, hlc, hcm, _, hel⟩
      · omega
      obtain ⟨y0, y1, y2, y3, y4, ⟨q0, q1, q2, q3, q4⟩, hty⟩ := hel i hlt
      obtain ⟨k', n', t', al', ll', cl', ak', m', ck', hs⟩ := hty.shape
      simp only [Value.agg.injEq, Array.mk.injEq, List.cons.injEq, and_true] at hs
      obtain ⟨rfl, rfl, rfl, rfl, rfl⟩ := hs
      have e0 : wr.cell? ⟨b, i * 5, none⟩ = some (.int .i64 k') := by rw [cell_of_row wr b (i * 5) cs _ (0, 0) hbb]; exact q0
      have e1 : wr.cell? ⟨b, i * 5 + 1, none⟩ = some (.int .i64 n') := by rw [cell_of_row wr b (i * 5 + 1) cs _ (0, 0) hbb]; exact q1
      have e2 : wr.cell? ⟨b, i * 5 + 2, none⟩ = some (.string t') := by rw [cell_of_row wr b (i * 5 + 2) cs _ (0, 0) hbb]; exact q2
      have e3 : wr.cell? ⟨b, i * 5 + 3, none⟩ = some (.slice al' ll' cl') := by rw [cell_of_row wr b (i * 5 + 3) cs _ (0, 0) hbb]; exact q3
      have e4 : wr.cell? ⟨b, i * 5 + 4, none⟩ = some (.slice ak' m' ck') := by rw [cell_of_row wr b (i * 5 + 4) cs _ (0, 0) hbb]; exact q4
      have CI := hide (spoil_any (r - 1) _ Q wr hty (fun z hz => Nat.lt_of_lt_of_le ((unhide HQ).1 z hz) hw.size))
      have i1 : (i : Int) < (n1 : Int) := by omega
      have i0 : (0 : Int) ≤ (i : Int) := by omega
      have hcl : c1 ≤ 9223372036854775807 := by unfold maxLen at hcm; omega
      clear hel h0 hw q0 q1 q2 q3 q4 hty hbb hsz hsl
      go_wp2_with fail
      refine (unhide CI).mono ?_
      rintro e w5 ⟨rfl, h5⟩
      have HW5 := hide ((unhide HW).trans h5)
      clear h5 CI m0 m1 m2 e0 e1 e2 e3 e4
      go_upto_region 5 with fail
      obtain ⟨hsl, ⟨hl, h0⟩, hw⟩ := unhide HT w5 (unhide HW5)
      obtain ⟨m0, m1, m2⟩ := row_cell3 hsl.box
      rcases hl with ⟨ha, _, _⟩ | ⟨b', cs, hb', hqb, hbb, hsz, hlc, hcm, _, hel⟩
      · cases ha
      cases hb'
      obtain ⟨y0, y1, y2, y3, y4, ⟨q0, q1, q2, q3, q4⟩, hty⟩ := hel i hlt
      have e0 : w5.cell? ⟨b, i * 5, none⟩ = some y0 := by rw [cell_of_row w5 b (i * 5) cs _ (0, 0) hbb]; exact q0
      have e1 : w5.cell? ⟨b, i * 5 + 1, none⟩ = some y1 := by rw [cell_of_row w5 b (i * 5 + 1) cs _ (0, 0) hbb]; exact q1
      have e2 : w5.cell? ⟨b, i * 5 + 2, none⟩ = some y2 := by rw [cell_of_row w5 b (i * 5 + 2) cs _ (0, 0) hbb]; exact q2
      have e3 : w5.cell? ⟨b, i * 5 + 3, none⟩ = some y3 := by rw [cell_of_row w5 b (i * 5 + 3) cs _ (0, 0) hbb]; exact q3
      have e4 : w5.cell? ⟨b, i * 5 + 4, none⟩ = some y4 := by rw [cell_of_row w5 b (i * 5 + 4) cs _ (0, 0) hbb]; exact q4
      have f0 := frozen_of_row w5 b (i * 5) _ _ hbb
      have f1 := frozen_of_row w5 b (i * 5 + 1) _ _ hbb
      have f2 := frozen_of_row w5 b (i * 5 + 2) _ _ hbb
      have f3 := frozen_of_row w5 b (i * 5 + 3) _ _ hbb
      have f4 := frozen_of_row w5 b (i * 5 + 4) _ _ hbb
      have HW7 := hide (Wiped.leaf (i := i) 9 0 ⟨#[]⟩ (unhide HW5) hbb (Or.inl hqb) (by omega))
      clear hel h0 hw q0 q1 q2 q3 q4 hty hbb hsz hsl
      go_wp2_with fail
      go_roundw
      case rel => exact ⟨i + 1, by omega, by go_num, HW7⟩
      case measure => simp [intOf]; omega
    · have i1 : ¬ (i : Int) < (n1 : Int) := by omega
      have HS := hide hsl
      clear hl h0 hw hsl
      go_wp2_with fail
      clear m0 m1 m2
      go_loopw [3] (fun x wr => ∃ i : Nat, i ≤ n2 ∧ x = .int .i64 i ∧ Hid (Sl Q w wr g #[.slice a1 n1 c1, .slice a2 n2 c2, .slice a3 n3 c3] (.slice a2 n2 c2) n2 (.slice a3 n3 c3) n3)) (fun x _ => n2 - (intOf x).toNat)
      case atStart => exact ⟨0, by omega, rfl, HS⟩
      case round =>
        clear HS
        obtain ⟨i2, hi2, rfl, HS2⟩ := hrel
        obtain ⟨m0, m1, m2⟩ := row_cell3 (unhide HS2).box
        by_cases hlt2 : i2 < n2
        · obtain ⟨b, cap, cs, hv, hqb, hbb, hsz, hlc, hcm⟩ := (unhide HS2).rf.at' (by omega)
          simp only [Value.slice.injEq, true_and] at hv
          obtain ⟨rfl, rfl⟩ := hv
          have hfit : i2 * 4 + 4 ≤ cs.size := by omega
          obtain ⟨y0, q0⟩ : ∃ z, cs[i2 * 4]? = some z := ⟨_, Array.getElem?_eq_getElem (by omega)⟩
          obtain ⟨y1, q1⟩ : ∃ z, cs[i2 * 4 + 1]? = some z := ⟨_, Array.getElem?_eq_getElem (by omega)⟩
          obtain ⟨y2, q2⟩ : ∃ z, cs[i2 * 4 + 2]? = some z := ⟨_, Array.getElem?_eq_getElem (by omega)⟩
          obtain ⟨y3, q3⟩ : ∃ z, cs[i2 * 4 + 3]? = some z := ⟨_, Array.getElem?_eq_getElem (by omega)⟩
          have e0 : wr.cell? ⟨b, i2 * 4, none⟩ = some y0 := by rw [cell_of_row wr b (i2 * 4) cs _ (0, 0) hbb]; exact q0
          have e1 : wr.cell? ⟨b, i2 * 4 + 1, none⟩ = some y1 := by rw [cell_of_row wr b (i2 * 4 + 1) cs _ (0, 0) hbb]; exact q1
          have e2 : wr.cell? ⟨b, i2 * 4 + 2, none⟩ = some y2 := by rw [cell_of_row wr b (i2 * 4 + 2) cs _ (0, 0) hbb]; exact q2
          have e3 : wr.cell? ⟨b, i2 * 4 + 3, none⟩ = some y3 := by rw [cell_of_row wr b (i2 * 4 + 3) cs _ (0, 0) hbb]; exact q3
          have f0 := frozen_of_row wr b (i2 * 4) _ _ hbb
          have f1 := frozen_of_row wr b (i2 * 4 + 1) _ _ hbb
          have f2 := frozen_of_row wr b (i2 * 4 + 2) _ _ hbb
          have f3 := frozen_of_row wr b (i2 * 4 + 3) _ _ hbb
          have HS3 := hide ((unhide HS2).four (o := i2 * 4) (y0 := .int .i64 9) (y1 := .int .i64 0) (y2 := .int .i64 0) (y3 := .string ⟨#[]⟩) hbb hqb (by decide))
          have ia2 : (i2 : Int) < (n2 : Int) := by omega
          have ib2 : (0 : Int) ≤ (i2 : Int) := by omega
          have hcl : c2 ≤ 9223372036854775807 := by unfold maxLen at hcm; omega
          clear q0 q1 q2 q3 hbb hsz
          go_wp2_with fail
          go_roundw
          case rel => exact ⟨i2 + 1, by omega, by go_num, HS3⟩
          case measure => simp [intOf]; omega
        · have ia2 : ¬ (i2 : Int) < (n2 : Int) := by omega
          go_wp2_with fail
          clear m0 m1 m2
          go_loopw [4] (fun x wr => ∃ i : Nat, i ≤ n3 ∧ x = .int .i64 i ∧ Hid (Sl Q w wr g #[.slice a1 n1 c1, .slice a2 n2 c2, .slice a3 n3 c3] (.slice a2 n2 c2) n2 (.slice a3 n3 c3) n3)) (fun x _ => n3 - (intOf x).toNat)
          case atStart => exact ⟨0, by omega, rfl, HS2⟩
          case round =>
            clear HS2
            obtain ⟨i3, hi3, rfl, HS3⟩ := hrel
            obtain ⟨m0, m1, m2⟩ := row_cell3 (unhide HS3).box
            by_cases hlt3 : i3 < n3
            · obtain ⟨b, cap, cs, hv, hqb, hbb, hsz, hlc, hcm⟩ := (unhide HS3).rx.at' (by omega)
              simp only [Value.slice.injEq, true_and] at hv
              obtain ⟨rfl, rfl⟩ := hv
              have hfit : i3 * 2 + 2 ≤ cs.size := by omega
              obtain ⟨y0, q0⟩ : ∃ z, cs[i3 * 2]? = some z := ⟨_, Array.getElem?_eq_getElem (by omega)⟩
              obtain ⟨y1, q1⟩ : ∃ z, cs[i3 * 2 + 1]? = some z := ⟨_, Array.getElem?_eq_getElem (by omega)⟩
              have e0 : wr.cell? ⟨b, i3 * 2, none⟩ = some y0 := by rw [cell_of_row wr b (i3 * 2) cs _ (0, 0) hbb]; exact q0
              have e1 : wr.cell? ⟨b, i3 * 2 + 1, none⟩ = some y1 := by rw [cell_of_row wr b (i3 * 2 + 1) cs _ (0, 0) hbb]; exact q1
              have f0 := frozen_of_row wr b (i3 * 2) _ _ hbb
              have f1 := frozen_of_row wr b (i3 * 2 + 1) _ _ hbb
              have HS4 := hide ((unhide HS3).two (o := i3 * 2) (y0 := .string ⟨#[]⟩) (y1 := .int .i64 9) hbb hqb (by decide))
              have ia3 : (i3 : Int) < (n3 : Int) := by omega
              have ib3 : (0 : Int) ≤ (i3 : Int) := by omega
              have hcl : c3 ≤ 9223372036854775807 := by unfold maxLen at hcm; omega
              clear q0 q1 hbb hsz
              go_wp2_with fail
              go_roundw
              case rel => exact ⟨i3 + 1, by omega, by go_num, HS4⟩
              case measure => simp [intOf]; omega
            · have ia3 : ¬ (i3 : Int) < (n3 : Int) := by omega
              go_upto_region 14 with fail
              have HB1 : Hid (Below wr.heap.size wr (wr.alloc (.cells #[.int .i64 9, .int .i64 0, .int .i64 0, .string ⟨#[]⟩, .int .i64 9, .int .i64 0, .int .i64 0, .string ⟨#[]⟩] 53))) := hide ((Below.refl _ _).alloc (Nat.le_refl _) _)
              have HNF : Hid (∀ j u, [.int .i64 9, .int .i64 0, .int .i64 0, .string ⟨#[]⟩, .int .i64 9, .int .i64 0, .int .i64 0, .string ⟨#[]⟩][j]? = some u → (wr.alloc (.cells #[.int .i64 9, .int .i64 0, .int .i64 0, .string ⟨#[]⟩, .int .i64 9, .int .i64 0, .int .i64 0, .string ⟨#[]⟩] 53)).cell? ((⟨wr.heap.size, 0, none⟩ : Addr).add j) = some u) := hide (fun j u hu => World.news_of_block (heap_alloc_new wr (.cells #[.int .i64 9, .int .i64 0, .int .i64 0, .string ⟨#[]⟩, .int .i64 9, .int .i64 0, .int .i64 0, .string ⟨#[]⟩] 53)) j u (by simpa using hu))
              obtain ⟨iF, hiF⟩ := info_parts infoFs
              obtain ⟨iX, hiX⟩ := info_parts infoXs
              have HIF := hide hiF
              have HIX := hide hiX
              have tokA : True := trivial
              clear hiF hiX
              go_upto_region 15 with (first
                | (at_builtin; have _t := tokA; refine wpl_rowN rfl (.tmp 50) (.tmp 53) 25 53 iF _ 4 40 rfl Try.underlying25 (unhide HIF).1 (unhide HIF).2.1 (unhide HIF).2.2.1 (unhide HIF).2.2.2 rfl (by omega) (by omega) Q w.heap.size n2 2 (.slice a2 n2 c2) rfl ((unhide HS3).rf.later (unhide HB1)) (by omega) ⟨wr.heap.size, 0, none⟩ 2 [.int .i64 9, .int .i64 0, .int .i64 0, .string ⟨#[]⟩, .int .i64 9, .int .i64 0, .int .i64 0, .string ⟨#[]⟩] rfl rfl (unhide HNF) (by simp [Value.oneCell']) (by omega) (by have := (unhide HS3).sp.size; have := (unhide HB1).size; omega) ?_; intro v5 w5 HA; clear tokA))
              have HS5 : Hid (Sl Q w w5 g #[.slice a1 n1 c1, .slice a2 n2 c2, .slice a3 n3 c3] v5 (n2 + 2) (.slice a3 n3 c3) n3) := hide ⟨((unhide HS3).sp.on (unhide HB1)).aft (unhide HA), (unhide HA).other (by decide) (((unhide HB1).block g (lt_of_row (unhide HS3).box)).trans (unhide HS3).box), (unhide HA).1, ((unhide HS3).rx.later (unhide HB1)).other (fun b cs hb => (unhide HA).other (by decide) hb)⟩
              clear HA HB1 HNF HS3 m0 m1 m2
              obtain ⟨m0, m1, m2⟩ := row_cell3 (unhide HS5).box
              have HB2 : Hid (Below w5.heap.size w5 (w5.alloc (.cells #[.string ⟨#[]⟩, .int .i64 9, .string ⟨#[]⟩, .int .i64 9] 55))) := hide ((Below.refl _ _).alloc (Nat.le_refl _) _)
              have HNX : Hid (∀ j u, [.string ⟨#[]⟩, .int .i64 9, .string ⟨#[]⟩, .int .i64 9][j]? = some u → (w5.alloc (.cells #[.string ⟨#[]⟩, .int .i64 9, .string ⟨#[]⟩, .int .i64 9] 55)).cell? ((⟨w5.heap.size, 0, none⟩ : Addr).add j) = some u) := hide (fun j u hu => World.news_of_block (heap_alloc_new w5 (.cells #[.string ⟨#[]⟩, .int .i64 9, .string ⟨#[]⟩, .int .i64 9] 55)) j u (by simpa using hu))
              have tokB : True := trivial
              go_upto_region 16 with (first
                | (at_builtin; have _t := tokB; refine wpl_rowN rfl (.tmp 56) (.tmp 59) 26 55 iX _ 2 24 rfl Try.underlying26 (unhide HIX).1 (unhide HIX).2.1 (unhide HIX).2.2.1 (unhide HIX).2.2.2 rfl (by omega) (by omega) Q w.heap.size n3 2 (.slice a3 n3 c3) rfl ((unhide HS5).rx.later (unhide HB2)) (by omega) ⟨w5.heap.size, 0, none⟩ 2 [.string ⟨#[]⟩, .int .i64 9, .string ⟨#[]⟩, .int .i64 9] rfl rfl (unhide HNX) (by simp [Value.oneCell']) (by omega) (by have := (unhide HS5).sp.size; have := (unhide HB2).size; omega) ?_; intro v6 w6 HA; clear tokB))
              have HS6 : Hid (Sl Q w w6 g #[.slice a1 n1 c1, .slice a2 n2 c2, .slice a3 n3 c3] v5 (n2 + 2) v6 (n3 + 2)) := hide ⟨((unhide HS5).sp.on (unhide HB2)).aft (unhide HA), (unhide HA).other (by decide) (((unhide HB2).block g (lt_of_row (unhide HS5).box)).trans (unhide HS5).box), ((unhide HS5).rf.later (unhide HB2)).other (fun b cs hb => (unhide HA).other (by decide) hb), (unhide HA).1⟩
              clear HA HB2 HNX HS5 m0 m1 m2
              obtain ⟨N2, hN2⟩ : ∃ N, n2 + 2 = N := ⟨_, rfl⟩
              obtain ⟨N3, hN3⟩ : ∃ N, n3 + 2 = N := ⟨_, rfl⟩
              rw [hN2, hN3] at HS6
              obtain ⟨bf, capf, cf, rfl, hqf, hbf, hsf, hnf, hcf⟩ := (unhide HS6).rf.at' (by omega)
              obtain ⟨y0, q0⟩ : ∃ z, cf[0]? = some z := ⟨_, Array.getElem?_eq_getElem (by omega)⟩
              obtain ⟨y1, q1⟩ : ∃ z, cf[1]? = some z := ⟨_, Array.getElem?_eq_getElem (by omega)⟩
              obtain ⟨y2, q2⟩ : ∃ z, cf[2]? = some z := ⟨_, Array.getElem?_eq_getElem (by omega)⟩
              obtain ⟨y3, q3⟩ : ∃ z, cf[3]? = some z := ⟨_, Array.getElem?_eq_getElem (by omega)⟩
              have e0 : w6.cell? ⟨bf, 0, none⟩ = some y0 := by rw [cell_of_row w6 bf 0 cf _ (0, 0) hbf]; exact q0
              have e1 : w6.cell? ⟨bf, 1, none⟩ = some y1 := by rw [cell_of_row w6 bf 1 cf _ (0, 0) hbf]; exact q1
              have e2 : w6.cell? ⟨bf, 2, none⟩ = some y2 := by rw [cell_of_row w6 bf 2 cf _ (0, 0) hbf]; exact q2
              have e3 : w6.cell? ⟨bf, 3, none⟩ = some y3 := by rw [cell_of_row w6 bf 3 cf _ (0, 0) hbf]; exact q3
              have f0 := frozen_of_row w6 bf 0 _ _ hbf
              have f1 := frozen_of_row w6 bf 1 _ _ hbf
              have f2 := frozen_of_row w6 bf 2 _ _ hbf
              have f3 := frozen_of_row w6 bf 3 _ _ hbf
              have hS7 := (unhide HS6).four (o := 0) (y0 := .int .i64 0) (y1 := .int .i64 0) (y2 := .int .i64 0) (y3 := .string ⟨#[]⟩) hbf hqf (by decide)
              simp only [Nat.zero_add] at hS7
              have HS7 := hide hS7
              have k1 : (0 : Int) < (N2 : Int) := by omega
              have k2 : (0 : Int) < (N3 : Int) := by omega
              have hcl : capf ≤ 9223372036854775807 := by unfold maxLen at hcf; omega
              have HN3 : Hid (0 < N3) := hide (by omega)
              clear q0 q1 q2 q3 hbf hsf hS7 hN2 hN3 hcf hqf
              go_upto_region 17 with fail
              obtain ⟨w7, hw7⟩ : ∃ w7, ((((w6.setCell ⟨bf, 0, none⟩ (.int .i64 0)).setCell ⟨bf, 1, none⟩ (.int .i64 0)).setCell ⟨bf, 2, none⟩ (.int .i64 0)).setCell ⟨bf, 3, none⟩ (.string ⟨#[]⟩)) = w7 := ⟨_, rfl⟩
              rw [hw7] at HS7 ⊢
              clear hw7 e0 e1 e2 e3 f0 f1 f2 f3 HS6
              obtain ⟨bx, capx, cx, rfl, hqx, hbx, hsx, hnx, hcx⟩ := (unhide HS7).rx.at' (unhide HN3)
              obtain ⟨y0, q0⟩ : ∃ z, cx[0]? = some z := ⟨_, Array.getElem?_eq_getElem (by have := unhide HN3; omega)⟩
              obtain ⟨y1, q1⟩ : ∃ z, cx[1]? = some z := ⟨_, Array.getElem?_eq_getElem (by have := unhide HN3; omega)⟩
              have e0 : w7.cell? ⟨bx, 0, none⟩ = some y0 := by rw [cell_of_row w7 bx 0 cx _ (0, 0) hbx]; exact q0
              have e1 : w7.cell? ⟨bx, 1, none⟩ = some y1 := by rw [cell_of_row w7 bx 1 cx _ (0, 0) hbx]; exact q1
              have f0 := frozen_of_row w7 bx 0 _ _ hbx
              have f1 := frozen_of_row w7 bx 1 _ _ hbx
              have hS8 := (unhide HS7).two (o := 0) (y0 := .string ⟨#[]⟩) (y1 := .int .i64 0) hbx hqx (by decide)
              simp only [Nat.zero_add] at hS8
              have HF := hide hS8.sp
              have hcl2 : capx ≤ 9223372036854775807 := by unfold maxLen at hcx; omega
              clear q0 q1 hbx hsx hS8 hcx hqx
              go_wp2_with fail
              go_end0
              exact ⟨rfl, unhide HF⟩
end Go.Proofs.Ytfdnhpmldnmncaa
