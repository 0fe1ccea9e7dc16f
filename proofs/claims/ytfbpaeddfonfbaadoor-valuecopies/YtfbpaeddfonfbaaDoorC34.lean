/-
  What ValueCopies keeps while it walks; Lent, Still, Copy each with one contract; conditions: the form's own reach.
-/
import Derived.Test.YtfbpaeddfonfbaaDoorC21
import Derived.Test.YtfbpaeddfonfbaaDoorC24
import Derived.Test.YtfbpaeddfonfbaaDoorC32
import Derived.Test.YtfbpaeddfonfbaaDoorC19
import Derived.Test.YtfbpaeddfonfbaaDoorC33
namespace Go.Proofs.YtfbpaeddfonfbaaDoor
open Go.RowKit
set_option linter.unusedVariables false
set_option linter.unusedSimpArgs false

def zeroVl : Vl := .mk 0 0 ⟨#[]⟩ [] []

theorem zero_isQ (w : World) (P : Nat → Prop) : IsQ w P zeroVl (.agg #[.int .i64 0, .int .i64 0, .string ⟨#[]⟩, .slice none 0 0, .slice none 0 0]) :=
  ⟨IsP.of (V := fun _ => []) ⟨by omega, by omega, by decide, fun _ => ⟨rfl, rfl⟩, fun _ => ⟨rfl, rfl⟩, Nat.le_refl _, Nat.le_refl _, by decide, by decide, by decide, fun a ha => by (cases ha), fun i hi => by (simp at hi), fun a ha => by (cases ha), fun t ht => by (cases ht)⟩ (fun i y hy => by simp at hy), Ty.leaf ⟨0, 0, ⟨#[]⟩, rfl⟩ _⟩

theorem shape9 {w : World} {P : Nat → Prop} {v : Vl} {x : Value} (h : IsP w P v x) : ∃ p0 p1 p2 p3 p4 p5 p6 p7 p8, x = .agg #[.int .i64 p0, .int .i64 p1, .string p2, .slice p3 p4 p5, .slice p6 p7 p8] := by
  obtain ⟨k, n, s, l, ks, al, ak, cl, ck, _, e⟩ := h.shape
  exact ⟨_, _, _, _, _, _, _, _, _, e⟩

/-- a value that was lent; one that is not right, as it is -/
def LentOk (u : World) (lo hi : Nat) (v : Vl) (x y : Value) : Prop := (rightB v = true ∧ Ln u (fun b => lo ≤ b ∧ b < hi) v y) ∨ (rightB v = false ∧ y = x)

theorem LentOk.to {u u1 : World} {lo hi : Nat} {v : Vl} {x y : Value} (h : LentOk u lo hi v x y) (hu : ∀ b, lo ≤ b → b < hi → u1.heap[b]? = u.heap[b]?) : LentOk u1 lo hi v x y := by
  rcases h with ⟨h1, h2⟩ | h
  · exact Or.inl ⟨h1, h2.to (fun b hb => hu b hb.1 hb.2) (fun _ h => h)⟩
  · exact Or.inr h

theorem LentOk.isV {u : World} {lo hi g B : Nat} {v : Vl} {x y : Value} (h : LentOk u lo hi v x y) (hx : IsV u g v x) (h1 : hi ≤ B) (h2 : g ≤ B) : IsV u B v y := by
  rcases h with ⟨_, h⟩ | ⟨_, rfl⟩
  · exact h.isV hx (fun b hb => by omega)
  · exact hx.lift h2

theorem lent_both (v : Vl) (x : Value) (B : Nat) (w : World) (hv : IsV w B v x) (hBs : B ≤ w.heap.size) :
    Calls Tryd.prog 6 #[x, .int .i64 0] w fun e w' => ∃ x', e = .returned x' ∧ LentOk w' w.heap.size w'.heap.size v x x' ∧ Below w.heap.size w w' := by
  cases hR : rightB v with
  | true =>
    refine (lent_yes v x B w hR hv hBs).mono ?_
    rintro e w' ⟨x', rfl, h, b⟩
    exact ⟨x', rfl, Or.inl ⟨hR, h⟩, b⟩
  | false =>
    refine (lent_no v x B w hR hv hBs).mono ?_
    rintro e w' ⟨rfl, b⟩
    exact ⟨x, rfl, Or.inr ⟨hR, rfl⟩, b⟩

theorem still_both (v : Vl) (x y : Value) (lo hi g : Nat) (w : World) (h : LentOk w lo hi v x y) (hv : IsV w g v x) (hg : g ≤ w.heap.size) (hh : hi ≤ w.heap.size) :
    Calls Tryd.prog 10 #[y, x, .int .i64 0] w fun e w' => e = .returned (.bool true) ∧ Below w.heap.size w w' := by
  rcases h with ⟨hR, h⟩ | ⟨hR, rfl⟩
  · exact still_any (dep v) v y x g 0 _ w (Nat.le_refl _) (by have := dep_of_right hR; omega) (fun _ => hR) h (fun b hb => by omega) hv hg
  · exact still_no v y y g w hR (shape9 hv) hv hg

/-- what Copy gives -/
def cpV (v : Vl) : Vl := if rightB v = true then v else zeroVl

theorem copyQ_any (v : Vl) (vv : Value) (B : Nat) (w : World) (hv : IsV w B v vv) (hBs : B ≤ w.heap.size) :
    Calls Tryd.prog 7 #[vv] w fun e w' => ∃ x', e = .returned x' ∧ Below w.heap.size w w' ∧ IsQ w' (fun b => w.heap.size ≤ b ∧ b < w'.heap.size) (cpV v) x' := by
  refine (copy_any v vv B w hv hBs).mono ?_
  rintro e w' ⟨x', rfl, b, q1, q2⟩
  refine ⟨x', rfl, b, ?_⟩
  unfold cpV
  cases h : rightB v with
  | true => exact q1 h
  | false => rw [q2 h]; exact zero_isQ _ _

theorem copyDQ_any (v : Vl) (vv : Value) (B : Nat) (w : World) (hv : IsV w B v vv) (hBs : B ≤ w.heap.size) :
    Calls Tryd.prog 13 #[vv] w fun e w' => ∃ x', e = .returned x' ∧ Below w.heap.size w w' ∧ IsV w' w'.heap.size (cpV v) x' := by
  refine (copyD_any v vv B w hv hBs).mono ?_
  rintro e w' ⟨x', rfl, b, q1, q2⟩
  refine ⟨x', rfl, b, ?_⟩
  unfold cpV
  cases h : rightB v with
  | true => exact (q1 h).isV (fun b hb => hb.2)
  | false => rw [q2 h]; exact (zero_isQ w' (fun b => b < w'.heap.size)).1

/-- what is kept: boxes, the values that came in, the document's answers, what was lent, what came out -/
structure Cs (w u : World) (g : Nat) (L : List (Nat × Array Value)) (VS DS : List (Vl × Value)) (LS : List (Nat × Nat × Vl × Value × Value)) (QS : List (Nat × Nat × Vl × Value)) : Prop where
  below : Below g w u
  low : g ≤ u.heap.size
  box : ∀ p ∈ L, u.heap[p.1]? = some (.cells p.2 25 (0, 0))
  val : ∀ q ∈ VS, IsV u g q.1 q.2
  doc : ∀ q ∈ DS, IsV u u.heap.size q.1 q.2
  lent : ∀ q ∈ LS, LentOk u q.1 q.2.1 q.2.2.1 q.2.2.2.1 q.2.2.2.2 ∧ q.2.1 ≤ u.heap.size
  own : ∀ q ∈ QS, IsQ u (fun b => q.1 ≤ b ∧ b < q.2.1) q.2.2.1 q.2.2.2 ∧ q.2.1 ≤ u.heap.size

section
variable {w u u1 : World} {g : Nat} {L : List (Nat × Array Value)} {VS DS : List (Vl × Value)} {LS : List (Nat × Nat × Vl × Value × Value)} {QS : List (Nat × Nat × Vl × Value)}

theorem Cs.later (h : Cs w u g L VS DS LS QS) (hu : Below u.heap.size u u1) : Cs w u1 g L VS DS LS QS :=
  ⟨h.below.trans (hu.mono h.low), Nat.le_trans h.low hu.size, fun p hp => (hu.block p.1 (lt_of_row (h.box p hp))).trans (h.box p hp), fun q hq => (h.val q hq).mono (hu.mono h.low), fun q hq => IsP.to (fun b hb => hu.block b hb) (fun b hb => Nat.lt_of_lt_of_le hb hu.size) (h.doc q hq), fun q hq => ⟨(h.lent q hq).1.to (fun b _ hb => hu.block b (by have := (h.lent q hq).2; omega)), Nat.le_trans (h.lent q hq).2 hu.size⟩, fun q hq => ⟨(h.own q hq).1.move (fun b hb => hu.block b (by have := (h.own q hq).2; omega)), Nat.le_trans (h.own q hq).2 hu.size⟩⟩

theorem Cs.make (h : Cs w u g L VS DS LS QS) (cs : Array Value) : Cs w (u.alloc (.cells cs 25)) g ((u.heap.size, cs) :: L) VS DS LS QS := by
  have h1 := h.later (u1 := u.alloc (.cells cs 25)) ((Below.refl _ _).alloc (Nat.le_refl _) _)
  exact ⟨h1.below, h1.low, fun p hp => by
    rcases List.mem_cons.1 hp with rfl | hp
    · exact heap_alloc_new u _
    · exact h1.box p hp, h1.val, h1.doc, h1.lent, h1.own⟩

theorem Cs.addD (h : Cs w u g L VS DS LS QS) {v : Vl} {x : Value} (hv : IsV u u.heap.size v x) : Cs w u g L VS ((v, x) :: DS) LS QS :=
  ⟨h.below, h.low, h.box, h.val, fun q hq => by
    rcases List.mem_cons.1 hq with rfl | hq
    · exact hv
    · exact h.doc q hq, h.lent, h.own⟩

theorem Cs.addL (h : Cs w u g L VS DS LS QS) {lo hi : Nat} {v : Vl} {x y : Value} (hl : LentOk u lo hi v x y) (hh : hi ≤ u.heap.size) : Cs w u g L VS DS ((lo, hi, v, x, y) :: LS) QS :=
  ⟨h.below, h.low, h.box, h.val, h.doc, fun q hq => by
    rcases List.mem_cons.1 hq with rfl | hq
    · exact ⟨hl, hh⟩
    · exact h.lent q hq, h.own⟩

theorem Cs.addQ (h : Cs w u g L VS DS LS QS) {lo hi : Nat} {v : Vl} {x : Value} (hl : IsQ u (fun b => lo ≤ b ∧ b < hi) v x) (hh : hi ≤ u.heap.size) : Cs w u g L VS DS LS ((lo, hi, v, x) :: QS) :=
  ⟨h.below, h.low, h.box, h.val, h.doc, h.lent, fun q hq => by
    rcases List.mem_cons.1 hq with rfl | hq
    · exact ⟨hl, hh⟩
    · exact h.own q hq⟩

/-- what came out is written over: the rest is as it was -/
theorem Cs.wipe (h : Cs w u g L VS DS LS QS) {QS' : List (Nat × Nat × Vl × Value)} {lo hi : Nat} (hw : Wiped (fun b => lo ≤ b ∧ b < hi) u u1) (h0 : g ≤ lo) (hb : ∀ p ∈ L, ¬ (lo ≤ p.1 ∧ p.1 < hi)) (hl : ∀ q ∈ LS, q.2.1 ≤ lo ∨ hi ≤ q.1) (hs : ∀ q ∈ QS', q ∈ QS ∧ (q.2.1 ≤ lo ∨ hi ≤ q.1)) : Cs w u1 g L VS [] LS QS' :=
  ⟨h.below.trans (hw.below h.low (fun b hb => by omega)), Nat.le_trans h.low hw.size, fun p hp => (hw.far (lt_of_row (h.box p hp)) (hb p hp)).trans (h.box p hp), fun q hq => (h.val q hq).mono (hw.below h.low (fun b hb => by omega)), (fun q hq => by cases hq), fun q hq => ⟨(h.lent q hq).1.to (fun b h1 h2 => hw.far (by have := (h.lent q hq).2; omega) (fun hc => by have := hl q hq; omega)), Nat.le_trans (h.lent q hq).2 hw.size⟩, fun q hq => ⟨(h.own q (hs q hq).1).1.move (fun b hb => hw.far (by have := (h.own q (hs q hq).1).2; omega) (fun hc => by have := (hs q hq).2; omega)), Nat.le_trans (h.own q (hs q hq).1).2 hw.size⟩⟩
end
theorem memAt {α : Type} {l : List α} {i : Nat} {x : α} (h : l[i]? = some x) : x ∈ l := List.mem_of_getElem? h
end Go.Proofs.YtfbpaeddfonfbaaDoor
