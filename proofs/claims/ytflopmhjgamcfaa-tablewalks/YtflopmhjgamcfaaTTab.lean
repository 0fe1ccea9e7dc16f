/-
  How a table lies in memory: its keys and things, as cells of a row of its own; no conditions.
-/
import Derived.Test.YtflopmhjgamcfaaHid
import Derived.Test.YtflopmhjgamcfaaChecked
import Derived.WalkKit
import Derived.WalkSpells
import Derived.OpenShut
import Derived.Below
import Derived.Deep.QuietTactic
import Derived.BigQuiet
import Derived.LoopTactic
import Derived.Deep.RegionHeld3
import Derived.Deep.CutRange
import Derived.Deep.Cut
import Derived.WalkSmall
import Derived.Laws.AppendOwn
import Derived.Laws.Cover1
import Derived.Deep.MidRow
namespace Go.Proofs.Ytflopmhjgamcfaa
open Go.RowKit

theorem below_drewN {B : Nat} {w w' : World} (h : Below B w w') (q : Nat) : Below B w (w'.drewN q) := ⟨h.os, h.tape, h.output, h.size, h.block⟩

theorem add_at (b j : Nat) : (⟨b, 0, none⟩ : Addr).add j = ⟨b, j, none⟩ := by
  unfold Addr.add
  split
  · simp_all
  · simp

/-- the cells of pairs -/
def cells2 (l : List (Value × Value)) : List Value := l.flatMap fun p => [p.1, p.2]

theorem cells2_nil : cells2 [] = [] := rfl
theorem cells2_cons (p : Value × Value) (l : List (Value × Value)) : cells2 (p :: l) = p.1 :: p.2 :: cells2 l := by simp [cells2]
theorem cells2_append (a b : List (Value × Value)) : cells2 (a ++ b) = cells2 a ++ cells2 b := by simp [cells2]

theorem cells2_len : ∀ l : List (Value × Value), (cells2 l).length = l.length * 2
  | [] => rfl
  | p :: l => by rw [cells2_cons, List.length_cons, List.length_cons, List.length_cons, cells2_len l]; omega

theorem cells2_at : ∀ (l : List (Value × Value)) (i : Nat) (p : Value × Value), l[i]? = some p → (cells2 l)[i * 2]? = some p.1 ∧ (cells2 l)[i * 2 + 1]? = some p.2
  | [], i, p, h => by simp at h
  | q :: l, 0, p, h => by
    simp only [List.getElem?_cons_zero, Option.some.injEq] at h
    subst h
    rw [cells2_cons]
    exact ⟨rfl, rfl⟩
  | q :: l, i + 1, p, h => by
    rw [List.getElem?_cons_succ] at h
    have := cells2_at l i p h
    rw [cells2_cons, show (i + 1) * 2 = i * 2 + 1 + 1 by omega, List.getElem?_cons_succ, List.getElem?_cons_succ, List.getElem?_cons_succ, List.getElem?_cons_succ]
    exact this

theorem cells2_take : ∀ (l : List (Value × Value)) (i : Nat), cells2 (l.take i) = (cells2 l).take (i * 2)
  | [], i => by simp [cells2_nil]
  | q :: l, 0 => by simp [cells2_nil]
  | q :: l, i + 1 => by
    rw [List.take_succ_cons, cells2_cons, cells2_cons, cells2_take l i, show (i + 1) * 2 = i * 2 + 1 + 1 by omega, List.take_succ_cons, List.take_succ_cons]

theorem cells2_drop : ∀ (l : List (Value × Value)) (i : Nat), cells2 (l.drop i) = (cells2 l).drop (i * 2)
  | [], i => by simp [cells2_nil]
  | q :: l, 0 => by simp
  | q :: l, i + 1 => by
    rw [List.drop_succ_cons, cells2_cons, cells2_drop l i, show (i + 1) * 2 = i * 2 + 1 + 1 by omega, List.drop_succ_cons, List.drop_succ_cons]

/-- a table -/
structure Tab (w : World) (base g : Nat) (T E : TypeId) (v : Value) (l : List (Value × Value)) : Prop where
  here : w.heap[g]? = some (.cells #[v] T (0, 0))
  row : w.ownsRow base E 2 v l.length (cells2 l)

section
variable {w w' : World} {base g : Nat} {T E : TypeId} {v : Value} {l : List (Value × Value)}

theorem own_shape (h : w.ownsRow base E 2 v l.length (cells2 l)) : ∃ ao cap, v = .slice ao l.length cap ∧ l.length ≤ cap ∧ cap ≤ maxLen ∧ (ao = none → l.length = 0) ∧ ∀ ad, ao = some ad → ∃ b, ad = ⟨b, 0, none⟩ ∧ b < w.heap.size ∧ base ≤ b ∧ ∀ i p, l[i]? = some p → w.cell? ⟨b, i * 2, none⟩ = some p.1 ∧ w.cell? ⟨b, i * 2 + 1, none⟩ = some p.2 := by
  rcases h.2 with ⟨rfl, hn⟩ | ⟨b, cap, cur, rfl, hb, hg, hc, hm, hs, ht⟩
  · exact ⟨none, 0, by rw [hn], by omega, Nat.zero_le _, fun _ => hn, fun ad h => by cases h⟩
  · refine ⟨_, cap, rfl, hc, hm, (fun h => by cases h), fun ad ha => ?_⟩
    cases ha
    refine ⟨b, rfl, (Array.getElem?_eq_some_iff.1 hg).1, hb, fun i p hp => ?_⟩
    obtain ⟨h0, h1⟩ := cells2_at l i p hp
    have c0 := h.cells rfl _ _ h0
    have c1 := h.cells rfl _ _ h1
    rw [add_at] at c0 c1
    exact ⟨c0, c1⟩

theorem Tab.later (h : Tab w base g T E v l) {B : Nat} (hb : Below B w w') (hg : g < B) (hv : ∀ b, v.ownBlock = some b → b < B) : Tab w' base g T E v l := by
  refine ⟨(hb.block g hg).trans h.here, h.row.1, ?_⟩
  rcases h.row.2 with hn | ⟨b, cap, cur, rfl, hbs, hg', rest⟩
  · exact .inl hn
  · exact .inr ⟨b, cap, cur, rfl, hbs, (hb.block b (hv b rfl)).trans hg', rest⟩

theorem Tab.cell (h : Tab w base g T E v l) : w.cell? ⟨g, 0, none⟩ = some v := by rw [cell_of_row w g 0 _ _ (0, 0) h.here]; rfl
end
end Go.Proofs.Ytflopmhjgamcfaa
