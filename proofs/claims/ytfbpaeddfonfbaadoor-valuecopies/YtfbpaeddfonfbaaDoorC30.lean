/-
  The walks of Right; no conditions but the form's own reach.
  Append of bytes onto a row of the call's own, nil or not, and what stands behind it: Grow of nothing, Concat of two; conditions: the lengths together are below 2^47 and a million.
-/
import Derived.Test.YtfbpaeddfonfbaaDoorC06
import Derived.Deep.AppendLies
import Derived.Lib.AppendZeros
import Derived.Laws.AppendOwnNone
namespace Go.Proofs.YtfbpaeddfonfbaaDoor
open Go.RowKit

set_option maxRecDepth 100000 in
set_option maxHeartbeats 400000 in
theorem right_code (v : Vl) (x : Value) (B : Nat) (w : World) (hv : IsV w B v x) (hBs : B ≤ w.heap.size) :
    Calls Tryd.prog 14 #[x] w fun e w' => e = .returned (.bool (rightB v)) ∧ Below w.heap.size w w' := by
  obtain ⟨k', n', s', l', ks', al', ak', cl', ck', hy', hx⟩ := hv.shape
  obtain ⟨ll, hll⟩ : ∃ ll, l'.length = ll := ⟨_, rfl⟩
  obtain ⟨m, hm⟩ : ∃ m, ks'.length = m := ⟨_, rfl⟩
  rw [hll, hm] at hx
  subst hx
  obtain ⟨w1, hw1⟩ : ∃ w1, w.alloc (.cells #[.int .i64 k', .int .i64 n', .string s', .slice al' ll cl', .slice ak' m ck'] 25) = w1 := ⟨_, rfl⟩
  have BX := Box.mk' w (.int .i64 k') (.int .i64 n') (.string s') (.slice al' ll cl') (.slice ak' m ck')
  rw [hw1] at BX
  obtain ⟨c0, c1, c2, c3, c4⟩ := row_cell BX.row
  have z1 := BX.size
  have HB := hide BX.below
  have CM := hide (measure_any v _ B w1 (hv.mono (BX.below.mono hBs)) (by omega))
  have HRB : Hid (decide (0 < wt0 v) = rightB v) := hide (by
    unfold wt0
    cases h : rightB v with
    | false => simp
    | true => have := wt_pos v; simp [this])
  clear BX hv hy'
  go_enter Tryd.func14, Tryd.ntmps14
  go_wp2_with fail
  refine (unhide CM).mono ?_
  rintro e w2 ⟨rfl, b2⟩
  have B2 := hide b2
  clear b2 CM
  go_wp2_with fail
  go_ret
  exact ⟨by rw [← unhide HRB]; rfl, (unhide HB).trans ((unhide B2).mono (by omega))⟩

end Go.Proofs.YtfbpaeddfonfbaaDoor

namespace Go.Proofs.YtfbpaeddfonfbaaDoor
open Go.RowKit

/-- the world behind something that has grown a row -/
structure Grew (w w' : World) (v v' : Value) : Prop where
  grown : w.grownBy w' v.ownBlock
  row : ∀ b, v'.ownBlock = some b → v.ownBlock = some b ∨ w.heap.size ≤ b

theorem Grew.refl (w : World) (v : Value) : Grew w w v v := ⟨World.grownBy.refl _ _, fun _ h => Or.inl h⟩

theorem Grew.trans {w w1 w2 : World} {v v1 v2 : Value} (h : Grew w w1 v v1) (h2 : Grew w1 w2 v1 v2) : Grew w w2 v v2 := by
  have hs := h.grown.size
  refine ⟨⟨h2.grown.os.trans h.grown.os, h2.grown.tape.trans h.grown.tape, h2.grown.output.trans h.grown.output, Nat.le_trans h.grown.size h2.grown.size, fun k hk hn => ?_⟩, fun b hb => ?_⟩
  · rw [h2.grown.block k (by omega) (fun e => ?_), h.grown.block k hk hn]
    rcases h.row k e.symm with h' | h'
    · exact hn h'.symm
    · omega
  · rcases h2.row b hb with h' | h'
    · rcases h.row b h' with h' | h'
      · exact Or.inl h'
      · exact Or.inr h'
    · exact Or.inr (by omega)

theorem Grew.behind {w w1 w2 : World} {v v2 : Value} (hb : Below w.heap.size w w1) (h : Grew w1 w2 v v2) : Grew w w2 v v2 := by
  have hs := hb.size
  refine ⟨⟨h.grown.os.trans hb.os, h.grown.tape.trans hb.tape, h.grown.output.trans hb.output, Nat.le_trans hb.size h.grown.size, fun k hk hn => ?_⟩, fun b e => ?_⟩
  · rw [h.grown.block k (by omega) hn, hb.block k hk]
  · rcases h.row b e with h' | h'
    · exact Or.inl h'
    · exact Or.inr (by omega)

theorem Grew.ahead {w w1 w2 : World} {v v1 : Value} (h : Grew w w1 v v1) (hb : Below w1.heap.size w1 w2) : Grew w w2 v v1 := by
  have hs := h.grown.size
  refine ⟨⟨hb.os.trans h.grown.os, hb.tape.trans h.grown.tape, hb.output.trans h.grown.output, Nat.le_trans h.grown.size hb.size, fun k hk hn => ?_⟩, h.row⟩
  rw [hb.block k (by omega), h.grown.block k hk hn]

theorem Grew.below {w w' : World} {v v' : Value} {base : Nat} {n : Nat} {xs : List Value} (h : Grew w w' v v') (ho : w.ownsRow base 5 1 v n xs) (hb : base ≤ w.heap.size) : Below base w w' :=
  (Below.refl _ _).grown h.grown hb (fun k e => (ho.lt k e).1)

theorem Grew.far {w w' : World} {v v' : Value} (h : Grew w w' v v') {b : Nat} (hb : b < w.heap.size) (hn : some b ≠ v.ownBlock) : w'.heap[b]? = w.heap[b]? := h.grown.block b hb hn

theorem own_below {w w' : World} {base : Nat} {e : TypeId} {size : Nat} {v : Value} {n : Nat} {xs : List Value} (h : w.ownsRow base e size v n xs) (hb : Below w.heap.size w w') : w'.ownsRow base e size v n xs := by
  refine ⟨h.1, ?_⟩
  rcases h.2 with hn | ⟨g, cap, cur, rfl, hbs, hg, rest⟩
  · exact .inl hn
  · exact .inr ⟨g, cap, cur, rfl, hbs, (hb.block g (Array.getElem?_eq_some_iff.1 hg).1).trans hg, rest⟩
end Go.Proofs.YtfbpaeddfonfbaaDoor
