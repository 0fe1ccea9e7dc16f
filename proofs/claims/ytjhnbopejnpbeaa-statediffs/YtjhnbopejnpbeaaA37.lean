/-
  A region that draws its order, inside a round of a loop over a function: whatever serves outside serves there; no conditions.
  The walk of state.Diff: what leads from some entries to others; conditions: the form's own reach.
-/
import Derived.Test.YtjhnbopejnpbeaaA09
import Derived.Test.YtjhnbopejnpbeaaA34
import Derived.Test.YtjhnbopejnpbeaaA36
import Derived.Test.YtjhnbopejnpbeaaA19
set_option linter.unusedSimpArgs false
set_option linter.unusedVariables false
set_option linter.unusedSimpArgs false
namespace Go.Proofs.Ytjhnbopejnpbeaa
open Go.RowKit
set_option linter.unusedVariables false

theorem op_in {l n : Nat} {P : Program} {o : Oper} {a : Act} {w : World} {K : Act → World → Prop} {Q : Exit → Act → World → Prop} (hd : ∀ c, o.op ≠ .defer c) (h : o.wp P a w K Q) : o.wpIn (Fence.wide.inRound l) n P a w K Q := by
  unfold Oper.wpIn
  refine ⟨fun _ _ => trivial, ?_⟩
  rw [show (Fence.wide.inRound l).round = some l from rfl, Oper.semAt_some l _ o hd]
  unfold Oper.wp at h
  generalize (execOp a.eval o).run P w = r at *
  cases r with
  | ok x w' =>
    cases x with
    | value v => exact h
    | skip => exact h
    | defer d => exact h
    | enter f args => exact ⟨(fun e => by cases e), callsIn_wide.2 h⟩
    | row row args => exact ⟨(fun e => by cases e), fun c cs _ => (by
        have h' : Rows P row args w' fun v w'' => K (a.put o.dst v) w'' := h
        obtain ⟨v, w1, r, s⟩ := h' c cs
        exact ⟨v, w1, r, stepsIn_wide.2 s⟩)⟩
    | _ => exact h.elim
  | halt x w' => cases x <;> first | exact h | exact h.elim

theorem any_in {l n : Nat} {P : Program} {md : Region.Mode} {ops : Array Oper} {Q : Exit → Act → World → Prop} (hd : ∀ (i : Nat) (o : Oper), ops[i]? = some o → ∀ c, o.op ≠ .defer c) (hq : ¬ LetsOut Q) :
    ∀ (f : Nat) (listed : Array Bool) (a : Act) (w : World), wpAny P md ops Q f listed a w → wpAnyIn (Fence.wide.inRound l) n P md ops Q f listed a w
  | 0, _, _, _, h => h
  | f + 1, listed, a, w, h => ⟨h.1, fun i hi => by
    have h1 := h.2 i hi
    unfold wpOp at h1
    unfold wpOpIn
    split
    · rename_i e
      rw [e] at h1
      exact any_in hd hq f _ _ _ h1
    · rename_i o e
      rw [e] at h1
      simp only at h1
      split
      · rename_i hw
        rw [if_pos hw] at h1
        have h1 := h1.resolve_right (fun h => hq h.2)
        exact op_in (hd i o e) (Oper.wp_mono (fun a w h' => any_in hd hq f _ a w h') h1)
      · rename_i hw
        rw [if_neg hw] at h1
        exact ⟨fun _ _ => trivial, any_in hd hq f _ _ _ h1⟩⟩

theorem till_in {l n : Nat} {P : Program} {ops : Array Oper} {Q : Exit → Act → World → Prop} {S : World → Prop} {id : Nat} {a : Act} {w : World} (z : Nat) (hm : P.follows .mixedOrders = true) (hd : ∀ (i : Nat) (o : Oper), ops[i]? = some o → ∀ c, o.op ≠ .defer c) (hq : ¬ LetsOut Q)
    (h : Till P .any ops Q S z ops.size (Array.replicate ops.size false) a w.drew) : (Code.region id ops true).wpIn (Fence.wide.inRound l) n P Q a w :=
  wpIn_region_any hm (any_in hd hq _ _ _ _ (Till.any _ _ _ _ h))
end Go.Proofs.Ytjhnbopejnpbeaa

namespace Go.Proofs.Ytjhnbopejnpbeaa
open Go.RowKit Go.Shelf
set_option linter.unusedVariables false
set_option linter.unusedSimpArgs false

/-- a change: its key, whether it is gone, its value -/
abbrev Ch := ByteArray × Bool × Vl
def vl0 : Vl := .mk 0 0 ⟨#[]⟩ [] []

/-- the change under a key, if there is one -/
def chI (es fs : List En) (x : Option Nat × Option Nat) : List Ch := match x with
  | (some i, none) => (es[i]?.toList).map (fun e => (e.1, true, vl0))
  | (none, some j) => (fs[j]?.toList).map (fun f => (f.1, false, f.2))
  | (some i, some j) => if (es[i]?.map (·.2)).getD vl0 |> fun v => ord0 v ((fs[j]?.map (·.2)).getD vl0) = 0 then [] else (fs[j]?.toList).map (fun f => (f.1, false, f.2))
  | (none, none) => []

def diffB (es fs : List En) : Bool := rightE es && rightE fs
def diffL (es fs : List En) : List Ch := if diffB es fs = true then (sdN (keysE es) (keysE fs) (es.length + fs.length) 0 0).flatMap (chI es fs) else []
def codeD (es fs : List En) : Int := if diffB es fs = true then 0 else 70
def chOf (p : Co) : Ch := (p.1.1, p.1.2, p.2.2)

theorem sdN_none (ka kb : List ByteArray) : ∀ (f i j : Nat) (x : Option Nat × Option Nat), x ∈ sdN ka kb f i j → ¬ (x.1 = none ∧ x.2 = none)
  | 0, _, _, x, h => by cases h
  | f + 1, i, j, x, h => by
    unfold sdN at h
    split at h
    · rename_i hl
      rcases List.mem_cons.1 h with h | h
      · subst h
        rintro ⟨h1, h2⟩
        dsimp only at h1 h2
        have hA : inA ka kb i j = false := by cases hh : inA ka kb i j with | false => rfl | true => rw [hh] at h1; cases h1
        have hB : inB ka kb i j = false := by cases hh : inB ka kb i j with | false => rfl | true => rw [hh] at h2; cases h2
        cases hx : ka[i]? with
        | none =>
          have hi : ka.length ≤ i := List.getElem?_eq_none_iff.1 hx
          obtain ⟨y, hy⟩ : ∃ y, kb[j]? = some y := ⟨_, List.getElem?_eq_getElem (by omega)⟩
          rw [(inB_one hx hy).2] at hB
          cases hB
        | some a =>
          cases hy : kb[j]? with
          | none => rw [(inA_one hx hy).1] at hA; cases hA
          | some b =>
            obtain ⟨q1, q2⟩ := inA_two hx hy
            rw [q1] at hA
            rw [q2] at hB
            have := bl_not a.toList b.toList
            cases h1 : Op.bytesLess a.toList b.toList with
            | false => rw [h1] at hB; cases hB
            | true =>
              cases h2 : Op.bytesLess b.toList a.toList with
              | false => rw [h2] at hA; cases hA
              | true => rw [h1, h2] at this; simp at this
      · exact sdN_none ka kb f _ _ x h
    · cases h

theorem sdE_form (o : Option Ce) : ∃ k t0 t1 t2 t3 t4 t5 t6 t7 t8 g, sdE o = [.string k, .int .i64 t0, .int .i64 t1, .string t2, .slice t3 t4 t5, .slice t6 t7 t8, .bool g] ∧ g = o.isSome := by
  cases o with
  | none => exact ⟨_, _, _, _, _, _, _, _, _, _, false, rfl, rfl⟩
  | some c => exact ⟨_, _, _, _, _, _, _, _, _, _, true, rfl, rfl⟩

theorem zero_qD (w : World) (P : Nat → Prop) : IsQ w P vl0 (.agg #[.int .i64 0, .int .i64 0, .string ⟨#[]⟩, .slice none 0 0, .slice none 0 0]) := by
  have h := heap_alloc_new w (.cells #[.int .i64 0, .int .i64 0, .string ⟨#[]⟩, .slice none 0 0, .slice none 0 0] 34)
  have hs : (w.alloc (.cells #[.int .i64 0, .int .i64 0, .string ⟨#[]⟩, .slice none 0 0, .slice none 0 0] 34)).heap.size = w.heap.size + 1 := by simp
  generalize w.alloc (.cells #[.int .i64 0, .int .i64 0, .string ⟨#[]⟩, .slice none 0 0, .slice none 0 0] 34) = u at h hs
  have M : Mid u (w.heap.size + 1) w.heap.size 0 0 ⟨#[]⟩ [] [] (.slice none 0 0) (.slice none 0 0) 0 0 (fun _ => []) := ⟨h, by omega, by omega, World.ownsRow_nil _ _ _ _, World.ownsRow_nil _ _ _ _, Or.inl rfl, fun c h => by omega, fun c y h => by omega⟩
  exact (M.made rfl rfl (by omega) (by omega) (by show (⟨#[]⟩ : ByteArray).size ≤ _; have : (⟨#[]⟩ : ByteArray).size = 0 := rfl; omega) (by simp) (by simp) (by simp)).to (fun b hb => by omega) (fun b hb => by omega)

theorem its_attach (l : List (Option Nat × Option Nat)) (CA CB : Nat → Ce) : l.attach.map (fun x => (x.1.1.map CA, x.1.2.map CB)) = l.map (fun x => (x.1.map CA, x.2.map CB)) := by
  have : l.attach.map ((fun x : Option Nat × Option Nat => (x.1.map CA, x.2.map CB)) ∘ Subtype.val) = l.map (fun x => (x.1.map CA, x.2.map CB)) := by rw [← List.map_map, List.attach_map_subtype_val]
  exact this

theorem sdN_len (ka kb : List ByteArray) : ∀ (f i j : Nat), (sdN ka kb f i j).length ≤ f
  | 0, _, _ => by simp [sdN]
  | f + 1, i, j => by
    unfold sdN
    split
    · have := sdN_len ka kb f (if inA ka kb i j then i + 1 else i) (if inB ka kb i j then j + 1 else j)
      rw [List.length_cons]
      omega
    · simp

theorem right_len {es : List En} (h : rightE es = true) : es.length ≤ 128 ∧ ∀ e ∈ es, entB e = true := by
  unfold rightE at h
  simp only [Bool.and_eq_true, decide_eq_true_eq, List.all_eq_true] at h
  exact ⟨h.1.1.1, h.1.2⟩

/-- what is so of the changes while Diff goes through the keys -/
structure DfI (w w7 W : World) (go : Nat) (es fs : List En) (xs : List (Option Nat × Option Nat)) : Prop where
  mk' ::
  ex : ∃ sv cs, W.heap[go]? = some (.cells #[sv] 25 (0, 0)) ∧ ChO W w7.heap.size sv cs ∧ cs.map chOf = xs.flatMap (chI es fs) ∧ cs.length ≤ xs.length
  below : Below w.heap.size w W
  size : w7.heap.size ≤ W.heap.size

theorem DfI.grown {w w7 W W' : World} {go : Nat} {es fs : List En} {xs : List (Option Nat × Option Nat)} {row : Option Nat} (h : DfI w w7 W go es fs xs) (hw : w.heap.size ≤ w7.heap.size) (hg : W.grownBy W' row) (hr : ∀ r, row = some r → w7.heap.size ≤ r ∧ ∃ o : Obj, W.heap[r]? = some o ∧ o.isCells = false) : DfI w w7 W' go es fs xs := by
  obtain ⟨⟨sv, cs, h1, h2, h3, h4⟩, h5, h6⟩ := h
  have hne : ∀ b, isC W b → some b ≠ row := fun b hb e => by
    obtain ⟨_, o, ho, hc⟩ := hr b e.symm
    obtain ⟨c, T, f, hh⟩ := hb
    rw [hh] at ho
    cases ho
    cases hc
  exact ⟨⟨sv, cs, (hg.block go (Array.getElem?_eq_some_iff.1 h1).1 (hne _ ⟨_, _, _, h1⟩)).trans h1, h2.to (Nat.le_refl _) hg.size (fun b _ hl hc => hg.block b hl (hne b hc)), h3, h4⟩, h5.grown hg (by have := h5.size; omega) (fun k hk => by have a1 := (hr k hk).1; omega), by have := hg.size; omega⟩

theorem DfI.later {w w7 W W' : World} {go : Nat} {es fs : List En} {xs : List (Option Nat × Option Nat)} (h : DfI w w7 W go es fs xs) (hb : Below W.heap.size W W') : DfI w w7 W' go es fs xs := by
  obtain ⟨⟨sv, cs, h1, h2, h3, h4⟩, h5, h6⟩ := h
  exact ⟨⟨sv, cs, (hb.block go (Array.getElem?_eq_some_iff.1 h1).1).trans h1, h2.later hb, h3, h4⟩, h5.trans (hb.mono h5.size), Nat.le_trans h6 hb.size⟩

/-- one more change -/
theorem DfI.push {w w7 W W4 W5 : World} {go q g5 cap5 sc : Nat} {so : Option Addr} {es fs : List En} {xs : List (Option Nat × Option Nat)} {x : Option Nat × Option Nat} {cs : List Co} {k : ByteArray} {gg : Bool} {c : Th5} {y : Vl}
    (h1 : W.heap[go]? = some (.cells #[.slice so q sc] 25 (0, 0))) (h2 : ChO W w7.heap.size (.slice so q sc) cs) (h3 : cs.map chOf = xs.flatMap (chI es fs)) (h4 : cs.length ≤ xs.length) (h5 : Below w.heap.size w W) (h6 : w7.heap.size ≤ W.heap.size) (hq : cs.length = q) (hw : w.heap.size ≤ go) (hw7 : go < w7.heap.size) (hx : chI es fs x = [(k, gg, y)])
    (b4 : Below W.heap.size W W4) (q4 : IsQ W4 (fun b => W.heap.size ≤ b ∧ b < W4.heap.size) y (.agg (th5 c).toArray)) (o5 : W5.ownsRow w7.heap.size 36 7 (.slice (some ⟨g5, 0, none⟩) (q + 1) cap5) (q + 1) (cellsC cs ++ (.string k :: .bool gg :: th5 c))) (g5' : W4.grownBy W5 (Value.slice so q sc).ownBlock) (a5 : (Value.slice so q sc).ownBlock = some g5 ∨ g5 = W4.heap.size) :
    KeepsFrom w7.heap.size W (W5.setCell ⟨go, 0, none⟩ (.slice (some ⟨g5, 0, none⟩) (q + 1) cap5)) ∧ KeepS (fun b => b < w7.heap.size ∧ b ≠ go) (fun T => T = 55) W (W5.setCell ⟨go, 0, none⟩ (.slice (some ⟨g5, 0, none⟩) (q + 1) cap5)) ∧ DfI w w7 (W5.setCell ⟨go, 0, none⟩ (.slice (some ⟨g5, 0, none⟩) (q + 1) cap5)) go es fs (xs ++ [x]) := by
  have gw1 : go < W.heap.size := (Array.getElem?_eq_some_iff.1 h1).1
  have gn : some go ≠ (Value.slice so q sc).ownBlock := fun e => by have := (h2.row.lt go e.symm).1; omega
  have hpush := h2.push (k := k) (gg := gg) (c := c) (y := y) hq b4 h6 q4 o5 g5' a5
  have e1 : (W5.setCell ⟨go, 0, none⟩ (.slice (some ⟨g5, 0, none⟩) (q + 1) cap5)).heap[go]? = some (.cells #[.slice (some ⟨g5, 0, none⟩) (q + 1) cap5] 25 (0, 0)) := heap_setCell_same W5 go 0 _ _ _ ((g5'.block go (Nat.lt_of_lt_of_le gw1 b4.size) gn).trans ((b4.block go gw1).trans h1))
  have hoth : ∀ b, b ≠ go → (W5.setCell ⟨go, 0, none⟩ (.slice (some ⟨g5, 0, none⟩) (q + 1) cap5)).heap[b]? = W5.heap[b]? := fun b hb => heap_setCell_other _ _ _ _ hb
  have hfr : Fr (fun j => j = go ∨ (Value.slice so q sc).ownBlock = some j) W (W5.setCell ⟨go, 0, none⟩ (.slice (some ⟨g5, 0, none⟩) (q + 1) cap5)) := (Fr.of b4).trans (G' := fun j => j = go ∨ (Value.slice so q sc).ownBlock = some j) ⟨g5'.os, g5'.tape, g5'.output, by rw [sz_setCell]; exact g5'.size, fun j hj hnn => (hoth j (fun e => hnn (.inl e))).trans (g5'.block j hj (fun e => hnn (.inr e.symm)))⟩ (fun _ _ e => e)
  obtain ⟨W6, hW6⟩ : ∃ W6, W5.setCell ⟨go, 0, none⟩ (.slice (some ⟨g5, 0, none⟩) (q + 1) cap5) = W6 := ⟨_, rfl⟩
  have hsz : W5.heap.size ≤ W6.heap.size := by rw [← hW6, sz_setCell]; exact Nat.le_refl _
  rw [hW6] at e1 hoth hfr ⊢
  refine ⟨⟨hfr.size, fun b o _ hb ho => (hfr.block b (Array.getElem?_eq_some_iff.1 hb).1 (fun e => ?_)).trans hb⟩, ⟨fun b hb => hfr.block b (by have := hb.1; omega) (fun e => ?_), fun b c' T f hT hb => (hfr.block b (Array.getElem?_eq_some_iff.1 hb).1 (fun e => ?_)).trans hb⟩, ⟨⟨_, _, e1, hpush.to (Nat.le_refl _) hsz (fun b hb _ _ => hoth b (by omega)), by rw [List.map_append, h3, List.flatMap_append, List.flatMap_singleton, hx]; rfl, by simp; omega⟩, h5.trans (hfr.below h5.size (fun j hj => ?_)), Nat.le_trans h6 hfr.size⟩⟩
  · rcases e with e | e
    · rw [e, h1] at hb
      cases hb
      cases ho
    · obtain ⟨c', hc⟩ := row_ty h2.row e
      rw [hc] at hb
      cases hb
      cases ho
  · rcases e with e | e
    · exact hb.2 e
    · have := (h2.row.lt b e).1
      have := hb.1
      omega
  · subst hT
    rcases e with e | e
    · rw [e, h1] at hb
      simp only [Option.some.injEq, Obj.cells.injEq] at hb
      exact absurd hb.2.1 (by decide)
    · obtain ⟨c', hc⟩ := row_ty h2.row e
      rw [hc] at hb
      simp only [Option.some.injEq, Obj.cells.injEq] at hb
      exact absurd hb.2.1 (by decide)
  · rcases hj with hj | hj
    · omega
    · have h8 := (h2.row.lt j hj).1
      omega
end Go.Proofs.Ytjhnbopejnpbeaa
