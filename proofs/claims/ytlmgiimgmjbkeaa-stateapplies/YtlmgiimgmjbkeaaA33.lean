/-
  A region that draws its order, inside a round of a loop over a function: whatever serves outside serves there; no conditions.
  The walk of state.Diff: what leads from some entries to others; conditions: the form's own reach.
  The walk of the document's Find: where a key stands among entries; conditions: the form's own reach.
  Changes' cells, two rows side by side of entries and changes; no conditions.
-/
import Derived.Test.YtlmgiimgmjbkeaaA08
import Derived.Test.YtlmgiimgmjbkeaaA30
import Derived.Test.YtlmgiimgmjbkeaaA32
import Derived.Test.YtlmgiimgmjbkeaaA18
import Derived.Test.YtlmgiimgmjbkeaaA10
set_option linter.unusedSimpArgs false
set_option linter.unusedVariables false
set_option linter.unusedSimpArgs false
namespace Go.Proofs.Ytlmgiimgmjbkeaa
open Go.RowKit
set_option linter.unusedVariables false

theorem op_in {l n : Nat} {P : Program} {o : Oper} {a : Act} {w : World} {K : Act → World → Prop} {Q : Exit → Act → World → Prop} (hd : ∀ c, o.op ≠ .defer c) (h : o.wp P a w K Q) : o.wpIn (Fence.wide.inRound l) n P a w K Q := by
  unfold Oper.wpIn
  refine ⟨fun _ _ => trivial, ?_⟩
  rw [show (Fence.wide.inRound l).round = some l from rfl, Oper.semAt_some l _ o hd]
  unfold Oper.wp at h
  generalize (execOp a.eval o).run P w = r at *
  cases r with
  | ok x w' =>
    cases x with
    | value v => exact h
    | skip => exact h
    | defer d => exact h
    | enter f args => exact ⟨(fun e => by cases e), callsIn_wide.2 h⟩
    | row row args => exact ⟨(fun e => by cases e), fun c cs _ => (by
        have h' : Rows P row args w' fun v w'' => K (a.put o.dst v) w'' := h
        obtain ⟨v, w1, r, s⟩ := h' c cs
        exact ⟨v, w1, r, stepsIn_wide.2 s⟩)⟩
    | _ => exact h.elim
  | halt x w' => cases x <;> first | exact h | exact h.elim

theorem any_in {l n : Nat} {P : Program} {md : Region.Mode} {ops : Array Oper} {Q : Exit → Act → World → Prop} (hd : ∀ (i : Nat) (o : Oper), ops[i]? = some o → ∀ c, o.op ≠ .defer c) (hq : ¬ LetsOut Q) :
    ∀ (f : Nat) (listed : Array Bool) (a : Act) (w : World), wpAny P md ops Q f listed a w → wpAnyIn (Fence.wide.inRound l) n P md ops Q f listed a w
  | 0, _, _, _, h => h
  | f + 1, listed, a, w, h => ⟨h.1, fun i hi => by
    have h1 := h.2 i hi
    unfold wpOp at h1
    unfold wpOpIn
    split
    · rename_i e
      rw [e] at h1
      exact any_in hd hq f _ _ _ h1
    · rename_i o e
      rw [e] at h1
      simp only at h1
      split
      · rename_i hw
        rw [if_pos hw] at h1
        have h1 := h1.resolve_right (fun h => hq h.2)
        exact op_in (hd i o e) (Oper.wp_mono (fun a w h' => any_in hd hq f _ a w h') h1)
      · rename_i hw
        rw [if_neg hw] at h1
        exact ⟨fun _ _ => trivial, any_in hd hq f _ _ _ h1⟩⟩

theorem till_in {l n : Nat} {P : Program} {ops : Array Oper} {Q : Exit → Act → World → Prop} {S : World → Prop} {id : Nat} {a : Act} {w : World} (z : Nat) (hm : P.follows .mixedOrders = true) (hd : ∀ (i : Nat) (o : Oper), ops[i]? = some o → ∀ c, o.op ≠ .defer c) (hq : ¬ LetsOut Q)
    (h : Till P .any ops Q S z ops.size (Array.replicate ops.size false) a w.drew) : (Code.region id ops true).wpIn (Fence.wide.inRound l) n P Q a w :=
  wpIn_region_any hm (any_in hd hq _ _ _ _ (Till.any _ _ _ _ h))
end Go.Proofs.Ytlmgiimgmjbkeaa

namespace Go.Proofs.Ytlmgiimgmjbkeaa
open Go.RowKit Go.Shelf
set_option linter.unusedVariables false
set_option linter.unusedSimpArgs false

/-- a change: its key, whether it is gone, its value -/
abbrev Ch := ByteArray × Bool × Vl
def vl0 : Vl := .mk 0 0 ⟨#[]⟩ [] []

/-- the change under a key, if there is one -/
def chI (es fs : List En) (x : Option Nat × Option Nat) : List Ch := match x with
  | (some i, none) => (es[i]?.toList).map (fun e => (e.1, true, vl0))
  | (none, some j) => (fs[j]?.toList).map (fun f => (f.1, false, f.2))
  | (some i, some j) => if (es[i]?.map (·.2)).getD vl0 |> fun v => ord0 v ((fs[j]?.map (·.2)).getD vl0) = 0 then [] else (fs[j]?.toList).map (fun f => (f.1, false, f.2))
  | (none, none) => []

def diffB (es fs : List En) : Bool := rightE es && rightE fs
def diffL (es fs : List En) : List Ch := if diffB es fs = true then (sdN (keysE es) (keysE fs) (es.length + fs.length) 0 0).flatMap (chI es fs) else []
def codeD (es fs : List En) : Int := if diffB es fs = true then 0 else 70
def chOf (p : Co) : Ch := (p.1.1, p.1.2, p.2.2)

theorem sdN_none (ka kb : List ByteArray) : ∀ (f i j : Nat) (x : Option Nat × Option Nat), x ∈ sdN ka kb f i j → ¬ (x.1 = none ∧ x.2 = none)
  | 0, _, _, x, h => by cases h
  | f + 1, i, j, x, h => by
    unfold sdN at h
    split at h
    · rename_i hl
      rcases List.mem_cons.1 h with h | h
      · subst h
        rintro ⟨h1, h2⟩
        dsimp only at h1 h2
        have hA : inA ka kb i j = false := by cases hh : inA ka kb i j with | false => rfl | true => rw [hh] at h1; cases h1
        have hB : inB ka kb i j = false := by cases hh : inB ka kb i j with | false => rfl | true => rw [hh] at h2; cases h2
        cases hx : ka[i]? with
        | none =>
          have hi : ka.length ≤ i := List.getElem?_eq_none_iff.1 hx
          obtain ⟨y, hy⟩ : ∃ y, kb[j]? = some y := ⟨_, List.getElem?_eq_getElem (by omega)⟩
          rw [(inB_one hx hy).2] at hB
          cases hB
        | some a =>
          cases hy : kb[j]? with
          | none => rw [(inA_one hx hy).1] at hA; cases hA
          | some b =>
            obtain ⟨q1, q2⟩ := inA_two hx hy
            rw [q1] at hA
            rw [q2] at hB
            have := bl_not a.toList b.toList
            cases h1 : Op.bytesLess a.toList b.toList with
            | false => rw [h1] at hB; cases hB
            | true =>
              cases h2 : Op.bytesLess b.toList a.toList with
              | false => rw [h2] at hA; cases hA
              | true => rw [h1, h2] at this; simp at this
      · exact sdN_none ka kb f _ _ x h
    · cases h

theorem sdE_form (o : Option Ce) : ∃ k t0 t1 t2 t3 t4 t5 t6 t7 t8 g, sdE o = [.string k, .int .i64 t0, .int .i64 t1, .string t2, .slice t3 t4 t5, .slice t6 t7 t8, .bool g] ∧ g = o.isSome := by
  cases o with
  | none => exact ⟨_, _, _, _, _, _, _, _, _, _, false, rfl, rfl⟩
  | some c => exact ⟨_, _, _, _, _, _, _, _, _, _, true, rfl, rfl⟩

theorem zero_qD (w : World) (P : Nat → Prop) : IsQ w P vl0 (.agg #[.int .i64 0, .int .i64 0, .string ⟨#[]⟩, .slice none 0 0, .slice none 0 0]) := by
  have h := heap_alloc_new w (.cells #[.int .i64 0, .int .i64 0, .string ⟨#[]⟩, .slice none 0 0, .slice none 0 0] 34)
  have hs : (w.alloc (.cells #[.int .i64 0, .int .i64 0, .string ⟨#[]⟩, .slice none 0 0, .slice none 0 0] 34)).heap.size = w.heap.size + 1 := by simp
  generalize w.alloc (.cells #[.int .i64 0, .int .i64 0, .string ⟨#[]⟩, .slice none 0 0, .slice none 0 0] 34) = u at h hs
  have M : Mid u (w.heap.size + 1) w.heap.size 0 0 ⟨#[]⟩ [] [] (.slice none 0 0) (.slice none 0 0) 0 0 (fun _ => []) := ⟨h, by omega, by omega, World.ownsRow_nil _ _ _ _, World.ownsRow_nil _ _ _ _, Or.inl rfl, fun c h => by omega, fun c y h => by omega⟩
  exact (M.made rfl rfl (by omega) (by omega) (by show (⟨#[]⟩ : ByteArray).size ≤ _; have : (⟨#[]⟩ : ByteArray).size = 0 := rfl; omega) (by simp) (by simp) (by simp)).to (fun b hb => by omega) (fun b hb => by omega)

theorem its_attach (l : List (Option Nat × Option Nat)) (CA CB : Nat → Ce) : l.attach.map (fun x => (x.1.1.map CA, x.1.2.map CB)) = l.map (fun x => (x.1.map CA, x.2.map CB)) := by
  have : l.attach.map ((fun x : Option Nat × Option Nat => (x.1.map CA, x.2.map CB)) ∘ Subtype.val) = l.map (fun x => (x.1.map CA, x.2.map CB)) := by rw [← List.map_map, List.attach_map_subtype_val]
  exact this

theorem sdN_len (ka kb : List ByteArray) : ∀ (f i j : Nat), (sdN ka kb f i j).length ≤ f
  | 0, _, _ => by simp [sdN]
  | f + 1, i, j => by
    unfold sdN
    split
    · have := sdN_len ka kb f (if inA ka kb i j then i + 1 else i) (if inB ka kb i j then j + 1 else j)
      rw [List.length_cons]
      omega
    · simp

theorem right_len {es : List En} (h : rightE es = true) : es.length ≤ 128 ∧ ∀ e ∈ es, entB e = true := by
  unfold rightE at h
  simp only [Bool.and_eq_true, decide_eq_true_eq, List.all_eq_true] at h
  exact ⟨h.1.1.1, h.1.2⟩

/-- what is so of the changes while Diff goes through the keys -/
structure DfI (w w7 W : World) (go : Nat) (es fs : List En) (xs : List (Option Nat × Option Nat)) : Prop where
  mk' ::
  ex : ∃ sv cs, W.heap[go]? = some (.cells #[sv] 25 (0, 0)) ∧ ChO W w7.heap.size sv cs ∧ cs.map chOf = xs.flatMap (chI es fs) ∧ cs.length ≤ xs.length
  below : Below w.heap.size w W
  size : w7.heap.size ≤ W.heap.size

theorem DfI.grown {w w7 W W' : World} {go : Nat} {es fs : List En} {xs : List (Option Nat × Option Nat)} {row : Option Nat} (h : DfI w w7 W go es fs xs) (hw : w.heap.size ≤ w7.heap.size) (hg : W.grownBy W' row) (hr : ∀ r, row = some r → w7.heap.size ≤ r ∧ ∃ o : Obj, W.heap[r]? = some o ∧ o.isCells = false) : DfI w w7 W' go es fs xs := by
  obtain ⟨⟨sv, cs, h1, h2, h3, h4⟩, h5, h6⟩ := h
  have hne : ∀ b, isC W b → some b ≠ row := fun b hb e => by
    obtain ⟨_, o, ho, hc⟩ := hr b e.symm
    obtain ⟨c, T, f, hh⟩ := hb
    rw [hh] at ho
    cases ho
    cases hc
  exact ⟨⟨sv, cs, (hg.block go (Array.getElem?_eq_some_iff.1 h1).1 (hne _ ⟨_, _, _, h1⟩)).trans h1, h2.to (Nat.le_refl _) hg.size (fun b _ hl hc => hg.block b hl (hne b hc)), h3, h4⟩, h5.grown hg (by have := h5.size; omega) (fun k hk => by have a1 := (hr k hk).1; omega), by have := hg.size; omega⟩

theorem DfI.later {w w7 W W' : World} {go : Nat} {es fs : List En} {xs : List (Option Nat × Option Nat)} (h : DfI w w7 W go es fs xs) (hb : Below W.heap.size W W') : DfI w w7 W' go es fs xs := by
  obtain ⟨⟨sv, cs, h1, h2, h3, h4⟩, h5, h6⟩ := h
  exact ⟨⟨sv, cs, (hb.block go (Array.getElem?_eq_some_iff.1 h1).1).trans h1, h2.later hb, h3, h4⟩, h5.trans (hb.mono h5.size), Nat.le_trans h6 hb.size⟩

/-- one more change -/
theorem DfI.push {w w7 W W4 W5 : World} {go q g5 cap5 sc : Nat} {so : Option Addr} {es fs : List En} {xs : List (Option Nat × Option Nat)} {x : Option Nat × Option Nat} {cs : List Co} {k : ByteArray} {gg : Bool} {c : Th5} {y : Vl}
    (h1 : W.heap[go]? = some (.cells #[.slice so q sc] 25 (0, 0))) (h2 : ChO W w7.heap.size (.slice so q sc) cs) (h3 : cs.map chOf = xs.flatMap (chI es fs)) (h4 : cs.length ≤ xs.length) (h5 : Below w.heap.size w W) (h6 : w7.heap.size ≤ W.heap.size) (hq : cs.length = q) (hw : w.heap.size ≤ go) (hw7 : go < w7.heap.size) (hx : chI es fs x = [(k, gg, y)])
    (b4 : Below W.heap.size W W4) (q4 : IsQ W4 (fun b => W.heap.size ≤ b ∧ b < W4.heap.size) y (.agg (th5 c).toArray)) (o5 : W5.ownsRow w7.heap.size 36 7 (.slice (some ⟨g5, 0, none⟩) (q + 1) cap5) (q + 1) (cellsC cs ++ (.string k :: .bool gg :: th5 c))) (g5' : W4.grownBy W5 (Value.slice so q sc).ownBlock) (a5 : (Value.slice so q sc).ownBlock = some g5 ∨ g5 = W4.heap.size) :
    KeepsFrom w7.heap.size W (W5.setCell ⟨go, 0, none⟩ (.slice (some ⟨g5, 0, none⟩) (q + 1) cap5)) ∧ KeepS (fun b => b < w7.heap.size ∧ b ≠ go) (fun T => T = 55) W (W5.setCell ⟨go, 0, none⟩ (.slice (some ⟨g5, 0, none⟩) (q + 1) cap5)) ∧ DfI w w7 (W5.setCell ⟨go, 0, none⟩ (.slice (some ⟨g5, 0, none⟩) (q + 1) cap5)) go es fs (xs ++ [x]) := by
  have gw1 : go < W.heap.size := (Array.getElem?_eq_some_iff.1 h1).1
  have gn : some go ≠ (Value.slice so q sc).ownBlock := fun e => by have := (h2.row.lt go e.symm).1; omega
  have hpush := h2.push (k := k) (gg := gg) (c := c) (y := y) hq b4 h6 q4 o5 g5' a5
  have e1 : (W5.setCell ⟨go, 0, none⟩ (.slice (some ⟨g5, 0, none⟩) (q + 1) cap5)).heap[go]? = some (.cells #[.slice (some ⟨g5, 0, none⟩) (q + 1) cap5] 25 (0, 0)) := heap_setCell_same W5 go 0 _ _ _ ((g5'.block go (Nat.lt_of_lt_of_le gw1 b4.size) gn).trans ((b4.block go gw1).trans h1))
  have hoth : ∀ b, b ≠ go → (W5.setCell ⟨go, 0, none⟩ (.slice (some ⟨g5, 0, none⟩) (q + 1) cap5)).heap[b]? = W5.heap[b]? := fun b hb => heap_setCell_other _ _ _ _ hb
  have hfr : Fr (fun j => j = go ∨ (Value.slice so q sc).ownBlock = some j) W (W5.setCell ⟨go, 0, none⟩ (.slice (some ⟨g5, 0, none⟩) (q + 1) cap5)) := (Fr.of b4).trans (G' := fun j => j = go ∨ (Value.slice so q sc).ownBlock = some j) ⟨g5'.os, g5'.tape, g5'.output, by rw [sz_setCell]; exact g5'.size, fun j hj hnn => (hoth j (fun e => hnn (.inl e))).trans (g5'.block j hj (fun e => hnn (.inr e.symm)))⟩ (fun _ _ e => e)
  obtain ⟨W6, hW6⟩ : ∃ W6, W5.setCell ⟨go, 0, none⟩ (.slice (some ⟨g5, 0, none⟩) (q + 1) cap5) = W6 := ⟨_, rfl⟩
  have hsz : W5.heap.size ≤ W6.heap.size := by rw [← hW6, sz_setCell]; exact Nat.le_refl _
  rw [hW6] at e1 hoth hfr ⊢
  refine ⟨⟨hfr.size, fun b o _ hb ho => (hfr.block b (Array.getElem?_eq_some_iff.1 hb).1 (fun e => ?_)).trans hb⟩, ⟨fun b hb => hfr.block b (by have := hb.1; omega) (fun e => ?_), fun b c' T f hT hb => (hfr.block b (Array.getElem?_eq_some_iff.1 hb).1 (fun e => ?_)).trans hb⟩, ⟨⟨_, _, e1, hpush.to (Nat.le_refl _) hsz (fun b hb _ _ => hoth b (by omega)), by rw [List.map_append, h3, List.flatMap_append, List.flatMap_singleton, hx]; rfl, by simp; omega⟩, h5.trans (hfr.below h5.size (fun j hj => ?_)), Nat.le_trans h6 hfr.size⟩⟩
  · rcases e with e | e
    · rw [e, h1] at hb
      cases hb
      cases ho
    · obtain ⟨c', hc⟩ := row_ty h2.row e
      rw [hc] at hb
      cases hb
      cases ho
  · rcases e with e | e
    · exact hb.2 e
    · have := (h2.row.lt b e).1
      have := hb.1
      omega
  · subst hT
    rcases e with e | e
    · rw [e, h1] at hb
      simp only [Option.some.injEq, Obj.cells.injEq] at hb
      exact absurd hb.2.1 (by decide)
    · obtain ⟨c', hc⟩ := row_ty h2.row e
      rw [hc] at hb
      simp only [Option.some.injEq, Obj.cells.injEq] at hb
      exact absurd hb.2.1 (by decide)
  · rcases hj with hj | hj
    · omega
    · have h8 := (h2.row.lt j hj).1
      omega
end Go.Proofs.Ytlmgiimgmjbkeaa

namespace Go.Proofs.Ytlmgiimgmjbkeaa
open Go.RowKit
set_option linter.unusedVariables false
set_option linter.unusedSimpArgs false

/-- where a key stands, or none -/
def FindR (es : List En) (s : ByteArray) (r : Int) : Prop := (∃ (i : Nat) (v : Vl), r = (i : Int) ∧ es[i]? = some (s, v)) ∨ (r = -1 ∧ ∀ e ∈ es, ¬ e.1 = s)

theorem bytes_beqR (s t : ByteArray) : (s.toList == t.toList) = true ↔ s = t := bytes_beq s t

set_option maxRecDepth 100000 in
set_option maxHeartbeats 1000000 in
theorem find_any (es : List En) (s : ByteArray) (al : Option Addr) (n cl B : Nat) (w : World) (hn : es.length = n) (h : IsE w (fun b => b < B) es al cl) (hB : B ≤ w.heap.size) :
    Calls Try.prog 54 #[.slice al n cl, .string s] w fun e w' => ∃ r : Int, e = .returned (.int .i64 r) ∧ FindR es s r ∧ Below w.heap.size w w' := by
  have hl := h.len
  rw [hn] at hl
  have HV : Hid (∀ u, Below w.heap.size w u → IsE u (fun b => b < B) es al cl) := hide (fun u hu => h.later (hu.mono hB))
  have HN := hide hn
  clear h hn hB
  go_enter Try.func54, Try.ntmps54
  go_wp2_with fail
  go_loopw [5] (fun x wr => ∃ (i : Nat), x = .int .i64 (i : Int) ∧ Hid (i ≤ n ∧ Below w.heap.size w wr ∧ ∀ e ∈ es.take i, ¬ e.1 = s)) (fun x _ => n - (intOf x).toNat)
  case atStart => exact ⟨0, rfl, hide ⟨by omega, Below.refl _ _, fun e he => by simp at he⟩⟩
  case round =>
    obtain ⟨i, rfl, HX⟩ := hrel
    by_cases hlt : i < n
    · have i1 : (i : Int) < (n : Int) := by omega
      have HI1 : Hid (i + 1 ≤ n) := hide (by omega)
      obtain ⟨⟨k, v⟩, he⟩ : ∃ e, es[i]? = some e := ⟨_, List.getElem?_eq_getElem (by have := unhide HN; omega)⟩
      obtain ⟨a, x0, x1, x2, al', ak', ll', m', cl', ck', rfl, _, _, hc, _⟩ := (unhide HV wr (unhide HX).2.1).elem i _ he
      dsimp only at hc
      have c0 : wr.cell? (a.add (i * 6)) = some (.string k) := hc 0 _ rfl
      have HE := hide he
      clear hc he
      cases hbe : (k.toList == s.toList) with
      | true =>
        have HK : Hid (k = s) := hide ((bytes_beqR k s).1 hbe)
        go_wp2_with fail
        go_ret
        exact ⟨(i : Int), rfl, Or.inl ⟨i, v, rfl, by rw [unhide HE, unhide HK]⟩, (unhide HX).2.1⟩
      | false =>
        have HX2 : Hid (i + 1 ≤ n ∧ Below w.heap.size w wr ∧ ∀ e ∈ es.take (i + 1), ¬ e.1 = s) := hide ⟨unhide HI1, (unhide HX).2.1, fun e hm => by
          rw [List.take_add_one, unhide HE] at hm
          rcases List.mem_append.1 hm with hm | hm
          · exact (unhide HX).2.2 e hm
          · have e1 : e = (k, v) := by simpa using hm
            rw [e1]
            intro hks
            rw [(bytes_beqR k s).2 hks] at hbe
            cases hbe⟩
        go_wp2_with fail
        go_roundw
        case rel => exact ⟨i + 1, by go_num, HX2⟩
        case measure => have := unhide HI1; simp [intOf]; omega
    · have i1 : ¬ (i : Int) < (n : Int) := by omega
      have HF : Hid (∀ e ∈ es, ¬ e.1 = s) := hide (by
        have h1 := (unhide HX).2.2
        rw [List.take_of_length_le (by have := unhide HN; omega)] at h1
        exact h1)
      go_wp2_with fail
      go_ret
      exact ⟨-1, rfl, Or.inr ⟨rfl, unhide HF⟩, (unhide HX).2.1⟩
end Go.Proofs.Ytlmgiimgmjbkeaa

namespace Go.Proofs.Ytlmgiimgmjbkeaa
open Go.RowKit Go.Shelf
set_option linter.unusedVariables false
set_option linter.unusedSimpArgs false

/-- a change's cells -/
abbrev Cc := ByteArray × Bool × Int × Int × ByteArray × Option Addr × Nat × Nat × Option Addr × Nat × Nat

def ccL : Cc → List Value
  | (k, g, t0, t1, t2, t3, t4, t5, t6, t7, t8) => [.string k, .bool g, .int .i64 t0, .int .i64 t1, .string t2, .slice t3 t4 t5, .slice t6 t7 t8]

/-- a side of changes: a change or none -/
def sdC : Option Cc → List Value
  | some (k, g, t0, t1, t2, t3, t4, t5, t6, t7, t8) => [.string k, .bool g, .int .i64 t0, .int .i64 t1, .string t2, .slice t3 t4 t5, .slice t6 t7 t8, .bool true]
  | none => [.string ⟨#[]⟩, .bool false, .int .i64 0, .int .i64 0, .string ⟨#[]⟩, .slice none 0 0, .slice none 0 0, .bool false]

/-- changes' cells lie in memory -/
def RwC (w : World) (N : Nat → Prop) (ka : List ByteArray) (al : Option Addr) (C : Nat → Cc) : Prop := ∀ i k, ka[i]? = some k → (C i).1 = k ∧ ∃ a, al = some a ∧ N a.block ∧ a.block < w.heap.size ∧ ∀ j v, (ccL (C i))[j]? = some v → w.cell? ((a.add (i * 7)).add j) = some v

theorem RwC.to {w w' : World} {N : Nat → Prop} {ka : List ByteArray} {al : Option Addr} {C : Nat → Cc} (h : RwC w N ka al C) (hk : ∀ b, N b → w'.heap[b]? = w.heap[b]?) : RwC w' N ka al C := by
  intro i k hi
  obtain ⟨h1, a, h2, h3, h4, h5⟩ := h i k hi
  have hb := hk _ h3
  refine ⟨h1, a, h2, h3, ?_, fun j v hv => ?_⟩
  · obtain ⟨o, ho⟩ : ∃ o, w.heap[a.block]? = some o := ⟨_, Array.getElem?_eq_getElem h4⟩
    exact (Array.getElem?_eq_some_iff.1 (hb.trans ho)).1
  · exact (World.cell?_of_block (by rw [block_add, block_add]; exact hb)).trans (h5 j v hv)

theorem RwC.weak {w : World} {N N' : Nat → Prop} {ka : List ByteArray} {al : Option Addr} {C : Nat → Cc} (h : RwC w N ka al C) (hN : ∀ b, N b → N' b) : RwC w N' ka al C := fun i k hi => by
  obtain ⟨h1, a, h2, h3, h4, h5⟩ := h i k hi
  exact ⟨h1, a, h2, hN _ h3, h4, h5⟩

theorem set8 {w : World} {q : Nat} {z0 z1 z2 z3 z4 z5 z6 z7 : Value} {T : TypeId} (h : w.heap[q]? = some (.cells #[z0, z1, z2, z3, z4, z5, z6, z7] T (0, 0))) (y0 y1 y2 y3 y4 y5 y6 y7 : Value) :
    ((((((((w.setCell ⟨q, 0, none⟩ y0).setCell ⟨q, 1, none⟩ y1).setCell ⟨q, 2, none⟩ y2).setCell ⟨q, 3, none⟩ y3).setCell ⟨q, 4, none⟩ y4).setCell ⟨q, 5, none⟩ y5).setCell ⟨q, 6, none⟩ y6).setCell ⟨q, 7, none⟩ y7).heap[q]? = some (.cells #[y0, y1, y2, y3, y4, y5, y6, y7] T (0, 0)) := by
  have e0 := heap_setCell_same w q 0 _ T y0 h
  simp only [List.setIfInBounds_toArray, List.set_cons_zero, List.set_cons_succ] at e0
  have e1 := heap_setCell_same _ q 1 _ T y1 e0
  simp only [List.setIfInBounds_toArray, List.set_cons_zero, List.set_cons_succ] at e1
  have e2 := heap_setCell_same _ q 2 _ T y2 e1
  simp only [List.setIfInBounds_toArray, List.set_cons_zero, List.set_cons_succ] at e2
  have e3 := heap_setCell_same _ q 3 _ T y3 e2
  simp only [List.setIfInBounds_toArray, List.set_cons_zero, List.set_cons_succ] at e3
  have e4 := heap_setCell_same _ q 4 _ T y4 e3
  simp only [List.setIfInBounds_toArray, List.set_cons_zero, List.set_cons_succ] at e4
  have e5 := heap_setCell_same _ q 5 _ T y5 e4
  simp only [List.setIfInBounds_toArray, List.set_cons_zero, List.set_cons_succ] at e5
  have e6 := heap_setCell_same _ q 6 _ T y6 e5
  simp only [List.setIfInBounds_toArray, List.set_cons_zero, List.set_cons_succ] at e6
  have e7 := heap_setCell_same _ q 7 _ T y7 e6
  simp only [List.setIfInBounds_toArray, List.set_cons_zero, List.set_cons_succ] at e7
  exact e7

theorem set8_below {w w0 : World} {B q : Nat} (h : Below B w0 w) (hq : B ≤ q) (y0 y1 y2 y3 y4 y5 y6 y7 : Value) :
    Below B w0 ((((((((w.setCell ⟨q, 0, none⟩ y0).setCell ⟨q, 1, none⟩ y1).setCell ⟨q, 2, none⟩ y2).setCell ⟨q, 3, none⟩ y3).setCell ⟨q, 4, none⟩ y4).setCell ⟨q, 5, none⟩ y5).setCell ⟨q, 6, none⟩ y6).setCell ⟨q, 7, none⟩ y7) :=
  ((((((((h.setCell (p := ⟨q, 0, none⟩) hq _).setCell (p := ⟨q, 1, none⟩) hq _).setCell (p := ⟨q, 2, none⟩) hq _).setCell (p := ⟨q, 3, none⟩) hq _).setCell (p := ⟨q, 4, none⟩) hq _).setCell (p := ⟨q, 5, none⟩) hq _).setCell (p := ⟨q, 6, none⟩) hq _).setCell (p := ⟨q, 7, none⟩) hq _)

theorem set8_other {w : World} {q b : Nat} (hb : b ≠ q) (y0 y1 y2 y3 y4 y5 y6 y7 : Value) :
    ((((((((w.setCell ⟨q, 0, none⟩ y0).setCell ⟨q, 1, none⟩ y1).setCell ⟨q, 2, none⟩ y2).setCell ⟨q, 3, none⟩ y3).setCell ⟨q, 4, none⟩ y4).setCell ⟨q, 5, none⟩ y5).setCell ⟨q, 6, none⟩ y6).setCell ⟨q, 7, none⟩ y7).heap[b]? = w.heap[b]? := by
  rw [heap_setCell_other _ _ _ _ hb, heap_setCell_other _ _ _ _ hb, heap_setCell_other _ _ _ _ hb, heap_setCell_other _ _ _ _ hb, heap_setCell_other _ _ _ _ hb, heap_setCell_other _ _ _ _ hb, heap_setCell_other _ _ _ _ hb, heap_setCell_other _ _ _ _ hb]

theorem row_cell8 {w : World} {g : Nat} {x0 x1 x2 x3 x4 x5 x6 x7 : Value} {T : TypeId} (h : w.heap[g]? = some (.cells #[x0, x1, x2, x3, x4, x5, x6, x7] T (0, 0))) :
    w.cell? ⟨g, 0, none⟩ = some x0 ∧ w.cell? ⟨g, 1, none⟩ = some x1 ∧ w.cell? ⟨g, 2, none⟩ = some x2 ∧ w.cell? ⟨g, 3, none⟩ = some x3 ∧ w.cell? ⟨g, 4, none⟩ = some x4 ∧ w.cell? ⟨g, 5, none⟩ = some x5 ∧ w.cell? ⟨g, 6, none⟩ = some x6 ∧ w.cell? ⟨g, 7, none⟩ = some x7 :=
  ⟨by rw [cell_of_row w g 0 _ _ (0, 0) h]; rfl, by rw [cell_of_row w g 1 _ _ (0, 0) h]; rfl, by rw [cell_of_row w g 2 _ _ (0, 0) h]; rfl, by rw [cell_of_row w g 3 _ _ (0, 0) h]; rfl, by rw [cell_of_row w g 4 _ _ (0, 0) h]; rfl, by rw [cell_of_row w g 5 _ _ (0, 0) h]; rfl, by rw [cell_of_row w g 6 _ _ (0, 0) h]; rfl, by rw [cell_of_row w g 7 _ _ (0, 0) h]; rfl⟩

set_option maxRecDepth 100000 in
theorem ckey_any (k : ByteArray) (g : Bool) (k0 n0 : Int) (s0 : ByteArray) (al ak : Option Addr) (ll cl lk ck : Nat) (w : World) :
    Calls Try.prog 33 #[.agg #[.string k, .bool g, .int .i64 k0, .int .i64 n0, .string s0, .slice al ll cl, .slice ak lk ck]] w fun e w' => e = .returned (.string k) ∧ Below w.heap.size w w' := by
  go_enter Try.func33, Try.ntmps33
  go_wp2_with fail
  go_ret
  exact ⟨rfl, (Below.refl _ _).alloc (Nat.le_refl _) _⟩

theorem sd_takeG {α β γ : Type} {en : α → Option β × Option γ} {ps : List α} {ka kb : List ByteArray} {CA : Nat → β} {CB : Nat → γ} {k f i j : Nat} (oa ob : Option Nat) (i' j' : Nat) (h : i < ka.length ∨ j < kb.length) (hf : (ka.length - i) + (kb.length - j) ≤ f) (A B : Bool) (hA : inA ka kb i j = A) (hB : inB ka kb i j = B) (ha : oa = if A then some i else none) (hb : ob = if B then some j else none) (hi' : i' = if A then i + 1 else i) (hj' : j' = if B then j + 1 else j)
    (hm : (ps.drop k).map en = (sdN ka kb f i j).map (fun x => (x.1.map CA, x.2.map CB))) : ∃ p f', ps.take k ++ [p] = ps.take (k + 1) ∧ en p = (oa.map CA, ob.map CB) ∧ (ps.drop (k + 1)).map en = (sdN ka kb f' i' j').map (fun x => (x.1.map CA, x.2.map CB)) ∧ f = f' + 1 ∧ (ps.take k).length < ps.length := by
  obtain ⟨f', hf', hs⟩ := sdN_step ka kb f i j oa ob i' j' h hf A B hA hB ha hb hi' hj'
  rw [hs, List.map_cons] at hm
  cases hd : ps.drop k with
  | nil => rw [hd] at hm; cases hm
  | cons p r =>
    rw [hd, List.map_cons] at hm
    injection hm with h1 h2
    have hk : k < ps.length := by
      rcases Nat.lt_or_ge k ps.length with h | h
      · exact h
      · rw [List.drop_of_length_le h] at hd
        cases hd
    have hp : ps[k]? = some p := by rw [← List.head?_drop, hd]; rfl
    have hr : ps.drop (k + 1) = r := by rw [← List.tail_drop, hd]; rfl
    exact ⟨p, f', by rw [List.take_add_one, hp]; rfl, h1, by rw [hr]; exact h2, hf', by rw [List.length_take]; omega⟩
end Go.Proofs.Ytlmgiimgmjbkeaa
