/-
  slices.Clone of texts and of values: the same cells in new memory; conditions: the form's own reach.
  The two rows of a value that is its owner's, as rows of the call's own; no conditions.
-/
import Derived.Test.YtgkmdjmigehmeaaGreatDoorJ21
set_option linter.unusedVariables false
set_option linter.unusedSimpArgs false
namespace Go.Proofs.YtgkmdjmigehmeaaGreatDoor
open Go.RowKit
set_option linter.unusedVariables false
set_option linter.unusedSimpArgs false

/-- the cells that a slice shows -/
structure Shows (w : World) (ao : Option Addr) (len cap size : Nat) (xs : List Value) : Prop where
  length : xs.length = len * size
  none : ao = none → len = 0 ∧ cap = 0
  cells : ∀ a, ao = some a → ∀ j u, xs[j]? = some u → w.cell? (a.add j) = some u
  one : ∀ u ∈ xs, u.oneCell' = true

theorem made0 (w : World) (e : TypeId) (size : Nat) : (w.alloc (.cells #[] e)).ownsRow w.heap.size e size (.slice (some ⟨w.heap.size, 0, none⟩) 0 0) 0 [] :=
  World.ownsRow_made (base := w.heap.size) w #[] 0 (Nat.le_refl _) (Nat.zero_le _) (by simp)

set_option maxRecDepth 100000 in
set_option maxHeartbeats 400000 in
theorem cloneS (ao : Option Addr) (len cap : Nat) (xs : List Value) (w : World) (h : Shows w ao len cap 1 xs) (hb : len * 16 ≤ 140737488355328) :
    Calls Tryz.prog 133 #[.slice ao len cap] w fun e w' => ∃ v', e = .returned v' ∧ w'.ownsRow w.heap.size 9 1 v' len xs ∧ Below w.heap.size w w' := by
  cases ao with
  | none =>
    obtain ⟨rfl, rfl⟩ := h.none rfl
    obtain rfl : xs = [] := List.eq_nil_of_length_eq_zero (by simpa using h.length)
    clear h
    have he : ∀ w : World, (binOp .eql 23 (.slice none 0 0) (.slice none 0 0)).run Tryz.prog w = .ok (.bool true) w := fun _ => rfl
    go_enter Tryz.func133, Tryz.ntmps133
    go_wp2_with fail
    go_ret
    exact ⟨_, rfl, World.ownsRow_nil _ _ _ _, Below.refl _ _⟩
  | some a =>
    obtain ⟨i0, hi, hz0, hz1, hz2⟩ := info_parts infoSc
    have HI := hide (And.intro hi (And.intro hz0 (And.intro hz1 hz2)))
    have B1 : Below w.heap.size w (w.alloc (.cells #[] 9)) := (Below.refl _ _).alloc (Nat.le_refl _) _
    have HB1 := hide B1
    have HM := hide (made0 w 9 1)
    have HC : Hid (∀ j u, xs[j]? = some u → (w.alloc (.cells #[] 9)).cell? (a.add j) = some u) := hide (fun j u hu => by
      have h1 := h.cells a rfl j u hu
      rw [B1.cell (World.block_lt_of_cell? _ _ (by rw [h1]))]
      exact h1)
    have HX := hide (And.intro h.length h.one)
    have he : ∀ w : World, (binOp .eql 23 (.slice (some a) len cap) (.slice none 0 0)).run Tryz.prog w = .ok (.bool false) w := fun _ => rfl
    clear hi hz0 hz1 hz2 B1 h
    go_enter Tryz.func133, Tryz.ntmps133
    go_wp2_with (first | (at_builtin; refine wpList_append_own _ rfl (.tmp 5) (.tmp 6) 23 rfl w.heap.size 9 i0 (.string ⟨#[]⟩) 1 16 Tryz.underlying23 (unhide HI).1 (unhide HI).2.1 (unhide HI).2.2.1 (unhide HI).2.2.2 rfl (by omega) _ 0 [] rfl (unhide HM) a len cap xs rfl (unhide HX).1 (unhide HC) (unhide HX).2 (by unfold maxLen; omega) (by omega) (by simp) ?_; intro v2 w2 hown2 hgrow2 _; have H2 := hide (And.intro hown2 hgrow2); clear hown2 hgrow2))
    go_ret
    obtain ⟨ho, hg⟩ := unhide H2
    refine ⟨_, rfl, by simpa using ho, (unhide HB1).grown hg (by simp) (fun k hk => ?_)⟩
    cases hk
    exact Nat.le_refl _
set_option maxRecDepth 100000 in
set_option maxHeartbeats 400000 in
theorem cloneV (ao : Option Addr) (len cap : Nat) (xs : List Value) (w : World) (h : Shows w ao len cap 5 xs) (hb : len * 80 ≤ 140737488355328) :
    Calls Tryz.prog 110 #[.slice ao len cap] w fun e w' => ∃ v', e = .returned v' ∧ w'.ownsRow w.heap.size 25 5 v' len xs ∧ Below w.heap.size w w' := by
  cases ao with
  | none =>
    obtain ⟨rfl, rfl⟩ := h.none rfl
    obtain rfl : xs = [] := List.eq_nil_of_length_eq_zero (by simpa using h.length)
    clear h
    have he : ∀ w : World, (binOp .eql 22 (.slice none 0 0) (.slice none 0 0)).run Tryz.prog w = .ok (.bool true) w := fun _ => rfl
    go_enter Tryz.func110, Tryz.ntmps110
    go_wp2_with fail
    go_ret
    exact ⟨_, rfl, World.ownsRow_nil _ _ _ _, Below.refl _ _⟩
  | some a =>
    obtain ⟨i0, hi, hz0, hz1, hz2⟩ := info_parts infoVc
    have HI := hide (And.intro hi (And.intro hz0 (And.intro hz1 hz2)))
    have B1 : Below w.heap.size w (w.alloc (.cells #[] 25)) := (Below.refl _ _).alloc (Nat.le_refl _) _
    have HB1 := hide B1
    have HM := hide (made0 w 25 5)
    have HC : Hid (∀ j u, xs[j]? = some u → (w.alloc (.cells #[] 25)).cell? (a.add j) = some u) := hide (fun j u hu => by
      have h1 := h.cells a rfl j u hu
      rw [B1.cell (World.block_lt_of_cell? _ _ (by rw [h1]))]
      exact h1)
    have HX := hide (And.intro h.length h.one)
    have he : ∀ w : World, (binOp .eql 22 (.slice (some a) len cap) (.slice none 0 0)).run Tryz.prog w = .ok (.bool false) w := fun _ => rfl
    clear hi hz0 hz1 hz2 B1 h
    go_enter Tryz.func110, Tryz.ntmps110
    go_wp2_with (first | (at_builtin; refine wpList_append_own _ rfl (.tmp 5) (.tmp 6) 22 rfl w.heap.size 25 i0 (.agg #[.int .i64 0, .int .i64 0, .string ⟨#[]⟩, .slice none 0 0, .slice none 0 0]) 5 80 Tryz.underlying22 (unhide HI).1 (unhide HI).2.1 (unhide HI).2.2.1 (unhide HI).2.2.2 rfl (by omega) _ 0 [] rfl (unhide HM) a len cap xs rfl (unhide HX).1 (unhide HC) (unhide HX).2 (by unfold maxLen; omega) (by omega) (by simp) ?_; intro v2 w2 hown2 hgrow2 _; have H2 := hide (And.intro hown2 hgrow2); clear hown2 hgrow2))
    go_ret
    obtain ⟨ho, hg⟩ := unhide H2
    refine ⟨_, rfl, by simpa using ho, (unhide HB1).grown hg (by simp) (fun k hk => ?_)⟩
    cases hk
    exact Nat.le_refl _
end Go.Proofs.YtgkmdjmigehmeaaGreatDoor

namespace Go.Proofs.YtgkmdjmigehmeaaGreatDoor
open Go.RowKit
set_option linter.unusedVariables false
set_option linter.unusedSimpArgs false

theorem add_at0 (b j : Nat) : (⟨b, 0, none⟩ : Addr).add j = ⟨b, j, none⟩ := by
  unfold Addr.add
  split <;> simp_all

theorem keys_own {w : World} {P : Nat → Prop} {base : Nat} {kind n : Int} {s : ByteArray} {l : List Vl} {ks : List ByteArray} {al ak : Option Addr} {cl ck : Nat} {V : Nat → List Value} (hk : TyK w P ak ks.length ck) (hf : VF w P kind n s l ks al ak cl ck V) (hb : ∀ b, P b → base ≤ b) :
    w.ownsRow base 9 1 (.slice ak ks.length ck) ks.length (ks.map Value.string) := by
  refine ⟨by simp, ?_⟩
  rcases hk with ⟨rfl, h0, rfl⟩ | ⟨b, cs, rfl, hp, hg, hs, hm, hc, _⟩
  · exact .inl ⟨by rw [h0], h0⟩
  · refine .inr ⟨b, ck, cs, rfl, hb b hp, hg, hm, hc, by omega, ?_⟩
    apply List.ext_getElem?
    intro i
    rw [Nat.mul_one, List.getElem?_take]
    by_cases hi : i < ks.length
    · rw [if_pos hi, List.getElem?_map, List.getElem?_eq_getElem hi]
      have h1 := (hf.hk _ rfl i ks[i] (List.getElem?_eq_getElem hi)).2
      rw [add_at0, cell_of_row w b i cs 9 (0, 0) hg] at h1
      simpa using h1
    · rw [if_neg hi, List.getElem?_eq_none (by simpa using Nat.le_of_not_lt hi)]

theorem els_own {w : World} {P : Nat → Prop} {R : Value → Prop} {base : Nat} {kind n : Int} {s : ByteArray} {l : List Vl} {ks : List ByteArray} {al ak : Option Addr} {cl ck : Nat} {V : Nat → List Value} (hk : TyL w P R al l.length cl) (hf : VF w P kind n s l ks al ak cl ck V) (hb : ∀ b, P b → base ≤ b) :
    w.ownsRow base 25 5 (.slice al l.length cl) l.length (flat V l.length) := by
  refine ⟨flat_len V l.length hf.hv, ?_⟩
  rcases hk with ⟨rfl, h0, rfl⟩ | ⟨b, cs, rfl, hp, hg, hs, hm, hc, _⟩
  · exact .inl ⟨by rw [h0], h0⟩
  · refine .inr ⟨b, cl, cs, rfl, hb b hp, hg, hm, hc, hs, ?_⟩
    have hfl := flat_len V l.length hf.hv
    apply List.ext_getElem?
    intro q
    rw [List.getElem?_take]
    by_cases hq : q < l.length * 5
    · rw [if_pos hq]
      have h5 := hf.hv (q / 5) (by omega)
      have h1 := (hf.hl _ rfl (q / 5) (by omega)).2 (q % 5) ((V (q / 5))[q % 5]'(by omega)) (List.getElem?_eq_getElem (by omega))
      have h2 := flat_at V l.length hf.hv (q / 5) (by omega) (q % 5) ((V (q / 5))[q % 5]'(by omega)) (List.getElem?_eq_getElem (by omega))
      have e : q / 5 * 5 + q % 5 = q := by omega
      rw [e] at h2
      rw [h2]
      have ea : ((⟨b, 0, none⟩ : Addr).add (q / 5 * 5)).add (q % 5) = ⟨b, q, none⟩ := by
        rw [add_at0]
        unfold Addr.add
        split
        all_goals (simp; try omega)
      rw [ea, cell_of_row w b q cs _ (0, 0) hg] at h1
      simpa using h1
    · rw [if_neg hq, List.getElem?_eq_none (by omega)]

/-- a value that is its owner's: its two rows, and what its elements are -/
theorem IsQ.rows {w : World} {P : Nat → Prop} {base : Nat} {kind n k' n' : Int} {s s' : ByteArray} {l : List Vl} {ks : List ByteArray} {al ak : Option Addr} {ll m cl ck : Nat} (h : IsQ w P (.mk kind n s l ks) (.agg #[.int .i64 k', .int .i64 n', .string s', .slice al ll cl, .slice ak m ck])) (hb : ∀ b, P b → base ≤ b) :
    ll = l.length ∧ m = ks.length ∧ ∃ V, w.ownsRow base 25 5 (.slice al l.length cl) l.length (flat V l.length) ∧ w.ownsRow base 9 1 (.slice ak ks.length ck) ks.length (ks.map Value.string) ∧ VF w P kind n s l ks al ak cl ck V ∧ ∀ i y, l[i]? = some y → IsP w P y (.agg (V i).toArray) := by
  obtain ⟨rfl, rfl, rfl, rfl, rfl, V, hf, el⟩ := h.1.at
  have hd := dep_pos (.mk k' n' s' l ks)
  obtain ⟨r, hr⟩ : ∃ r, dep (.mk k' n' s' l ks) = r + 1 := ⟨dep (.mk k' n' s' l ks) - 1, by omega⟩
  have ht := h.2
  rw [hr] at ht
  obtain ⟨_, _, _, _, _, _, _, _, _, e, hl, hk⟩ := ht
  simp only [Value.agg.injEq, Array.mk.injEq, List.cons.injEq, Value.int.injEq, Value.string.injEq, Value.slice.injEq, and_true, true_and] at e
  obtain ⟨_, _, _, ⟨rfl, rfl, rfl⟩, rfl, rfl, rfl⟩ := e
  exact ⟨rfl, rfl, V, els_own hl hf hb, keys_own hk hf hb, hf, el⟩
end Go.Proofs.YtgkmdjmigehmeaaGreatDoor
