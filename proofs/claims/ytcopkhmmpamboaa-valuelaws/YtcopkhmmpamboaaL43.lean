/-
  slices.SortFunc on entries in a row of the call's own; no other conditions.
-/
import Derived.Test.YtcopkhmmpamboaaL41
import Derived.Test.YtcopkhmmpamboaaL42
import Derived.Shelf.SlSortCmp.NoneTotal
import Derived.Laws.OwnMore
namespace Go.Proofs.Ytcopkhmmpamboaa
open Go.RowKit Go.Shelf Go.Lib Go.Sort
set_option linter.unusedVariables false
set_option linter.unusedSimpArgs false

theorem sorted_below (base b n : Nat) (d : Array Ent) (w : World) (os : Array Obj) (hb : base ≤ b) (hbs : b < w.heap.size) : Go.RowKit.Below base w (sortWorldK encE 6 w b 0 n d os) := by
  refine ⟨rfl, rfl, rfl, size_sortWorldK_c encE 6 w b 0 n d os, fun k hk => ?_⟩
  unfold sortWorldK putRowK putRow mapBlock grow Sort.ahead
  simp only
  rw [Array.getElem?_append_left (by rw [Array.size_modify]; omega), Array.getElem?_modify, if_neg (by omega)]

set_option maxHeartbeats 1000000 in
theorem sort_any (base cap : Nat) (ao : Option Addr) (d : Array Ent) (w : World) (ho : w.ownsRow base 29 6 (.slice ao d.size cap) d.size (flatK encE 6 d).toList) (hsz : d.size ≤ 2048) :
    Calls Try.prog 23 #[.slice ao d.size cap, .func (.func 24) #[] #[]] w fun e w' => e = .returned (.tuple #[]) ∧ Go.RowKit.Below base w w' ∧ ∃ d' : Array Ent, d'.size = d.size ∧ d'.toList.Perm d.toList ∧ (∀ i j, i < j → j < d.size → bl d'[j]!.1 d'[i]!.1 = false) ∧ Shows w' ao d.size cap 6 (flatK encE 6 d').toList := by
  have hone : ∀ d' : Array Ent, ∀ u ∈ (flatK encE 6 d').toList, u.oneCell' = true := fun d' u hu => by
    obtain ⟨t, ht⟩ := List.getElem?_of_mem hu
    have h1 := (List.getElem?_eq_some_iff.1 ht).1
    rw [Array.length_toList, size_flatK] at h1
    have h2 := get_flatK encE 6 d' t h1
    have h3 : (flatK encE 6 d')[t]! = u := by
      rw [getElem!_pos _ t (by rw [size_flatK]; exact h1)]
      rw [Array.getElem?_toList, Array.getElem?_eq_getElem (by rw [size_flatK]; exact h1)] at ht
      exact Option.some.inj ht
    rw [← h3, h2]
    have hm : t % 6 < 6 := Nat.mod_lt _ (by omega)
    generalize t % 6 = q at hm
    match q, hm with
    | 0, _ => rfl
    | 1, _ => rfl
    | 2, _ => rfl
    | 3, _ => rfl
    | 4, _ => rfl
    | 5, _ => rfl
  generalize hv : Value.slice ao d.size cap = v at ho
  rcases ho.2 with ⟨rfl, h0⟩ | ⟨b, c, cur, rfl, hb, hg, _⟩
  · simp only [Value.slice.injEq] at hv
    obtain ⟨rfl, _, rfl⟩ := hv
    refine (AnyF.slices_SortFunc_none sortEnt none 0 _ w).mono ?_
    rintro e w' ⟨rfl, rfl⟩
    refine ⟨rfl, Go.RowKit.Below.refl _ _, d, rfl, List.Perm.refl _, fun i j h1 h2 => by omega, ⟨ho.1, fun _ => ⟨h0, rfl⟩, fun a ha => by (cases ha), hone d⟩⟩
  · cases hv
    have hbs : b < w.heap.size := (ho.lt b rfl).2
    have hH : HoldsK encE 6 w b 0 d := fun j hj => by
      rw [size_flatK] at hj
      rw [Nat.zero_add]
      refine ⟨?_, ho.frozenAt j⟩
      rw [ho.cellAt j hj, Array.getElem?_toList, Array.getElem?_eq_getElem (by rw [size_flatK]; exact hj), getElem!_pos _ j (by rw [size_flatK]; exact hj)]
      rfl
    refine (sortE b 0 cap d w hH hbs (by omega)).mono ?_
    rintro e w' ⟨rfl, d', n, os, hp, hs, rfl⟩
    have hsd := hp.1
    refine ⟨rfl, sorted_below base b n d' w os hb hbs, d', hsd, ?_, fun i j h1 h2 => ?_, ⟨by rw [Array.length_toList, size_flatK, hsd], fun e => by (cases e), fun a ha j u hu => ?_, hone d'⟩⟩
    · have h1 := hp.2.2
      rw [← hsd, Array.extract_size, hsd, Array.extract_size] at h1
      exact h1
    · have h3 := hs i j (Nat.zero_le _) h1 h2
      rw [ltE] at h3
      exact h3
    · cases ha
      have hH' := holdsK_sortWorldK_c encE 6 w b 0 d d' n os hH hbs hsd
      have hj := (List.getElem?_eq_some_iff.1 hu).1
      rw [Array.length_toList] at hj
      have h4 := (hH' j hj).1
      rw [Array.getElem?_toList, Array.getElem?_eq_getElem hj] at hu
      rw [Nat.zero_add, getElem!_pos _ j hj] at h4
      have ea : (⟨b, 0, none⟩ : Addr).add j = ⟨b, j, none⟩ := by unfold Addr.add; split <;> simp_all
      rw [ea, h4, ← hu]
      rfl
end Go.Proofs.Ytcopkhmmpamboaa
