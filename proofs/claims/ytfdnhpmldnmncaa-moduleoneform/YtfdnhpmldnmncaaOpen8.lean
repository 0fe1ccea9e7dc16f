/-
  How a slice of bytes among the arguments is opened: its elements as a list of numbers, its capacity within the form's own reach; no conditions.
-/
import Derived.Test.YtfdnhpmldnmncaaBase
import Derived.Test.YtfdnhpmldnmncaaRows
import Derived.ProofKit
import Derived.ShutString
import Derived.ChangeOld
import Derived.SizedLaws
namespace Go.Proofs.Ytfdnhpmldnmncaa
open Go.ChangeShapes Go.WideShapes Go.ChangeAt Go.RowKit

theorem cells5 : Try.prog.cellsOf 5 = 1 := by kernel_rfl

theorem open_row8 {H : Type} {enc : TypeId × Value → H} {W : World} {a0 : Option Addr} {len cap : Nat} {d0 : DataW H} {p0 : List MemPlace} (h0 : DataW.Trod enc Try.prog W 0 (fun _ => true) true 22 (.slice a0 len cap) d0 p0) :
    ∃ zs, Row8 W a0 len cap zs ∧ cap ≤ maxLen ∧ (cap = 0 ∨ ∃ elems spare, d0 = .slice elems spare ∧ elems.length + spare.length = cap) := by
  obtain ⟨fuel, hf⟩ := h0
  rcases open_ints Try.underlying22 Try.underlying5 cells5 hf with ⟨hcs, _⟩ | ⟨x, l, c, zs, hcs, _, hl, hm, hz, hx, hcell, hwz⟩
  · simp [Value.cells] at hcs
    obtain ⟨rfl, rfl, rfl⟩ := hcs
    exact ⟨[], ⟨rfl, fun _ => ⟨rfl, rfl⟩, (fun ad h => by cases h), (fun n h => by cases h), Nat.le_refl _⟩, Nat.zero_le _, Or.inl rfl⟩
  · simp [Value.cells] at hcs
    obtain ⟨rfl, rfl, rfl⟩ := hcs
    simp only [if_true] at hz
    refine ⟨zs.take len, ⟨by simp; omega, (fun e => by cases e), ?_, ?_, hl⟩, hm, Or.inr ?_⟩
    · intro ad ha j u hj
      cases ha
      have hjl : j < (zs.take len).length := by
        have := (List.getElem?_eq_some_iff.1 hj).1
        simpa using this
      simp only [List.length_take] at hjl
      rw [hcell j (by omega)]
      rw [List.getElem?_map, List.getElem?_take_of_lt (by omega), List.getElem?_eq_getElem (by omega)] at hj
      rw [← hj]
      simp [List.getD, (by omega : j < zs.length)]
    · intro n hn
      exact bounds_u8 (hwz n (List.mem_of_mem_take hn))
    · simp only [Prod.mk.injEq] at hx
      exact ⟨_, _, hx.1, by simp [lits]; omega⟩
end Go.Proofs.Ytfdnhpmldnmncaa
