/-
  What sixty-four digits tell, as numbers; arrays of thirty-two bytes; no conditions.
-/
import Derived.Test.YtbdieoknbpcbnabDigDefs
import Derived.Test.YtbdieoknbpcbnabArr
namespace Go.Proofs.Ytbdieoknbpcbnab
open Go.RowKit

def zero32 : Array Value := ((List.replicate 32 (0 : Int)).map (Value.int .u8)).toArray

theorem info32 : (Try.prog.info? 22).map (fun i => (i.zero, i.size)) = some (some (.agg zero32), 32) := by kernel_rfl
theorem size32 : (Try.prog.info? 22).map (·.size) = some 32 := by kernel_rfl
theorem built32 : Try.prog.built 22 [] = some zero32 := by kernel_rfl
theorem zero32_one : zero32.all (·.oneCell') = true := all_oneCell_toArray (by intro v hv; obtain ⟨n, _, rfl⟩ := List.mem_map.1 hv; rfl)
theorem zero32_size : zero32.size = 32 := by decide

/-- the bytes that the first digits tell, two by two; none: one of them is no digit -/
def unh (s : ByteArray) : Nat → Option (List Int)
  | 0 => some []
  | i + 1 => (unh s i).bind fun l => if digI (s.data.toList.getD (2 * i) 0).toNat < 0 ∨ digI (s.data.toList.getD (2 * i + 1) 0).toNat < 0 then none
    else some (l ++ [16 * digI (s.data.toList.getD (2 * i) 0).toNat + digI (s.data.toList.getD (2 * i + 1) 0).toNat])

theorem unh_none (s : ByteArray) (i j : Nat) (h : unh s i = none) : unh s (i + j) = none := by
  induction j with
  | zero => exact h
  | succ j ih => show (unh s (i + j)).bind _ = none; rw [ih]; rfl

theorem byte_nat (s : ByteArray) (k : Nat) (h : k < s.size) : (s.data.toList.getD k 0).toNat = (s[k]'h).toNat := by
  have hl : k < s.data.toList.length := by rw [Array.length_toList]; exact h
  rw [List.getD_eq_getElem?_getD, List.getElem?_eq_getElem hl]
  rfl

theorem dig_bounds (c : Int) : -1 ≤ digI c ∧ digI c ≤ 15 := by
  unfold digI; split <;> (try split) <;> omega

theorem unh_step (s : ByteArray) (i : Nat) (l : List Int) (h : unh s i = some l) (k1 : 2 * i < s.size) (k2 : 2 * i + 1 < s.size) :
    unh s (i + 1) = if digI (s[2 * i]'k1).toNat < 0 ∨ digI (s[2 * i + 1]'k2).toNat < 0 then none else some (l ++ [16 * digI (s[2 * i]'k1).toNat + digI (s[2 * i + 1]'k2).toNat]) := by
  show (unh s i).bind _ = _
  rw [h]
  simp only [Option.bind_some, byte_nat s _ k1, byte_nat s _ k2]

end Go.Proofs.Ytbdieoknbpcbnab
