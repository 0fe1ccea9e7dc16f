/-
  Bytes as a source says them; no conditions.
-/
import Derived.Test.YtnflbgejjgjpcaaDoorLx0
namespace Go.Proofs.YtnflbgejjgjpcaaDoor
set_option linter.unusedVariables false
set_option linter.unusedSimpArgs false

def hx (n : Nat) : UInt8 := if n < 10 then UInt8.ofNat (48 + n) else UInt8.ofNat (87 + n)
/-- a byte, as a source says it -/
def qB (c : UInt8) : List UInt8 := if c.toNat = 34 ∨ c.toNat = 92 then [92, c] else if 32 ≤ c.toNat ∧ c.toNat ≤ 126 then [c] else [92, 120, hx (c.toNat / 16), hx (c.toNat % 16)]
/-- bytes, as a source says them -/
def quoB (l : List UInt8) : List UInt8 := 34 :: l.flatMap qB ++ [34]

theorem qB_num (c : UInt8) (h : c.toNat < 32 ∨ 126 < c.toNat) : qB c = [92, 120, hx (c.toNat / 16), hx (c.toNat % 16)] := by
  unfold qB
  rw [if_neg (by omega), if_neg (by omega)]
theorem qB_esc (c : UInt8) (h : c.toNat = 34 ∨ c.toNat = 92) : qB c = [92, c] := by
  unfold qB
  rw [if_pos (by omega)]
theorem qB_own (c : UInt8) (h0 : 32 ≤ c.toNat) (h1 : c.toNat ≤ 126) (h2 : c.toNat ≠ 34) (h3 : c.toNat ≠ 92) : qB c = [c] := by
  unfold qB
  rw [if_neg (by omega), if_pos (by omega)]

theorem qB_len (c : UInt8) : (qB c).length ≤ 4 ∧ 1 ≤ (qB c).length := by
  unfold qB
  split
  · simp
  · split <;> simp

theorem flatB_len (l : List UInt8) : (l.flatMap qB).length ≤ 4 * l.length := by
  induction l with
  | nil => exact Nat.le_refl _
  | cons c l ih =>
    rw [List.flatMap_cons, List.length_append, List.length_cons]
    have := qB_len c
    omega

theorem flatB_next (s : ByteArray) (i : Nat) (h : i < s.size) : (s.data.toList.take (i + 1)).flatMap qB = (s.data.toList.take i).flatMap qB ++ qB (s[i]'h) := by
  have e : s.data.toList[i]? = some (s[i]'h) := by rw [Array.getElem?_toList]; exact Array.getElem?_eq_getElem h
  rw [List.take_add_one, e, List.flatMap_append]
  simp

def hexB : ByteArray := ⟨#[48, 49, 50, 51, 52, 53, 54, 55, 56, 57, 97, 98, 99, 100, 101, 102]⟩
theorem hexB_fin : ∀ d : Fin 16, hexB[d.val]'(by have := d.isLt; show d.val < 16; omega) = hx d.val := by decide +kernel
theorem hexB_at (k : Nat) (h : k < 16) (hh : k < hexB.size) : hexB[k]'hh = hx k := hexB_fin ⟨k, h⟩
theorem hexV_hx : ∀ d : Fin 16, hexV (hx d.val) = some d.val := by decide +kernel
end Go.Proofs.YtnflbgejjgjpcaaDoor
