/-
  The digits of a digest as numbers: what a digit says, or -1, and back; no conditions.
-/
import Derived.WalkKit
import Derived.WalkSpells
import Derived.OpenShut
import Derived.Test.YtfmbaidpeliakaaDoorRows
namespace Go.Proofs.YtfmbaidpeliakaaDoor
open Go.RowKit

theorem hide {p : Prop} (h : p) : Hid p := h
theorem unhide {p : Prop} (h : Hid p) : p := h

/-- what a digit says -/
def digI (c : Int) : Int := if 48 ≤ c ∧ c ≤ 57 then c - 48 else if 97 ≤ c ∧ c ≤ 102 then c - 87 else -1

/-- the digit of a number below 16 -/
def hexC (n : Int) : Int := if n < 10 then n + 48 else n + 87

theorem dig_hex (n : Int) (h0 : 0 ≤ n) (h1 : n < 16) : digI (hexC n) = n := by
  unfold digI hexC; split <;> split <;> (try split) <;> omega

theorem hex_dig (c : Int) (h : 0 ≤ digI c) : hexC (digI c) = c := by
  unfold digI hexC at *; split at h <;> (try split at h) <;> (try split) <;> (try split) <;> (try split) <;> omega

theorem dig_eq (c : Int) (k : Nat) (hk : k < 16) (h : hexC k = c) : digI c = k := by
  rw [← h, dig_hex _ (by omega) (by omega)]

theorem dig_none (c : Int) (h : ∀ k : Nat, k < 16 → hexC k ≠ c) : digI c = -1 := by
  by_cases hd : 0 ≤ digI c
  · exfalso
    have e := hex_dig c hd
    have hb : digI c < 16 := by unfold digI; split <;> (try split) <;> omega
    exact h (digI c).toNat (by omega) (by rw [show ((digI c).toNat : Int) = digI c from by omega]; exact e)
  · unfold digI at *; split at hd <;> (try split at hd) <;> omega

/-- the sixteen digits -/
theorem digs_at (k : Nat) (h : k < (⟨#[48, 49, 50, 51, 52, 53, 54, 55, 56, 57, 97, 98, 99, 100, 101, 102]⟩ : ByteArray).size) :
    (((⟨#[48, 49, 50, 51, 52, 53, 54, 55, 56, 57, 97, 98, 99, 100, 101, 102]⟩ : ByteArray)[k]'h).toNat : Int) = hexC k := by
  have h' : k < 16 := h
  match k, h, h' with
  | 0, _, _ => rfl
  | 1, _, _ => rfl
  | 2, _, _ => rfl
  | 3, _, _ => rfl
  | 4, _, _ => rfl
  | 5, _, _ => rfl
  | 6, _, _ => rfl
  | 7, _, _ => rfl
  | 8, _, _ => rfl
  | 9, _, _ => rfl
  | 10, _, _ => rfl
  | 11, _, _ => rfl
  | 12, _, _ => rfl
  | 13, _, _ => rfl
  | 14, _, _ => rfl
  | 15, _, _ => rfl
  | k + 16, _, h => omega

theorem ret_int {k : IntKind} {a b : Int} (h : a = b) : Ending.returned (.int k a) = .returned (.int k b) := by rw [h]

end Go.Proofs.YtfmbaidpeliakaaDoor
