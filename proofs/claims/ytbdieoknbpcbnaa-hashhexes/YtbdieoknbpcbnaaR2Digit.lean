/-
  The walk of the document's digit (layer 2): what a digit says, or -1; no conditions.
-/
import Derived.WalkKit
import Derived.WalkSpells
import Derived.OpenShut
import Derived.Test.YtbdieoknbpcbnaaRows
namespace Go.Proofs.Ytbdieoknbpcbnaa
open Go.RowKit

theorem hide {p : Prop} (h : p) : Hid p := h
theorem unhide {p : Prop} (h : Hid p) : p := h

/-- what a digit says -/
def digI (c : Int) : Int := if 48 ≤ c ∧ c ≤ 57 then c - 48 else if 97 ≤ c ∧ c ≤ 102 then c - 87 else -1

/-- the digit of a number below 16 -/
def hexC (n : Int) : Int := if n < 10 then n + 48 else n + 87

theorem dig_hex (n : Int) (h0 : 0 ≤ n) (h1 : n < 16) : digI (hexC n) = n := by
  unfold digI hexC; split <;> split <;> (try split) <;> omega

theorem hex_dig (c : Int) (h : 0 ≤ digI c) : hexC (digI c) = c := by
  unfold digI hexC at *; split at h <;> (try split at h) <;> (try split) <;> (try split) <;> (try split) <;> omega

theorem dig_eq (c : Int) (k : Nat) (hk : k < 16) (h : hexC k = c) : digI c = k := by
  rw [← h, dig_hex _ (by omega) (by omega)]

theorem dig_none (c : Int) (h : ∀ k : Nat, k < 16 → hexC k ≠ c) : digI c = -1 := by
  by_cases hd : 0 ≤ digI c
  · exfalso
    have e := hex_dig c hd
    have hb : digI c < 16 := by unfold digI; split <;> (try split) <;> omega
    exact h (digI c).toNat (by omega) (by rw [show ((digI c).toNat : Int) = digI c from by omega]; exact e)
  · unfold digI at *; split at hd <;> (try split at hd) <;> omega

/-- the sixteen digits -/
theorem digs_at (k : Nat) (h : k < (⟨#[48, 49, 50, 51, 52, 53, 54, 55, 56, 57, 97, 98, 99, 100, 101, 102]⟩ : ByteArray).size) :
    (((⟨#[48, 49, 50, 51, 52, 53, 54, 55, 56, 57, 97, 98, 99, 100, 101, 102]⟩ : ByteArray)[k]'h).toNat : Int) = hexC k := by
  have h' : k < 16 := h
  match k, h, h' with
  | 0, _, _ => rfl
  | 1, _, _ => rfl
  | 2, _, _ => rfl
  | 3, _, _ => rfl
  | 4, _, _ => rfl
  | 5, _, _ => rfl
  | 6, _, _ => rfl
  | 7, _, _ => rfl
  | 8, _, _ => rfl
  | 9, _, _ => rfl
  | 10, _, _ => rfl
  | 11, _, _ => rfl
  | 12, _, _ => rfl
  | 13, _, _ => rfl
  | 14, _, _ => rfl
  | 15, _, _ => rfl
  | k + 16, _, h => omega

theorem ret_int {k : IntKind} {a b : Int} (h : a = b) : Ending.returned (.int k a) = .returned (.int k b) := by rw [h]

set_option maxHeartbeats 1000000 in
theorem refDigit_any (c : Int) (w : World) :
    Calls Try.prog 10 #[.int .u8 c] w fun e w' => e = .returned (.int .i64 (digI c)) ∧ w' = w := by
  go_enter Try.func10, Try.ntmps10
  go_wp2
  go_loop [3] (fun x => ∃ k : Nat, k ≤ 16 ∧ x = .int .i64 k ∧ Hid (∀ j : Nat, j < k → hexC j ≠ c)) (fun x => 16 - (intOf x).toNat)
  case atStart => exact ⟨0, by omega, rfl, hide (fun j h => by omega)⟩
  case round =>
    obtain ⟨k, hk, rfl, HN⟩ := hrel
    by_cases hlt : k < 16
    · have hsz : k < (⟨#[48, 49, 50, 51, 52, 53, 54, 55, 56, 57, 97, 98, 99, 100, 101, 102]⟩ : ByteArray).size := hlt
      have HD := hide (digs_at k hsz)
      go_wp2
      · have ht : ((((⟨#[48, 49, 50, 51, 52, 53, 54, 55, 56, 57, 97, 98, 99, 100, 101, 102]⟩ : ByteArray)[k]'hsz).toNat : Int) == c) = true := by assumption
        rw [unhide HD, beq_iff_eq] at ht
        have e := dig_eq c k hlt ht
        go_ret
        exact ⟨ret_int e.symm, rfl⟩
      · have ht : ((((⟨#[48, 49, 50, 51, 52, 53, 54, 55, 56, 57, 97, 98, 99, 100, 101, 102]⟩ : ByteArray)[k]'hsz).toNat : Int) == c) = false := by assumption
        rw [unhide HD, beq_eq_false_iff_ne] at ht
        go_round
        case rel => exact ⟨k + 1, by omega, by go_num, hide (fun j hj => by
          rcases Nat.lt_or_ge j k with h | h
          · exact unhide HN j h
          · have e : j = k := by omega
            rw [e]; exact ht)⟩
        case measure => simp [intOf]; omega
    · have e := dig_none c (fun j hj => unhide HN j (by omega))
      have HE := hide e
      clear e
      go_wp2
      go_ret
      exact ⟨ret_int (unhide HE).symm, rfl⟩
end Go.Proofs.Ytbdieoknbpcbnaa
