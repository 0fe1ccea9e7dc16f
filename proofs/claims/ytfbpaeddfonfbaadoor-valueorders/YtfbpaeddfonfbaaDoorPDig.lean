/-
  The walk of the document's Digits; conditions: a number of 64 bits.
-/
import Derived.Test.YtfbpaeddfonfbaaDoorVBase
import Derived.Lib.ItoaNum
import Derived.Deep.Strs
import Derived.Test.YtfbpaeddfonfbaaDoorWTill
import Derived.Deep.CutRange
import Derived.WalkSpells
import Derived.WalkSmall
namespace Go.Proofs.YtfbpaeddfonfbaaDoor
open Go.RowKit
set_option linter.unusedVariables false
set_option linter.unusedSimpArgs false

def tenB : ByteArray := ⟨#[48, 49, 50, 51, 52, 53, 54, 55, 56, 57]⟩
theorem ten_fin : ∀ d : Fin 10, (tenB.extract d.val (d.val + 1)).data.toList = [UInt8.ofNat (48 + d.val)] := by decide +kernel
theorem ten_at (d : Nat) (h : d < 10) : ((⟨#[48, 49, 50, 51, 52, 53, 54, 55, 56, 57]⟩ : ByteArray).extract d (d + 1)).data.toList = [UInt8.ofNat (48 + d)] := ten_fin ⟨d, h⟩

theorem dig_last (k : Nat) : Lib.decDigits k = (if k / 10 = 0 then [] else Lib.decDigits (k / 10)) ++ [UInt8.ofNat (48 + k % 10)] := by
  by_cases h : k < 10
  · rw [Lib.decDigits_one h, if_pos (by omega), show k % 10 = k by omega]; rfl
  · conv => lhs; rw [Lib.decDigits, dif_neg h]
    rw [if_neg (by omega)]

theorem nDigits_le : ∀ (k u : Nat), u < 10 ^ (k + 1) → Lib.nDigits u ≤ k + 1
  | 0, u, h => by rw [Lib.nDigits_small (by simpa using h)]; omega
  | k + 1, u, h => by
    by_cases h10 : u < 10
    · rw [Lib.nDigits_small h10]; omega
    · rw [Lib.nDigits_big h10]
      have := nDigits_le k (u / 10) (by rw [Nat.pow_succ] at h; omega)
      omega

theorem dec_len {u : Nat} (h : u ≤ 9223372036854775808) : (Lib.decDigits u).length ≤ 20 := by
  rw [Lib.decDigits_length]
  exact nDigits_le 19 u (by omega)

set_option maxRecDepth 100000 in
set_option maxHeartbeats 1000000 in
theorem digits_pos (n : Nat) (hn : n ≤ 9223372036854775807) (w : World) :
    Calls Tryd.prog 36 #[.int .i64 (n : Int)] w fun e w' => ∃ s : ByteArray, e = .returned (.string s) ∧ s.data.toList = Lib.decDigits n ∧ w' = w := by
  have h0 : ¬ (n : Int) < 0 := by omega
  have HS : Hid ((if n / 10 = 0 then [] else Lib.decDigits (n / 10)) ++ ((⟨#[48, 49, 50, 51, 52, 53, 54, 55, 56, 57]⟩ : ByteArray).extract (n % 10) (n % 10 + 1)).data.toList = Lib.decDigits n) := hide (by
    rw [ten_at (n % 10) (by omega)]
    exact (dig_last n).symm)
  go_enter Tryd.func36, Tryd.ntmps36
  go_wp2_with fail
  go_loopw [0, 3] (fun x y wr => ∃ (k : Nat) (s : ByteArray), k ≤ 9223372036854775807 ∧ x = .int .i64 (k : Int) ∧ y = .string s ∧ wr = w ∧ Hid ((if k = 0 then [] else Lib.decDigits k) ++ s.data.toList = Lib.decDigits n)) (fun x _ _ => (intOf x).toNat)
  case atStart => exact ⟨n / 10, _, by omega, by rw [Int.natCast_ediv]; rfl, rfl, rfl, HS⟩
  case round =>
    clear HS
    obtain ⟨k, s, hk, rfl, rfl, rfl, HI⟩ := hrel
    by_cases hk0 : k = 0
    · subst hk0
      have j1 : ¬ (0 : Int) < ((0 : Nat) : Int) := by omega
      have HF : Hid (s.data.toList = Lib.decDigits n) := hide (by have h := unhide HI; simpa using h)
      go_wp2_with fail
      go_ret
      exact ⟨s, rfl, unhide HF, rfl⟩
    · have j1 : (0 : Int) < (k : Int) := by omega
      have HI1 : Hid ((if k / 10 = 0 then [] else Lib.decDigits (k / 10)) ++ (((⟨#[48, 49, 50, 51, 52, 53, 54, 55, 56, 57]⟩ : ByteArray).extract (k % 10) (k % 10 + 1)) ++ s).data.toList = Lib.decDigits n) := hide (by
        have h := unhide HI
        rw [if_neg hk0, dig_last k, List.append_assoc] at h
        rw [ByteArray.data_append, Array.toList_append, ten_at (k % 10) (by omega)]
        exact h)
      have hs20 : s.size ≤ 20 := by
        have h := congrArg List.length (unhide HI)
        rw [List.length_append] at h
        have h2 := dec_len (u := n) (by omega)
        have h3 : s.size = s.data.toList.length := rfl
        omega
      have hsz : ¬ 9223372036854775807 < min (k % 10 + 1) 10 - k % 10 + s.size := by omega
      have HK : Hid (k / 10 < k ∧ k / 10 ≤ 9223372036854775807) := hide ⟨by omega, by omega⟩
      go_wp2_with fail
      go_roundw
      case rel => exact ⟨k / 10, _, (unhide HK).2, by rw [Int.natCast_ediv]; rfl, rfl, by first | rfl | trivial, HI1⟩
      case measure => have := (unhide HK).1; simp [intOf]; omega

set_option maxRecDepth 100000 in
set_option maxHeartbeats 1000000 in
theorem digits_any (n : Int) (h1 : -9223372036854775808 ≤ n) (h2 : n ≤ 9223372036854775807) (w : World) :
    Calls Tryd.prog 36 #[.int .i64 n] w fun e w' => ∃ s : ByteArray, e = .returned (.string s) ∧ s.data.toList = Lib.itoa n ∧ w' = w := by
  by_cases hn : n < 0
  · by_cases hm : n = -9223372036854775808
    · subst hm
      go_enter Tryd.func36, Tryd.ntmps36
      go_wp2_with fail
      go_ret
      exact ⟨_, rfl, by decide +kernel, rfl⟩
    · obtain ⟨u, hu⟩ : ∃ u : Nat, n = -(u : Int) := ⟨n.natAbs, by omega⟩
      have hu1 : 1 ≤ u := by omega
      have hw : IntKind.i64.wrap (-n) = (u : Int) := by rw [IntKind.wrap_i64]; omega
      have hb : (n == -9223372036854775808) = false := by simpa using hm
      have CP := hide (digits_pos u (by omega) w)
      have HU := hide (And.intro hu hu1)
      clear hu
      go_enter Tryd.func36, Tryd.ntmps36
      go_wp2_with fail
      refine (unhide CP).mono ?_
      rintro e w' ⟨s, rfl, hs, rfl⟩
      have HS := hide hs
      have hsz : ¬ 9223372036854775807 < 1 + s.size := by
        have h := congrArg List.length hs
        have h2 := dec_len (u := u) (by have := (unhide HU).1; omega)
        have h3 : s.size = s.data.toList.length := rfl
        omega
      clear hs CP
      go_wp2_with fail
      go_ret
      refine ⟨_, rfl, ?_, rfl⟩
      obtain ⟨hu, hu1⟩ := unhide HU
      rw [hu, ByteArray.data_append, Array.toList_append, unhide HS]
      unfold Lib.itoa
      rw [if_pos (by omega)]
      simp
  · obtain ⟨u, rfl⟩ : ∃ u : Nat, n = (u : Int) := ⟨n.toNat, by omega⟩
    refine (digits_pos u (by omega) w).mono ?_
    rintro e w' ⟨s, rfl, hs, rfl⟩
    refine ⟨s, rfl, ?_, rfl⟩
    rw [hs]
    unfold Lib.itoa
    rw [if_neg (by omega)]
    simp
end Go.Proofs.YtfbpaeddfonfbaaDoor
