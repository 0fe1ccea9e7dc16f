/-
  Names (layer 9): the walks of isDigit, isLetter, IsName; no conditions.
-/
import Derived.Test.YtfdnhpmldnmncaaRows
import Derived.Test.YtfdnhpmldnmncaaHid
import Derived.WalkKit
import Derived.WalkSpells
import Derived.WalkSmall
import Derived.BigQuiet
namespace Go.Proofs.Ytfdnhpmldnmncaa
open Go.RowKit

def digC (c : Int) : Bool := decide (48 ≤ c) && decide (c ≤ 57)
def letC (c : Int) : Bool := decide (97 ≤ c) && decide (c ≤ 122) || decide (65 ≤ c) && decide (c ≤ 90) || decide (c = 95)
/-- a text's byte -/
def chr (s : ByteArray) (i : Nat) : Int := if h : i < s.size then ((s[i]'h).toNat : Int) else 0
def nameC (c : Int) : Bool := letC c || digC c
/-- is a text a name? -/
def nameB (s : ByteArray) : Bool := decide (1 ≤ s.size) && decide (s.size ≤ 20) && !digC (chr s 0) && (List.range s.size).all (fun j => nameC (chr s j))

theorem chr_at (s : ByteArray) (i : Nat) (h : i < s.size) : chr s i = ((s[i]'h).toNat : Int) := by unfold chr; rw [dif_pos h]

theorem name_yes {s : ByteArray} (h1 : 1 ≤ s.size) (h2 : s.size ≤ 20) (h3 : digC (chr s 0) = false) (h4 : ∀ j, j < s.size → nameC (chr s j) = true) : nameB s = true := by
  unfold nameB
  rw [h3, decide_eq_true h1, decide_eq_true h2]
  simp only [Bool.not_false, Bool.and_true, Bool.true_and, List.all_eq_true, List.mem_range]
  exact h4

theorem name_no {s : ByteArray} (j : Nat) (hj : j < s.size) (h : nameC (chr s j) = false) : nameB s = false := by
  unfold nameB
  have : (List.range s.size).all (fun j => nameC (chr s j)) = false := by
    rw [Bool.eq_false_iff]
    intro e
    rw [List.all_eq_true] at e
    have := e j (List.mem_range.2 hj)
    rw [h] at this
    cases this
  rw [this]
  simp

theorem digit_any (c : Int) (w : World) :
    Calls Try.prog 62 #[.int .u8 c] w fun e w' => e = .returned (.bool (digC c)) ∧ w' = w := by
  by_cases h1 : 48 ≤ c <;> by_cases h2 : c ≤ 57
  all_goals
    have hR : digC c = (decide (48 ≤ c) && decide (c ≤ 57)) := rfl
    simp only [h1, h2, decide_true, decide_false, Bool.and_true, Bool.and_false] at hR
    rw [hR]
    clear hR
    go_enter Try.func62, Try.ntmps62
    go_wp2_with fail
    go_ret
    exact ⟨rfl, rfl⟩

theorem letD (c : Int) : letC c = decide (97 ≤ c ∧ c ≤ 122 ∨ 65 ≤ c ∧ c ≤ 90 ∨ c = 95) := by
  rw [Bool.eq_iff_iff]
  simp [letC]
  omega

theorem let_cases (c : Int) : (letC c = false ∧ ¬ 97 ≤ c ∧ ¬ 65 ≤ c ∧ (c == 95) = false) ∨ (letC c = true ∧ ¬ 97 ≤ c ∧ 65 ≤ c ∧ c ≤ 90) ∨ (letC c = true ∧ ¬ 97 ≤ c ∧ 65 ≤ c ∧ ¬ c ≤ 90 ∧ (c == 95) = true) ∨ (letC c = false ∧ ¬ 97 ≤ c ∧ 65 ≤ c ∧ ¬ c ≤ 90 ∧ (c == 95) = false) ∨ (letC c = true ∧ 97 ≤ c ∧ c ≤ 122) ∨ (letC c = false ∧ 97 ≤ c ∧ ¬ c ≤ 122 ∧ 65 ≤ c ∧ ¬ c ≤ 90 ∧ (c == 95) = false) := by
  simp only [letD, decide_eq_true_eq, decide_eq_false_iff_not, beq_iff_eq, beq_eq_false_iff_ne, ne_eq]
  omega

theorem letter_any (c : Int) (w : World) :
    Calls Try.prog 63 #[.int .u8 c] w fun e w' => e = .returned (.bool (letC c)) ∧ w' = w := by
  rcases let_cases c with ⟨hR, h1, h2, h3⟩ | ⟨hR, h1, h2, h3⟩ | ⟨hR, h1, h2, h3, h4⟩ | ⟨hR, h1, h2, h3, h4⟩ | ⟨hR, h1, h2⟩ | ⟨hR, h1, h2, h3, h4, h5⟩
  all_goals
    rw [hR]
    clear hR
    go_enter Try.func63, Try.ntmps63
    go_wp2_with fail
    go_ret
    exact ⟨rfl, rfl⟩

set_option maxRecDepth 100000 in
set_option maxHeartbeats 1000000 in
theorem isName_any (s : ByteArray) (w : World) (hs : s.size ≤ 140737488351232) :
    Calls Try.prog 50 #[.string s] w fun e w' => e = .returned (.bool (nameB s)) ∧ w' = w := by
  by_cases h0 : s.size = 0
  · have hN : nameB s = false := by unfold nameB; rw [h0]; rfl
    have i1 : ((s.size : Int) == 0) = true := beq_iff_eq.2 (by omega)
    have i2 : (s.size : Int) = 0 := by omega
    rw [hN]
    clear hN
    go_enter Try.func50, Try.ntmps50
    go_wp2_with fail
    go_ret
    exact ⟨rfl, rfl⟩
  have i1 : ((s.size : Int) == 0) = false := beq_eq_false_iff_ne.2 (by omega)
  have i2 : ¬ (s.size : Int) = 0 := by omega
  by_cases h20 : 20 < s.size
  · have hN : nameB s = false := by unfold nameB; rw [decide_eq_false (show ¬ s.size ≤ 20 by omega)]; simp
    have i3 : (20 : Int) < (s.size : Int) := by omega
    rw [hN]
    clear hN
    go_enter Try.func50, Try.ntmps50
    go_wp2_with fail
    go_ret
    exact ⟨rfl, rfl⟩
  have i3 : ¬ (20 : Int) < (s.size : Int) := by omega
  have hp : 0 < s.size := by omega
  have CD := hide (digit_any ((s[0]'hp).toNat : Int) w)
  rw [← chr_at s 0 hp] at CD
  cases hD : digC (chr s 0) with
  | true =>
    have hN : nameB s = false := by unfold nameB; rw [hD]; simp
    rw [hN]
    rw [hD] at CD
    rw [chr_at s 0 hp] at CD
    clear hN hD
    go_enter Try.func50, Try.ntmps50
    go_wp2_with fail
    refine (unhide CD).mono ?_
    rintro e u ⟨rfl, rfl⟩
    go_wp2_with fail
    go_ret
    exact ⟨rfl, rfl⟩
  | false =>
    rw [hD] at CD
    rw [chr_at s 0 hp] at CD
    have HD := hide hD
    obtain ⟨N, hN⟩ : ∃ N, nameB s = N := ⟨_, rfl⟩
    have HN := hide hN
    rw [hN]
    clear hD hN
    go_enter Try.func50, Try.ntmps50
    go_wp2_with fail
    refine (unhide CD).mono ?_
    rintro e u ⟨rfl, rfl⟩
    clear CD
    go_wp2_with fail
    go_loop [19] (fun x => ∃ i : Nat, i ≤ s.size ∧ x = .int .i64 (i : Int) ∧ Hid (∀ j, j < i → nameC (chr s j) = true)) (fun x => s.size - (intOf x).toNat)
    case atStart => exact ⟨0, by omega, rfl, hide (fun j h => by omega)⟩
    case round =>
      obtain ⟨i, hi, rfl, HJ⟩ := hrel
      by_cases hlt : i < s.size
      · have j1 : (i : Int) < (s.size : Int) := by omega
        have CL := hide (letter_any ((s[i]'hlt).toNat : Int) u)
        have CG := hide (digit_any ((s[i]'hlt).toNat : Int) u)
        have HC := hide (chr_at s i hlt)
        cases hL : letC ((s[i]'hlt).toNat : Int) with
        | true =>
          rw [hL] at CL
          have HO : Hid (nameC (chr s i) = true) := hide (by rw [unhide HC]; unfold nameC; rw [hL]; rfl)
          clear hL CG
          go_wp2_with fail
          refine (unhide CL).mono ?_
          rintro e u2 ⟨rfl, rfl⟩
          go_wp2_with fail
          go_round
          case rel => exact ⟨i + 1, by omega, by go_num, hide (fun j hj => by
            rcases Nat.lt_or_ge j i with h | h
            · exact unhide HJ j h
            · have e : j = i := by omega
              rw [e]; exact unhide HO)⟩
          case measure => simp [intOf]; omega
        | false =>
          rw [hL] at CL
          cases hG : digC ((s[i]'hlt).toNat : Int) with
          | true =>
            rw [hG] at CG
            have HO : Hid (nameC (chr s i) = true) := hide (by rw [unhide HC]; unfold nameC; rw [hL, hG]; rfl)
            clear hL hG
            go_wp2_with fail
            refine (unhide CL).mono ?_
            rintro e u2 ⟨rfl, rfl⟩
            go_wp2_with fail
            refine (unhide CG).mono ?_
            rintro e u2 ⟨rfl, rfl⟩
            go_wp2_with fail
            go_round
            case rel => exact ⟨i + 1, by omega, by go_num, hide (fun j hj => by
              rcases Nat.lt_or_ge j i with h | h
              · exact unhide HJ j h
              · have e : j = i := by omega
                rw [e]; exact unhide HO)⟩
            case measure => simp [intOf]; omega
          | false =>
            rw [hG] at CG
            have HO : Hid (nameB s = false) := hide (name_no i hlt (by rw [unhide HC]; unfold nameC; rw [hL, hG]; rfl))
            clear hL hG
            go_wp2_with fail
            refine (unhide CL).mono ?_
            rintro e u2 ⟨rfl, rfl⟩
            go_wp2_with fail
            refine (unhide CG).mono ?_
            rintro e u2 ⟨rfl, rfl⟩
            go_wp2_with fail
            go_ret
            exact ⟨by rw [← unhide HN, unhide HO]; rfl, rfl⟩
      · have j1 : ¬ (i : Int) < (s.size : Int) := by omega
        have HO : Hid (nameB s = true) := hide (name_yes (by omega) (by omega) (unhide HD) (fun j hj => unhide HJ j (by omega)))
        go_wp2_with fail
        go_ret
        exact ⟨by rw [← unhide HN, unhide HO]; rfl, rfl⟩
end Go.Proofs.Ytfdnhpmldnmncaa
