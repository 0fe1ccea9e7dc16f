/-
  What the document's own reader of exports reads (scrupleref09.reader.exports), as a function, against what is read; no conditions.
  The walk of the document's IsName (layer 9); no conditions.
-/
import Derived.Test.YtfdnhpmldnmncaaR34
import Derived.Test.YtfdnhpmldnmncaaR30
namespace Go.Proofs.Ytfdnhpmldnmncaa
open Go.RowKit

def exQ (bs : List Int) (m : Md) (s : Nat × Int × Int) : Ex × Nat × Int × Int :=
  let r1 := txQ bs 20 s
  let s2 := if (nameB r1.1 && Op.bytesLess (lastN m).toList r1.1.toList) = false then wrQ 90 (s.1 : Int) r1.2 else r1.2
  let r3 := numQ bs 9223372036854775807 s2
  let s3 := if s2.2.1 = 0 ∧ r3.2.2.1 = 92 then (r3.2.1, (90 : Int), r3.2.2.2) else r3.2
  let s4 := if (m.fs.length : Int) ≤ r3.1 then wrQ 90 (s2.1 : Int) s3 else s3
  ((r1.1, r3.1), s4)

/-- an export as the document reads it, and as it is read -/
theorem exQ_eq {bs : List Int} (hs : ∀ c ∈ bs, 0 ≤ c ∧ c ≤ 255) (m : Md) (a : Nat) (q : Int) (hb : m.fs.length ≤ 9223372036854775807) : match rdX bs m a with
    | .error p => ¬ p.1 = 0 ∧ (exQ bs m (a, 0, q)).2.2 = p
    | .ok (m', a') => (exQ bs m (a, 0, q)).2 = (a', 0, q) ∧ m' = ⟨m.cs, m.fs, m.xs ++ [(exQ bs m (a, 0, q)).1]⟩ := by
  unfold rdX exQ
  cases h1 : rdTx bs a 20 with
  | error c =>
    have k := tx_code h1
    have k1 : ¬ c = 0 := by omega
    by_cases hx : (nameB ⟨#[]⟩ && Op.bytesLess (lastN m).toList (⟨#[]⟩ : ByteArray).toList) = false
    · by_cases hn : (m.fs.length : Int) ≤ 0
      · simp [numQ, txQ, wrQ, h1, k1]
      · simp [numQ, txQ, wrQ, h1, k1]
    · simp [numQ, txQ, wrQ, h1, k1]
  | ok r1 =>
    obtain ⟨t, a1⟩ := r1
    dsimp only
    by_cases hN : (nameB t && Op.bytesLess (lastN m).toList t.toList) = false
    · rw [if_pos hN]
      have e1 : txQ bs 20 (a, 0, q) = (t, a1, 0, q) := by simp [txQ, h1]
      simp only [e1, if_pos hN]
      simp [numQ, wrQ]
    · rw [if_neg hN]
      have hF := fun e => uint_form bs (a1 : Int) hs e
      have e1 : txQ bs 20 (a, 0, q) = (t, a1, 0, q) := by simp [txQ, h1]
      simp only [e1, if_neg hN]
      unfold rdNo numQ rdNo
      generalize uintAt bs (a1 : Int) = r at *
      obtain ⟨n, nx, er⟩ := r
      dsimp only at *
      by_cases he : er = 0
      · subst he
        have hn : 0 ≤ n := by obtain ⟨_, _, _, _, _, _, _, _, hn⟩ := hF rfl; exact hn
        by_cases hg : 9223372036854775807 < n
        · have g1 : (m.fs.length : Int) - 1 < n := by omega
          simp [g1, hg, wrQ]
        · by_cases hm : (m.fs.length : Int) ≤ n
          · have g1 : (m.fs.length : Int) - 1 < n := by omega
            simp [g1, hg, hm, wrQ]
          · have g1 : ¬ ((m.fs.length : Int) - 1 < 0 ∨ (m.fs.length : Int) - 1 < n) := by omega
            rw [if_neg (by simp), if_neg g1]
            simp [hg, hm]
      · simp [he, wrQ]
end Go.Proofs.Ytfdnhpmldnmncaa

namespace Go.Proofs.Ytfdnhpmldnmncaa
open Go.RowKit

theorem refLetter_any (c : Int) (w : World) :
    Calls Try.prog 60 #[.int .u8 c] w fun e w' => e = .returned (.bool (letC c)) ∧ w' = w := by
  rcases let_cases c with ⟨hR, h1, h2, h3⟩ | ⟨hR, h1, h2, h3⟩ | ⟨hR, h1, h2, h3, h4⟩ | ⟨hR, h1, h2, h3, h4⟩ | ⟨hR, h1, h2⟩ | ⟨hR, h1, h2, h3, h4, h5⟩
  all_goals
    rw [hR]
    clear hR
    go_enter Try.func60, Try.ntmps60
    go_wp2_with fail
    go_ret
    exact ⟨rfl, rfl⟩

theorem digD (c : Int) : digC c = decide (48 ≤ c ∧ c ≤ 57) := by
  rw [Bool.eq_iff_iff]
  simp [digC]

theorem size_zero {s : ByteArray} (h : s.size = 0) : (s.toList == []) = true := by
  have : s.toList.length = 0 := by rw [ByteArray.toList_eq]; simpa using h
  rw [List.eq_nil_of_length_eq_zero this]
  rfl

theorem size_some {s : ByteArray} (h : s.size ≠ 0) : (s.toList == []) = false := by
  have : s.toList.length ≠ 0 := by rw [ByteArray.toList_eq]; simpa using h
  cases hs : s.toList with
  | nil => rw [hs] at this; simp at this
  | cons a r => rfl

set_option maxRecDepth 100000 in
set_option maxHeartbeats 1000000 in
theorem refName_any (s : ByteArray) (w : World) (hs : s.size ≤ 140737488351232) :
    Calls Try.prog 47 #[.string s] w fun e w' => e = .returned (.bool (nameB s)) ∧ w' = w := by
  by_cases h0 : s.size = 0
  · have hN : nameB s = false := by unfold nameB; rw [h0]; rfl
    have i1 := size_zero h0
    rw [hN]
    clear hN
    go_enter Try.func47, Try.ntmps47
    go_wp2_with fail
    go_ret
    exact ⟨rfl, rfl⟩
  have i1 := size_some h0
  by_cases h20 : 20 < s.size
  · have hN : nameB s = false := by unfold nameB; rw [decide_eq_false (show ¬ s.size ≤ 20 by omega)]; simp
    have i3 : (20 : Int) < (s.size : Int) := by omega
    rw [hN]
    clear hN
    go_enter Try.func47, Try.ntmps47
    go_wp2_with fail
    go_ret
    exact ⟨rfl, rfl⟩
  have i3 : ¬ (20 : Int) < (s.size : Int) := by omega
  have hp : 0 < s.size := by omega
  obtain ⟨N, hN⟩ : ∃ N, nameB s = N := ⟨_, rfl⟩
  have HN := hide hN
  rw [hN]
  clear hN
  go_enter Try.func47, Try.ntmps47
  go_wp2_with fail
  go_loop [3] (fun x => ∃ i : Nat, i ≤ s.size ∧ x = .int .i64 (i : Int) ∧ Hid (∀ j, j < i → nameC (chr s j) = true ∧ (j = 0 → digC (chr s j) = false))) (fun x => s.size - (intOf x).toNat)
  case atStart => exact ⟨0, by omega, rfl, hide (fun j h => by omega)⟩
  case round =>
    obtain ⟨i, hi, rfl, HJ⟩ := hrel
    by_cases hlt : i < s.size
    · have j1 : (i : Int) < (s.size : Int) := by omega
      have CL := hide (refLetter_any ((s[i]'hlt).toNat : Int) w)
      have HC := hide (chr_at s i hlt)
      cases hL : letC ((s[i]'hlt).toNat : Int) with
      | true =>
        rw [hL] at CL
        have HO : Hid (nameC (chr s i) = true ∧ (i = 0 → digC (chr s i) = false)) := hide (by
          rw [unhide HC]
          refine ⟨by unfold nameC; rw [hL]; rfl, fun _ => ?_⟩
          rw [letD] at hL
          rw [digD]
          simp only [decide_eq_true_eq, decide_eq_false_iff_not] at hL ⊢
          omega)
        clear hL
        go_wp2_with fail
        refine (unhide CL).mono ?_
        rintro e u2 ⟨rfl, rfl⟩
        go_wp2_with fail
        go_round
        case rel => exact ⟨i + 1, by omega, by go_num, hide (fun j hj => by
          rcases Nat.lt_or_ge j i with h | h
          · exact unhide HJ j h
          · have e : j = i := by omega
            rw [e]; exact unhide HO)⟩
        case measure => simp [intOf]; omega
      | false =>
        rw [hL] at CL
        by_cases hi0 : i = 0
        · subst hi0
          have HO : Hid (nameB s = false) := hide (by
            cases hd : digC (chr s 0) with
            | true => unfold nameB; rw [hd]; simp
            | false => exact name_no 0 hlt (by unfold nameC; rw [hd, unhide HC, hL]; rfl))
          clear hL
          go_wp2_with fail
          refine (unhide CL).mono ?_
          rintro e u2 ⟨rfl, rfl⟩
          go_wp2_with fail
          go_ret
          exact ⟨by rw [← unhide HN, unhide HO]; rfl, rfl⟩
        · have k0 : ((i : Int) == 0) = false := beq_eq_false_iff_ne.2 (by omega)
          by_cases hg1 : ((s[i]'hlt).toNat : Int) < 48
          · have HO : Hid (nameB s = false) := hide (name_no i hlt (by unfold nameC; rw [unhide HC, hL, digD, decide_eq_false (by omega)]; rfl))
            clear hL
            go_wp2_with fail
            refine (unhide CL).mono ?_
            rintro e u2 ⟨rfl, rfl⟩
            go_wp2_with fail
            go_ret
            exact ⟨by rw [← unhide HN, unhide HO]; rfl, rfl⟩
          · by_cases hg2 : 57 < ((s[i]'hlt).toNat : Int)
            · have HO : Hid (nameB s = false) := hide (name_no i hlt (by unfold nameC; rw [unhide HC, hL, digD, decide_eq_false (by omega)]; rfl))
              clear hL
              go_wp2_with fail
              refine (unhide CL).mono ?_
              rintro e u2 ⟨rfl, rfl⟩
              go_wp2_with fail
              go_ret
              exact ⟨by rw [← unhide HN, unhide HO]; rfl, rfl⟩
            · have HO : Hid (nameC (chr s i) = true ∧ (i = 0 → digC (chr s i) = false)) := hide (by
                rw [unhide HC]
                exact ⟨by unfold nameC; rw [hL, digD, decide_eq_true (by omega)]; rfl, fun h => absurd h hi0⟩)
              clear hL
              go_wp2_with fail
              refine (unhide CL).mono ?_
              rintro e u2 ⟨rfl, rfl⟩
              go_wp2_with fail
              go_round
              case rel => exact ⟨i + 1, by omega, by go_num, hide (fun j hj => by
                rcases Nat.lt_or_ge j i with h | h
                · exact unhide HJ j h
                · have e : j = i := by omega
                  rw [e]; exact unhide HO)⟩
              case measure => simp [intOf]; omega
    · have j1 : ¬ (i : Int) < (s.size : Int) := by omega
      have HO : Hid (nameB s = true) := hide (name_yes (by omega) (by omega) ((unhide HJ 0 (by omega)).2 rfl) (fun j hj => (unhide HJ j (by omega)).1))
      go_wp2_with fail
      go_ret
      exact ⟨by rw [← unhide HN, unhide HO]; rfl, rfl⟩
end Go.Proofs.Ytfdnhpmldnmncaa
