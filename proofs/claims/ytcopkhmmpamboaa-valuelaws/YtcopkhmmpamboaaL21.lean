/-
  slices.BinarySearch among texts that rise; no other conditions.
-/
import Derived.Test.YtcopkhmmpamboaaL20
import Derived.Test.YtcopkhmmpamboaaL02
import Derived.Deep.RegionHeld3
import Derived.Deep.CutRange
import Derived.Deep.QuietTactic
import Derived.BigQuiet
namespace Go.Proofs.Ytcopkhmmpamboaa
open Go.RowKit
set_option linter.unusedVariables false
set_option linter.unusedSimpArgs false

def RisesK (ks : List ByteArray) : Prop := ∀ (i j : Nat) (p q : ByteArray), i < j → ks[i]? = some p → ks[j]? = some q → bl p q = true

theorem nanC (a : ByteArray) (w : World) : Calls Try.prog 68 #[.string a] w fun e w' => e = .returned (.bool false) ∧ w' = w := by
  go_enter Try.func68, Try.ntmps68
  go_wp2_with fail
  go_ret
  simp

theorem nanS (a : ByteArray) (w : World) : Calls Try.prog 46 #[.string a] w fun e w' => e = .returned (.bool false) ∧ w' = w := by
  go_enter Try.func46, Try.ntmps46
  go_wp2_with fail
  go_ret
  simp

set_option maxRecDepth 100000 in
theorem lessS (a b : ByteArray) (w : World) : Calls Try.prog 45 #[.string a, .string b] w fun e w' => e = .returned (.bool (bl a b)) ∧ w' = w := by
  go_enter Try.func45, Try.ntmps45
  go_wp2_with fail
  refine (nanC a w).mono ?_
  rintro e u ⟨rfl, rfl⟩
  go_wp2_with fail
  go_ret
  simp [Array.getD]

set_option maxRecDepth 100000 in
set_option maxHeartbeats 800000 in
theorem search_any (ks : List ByteArray) (ak : Option Addr) (ck : Nat) (w : World) (h : IsK w ks ak ck) (hr : RisesK ks) (k : ByteArray) : Calls Try.prog 30 #[.slice ak ks.length ck, .string k] w fun e w' =>
    ∃ L : Nat, e = .returned (.tuple #[.int .i64 L, .bool (decide (ks[L]? = some k))]) ∧ L ≤ ks.length ∧ (∀ i p, ks[i]? = some p → (i < L ↔ bl p k = true)) ∧ w' = w := by
  obtain ⟨n, hn⟩ : ∃ n, ks.length = n := ⟨_, rfl⟩
  have hnb := h.bnd
  have hlc := h.len
  rw [hn] at hnb hlc ⊢
  have HC : Hid (∀ i p, ks[i]? = some p → ∃ a, ak = some a ∧ w.cell? (a.add i) = some (.string p)) := hide (fun i p hp => by
    cases ak with
    | none =>
      have := (List.getElem?_eq_some_iff.1 hp).1
      have := h.none rfl
      omega
    | some ad => exact ⟨ad, rfl, h.cell ad rfl i p hp⟩)
  have HR := hide hr
  have HN := hide hn
  have CL : Hid (∀ (a b : ByteArray) (u : World), Calls Try.prog 45 #[.string a, .string b] u fun e w' => e = .returned (.bool (bl a b)) ∧ w' = u) := hide lessS
  clear h hr hn
  go_enter Try.func30, Try.ntmps30
  go_wp2_with fail
  go_loopw [7, 8] (fun x y wr => ∃ lo hi : Nat, x = .int .i64 lo ∧ y = .int .i64 hi ∧ wr = w ∧ lo ≤ hi ∧ hi ≤ n ∧ Hid (∀ i p, ks[i]? = some p → (i < lo → bl p k = true) ∧ (hi ≤ i → bl p k = false))) (fun x y _ => (intOf y).toNat - (intOf x).toNat)
  case atStart =>
    refine ⟨0, n, rfl, rfl, rfl, by omega, by omega, hide (fun i p hp => ⟨fun h => by omega, fun h => ?_⟩)⟩
    have := (List.getElem?_eq_some_iff.1 hp).1
    have := unhide HN
    omega
  case round =>
    obtain ⟨lo, hi, rfl, rfl, rfl, h1, h2, HI⟩ := hrel
    by_cases hlt : lo < hi
    · have hlt' : (lo : Int) < (hi : Int) := by omega
      obtain ⟨m, hm⟩ : ∃ m : Nat, (m : Int) = ((lo : Int) + (hi : Int)) / 2 := ⟨(lo + hi) / 2, by omega⟩
      have hm1 : lo ≤ m := by omega
      have hm2 : m < hi := by omega
      obtain ⟨p, hp⟩ : ∃ p, ks[m]? = some p := ⟨_, List.getElem?_eq_getElem (by have := unhide HN; omega)⟩
      obtain ⟨a, rfl, cm⟩ := unhide HC m p hp
      go_upto_region 4 with fail
      go_cut [9] from 13 to 30 (fun r wx => r = .int .i64 (m : Int) ∧ wx = wr)
      case first =>
        go_wp2_with fail
        go_meet
        exact ⟨congrArg (Value.int .i64) hm.symm, rfl⟩
      case rest =>
        obtain ⟨rfl, hwc⟩ := hcut
        obtain rfl := hwc.symm
        clear hwc hm
        have C1 := hide (unhide CL p k wr)
        cases hk : bl p k with
        | true =>
          rw [hk] at C1
          go_wp2_with fail
          refine (unhide C1).mono ?_
          rintro e u ⟨rfl, rfl⟩
          go_wp2_with fail
          refine ⟨⟨m + 1, hi, by rw [Int.natCast_add]; rfl, rfl, trivial, by omega, h2, hide (fun i q hq => ⟨fun hi' => ?_, (unhide HI i q hq).2⟩)⟩, by simp [intOf]; omega⟩
          by_cases him : i = m
          · subst him
            rw [hp] at hq
            cases hq
            exact hk
          · exact kl_trans (unhide HR i m q p (by omega) hq hp) hk
        | false =>
          rw [hk] at C1
          go_wp2_with fail
          refine (unhide C1).mono ?_
          rintro e u ⟨rfl, rfl⟩
          go_wp2_with fail
          refine ⟨⟨lo, m, rfl, rfl, trivial, hm1, by omega, hide (fun i q hq => ⟨(unhide HI i q hq).1, fun hi' => ?_⟩)⟩, by simp [intOf]; omega⟩
          by_cases him : i = m
          · subst him
            rw [hp] at hq
            cases hq
            exact hk
          · have h1 := unhide HR m i p q (by omega) hp hq
            cases h2 : bl q k with
            | false => rfl
            | true => rw [kl_trans h1 h2] at hk; cases hk
    · obtain rfl : hi = lo := by omega
      have HL : Hid (hi ≤ n ∧ ∀ i p, ks[i]? = some p → (i < hi ↔ bl p k = true)) := hide ⟨h2, fun i p hp => ⟨(unhide HI i p hp).1, fun h => by
        rcases Nat.lt_or_ge i hi with hc | hc
        · exact hc
        · rw [(unhide HI i p hp).2 hc] at h
          cases h⟩⟩
      have CN : Hid (∀ (a : ByteArray) (u : World), Calls Try.prog 46 #[.string a] u fun e w' => e = .returned (.bool false) ∧ w' = u) := hide nanS
      by_cases hl : hi < n
      · obtain ⟨p, hp⟩ : ∃ p, ks[hi]? = some p := ⟨_, List.getElem?_eq_getElem (by have := unhide HN; omega)⟩
        obtain ⟨a, rfl, cm⟩ := unhide HC hi p hp
        have hl' : (hi : Int) < (n : Int) := by omega
        have HP := hide hp
        clear hp
        cases hpk : (p.toList == k.toList) with
        | true =>
          have HE : Hid (p = k) := hide ((kb_beq p k).1 hpk)
          go_wp2_with fail
          go_ret2
          refine ⟨hi, ?_, (unhide HL).1, (unhide HL).2, rfl⟩
          rw [unhide HP, unhide HE]
          simp
        | false =>
          have HE : Hid (¬ p = k) := hide (fun e => by rw [(kb_beq p k).2 e] at hpk; cases hpk)
          go_wp2_with fail
          refine (unhide CN p wr).mono ?_
          rintro e u ⟨rfl, rfl⟩
          go_wp2_with fail
          go_ret2
          refine ⟨hi, ?_, (unhide HL).1, (unhide HL).2, rfl⟩
          rw [unhide HP]
          simp [unhide HE]
      · have hl' : decide ((hi : Int) < (n : Int)) = false := by simp; omega
        have hl2 : decide (hi < n) = false := by simp; omega
        go_wp2_with fail
        go_ret2
        refine ⟨hi, ?_, (unhide HL).1, (unhide HL).2, rfl⟩
        rw [List.getElem?_eq_none (by have := unhide HN; omega)]
        simp
end Go.Proofs.Ytcopkhmmpamboaa
