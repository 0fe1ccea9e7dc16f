/-
  The walks of Len and Find of a table of whole numbers, nil or not; no conditions but that its keys rise.
-/
import Derived.Test.YtflopmhjgamcfaaTTab
namespace Go.Proofs.Ytflopmhjgamcfaa
open Go.RowKit

/-- whole numbers by whole numbers, as values -/
def valsI (l : List (Int × Int)) : List (Value × Value) := l.map fun p => (.int .i64 p.1, .int .i64 p.2)

theorem valsI_len (l : List (Int × Int)) : (valsI l).length = l.length := by simp [valsI]
theorem valsI_at {l : List (Int × Int)} {i : Nat} {p : Int × Int} (h : l[i]? = some p) : (valsI l)[i]? = some (.int .i64 p.1, .int .i64 p.2) := by simp [valsI, h]

def RisesI (l : List (Int × Int)) : Prop := ∀ (i j : Nat) (p q : Int × Int), i < j → l[i]? = some p → l[j]? = some q → p.1 < q.1

abbrev TabI (w : World) (base g : Nat) (v : Value) (l : List (Int × Int)) : Prop := Tab w base g 73 71 v (valsI l)

set_option maxRecDepth 100000 in
theorem len_nilI (w : World) : Calls Try.prog 25 #[.pointer none] w fun e w' => e = .returned (.int .i64 0) ∧ w' = w := by
  go_enter Try.func25, Try.ntmps25
  go_wp2_with fail
  go_ret
  exact ⟨rfl, rfl⟩

set_option maxRecDepth 100000 in
theorem len_I {base g : Nat} {v : Value} {l : List (Int × Int)} {w : World} (h : TabI w base g v l) : Calls Try.prog 25 #[.pointer (some ⟨g, 0, none⟩)] w fun e w' => e = .returned (.int .i64 l.length) ∧ w' = w := by
  have c0 := h.cell
  obtain ⟨ao, cap, rfl, -⟩ := own_shape h.row
  rw [valsI_len] at c0
  clear h
  go_enter Try.func25, Try.ntmps25
  go_wp2_with fail
  go_ret
  exact ⟨rfl, rfl⟩

set_option maxRecDepth 100000 in
theorem find_nilI (k : Int) (w : World) : Calls Try.prog 22 #[.pointer none, .int .i64 k] w fun e w' => e = .returned (.tuple #[.int .i64 0, .bool false]) ∧ ∃ q, w' = w.drewN q := by
  go_enter Try.func22, Try.ntmps22
  go_wp2_with fail
  refine (len_nilI _).mono ?_
  rintro e w1 ⟨rfl, rfl⟩
  go_wp2_with fail
  go_loopw [6, 7] (fun x y wr => x = .int .i64 0 ∧ y = .int .i64 0 ∧ wr = w1) (fun _ _ _ => 0)
  case atStart => exact ⟨rfl, rfl, rfl⟩
  case round =>
    obtain ⟨rfl, rfl, rfl⟩ := hrel
    go_wp2_with fail
    go_quiet ((go_at_call 25; exact Calls.quiet_of_same (len_nilI _)))
    go_wp2_with fail
    go_ret2
    exact ⟨rfl, _, rfl⟩

set_option maxRecDepth 100000 in
set_option maxHeartbeats 800000 in
theorem find_I {base g : Nat} {v : Value} {l : List (Int × Int)} {w : World} (h : TabI w base g v l) (hr : RisesI l) (k : Int) : Calls Try.prog 22 #[.pointer (some ⟨g, 0, none⟩), .int .i64 k] w fun e w' =>
    ∃ L : Nat, e = .returned (.tuple #[.int .i64 L, .bool (decide ((l.map Prod.fst)[L]? = some k))]) ∧ L ≤ l.length ∧ (∀ i p, l[i]? = some p → (i < L ↔ p.1 < k)) ∧ ∃ q, w' = w.drewN q := by
  have CL : Hid (∀ u : World, u.heap = w.heap → Calls Try.prog 25 #[.pointer (some ⟨g, 0, none⟩)] u fun e w' => e = .returned (.int .i64 l.length) ∧ w' = u) := hide (fun u hu => len_I (base := base) (v := v) ⟨by rw [hu]; exact h.here, h.row.1, by rw [hu]; exact h.row.2⟩)
  have c0 := h.cell
  obtain ⟨ao, cap, rfl, hcap, hmax, hnone, hsome⟩ := own_shape h.row
  rw [valsI_len] at c0 hcap hnone
  obtain ⟨n, hn⟩ : ∃ n, l.length = n := ⟨_, rfl⟩
  rw [hn] at c0 CL hcap hnone
  have hmx : n ≤ 9223372036854775807 := by unfold maxLen at hmax; omega
  have HC : Hid (∀ i p, l[i]? = some p → ∃ b, ao = some ⟨b, 0, none⟩ ∧ w.cell? ⟨b, i * 2, none⟩ = some (.int .i64 p.1)) := hide (fun i p hp => by
    cases ao with
    | none =>
      have := (List.getElem?_eq_some_iff.1 hp).1
      have := hnone rfl
      omega
    | some ad =>
      obtain ⟨b, rfl, -, -, hb⟩ := hsome ad rfl
      exact ⟨b, rfl, (hb i _ (valsI_at hp)).1⟩)
  have HR := hide hr
  have HN := hide hn
  clear h hsome hr hnone hcap hmax hn
  go_enter Try.func22, Try.ntmps22
  go_wp2_with fail
  refine (unhide CL _ rfl).mono ?_
  rintro e w1 ⟨rfl, rfl⟩
  go_wp2_with fail
  go_loopw [6, 7] (fun x y wr => ∃ lo hi : Nat, x = .int .i64 lo ∧ y = .int .i64 hi ∧ wr = w1 ∧ lo ≤ hi ∧ hi ≤ n ∧ Hid (∀ i p, l[i]? = some p → (i < lo → p.1 < k) ∧ (hi ≤ i → k ≤ p.1))) (fun x y _ => (intOf y).toNat - (intOf x).toNat)
  case atStart =>
    refine ⟨0, n, rfl, rfl, rfl, by omega, by omega, hide (fun i p hp => ⟨fun h => by omega, fun h => ?_⟩)⟩
    have := (List.getElem?_eq_some_iff.1 hp).1
    have := unhide HN
    omega
  case round =>
    obtain ⟨lo, hi, rfl, rfl, rfl, h1, h2, HI⟩ := hrel
    by_cases hlt : lo < hi
    · have hlt' : (lo : Int) < (hi : Int) := by omega
      obtain ⟨m, hm⟩ : ∃ m : Nat, (m : Int) = (lo : Int) + ((hi : Int) - (lo : Int)) / 2 := ⟨lo + (hi - lo) / 2, by omega⟩
      have hm1 : lo ≤ m := by omega
      have hm2 : m < hi := by omega
      have hq : (Int.tdiv ((hi : Int) - (lo : Int)) 2) = ((hi : Int) - (lo : Int)) / 2 := by rw [Int.tdiv_eq_ediv_of_nonneg (by omega)]
      obtain ⟨p, hp⟩ : ∃ p, l[m]? = some p := ⟨_, List.getElem?_eq_getElem (by have := unhide HN; omega)⟩
      obtain ⟨b, rfl, cm⟩ := unhide HC m p hp
      go_upto_region 3 with fail
      go_cut [8] from 11 to 32 (fun r wx => r = .int .i64 (m : Int) ∧ wx = wr)
      case first =>
        go_wp2_with fail
        go_meet
        exact ⟨congrArg (Value.int .i64) hm.symm, rfl⟩
      case rest =>
        obtain ⟨rfl, hwc⟩ := hcut
        obtain rfl := hwc.symm
        clear hwc hq hm
        by_cases hk : p.1 < k
        · go_wp2_with fail
          refine ⟨⟨m + 1, hi, by rw [Int.natCast_add]; rfl, rfl, trivial, by omega, h2, hide (fun i q hq => ⟨fun hi' => ?_, (unhide HI i q hq).2⟩)⟩, by simp [intOf]; omega⟩
          by_cases him : i = m
          · subst him
            rw [hp] at hq
            cases hq
            exact hk
          · have := unhide HR i m q p (by omega) hq hp
            omega
        · go_wp2_with fail
          refine ⟨⟨lo, m, rfl, rfl, trivial, hm1, by omega, hide (fun i q hq => ⟨(unhide HI i q hq).1, fun hi' => ?_⟩)⟩, by simp [intOf]; omega⟩
          by_cases him : i = m
          · subst him
            rw [hp] at hq
            cases hq
            omega
          · have := unhide HR m i p q (by omega) hp hq
            omega
    · obtain rfl : hi = lo := by omega
      have HL : Hid (hi ≤ l.length ∧ ∀ i p, l[i]? = some p → (i < hi ↔ p.1 < k)) := hide ⟨by have := unhide HN; omega, fun i p hp => ⟨(unhide HI i p hp).1, fun h => by
        have := (unhide HI i p hp).2
        omega⟩⟩
      by_cases hl : hi < n
      · obtain ⟨p, hp⟩ : ∃ p, l[hi]? = some p := ⟨_, List.getElem?_eq_getElem (by have := unhide HN; omega)⟩
        obtain ⟨b, rfl, cm⟩ := unhide HC hi p hp
        have hl' : (hi : Int) < (n : Int) := by omega
        have HP := hide hp
        clear hp
        go_wp2_with fail
        go_quiet ((go_at_call 25; exact Calls.quiet_of_same (unhide CL _ (by first | rfl | (obtain ⟨n, hn⟩ := ‹∃ n, _ = _›; subst hn; rfl)))))
        go_wp2_with fail
        go_ret2
        refine ⟨hi, ?_, (unhide HL).1, (unhide HL).2, _, rfl⟩
        rw [List.getElem?_map, unhide HP]
        simp [Array.getD]
        rw [Bool.eq_iff_iff]
        simp
      · have hl' : decide ((hi : Int) < (n : Int)) = false := by simp; omega
        have hl2 : decide (hi < n) = false := by simp; omega
        go_wp2_with fail
        go_quiet ((go_at_call 25; exact Calls.quiet_of_same (unhide CL _ (by first | rfl | (obtain ⟨n, hn⟩ := ‹∃ n, _ = _›; subst hn; rfl)))))
        go_wp2_with fail
        go_ret2
        refine ⟨hi, ?_, (unhide HL).1, (unhide HL).2, _, rfl⟩
        rw [List.getElem?_eq_none (by rw [List.length_map]; have := unhide HN; omega)]
        simp [Array.getD]
end Go.Proofs.Ytflopmhjgamcfaa
