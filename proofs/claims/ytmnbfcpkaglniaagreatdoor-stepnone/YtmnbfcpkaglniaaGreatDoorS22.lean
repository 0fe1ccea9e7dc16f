/-
  slices.BinarySearch among whole numbers that rise; no other conditions.
  Layer 12 (verify): what is so of the instructions and places that List gives, and of where they lead; plain lists, no conditions.
-/
import Derived.Test.YtmnbfcpkaglniaaGreatDoorS19
import Derived.Deep.RegionHeld3
import Derived.Deep.CutRange
import Derived.Deep.QuietTactic
import Derived.BigQuiet
set_option linter.unusedVariables false
set_option linter.unusedSimpArgs false
namespace Go.Proofs.YtmnbfcpkaglniaaGreatDoor
open Go.RowKit
set_option linter.unusedVariables false
set_option linter.unusedSimpArgs false
/-- whole numbers that can be read -/
def RdI (w : World) (ao : Option Addr) (zs : List Int) : Prop := ∀ j z, zs[j]? = some z → ∃ a, ao = some a ∧ w.cell? (a.add j) = some (.int .i64 z)
theorem nanCI (a : Int) (w : World) : Calls Tryz.prog 205 #[.int .i64 a] w fun e w' => e = .returned (.bool false) ∧ w' = w := by
  go_enter Tryz.func205, Tryz.ntmps205
  go_wp2_with fail
  go_ret
  simp
theorem nanSI (a : Int) (w : World) : Calls Tryz.prog 173 #[.int .i64 a] w fun e w' => e = .returned (.bool false) ∧ w' = w := by
  go_enter Tryz.func173, Tryz.ntmps173
  go_wp2_with fail
  go_ret
  simp
set_option maxRecDepth 100000 in
theorem lessI (a b : Int) (w : World) : Calls Tryz.prog 172 #[.int .i64 a, .int .i64 b] w fun e w' => e = .returned (.bool (decide (a < b))) ∧ w' = w := by
  go_enter Tryz.func172, Tryz.ntmps172
  go_wp2_with fail
  refine (nanCI a w).mono ?_
  rintro e u ⟨rfl, rfl⟩
  go_wp2_with fail
  go_ret
  simp [Array.getD]
set_option maxRecDepth 100000 in
set_option maxHeartbeats 800000 in
theorem searchI (ks : List Int) (ak : Option Addr) (ck n : Nat) (w : World) (hn : ks.length = n) (h : RdI w ak ks) (hnb : n ≤ 140737488355328) (hr : ks.Pairwise (· < ·)) (k : Int) : Calls Tryz.prog 124 #[.slice ak n ck, .int .i64 k] w fun e w' =>
    ∃ L : Nat, e = .returned (.tuple #[.int .i64 L, .bool (decide (ks[L]? = some k))]) ∧ LowAt ks k L ∧ w' = w := by
  have HC := hide h
  have HR : Hid (∀ (i j : Nat) (p q : Int), i < j → ks[i]? = some p → ks[j]? = some q → p < q) := hide (fun i j p q hij hp hq => rise_at hr hij hp hq)
  have HN := hide hn
  have CL : Hid (∀ (a b : Int) (u : World), Calls Tryz.prog 172 #[.int .i64 a, .int .i64 b] u fun e w' => e = .returned (.bool (decide (a < b))) ∧ w' = u) := hide lessI
  clear h hr hn
  go_enter Tryz.func124, Tryz.ntmps124
  go_wp2_with fail
  go_loopw [7, 8] (fun x y wr => ∃ lo hi : Nat, x = .int .i64 lo ∧ y = .int .i64 hi ∧ wr = w ∧ lo ≤ hi ∧ hi ≤ n ∧ Hid (∀ i p, ks[i]? = some p → (i < lo → p < k) ∧ (hi ≤ i → k ≤ p))) (fun x y _ => (intOf y).toNat - (intOf x).toNat)
  case atStart =>
    refine ⟨0, n, rfl, rfl, rfl, by omega, by omega, hide (fun i p hp => ⟨fun h => by omega, fun h => ?_⟩)⟩
    have := (List.getElem?_eq_some_iff.1 hp).1
    have := unhide HN
    omega
  case round =>
    obtain ⟨lo, hi, rfl, rfl, rfl, h1, h2, HI⟩ := hrel
    by_cases hlt : lo < hi
    · have hlt' : (lo : Int) < (hi : Int) := by omega
      obtain ⟨m, hm⟩ : ∃ m : Nat, (m : Int) = ((lo : Int) + (hi : Int)) / 2 := ⟨(lo + hi) / 2, by omega⟩
      have hm1 : lo ≤ m := by omega
      have hm2 : m < hi := by omega
      obtain ⟨p, hp⟩ : ∃ p, ks[m]? = some p := ⟨_, List.getElem?_eq_getElem (by have := unhide HN; omega)⟩
      obtain ⟨a, rfl, cm⟩ := unhide HC m p hp
      go_upto_region 4 with fail
      go_cut [9] from 13 to 30 (fun r wx => r = .int .i64 (m : Int) ∧ wx = wr)
      case first =>
        go_wp2_with fail
        go_meet
        exact ⟨congrArg (Value.int .i64) hm.symm, rfl⟩
      case rest =>
        obtain ⟨rfl, hwc⟩ := hcut
        obtain rfl := hwc.symm
        clear hwc hm
        have C1 := hide (unhide CL p k wr)
        have HP := hide hp
        clear hp
        by_cases hk : p < k
        · rw [decide_eq_true hk] at C1
          have HK := hide hk
          clear hk
          go_wp2_with fail
          refine (unhide C1).mono ?_
          rintro e u ⟨rfl, rfl⟩
          go_wp2_with fail
          refine ⟨⟨m + 1, hi, by rw [Int.natCast_add]; rfl, rfl, trivial, by omega, h2, hide (fun i q hq => ⟨fun hi' => ?_, (unhide HI i q hq).2⟩)⟩, by simp [intOf]; omega⟩
          have hk := unhide HK
          have hp := unhide HP
          by_cases him : i = m
          · subst him
            rw [hp] at hq
            cases hq
            exact hk
          · have := unhide HR i m q p (by omega) hq hp
            omega
        · rw [decide_eq_false hk] at C1
          have HK := hide hk
          clear hk
          go_wp2_with fail
          refine (unhide C1).mono ?_
          rintro e u ⟨rfl, rfl⟩
          go_wp2_with fail
          refine ⟨⟨lo, m, rfl, rfl, trivial, hm1, by omega, hide (fun i q hq => ⟨(unhide HI i q hq).1, fun hi' => ?_⟩)⟩, by simp [intOf]; omega⟩
          have hk := unhide HK
          have hp := unhide HP
          by_cases him : i = m
          · subst him
            rw [hp] at hq
            cases hq
            omega
          · have h1 := unhide HR m i p q (by omega) hp hq
            omega
    · obtain rfl : hi = lo := by omega
      have HL : Hid (LowAt ks k hi) := hide ⟨by rw [unhide HN]; exact h2, fun i p hp => ⟨(unhide HI i p hp).1, fun h => by
        rcases Nat.lt_or_ge i hi with hc | hc
        · exact hc
        · have := (unhide HI i p hp).2 hc; omega⟩⟩
      have CN : Hid (∀ (a : Int) (u : World), Calls Tryz.prog 173 #[.int .i64 a] u fun e w' => e = .returned (.bool false) ∧ w' = u) := hide nanSI
      by_cases hl : hi < n
      · obtain ⟨p, hp⟩ : ∃ p, ks[hi]? = some p := ⟨_, List.getElem?_eq_getElem (by have := unhide HN; omega)⟩
        obtain ⟨a, rfl, cm⟩ := unhide HC hi p hp
        have hl' : (hi : Int) < (n : Int) := by omega
        have HP := hide hp
        clear hp
        by_cases hpk : p = k
        · subst hpk
          go_wp2_with fail
          go_ret2
          refine ⟨hi, ?_, unhide HL, rfl⟩
          rw [unhide HP]
          simp
        · have hpb : (p == k) = false := by simpa using hpk
          have HE := hide hpk
          go_wp2_with fail
          refine (unhide CN p wr).mono ?_
          rintro e u ⟨rfl, rfl⟩
          go_wp2_with fail
          go_ret2
          refine ⟨hi, ?_, unhide HL, rfl⟩
          rw [unhide HP]
          simp [unhide HE]
      · have hl' : decide ((hi : Int) < (n : Int)) = false := by simp; omega
        have hl2 : decide (hi < n) = false := by simp; omega
        go_wp2_with fail
        go_ret2
        refine ⟨hi, ?_, unhide HL, rfl⟩
        rw [List.getElem?_eq_none (by have := unhide HN; omega)]
        simp
theorem lst_good (zs : List Int) : ∀ f p, (lst zs f p).2.2.2 = 0 → (lst zs f p).2.1.Pairwise (· < ·) ∧ (∀ x ∈ (lst zs f p).2.1, (p : Int) ≤ x ∧ x < (zs.length : Int)) ∧ (lst zs f p).1.length = (lst zs f p).2.1.length ∧ (∀ i ∈ (lst zs f p).1, faultI i.1 i.2 = 0) ∧ (p < zs.length → 0 < f → ∃ r, (lst zs f p).2.1 = (p : Int) :: r)
  | 0, p, h => ⟨by simp [lst], by simp [lst], rfl, by simp [lst], fun _ h => by omega⟩
  | f + 1, p, h => by
    unfold lst at h ⊢
    by_cases hp : zs.length ≤ p
    · rw [if_pos hp]
      exact ⟨by simp, by simp, rfl, by simp, fun h => by omega⟩
    · rw [if_neg hp] at h ⊢
      by_cases ht : (takeI zs (p : Int)).2.2.2 = 0
      · rw [if_pos ht] at h ⊢
        have hg := take_good zs p ht
        have ih := lst_good zs f (takeI zs (p : Int)).2.2.1.toNat
        generalize hR : lst zs f (takeI zs (p : Int)).2.2.1.toNat = R at h ih ⊢
        have h0 : R.2.2.2 = 0 := by
          unfold glue at h
          split at h
          · assumption
          · rename_i hc; exact absurd h hc
        obtain ⟨i1, i2, i3, i4, i5⟩ := ih h0
        unfold glue
        rw [if_pos h0]
        simp only []
        have hq : (p : Int) < ((takeI zs (p : Int)).2.2.1.toNat : Int) := by have := hg.2.2.2.2.1; omega
        refine ⟨?_, ?_, ?_, ?_, fun _ _ => ⟨_, rfl⟩⟩
        · rw [List.singleton_append, List.pairwise_cons]
          exact ⟨fun x hx => by have := (i2 x hx).1; omega, i1⟩
        · intro x hx
          rcases List.mem_cons.1 hx with rfl | hx
          · omega
          · have := i2 x hx
            omega
        · simp [i3]
        · intro i hi
          rcases List.mem_cons.1 hi with rfl | hi
          · simp only []
            rw [hg.2.1, hg.2.2.1]
            exact hg.2.2.2.1
          · exact i4 i hi
      · rw [if_neg ht] at h
        exact absurd h ht
theorem lst_bad (zs : List Int) : ∀ f p, ¬ (lst zs f p).2.2.2 = 0 → (p : Int) ≤ (lst zs f p).2.2.1 ∧ (lst zs f p).2.2.1 < (zs.length : Int)
  | 0, p, h => absurd rfl h
  | f + 1, p, h => by
    unfold lst at h ⊢
    by_cases hp : zs.length ≤ p
    · rw [if_pos hp] at h
      exact absurd rfl h
    · rw [if_neg hp] at h ⊢
      by_cases ht : (takeI zs (p : Int)).2.2.2 = 0
      · rw [if_pos ht] at h ⊢
        have hg := take_good zs p ht
        have ih := lst_bad zs f (takeI zs (p : Int)).2.2.1.toNat
        generalize hR : lst zs f (takeI zs (p : Int)).2.2.1.toNat = R at h ih ⊢
        unfold glue at h ⊢
        by_cases h0 : R.2.2.2 = 0
        · rw [if_pos h0] at h
          exact absurd rfl h
        · rw [if_neg h0]
          have := ih h0
          have := hg.2.2.2.2.1
          simp only []
          omega
      · rw [if_neg ht]
        simp only []
        omega
theorem ops_small : ∀ i : Fin 41, 0 ≤ (OPS.getD (i.val + 1) blank).2.2.1 ∧ (OPS.getD (i.val + 1) blank).2.2.1 ≤ 3 ∧ 0 ≤ (OPS.getD (i.val + 1) blank).2.2.2.1 ∧ (OPS.getD (i.val + 1) blank).2.2.2.1 ≤ 1 := by decide +kernel
theorem tks_small (op : Int) (h : 1 ≤ op ∧ op ≤ 41) : 0 ≤ tksI op ∧ tksI op ≤ 3 ∧ 0 ≤ gvsI op ∧ gvsI op ≤ 1 := by
  have := ops_small ⟨op.toNat - 1, by omega⟩
  simp only [show op.toNat - 1 + 1 = op.toNat by omega] at this
  unfold tksI gvsI
  rw [infoA_in op h]
  exact this
theorem sorts_are : srt 5 = 3 ∧ srt 6 = 3 ∧ srt 8 = 4 ∧ srt 24 = 1 ∧ srt 26 = 1 ∧ srt 1 = 1 ∧ srt 23 = 5 := by
  unfold srt infoA
  decide +kernel
/-- a function whose code can be read, and whose operands name something -/
structure Sound (b : Bo) : Prop where
  len : b.ls.length = b.ps.length
  rise : b.ps.Pairwise (· < ·)
  inn : ∀ x ∈ b.ps, 0 ≤ x ∧ x < b.L
  flt : ∀ i ∈ b.ls, faultI i.1 i.2 = 0
  fst : ∃ r, b.ps = 0 :: r
theorem opsE_ok (m : Md) (lo : Int) (ps : List Int) : ∀ (ls : List Ins) (q : List Int), ls.length = q.length → (opsE m lo ps ls q).2 = 0 → ∀ i ∈ ls, opE m lo ps i = 0
  | [], _, _, _, i, hi => by cases hi
  | i :: r, [], hl, _, _, _ => by simp at hl
  | i :: r, p :: q, hl, h, j, hj => by
    unfold opsE at h
    split at h
    · rename_i h0
      rcases List.mem_cons.1 hj with rfl | hj
      · exact h0
      · exact opsE_ok m lo ps r q (by simpa using hl) h j hj
    · rename_i h0
      exact absurd h h0
theorem opsE_bad (m : Md) (lo : Int) (ps : List Int) : ∀ (ls : List Ins) (q : List Int), ¬ (opsE m lo ps ls q).2 = 0 → (opsE m lo ps ls q).1 ∈ q
  | [], _, h => absurd rfl h
  | _ :: _, [], h => absurd rfl h
  | i :: r, p :: q, h => by
    unfold opsE at h ⊢
    split
    · rename_i h0
      rw [if_pos h0] at h
      exact List.mem_cons_of_mem _ (opsE_bad m lo ps r q h)
    · exact List.mem_cons_self
end Go.Proofs.YtmnbfcpkaglniaaGreatDoor
