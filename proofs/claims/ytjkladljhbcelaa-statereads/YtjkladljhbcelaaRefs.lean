/-
  The walks of the document's own Uint and Int: each answers what num's does, at any place of any bytes; no conditions.
-/
import Derived.Test.YtjkladljhbcelaaR03
namespace Go.Proofs.Ytjkladljhbcelaa
open Go.RowKit

set_option maxRecDepth 100000 in
set_option maxHeartbeats 400000 in
theorem refUint_out (ao : Option Addr) (len cap : Nat) (at_ : Int) (w : World) (h : at_ < 0 ∨ (len : Int) < at_) (hm : len ≤ maxLen) :
    Calls Try.prog 13 #[.slice ao len cap, .int .i64 at_] w fun e w' => e = .returned (.tuple #[.int .u64 0, .int .i64 0, .int .i64 10]) ∧ w' = w := by
  unfold maxLen at hm
  rcases h with h | h
  · go_enter Try.func13, Try.ntmps13
    go_wp2
    go_ret3
    exact ⟨rfl, rfl⟩
  · have h' : ¬ at_ < 0 := by omega
    go_enter Try.func13, Try.ntmps13
    go_wp2
    go_ret3
    exact ⟨rfl, rfl⟩

set_option maxRecDepth 100000 in
set_option maxHeartbeats 400000 in
theorem refUint_end (ao : Option Addr) (len cap : Nat) (w : World) :
    Calls Try.prog 13 #[.slice ao len cap, .int .i64 len] w fun e w' => e = .returned (.tuple #[.int .u64 0, .int .i64 0, .int .i64 11]) ∧ w' = w := by
  have hd : decide ((len : Int) < 0) = false := by simp
  go_enter Try.func13, Try.ntmps13
  go_wp2
  go_loop [7, 8, 9] (fun t p i => i = .int .i64 0 ∧ t = .int .u64 0 ∧ p = .int .u64 1) (fun _ _ _ => 0)
  case atStart => exact ⟨rfl, rfl, rfl⟩
  case round =>
    obtain ⟨rfl, rfl, rfl⟩ := hrel
    go_wp2
    go_ret3
    exact ⟨rfl, rfl⟩

set_option maxRecDepth 100000 in
set_option maxHeartbeats 2000000 in
theorem refUint_in (b off : Nat) (len cap a : Nat) (zs : List Int) (w : World) (hz : zs.length = len) (ha : a < len) (hle : len ≤ cap) (hm : cap ≤ maxLen)
    (hc : ∀ j, j < len → w.cell? ⟨b, off + j, none⟩ = some (.int .u8 (zs.getD j 0))) (hs : ∀ n ∈ zs, 0 ≤ n ∧ n ≤ 255) :
    Calls Try.prog 13 #[.slice (some ⟨b, off, none⟩) len cap, .int .i64 a] w fun e w' => e = .returned (.tuple #[.int .u64 (rd a 10 0 0 (zs.drop a)).1, .int .i64 (rd a 10 0 0 (zs.drop a)).2.1, .int .i64 (rd a 10 0 0 (zs.drop a)).2.2]) ∧ w' = w := by
  unfold maxLen at hm
  have hd : decide ((a : Int) < 0) = false := by simp
  have hd2 : ¬ (len : Int) < (a : Int) := by omega
  have HZ := hide hz
  clear hz
  go_enter Try.func13, Try.ntmps13
  go_wp2
  go_loop [7, 8, 9] (fun t y x => ∃ (i : Nat) (acc p : Int), i ≤ 9 ∧ i ≤ len - a ∧ x = .int .i64 i ∧ t = .int .u64 acc ∧ y = .int .u64 p ∧ Hid (p = 128 ^ i) ∧ Hid (0 ≤ acc ∧ acc < 128 ^ i) ∧ Hid (rd a 10 0 0 (zs.drop a) = rd a (10 - i) i acc (zs.drop (a + i)))) (fun _ _ x => 10 - (intOf x).toNat)
  case atStart => exact ⟨0, 0, 1, by omega, by omega, rfl, rfl, rfl, hide (by simp), hide (by simp), hide rfl⟩
  case round =>
    obtain ⟨i, acc, p, hi, hil, rfl, rfl, rfl, HP, HA, HR⟩ := hrel
    have hi10 : i < 10 := by omega
    have hlen := unhide HZ
    by_cases hend : i = len - a
    · have hq : (len : Int) - (a : Int) ≤ (i : Int) := by omega
      have hstop := rd_stop a (a + i) i acc zs hi10 (by omega)
      have HQ := hide hstop
      clear hend hlen hstop
      go_wp2
      go_ret3
      exact ⟨ret_tri (by rw [unhide HR, unhide HQ]), rfl⟩
    · have hq : ¬ (len : Int) - (a : Int) ≤ (i : Int) := by omega
      have hcell := hc (a + i) (by omega)
      have hst := rd_step a (a + i) i acc zs hi10 (by omega)
      have hcb : 0 ≤ zs.getD (a + i) 0 ∧ zs.getD (a + i) 0 ≤ 255 := by
        have g : zs.getD (a + i) 0 = zs[a + i] := by simp [List.getD, (by omega : a + i < zs.length)]
        rw [g]; exact hs _ (List.getElem_mem _)
      have hail : a + i < len := by omega
      have HE := hide hst
      clear hst hlen hc
      generalize zs.getD (a + i) 0 = c at *
      obtain ⟨c0, c1⟩ := hcb
      rcases stand_cases c i with ⟨hz, hsb⟩ | ⟨hz, hcz, hsb⟩ | ⟨hz, hcz, h9, hsb⟩ | ⟨hz, hcz, h9, hl, hsb⟩ | ⟨hz, hcz, h9, hl, hsb⟩
      · have hz0 : (i : Int) = 0 := by omega
        obtain ⟨a0, a1⟩ := unhide HA
        have hp := unhide HP
        obtain ⟨g0, g1, g2, g3, g4⟩ := group_bounds c acc i c0 a0 a1 hi10 hsb
        have hp9 := pow_le_63 i hi
        have hp8 : i < 9 → (128 : Int) ^ i * 128 ≤ 9223372036854775808 := fun h => by
          have := pow_le_63 (i + 1) (by omega)
          rw [Int.pow_succ] at this
          exact this
        have HB := hide hsb
        have G := hide (And.intro g2 g3)
        have hp0 := pow_pos' i
        rw [← hp] at g0 g1 g2 g4 hp9 hp8 hp0
        clear hsb g3 a1 hp
        have hz' : i < 9 := by omega
        have hp8' := hp8 hz'
        have f1 : ¬ (0 : Int) < (i : Int) := by omega
        have f2 : ((i : Int) == 9) = false := by simp; omega
        clear hz0 hp8 hz
        by_cases hlt : c < 128
        · go_wp2
          go_ret3
          exact ⟨ret_tri (by rw [unhide HR, unhide HE, unhide HB, if_pos rfl, if_pos hlt, unhide HP]), rfl⟩
        · go_wp2
          go_round
          case rel => exact ⟨i + 1, acc + c % 128 * p, p * 128, by omega, by omega, by go_num, by go_num, by go_num, hide (by rw [Int.pow_succ, unhide HP]), hide (by rw [unhide HP]; exact unhide G), hide (by rw [unhide HR, unhide HE, unhide HB, if_pos rfl, if_neg (by omega), unhide HP]; rfl)⟩
          case measure => simp [intOf]; omega
      · subst hcz
        have HB := hide hsb
        clear hsb
        have f1 : (0 : Int) < (i : Int) := by omega
        by_cases h9 : i = 9
        · subst h9
          go_wp2
          go_ret3
          exact ⟨ret_tri (by rw [unhide HR, unhide HE, unhide HB]; rfl), rfl⟩
        · have f2 : ((i : Int) == 9) = false := by simp; omega
          go_wp2
          go_ret3
          exact ⟨ret_tri (by rw [unhide HR, unhide HE, unhide HB]; rfl), rfl⟩
      · have f3 : (c == 0) = false := by simpa using hcz
        obtain ⟨a0, a1⟩ := unhide HA
        have hp := unhide HP
        obtain ⟨g0, g1, g2, g3, g4⟩ := group_bounds c acc i c0 a0 a1 hi10 hsb
        have hp9 := pow_le_63 i hi
        have hp8 : i < 9 → (128 : Int) ^ i * 128 ≤ 9223372036854775808 := fun h => by
          have := pow_le_63 (i + 1) (by omega)
          rw [Int.pow_succ] at this
          exact this
        have HB := hide hsb
        have G := hide (And.intro g2 g3)
        have hp0 := pow_pos' i
        rw [← hp] at g0 g1 g2 g4 hp9 hp8 hp0
        clear hsb g3 a1 hp
        have hp8' := hp8 h9
        have f1 : (0 : Int) < (i : Int) := by omega
        have f2 : ((i : Int) == 9) = false := by simp; omega
        clear hcz hp8
        by_cases hlt : c < 128
        · go_wp2
          go_ret3
          exact ⟨ret_tri (by rw [unhide HR, unhide HE, unhide HB, if_pos rfl, if_pos hlt, unhide HP]), rfl⟩
        · go_wp2
          go_round
          case rel => exact ⟨i + 1, acc + c % 128 * p, p * 128, by omega, by omega, by go_num, by go_num, by go_num, hide (by rw [Int.pow_succ, unhide HP]), hide (by rw [unhide HP]; exact unhide G), hide (by rw [unhide HR, unhide HE, unhide HB, if_pos rfl, if_neg (by omega), unhide HP]; rfl)⟩
          case measure => simp [intOf]; omega
      · have h9' : i = 9 := by omega
        have hc1 : c = 1 := by omega
        subst h9' hc1
        obtain ⟨a0, a1⟩ := unhide HA
        have hp := unhide HP
        obtain ⟨g0, g1, g2, g3, g4⟩ := group_bounds 1 acc 9 c0 a0 a1 hi10 hsb
        have hp9 := pow_le_63 9 hi
        have HB := hide hsb
        have G := hide (And.intro g2 g3)
        have hp0 := pow_pos' 9
        rw [← hp] at g0 g1 g2 g4 hp9 hp0
        clear hsb g3 a1 hp
        go_wp2
        go_ret3
        exact ⟨ret_tri (by rw [unhide HR, unhide HE, unhide HB, if_pos rfl, if_pos (by omega), unhide HP, show (1 : Int) % 128 = 1 from rfl, Int.one_mul]; rfl), rfl⟩
      · have HB := hide hsb
        clear hsb
        have h9' : i = 9 := by omega
        subst h9'
        go_wp2
        go_ret3
        exact ⟨ret_tri (by rw [unhide HR, unhide HE, unhide HB]; rfl), rfl⟩

theorem refUint_any (ao : Option Addr) (len cap : Nat) (at_ : Int) (zs : List Int) (w : World) (hr : Row8 w ao len cap zs) (hm : cap ≤ maxLen) :
    Calls Try.prog 13 #[.slice ao len cap, .int .i64 at_] w fun e w' => e = .returned (.tuple #[.int .u64 (uintAt zs at_).1, .int .i64 (uintAt zs at_).2.1, .int .i64 (uintAt zs at_).2.2]) ∧ w' = w := by
  have hl := hr.length
  have hle := hr.le
  by_cases h : at_ < 0 ∨ (len : Int) < at_
  · have e : uintAt zs at_ = (0, 0, 10) := by unfold uintAt; rw [hl, if_pos h]
    rw [e]
    exact refUint_out ao len cap at_ w h (by omega)
  · obtain ⟨a, rfl⟩ := Int.eq_ofNat_of_zero_le (by omega : 0 ≤ at_)
    have e : uintAt zs a = rd a 10 0 0 (zs.drop a) := by unfold uintAt; rw [hl, if_neg h, Int.toNat_natCast]
    rw [e]
    by_cases he : a = len
    · subst he
      have e2 : rd (a : Int) 10 0 0 (zs.drop a) = (0, 0, 11) := rd_stop a a 0 0 zs (by omega) (by omega)
      rw [e2]
      exact refUint_end ao a cap w
    · obtain ⟨b, off, rfl, hc⟩ := hr.at (by omega)
      exact refUint_in b off len cap a zs w hl (by omega) hle hm hc hr.small

set_option maxRecDepth 100000 in
set_option maxHeartbeats 400000 in
theorem refInt_any (ao : Option Addr) (len cap : Nat) (at_ : Int) (zs : List Int) (w : World) (hr : Row8 w ao len cap zs) (hm : cap ≤ maxLen) :
    Calls Try.prog 41 #[.slice ao len cap, .int .i64 at_] w fun e w' => e = .returned (.tuple #[.int .i64 (intOfU (uintAt zs at_)).1, .int .i64 (intOfU (uintAt zs at_)).2.1, .int .i64 (intOfU (uintAt zs at_)).2.2]) ∧ w' = w := by
  have c := refUint_any ao len cap at_ zs w hr hm
  have hx := uint_max zs at_ hr.small
  have hf := uint_form zs at_ hr.small
  generalize uintAt zs at_ = r at *
  obtain ⟨n, nx, er⟩ := r
  dsimp only at *
  have C := hide c
  clear c
  by_cases h : er = 0
  · subst h
    have hn : 0 ≤ n := by obtain ⟨_, _, _, _, _, _, _, _, h8⟩ := hf rfl; exact h8
    clear hf hr
    by_cases ho : n % 2 = 1
    · have hb : (n % 2 == 1) = true := by simp [ho]
      have e : intOfU (n, nx, 0) = (-(n / 2) - 1, nx, 0) := by simp [intOfU, unfoldI, ho]
      rw [e]
      clear e ho
      go_enter Try.func41, Try.ntmps41
      go_wp2_with fail
      refine (unhide C).mono ?_
      rintro e w' ⟨rfl, rfl⟩
      go_wp2_with fail
      go_ret3
      exact ⟨rfl, rfl⟩
    · have hb : (n % 2 == 1) = false := by simp [ho]
      have e : intOfU (n, nx, 0) = (n / 2, nx, 0) := by simp [intOfU, unfoldI, ho]
      rw [e]
      clear e ho
      go_enter Try.func41, Try.ntmps41
      go_wp2_with fail
      refine (unhide C).mono ?_
      rintro e w' ⟨rfl, rfl⟩
      go_wp2_with fail
      go_ret3
      exact ⟨rfl, rfl⟩
  · have hne : (er != 0) = true := by simpa using h
    have HN := hide h
    clear hf hr h
    go_enter Try.func41, Try.ntmps41
    go_wp2_with fail
    refine (unhide C).mono ?_
    rintro e w' ⟨rfl, rfl⟩
    go_wp2_with fail
    go_ret3
    exact ⟨ret_tri' (by unfold intOfU; rw [if_neg (unhide HN)]), rfl⟩

end Go.Proofs.Ytjkladljhbcelaa
