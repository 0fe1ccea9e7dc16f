/-
  What is read of bytes: the number's bounds and its place; what is read is written as the same bytes; what is laid is read back; no conditions.
  The walks of num.Int and num.Text and of the document's Uint, Int, Text: what each answers at any place of any bytes; no conditions.
-/
import Derived.Test.YtfdnhpmldnmncaaR01
namespace Go.Proofs.Ytfdnhpmldnmncaa
open Go.RowKit

theorem stand9 (c : Int) (hs : standB c 9 = true) : c ≤ 1 := by
  rcases stand_cases c 9 with ⟨h, _⟩ | ⟨_, _, h⟩ | ⟨_, _, h, _⟩ | ⟨_, _, _, h, _⟩ | ⟨_, _, _, _, h⟩
  · omega
  · rw [hs] at h; cases h
  · omega
  · exact h
  · rw [hs] at h; cases h

theorem stand0 (c : Int) (i : Nat) (hi : 0 < i) (hs : standB c i = true) : c ≠ 0 := by
  rintro rfl
  rcases stand_cases 0 i with ⟨h, _⟩ | ⟨_, _, h⟩ | ⟨_, h, _⟩ | ⟨_, h, _⟩ | ⟨_, h, _⟩
  · omega
  · rw [hs] at h; cases h
  all_goals exact h rfl

/-- the error, the value and the number of groups of what is read -/
theorem rd_form (a : Int) (f i : Nat) (acc : Int) (l : List Int) (hf : f = 10 - i) (hl : ∀ n ∈ l, 0 ≤ n ∧ n ≤ 255) (n nx : Int) (h : rd a f i acc l = (n, nx, 0)) :
    ∃ (v : Int) (k : Nat), i < 10 ∧ n = acc + v * 128 ^ i ∧ nx = a + i + k ∧ 1 ≤ k ∧ k ≤ l.length ∧ i + k ≤ 10 ∧ encF (9 - i) v = l.take k ∧ 0 ≤ v ∧ (0 < i → 1 ≤ v) := by
  induction f generalizing i acc l with
  | zero => simp [rd] at h
  | succ f ih =>
    cases l with
    | nil => simp [rd] at h
    | cons c l =>
      have hc := hl c (by simp)
      have hi : i < 10 := by omega
      simp only [rd] at h
      split at h
      · rename_i hs
        split at h
        · rename_i hlt
          simp only [Prod.mk.injEq] at h
          refine ⟨c, 1, hi, ?_, by omega, by omega, by simp, by omega, ?_, hc.1, ?_⟩
          · rw [← h.1, Int.emod_eq_of_lt hc.1 hlt]
          · rw [encF_small _ _ hlt]; simp
          · intro h0; have := stand0 c i h0 hs; omega
        · rename_i hge
          have hi9 : i < 9 := by
            rcases Nat.lt_or_ge i 9 with h9 | h9
            · exact h9
            · have e : i = 9 := by omega
              subst e
              have := stand9 c hs
              omega
          obtain ⟨v, k, h1, h2, h3, h4, h5, h6, h7, h8, h9⟩ := ih (i + 1) _ l (by omega) (fun n hn => hl n (by simp [hn])) h
          have hv := h9 (by omega)
          refine ⟨c % 128 + 128 * v, k + 1, hi, ?_, by omega, by omega, by simp; omega, by omega, ?_, by omega, fun _ => by omega⟩
          · rw [h2, Int.pow_succ, Int.add_mul, Int.add_assoc, Int.mul_comm 128 v, Int.mul_assoc, Int.mul_comm (128 ^ i) 128]
          · have e : 9 - i = 9 - (i + 1) + 1 := by omega
            rw [e, encF_great _ _ (by omega), List.take_succ_cons, ← h7]
            have e1 : (c % 128 + 128 * v) % 128 + 128 = c := by omega
            have e2 : (c % 128 + 128 * v) / 128 = v := by omega
            rw [e1, e2]
      · simp at h

theorem rd_back (a : Int) (f i : Nat) (acc v : Int) (rest : List Int) (hf : f = 10 - i) (hi : i < 10) (h0 : 0 ≤ v) (h1 : v < 2 * 128 ^ (9 - i)) (hp : 0 < i → 1 ≤ v) :
    rd a f i acc (encF (9 - i) v ++ rest) = (acc + v * 128 ^ i, a + i + (encF (9 - i) v).length, 0) := by
  induction f generalizing i acc v with
  | zero => omega
  | succ f ih =>
    by_cases hv : v < 128
    · have hs : standB v i = true := by
        rcases stand_cases v i with ⟨_, h⟩ | ⟨hi0, h, _⟩ | ⟨_, _, _, h⟩ | ⟨_, _, _, _, h⟩ | ⟨_, _, h9, hgt, _⟩
        · exact h
        · have := hp hi0; omega
        · exact h
        · exact h
        · have e : i = 9 := by omega
          subst e
          simp at h1
          omega
      rw [encF_small _ _ hv]
      simp only [List.singleton_append, rd, hs, hv, if_true, Int.emod_eq_of_lt h0 hv]
      simp
    · have hi9 : i < 9 := by
        rcases Nat.lt_or_ge i 9 with h9 | h9
        · exact h9
        · have e : 9 - i = 0 := by omega
          rw [e] at h1
          simp at h1
          omega
      have e : 9 - i = 9 - (i + 1) + 1 := by omega
      have hs : standB (v % 128 + 128) i = true := by
        rcases stand_cases (v % 128 + 128) i with ⟨_, h⟩ | ⟨_, h, _⟩ | ⟨_, _, _, h⟩ | ⟨_, _, _, _, h⟩ | ⟨_, _, h9, _, _⟩
        · exact h
        · omega
        · exact h
        · exact h
        · omega
      have hb : v / 128 < 2 * 128 ^ (9 - (i + 1)) := by
        rw [e, Int.pow_succ] at h1
        omega
      have hih := ih (i + 1) (acc + (v % 128 + 128) % 128 * 128 ^ i) (v / 128) (by omega) (by omega) (by omega) hb (fun _ => by omega)
      rw [e, encF_great _ _ hv]
      simp only [List.cons_append, rd, hs, if_true]
      rw [if_neg (by omega), hih]
      have e1 : (v % 128 + 128) % 128 = v % 128 := by omega
      have e3 : acc + v % 128 * 128 ^ i + v / 128 * 128 ^ (i + 1) = acc + v * 128 ^ i := by
        have e4 : v * 128 ^ i = v % 128 * 128 ^ i + v / 128 * 128 ^ (i + 1) := by
          rw [Int.pow_succ, Int.mul_comm (128 ^ i) 128, ← Int.mul_assoc, ← Int.add_mul]
          congr 1
          omega
        omega
      rw [e1, e3]
      simp only [List.length_cons, Prod.mk.injEq, true_and, and_true]
      omega

theorem rd_err (a : Int) (f i : Nat) (acc : Int) (l : List Int) : (rd a f i acc l).2.2 ≠ 0 → (rd a f i acc l).1 = 0 ∧ (rd a f i acc l).2.1 = 0 := by
  induction f generalizing i acc l with
  | zero => simp [rd]
  | succ f ih =>
    cases l with
    | nil => simp [rd]
    | cons c l =>
      simp only [rd]
      split
      · split
        · simp
        · exact ih _ _ _
      · simp

theorem uint_err (zs : List Int) (at_ : Int) (h : (uintAt zs at_).2.2 ≠ 0) : (uintAt zs at_).1 = 0 ∧ (uintAt zs at_).2.1 = 0 := by
  unfold uintAt at *
  split at h
  · rename_i hc; rw [if_pos hc]; simp
  · rename_i hc; rw [if_neg hc]; exact rd_err _ _ _ _ _ h

/-- all that is known of a number that was read -/
theorem uint_form (zs : List Int) (at_ : Int) (hl : ∀ n ∈ zs, 0 ≤ n ∧ n ≤ 255) (h : (uintAt zs at_).2.2 = 0) :
    ∃ a k : Nat, at_ = a ∧ 1 ≤ k ∧ k ≤ 10 ∧ a + k ≤ zs.length ∧ (uintAt zs at_).2.1 = ((a + k : Nat) : Int) ∧ encF 9 (uintAt zs at_).1 = (zs.drop a).take k ∧ 0 ≤ (uintAt zs at_).1 := by
  by_cases hc : at_ < 0 ∨ (zs.length : Int) < at_
  · unfold uintAt at h; rw [if_pos hc] at h; simp at h
  · have e : uintAt zs at_ = rd at_ 10 0 0 (zs.drop at_.toNat) := by unfold uintAt; rw [if_neg hc]
    rw [e] at h ⊢
    generalize hr : rd at_ 10 0 0 (zs.drop at_.toNat) = r at h ⊢
    obtain ⟨n, nx, er⟩ := r
    dsimp only at h ⊢
    subst h
    obtain ⟨v, k, _, h2, h3, h4, h5, h6, h7, h8, _⟩ := rd_form at_ 10 0 0 (zs.drop at_.toNat) rfl (fun n hn => hl n (List.mem_of_mem_drop hn)) _ _ hr
    simp only [List.length_drop] at h5
    refine ⟨at_.toNat, k, by omega, h4, by omega, by omega, by omega, ?_, ?_⟩
    · rw [h2]; simpa using h7
    · rw [h2]; simpa using h8

/-- a number of ten groups at most, the tenth at most 1, is one of 64 bits -/
theorem rd_max (a : Int) (f i : Nat) (acc : Int) (l : List Int) (hf : f = 10 - i) (hl : ∀ n ∈ l, 0 ≤ n ∧ n ≤ 255) (h0 : 0 ≤ acc) (h1 : acc < 128 ^ i) : (rd a f i acc l).1 ≤ 18446744073709551615 := by
  induction f generalizing i acc l with
  | zero => simp [rd]
  | succ f ih =>
    cases l with
    | nil => simp [rd]
    | cons c l =>
      have hc := hl c (by simp)
      simp only [rd]
      split
      · rename_i hs
        obtain ⟨g0, g1, g2, g3, g4⟩ := group_bounds c acc i hc.1 h0 h1 (by omega) hs
        split
        · exact g4
        · exact ih (i + 1) _ l (by omega) (fun n hn => hl n (by simp [hn])) g2 g3
      · simp

theorem uint_max (zs : List Int) (at_ : Int) (hl : ∀ n ∈ zs, 0 ≤ n ∧ n ≤ 255) : (uintAt zs at_).1 ≤ 18446744073709551615 := by
  unfold uintAt
  split
  · simp
  · exact rd_max _ 10 0 0 _ rfl (fun n hn => hl n (List.mem_of_mem_drop hn)) (by omega) (by simp)

/-- what is laid behind bytes is read from there -/
theorem uint_back (zs rest : List Int) (n : Int) (h0 : 0 ≤ n) (h1 : n ≤ 18446744073709551615) :
    uintAt (zs ++ encF 9 n ++ rest) zs.length = (n, ((zs.length + (encF 9 n).length : Nat) : Int), 0) := by
  unfold uintAt
  rw [if_neg (by simp; omega), Int.toNat_natCast]
  have e : (zs ++ encF 9 n ++ rest).drop zs.length = encF 9 n ++ rest := by rw [List.append_assoc, List.drop_left]
  have e9 : (128 : Int) ^ (9 - 0) = 9223372036854775808 := by decide
  rw [e]
  have hb := rd_back zs.length 10 0 0 n rest rfl (by omega) h0 (by rw [e9]; omega) (by omega)
  rw [show (9 - 0 : Nat) = 9 from rfl] at hb
  rw [hb]
  simp

theorem fold_unfold (n : Int) : foldI (unfoldI n) = n ∨ n < 0 := by
  by_cases h : n < 0
  · exact Or.inr h
  · left; unfold foldI unfoldI; split <;> split <;> omega

theorem unfold_fold (n : Int) : unfoldI (foldI n) = n := by
  unfold foldI unfoldI; split <;> split <;> omega
end Go.Proofs.Ytfdnhpmldnmncaa

namespace Go.Proofs.Ytfdnhpmldnmncaa
open Go.RowKit

def intOfU (r : Int × Int × Int) : Int × Int × Int := if r.2.2 = 0 then (unfoldI r.1, r.2.1, 0) else (0, 0, r.2.2)

theorem ret_tri' {x y z : Int} {p : Int × Int × Int} (h : p = (x, y, z)) : Ending.returned (.tuple #[.int .i64 x, .int .i64 y, .int .i64 z]) = .returned (.tuple #[.int .i64 p.1, .int .i64 p.2.1, .int .i64 p.2.2]) := by rw [h]

set_option maxRecDepth 100000 in
set_option maxHeartbeats 400000 in
theorem int_any (ao : Option Addr) (len cap : Nat) (at_ : Int) (zs : List Int) (w : World) (hr : Row8 w ao len cap zs) (hm : cap ≤ maxLen) :
    Calls Try.prog 90 #[.slice ao len cap, .int .i64 at_] w fun e w' => e = .returned (.tuple #[.int .i64 (intOfU (uintAt zs at_)).1, .int .i64 (intOfU (uintAt zs at_)).2.1, .int .i64 (intOfU (uintAt zs at_)).2.2]) ∧ w' = w := by
  have c := uint_any ao len cap at_ zs w hr hm
  have hx := uint_max zs at_ hr.small
  have hf := uint_form zs at_ hr.small
  generalize uintAt zs at_ = r at *
  obtain ⟨n, nx, er⟩ := r
  dsimp only at *
  have C := hide c
  clear c
  by_cases h : er = 0
  · subst h
    have hn : 0 ≤ n := by obtain ⟨_, _, _, _, _, _, _, _, h8⟩ := hf rfl; exact h8
    clear hf hr
    go_enter Try.func90, Try.ntmps90
    go_wp2_with fail
    refine (unhide C).mono ?_
    rintro e w' ⟨rfl, rfl⟩
    go_wp2_with fail
    refine (unfold_any n _ hn hx).mono ?_
    rintro e w' ⟨rfl, rfl⟩
    go_wp2_with fail
    go_ret3
    exact ⟨ret_tri' (by rfl), rfl⟩
  · have hne : (er != 0) = true := by simpa using h
    have HN := hide h
    clear hf hr h
    go_enter Try.func90, Try.ntmps90
    go_wp2_with fail
    refine (unhide C).mono ?_
    rintro e w' ⟨rfl, rfl⟩
    go_wp2_with fail
    go_ret3
    exact ⟨ret_tri' (by unfold intOfU; rw [if_neg (unhide HN)]), rfl⟩

def textOfU (zs : List Int) (most : Int) (r : Int × Int × Int) : ByteArray × Int × Int :=
  if r.2.2 ≠ 0 then (⟨#[]⟩, 0, r.2.2) else if most < 0 ∨ most < r.1 then (⟨#[]⟩, 0, 13) else if (zs.length : Int) - r.2.1 < r.1 then (⟨#[]⟩, 0, 11)
  else (strOfNums ((zs.drop r.2.1.toNat).take r.1.toNat), r.2.1 + r.1, 0)

theorem ret_txt {x : ByteArray} {y z : Int} {p : ByteArray × Int × Int} (h : p = (x, y, z)) : Ending.returned (.tuple #[.string x, .int .i64 y, .int .i64 z]) = .returned (.tuple #[.string p.1, .int .i64 p.2.1, .int .i64 p.2.2]) := by rw [h]

set_option maxRecDepth 100000 in
set_option maxHeartbeats 1000000 in
theorem text_any (ao : Option Addr) (len cap : Nat) (at_ most : Int) (zs : List Int) (w : World) (hr : Row8 w ao len cap zs) (hm : cap ≤ 9223372036854775807) (hmost : most ≤ 9223372036854775807) :
    Calls Try.prog 66 #[.slice ao len cap, .int .i64 at_, .int .i64 most] w fun e w' => e = .returned (.tuple #[.string (textOfU zs most (uintAt zs at_)).1, .int .i64 (textOfU zs most (uintAt zs at_)).2.1, .int .i64 (textOfU zs most (uintAt zs at_)).2.2]) ∧ w' = w := by
  have c := uint_any ao len cap at_ zs w hr hm
  have hx := uint_max zs at_ hr.small
  have hf := uint_form zs at_ hr.small
  have hl := hr.length
  have hle := hr.le
  generalize uintAt zs at_ = r at *
  obtain ⟨n, nx, er⟩ := r
  dsimp only at *
  have C := hide c
  clear c
  by_cases h : er = 0
  · subst h
    obtain ⟨a, k, ha, k1, k10, hak, hnx, _, hn⟩ := hf rfl
    subst ha hnx
    obtain ⟨m, rfl⟩ := Int.eq_ofNat_of_zero_le hn
    obtain ⟨b, off, rfl, hcell⟩ := hr.at (by omega)
    clear hf
    generalize a + k = nx at *
    by_cases h1 : most < 0 ∨ most < (m : Int)
    · have e : textOfU zs most ((m : Int), (nx : Int), 0) = (⟨#[]⟩, 0, 13) := by simp [textOfU, h1]
      rw [e]
      clear e hr hcell
      rcases h1 with h1 | h1
      · go_enter Try.func66, Try.ntmps66
        go_wp2_with fail
        refine (unhide C).mono ?_
        rintro e w' ⟨rfl, rfl⟩
        go_wp2_with fail
        go_ret3
        exact ⟨rfl, rfl⟩
      · by_cases h2 : most < 0
        · go_enter Try.func66, Try.ntmps66
          go_wp2_with fail
          refine (unhide C).mono ?_
          rintro e w' ⟨rfl, rfl⟩
          go_wp2_with fail
          go_ret3
          exact ⟨rfl, rfl⟩
        · have h3 : 0 ≤ most := by omega
          go_enter Try.func66, Try.ntmps66
          go_wp2_with fail
          refine (unhide C).mono ?_
          rintro e w' ⟨rfl, rfl⟩
          go_wp2_with fail
          go_ret3
          exact ⟨rfl, rfl⟩
    · have h2 : 0 ≤ most := by omega
      have h2' : ¬ most < 0 := by omega
      have h3 : ¬ most < (m : Int) := by omega
      by_cases h4 : (len : Int) - (nx : Int) < (m : Int)
      · have e : textOfU zs most ((m : Int), (nx : Int), 0) = (⟨#[]⟩, 0, 11) := by simp [textOfU, h1, hl, h4]
        rw [e]
        have hnl : (nx : Int) ≤ (len : Int) := by omega
        clear e hr hcell h1 hl hak
        go_enter Try.func66, Try.ntmps66
        go_wp2_with fail
        refine (unhide C).mono ?_
        rintro e w' ⟨rfl, rfl⟩
        go_wp2_with fail
        go_ret3
        exact ⟨rfl, rfl⟩
      · have e : textOfU zs most ((m : Int), (nx : Int), 0) = (strOfNums ((zs.drop nx).take m), (nx : Int) + m, 0) := by simp [textOfU, h1, hl, h4]
        rw [e]
        have hnl : (nx : Int) ≤ (len : Int) := by omega
        have hnm : nx + m ≤ len := by omega
        by_cases hc : cap = nx
        · have hm0 : m = 0 := by omega
          subst hm0
          have k2 : Sem.run Try.prog (convert 22 9 (.slice (some ⟨b, off, none⟩) 0 0)) w = .ok (.string (strOfNums ((zs.drop nx).take 0))) w := conv_row hl hcell 0 0 0 (by omega) 0
          clear e hr hcell h1 hl hak
          generalize strOfNums ((zs.drop nx).take 0) = S at *
          obtain rfl : nx = len := by omega
          subst hc
          go_enter Try.func66, Try.ntmps66
          go_wp2_with fail
          refine (unhide C).mono ?_
          rintro e w' ⟨rfl, rfl⟩
          go_wp2_with fail
          go_ret3
          exact ⟨by simp, rfl⟩
        · have k2 : Sem.run Try.prog (convert 22 9 (.slice (some ⟨b, off + nx, none⟩) m (cap - nx))) w = .ok (.string (strOfNums ((zs.drop nx).take m))) w := conv_row hl hcell nx m (cap - nx) (by omega) 0
          clear e hr hcell h1 hl hak
          generalize strOfNums ((zs.drop nx).take m) = S at *
          go_enter Try.func66, Try.ntmps66
          go_wp2_with fail
          refine (unhide C).mono ?_
          rintro e w' ⟨rfl, rfl⟩
          go_wp2_with fail
          go_ret3
          exact ⟨rfl, rfl⟩
  · have hne : (er != 0) = true := by simpa using h
    have e : textOfU zs most (n, nx, er) = (⟨#[]⟩, 0, er) := by simp [textOfU, h]
    rw [e]
    clear hf hr h e
    go_enter Try.func66, Try.ntmps66
    go_wp2_with fail
    refine (unhide C).mono ?_
    rintro e w' ⟨rfl, rfl⟩
    go_wp2_with fail
    go_ret3
    exact ⟨rfl, rfl⟩
end Go.Proofs.Ytfdnhpmldnmncaa
