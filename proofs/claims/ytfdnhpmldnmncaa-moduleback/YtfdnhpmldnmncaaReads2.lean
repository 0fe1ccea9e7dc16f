/-
  The walks of num.Int and num.Text and of the document's Uint, Int, Text: what each answers at any place of any bytes; no conditions.
-/
import Derived.Test.YtfdnhpmldnmncaaMath2
namespace Go.Proofs.Ytfdnhpmldnmncaa
open Go.RowKit

def intOfU (r : Int × Int × Int) : Int × Int × Int := if r.2.2 = 0 then (unfoldI r.1, r.2.1, 0) else (0, 0, r.2.2)

theorem ret_tri' {x y z : Int} {p : Int × Int × Int} (h : p = (x, y, z)) : Ending.returned (.tuple #[.int .i64 x, .int .i64 y, .int .i64 z]) = .returned (.tuple #[.int .i64 p.1, .int .i64 p.2.1, .int .i64 p.2.2]) := by rw [h]

set_option maxRecDepth 100000 in
set_option maxHeartbeats 400000 in
theorem int_any (ao : Option Addr) (len cap : Nat) (at_ : Int) (zs : List Int) (w : World) (hr : Row8 w ao len cap zs) (hm : cap ≤ maxLen) :
    Calls Try.prog 90 #[.slice ao len cap, .int .i64 at_] w fun e w' => e = .returned (.tuple #[.int .i64 (intOfU (uintAt zs at_)).1, .int .i64 (intOfU (uintAt zs at_)).2.1, .int .i64 (intOfU (uintAt zs at_)).2.2]) ∧ w' = w := by
  have c := uint_any ao len cap at_ zs w hr hm
  have hx := uint_max zs at_ hr.small
  have hf := uint_form zs at_ hr.small
  generalize uintAt zs at_ = r at *
  obtain ⟨n, nx, er⟩ := r
  dsimp only at *
  have C := hide c
  clear c
  by_cases h : er = 0
  · subst h
    have hn : 0 ≤ n := by obtain ⟨_, _, _, _, _, _, _, _, h8⟩ := hf rfl; exact h8
    clear hf hr
    go_enter Try.func90, Try.ntmps90
    go_wp2_with fail
    refine (unhide C).mono ?_
    rintro e w' ⟨rfl, rfl⟩
    go_wp2_with fail
    refine (unfold_any n _ hn hx).mono ?_
    rintro e w' ⟨rfl, rfl⟩
    go_wp2_with fail
    go_ret3
    exact ⟨ret_tri' (by rfl), rfl⟩
  · have hne : (er != 0) = true := by simpa using h
    have HN := hide h
    clear hf hr h
    go_enter Try.func90, Try.ntmps90
    go_wp2_with fail
    refine (unhide C).mono ?_
    rintro e w' ⟨rfl, rfl⟩
    go_wp2_with fail
    go_ret3
    exact ⟨ret_tri' (by unfold intOfU; rw [if_neg (unhide HN)]), rfl⟩

def textOfU (zs : List Int) (most : Int) (r : Int × Int × Int) : ByteArray × Int × Int :=
  if r.2.2 ≠ 0 then (⟨#[]⟩, 0, r.2.2) else if most < 0 ∨ most < r.1 then (⟨#[]⟩, 0, 13) else if (zs.length : Int) - r.2.1 < r.1 then (⟨#[]⟩, 0, 11)
  else (strOfNums ((zs.drop r.2.1.toNat).take r.1.toNat), r.2.1 + r.1, 0)

theorem ret_txt {x : ByteArray} {y z : Int} {p : ByteArray × Int × Int} (h : p = (x, y, z)) : Ending.returned (.tuple #[.string x, .int .i64 y, .int .i64 z]) = .returned (.tuple #[.string p.1, .int .i64 p.2.1, .int .i64 p.2.2]) := by rw [h]

set_option maxRecDepth 100000 in
set_option maxHeartbeats 1000000 in
theorem text_any (ao : Option Addr) (len cap : Nat) (at_ most : Int) (zs : List Int) (w : World) (hr : Row8 w ao len cap zs) (hm : cap ≤ 9223372036854775807) (hmost : most ≤ 9223372036854775807) :
    Calls Try.prog 66 #[.slice ao len cap, .int .i64 at_, .int .i64 most] w fun e w' => e = .returned (.tuple #[.string (textOfU zs most (uintAt zs at_)).1, .int .i64 (textOfU zs most (uintAt zs at_)).2.1, .int .i64 (textOfU zs most (uintAt zs at_)).2.2]) ∧ w' = w := by
  have c := uint_any ao len cap at_ zs w hr hm
  have hx := uint_max zs at_ hr.small
  have hf := uint_form zs at_ hr.small
  have hl := hr.length
  have hle := hr.le
  generalize uintAt zs at_ = r at *
  obtain ⟨n, nx, er⟩ := r
  dsimp only at *
  have C := hide c
  clear c
  by_cases h : er = 0
  · subst h
    obtain ⟨a, k, ha, k1, k10, hak, hnx, _, hn⟩ := hf rfl
    subst ha hnx
    obtain ⟨m, rfl⟩ := Int.eq_ofNat_of_zero_le hn
    obtain ⟨b, off, rfl, hcell⟩ := hr.at (by omega)
    clear hf
    generalize a + k = nx at *
    by_cases h1 : most < 0 ∨ most < (m : Int)
    · have e : textOfU zs most ((m : Int), (nx : Int), 0) = (⟨#[]⟩, 0, 13) := by simp [textOfU, h1]
      rw [e]
      clear e hr hcell
      rcases h1 with h1 | h1
      · go_enter Try.func66, Try.ntmps66
        go_wp2_with fail
        refine (unhide C).mono ?_
        rintro e w' ⟨rfl, rfl⟩
        go_wp2_with fail
        go_ret3
        exact ⟨rfl, rfl⟩
      · by_cases h2 : most < 0
        · go_enter Try.func66, Try.ntmps66
          go_wp2_with fail
          refine (unhide C).mono ?_
          rintro e w' ⟨rfl, rfl⟩
          go_wp2_with fail
          go_ret3
          exact ⟨rfl, rfl⟩
        · have h3 : 0 ≤ most := by omega
          go_enter Try.func66, Try.ntmps66
          go_wp2_with fail
          refine (unhide C).mono ?_
          rintro e w' ⟨rfl, rfl⟩
          go_wp2_with fail
          go_ret3
          exact ⟨rfl, rfl⟩
    · have h2 : 0 ≤ most := by omega
      have h2' : ¬ most < 0 := by omega
      have h3 : ¬ most < (m : Int) := by omega
      by_cases h4 : (len : Int) - (nx : Int) < (m : Int)
      · have e : textOfU zs most ((m : Int), (nx : Int), 0) = (⟨#[]⟩, 0, 11) := by simp [textOfU, h1, hl, h4]
        rw [e]
        have hnl : (nx : Int) ≤ (len : Int) := by omega
        clear e hr hcell h1 hl hak
        go_enter Try.func66, Try.ntmps66
        go_wp2_with fail
        refine (unhide C).mono ?_
        rintro e w' ⟨rfl, rfl⟩
        go_wp2_with fail
        go_ret3
        exact ⟨rfl, rfl⟩
      · have e : textOfU zs most ((m : Int), (nx : Int), 0) = (strOfNums ((zs.drop nx).take m), (nx : Int) + m, 0) := by simp [textOfU, h1, hl, h4]
        rw [e]
        have hnl : (nx : Int) ≤ (len : Int) := by omega
        have hnm : nx + m ≤ len := by omega
        by_cases hc : cap = nx
        · have hm0 : m = 0 := by omega
          subst hm0
          have k2 : Sem.run Try.prog (convert 22 9 (.slice (some ⟨b, off, none⟩) 0 0)) w = .ok (.string (strOfNums ((zs.drop nx).take 0))) w := conv_row hl hcell 0 0 0 (by omega) 0
          clear e hr hcell h1 hl hak
          generalize strOfNums ((zs.drop nx).take 0) = S at *
          obtain rfl : nx = len := by omega
          subst hc
          go_enter Try.func66, Try.ntmps66
          go_wp2_with fail
          refine (unhide C).mono ?_
          rintro e w' ⟨rfl, rfl⟩
          go_wp2_with fail
          go_ret3
          exact ⟨by simp, rfl⟩
        · have k2 : Sem.run Try.prog (convert 22 9 (.slice (some ⟨b, off + nx, none⟩) m (cap - nx))) w = .ok (.string (strOfNums ((zs.drop nx).take m))) w := conv_row hl hcell nx m (cap - nx) (by omega) 0
          clear e hr hcell h1 hl hak
          generalize strOfNums ((zs.drop nx).take m) = S at *
          go_enter Try.func66, Try.ntmps66
          go_wp2_with fail
          refine (unhide C).mono ?_
          rintro e w' ⟨rfl, rfl⟩
          go_wp2_with fail
          go_ret3
          exact ⟨rfl, rfl⟩
  · have hne : (er != 0) = true := by simpa using h
    have e : textOfU zs most (n, nx, er) = (⟨#[]⟩, 0, er) := by simp [textOfU, h]
    rw [e]
    clear hf hr h e
    go_enter Try.func66, Try.ntmps66
    go_wp2_with fail
    refine (unhide C).mono ?_
    rintro e w' ⟨rfl, rfl⟩
    go_wp2_with fail
    go_ret3
    exact ⟨rfl, rfl⟩
end Go.Proofs.Ytfdnhpmldnmncaa
