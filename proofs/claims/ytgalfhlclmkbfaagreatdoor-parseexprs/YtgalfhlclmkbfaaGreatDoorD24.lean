/-
  The walks of the document's letter, digit, word, Keywords, isIn, IsName (layer 16); conditions: a text of at most 2^47 bytes.
  The walks of the document's blanks, hex, piece, number (layer 16); conditions: a text of at most 2^40 bytes.
-/
import Derived.Test.YtgalfhlclmkbfaaGreatDoorD01
import Derived.Test.YtgalfhlclmkbfaaGreatDoorD04
set_option linter.unusedVariables false
set_option linter.unusedSimpArgs false
namespace Go.Proofs.YtgalfhlclmkbfaaGreatDoor
open Go.RowKit
set_option linter.unusedVariables false
set_option linter.unusedSimpArgs false
theorem letterD_any (c : Int) (w : World) :
  Calls Tryz.prog 56 #[.int .u8 c] w fun e w' => e = .returned (.bool (rLet c)) ∧ w' = w := by
 rcases rLet_cases c with ⟨hR, h1, h2, h3⟩ | ⟨hR, h1, h2, h3⟩ | ⟨hR, h1, h2, h3, h4⟩ | ⟨hR, h1, h2, h3, h4⟩ | ⟨hR, h1, h2⟩ | ⟨hR, h1, h2, h3, h4, h5⟩
 all_goals
  rw [hR]
  clear hR
  go_enter Tryz.func56, Tryz.ntmps56
  go_wp2_with fail
  go_ret
  exact ⟨rfl, rfl⟩
theorem digitD_any (c : Int) (w : World) :
  Calls Tryz.prog 57 #[.int .u8 c] w fun e w' => e = .returned (.bool (rDig c)) ∧ w' = w := by
 by_cases h1 : 48 ≤ c <;> by_cases h2 : c ≤ 57
 all_goals
  have hR : rDig c = decide (48 ≤ c ∧ c ≤ 57) := rfl
  simp only [h1, h2, decide_true, decide_false, and_self, and_true, and_false, true_and] at hR
  rw [hR]
  clear hR
  go_enter Tryz.func57, Tryz.ntmps57
  go_wp2_with fail
  go_ret
  exact ⟨rfl, rfl⟩
theorem letterD_at (s : ByteArray) (i : Nat) (h : i < s.size) (w : World) :
  Calls Tryz.prog 56 #[.int .u8 ((s[i]'h).toNat : Int)] w fun e w' => e = .returned (.bool (lxLet (s[i]'h))) ∧ w' = w := by
 rw [← lxLet_r]; exact letterD_any _ w
theorem digitD_at (s : ByteArray) (i : Nat) (h : i < s.size) (w : World) :
  Calls Tryz.prog 57 #[.int .u8 ((s[i]'h).toNat : Int)] w fun e w' => e = .returned (.bool (lxDig (s[i]'h))) ∧ w' = w := by
 rw [← lxDig_r]; exact digitD_any _ w
theorem tw_len (p : UInt8 → Bool) (s : ByteArray) (a n : Nat) (hn : a + n ≤ s.size) (h1 : ∀ j c, j < n → s.data.toList[a + j]? = some c → p c = true) (h2 : ∀ c, s.data.toList[a + n]? = some c → p c = false) : ((s.data.toList.drop a).takeWhile p).length = n := by
 have hl := len_list s
 have hd : (s.extract a s.size).data.toList = s.data.toList.drop a := by rw [ext_drop, bA_data]
 have hz : (s.extract a s.size).size = s.size - a := by rw [← len_list, hd, List.length_drop, hl]
 have := tw_stop p (s.extract a s.size) n (by omega) (fun j c hj hc => h1 j c hj (by rw [hd, List.getElem?_drop] at hc; exact hc)) (fun c hc => h2 c (by rw [hd, List.getElem?_drop] at hc; exact hc))
 rw [hd] at this
 rw [this, List.length_take, List.length_drop]
 omega
set_option maxRecDepth 100000 in
set_option maxHeartbeats 1000000 in
theorem wordD_any (s : ByteArray) (a : Nat) (ha : a ≤ s.size) (hs : s.size ≤ 140737488355328) (w : World) :
  Calls Tryz.prog 55 #[.string s, .int .i64 (a : Int)] w fun e w' => e = .returned (.int .i64 (((s.data.toList.drop a).takeWhile lxW).length : Int)) ∧ w' = w := by
 obtain ⟨R, hR⟩ : ∃ R, ((s.data.toList.drop a).takeWhile lxW).length = R := ⟨_, rfl⟩
 have HR := hide hR
 rw [hR]
 clear hR
 have h47 : (s.size : Int) ≤ 140737488355328 := by omega
 go_enter Tryz.func55, Tryz.ntmps55
 go_wp2_with fail
 go_loop [5] (fun x => ∃ n : Nat, x = .int .i64 (n : Int) ∧ a + n ≤ s.size ∧ Hid (∀ j c, j < n → s.data.toList[a + j]? = some c → lxW c = true)) (fun x => s.size - (intOf x).toNat)
 case atStart => exact ⟨0, rfl, ha, hide (fun j c h => by omega)⟩
 case round =>
  obtain ⟨n, rfl, hn, HJ⟩ := hrel
  by_cases hlt : a + n < s.size
  ·have j1 : (a : Int) + (n : Int) < (s.size : Int) := by omega
   have j2 : ((a : Int) + (n : Int)).toNat = a + n := by omega
   have CL := hide (letterD_at s (a + n) hlt w)
   have CD := hide (digitD_at s (a + n) hlt w)
   have hat := at_list s (a + n) hlt
   obtain ⟨c, hc⟩ : ∃ c, s[a + n]'hlt = c := ⟨_, rfl⟩
   have hci : ((s[a + n]'hlt).toNat : Int) = (c.toNat : Int) := by rw [hc]
   have HC := hide hc
   rw [hc] at CL CD hat
   have HW : Hid (lxW c = true → ∀ j d, j < n + 1 → s.data.toList[a + j]? = some d → lxW d = true) := hide (fun hw j d hj hd => by
    rcases Nat.lt_or_ge j n with h | h
    ·exact unhide HJ j d h hd
    ·obtain rfl : j = n := by omega
     rw [hat] at hd
     cases hd
     exact hw)
   have HE : Hid (lxW c = false → n = R) := hide (fun hw => by
    rw [← unhide HR]
    exact (tw_len lxW s a n hn (unhide HJ) (fun d hd => by
     rw [hat] at hd
     cases hd
     exact hw)).symm)
   clear hc hat
   cases hL : lxLet c <;> cases hD : lxDig c
   all_goals
    rw [hL] at CL
    rw [hD] at CD
    have hW : lxW c = (lxLet c || lxDig c) := rfl
    rw [hL, hD] at hW
    simp only [Bool.or_true, Bool.true_or, Bool.or_false] at hW
    have HWW := hide hW
    clear hW hL hD
    go_wp2_with fail
    refine (unhide CL).mono ?_
    rintro e u ⟨rfl, rfl⟩
    go_wp2_with fail
    refine (unhide CD).mono ?_
    rintro e u ⟨rfl, rfl⟩
    go_wp2_with fail
    first
    |go_ret
     exact ⟨by rw [← unhide HE (unhide HWW)]; rfl, rfl⟩
    |go_round
     case rel => exact ⟨n + 1, by go_num, by omega, hide (unhide HW (unhide HWW))⟩
     case measure => simp [intOf]; omega
  ·have j1 : ¬ (a : Int) + (n : Int) < (s.size : Int) := by omega
   have HE : Hid (n = R) := hide (by
    rw [← unhide HR]
    exact (tw_len lxW s a n hn (unhide HJ) (fun d hd => by
     rw [List.getElem?_eq_none (show s.data.toList.length ≤ a + n by rw [len_list]; omega)] at hd
     cases hd)).symm)
   go_wp2_with fail
   go_ret
   exact ⟨by rw [unhide HE]; rfl, rfl⟩
def RowT (w : World) (b : Nat) (L : List (List UInt8)) : Prop := b < w.heap.size ∧ ∀ j x, L[j]? = some x → w.cell? ⟨b, j, none⟩ = some (.string (bA x))
set_option maxRecDepth 100000 in
set_option maxHeartbeats 1000000 in
theorem isIn_any (w : World) (b : Nat) (L : List (List UInt8)) (c : Nat) (h : RowT w b L) (hL : L.length ≤ c) (hc : c ≤ 1000) (s : ByteArray) :
  Calls Tryz.prog 58 #[.slice (some ⟨b, 0, none⟩) L.length c, .string s] w fun e w' => e = .returned (.bool (L.contains s.data.toList)) ∧ w' = w := by
 obtain ⟨R, hR⟩ : ∃ R, L.contains s.data.toList = R := ⟨_, rfl⟩
 have HR := hide hR
 rw [hR]
 clear hR
 have hlt := h.1
 have HC := hide h.2
 obtain ⟨m, hm⟩ : ∃ m, L.length = m := ⟨_, rfl⟩
 have HM := hide hm
 rw [hm] at hL ⊢
 have hm1 : (m : Int) ≤ 1000 := by omega
 clear hm h
 go_enter Tryz.func58, Tryz.ntmps58
 go_wp2_with fail
 go_loop [5] (fun x => ∃ n : Nat, x = .int .i64 (n : Int) ∧ n ≤ m ∧ Hid (∀ j x, j < n → L[j]? = some x → ¬ x = s.data.toList)) (fun x => m - (intOf x).toNat)
 case atStart => exact ⟨0, rfl, by omega, hide (fun j c h => by omega)⟩
 case round =>
  obtain ⟨n, rfl, hn, HJ⟩ := hrel
  by_cases hlm : n < m
  ·have j1 : (n : Int) < (m : Int) := by omega
   obtain ⟨x, hx⟩ : ∃ x, L[n]? = some x := ⟨_, List.getElem?_eq_getElem (by have := unhide HM; omega)⟩
   have hcell := unhide HC n x hx
   have hp : (⟨b, 0, none⟩ : Addr).add n = ⟨b, n, none⟩ := by unfold Addr.add; split <;> simp_all
   have hcmp : ((bA x).toList == s.toList) = (x == s.data.toList) := by rw [bA_list, ByteArray.toList_eq]
   obtain ⟨X, hX⟩ : ∃ X, bA x = X := ⟨_, rfl⟩
   rw [hX] at hcell hcmp
   cases hq : (x == s.data.toList) with
   |true =>
    rw [hq] at hcmp
    have HE : Hid (R = true) := hide (by
     rw [← unhide HR, List.contains_iff_mem.2]
     rw [beq_iff_eq] at hq
     rw [← hq]
     exact List.mem_of_getElem? hx)
    clear hq hx hX
    go_wp2_with fail
    go_ret
    exact ⟨by rw [unhide HE]; rfl, rfl⟩
   |false =>
    rw [hq] at hcmp
    have HE : Hid (∀ j x, j < n + 1 → L[j]? = some x → ¬ x = s.data.toList) := hide (fun j y hj hy => by
     rcases Nat.lt_or_ge j n with h | h
     ·exact unhide HJ j y h hy
     ·obtain rfl : j = n := by omega
      rw [hx] at hy
      cases hy
      exact beq_eq_false_iff_ne.1 hq)
    clear hq hx hX
    go_wp2_with fail
    go_round
    case rel => exact ⟨n + 1, by go_num, by omega, HE⟩
    case measure => simp [intOf]; omega
  ·have j1 : ¬ (n : Int) < (m : Int) := by omega
   have HE : Hid (R = false) := hide (by
    rw [← unhide HR, Bool.eq_false_iff]
    intro e
    rw [List.contains_iff_mem] at e
    obtain ⟨j, hj⟩ := List.mem_iff_getElem?.1 e
    have hjl : j < L.length := (List.getElem?_eq_some_iff.1 hj).1
    exact unhide HJ j _ (by have := unhide HM; omega) hj rfl)
   go_wp2_with fail
   go_ret
   exact ⟨by rw [unhide HE]; rfl, rfl⟩
theorem rowT_alloc (w : World) (L : List (List UInt8)) (C : Array Value) (t : TypeId) (hC : C.toList = L.map (fun x => .string (bA x))) : RowT (w.alloc (.cells C t)) w.heap.size L := by
 refine ⟨by simp, fun j x hx => ?_⟩
 have hj : C[j]? = some (.string (bA x)) := by
  rw [← Array.getElem?_toList, hC, List.getElem?_map, hx]
  rfl
 simp only [World.cell?, World.alloc]
 simp [hj]
def keysC : Array Value := #[.string ⟨#[102, 110]⟩, .string ⟨#[101, 120, 112, 111, 114, 116]⟩, .string ⟨#[108, 101, 116]⟩, .string ⟨#[105, 102]⟩, .string ⟨#[101, 108, 115, 101]⟩, .string ⟨#[119, 104, 105, 108, 101]⟩, .string ⟨#[114, 101, 116, 117, 114, 110]⟩, .string ⟨#[98, 114, 101, 97, 107]⟩, .string ⟨#[99, 111, 110, 116, 105, 110, 117, 101]⟩, .string ⟨#[116, 114, 117, 101]⟩, .string ⟨#[102, 97, 108, 115, 101]⟩, .string ⟨#[117, 110, 105, 116]⟩]
set_option maxRecDepth 100000 in
set_option maxHeartbeats 1000000 in
theorem keywords_any (w : World) :
  Calls Tryz.prog 59 #[] w fun e w' => e = .returned (.slice (some ⟨w.heap.size, 0, none⟩) 12 12) ∧ RowT w' w.heap.size keyL ∧ Below w.heap.size w w' := by
 have HX : Hid (RowT (w.alloc (.cells keysC 9)) w.heap.size keyL ∧ Below w.heap.size w (w.alloc (.cells keysC 9))) := hide ⟨rowT_alloc w keyL keysC 9 rfl, (Below.refl _ _).alloc (Nat.le_refl _) _⟩
 unfold keysC at HX
 go_enter Tryz.func59, Tryz.ntmps59
 go_wp2_with fail
 go_ret
 exact ⟨rfl, unhide HX⟩
end Go.Proofs.YtgalfhlclmkbfaaGreatDoor

namespace Go.Proofs.YtgalfhlclmkbfaaGreatDoor
open Go.RowKit
set_option linter.unusedVariables false
set_option linter.unusedSimpArgs false
theorem blk_step {c : UInt8} {r : List UInt8} (h : lxB c = true) : blk false (c :: r) = blk false r + 1 := by simp only [blk, h, if_true]
set_option maxRecDepth 100000 in
set_option maxHeartbeats 1000000 in
theorem blanksD_any (s : ByteArray) (a : Nat) (ha : a ≤ s.size) (hs : s.size ≤ 1099511627776) (w : World) :
  Calls Tryz.prog 31 #[.string s, .int .i64 (a : Int)] w fun e w' => e = .returned (.int .i64 ((a + blk false (s.data.toList.drop a) : Nat) : Int)) ∧ w' = w := by
 obtain ⟨R, hR⟩ : ∃ R, a + blk false (s.data.toList.drop a) = R := ⟨_, rfl⟩
 have HR := hide hR
 rw [hR]
 clear hR
 have hs2 : (s.size : Int) ≤ 1099511627776 := by omega
 go_enter Tryz.func31, Tryz.ntmps31
 go_wp2_with fail
 go_loopw [1] (fun x wr => ∃ p : Nat, x = .int .i64 (p : Int) ∧ p ≤ s.size ∧ Hid (R = p + blk false (s.data.toList.drop p) ∧ wr = w)) (fun x _ => s.size - (intOf x).toNat)
 case atStart => exact ⟨a, rfl, ha, hide ⟨(unhide HR).symm, rfl⟩⟩
 case round =>
  obtain ⟨p, rfl, hps, HX⟩ := hrel
  by_cases hlt : p < s.size
  ·have j1 : (p : Int) < (s.size : Int) := by omega
   have hdr := drop_at s p hlt
   obtain ⟨c, hc⟩ : ∃ c, s[p]'hlt = c := ⟨_, rfl⟩
   obtain ⟨z, hz⟩ : ∃ z : Nat, c.toNat = z := ⟨_, rfl⟩
   have hzi : ((s[p]'hlt).toNat : Int) = (z : Int) := by rw [hc, hz]
   rw [hc] at hdr
   have HC := hide (And.intro hz hdr)
   have HLT := hide hlt
   by_cases hb : z = 32 ∨ z = 9 ∨ z = 10 ∨ z = 13
   ·have HN : Hid (R = p + 1 + blk false (s.data.toList.drop (p + 1)) ∧ wr = w) := hide ⟨by
     have hB : lxB c = true := decide_eq_true (by rw [hz]; exact hb)
     rw [(unhide HX).1, hdr, blk_step hB]
     omega, (unhide HX).2⟩
    clear hdr hc hz HX
    rcases hb with h | h | h | h
    ·have p32 : ((z : Int) == 32) = true := beq_iff_eq.2 (by omega)
     clear h
     go_wp2_with fail
     go_roundw
     case rel => exact ⟨p + 1, by go_num, unhide HLT, HN⟩
     case measure => have := unhide HLT; simp [intOf]; omega
    ·have p32 : ((z : Int) == 32) = false := beq_eq_false_iff_ne.2 (by omega)
     have n32 : ¬ (z : Int) = 32 := by omega
     have p9 : ((z : Int) == 9) = true := beq_iff_eq.2 (by omega)
     clear h
     go_wp2_with fail
     go_roundw
     case rel => exact ⟨p + 1, by go_num, unhide HLT, HN⟩
     case measure => have := unhide HLT; simp [intOf]; omega
    ·have p32 : ((z : Int) == 32) = false := beq_eq_false_iff_ne.2 (by omega)
     have n32 : ¬ (z : Int) = 32 := by omega
     have p9 : ((z : Int) == 9) = false := beq_eq_false_iff_ne.2 (by omega)
     have n9 : ¬ (z : Int) = 9 := by omega
     have p10 : ((z : Int) == 10) = true := beq_iff_eq.2 (by omega)
     clear h
     go_wp2_with fail
     go_roundw
     case rel => exact ⟨p + 1, by go_num, unhide HLT, HN⟩
     case measure => have := unhide HLT; simp [intOf]; omega
    ·have p32 : ((z : Int) == 32) = false := beq_eq_false_iff_ne.2 (by omega)
     have n32 : ¬ (z : Int) = 32 := by omega
     have p9 : ((z : Int) == 9) = false := beq_eq_false_iff_ne.2 (by omega)
     have n9 : ¬ (z : Int) = 9 := by omega
     have p10 : ((z : Int) == 10) = false := beq_eq_false_iff_ne.2 (by omega)
     have n10 : ¬ (z : Int) = 10 := by omega
     have p13 : ((z : Int) == 13) = true := beq_iff_eq.2 (by omega)
     clear h
     go_wp2_with fail
     go_roundw
     case rel => exact ⟨p + 1, by go_num, unhide HLT, HN⟩
     case measure => have := unhide HLT; simp [intOf]; omega
   ·have q1 : ((z : Int) == 32) = false := beq_eq_false_iff_ne.2 (by omega)
    have q2 : ((z : Int) == 9) = false := beq_eq_false_iff_ne.2 (by omega)
    have q3 : ((z : Int) == 10) = false := beq_eq_false_iff_ne.2 (by omega)
    have q4 : ((z : Int) == 13) = false := beq_eq_false_iff_ne.2 (by omega)
    have q5 : ¬ (z : Int) = 32 := by omega
    have q6 : ¬ (z : Int) = 9 := by omega
    have q7 : ¬ (z : Int) = 10 := by omega
    have q8 : ¬ (z : Int) = 13 := by omega
    have hB : lxB c = false := decide_eq_false (by rw [hz]; exact hb)
    by_cases h47 : ¬ (z = 47)
    ·have k1 : ((z : Int) == 47) = false := beq_eq_false_iff_ne.2 (by omega)
     have k2 : ¬ (z : Int) = 47 := by omega
     have HE : Hid (R = p ∧ wr = w) := hide ⟨by
      rw [(unhide HX).1, hdr]
      simp only [blk, hB, Bool.false_eq_true, if_false]
      rw [if_neg (fun h => h47 (by rw [← hz]; exact h.1))]
      omega, (unhide HX).2⟩
     clear hdr hc hz HX hb hB h47
     go_wp2_with fail
     go_ret
     exact ⟨by rw [(unhide HE).1]; rfl, (unhide HE).2⟩
    replace h47 : z = 47 := Decidable.of_not_not h47
    have k1 : ((z : Int) == 47) = true := beq_iff_eq.2 (by omega)
    by_cases hn : ¬ (p + 1 < s.size)
    ·have k3 : ¬ (p : Int) + 1 < (s.size : Int) := by omega
     have HE : Hid (R = p ∧ wr = w) := hide ⟨by
      rw [(unhide HX).1, hdr, List.drop_of_length_le (by rw [len_list]; omega)]
      simp only [blk, hB, Bool.false_eq_true, if_false]
      rw [if_neg (fun h => by cases h.2)]
      omega, (unhide HX).2⟩
     clear hdr hc hz HX hb hB h47
     go_wp2_with fail
     go_ret
     exact ⟨by rw [(unhide HE).1]; rfl, (unhide HE).2⟩
    replace hn : p + 1 < s.size := Decidable.of_not_not hn
    have k3 : (p : Int) + 1 < (s.size : Int) := by omega
    have hdr2 := drop_at s (p + 1) hn
    obtain ⟨d, hd⟩ : ∃ d, s[p + 1]'hn = d := ⟨_, rfl⟩
    obtain ⟨y, hy⟩ : ∃ y : Nat, d.toNat = y := ⟨_, rfl⟩
    have hyi : ((s[p + 1]'hn).toNat : Int) = (y : Int) := by rw [hd, hy]
    rw [hd] at hdr2
    by_cases hy47 : ¬ (y = 47)
    ·have k4 : ((y : Int) == 47) = false := beq_eq_false_iff_ne.2 (by omega)
     have k5 : ¬ (y : Int) = 47 := by omega
     have HE : Hid (R = p ∧ wr = w) := hide ⟨by
      rw [(unhide HX).1, hdr, hdr2]
      simp only [blk, hB, Bool.false_eq_true, if_false, List.head?_cons, Option.some.injEq]
      rw [if_neg (fun h => hy47 (by rw [← hy, h.2]; rfl))]
      omega, (unhide HX).2⟩
     clear hdr hdr2 hc hd hz hy HX hb hB h47 hy47
     go_wp2_with fail
     go_ret
     exact ⟨by rw [(unhide HE).1]; rfl, (unhide HE).2⟩
    replace hy47 : y = 47 := Decidable.of_not_not hy47
    have k4 : ((y : Int) == 47) = true := beq_iff_eq.2 (by omega)
    have HN : Hid (R = p + blk true (s.data.toList.drop p) ∧ wr = w) := hide ⟨by
     have e1 : (decide (c.toNat ≠ 10)) = true := decide_eq_true (by omega)
     rw [(unhide HX).1, hdr]
     have e2 : blk false (c :: s.data.toList.drop (p + 1)) = blk true (s.data.toList.drop (p + 1)) + 1 := by
      simp only [blk, hB, Bool.false_eq_true, if_false]
      rw [if_pos ⟨by omega, by rw [hdr2, List.head?_cons, UInt8.toNat_inj.1 (show d.toNat = (47 : UInt8).toNat by show d.toNat = 47; omega)]⟩]
     have e3 : blk true (c :: s.data.toList.drop (p + 1)) = blk true (s.data.toList.drop (p + 1)) + 1 := by
      simp only [blk]
      rw [e1]
     rw [e2, e3], (unhide HX).2⟩
    have HZ10 : Hid (¬ z = 10) := hide (by omega)
    have hzi2 := hzi
    clear hdr hdr2 hc hd hz hy HX hb hB hy47
    go_wp2_with fail
    go_loopw [1] (fun x wq => ∃ q : Nat, x = .int .i64 (q : Int) ∧ p ≤ q ∧ q ≤ s.size ∧ Hid (R = q + blk true (s.data.toList.drop q) ∧ wq = w)) (fun x _ => s.size - (intOf x).toNat)
    case atStart => exact ⟨p, rfl, Nat.le_refl _, by omega, HN⟩
    case round =>
     clear HN
     obtain ⟨q, rfl, hpq, hqs, HY⟩ := hrel
     by_cases hlq : q < s.size
     ·have j2 : (q : Int) < (s.size : Int) := by omega
      have hdq := drop_at s q hlq
      obtain ⟨e, he⟩ : ∃ e, s[q]'hlq = e := ⟨_, rfl⟩
      obtain ⟨x, hx⟩ : ∃ x : Nat, e.toNat = x := ⟨_, rfl⟩
      have hxi : ((s[q]'hlq).toNat : Int) = (x : Int) := by rw [he, hx]
      rw [he] at hdq
      by_cases hx10 : x = 10
      ·have k6 : ((x : Int) == 10) = true := beq_iff_eq.2 (by omega)
       have k7 : ((x : Int) != 10) = false := by simp [show (x : Int) = 10 by omega]
       have HQ : Hid (p < q ∧ R = q + blk false (s.data.toList.drop q) ∧ wr = w) := hide ⟨by
        rcases Nat.lt_or_ge p q with g | g
        ·exact g
        ·exfalso
         have e0 : q = p := by omega
         subst e0
         exact unhide HZ10 (by omega), by
        rw [(unhide HY).1, hdq]
        simp only [blk]
        rw [decide_eq_false (by omega), if_pos (show lxB e = true from decide_eq_true (by omega))], (unhide HY).2⟩
       clear hdq he hx HY hx10
       go_wp2_with fail
       go_roundw
       case rel => exact ⟨q, rfl, hqs, hide (unhide HQ).2⟩
       case measure => have := (unhide HQ).1; simp [intOf]; omega
      ·have k6 : ((x : Int) == 10) = false := beq_eq_false_iff_ne.2 (by omega)
       have k7 : ((x : Int) != 10) = true := by simp; omega
       have k8 : ¬ (x : Int) = 10 := by omega
       have HQ : Hid (R = q + 1 + blk true (s.data.toList.drop (q + 1)) ∧ wr = w) := hide ⟨by
        rw [(unhide HY).1, hdq]
        simp only [blk]
        rw [decide_eq_true (by omega)]
        omega, (unhide HY).2⟩
       have HLQ := hide hlq
       clear hdq he hx HY hx10
       go_wp2_with fail
       go_roundw
       case rel => exact ⟨q + 1, by go_num, by omega, unhide HLQ, HQ⟩
       case measure => have := unhide HLQ; simp [intOf]; omega
     ·have j2 : ¬ (q : Int) < (s.size : Int) := by omega
      have HQ : Hid (R = q + blk false (s.data.toList.drop q) ∧ wr = w) := hide ⟨by
       rw [(unhide HY).1, List.drop_of_length_le (by rw [len_list]; omega)]
       rfl, (unhide HY).2⟩
      clear HY
      go_wp2_with fail
      go_roundw
      case rel => exact ⟨q, rfl, hqs, HQ⟩
      case measure => have := unhide HLT; simp [intOf]; omega
  ·have j1 : ¬ (p : Int) < (s.size : Int) := by omega
   have HE : Hid (R = p ∧ wr = w) := hide ⟨by
    rw [(unhide HX).1, List.drop_of_length_le (by rw [len_list]; omega)]
    simp [blk], (unhide HX).2⟩
   clear HX
   go_wp2_with fail
   go_ret
   exact ⟨by rw [(unhide HE).1]; rfl, (unhide HE).2⟩
theorem hexB_V : ∀ c : Fin 256, ∀ a : Fin 16, (hexB[a.val]'(by have := a.isLt; show a.val < 16; omega) = UInt8.ofNat c.val) → hexI (UInt8.ofNat c.val) = (a.val : Int) := by decide +kernel
theorem hexV_B : ∀ c : Fin 256, 0 ≤ hexI (UInt8.ofNat c.val) → ∃ a : Fin 16, hexB[a.val]'(by have := a.isLt; show a.val < 16; omega) = UInt8.ofNat c.val := by decide +kernel
theorem hexI_low : ∀ c : Fin 256, -1 ≤ hexI (UInt8.ofNat c.val) := by decide +kernel
theorem hexI_at (c : UInt8) (i : Nat) (h : i < 16) (hh : i < hexB.size) (e : hexB[i]'hh = c) : hexI c = (i : Int) := by
 have h2 := hexB_V ⟨c.toNat, c.toNat_lt⟩ ⟨i, h⟩ (by simpa using e)
 simpa using h2
theorem hexI_none (c : UInt8) (h : ∀ i (hi : i < 16), ¬ hexB[i]'(by show i < 16; omega) = c) : hexI c = -1 := by
 have h1 := hexI_low ⟨c.toNat, c.toNat_lt⟩
 have h2 := hexV_B ⟨c.toNat, c.toNat_lt⟩
 have e : UInt8.ofNat (⟨c.toNat, c.toNat_lt⟩ : Fin 256).val = c := by simp
 rw [e] at h1 h2
 by_cases g : 0 ≤ hexI c
 ·obtain ⟨a, ha⟩ := h2 g
  exact absurd ha (h a.val a.isLt)
 ·omega
set_option maxRecDepth 100000 in
set_option maxHeartbeats 1000000 in
theorem hexD_any (c : UInt8) (z : Int) (hz : (c.toNat : Int) = z) (w : World) :
  Calls Tryz.prog 106 #[.int .u8 z] w fun e w' => e = .returned (.int .i64 (hexI c)) ∧ w' = w := by
 obtain ⟨R, hR⟩ : ∃ R, hexI c = R := ⟨_, rfl⟩
 have HR := hide hR
 rw [hR]
 have HZ := hide hz
 clear hR hz
 go_enter Tryz.func106, Tryz.ntmps106
 go_wp2_with fail
 go_loop [4] (fun x => ∃ i : Nat, x = .int .i64 (i : Int) ∧ i ≤ 16 ∧ Hid (∀ j (hj : j < 16), j < i → ¬ hexB[j]'(by show j < 16; omega) = c)) (fun x => 16 - (intOf x).toNat)
 case atStart => exact ⟨0, rfl, by omega, hide (fun j _ h => by omega)⟩
 case round =>
  obtain ⟨i, rfl, hi, HJ⟩ := hrel
  by_cases hlt : i < 16
  ·have j1 : (i : Int) < 16 := by omega
   have hs1 : hexB.size = 16 := rfl
   obtain ⟨d, hd⟩ : ∃ d, hexB[i]'(by omega) = d := ⟨_, rfl⟩
   have hdi : (((⟨#[48, 49, 50, 51, 52, 53, 54, 55, 56, 57, 97, 98, 99, 100, 101, 102]⟩ : ByteArray)[i]'(by show i < 16; omega)).toNat : Int) = (d.toNat : Int) := by rw [← hd]; rfl
   have HD := hide hd
   have HLT := hide hlt
   by_cases he : d = c
   ·have k1 : ((d.toNat : Int) == z) = true := beq_iff_eq.2 (by rw [he]; exact unhide HZ)
    have HE : Hid (R = (i : Int)) := hide (by rw [← unhide HR]; exact hexI_at c i hlt (by omega) (by rw [hd, he]))
    clear he hd
    go_wp2_with fail
    go_ret
    exact ⟨by rw [unhide HE]; rfl, rfl⟩
   ·have k0 : ¬ (d.toNat : Int) = z := fun e => he (UInt8.toNat_inj.1 (by have := unhide HZ; omega))
    have k1 : ((d.toNat : Int) == z) = false := beq_eq_false_iff_ne.2 k0
    have HE : Hid (∀ j (hj : j < 16), j < i + 1 → ¬ hexB[j]'(by show j < 16; omega) = c) := hide (fun j hj h => by
     rcases Nat.lt_or_ge j i with g | g
     ·exact unhide HJ j hj g
     ·obtain rfl : j = i := by omega
      rw [unhide HD]
      exact he)
    clear he hd
    go_wp2_with fail
    go_round
    case rel => exact ⟨i + 1, by go_num, by have := unhide HLT; omega, HE⟩
    case measure => have := unhide HLT; simp [intOf]; omega
  ·have j1 : ¬ (i : Int) < 16 := by omega
   have HE : Hid (R = -1) := hide (by rw [← unhide HR]; exact hexI_none c (fun j hj => unhide HJ j hj (by omega)))
   go_wp2_with fail
   go_ret
   exact ⟨by rw [unhide HE]; rfl, rfl⟩
end Go.Proofs.YtgalfhlclmkbfaaGreatDoor
