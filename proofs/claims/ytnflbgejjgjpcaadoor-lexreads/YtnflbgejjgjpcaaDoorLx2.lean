/-
  The walks of the document's letter, digit, word, Keywords, isIn, IsName (layer 16); conditions: a text of at most 2^47 bytes.
-/
import Derived.Test.YtnflbgejjgjpcaaDoorLx1
namespace Go.Proofs.YtnflbgejjgjpcaaDoor
open Go.RowKit
set_option linter.unusedVariables false
set_option linter.unusedSimpArgs false

theorem letterD_any (c : Int) (w : World) :
    Calls Tryd.prog 29 #[.int .u8 c] w fun e w' => e = .returned (.bool (rLet c)) ∧ w' = w := by
  rcases rLet_cases c with ⟨hR, h1, h2, h3⟩ | ⟨hR, h1, h2, h3⟩ | ⟨hR, h1, h2, h3, h4⟩ | ⟨hR, h1, h2, h3, h4⟩ | ⟨hR, h1, h2⟩ | ⟨hR, h1, h2, h3, h4, h5⟩
  all_goals
    rw [hR]
    clear hR
    go_enter Tryd.func29, Tryd.ntmps29
    go_wp2_with fail
    go_ret
    exact ⟨rfl, rfl⟩

theorem digitD_any (c : Int) (w : World) :
    Calls Tryd.prog 30 #[.int .u8 c] w fun e w' => e = .returned (.bool (rDig c)) ∧ w' = w := by
  by_cases h1 : 48 ≤ c <;> by_cases h2 : c ≤ 57
  all_goals
    have hR : rDig c = decide (48 ≤ c ∧ c ≤ 57) := rfl
    simp only [h1, h2, decide_true, decide_false, and_self, and_true, and_false, true_and] at hR
    rw [hR]
    clear hR
    go_enter Tryd.func30, Tryd.ntmps30
    go_wp2_with fail
    go_ret
    exact ⟨rfl, rfl⟩

theorem letterD_at (s : ByteArray) (i : Nat) (h : i < s.size) (w : World) :
    Calls Tryd.prog 29 #[.int .u8 ((s[i]'h).toNat : Int)] w fun e w' => e = .returned (.bool (lxLet (s[i]'h))) ∧ w' = w := by
  rw [← lxLet_r]; exact letterD_any _ w
theorem digitD_at (s : ByteArray) (i : Nat) (h : i < s.size) (w : World) :
    Calls Tryd.prog 30 #[.int .u8 ((s[i]'h).toNat : Int)] w fun e w' => e = .returned (.bool (lxDig (s[i]'h))) ∧ w' = w := by
  rw [← lxDig_r]; exact digitD_any _ w

theorem tw_len (p : UInt8 → Bool) (s : ByteArray) (a n : Nat) (hn : a + n ≤ s.size) (h1 : ∀ j c, j < n → s.data.toList[a + j]? = some c → p c = true) (h2 : ∀ c, s.data.toList[a + n]? = some c → p c = false) : ((s.data.toList.drop a).takeWhile p).length = n := by
  have hl := len_list s
  have hd : (s.extract a s.size).data.toList = s.data.toList.drop a := by rw [ext_drop, bA_data]
  have hz : (s.extract a s.size).size = s.size - a := by rw [← len_list, hd, List.length_drop, hl]
  have := tw_stop p (s.extract a s.size) n (by omega) (fun j c hj hc => h1 j c hj (by rw [hd, List.getElem?_drop] at hc; exact hc)) (fun c hc => h2 c (by rw [hd, List.getElem?_drop] at hc; exact hc))
  rw [hd] at this
  rw [this, List.length_take, List.length_drop]
  omega

set_option maxRecDepth 100000 in
set_option maxHeartbeats 1000000 in
theorem wordD_any (s : ByteArray) (a : Nat) (ha : a ≤ s.size) (hs : s.size ≤ 140737488355328) (w : World) :
    Calls Tryd.prog 28 #[.string s, .int .i64 (a : Int)] w fun e w' => e = .returned (.int .i64 (((s.data.toList.drop a).takeWhile lxW).length : Int)) ∧ w' = w := by
  obtain ⟨R, hR⟩ : ∃ R, ((s.data.toList.drop a).takeWhile lxW).length = R := ⟨_, rfl⟩
  have HR := hide hR
  rw [hR]
  clear hR
  have h47 : (s.size : Int) ≤ 140737488355328 := by omega
  go_enter Tryd.func28, Tryd.ntmps28
  go_wp2_with fail
  go_loop [5] (fun x => ∃ n : Nat, x = .int .i64 (n : Int) ∧ a + n ≤ s.size ∧ Hid (∀ j c, j < n → s.data.toList[a + j]? = some c → lxW c = true)) (fun x => s.size - (intOf x).toNat)
  case atStart => exact ⟨0, rfl, ha, hide (fun j c h => by omega)⟩
  case round =>
    obtain ⟨n, rfl, hn, HJ⟩ := hrel
    by_cases hlt : a + n < s.size
    · have j1 : (a : Int) + (n : Int) < (s.size : Int) := by omega
      have j2 : ((a : Int) + (n : Int)).toNat = a + n := by omega
      have CL := hide (letterD_at s (a + n) hlt w)
      have CD := hide (digitD_at s (a + n) hlt w)
      have hat := at_list s (a + n) hlt
      obtain ⟨c, hc⟩ : ∃ c, s[a + n]'hlt = c := ⟨_, rfl⟩
      have hci : ((s[a + n]'hlt).toNat : Int) = (c.toNat : Int) := by rw [hc]
      have HC := hide hc
      rw [hc] at CL CD hat
      have HW : Hid (lxW c = true → ∀ j d, j < n + 1 → s.data.toList[a + j]? = some d → lxW d = true) := hide (fun hw j d hj hd => by
        rcases Nat.lt_or_ge j n with h | h
        · exact unhide HJ j d h hd
        · obtain rfl : j = n := by omega
          rw [hat] at hd
          cases hd
          exact hw)
      have HE : Hid (lxW c = false → n = R) := hide (fun hw => by
        rw [← unhide HR]
        exact (tw_len lxW s a n hn (unhide HJ) (fun d hd => by
          rw [hat] at hd
          cases hd
          exact hw)).symm)
      clear hc hat
      cases hL : lxLet c <;> cases hD : lxDig c
      all_goals
        rw [hL] at CL
        rw [hD] at CD
        have hW : lxW c = (lxLet c || lxDig c) := rfl
        rw [hL, hD] at hW
        simp only [Bool.or_true, Bool.true_or, Bool.or_false] at hW
        have HWW := hide hW
        clear hW hL hD
        go_wp2_with fail
        refine (unhide CL).mono ?_
        rintro e u ⟨rfl, rfl⟩
        go_wp2_with fail
        refine (unhide CD).mono ?_
        rintro e u ⟨rfl, rfl⟩
        go_wp2_with fail
        first
        | go_ret
          exact ⟨by rw [← unhide HE (unhide HWW)]; rfl, rfl⟩
        | go_round
          case rel => exact ⟨n + 1, by go_num, by omega, hide (unhide HW (unhide HWW))⟩
          case measure => simp [intOf]; omega
    · have j1 : ¬ (a : Int) + (n : Int) < (s.size : Int) := by omega
      have HE : Hid (n = R) := hide (by
        rw [← unhide HR]
        exact (tw_len lxW s a n hn (unhide HJ) (fun d hd => by
          rw [List.getElem?_eq_none (show s.data.toList.length ≤ a + n by rw [len_list]; omega)] at hd
          cases hd)).symm)
      go_wp2_with fail
      go_ret
      exact ⟨by rw [unhide HE]; rfl, rfl⟩

/-- a row of texts -/
def RowT (w : World) (b : Nat) (L : List (List UInt8)) : Prop := b < w.heap.size ∧ ∀ j x, L[j]? = some x → w.cell? ⟨b, j, none⟩ = some (.string (bA x))

set_option maxRecDepth 100000 in
set_option maxHeartbeats 1000000 in
theorem isIn_any (w : World) (b : Nat) (L : List (List UInt8)) (c : Nat) (h : RowT w b L) (hL : L.length ≤ c) (hc : c ≤ 1000) (s : ByteArray) :
    Calls Tryd.prog 31 #[.slice (some ⟨b, 0, none⟩) L.length c, .string s] w fun e w' => e = .returned (.bool (L.contains s.data.toList)) ∧ w' = w := by
  obtain ⟨R, hR⟩ : ∃ R, L.contains s.data.toList = R := ⟨_, rfl⟩
  have HR := hide hR
  rw [hR]
  clear hR
  have hlt := h.1
  have HC := hide h.2
  obtain ⟨m, hm⟩ : ∃ m, L.length = m := ⟨_, rfl⟩
  have HM := hide hm
  rw [hm] at hL ⊢
  have hm1 : (m : Int) ≤ 1000 := by omega
  clear hm h
  go_enter Tryd.func31, Tryd.ntmps31
  go_wp2_with fail
  go_loop [5] (fun x => ∃ n : Nat, x = .int .i64 (n : Int) ∧ n ≤ m ∧ Hid (∀ j x, j < n → L[j]? = some x → ¬ x = s.data.toList)) (fun x => m - (intOf x).toNat)
  case atStart => exact ⟨0, rfl, by omega, hide (fun j c h => by omega)⟩
  case round =>
    obtain ⟨n, rfl, hn, HJ⟩ := hrel
    by_cases hlm : n < m
    · have j1 : (n : Int) < (m : Int) := by omega
      obtain ⟨x, hx⟩ : ∃ x, L[n]? = some x := ⟨_, List.getElem?_eq_getElem (by have := unhide HM; omega)⟩
      have hcell := unhide HC n x hx
      have hp : (⟨b, 0, none⟩ : Addr).add n = ⟨b, n, none⟩ := by unfold Addr.add; split <;> simp_all
      have hcmp : ((bA x).toList == s.toList) = (x == s.data.toList) := by rw [bA_list, ByteArray.toList_eq]
      obtain ⟨X, hX⟩ : ∃ X, bA x = X := ⟨_, rfl⟩
      rw [hX] at hcell hcmp
      cases hq : (x == s.data.toList) with
      | true =>
        rw [hq] at hcmp
        have HE : Hid (R = true) := hide (by
          rw [← unhide HR, List.contains_iff_mem.2]
          rw [beq_iff_eq] at hq
          rw [← hq]
          exact List.mem_of_getElem? hx)
        clear hq hx hX
        go_wp2_with fail
        go_ret
        exact ⟨by rw [unhide HE]; rfl, rfl⟩
      | false =>
        rw [hq] at hcmp
        have HE : Hid (∀ j x, j < n + 1 → L[j]? = some x → ¬ x = s.data.toList) := hide (fun j y hj hy => by
          rcases Nat.lt_or_ge j n with h | h
          · exact unhide HJ j y h hy
          · obtain rfl : j = n := by omega
            rw [hx] at hy
            cases hy
            exact beq_eq_false_iff_ne.1 hq)
        clear hq hx hX
        go_wp2_with fail
        go_round
        case rel => exact ⟨n + 1, by go_num, by omega, HE⟩
        case measure => simp [intOf]; omega
    · have j1 : ¬ (n : Int) < (m : Int) := by omega
      have HE : Hid (R = false) := hide (by
        rw [← unhide HR, Bool.eq_false_iff]
        intro e
        rw [List.contains_iff_mem] at e
        obtain ⟨j, hj⟩ := List.mem_iff_getElem?.1 e
        have hjl : j < L.length := (List.getElem?_eq_some_iff.1 hj).1
        exact unhide HJ j _ (by have := unhide HM; omega) hj rfl)
      go_wp2_with fail
      go_ret
      exact ⟨by rw [unhide HE]; rfl, rfl⟩

theorem rowT_alloc (w : World) (L : List (List UInt8)) (C : Array Value) (t : TypeId) (hC : C.toList = L.map (fun x => .string (bA x))) : RowT (w.alloc (.cells C t)) w.heap.size L := by
  refine ⟨by simp, fun j x hx => ?_⟩
  have hj : C[j]? = some (.string (bA x)) := by
    rw [← Array.getElem?_toList, hC, List.getElem?_map, hx]
    rfl
  simp only [World.cell?, World.alloc]
  simp [hj]

def keysC : Array Value := #[.string ⟨#[102, 110]⟩, .string ⟨#[101, 120, 112, 111, 114, 116]⟩, .string ⟨#[108, 101, 116]⟩, .string ⟨#[105, 102]⟩, .string ⟨#[101, 108, 115, 101]⟩, .string ⟨#[119, 104, 105, 108, 101]⟩, .string ⟨#[114, 101, 116, 117, 114, 110]⟩, .string ⟨#[98, 114, 101, 97, 107]⟩, .string ⟨#[99, 111, 110, 116, 105, 110, 117, 101]⟩, .string ⟨#[116, 114, 117, 101]⟩, .string ⟨#[102, 97, 108, 115, 101]⟩, .string ⟨#[117, 110, 105, 116]⟩]
set_option maxRecDepth 100000 in
set_option maxHeartbeats 1000000 in
theorem keywords_any (w : World) :
    Calls Tryd.prog 32 #[] w fun e w' => e = .returned (.slice (some ⟨w.heap.size, 0, none⟩) 12 12) ∧ RowT w' w.heap.size keyL ∧ Below w.heap.size w w' := by
  have HX : Hid (RowT (w.alloc (.cells keysC 9)) w.heap.size keyL ∧ Below w.heap.size w (w.alloc (.cells keysC 9))) := hide ⟨rowT_alloc w keyL keysC 9 rfl, (Below.refl _ _).alloc (Nat.le_refl _) _⟩
  unfold keysC at HX
  go_enter Tryd.func32, Tryd.ntmps32
  go_wp2_with fail
  go_ret
  exact ⟨rfl, unhide HX⟩

end Go.Proofs.YtnflbgejjgjpcaaDoor
