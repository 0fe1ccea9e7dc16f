/-
  The walks of the law's decimals and written; conditions: a number of 64 bits, a text of at most 2^30 bytes.
-/
import Derived.Test.YtnflbgejjgjpcaaDoorLxAh
import Derived.Test.YtnflbgejjgjpcaaDoorLxQ1
namespace Go.Proofs.YtnflbgejjgjpcaaDoor
open Go.RowKit
set_option linter.unusedVariables false
set_option linter.unusedSimpArgs false

theorem dig_last (k : Nat) : Lib.decDigits k = (if k / 10 = 0 then [] else Lib.decDigits (k / 10)) ++ [UInt8.ofNat (48 + k % 10)] := by
  by_cases h : k < 10
  · rw [Lib.decDigits_one h, if_pos (by omega), show k % 10 = k by omega]; rfl
  · conv => lhs; rw [Lib.decDigits, dif_neg h]
    rw [if_neg (by omega)]

theorem nDigits_le : ∀ (k u : Nat), u < 10 ^ (k + 1) → Lib.nDigits u ≤ k + 1
  | 0, u, h => by rw [Lib.nDigits_small (by simpa using h)]; omega
  | k + 1, u, h => by
    by_cases h10 : u < 10
    · rw [Lib.nDigits_small h10]; omega
    · rw [Lib.nDigits_big h10]
      have := nDigits_le k (u / 10) (by rw [Nat.pow_succ] at h; omega)
      omega

theorem dec_len {u : Nat} (h : u ≤ 9223372036854775808) : (Lib.decDigits u).length ≤ 20 := by
  rw [Lib.decDigits_length]
  exact nDigits_le 19 u (by omega)

theorem conv_one (w : World) (z : Nat) (hz : z < 256) : Sem.run Tryd.prog (convert 44 9 (.slice (some ⟨w.heap.size, 0, none⟩) 1 1)) (w.alloc (.cells #[.int .u8 (z : Int)] 5)) = .ok (.string (bA [UInt8.ofNat z])) (w.alloc (.cells #[.int .u8 (z : Int)] 5)) := by
  have h := run_convert_bytes_arg (P := Tryd.prog) (w.alloc (.cells #[.int .u8 (z : Int)] 5)) 44 5 Tryd.underlying44 Tryd.underlying5 w.heap.size 0 1 1 [(z : Int)] rfl (fun j hj => by
    obtain rfl : j = 0 := by omega
    rw [cell_of_row _ w.heap.size _ _ 5 (0, 0) (heap_alloc_new w _)]
    rfl) 9 Tryd.underlying9
  rw [h]
  rfl

def sEmp : Value → Nat
  | .string s => if s.size = 0 then 1 else 0
  | _ => 0
theorem sEmp_of (s : ByteArray) : sEmp (.string s) = if s.size = 0 then 1 else 0 := rfl

set_option maxRecDepth 100000 in
set_option maxHeartbeats 1000000 in
theorem decimals_any (n : Nat) (hn : n ≤ 9223372036854775807) (w : World) :
    Calls Tryd.prog 20 #[.int .i64 (n : Int)] w fun e w' => e = .returned (.string (bA (Lib.decDigits n))) ∧ Below w.heap.size w w' := by
  obtain ⟨R, hR⟩ : ∃ R, bA (Lib.decDigits n) = R := ⟨_, rfl⟩
  have HR := hide hR
  rw [hR]
  clear hR
  go_enter Tryd.func20, Tryd.ntmps20
  go_wp2_with fail
  go_loopw [0, 3] (fun x y wr => ∃ (k : Nat) (s : ByteArray), k ≤ 9223372036854775807 ∧ x = .int .i64 (k : Int) ∧ y = .string s ∧ Hid (Below w.heap.size w wr) ∧ Hid ((s.data.toList = [] ∧ k = n) ∨ (s.data.toList ≠ [] ∧ (if k = 0 then [] else Lib.decDigits k) ++ s.data.toList = Lib.decDigits n))) (fun x y _ => (intOf x).toNat + sEmp y)
  case atStart => exact ⟨n, ⟨#[]⟩, hn, rfl, rfl, hide (Below.refl _ _), hide (Or.inl ⟨rfl, rfl⟩)⟩
  case round =>
    obtain ⟨k, s, hk, rfl, rfl, HB, HI⟩ := hrel
    by_cases hfin : s.data.toList ≠ [] ∧ k = 0
    · have e1 : (s.toList == []) = false := by
        rw [ByteArray.toList_eq]
        cases hq : s.data.toList with
        | nil => exact absurd hq hfin.1
        | cons a b => rfl
      have j1 : ¬ (0 : Int) < (k : Int) := by omega
      have HE : Hid (s = R) := hide (by
        rcases unhide HI with ⟨h1, _⟩ | ⟨h1, h2⟩
        · exact absurd h1 hfin.1
        · rw [if_pos hfin.2, List.nil_append] at h2
          rw [← unhide HR]
          exact bA_eq s _ h2)
      clear hfin HI
      go_wp2_with fail
      go_ret
      exact ⟨by rw [unhide HE]; rfl, unhide HB⟩
    · obtain ⟨z, hz⟩ : ∃ z : Nat, 48 + k % 10 = z := ⟨_, rfl⟩
      have HZ := hide hz
      have z1 : (z : Int) ≤ 57 := by omega
      have z2 : (48 : Int) + (k : Int) % 10 = (z : Int) := by omega
      have kc := conv_one wr z (by omega)
      obtain ⟨D, hD⟩ : ∃ D, bA [UInt8.ofNat z] = D := ⟨_, rfl⟩
      rw [hD] at kc
      have hDs : D.size = 1 := by rw [← hD, bA_size]; rfl
      have HI1 : Hid ((D ++ s).data.toList ≠ [] ∧ (if k / 10 = 0 then [] else Lib.decDigits (k / 10)) ++ (D ++ s).data.toList = Lib.decDigits n) := hide (by
        rw [ByteArray.data_append, Array.toList_append, ← hD, bA_data]
        refine ⟨by simp, ?_⟩
        rw [← List.append_assoc, ← hz, ← dig_last k]
        rcases unhide HI with ⟨h1, h2⟩ | ⟨h1, h2⟩
        · rw [h1, h2]; simp
        · have hk0 : ¬ k = 0 := fun e => hfin ⟨h1, e⟩
          rw [if_neg hk0] at h2
          exact h2)
      have hs20 : s.size ≤ 20 := by
        rcases unhide HI with ⟨h1, h2⟩ | ⟨h1, h2⟩
        · have h3 : s.size = s.data.toList.length := rfl
          rw [h3, h1]
          simp
        · have h := congrArg List.length h2
          rw [List.length_append] at h
          have h4 := dec_len (u := n) (by omega)
          have h3 : s.size = s.data.toList.length := rfl
          omega
      have hsz : ¬ 9223372036854775807 < D.size + s.size := by omega
      have hsz2 : ¬ 9223372036854775807 < 1 + s.size := by omega
      have HM : Hid (k / 10 + sEmp (.string (D ++ s)) < k + sEmp (.string s)) := hide (by
        rw [sEmp_of, sEmp_of, if_neg (by rw [ByteArray.size_append]; omega)]
        by_cases hk0 : k = 0
        · have hs0 : s.size = 0 := by
            rcases Classical.em (s.data.toList = []) with h | h
            · have h3 : s.size = s.data.toList.length := rfl
              rw [h3, h]
              rfl
            · exact absurd ⟨h, hk0⟩ hfin
          rw [if_pos hs0, hk0]
          decide
        · split <;> omega)
      have HB1 : Hid (Below w.heap.size w (wr.alloc (.cells #[.int .u8 (z : Int)] 5))) := hide ((unhide HB).alloc (unhide HB).size _)
      have HK1 : Hid (k / 10 ≤ 9223372036854775807) := hide (by omega)
      by_cases he : s.data.toList = []
      · have e1 : (s.toList == []) = true := by rw [ByteArray.toList_eq, he]; rfl
        clear hfin HI he hz hD
        go_wp2_with fail
        go_roundw
        case rel => exact ⟨k / 10, D ++ s, unhide HK1, by first | rfl | (rw [Int.natCast_ediv]; rfl), rfl, HB1, hide (Or.inr (unhide HI1))⟩
        case measure => have h := unhide HM; have e : ((k : Int) / 10).toNat = k / 10 := by omega
                        simp only [intOf]; first | omega | (rw [e]; simpa using h)
      · have e1 : (s.toList == []) = false := by
          rw [ByteArray.toList_eq]
          cases hq : s.data.toList with
          | nil => exact absurd hq he
          | cons a b => rfl
        have j1 : (0 : Int) < (k : Int) := by
          have : ¬ k = 0 := fun e => hfin ⟨he, e⟩
          omega
        clear hfin HI he hz hD
        go_wp2_with fail
        go_roundw
        case rel => exact ⟨k / 10, D ++ s, unhide HK1, by first | rfl | (rw [Int.natCast_ediv]; rfl), rfl, HB1, hide (Or.inr (unhide HI1))⟩
        case measure => have h := unhide HM; have e : ((k : Int) / 10).toNat = k / 10 := by omega
                        simp only [intOf]; first | omega | (rw [e]; simpa using h)

set_option maxRecDepth 100000 in
set_option maxHeartbeats 1000000 in
theorem written_any (t : Tk) (w : World) (hn : t.n ≤ 9223372036854775807) (h4 : t.k = 4 → t.t.length ≤ 2047) :
    Calls Tryd.prog 12 #[.agg #[.int .i64 (t.k : Int), .string (bA t.t), .int .i64 (t.n : Int), .int .i64 (t.p : Int)]] w fun e w' => e = .returned (.string (bA (wrT t))) ∧ Below w.heap.size w w' := by
  obtain ⟨k, tt, n, p⟩ := t
  simp only at hn h4 ⊢
  obtain ⟨w1, hw1⟩ : ∃ w1, w.alloc (.cells #[.int .i64 (k : Int), .string (bA tt), .int .i64 (n : Int), .int .i64 (p : Int)] 29) = w1 := ⟨_, rfl⟩
  obtain ⟨g, hg⟩ : ∃ g, w.heap.size = g := ⟨_, rfl⟩
  have A1 : w1.heap[g]? = some (.cells #[.int .i64 (k : Int), .string (bA tt), .int .i64 (n : Int), .int .i64 (p : Int)] 29 (0, 0)) := by rw [← hw1, ← hg]; exact heap_alloc_new w _
  have HB1 : Hid (Below w.heap.size w w1) := hide (by rw [← hw1]; exact (Below.refl _ _).alloc (Nat.le_refl _) _)
  have hl : g < w1.heap.size := (Array.getElem?_eq_some_iff.1 A1).1
  have hwr : wrT ⟨k, tt, n, p⟩ = if k = 3 then Lib.decDigits n else if k = 4 then quoB tt else tt := rfl
  have CD := hide (decimals_any n hn w1)
  have CQ : Hid (k = 4 → _) := hide (fun h => quoteL_any (bA tt) (by rw [bA_size]; have := h4 h; omega) w1)
  rw [bA_data] at CQ
  obtain ⟨V, hV⟩ : ∃ V, bA tt = V := ⟨_, rfl⟩
  rw [hV] at hw1 A1 CQ ⊢
  obtain ⟨a0, a1, a2, a3⟩ := row_cell4 A1
  have HG := hide hg
  clear A1 hn h4
  by_cases h3 : k = 3
  · have k1 : ((k : Int) == 3) = true := beq_iff_eq.2 (by omega)
    rw [hwr, if_pos h3]
    clear hwr h3 CQ hV
    go_enter Tryd.func12, Tryd.ntmps12
    go_wp2_with fail
    refine (unhide CD).mono ?_
    rintro e uA ⟨rfl, b1⟩
    have HB2 : Hid (Below w.heap.size w uA) := hide ((unhide HB1).trans (b1.mono (unhide HB1).size))
    clear b1
    go_wp2_with fail
    go_ret
    exact ⟨rfl, by first | exact unhide HB2 | (rw [unhide HG] at HB2; exact unhide HB2)⟩
  · have k1 : ((k : Int) == 3) = false := beq_eq_false_iff_ne.2 (by omega)
    have k2 : ¬ (k : Int) = 3 := by omega
    by_cases h4 : k = 4
    · have k3 : ((k : Int) == 4) = true := beq_iff_eq.2 (by omega)
      have CQ2 := hide (unhide CQ h4)
      rw [hwr, if_neg h3, if_pos h4]
      clear hwr h3 CQ hV h4
      go_enter Tryd.func12, Tryd.ntmps12
      go_wp2_with fail
      refine (unhide CQ2).mono ?_
      rintro e uA ⟨rfl, b1⟩
      have HB2 : Hid (Below w.heap.size w uA) := hide ((unhide HB1).trans (b1.mono (unhide HB1).size))
      clear b1
      go_wp2_with fail
      go_ret
      exact ⟨rfl, by first | exact unhide HB2 | (rw [unhide HG] at HB2; exact unhide HB2)⟩
    · have k3 : ((k : Int) == 4) = false := beq_eq_false_iff_ne.2 (by omega)
      have k4 : ¬ (k : Int) = 4 := by omega
      rw [hwr, if_neg h3, if_neg h4, hV]
      clear hwr h3 CQ hV h4
      go_enter Tryd.func12, Tryd.ntmps12
      go_wp2_with fail
      go_ret
      exact ⟨rfl, by first | exact unhide HB1 | (rw [unhide HG] at HB1; exact unhide HB1)⟩
end Go.Proofs.YtnflbgejjgjpcaaDoor
