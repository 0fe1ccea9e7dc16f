/-
  The walk of ParseDeep, kind 5; conditions: what the variables of strconv hold.
-/
import Derived.Test.YtgalfhlclmkbfaaDoorB46
set_option linter.unusedVariables false
set_option linter.unusedSimpArgs false
namespace Go.Proofs.YtgalfhlclmkbfaaDoor
open Go.RowKit
set_option linter.unusedVariables false
set_option linter.unusedSimpArgs false

set_option maxRecDepth 100000 in
set_option maxHeartbeats 4000000 in
theorem deep_5f (m : Nat) (h200 : m ≤ 200) (hm : m ≤ 24) (w : World) (he : Ev w) (hw6 : 5 < w.heap.size) :
    Calls Tryd.prog 4 #[.int .i64 (m : Int), .int .i64 5] w fun e w' => e = .returned (.bool true) ∧ Below w.heap.size w w' := by
  have CS := hide (shown_any w he hw6)
  obtain ⟨r, hr, hx⟩ := pg_le 5 m (by decide) hm
  obtain ⟨O, hO⟩ : ∃ O, bA (rpB [97, 91] m) = O := ⟨_, rfl⟩
  obtain ⟨C, hC⟩ : ∃ C, bA (rpB [93] m) = C := ⟨_, rfl⟩
  have so : O.size ≤ 1800 := by
    rw [← hO, bA_size, rpB_len]
    show m * 2 ≤ 1800
    omega
  have sc : C.size ≤ 200 := by
    rw [← hC, bA_size, rpB_len]
    show m * 1 ≤ 200
    omega
  have CO := hide (fun u => repeated_any [97, 91] m u (by decide) h200)
  have CC := hide (fun u => repeated_any [93] m u (by decide) h200)
  rw [hO] at CO
  rw [hC] at CC
  have e1 : bA [97, 91] = ⟨#[97, 91]⟩ := rfl
  have e2 : bA [93] = ⟨#[93]⟩ := rfl
  rw [e1] at CO
  rw [e2] at CC
  have hL : (O ++ ⟨#[49]⟩ ++ C).data.toList = dpB 5 m := by
    rw [← hO, ← hC, ByteArray.data_append, ByteArray.data_append, Array.toList_append, Array.toList_append, bA_data, bA_data]
    show _ = rpB _ m ++ 49 :: rpB _ m
    simp only [List.append_assoc, List.cons_append, List.nil_append]
    rfl
  rw [← hL] at hr
  have n1 : ¬ 9223372036854775807 < O.size + 1 := by omega
  have s1 : (O ++ ⟨#[49]⟩).size = O.size + 1 := by rw [ByteArray.size_append]; rfl
  have n2 : ¬ 9223372036854775807 < O.size + 1 + C.size := by omega
  have CE : Hid (∀ u, Below w.heap.size w u → Calls Tryd.prog 9 #[.string (O ++ ⟨#[49]⟩ ++ C)] u fun e w' => ∃ (k : Nat) (t : List UInt8) (vk vn : Nat) (vs : List UInt8) (f : Bool) (n : Nat) (ak : Option Addr) (ck p : Nat), e = .returned (.tuple #[.agg #[.int .i64 (k : Int), .string (bA t), .int .i64 (vk : Int), .int .i64 (vn : Int), .string (bA vs), .slice none 0 0, .slice none 0 0, .bool f, .slice ak n ck, .int .i64 (p : Int)], .int .i64 0, .int .i64 0]) ∧ Below u.heap.size u w') := hide (fun u hu => expr_er _ u (he.below hu hw6) (Nat.lt_of_lt_of_le hw6 hu.size) hr hx)
  have m1 : ¬ (m : Int) < 0 := by omega
  have m2 : ¬ (200 : Int) < (m : Int) := by omega
  have m3 : (m : Int) ≤ 24 := by omega
  clear he hw6 hr hx hO hC hL e1 e2 hm
  go_enter Tryd.func4, Tryd.ntmps4
  go_wp2_with fail
  refine (unhide CS).mono ?_
  rintro e u1 ⟨rfl, b1⟩
  have B1 := hide b1
  clear b1 CS
  go_wp2_with fail
  refine ((unhide CO) u1).mono ?_
  rintro e u2 ⟨rfl, hu⟩
  subst hu
  go_wp2_with fail
  refine ((unhide CC) _).mono ?_
  rintro e u2 ⟨rfl, hu⟩
  subst hu
  go_wp2_with fail
  refine ((unhide CE) _ (unhide B1)).mono ?_
  rintro e u3 ⟨k, t, vk, vn, vs, f, n, ak, ck, p, rfl, b⟩
  have B3 : Hid (Below w.heap.size w u3) := hide ((unhide B1).trans (b.mono (unhide B1).size))
  clear b
  obtain ⟨Au4, Gu4⟩ := bx u3 #[.int .i64 (k : Int), .string (bA t), .int .i64 (vk : Int), .int .i64 (vn : Int), .string (bA vs), .slice none 0 0, .slice none 0 0, .bool f, .slice ak n ck, .int .i64 (p : Int)] 33
  obtain ⟨u4, hu4⟩ : ∃ u4, u3.alloc (.cells #[.int .i64 (k : Int), .string (bA t), .int .i64 (vk : Int), .int .i64 (vn : Int), .string (bA vs), .slice none 0 0, .slice none 0 0, .bool f, .slice ak n ck, .int .i64 (p : Int)] 33) = u4 := ⟨_, rfl⟩
  rw [hu4] at Au4 Gu4
  have B4 : Hid (Below w.heap.size w u4) := hide ((unhide B3).trans (Gu4.mono (unhide B3).size))
  have Wu4 := hide hu4
  clear Au4 Gu4 hu4
  go_upto_region 30 with fail
  rw [unhide Wu4]
  clear Wu4
  go_wp2_with fail
  go_ret
  exact ⟨rfl, unhide B4⟩

set_option maxRecDepth 100000 in
set_option maxHeartbeats 4000000 in
theorem deep_5m (m : Nat) (h200 : m ≤ 200) (hm : 25 ≤ m) (w : World) (he : Ev w) (hw6 : 5 < w.heap.size) :
    Calls Tryd.prog 4 #[.int .i64 (m : Int), .int .i64 5] w fun e w' => e = .returned (.bool true) ∧ Below w.heap.size w w' := by
  have CS := hide (shown_any w he hw6)
  obtain ⟨r, hr, hx⟩ := pg_gt 5 m (by decide) hm h200
  obtain ⟨O, hO⟩ : ∃ O, bA (rpB [97, 91] m) = O := ⟨_, rfl⟩
  obtain ⟨C, hC⟩ : ∃ C, bA (rpB [93] m) = C := ⟨_, rfl⟩
  have so : O.size ≤ 1800 := by
    rw [← hO, bA_size, rpB_len]
    show m * 2 ≤ 1800
    omega
  have sc : C.size ≤ 200 := by
    rw [← hC, bA_size, rpB_len]
    show m * 1 ≤ 200
    omega
  have CO := hide (fun u => repeated_any [97, 91] m u (by decide) h200)
  have CC := hide (fun u => repeated_any [93] m u (by decide) h200)
  rw [hO] at CO
  rw [hC] at CC
  have e1 : bA [97, 91] = ⟨#[97, 91]⟩ := rfl
  have e2 : bA [93] = ⟨#[93]⟩ := rfl
  rw [e1] at CO
  rw [e2] at CC
  have hL : (O ++ ⟨#[49]⟩ ++ C).data.toList = dpB 5 m := by
    rw [← hO, ← hC, ByteArray.data_append, ByteArray.data_append, Array.toList_append, Array.toList_append, bA_data, bA_data]
    show _ = rpB _ m ++ 49 :: rpB _ m
    simp only [List.append_assoc, List.cons_append, List.nil_append]
    rfl
  rw [← hL] at hr
  have n1 : ¬ 9223372036854775807 < O.size + 1 := by omega
  have s1 : (O ++ ⟨#[49]⟩).size = O.size + 1 := by rw [ByteArray.size_append]; rfl
  have n2 : ¬ 9223372036854775807 < O.size + 1 + C.size := by omega
  have CE : Hid (∀ u, Below w.heap.size w u → Calls Tryd.prog 9 #[.string (O ++ ⟨#[49]⟩ ++ C)] u fun e w' => ∃ (k : Nat) (t : List UInt8) (vk vn : Nat) (vs : List UInt8) (f : Bool) (n : Nat) (ak : Option Addr) (ck p : Nat), e = .returned (.tuple #[.agg #[.int .i64 (k : Int), .string (bA t), .int .i64 (vk : Int), .int .i64 (vn : Int), .string (bA vs), .slice none 0 0, .slice none 0 0, .bool f, .slice ak n ck, .int .i64 (p : Int)], .int .i64 49, .int .i64 171]) ∧ Below u.heap.size u w') := hide (fun u hu => expr_er _ u (he.below hu hw6) (Nat.lt_of_lt_of_le hw6 hu.size) hr hx)
  have m1 : ¬ (m : Int) < 0 := by omega
  have m2 : ¬ (200 : Int) < (m : Int) := by omega
  have m3 : ¬ (m : Int) ≤ 24 := by omega
  have CT := hide (fun u => tail_any 5 (by decide) u)
  clear he hw6 hr hx hO hC hL e1 e2 hm
  go_enter Tryd.func4, Tryd.ntmps4
  go_wp2_with fail
  refine (unhide CS).mono ?_
  rintro e u1 ⟨rfl, b1⟩
  have B1 := hide b1
  clear b1 CS
  go_wp2_with fail
  refine ((unhide CO) u1).mono ?_
  rintro e u2 ⟨rfl, hu⟩
  subst hu
  go_wp2_with fail
  refine ((unhide CC) _).mono ?_
  rintro e u2 ⟨rfl, hu⟩
  subst hu
  go_wp2_with fail
  refine ((unhide CE) _ (unhide B1)).mono ?_
  rintro e u3 ⟨k, t, vk, vn, vs, f, n, ak, ck, p, rfl, b⟩
  have B3 : Hid (Below w.heap.size w u3) := hide ((unhide B1).trans (b.mono (unhide B1).size))
  clear b
  obtain ⟨Au4, Gu4⟩ := bx u3 #[.int .i64 (k : Int), .string (bA t), .int .i64 (vk : Int), .int .i64 (vn : Int), .string (bA vs), .slice none 0 0, .slice none 0 0, .bool f, .slice ak n ck, .int .i64 (p : Int)] 33
  obtain ⟨u4, hu4⟩ : ∃ u4, u3.alloc (.cells #[.int .i64 (k : Int), .string (bA t), .int .i64 (vk : Int), .int .i64 (vn : Int), .string (bA vs), .slice none 0 0, .slice none 0 0, .bool f, .slice ak n ck, .int .i64 (p : Int)] 33) = u4 := ⟨_, rfl⟩
  rw [hu4] at Au4 Gu4
  have B4 : Hid (Below w.heap.size w u4) := hide ((unhide B3).trans (Gu4.mono (unhide B3).size))
  have Wu4 := hide hu4
  clear Au4 Gu4 hu4
  go_upto_region 30 with fail
  rw [unhide Wu4]
  clear Wu4
  go_wp2_with fail
  refine ((unhide CT) _).mono ?_
  rintro e u5 ⟨rfl, hu⟩
  subst hu
  go_wp2_with fail
  go_ret
  exact ⟨rfl, unhide B4⟩
end Go.Proofs.YtgalfhlclmkbfaaDoor
