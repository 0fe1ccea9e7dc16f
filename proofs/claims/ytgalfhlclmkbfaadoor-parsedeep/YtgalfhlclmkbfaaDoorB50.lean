/-
  The walk of ParseDeep, kind 6; conditions: what the variables of strconv hold.
  The walk of ParseDeep, whatever the numbers; conditions: what the variables of strconv hold.
  What the listed package variables of the seat give the walks of lex; a world that has them; no conditions.
-/
import Derived.Test.YtgalfhlclmkbfaaDoorB46
import Derived.Test.YtgalfhlclmkbfaaDoorB47
import Derived.Test.YtgalfhlclmkbfaaDoorB48
import Derived.Test.YtgalfhlclmkbfaaDoorB49
import Derived.Test.YtgalfhlclmkbfaaDoorB12
import Derived.Test.YtgalfhlclmkbfaaDoorRows
import Derived.ProofKit
import Derived.LaidMore
import Derived.OpenShut
import Derived.Stop.Joined
import Derived.Stop.LaidErr
import Derived.Lib.LaidTab
set_option linter.unusedVariables false
set_option linter.unusedSimpArgs false
namespace Go.Proofs.YtgalfhlclmkbfaaDoor
open Go.RowKit
set_option linter.unusedVariables false
set_option linter.unusedSimpArgs false

set_option maxRecDepth 100000 in
set_option maxHeartbeats 4000000 in
theorem deep_6f (m : Nat) (h200 : m ≤ 200) (hm : m ≤ 23) (w : World) (he : Ev w) (hw6 : 5 < w.heap.size) :
    Calls Tryd.prog 4 #[.int .i64 (m : Int), .int .i64 6] w fun e w' => e = .returned (.bool true) ∧ Below w.heap.size w w' := by
  have CS := hide (shown_any w he hw6)
  obtain ⟨r, hr, hx⟩ := bl_pg_le m hm
  obtain ⟨O, hO⟩ : ∃ O, bA (rpB [119, 104, 105, 108, 101, 40, 97, 41, 123] m) = O := ⟨_, rfl⟩
  obtain ⟨C, hC⟩ : ∃ C, bA (rpB [125] m) = C := ⟨_, rfl⟩
  have so : O.size ≤ 1800 := by
    rw [← hO, bA_size, rpB_len]
    show m * 9 ≤ 1800
    omega
  have sc : C.size ≤ 200 := by
    rw [← hC, bA_size, rpB_len]
    show m * 1 ≤ 200
    omega
  have CO := hide (fun u => repeated_any [119, 104, 105, 108, 101, 40, 97, 41, 123] m u (by decide) h200)
  have CC := hide (fun u => repeated_any [125] m u (by decide) h200)
  rw [hO] at CO
  rw [hC] at CC
  have e1 : bA [119, 104, 105, 108, 101, 40, 97, 41, 123] = ⟨#[119, 104, 105, 108, 101, 40, 97, 41, 123]⟩ := rfl
  have e2 : bA [125] = ⟨#[125]⟩ := rfl
  rw [e1] at CO
  rw [e2] at CC
  have s6 : (⟨#[102, 110, 32, 102, 40, 41]⟩ ++ O ++ C).size = 6 + O.size + C.size := by rw [ByteArray.size_append, ByteArray.size_append]; rfl
  have s5 : (⟨#[102, 110, 32, 102, 40, 41]⟩ ++ O).size = 6 + O.size := by rw [ByteArray.size_append]; rfl
  obtain ⟨X, hX⟩ : ∃ X, (⟨#[102, 110, 32, 102, 40, 41]⟩ ++ O ++ C).extract 6 (6 + O.size + C.size) = X := ⟨_, rfl⟩
  have hXd : X = O ++ C := by
    rw [← hX, ByteArray.append_assoc]
    apply ByteArray.ext
    rw [ByteArray.data_extract, ByteArray.data_append, ByteArray.data_append]
    apply Array.ext'
    rw [Array.toList_extract, Array.toList_append, Array.toList_append]
    simp [List.extract]
    rw [List.take_of_length_le]
    rw [List.length_append]
    show O.size + C.size ≤ _
    omega
  have hXs : X.size = O.size + C.size := by rw [hXd, ByteArray.size_append]
  have hL : (⟨#[102, 110, 32, 102, 40, 41, 123]⟩ ++ X ++ ⟨#[125]⟩).data.toList = blB m := by
    rw [hXd, ByteArray.data_append, ByteArray.data_append, ByteArray.data_append, Array.toList_append, Array.toList_append, Array.toList_append, ← hO, ← hC, bA_data, bA_data]
    rfl
  rw [← hL] at hr
  have n1 : ¬ 9223372036854775807 < O.size + 1 := by omega
  have s1 : (O ++ ⟨#[49]⟩).size = O.size + 1 := by rw [ByteArray.size_append]; rfl
  have n2 : ¬ 9223372036854775807 < O.size + 1 + C.size := by omega
  have n3 : ¬ 9223372036854775807 < 6 + O.size := by omega
  have n4 : ¬ 9223372036854775807 < 6 + O.size + C.size := by omega
  have n5 : ¬ 9223372036854775807 < 7 + X.size := by omega
  have s7 : (⟨#[102, 110, 32, 102, 40, 41, 123]⟩ ++ X).size = 7 + X.size := by rw [ByteArray.size_append]; rfl
  have n6 : ¬ 9223372036854775807 < 7 + X.size + 1 := by omega
  have n7 : (6 : Int) ≤ 6 + (O.size : Int) + (C.size : Int) := by omega
  have CE : Hid (∀ u, Below w.heap.size w u → Calls Tryd.prog 7 #[.string (⟨#[102, 110, 32, 102, 40, 41, 123]⟩ ++ X ++ ⟨#[125]⟩)] u fun e w' => ∃ (k : Nat) (t : List UInt8) (vk vn : Nat) (vs : List UInt8) (f : Bool) (n : Nat) (ak : Option Addr) (ck p : Nat), e = .returned (.tuple #[.agg #[.int .i64 (k : Int), .string (bA t), .int .i64 (vk : Int), .int .i64 (vn : Int), .string (bA vs), .slice none 0 0, .slice none 0 0, .bool f, .slice ak n ck, .int .i64 (p : Int)], .int .i64 0, .int .i64 0]) ∧ Below u.heap.size u w') := hide (fun u hu => program_er _ u (he.below hu hw6) (Nat.lt_of_lt_of_le hw6 hu.size) hr hx)
  have m1 : ¬ (m : Int) < 0 := by omega
  have m2 : ¬ (200 : Int) < (m : Int) := by omega
  have m3 : (m : Int) + 1 ≤ 24 := by omega
  clear he hw6 hr hx hO hC hL e1 e2 hm hXd
  go_enter Tryd.func4, Tryd.ntmps4
  go_wp2_with fail
  refine (unhide CS).mono ?_
  rintro e u1 ⟨rfl, b1⟩
  have B1 := hide b1
  clear b1 CS
  go_wp2_with fail
  refine ((unhide CO) u1).mono ?_
  rintro e u2 ⟨rfl, hu⟩
  subst hu
  go_wp2_with fail
  refine ((unhide CC) _).mono ?_
  rintro e u2 ⟨rfl, hu⟩
  subst hu
  go_wp2_with fail
  refine ((unhide CO) _).mono ?_
  rintro e u2 ⟨rfl, hu⟩
  subst hu
  go_wp2_with fail
  refine ((unhide CC) _).mono ?_
  rintro e u2 ⟨rfl, hu⟩
  subst hu
  go_wp2_with fail
  refine ((unhide CE) _ (unhide B1)).mono ?_
  rintro e u3 ⟨k, t, vk, vn, vs, f, n, ak, ck, p, rfl, b⟩
  have B3 : Hid (Below w.heap.size w u3) := hide ((unhide B1).trans (b.mono (unhide B1).size))
  clear b
  obtain ⟨Au4, Gu4⟩ := bx u3 #[.int .i64 (k : Int), .string (bA t), .int .i64 (vk : Int), .int .i64 (vn : Int), .string (bA vs), .slice none 0 0, .slice none 0 0, .bool f, .slice ak n ck, .int .i64 (p : Int)] 33
  obtain ⟨u4, hu4⟩ : ∃ u4, u3.alloc (.cells #[.int .i64 (k : Int), .string (bA t), .int .i64 (vk : Int), .int .i64 (vn : Int), .string (bA vs), .slice none 0 0, .slice none 0 0, .bool f, .slice ak n ck, .int .i64 (p : Int)] 33) = u4 := ⟨_, rfl⟩
  rw [hu4] at Au4 Gu4
  have B4 : Hid (Below w.heap.size w u4) := hide ((unhide B3).trans (Gu4.mono (unhide B3).size))
  have Wu4 := hide hu4
  clear Au4 Gu4 hu4
  go_upto_region 28 with fail
  rw [unhide Wu4]
  clear Wu4
  go_wp2_with fail
  go_ret
  exact ⟨rfl, unhide B4⟩

set_option maxRecDepth 100000 in
set_option maxHeartbeats 4000000 in
theorem deep_6m (m : Nat) (h200 : m ≤ 200) (hm : 24 ≤ m) (w : World) (he : Ev w) (hw6 : 5 < w.heap.size) :
    Calls Tryd.prog 4 #[.int .i64 (m : Int), .int .i64 6] w fun e w' => e = .returned (.bool true) ∧ Below w.heap.size w w' := by
  have CS := hide (shown_any w he hw6)
  obtain ⟨r, hr, hx⟩ := bl_pg_gt m hm h200
  obtain ⟨O, hO⟩ : ∃ O, bA (rpB [119, 104, 105, 108, 101, 40, 97, 41, 123] m) = O := ⟨_, rfl⟩
  obtain ⟨C, hC⟩ : ∃ C, bA (rpB [125] m) = C := ⟨_, rfl⟩
  have so : O.size ≤ 1800 := by
    rw [← hO, bA_size, rpB_len]
    show m * 9 ≤ 1800
    omega
  have sc : C.size ≤ 200 := by
    rw [← hC, bA_size, rpB_len]
    show m * 1 ≤ 200
    omega
  have CO := hide (fun u => repeated_any [119, 104, 105, 108, 101, 40, 97, 41, 123] m u (by decide) h200)
  have CC := hide (fun u => repeated_any [125] m u (by decide) h200)
  rw [hO] at CO
  rw [hC] at CC
  have e1 : bA [119, 104, 105, 108, 101, 40, 97, 41, 123] = ⟨#[119, 104, 105, 108, 101, 40, 97, 41, 123]⟩ := rfl
  have e2 : bA [125] = ⟨#[125]⟩ := rfl
  rw [e1] at CO
  rw [e2] at CC
  have s6 : (⟨#[102, 110, 32, 102, 40, 41]⟩ ++ O ++ C).size = 6 + O.size + C.size := by rw [ByteArray.size_append, ByteArray.size_append]; rfl
  have s5 : (⟨#[102, 110, 32, 102, 40, 41]⟩ ++ O).size = 6 + O.size := by rw [ByteArray.size_append]; rfl
  obtain ⟨X, hX⟩ : ∃ X, (⟨#[102, 110, 32, 102, 40, 41]⟩ ++ O ++ C).extract 6 (6 + O.size + C.size) = X := ⟨_, rfl⟩
  have hXd : X = O ++ C := by
    rw [← hX, ByteArray.append_assoc]
    apply ByteArray.ext
    rw [ByteArray.data_extract, ByteArray.data_append, ByteArray.data_append]
    apply Array.ext'
    rw [Array.toList_extract, Array.toList_append, Array.toList_append]
    simp [List.extract]
    rw [List.take_of_length_le]
    rw [List.length_append]
    show O.size + C.size ≤ _
    omega
  have hXs : X.size = O.size + C.size := by rw [hXd, ByteArray.size_append]
  have hL : (⟨#[102, 110, 32, 102, 40, 41, 123]⟩ ++ X ++ ⟨#[125]⟩).data.toList = blB m := by
    rw [hXd, ByteArray.data_append, ByteArray.data_append, ByteArray.data_append, Array.toList_append, Array.toList_append, Array.toList_append, ← hO, ← hC, bA_data, bA_data]
    rfl
  rw [← hL] at hr
  have n1 : ¬ 9223372036854775807 < O.size + 1 := by omega
  have s1 : (O ++ ⟨#[49]⟩).size = O.size + 1 := by rw [ByteArray.size_append]; rfl
  have n2 : ¬ 9223372036854775807 < O.size + 1 + C.size := by omega
  have n3 : ¬ 9223372036854775807 < 6 + O.size := by omega
  have n4 : ¬ 9223372036854775807 < 6 + O.size + C.size := by omega
  have n5 : ¬ 9223372036854775807 < 7 + X.size := by omega
  have s7 : (⟨#[102, 110, 32, 102, 40, 41, 123]⟩ ++ X).size = 7 + X.size := by rw [ByteArray.size_append]; rfl
  have n6 : ¬ 9223372036854775807 < 7 + X.size + 1 := by omega
  have n7 : (6 : Int) ≤ 6 + (O.size : Int) + (C.size : Int) := by omega
  have CE : Hid (∀ u, Below w.heap.size w u → Calls Tryd.prog 7 #[.string (⟨#[102, 110, 32, 102, 40, 41, 123]⟩ ++ X ++ ⟨#[125]⟩)] u fun e w' => ∃ (k : Nat) (t : List UInt8) (vk vn : Nat) (vs : List UInt8) (f : Bool) (n : Nat) (ak : Option Addr) (ck p : Nat), e = .returned (.tuple #[.agg #[.int .i64 (k : Int), .string (bA t), .int .i64 (vk : Int), .int .i64 (vn : Int), .string (bA vs), .slice none 0 0, .slice none 0 0, .bool f, .slice ak n ck, .int .i64 (p : Int)], .int .i64 222, .int .i64 171]) ∧ Below u.heap.size u w') := hide (fun u hu => program_er _ u (he.below hu hw6) (Nat.lt_of_lt_of_le hw6 hu.size) hr hx)
  have m1 : ¬ (m : Int) < 0 := by omega
  have m2 : ¬ (200 : Int) < (m : Int) := by omega
  have m3 : ¬ (m : Int) + 1 ≤ 24 := by omega
  clear he hw6 hr hx hO hC hL e1 e2 hm hXd
  go_enter Tryd.func4, Tryd.ntmps4
  go_wp2_with fail
  refine (unhide CS).mono ?_
  rintro e u1 ⟨rfl, b1⟩
  have B1 := hide b1
  clear b1 CS
  go_wp2_with fail
  refine ((unhide CO) u1).mono ?_
  rintro e u2 ⟨rfl, hu⟩
  subst hu
  go_wp2_with fail
  refine ((unhide CC) _).mono ?_
  rintro e u2 ⟨rfl, hu⟩
  subst hu
  go_wp2_with fail
  refine ((unhide CO) _).mono ?_
  rintro e u2 ⟨rfl, hu⟩
  subst hu
  go_wp2_with fail
  refine ((unhide CC) _).mono ?_
  rintro e u2 ⟨rfl, hu⟩
  subst hu
  go_wp2_with fail
  refine ((unhide CE) _ (unhide B1)).mono ?_
  rintro e u3 ⟨k, t, vk, vn, vs, f, n, ak, ck, p, rfl, b⟩
  have B3 : Hid (Below w.heap.size w u3) := hide ((unhide B1).trans (b.mono (unhide B1).size))
  clear b
  obtain ⟨Au4, Gu4⟩ := bx u3 #[.int .i64 (k : Int), .string (bA t), .int .i64 (vk : Int), .int .i64 (vn : Int), .string (bA vs), .slice none 0 0, .slice none 0 0, .bool f, .slice ak n ck, .int .i64 (p : Int)] 33
  obtain ⟨u4, hu4⟩ : ∃ u4, u3.alloc (.cells #[.int .i64 (k : Int), .string (bA t), .int .i64 (vk : Int), .int .i64 (vn : Int), .string (bA vs), .slice none 0 0, .slice none 0 0, .bool f, .slice ak n ck, .int .i64 (p : Int)] 33) = u4 := ⟨_, rfl⟩
  rw [hu4] at Au4 Gu4
  have B4 : Hid (Below w.heap.size w u4) := hide ((unhide B3).trans (Gu4.mono (unhide B3).size))
  have Wu4 := hide hu4
  clear Au4 Gu4 hu4
  go_upto_region 28 with fail
  rw [unhide Wu4]
  clear Wu4
  go_wp2_with fail
  go_ret
  have m4 : decide ((m : Int) + 1 ≤ 24) = false := decide_eq_false (by omega)
  exact ⟨by
    show Ending.returned (.bool (!decide ((m : Int) + 1 ≤ 24))) = _
    rw [m4]
    rfl, unhide B4⟩
end Go.Proofs.YtgalfhlclmkbfaaDoor

namespace Go.Proofs.YtgalfhlclmkbfaaDoor
open Go.RowKit
set_option linter.unusedVariables false
set_option linter.unusedSimpArgs false

set_option maxRecDepth 100000 in
set_option maxHeartbeats 4000000 in
theorem deep_out (n K : Int) (hn : n < 0 ∨ 200 < n) (w : World) (he : Ev w) (hw6 : 5 < w.heap.size) :
    Calls Tryd.prog 4 #[.int .i64 n, .int .i64 K] w fun e w' => e = .returned (.bool true) ∧ Below w.heap.size w w' := by
  have CS := hide (shown_any w he hw6)
  clear he hw6
  by_cases h0 : n < 0
  · go_enter Tryd.func4, Tryd.ntmps4
    go_wp2_with fail
    refine (unhide CS).mono ?_
    rintro e u1 ⟨rfl, b1⟩
    have B1 := hide b1
    clear b1 CS
    go_wp2_with fail
    go_ret
    exact ⟨rfl, unhide B1⟩
  · have h1 : (200 : Int) < n := by omega
    clear hn
    go_enter Tryd.func4, Tryd.ntmps4
    go_wp2_with fail
    refine (unhide CS).mono ?_
    rintro e u1 ⟨rfl, b1⟩
    have B1 := hide b1
    clear b1 CS
    go_wp2_with fail
    go_ret
    exact ⟨rfl, unhide B1⟩

theorem deep_walk (n K : Int) (w : World) (he : Ev w) (hw6 : 5 < w.heap.size) :
    Calls Tryd.prog 4 #[.int .i64 n, .int .i64 K] w fun e w' => e = .returned (.bool true) ∧ Below w.heap.size w w' := by
  by_cases hn : n < 0 ∨ 200 < n
  · exact deep_out n K hn w he hw6
  obtain ⟨m, rfl⟩ : ∃ m : Nat, n = (m : Int) := ⟨n.toNat, by omega⟩
  have h200 : m ≤ 200 := by omega
  by_cases h1 : K = 1
  · subst h1
    by_cases hm : m ≤ 24
    · exact deep_1f m h200 hm w he hw6
    · exact deep_1m m h200 (by omega) w he hw6
  by_cases h2 : K = 2
  · subst h2
    by_cases hm : m ≤ 24
    · exact deep_2f m h200 hm w he hw6
    · exact deep_2m m h200 (by omega) w he hw6
  by_cases h3 : K = 3
  · subst h3
    by_cases hm : m ≤ 24
    · exact deep_3f m h200 hm w he hw6
    · exact deep_3m m h200 (by omega) w he hw6
  by_cases h4 : K = 4
  · subst h4
    by_cases hm : m ≤ 24
    · exact deep_4f m h200 hm w he hw6
    · exact deep_4m m h200 (by omega) w he hw6
  by_cases h5 : K = 5
  · subst h5
    by_cases hm : m ≤ 24
    · exact deep_5f m h200 hm w he hw6
    · exact deep_5m m h200 (by omega) w he hw6
  by_cases h6 : K = 6
  · subst h6
    by_cases hm : m ≤ 23
    · exact deep_6f m h200 hm w he hw6
    · exact deep_6m m h200 (by omega) w he hw6
  by_cases hm : m ≤ 24
  · exact deep_0f K ⟨h1, h2, h3, h4, h5, h6⟩ m h200 hm w he hw6
  · exact deep_0m K ⟨h1, h2, h3, h4, h5, h6⟩ m h200 (by omega) w he hw6
end Go.Proofs.YtgalfhlclmkbfaaDoor

namespace Go.Proofs.YtgalfhlclmkbfaaDoor
open Go.ChangeShapes Go.WideShapes Go.ChangeAt Go.RowKit
set_option linter.unusedVariables false

theorem own : ownKnob Tryd.prog.godebug = none := by kernel_rfl
theorem laidOut : laidOutB Tryd.prog = true := by kernel_rfl
theorem tPow : (Tryd.prog.globals[2]?).map (·.type) = some 100 := by kernel_rfl
theorem tab_pow : (Rows.laid_internal_strconv_uint64pow10 : DataW Unit) = Lib.tabData .u64 Lib.pow10Tab := by kernel_rfl
theorem gSyn : Tryd.prog.globalNamed "strconv.ErrSyntax" = some 0 := by kernel_rfl
theorem tSyn : (Tryd.prog.globals[0]?).map (·.type) = some 59 := by kernel_rfl
theorem gRng : Tryd.prog.globalNamed "strconv.ErrRange" = some 1 := by kernel_rfl
theorem tRng : (Tryd.prog.globals[1]?).map (·.type) = some 59 := by kernel_rfl
theorem gBits : Tryd.prog.globalNamed "math/bits.deBruijn64tab" = some 5 := by kernel_rfl
theorem cellsES : Tryd.prog.cellsOf 110 = 1 := by kernel_rfl
theorem cellsSt : Tryd.prog.cellsOf 9 = 1 := by kernel_rfl
theorem starES : "*" ++ "errors.errorString" = "*errors.errorString" := by decide
theorem rowES (u : TypeId) (h : Tryd.prog.typeName? 3 u = some "*errors.errorString") : u = 108 :=
  typeName_ptr_named (nm := "errors.errorString") (by rw [starES]; kernel_rfl) (by kernel_rfl) (by decide) u (by rw [starES]; exact h)

def seatLaid : List (String × DataW Unit) := [("math/bits.deBruijn32tab", Rows.laid_math_bits_deBruijn32tab), ("math/bits.deBruijn64tab", Rows.laid_math_bits_deBruijn64tab), ("internal/strconv.uint64pow10", Rows.laid_internal_strconv_uint64pow10), ("strconv.ErrRange", Rows.laid_strconv_ErrRange), ("strconv.ErrSyntax", Rows.laid_strconv_ErrSyntax)]

theorem laid_tail {P : Program} {x : String × DataW Unit} {l : List (String × DataW Unit)} {w : World} (h : laidMet P (x :: l) w) : laidMet P l w := by
  obtain ⟨ps, ⟨g0, t0, cs0, f0, p0, q0, hg0, ht0, hv0, hd0, hl, hps⟩, hn, hf⟩ := h
  subst hps
  exact ⟨q0, hl, (List.nodup_append.1 hn).2.1, fun b off hm => hf b off (List.mem_append_right _ hm)⟩

theorem of_laid {W : World} (h : laidMetH Tryd.prog seatLaid W) : Ev W ∧ 5 < W.heap.size := by
  rw [MakeChecks.laidMetH_plain _ _ _ (by kernel_rfl)] at h
  have h1 := laid_tail h
  have h2 := laid_tail h1
  have h3 := laid_tail h2
  have h4 := laid_tail h3
  obtain ⟨ar, sr, hvr, -, -, -⟩ := laid_sentinel h3 gRng tRng Tryd.underlying59 rowES Tryd.underlying108 Tryd.underlying110 rfl rfl Tryd.underlying9 cellsES cellsSt
  obtain ⟨asy, ssy, hvs, -, -, -⟩ := laid_sentinel h4 gSyn tSyn Tryd.underlying59 rowES Tryd.underlying108 Tryd.underlying110 rfl rfl Tryd.underlying9 cellsES cellsSt
  obtain ⟨ps, ⟨g2, t2, cs2, f2, p2, q2, hg2, ht2, hv2, hd2, _, hq2⟩, _, _⟩ := h2
  obtain ⟨ps1, ⟨g1, t1, cs1, f1, p1, q1, hg1, ht1, hv1, hd1, _, hq1⟩, _, _⟩ := h1
  obtain rfl := Option.some.inj (gPow.symm.trans hg2)
  obtain rfl := Option.some.inj (tPow.symm.trans ht2)
  rw [tab_pow] at hd2
  have e2 := Lib.cells_of_tab Tryd.underlying100 Tryd.underlying81 (by kernel_rfl) (by kernel_rfl) hd2
  refine ⟨⟨?_, ⟨_, by have h0 := World.var?_cell gSyn hvs 0; simpa using h0, Or.inr ⟨_, _, rfl⟩⟩, ⟨_, by have h0 := World.var?_cell gRng hvr 0; simpa using h0, Or.inr ⟨_, _, rfl⟩⟩⟩, ?_⟩
  · unfold Lib.TabIs
    rw [hv2, ← e2]
  · rcases Nat.lt_or_ge 5 W.heap.size with h | h
    · exact h
    · unfold World.var? at hv1
      rw [gBits] at hv1
      simp only [Option.bind_some] at hv1
      rw [Array.getElem?_eq_none h] at hv1
      cases hv1

/-- the door's own heap meets the condition -/
theorem door_met (os : Os) (args : Array Value) : laidMetH Tryd.prog seatLaid ((World.doorLaid Tryd.prog 400 os).forCall (fun _ _ => 0) ⟨#[], args, []⟩).memory :=
  laidMetH_of_parts3 (fuel := 8) (laidMet_of_run' 8 (by kernel_rfl) (by kernel_rfl)) (by kernel_rfl) (by kernel_rfl)
end Go.Proofs.YtgalfhlclmkbfaaDoor
