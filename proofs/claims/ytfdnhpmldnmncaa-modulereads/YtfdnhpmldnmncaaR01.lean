/-
  The walks of PutUint, PutInt behind no bytes, and small facts on texts made of bytes; no conditions.
  The walk of num's unfold; no conditions.
  The walks of num's readers: mayStand, Uint, Int: what each answers at any place of any bytes; no conditions.
-/
import Derived.Test.YtfdnhpmldnmncaaR00
import Derived.Laws.BytesArg
import Derived.Deep.QuietTactic
import Derived.BigQuiet
import Derived.WalkSmall
namespace Go.Proofs.Ytfdnhpmldnmncaa
open Go.RowKit

theorem nilRow (w : World) : Row8 w none 0 0 [] := ⟨rfl, fun _ => ⟨rfl, rfl⟩, (fun ad h => by cases h), (fun n h => by cases h), Nat.le_refl _⟩

theorem putUint_nil (n : Int) (w : World) (h0 : 0 ≤ n) (h1 : n ≤ 18446744073709551615) :
    Calls Try.prog 30 #[.slice none 0 0, .int .u64 n] w fun e w' => e = .returned (.slice (some ⟨w.heap.size, 0, none⟩) (encF 9 n).length 10) ∧
      Row8 w' (some ⟨w.heap.size, 0, none⟩) (encF 9 n).length 10 (encF 9 n) ∧ Below w.heap.size w w' := by
  refine (putUint_any none 0 0 n [] w (nilRow w) (by decide) h0 h1).mono ?_
  rintro e w' ⟨rfl, hown, hb⟩
  simp only [Nat.zero_add, List.nil_append] at *
  exact ⟨trivial, Row8.own hown (encF9_bytes n h0 h1), hb⟩

theorem putInt_nil (n : Int) (w : World) (h0 : -9223372036854775808 ≤ n) (h1 : n ≤ 9223372036854775807) :
    Calls Try.prog 81 #[.slice none 0 0, .int .i64 n] w fun e w' => e = .returned (.slice (some ⟨w.heap.size, 0, none⟩) (encF 9 (foldI n)).length 10) ∧
      Row8 w' (some ⟨w.heap.size, 0, none⟩) (encF 9 (foldI n)).length 10 (encF 9 (foldI n)) ∧ Below w.heap.size w w' := by
  have f0 : 0 ≤ foldI n := by unfold foldI; split <;> omega
  have f1 : foldI n ≤ 18446744073709551615 := by unfold foldI; split <;> omega
  refine (putInt_any none 0 0 n [] w (nilRow w) (by decide) h0 h1).mono ?_
  rintro e w' ⟨rfl, hown, hb⟩
  simp only [Nat.zero_add, List.nil_append] at *
  exact ⟨trivial, Row8.own hown (encF9_bytes _ f0 f1), hb⟩

/-- string(b[i:j]) -/
theorem conv_row {w : World} {b off : Nat} {len : Nat} {zs : List Int} (hz : zs.length = len) (hc : ∀ j, j < len → w.cell? ⟨b, off + j, none⟩ = some (.int .u8 (zs.getD j 0))) (i n cap : Nat) (hi : i + n ≤ len) :
    ∀ q, Sem.run Try.prog (convert 22 9 (.slice (some ⟨b, off + i, none⟩) n cap)) (w.drewN q) = .ok (.string (strOfNums ((zs.drop i).take n))) (w.drewN q) := by
  intro q
  refine run_convert_bytes_arg (P := Try.prog) (w.drewN q) 22 5 Try.underlying22 Try.underlying5 b (off + i) n cap _ (by simp; omega) ?_ 9 Try.underlying9
  intro j hj
  have h := hc (i + j) (by omega)
  rw [← Nat.add_assoc] at h
  have e : ((zs.drop i).take n).getD j 0 = zs.getD (i + j) 0 := by simp [List.getD, List.getElem?_drop, hj]
  rw [e]
  simpa using h

theorem str_inj (xs ys : List Int) (hx : ∀ n ∈ xs, 0 ≤ n ∧ n ≤ 255) (hy : ∀ n ∈ ys, 0 ≤ n ∧ n ≤ 255) (h : strOfNums xs = strOfNums ys) : xs = ys := by
  have e := congrArg (fun s : ByteArray => s.data.toList.map fun c => (c.toNat : Int)) h
  simp only [strOfNums_data, List.map_map] at e
  have key : ∀ zs : List Int, (∀ n ∈ zs, 0 ≤ n ∧ n ≤ 255) → zs.map ((fun c : UInt8 => (c.toNat : Int)) ∘ fun n => UInt8.ofNat n.toNat) = zs := by
    intro zs hz
    conv => rhs; rw [← List.map_id zs]
    apply List.map_congr_left
    intro n hn
    have := hz n hn
    simp
    omega
  rw [key xs hx, key ys hy] at e
  exact e

/-- Go's == of two texts -/
theorem str_beq (a b : ByteArray) : (a.toList == b.toList) = true ↔ a = b := by
  rw [beq_iff_eq, ByteArray.toList_eq, ByteArray.toList_eq]
  exact ⟨Go.WideShapes.bytes_inj, fun h => by rw [h]⟩

theorem encF_prefix (f : Nat) (n m : Int) (h : (encF f m).take (encF f n).length = encF f n) : n = m := by
  induction f generalizing n m with
  | zero => simp [encF] at h; omega
  | succ f ih =>
    simp only [encF] at h
    by_cases hn : n < 128
    · by_cases hm : m < 128
      · simp [hn, hm] at h; omega
      · simp [hn, hm] at h; omega
    · by_cases hm : m < 128
      · simp [hn, hm] at h; omega
      · simp only [hn, hm, if_false, List.length_cons, List.take_succ_cons, List.cons.injEq] at h
        have := ih (n / 128) (m / 128) h.2
        omega
end Go.Proofs.Ytfdnhpmldnmncaa

namespace Go.Proofs.Ytfdnhpmldnmncaa
open Go.RowKit

set_option maxRecDepth 100000 in
set_option maxHeartbeats 400000 in
theorem unfold_any (n : Int) (w : World) (h0 : 0 ≤ n) (h1 : n ≤ 18446744073709551615) :
    Calls Try.prog 93 #[.int .u64 n] w fun e w' => e = .returned (.int .i64 (unfoldI n)) ∧ w' = w := by
  by_cases hn : n % 2 = 1
  · have hx := not_i64 (n / 2) (by omega) (by omega)
    have hb : (n % 2 == 1) = true := by simp [hn]
    have HN := hide hn
    clear hn
    go_enter Try.func93, Try.ntmps93
    go_wp2
    go_ret
    exact ⟨ret_int (by rw [unfoldI, if_pos (unhide HN)]), rfl⟩
  · have hb : (n % 2 == 1) = false := by simp [hn]
    go_enter Try.func93, Try.ntmps93
    go_wp2
    go_ret
    exact ⟨ret_int (by rw [unfoldI, if_neg hn]), rfl⟩

end Go.Proofs.Ytfdnhpmldnmncaa

namespace Go.Proofs.Ytfdnhpmldnmncaa
open Go.RowKit

/-- may a group stand at its place? -/
def standB (c : Int) (i : Nat) : Bool := i == 0 || (c != 0 && (decide (i < 9) || decide (c ≤ 1)))

/-- the number, the place behind it, the error -/
def rd (at_ : Int) : Nat → Nat → Int → List Int → Int × Int × Int
  | 0, _, _, _ => (0, 0, 12)
  | _ + 1, _, _, [] => (0, 0, 11)
  | f + 1, i, acc, c :: l =>
    if standB c i then
      (if c < 128 then (acc + c % 128 * 128 ^ i, at_ + i + 1, 0) else rd at_ f (i + 1) (acc + c % 128 * 128 ^ i) l)
    else (0, 0, 12)

def uintAt (zs : List Int) (at_ : Int) : Int × Int × Int :=
  if at_ < 0 ∨ (zs.length : Int) < at_ then (0, 0, 10) else rd at_ 10 0 0 (zs.drop at_.toNat)

theorem stand_cases (c : Int) (i : Nat) : (i = 0 ∧ standB c i = true) ∨ (0 < i ∧ c = 0 ∧ standB c i = false) ∨ (0 < i ∧ c ≠ 0 ∧ i < 9 ∧ standB c i = true) ∨ (0 < i ∧ c ≠ 0 ∧ 9 ≤ i ∧ c ≤ 1 ∧ standB c i = true) ∨ (0 < i ∧ c ≠ 0 ∧ 9 ≤ i ∧ 1 < c ∧ standB c i = false) := by
  by_cases h0 : i = 0
  · exact Or.inl ⟨h0, by simp [standB, h0]⟩
  · by_cases h1 : c = 0
    · exact Or.inr (Or.inl ⟨by omega, h1, by simp [standB, h0, h1]⟩)
    · by_cases h2 : i < 9
      · exact Or.inr (Or.inr (Or.inl ⟨by omega, h1, h2, by simp [standB, h1, h2]⟩))
      · by_cases h3 : c ≤ 1
        · exact Or.inr (Or.inr (Or.inr (Or.inl ⟨by omega, h1, by omega, h3, by simp [standB, h1, h3]⟩)))
        · exact Or.inr (Or.inr (Or.inr (Or.inr ⟨by omega, h1, by omega, by omega, by simp [standB, h0, h2]; omega⟩)))

theorem ret_bool {a b : Bool} (h : a = b) : Ending.returned (.bool a) = .returned (.bool b) := by rw [h]

set_option maxRecDepth 100000 in
set_option maxHeartbeats 400000 in
theorem mayStand_any (c : Int) (i : Nat) (w : World) (h0 : 0 ≤ c) (h1 : c ≤ 255) (hi : i ≤ 10) :
    Calls Try.prog 57 #[.int .u8 c, .int .i64 i] w fun e w' => e = .returned (.bool (standB c i)) ∧ w' = w := by
  rcases stand_cases c i with ⟨hz, hs⟩ | ⟨hz, hc, hs⟩ | ⟨hz, hc, h9, hs⟩ | ⟨hz, hc, h9, hl, hs⟩ | ⟨hz, hc, h9, hl, hs⟩
  · subst hz
    rw [hs]
    go_enter Try.func57, Try.ntmps57
    go_wp2
    go_ret
    exact ⟨rfl, rfl⟩
  · rw [hs]
    subst hc
    have e0 : ((i : Int) == 0) = false := by simp; omega
    go_enter Try.func57, Try.ntmps57
    go_wp2
    go_ret
    exact ⟨rfl, rfl⟩
  · rw [hs]
    have e0 : ((i : Int) == 0) = false := by simp; omega
    have e1 : (c != 0) = true := by simp [hc]
    have e2 : (i : Int) < 9 := by omega
    go_enter Try.func57, Try.ntmps57
    go_wp2
    go_ret
    exact ⟨rfl, rfl⟩
  · rw [hs]
    have e0 : ((i : Int) == 0) = false := by simp; omega
    have e1 : (c != 0) = true := by simp [hc]
    have e2 : ¬ (i : Int) < 9 := by omega
    go_enter Try.func57, Try.ntmps57
    go_wp2
    go_ret
    exact ⟨rfl, rfl⟩
  · rw [hs]
    have e0 : ((i : Int) == 0) = false := by simp; omega
    have e1 : (c != 0) = true := by simp [hc]
    have e2 : ¬ (i : Int) < 9 := by omega
    go_enter Try.func57, Try.ntmps57
    go_wp2
    go_ret
    exact ⟨ret_bool (by simp; omega), rfl⟩

set_option maxRecDepth 100000 in
set_option maxHeartbeats 400000 in
theorem uint_out (ao : Option Addr) (len cap : Nat) (at_ : Int) (w : World) (h : at_ < 0 ∨ (len : Int) < at_) (hm : len ≤ maxLen) :
    Calls Try.prog 42 #[.slice ao len cap, .int .i64 at_] w fun e w' => e = .returned (.tuple #[.int .u64 0, .int .i64 0, .int .i64 10]) ∧ w' = w := by
  unfold maxLen at hm
  rcases h with h | h
  · go_enter Try.func42, Try.ntmps42
    go_wp2
    go_ret3
    exact ⟨rfl, rfl⟩
  · have h' : ¬ at_ < 0 := by omega
    go_enter Try.func42, Try.ntmps42
    go_wp2
    go_ret3
    exact ⟨rfl, rfl⟩

set_option maxRecDepth 100000 in
set_option maxHeartbeats 400000 in
theorem uint_end (ao : Option Addr) (len cap : Nat) (w : World) (hn : ao = none → len = 0 ∧ cap = 0) (hle : len ≤ cap) :
    Calls Try.prog 42 #[.slice ao len cap, .int .i64 len] w fun e w' => e = .returned (.tuple #[.int .u64 0, .int .i64 0, .int .i64 11]) ∧ w' = w := by
  have hd : decide ((len : Int) < 0) = false := by simp
  by_cases hc : cap = len
  · subst hc
    clear hn
    go_enter Try.func42, Try.ntmps42
    go_wp2
    go_loop [8, 22] (fun t i => i = .int .i64 0 ∧ t = .int .u64 0) (fun _ _ => 0)
    case atStart => exact ⟨rfl, rfl⟩
    case round =>
      obtain ⟨rfl, rfl⟩ := hrel
      go_wp2
      go_ret3
      exact ⟨rfl, rfl⟩
  · cases ao with
    | none => have := hn rfl; omega
    | some ad =>
      clear hn
      go_enter Try.func42, Try.ntmps42
      go_wp2
      go_loop [8, 22] (fun t i => i = .int .i64 0 ∧ t = .int .u64 0) (fun _ _ => 0)
      case atStart => exact ⟨rfl, rfl⟩
      case round =>
        obtain ⟨rfl, rfl⟩ := hrel
        go_wp2
        go_ret3
        exact ⟨rfl, rfl⟩

theorem ret_tri {x y z : Int} {p : Int × Int × Int} (h : p = (x, y, z)) : Ending.returned (.tuple #[.int .u64 x, .int .i64 y, .int .i64 z]) = .returned (.tuple #[.int .u64 p.1, .int .i64 p.2.1, .int .i64 p.2.2]) := by rw [h]

theorem rd_stop (a : Int) (k i : Nat) (acc : Int) (zs : List Int) (hi : i < 10) (h : zs.length ≤ k) : rd a (10 - i) i acc (zs.drop k) = (0, 0, 11) := by
  have e : 10 - i = (9 - i) + 1 := by omega
  rw [List.drop_eq_nil_of_le h, e]; rfl

theorem rd_step (a : Int) (k i : Nat) (acc : Int) (zs : List Int) (hi : i < 10) (h : k < zs.length) : rd a (10 - i) i acc (zs.drop k) =
    if standB (zs.getD k 0) i then (if zs.getD k 0 < 128 then (acc + zs.getD k 0 % 128 * 128 ^ i, a + i + 1, 0) else rd a (10 - (i + 1)) (i + 1) (acc + zs.getD k 0 % 128 * 128 ^ i) (zs.drop (k + 1))) else (0, 0, 12) := by
  have e : 10 - i = 10 - (i + 1) + 1 := by omega
  have g : zs.getD k 0 = zs[k] := by simp [List.getD, h]
  rw [List.drop_eq_getElem_cons h, e, g]; rfl

theorem pow_le_63 (i : Nat) (h : i ≤ 9) : (128 : Int) ^ i ≤ 9223372036854775808 := by
  have : (128 : Nat) ^ i ≤ 128 ^ 9 := Nat.pow_le_pow_right (by omega) h
  have e : (128 : Nat) ^ 9 = 9223372036854775808 := by decide
  have : ((128 ^ i : Nat) : Int) ≤ 9223372036854775808 := by omega
  simpa using this

theorem pow_pos' (i : Nat) : (0 : Int) < 128 ^ i := Int.pow_pos (by omega)

/-- what a group brings -/
theorem group_bounds (c acc : Int) (i : Nat) (hc : 0 ≤ c) (h0 : 0 ≤ acc) (h1 : acc < 128 ^ i) (hi : i < 10) (hs : standB c i = true) :
    0 ≤ c % 128 * 128 ^ i ∧ c % 128 * 128 ^ i ≤ 18446744073709551615 ∧ 0 ≤ acc + c % 128 * 128 ^ i ∧ acc + c % 128 * 128 ^ i < 128 ^ (i + 1) ∧ acc + c % 128 * 128 ^ i ≤ 18446744073709551615 := by
  have hp := pow_pos' i
  have hl := pow_le_63 i (by omega)
  have hd : c % 128 ≤ 127 := by omega
  have hd0 : 0 ≤ c % 128 := by omega
  have hV : 0 ≤ c % 128 * 128 ^ i := Int.mul_nonneg hd0 (by omega)
  have hV2 : c % 128 * 128 ^ i ≤ 127 * 128 ^ i := Int.mul_le_mul_of_nonneg_right hd (by omega)
  have hs' : acc + c % 128 * 128 ^ i < 128 ^ (i + 1) := by rw [Int.pow_succ]; omega
  by_cases h9 : i < 9
  · have := pow_le_63 (i + 1) (by omega)
    exact ⟨hV, by omega, by omega, hs', by omega⟩
  · have hi9 : i = 9 := by omega
    subst hi9
    have e : (128 : Int) ^ 9 = 9223372036854775808 := by decide
    have hc1 : c ≤ 1 := by
      rcases stand_cases c 9 with ⟨h, _⟩ | ⟨_, _, h⟩ | ⟨_, _, h, _⟩ | ⟨_, _, _, h, _⟩ | ⟨_, _, _, _, h⟩
      · omega
      · rw [hs] at h; cases h
      · omega
      · exact h
      · rw [hs] at h; cases h
    rw [e] at *
    exact ⟨hV, by omega, by omega, hs', by omega⟩

theorem wrap_id (n : Int) (h0 : 0 ≤ n) (h1 : n ≤ 18446744073709551615) : IntKind.u64.wrap n = n := by rw [IntKind.wrap_u64]; omega

theorem shl_group (d : Int) (i : Nat) (h0 : 0 ≤ d * 128 ^ i) (h1 : d * 128 ^ i ≤ 18446744073709551615) : IntKind.u64.wrap (d * 2 ^ (7 * (i : Int)).toNat) = d * 128 ^ i := by
  have e : (2 : Int) ^ (7 * (i : Int)).toNat = 128 ^ i := by
    have e1 : (7 * (i : Int)).toNat = 7 * i := by omega
    rw [e1, Int.pow_mul]; rfl
  rw [e, wrap_id _ h0 h1]

theorem or_group (acc d : Int) (i : Nat) (h0 : 0 ≤ acc) (h1 : acc < 128 ^ i) (hl : acc ≤ 18446744073709551615) (g0 : 0 ≤ d * 128 ^ i) (g1 : d * 128 ^ i ≤ 18446744073709551615) : bits .or .u64 acc (d * 128 ^ i) = acc + d * 128 ^ i := by
  have hc : bits .or .u64 acc (d * 128 ^ i) = bits .or .u64 (d * 128 ^ i) acc := by simp only [bits, BitVec.or_comm]
  have e : (2 : Int) ^ (7 * i) = 128 ^ i := by rw [Int.pow_mul]; rfl
  have h64 : (2 : Int) ^ 64 = 18446744073709551616 := by decide
  have hj := bits_join .u64 64 (by decide) (fun n a b => wrap_id n a (by omega)) (7 * i) (d * 128 ^ i) acc g0 (by rw [e]; exact Int.mul_emod_left _ _) (by omega) h0 (by rw [e]; exact h1) (by omega)
  rw [hc, hj, Int.add_comm]

set_option maxRecDepth 100000 in
set_option maxHeartbeats 1000000 in
theorem uint_in (b off : Nat) (len cap a : Nat) (zs : List Int) (w : World) (hz : zs.length = len) (ha : a < len) (hle : len ≤ cap) (hm : cap ≤ maxLen)
    (hc : ∀ j, j < len → w.cell? ⟨b, off + j, none⟩ = some (.int .u8 (zs.getD j 0))) (hs : ∀ n ∈ zs, 0 ≤ n ∧ n ≤ 255) :
    Calls Try.prog 42 #[.slice (some ⟨b, off, none⟩) len cap, .int .i64 a] w fun e w' => e = .returned (.tuple #[.int .u64 (rd a 10 0 0 (zs.drop a)).1, .int .i64 (rd a 10 0 0 (zs.drop a)).2.1, .int .i64 (rd a 10 0 0 (zs.drop a)).2.2]) ∧ w' = w := by
  unfold maxLen at hm
  have hd : decide ((a : Int) < 0) = false := by simp
  have hd2 : ¬ (len : Int) < (a : Int) := by omega
  have hd3 : ¬ cap = a := by omega
  go_enter Try.func42, Try.ntmps42
  go_wp2
  go_loop [8, 22] (fun t x => ∃ (i : Nat) (acc : Int), i ≤ 10 ∧ i ≤ len - a ∧ x = .int .i64 i ∧ t = .int .u64 acc ∧ Hid (0 ≤ acc ∧ acc < 128 ^ i) ∧ Hid (rd a 10 0 0 (zs.drop a) = rd a (10 - i) i acc (zs.drop (a + i)))) (fun _ x => 10 - (intOf x).toNat)
  case atStart => exact ⟨0, 0, by omega, by omega, rfl, rfl, hide (by simp), hide rfl⟩
  case round =>
    obtain ⟨i, acc, hi, hil, rfl, rfl, HA, HR⟩ := hrel
    by_cases hi10 : i < 10
    · by_cases hend : i = len - a
      · have hq : ((i : Int) == ((len - a : Nat) : Int)) = true := by simp [hend]
        have HQ := hide hend
        clear hend
        go_wp2
        go_ret3
        exact ⟨ret_tri (by rw [unhide HR, rd_stop _ _ _ _ _ hi10 (by have := unhide HQ; omega)]), rfl⟩
      · have hq : ((i : Int) == ((len - a : Nat) : Int)) = false := by simp; omega
        have hcell := hc (a + i) (by omega)
        rw [← Nat.add_assoc] at hcell
        have hst := rd_step a (a + i) i acc zs hi10 (by omega)
        have hcb : 0 ≤ zs.getD (a + i) 0 ∧ zs.getD (a + i) 0 ≤ 255 := by
          have g : zs.getD (a + i) 0 = zs[a + i] := by simp [List.getD, (by omega : a + i < zs.length)]
          rw [g]; exact hs _ (List.getElem_mem _)
        have HE := hide hst
        clear hst
        generalize zs.getD (a + i) 0 = c at *
        obtain ⟨c0, c1⟩ := hcb
        have hi' : i < len - a := by omega
        cases hsb : standB c i with
        | false =>
          have HB := hide hsb
          go_wp2_with (go_at_call 57; refine (mayStand_any c i _ c0 c1 hi).mono ?_; rintro e w' ⟨rfl, rfl⟩)
          go_ret3
          exact ⟨ret_tri (by rw [unhide HR, unhide HE, unhide HB]; rfl), rfl⟩
        | true =>
          obtain ⟨a0, a1⟩ := unhide HA
          have gb := group_bounds c acc i c0 a0 a1 hi10 hsb
          obtain ⟨g0, g1, g2, g3, g4⟩ := gb
          have hsh := shl_group (c % 128) i g0 g1
          have hor := or_group acc (c % 128) i a0 a1 (by omega) g0 g1
          have HB := hide hsb
          have G := hide (And.intro g2 g3)
          clear g3 a1
          by_cases hlt : c < 128
          · go_wp2_with (go_at_call 57; refine (mayStand_any c i _ c0 c1 hi).mono ?_; rintro e w' ⟨rfl, rfl⟩)
            go_ret3
            exact ⟨ret_tri (by rw [unhide HR, unhide HE, unhide HB, if_pos rfl, if_pos hlt]), rfl⟩
          · go_wp2_with (go_at_call 57; refine (mayStand_any c i _ c0 c1 hi).mono ?_; rintro e w' ⟨rfl, rfl⟩)
            go_round
            case rel => exact ⟨i + 1, acc + c % 128 * 128 ^ i, by omega, by omega, by go_num, by go_num, hide (unhide G), hide (by rw [unhide HR, unhide HE, unhide HB, if_pos rfl, if_neg (by omega)]; rfl)⟩
            case measure => simp [intOf]; omega
    · have hi' : i = 10 := by omega
      subst hi'
      go_wp2
      go_ret3
      exact ⟨ret_tri (by rw [unhide HR]; rfl), rfl⟩

/-- num.Uint, at any place of any bytes -/
theorem uint_any (ao : Option Addr) (len cap : Nat) (at_ : Int) (zs : List Int) (w : World) (hr : Row8 w ao len cap zs) (hm : cap ≤ maxLen) :
    Calls Try.prog 42 #[.slice ao len cap, .int .i64 at_] w fun e w' => e = .returned (.tuple #[.int .u64 (uintAt zs at_).1, .int .i64 (uintAt zs at_).2.1, .int .i64 (uintAt zs at_).2.2]) ∧ w' = w := by
  have hl := hr.length
  have hle := hr.le
  by_cases h : at_ < 0 ∨ (len : Int) < at_
  · have e : uintAt zs at_ = (0, 0, 10) := by unfold uintAt; rw [hl, if_pos h]
    rw [e]
    exact uint_out ao len cap at_ w h (by omega)
  · obtain ⟨a, rfl⟩ := Int.eq_ofNat_of_zero_le (by omega : 0 ≤ at_)
    have e : uintAt zs a = rd a 10 0 0 (zs.drop a) := by unfold uintAt; rw [hl, if_neg h, Int.toNat_natCast]
    rw [e]
    by_cases he : a = len
    · subst he
      have e2 : rd (a : Int) 10 0 0 (zs.drop a) = (0, 0, 11) := rd_stop a a 0 0 zs (by omega) (by omega)
      rw [e2]
      exact uint_end ao a cap w hr.none hle
    · obtain ⟨b, off, rfl, hc⟩ := hr.at (by omega)
      exact uint_in b off len cap a zs w hl (by omega) hle hm hc hr.small
end Go.Proofs.Ytfdnhpmldnmncaa
