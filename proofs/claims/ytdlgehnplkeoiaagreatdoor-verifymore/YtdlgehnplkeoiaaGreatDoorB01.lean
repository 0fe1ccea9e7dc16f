/-
  The walks of num's writers: withRoom, layUint, fold, PutUint, PutInt: what each lays, in new memory; no conditions beyond the sizes that every reading has.
  The walks of PutUint, PutInt behind no bytes, and small facts on texts made of bytes; no conditions.
  Instructions (layer 8): what is wrong with one, its bytes; the walks of fault and lay; conditions: the package's variables.
-/
import Derived.Test.YtdlgehnplkeoiaaGreatDoorB00
import Derived.Test.YtdlgehnplkeoiaaGreatDoorRows
import Derived.Laws.Bits128
import Derived.Laws.BitsAllLaws
import Derived.Laws.BytesArg
import Derived.Deep.QuietTactic
import Derived.BigQuiet
import Derived.WalkSmall
set_option linter.unusedVariables false
set_option linter.unusedSimpArgs false
namespace Go.Proofs.YtdlgehnplkeoiaaGreatDoor
open Go.RowKit

theorem info5 : (Tryz.prog.info? 5).map (fun i => (i.zero, i.size, i.bytes)) = some (some (.int .u8 0), 1, 1) := by kernel_rfl

set_option maxRecDepth 100000 in
set_option maxHeartbeats 400000 in
theorem withRoom_any (ao : Option Addr) (len cap r : Nat) (zs : List Int) (w : World) (hr : Row8 w ao len cap zs) (hm : len + r ≤ 281474976710656) :
    Calls Tryz.prog 70 #[.slice ao len cap, .int .i64 r] w fun e w' => e = .returned (.slice (some ⟨w.heap.size, 0, none⟩) len (len + r)) ∧
      w'.ownsRow w.heap.size 5 1 (.slice (some ⟨w.heap.size, 0, none⟩) len (len + r)) len (zs.map (Value.int .u8)) ∧ Below w.heap.size w w' := by
  obtain ⟨i0, hi, hz0, hz1, hz2⟩ := info_parts info5
  go_enter Tryz.func70, Tryz.ntmps70
  go_wp2_with (first
    | (at_make; refine wpList_make_own _ rfl _ _ 59 rfl w.heap.size 5 i0 (.int .u8 0) 1 Tryz.underlying59 hi hz0 hz1 _ _ _ (len + r) rfl rfl (by omega) (by rw [hz2]; omega) (by unfold maxLen; omega) (Nat.le_refl _) ?_; intro w1 hown1 hgrow1)
    | (at_builtin; refine wpList_append_fits_any _ rfl (.tmp 9) (.tmp 10) 59 rfl w.heap.size 5 i0 1 Tryz.underlying59 hi hz1 w.heap.size 0 (len + r) [] rfl hown1 ao len cap (zs.map (Value.int .u8)) rfl (by simp [hr.length]) hr.none (fun ad ha j u hj => hgrow1.cell (hr.cells ad ha j u hj) (by simp)) (ints_oneCell _ _) (by omega) ?_; intro w2 hown2 hgrow2; simp only [Nat.zero_add, List.nil_append] at hown2))
  go_ret
  exact ⟨by simp, hown2, ((Below.refl _ _).grown hgrow1 (Nat.le_refl _) (by simp)).grown hgrow2 hgrow1.size (by simp)⟩

theorem enc_step (j : Nat) (m : Int) (hj : j < 9) (hm : ¬ m < 128) : encF (9 - j) m = (m % 128 + 128) :: encF (9 - (j + 1)) (m / 128) := by
  have e : 9 - j = 9 - (j + 1) + 1 := by omega
  rw [e, encF_great _ _ hm]

theorem enc_last (j : Nat) (m : Int) (h : m < 128 ∨ j = 9) : encF (9 - j) m = [m] := by
  rcases h with h | rfl
  · exact encF_small _ _ h
  · rfl

theorem ret_val {a b : Value} (h : a = b) : Ending.returned a = .returned b := by rw [h]

set_option maxRecDepth 100000 in
set_option maxHeartbeats 800000 in
theorem layUint_any (g k cap : Nat) (n : Int) (xs : List Value) (w : World) (base : Nat) (h0 : 0 ≤ n) (h1 : n ≤ 18446744073709551615) (hb : base ≤ w.heap.size) (hg : base ≤ g)
    (hown : w.ownsRow base 5 1 (.slice (some ⟨g, 0, none⟩) k cap) k xs) (hroom : k + 10 ≤ cap) :
    Calls Tryz.prog 69 #[.slice (some ⟨g, 0, none⟩) k cap, .int .u64 n] w fun e w' => e = .returned (.slice (some ⟨g, 0, none⟩) (k + (encF 9 n).length) cap) ∧
      w'.ownsRow base 5 1 (.slice (some ⟨g, 0, none⟩) (k + (encF 9 n).length) cap) (k + (encF 9 n).length) (xs ++ (encF 9 n).map (Value.int .u8)) ∧ Below base w w' := by
  obtain ⟨i0, hi, hz0, hz1, hz2⟩ := info_parts info5
  go_enter Tryz.func69, Tryz.ntmps69
  go_wp2
  go_loopw [0, 1, 5] (fun v x i wr => ∃ (j : Nat) (m : Int) (ys : List Value), j ≤ 9 ∧ i = .int .i64 j ∧ x = .int .u64 m ∧ 0 ≤ m ∧ m ≤ 18446744073709551615 ∧ v = .slice (some ⟨g, 0, none⟩) (k + j) cap ∧
      wr.ownsRow base 5 1 (.slice (some ⟨g, 0, none⟩) (k + j) cap) (k + j) ys ∧ Hid (xs ++ (encF 9 n).map (Value.int .u8) = ys ++ (encF (9 - j) m).map (Value.int .u8)) ∧ Hid ((encF 9 n).length = j + (encF (9 - j) m).length) ∧ Hid (m < 128 ^ (9 - j) * 128) ∧ Below base w wr)
    (fun _ _ i _ => 9 - (intOf i).toNat)
  case atStart => exact ⟨0, n, xs, by omega, rfl, rfl, h0, h1, rfl, hown, hide rfl, hide (by simp), hide (by have e : (128 : Int) ^ 9 * 128 = 1180591620717411303424 := by decide
                                                                                                             show n < 128 ^ 9 * 128
                                                                                                             omega), Below.refl _ _⟩
  case round =>
    obtain ⟨j, m, ys, hj, rfl, rfl, m0, m1, rfl, hown', HE, HL, HM, hbel⟩ := hrel
    have hsz := hbel.size
    by_cases hj9 : j < 9
    · by_cases hm : m < 128
      · go_wp2_with (first | (at_builtin; refine wpList_append_fits _ rfl (.tmp 19) (.tmp 22) 59 rfl base 5 i0 1 Tryz.underlying59 hi hz1 g (k + j) cap ys rfl (hown'.alloc _) ⟨wr.heap.size, 0, none⟩ 1 1 [.int .u8 m] rfl rfl (cell_one_new _ _ _) (by intro u hu; simp at hu; subst hu; rfl) (by omega) ?_; intro w1 hown1 hgrow1))
        go_ret
        have e := enc_last j m (Or.inl hm)
        have eL : k + (encF 9 n).length = k + j + 1 := by rw [unhide HL, e]; simp; omega
        have eX : xs ++ (encF 9 n).map (Value.int .u8) = ys ++ [.int .u8 m] := by rw [unhide HE, e]; rfl
        rw [eL, eX]
        exact ⟨rfl, hown1, (hbel.alloc (by omega) _).grown hgrow1 (by simp; omega) (by simp; omega)⟩
      · have hor := u8_or128_right (m % 128) (by omega) (by omega)
        go_wp2_with (first | (at_builtin; refine wpList_append_fits _ rfl (.tmp 9) (.tmp 14) 59 rfl base 5 i0 1 Tryz.underlying59 hi hz1 g (k + j) cap ys rfl (hown'.alloc _) ⟨wr.heap.size, 0, none⟩ 1 1 [.int .u8 (m % 128 + 128)] rfl rfl (cell_one_new _ _ _) (by intro u hu; simp at hu; subst hu; rfl) (by omega) ?_; intro w1 hown1 hgrow1))
        go_roundw
        case rel =>
          have e := enc_step j m hj9 hm
          refine ⟨j + 1, m / 128, ys ++ [.int .u8 (m % 128 + 128)], by omega, by go_num, by go_num, by omega, by omega, rfl, hown1, hide ?_, hide ?_, hide ?_, (hbel.alloc (by omega) _).grown hgrow1 (by simp; omega) (by simp; omega)⟩
          · rw [unhide HE, e]; simp
          · rw [unhide HL, e]; simp; omega
          · have hm' := unhide HM
            have e9 : 9 - j = 9 - (j + 1) + 1 := by omega
            rw [e9, Int.pow_succ] at hm'
            omega
        case measure => simp [intOf]; omega
    · have hj' : j = 9 := by omega
      subst hj'
      have hm : m < 128 := by have := unhide HM; simpa using this
      go_wp2_with (first | (at_builtin; refine wpList_append_fits _ rfl (.tmp 19) (.tmp 22) 59 rfl base 5 i0 1 Tryz.underlying59 hi hz1 g (k + 9) cap ys rfl (hown'.alloc _) ⟨wr.heap.size, 0, none⟩ 1 1 [.int .u8 m] rfl rfl (cell_one_new _ _ _) (by intro u hu; simp at hu; subst hu; rfl) (by omega) ?_; intro w1 hown1 hgrow1))
      go_ret
      have e := enc_last 9 m (Or.inr rfl)
      have eL : k + (encF 9 n).length = k + 9 + 1 := by rw [unhide HL, e]; simp
      have eX : xs ++ (encF 9 n).map (Value.int .u8) = ys ++ [.int .u8 m] := by rw [unhide HE, e]; rfl
      rw [eL, eX]
      exact ⟨rfl, hown1, (hbel.alloc (by omega) _).grown hgrow1 (by simp; omega) (by simp; omega)⟩

set_option maxRecDepth 100000 in
set_option maxHeartbeats 400000 in
theorem putUint_any (ao : Option Addr) (len cap : Nat) (n : Int) (zs : List Int) (w : World) (hr : Row8 w ao len cap zs) (hm : len + 10 ≤ 281474976710656) (h0 : 0 ≤ n) (h1 : n ≤ 18446744073709551615) :
    Calls Tryz.prog 37 #[.slice ao len cap, .int .u64 n] w fun e w' => e = .returned (.slice (some ⟨w.heap.size, 0, none⟩) (len + (encF 9 n).length) (len + 10)) ∧
      w'.ownsRow w.heap.size 5 1 (.slice (some ⟨w.heap.size, 0, none⟩) (len + (encF 9 n).length) (len + 10)) (len + (encF 9 n).length) ((zs ++ encF 9 n).map (Value.int .u8)) ∧ Below w.heap.size w w' := by
  go_enter Tryz.func37, Tryz.ntmps37
  go_wp2_with fail
  refine (withRoom_any ao len cap 10 zs w hr hm).mono ?_
  rintro e w1 ⟨rfl, hown, hb1⟩
  go_wp2_with fail
  have hs := hb1.size
  refine (layUint_any w.heap.size len (len + 10) n (zs.map (Value.int .u8)) w1 w.heap.size h0 h1 hs (Nat.le_refl _) hown (Nat.le_refl _)).mono ?_
  rintro e w2 ⟨rfl, hown2, hb2⟩
  rw [← List.map_append] at hown2
  go_wp2_with fail
  go_ret
  exact ⟨rfl, hown2, hb1.trans hb2⟩

theorem not_i64 (n : Int) (h0 : -9223372036854775808 ≤ n) (h1 : n ≤ 9223372036854775807) : bits .xor .i64 (-1) n = -n - 1 := by
  show IntKind.i64.wrap ((BitVec.ofInt 64 (-1) ^^^ BitVec.ofInt 64 n).toNat : Int) = _
  have e : BitVec.ofInt 64 (-1) = BitVec.allOnes 64 := by decide
  rw [e, BitVec.allOnes_xor, BitVec.toNat_not, BitVec.toNat_ofInt, IntKind.wrap_i64]
  omega

/-- numbers with a sign, taken in turn -/
def foldI (n : Int) : Int := if n < 0 then -2 * n - 1 else 2 * n
def unfoldI (n : Int) : Int := if n % 2 = 1 then -(n / 2) - 1 else n / 2

theorem foldI_neg (n : Int) (h : n < 0) : foldI n = -2 * n - 1 := by simp [foldI, h]
theorem foldI_pos (n : Int) (h : ¬ n < 0) : foldI n = 2 * n := by rw [foldI, if_neg h]

theorem ret_int {k : IntKind} {a b : Int} (h : a = b) : Ending.returned (.int k a) = .returned (.int k b) := by rw [h]

set_option maxRecDepth 100000 in
set_option maxHeartbeats 400000 in
theorem fold_any (n : Int) (w : World) (h0 : -9223372036854775808 ≤ n) (h1 : n ≤ 9223372036854775807) :
    Calls Tryz.prog 126 #[.int .i64 n] w fun e w' => e = .returned (.int .u64 (foldI n)) ∧ w' = w := by
  by_cases hn : n < 0
  · have hx := not_i64 n h0 h1
    go_enter Tryz.func126, Tryz.ntmps126
    go_wp2
    go_ret
    exact ⟨ret_int (by rw [foldI_neg n hn]; simp only [IntKind.wrap_u64]; omega), rfl⟩
  · go_enter Tryz.func126, Tryz.ntmps126
    go_wp2
    go_ret
    exact ⟨ret_int (by rw [foldI_pos n (by omega)]), rfl⟩

set_option maxRecDepth 100000 in
set_option maxHeartbeats 400000 in
theorem putInt_any (ao : Option Addr) (len cap : Nat) (n : Int) (zs : List Int) (w : World) (hr : Row8 w ao len cap zs) (hm : len + 10 ≤ 281474976710656) (h0 : -9223372036854775808 ≤ n) (h1 : n ≤ 9223372036854775807) :
    Calls Tryz.prog 119 #[.slice ao len cap, .int .i64 n] w fun e w' => e = .returned (.slice (some ⟨w.heap.size, 0, none⟩) (len + (encF 9 (foldI n)).length) (len + 10)) ∧
      w'.ownsRow w.heap.size 5 1 (.slice (some ⟨w.heap.size, 0, none⟩) (len + (encF 9 (foldI n)).length) (len + 10)) (len + (encF 9 (foldI n)).length) ((zs ++ encF 9 (foldI n)).map (Value.int .u8)) ∧ Below w.heap.size w w' := by
  have f0 : 0 ≤ foldI n := by unfold foldI; split <;> omega
  have f1 : foldI n ≤ 18446744073709551615 := by unfold foldI; split <;> omega
  go_enter Tryz.func119, Tryz.ntmps119
  go_wp2_with fail
  refine (fold_any n _ h0 h1).mono ?_
  rintro e w1 ⟨rfl, rfl⟩
  go_wp2_with fail
  refine (putUint_any ao len cap (foldI n) zs _ hr hm f0 f1).mono ?_
  rintro e w2 ⟨rfl, hown2, hb2⟩
  go_wp2_with fail
  go_ret
  exact ⟨rfl, hown2, hb2⟩
end Go.Proofs.YtdlgehnplkeoiaaGreatDoor

namespace Go.Proofs.YtdlgehnplkeoiaaGreatDoor
open Go.RowKit

theorem nilRow (w : World) : Row8 w none 0 0 [] := ⟨rfl, fun _ => ⟨rfl, rfl⟩, (fun ad h => by cases h), (fun n h => by cases h), Nat.le_refl _⟩

theorem putUint_nil (n : Int) (w : World) (h0 : 0 ≤ n) (h1 : n ≤ 18446744073709551615) :
    Calls Tryz.prog 37 #[.slice none 0 0, .int .u64 n] w fun e w' => e = .returned (.slice (some ⟨w.heap.size, 0, none⟩) (encF 9 n).length 10) ∧
      Row8 w' (some ⟨w.heap.size, 0, none⟩) (encF 9 n).length 10 (encF 9 n) ∧ Below w.heap.size w w' := by
  refine (putUint_any none 0 0 n [] w (nilRow w) (by decide) h0 h1).mono ?_
  rintro e w' ⟨rfl, hown, hb⟩
  simp only [Nat.zero_add, List.nil_append] at *
  exact ⟨trivial, Row8.own hown (encF9_bytes n h0 h1), hb⟩

theorem putInt_nil (n : Int) (w : World) (h0 : -9223372036854775808 ≤ n) (h1 : n ≤ 9223372036854775807) :
    Calls Tryz.prog 119 #[.slice none 0 0, .int .i64 n] w fun e w' => e = .returned (.slice (some ⟨w.heap.size, 0, none⟩) (encF 9 (foldI n)).length 10) ∧
      Row8 w' (some ⟨w.heap.size, 0, none⟩) (encF 9 (foldI n)).length 10 (encF 9 (foldI n)) ∧ Below w.heap.size w w' := by
  have f0 : 0 ≤ foldI n := by unfold foldI; split <;> omega
  have f1 : foldI n ≤ 18446744073709551615 := by unfold foldI; split <;> omega
  refine (putInt_any none 0 0 n [] w (nilRow w) (by decide) h0 h1).mono ?_
  rintro e w' ⟨rfl, hown, hb⟩
  simp only [Nat.zero_add, List.nil_append] at *
  exact ⟨trivial, Row8.own hown (encF9_bytes _ f0 f1), hb⟩

/-- string(b[i:j]) -/
theorem conv_row {w : World} {b off : Nat} {len : Nat} {zs : List Int} (hz : zs.length = len) (hc : ∀ j, j < len → w.cell? ⟨b, off + j, none⟩ = some (.int .u8 (zs.getD j 0))) (i n cap : Nat) (hi : i + n ≤ len) :
    ∀ q, Sem.run Tryz.prog (convert 59 9 (.slice (some ⟨b, off + i, none⟩) n cap)) (w.drewN q) = .ok (.string (strOfNums ((zs.drop i).take n))) (w.drewN q) := by
  intro q
  refine run_convert_bytes_arg (P := Tryz.prog) (w.drewN q) 59 5 Tryz.underlying59 Tryz.underlying5 b (off + i) n cap _ (by simp; omega) ?_ 9 Tryz.underlying9
  intro j hj
  have h := hc (i + j) (by omega)
  rw [← Nat.add_assoc] at h
  have e : ((zs.drop i).take n).getD j 0 = zs.getD (i + j) 0 := by simp [List.getD, List.getElem?_drop, hj]
  rw [e]
  simpa using h

theorem str_inj (xs ys : List Int) (hx : ∀ n ∈ xs, 0 ≤ n ∧ n ≤ 255) (hy : ∀ n ∈ ys, 0 ≤ n ∧ n ≤ 255) (h : strOfNums xs = strOfNums ys) : xs = ys := by
  have e := congrArg (fun s : ByteArray => s.data.toList.map fun c => (c.toNat : Int)) h
  simp only [strOfNums_data, List.map_map] at e
  have key : ∀ zs : List Int, (∀ n ∈ zs, 0 ≤ n ∧ n ≤ 255) → zs.map ((fun c : UInt8 => (c.toNat : Int)) ∘ fun n => UInt8.ofNat n.toNat) = zs := by
    intro zs hz
    conv => rhs; rw [← List.map_id zs]
    apply List.map_congr_left
    intro n hn
    have := hz n hn
    simp
    omega
  rw [key xs hx, key ys hy] at e
  exact e

/-- Go's == of two texts -/
theorem str_beq (a b : ByteArray) : (a.toList == b.toList) = true ↔ a = b := by
  rw [beq_iff_eq, ByteArray.toList_eq, ByteArray.toList_eq]
  exact ⟨Go.WideShapes.bytes_inj, fun h => by rw [h]⟩

theorem encF_prefix (f : Nat) (n m : Int) (h : (encF f m).take (encF f n).length = encF f n) : n = m := by
  induction f generalizing n m with
  | zero => simp [encF] at h; omega
  | succ f ih =>
    simp only [encF] at h
    by_cases hn : n < 128
    · by_cases hm : m < 128
      · simp [hn, hm] at h; omega
      · simp [hn, hm] at h; omega
    · by_cases hm : m < 128
      · simp [hn, hm] at h; omega
      · simp only [hn, hm, if_false, List.length_cons, List.take_succ_cons, List.cons.injEq] at h
        have := ih (n / 128) (m / 128) h.2
        omega
end Go.Proofs.YtdlgehnplkeoiaaGreatDoor

namespace Go.Proofs.YtdlgehnplkeoiaaGreatDoor
open Go.RowKit

theorem below_drewN {B : Nat} {a w : World} (h : Below B a w) (q : Nat) : Below B a (w.drewN q) := ⟨h.os, h.tape, h.output, h.size, h.block⟩

def opdOf : DataW Unit → Int × Int
  | .agg [.lit (.int _ a), .lit (.int _ b)] => (a, b)
  | _ => (0, 0)

/-- of each sort of operand, in how many bytes it stands and how great it may be -/
def OPD : List (Int × Int) := match (Rows.laid_scruple_code_operands : DataW Unit) with
  | .agg ps => ps.map opdOf
  | _ => []

theorem OPD_len : OPD.length = 6 := by kernel_rfl
theorem OPD_is : OPD = [(0, 0), (1, 99), (1, 31), (2, 3999), (1, 23), (1, 40)] := by kernel_rfl

/-- both tables in memory -/
structure Tab2 (w : World) : Prop where
  tab : Tab w
  big : 1 < w.heap.size
  cell : ∀ k p, OPD[k]? = some p → w.cell? ⟨0, k * 2, none⟩ = some (.int .i64 p.1) ∧ w.cell? ⟨0, k * 2 + 1, none⟩ = some (.int .i64 p.2)

theorem Tab2.later {B : Nat} {w w' : World} (h : Tab2 w) (hb : Below B w w') (hB : 1 < B) (hs : w.heap.size ≤ w'.heap.size) : Tab2 w' := by
  refine ⟨h.tab.later hb (by omega) hs, Nat.lt_of_lt_of_le h.big hs, fun k x hx => ?_⟩
  have e1 : w'.cell? ⟨0, k * 2, none⟩ = w.cell? ⟨0, k * 2, none⟩ := World.cell?_of_block (hb.block 0 (by omega))
  have e2 : w'.cell? ⟨0, k * 2 + 1, none⟩ = w.cell? ⟨0, k * 2 + 1, none⟩ := World.cell?_of_block (hb.block 0 (by omega))
  rw [e1, e2]
  exact h.cell k x hx

theorem Tab2.below {w w' : World} (h : Tab2 w) (hb : Below w.heap.size w w') : Tab2 w' := h.later hb h.big hb.size

/-- the sort of an operation's operand -/
def srt (op : Int) : Nat := (infoA op).1.2.1.toNat
def siz (k : Nat) : Nat := (OPD.getD k (0, 0)).1.toNat
def mst (k : Nat) : Int := (OPD.getD k (0, 0)).2

theorem ops_sort : ∀ i : Fin 41, 0 ≤ (OPS.getD (i.val + 1) blank).2.1 ∧ (OPS.getD (i.val + 1) blank).2.1 ≤ 5 := by decide +kernel

theorem infoA_in (op : Int) (h : 1 ≤ op ∧ op ≤ 41) : infoA op = (OPS.getD op.toNat blank, true) := by
  unfold infoA
  rw [if_pos h]

theorem srt_is (op : Int) (h : 1 ≤ op ∧ op ≤ 41) : (OPS.getD op.toNat blank).2.1 = (srt op : Int) ∧ srt op ≤ 5 := by
  have := ops_sort ⟨op.toNat - 1, by omega⟩
  simp only [show op.toNat - 1 + 1 = op.toNat by omega] at this
  unfold srt
  rw [infoA_in op h]
  simp only []
  omega

theorem opd_at (k : Nat) (h : k ≤ 5) : OPD[k]? = some ((siz k : Int), mst k) ∧ siz k ≤ 2 ∧ 0 ≤ mst k ∧ mst k ≤ 3999 ∧ (siz k = 0 → mst k = 0) ∧ (siz k = 1 → mst k ≤ 255) := by
  unfold siz mst
  rw [OPD_is]
  match k, h with
  | 0, _ => decide
  | 1, _ => decide
  | 2, _ => decide
  | 3, _ => decide
  | 4, _ => decide
  | 5, _ => decide

/-- what is wrong with an instruction -/
def faultI (op a : Int) : Int := if 1 ≤ op ∧ op ≤ 41 then (if 0 ≤ a ∧ a ≤ mst (srt op) then 0 else 81) else 80

/-- the bytes of an operand -/
def tailB (a : Int) : Nat → List Int
  | 1 => [a % 256]
  | 2 => [a / 256, a % 256]
  | _ => []

/-- the bytes of an instruction -/
def insB (op a : Int) : List Int := op :: tailB a (siz (srt op))

theorem tailB_len (a : Int) (k : Nat) (h : k ≤ 2) : (tailB a k).length = k := by
  match k, h with
  | 0, _ => rfl
  | 1, _ => rfl
  | 2, _ => rfl

theorem fault_ok {op a : Int} (h : faultI op a = 0) : (1 ≤ op ∧ op ≤ 41) ∧ 0 ≤ a ∧ a ≤ mst (srt op) := by
  unfold faultI at h
  split at h
  · rename_i h1
    split at h
    · rename_i h2; exact ⟨h1, h2⟩
    · omega
  · omega

theorem insB_len (op a : Int) (h : faultI op a = 0) : (insB op a).length = 1 + siz (srt op) := by
  have h1 := fault_ok h
  have h2 := (opd_at (srt op) (srt_is op h1.1).2).2.1
  simp [insB, tailB_len a _ h2]
  omega

theorem insB_small (op a : Int) (h : faultI op a = 0) : ∀ c ∈ insB op a, 0 ≤ c ∧ c ≤ 255 := by
  have h1 := fault_ok h
  have h2 := opd_at (srt op) (srt_is op h1.1).2
  intro c hc
  unfold insB at hc
  rcases List.mem_cons.1 hc with rfl | hc
  · omega
  · generalize siz (srt op) = k at *
    match k, h2.2.1 with
    | 0, _ => cases hc
    | 1, _ => simp [tailB] at hc; omega
    | 2, _ => simp [tailB] at hc; omega

set_option maxRecDepth 100000 in
set_option maxHeartbeats 800000 in
theorem fault_any (op a : Int) (w : World) (h : Tab2 w) :
    Calls Tryz.prog 94 #[.agg #[.int .i64 op, .int .i64 a]] w fun e w' => e = .returned (.int .i64 (faultI op a)) ∧ Below w.heap.size w w' := by
  obtain ⟨w1, hw1⟩ : ∃ w1, w.alloc (.cells #[.int .i64 op, .int .i64 a] 76) = w1 := ⟨_, rfl⟩
  have B1 : Below w.heap.size w w1 := by rw [← hw1]; exact (Below.refl _ _).alloc (Nat.le_refl _) _
  have A1 : w1.heap[w.heap.size]? = some (.cells #[.int .i64 op, .int .i64 a] 76 (0, 0)) := by rw [← hw1]; exact heap_alloc_new _ _
  have Z1 : w1.heap.size = w.heap.size + 1 := by rw [← hw1]; simp
  have C1 := hide (info_any op w1 (h.below B1).tab)
  have c0 : w1.cell? ⟨w.heap.size, 0, none⟩ = some (.int .i64 op) := by rw [cell_of_row w1 _ 0 _ _ (0, 0) A1]; rfl
  have hbig := h.big
  have HT := hide h
  have H1 := hide (And.intro B1 (And.intro A1 Z1))
  obtain ⟨F, hF⟩ : ∃ F, faultI op a = F := ⟨_, rfl⟩
  rw [hF]
  clear h B1 A1 Z1
  by_cases hin : 1 ≤ op ∧ op ≤ 41
  · have e1 := infoA_in op hin
    have e2 := srt_is op hin
    have e3 := opd_at (srt op) e2.2
    rw [e1] at C1
    generalize OPS.getD op.toNat blank = x at *
    obtain ⟨xn, xa, xb, xc, xd, xf⟩ := x
    simp only [infV] at C1 e2
    obtain ⟨k, hk⟩ : ∃ k, srt op = k := ⟨_, rfl⟩
    rw [hk] at e2 e3
    obtain ⟨rfl, k5⟩ := e2
    obtain ⟨m, hm⟩ : ∃ m, mst k = m := ⟨_, rfl⟩
    rw [hm] at e3
    have HF : Hid ((0 ≤ a ∧ a ≤ m → F = 0) ∧ (¬ (0 ≤ a ∧ a ≤ m) → F = 81)) := hide (by
      rw [← hF]
      unfold faultI
      rw [if_pos hin, hk, hm]
      exact ⟨fun h => if_pos h, fun h => if_neg h⟩)
    have HO := hide e3.1
    clear e1 e3 hF hk hm hin
    go_enter Tryz.func94, Tryz.ntmps94
    go_wp2_with fail
    refine (unhide C1).mono ?_
    rintro e w2 ⟨rfl, B2⟩
    have H2 := hide B2
    clear B2 C1
    go_upto_region 4 with fail
    obtain ⟨w3, hw3⟩ : ∃ w3, w3 = w2.alloc (.cells #[.string xn, .int .i64 (k : Int), .int .i64 xb, .int .i64 xc, .int .i64 xd, .int .i64 xf] 98) := ⟨_, rfl⟩
    rw [← hw3]
    have A3 : w3.heap[w2.heap.size]? = some (.cells #[.string xn, .int .i64 (k : Int), .int .i64 xb, .int .i64 xc, .int .i64 xd, .int .i64 xf] 98 (0, 0)) := by rw [hw3]; exact heap_alloc_new w2 _
    have B3 : Below w1.heap.size w1 w3 := by rw [hw3]; exact (unhide H2).alloc (unhide H2).size _
    have X3 : Hid (Below w.heap.size w w3) := hide ((unhide H1).1.trans (B3.mono (unhide H1).1.size))
    have d1 : w3.cell? ⟨w2.heap.size, 1, none⟩ = some (.int .i64 (k : Int)) := by rw [cell_of_row w3 _ 1 _ _ (0, 0) A3]; rfl
    have A3' := (B3.block w.heap.size (by have := (unhide H1).2.2; omega)).trans (unhide H1).2.1
    have c1 : w3.cell? ⟨w.heap.size, 1, none⟩ = some (.int .i64 a) := by rw [cell_of_row w3 _ 1 _ _ (0, 0) A3']; rfl
    have t1 : w3.cell? ⟨0, k * 2 + 1, none⟩ = some (.int .i64 m) := (((unhide HT).below (unhide X3)).cell k _ (unhide HO)).2
    have k6 : (k : Int) < 6 := by omega
    clear hw3 A3 A3' B3 c0 hw1
    by_cases h0 : a < 0
    · have HE : Hid (F = 81) := hide ((unhide HF).2 (by omega))
      clear HF
      go_quiet (fail)
      go_wp2_with fail
      go_ret
      exact ⟨by rw [unhide HE]; rfl, below_drewN (unhide X3) _⟩
    · by_cases h1 : m < a
      · have HE : Hid (F = 81) := hide ((unhide HF).2 (by omega))
        clear HF
        go_quiet (fail)
        go_wp2_with fail
        go_ret
        exact ⟨by rw [unhide HE]; rfl, below_drewN (unhide X3) _⟩
      · have HE : Hid (F = 0) := hide ((unhide HF).1 (by omega))
        clear HF
        go_quiet (fail)
        go_wp2_with fail
        go_ret
        exact ⟨by rw [unhide HE]; rfl, below_drewN (unhide X3) _⟩
  · have e1 : infoA op = (blank, false) := by unfold infoA; rw [if_neg hin]
    rw [e1] at C1
    simp only [infV, blank] at C1
    have HE : Hid (F = 80) := hide (by rw [← hF]; unfold faultI; rw [if_neg hin])
    clear e1 hF hin
    go_enter Tryz.func94, Tryz.ntmps94
    go_wp2_with fail
    refine (unhide C1).mono ?_
    rintro e w2 ⟨rfl, B2⟩
    have H2 := hide B2
    clear B2 C1
    go_wp2_with fail
    go_ret
    refine ⟨by rw [unhide HE]; rfl, (unhide H1).1.trans (((unhide H2).mono (unhide H1).1.size).alloc ?_ _)⟩
    exact Nat.le_trans (unhide H1).1.size (unhide H2).size
end Go.Proofs.YtdlgehnplkeoiaaGreatDoor
