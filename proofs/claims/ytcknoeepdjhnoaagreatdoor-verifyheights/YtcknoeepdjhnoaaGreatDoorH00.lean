/-
  A fact put out of the walk's sight, and taken out again; no conditions.
  The bytes of a number as a list ('encF'), what a slice of bytes holds ('Row8'), and small facts on both; no conditions.
  The walks of num's writers: withRoom, layUint, fold, PutUint, PutInt: what each lays, in new memory; no conditions beyond the sizes that every reading has.
  The walks of PutUint, PutInt behind no bytes, and small facts on texts made of bytes; no conditions.
  The walk of num.PutText, and what append lays behind a row of the call's own; conditions: the lengths together are below 2^47.
  Append of bytes onto a row of the call's own where the lengths together pass 2^47 by no more than a million; no other conditions.
-/
import Derived.WalkKit
import Derived.WalkSpells
import Derived.OpenShut
import Derived.Test.YtcknoeepdjhnoaaGreatDoorRows
import Derived.Laws.Bits128
import Derived.Laws.BitsAllLaws
import Derived.Laws.BytesArg
import Derived.Deep.QuietTactic
import Derived.BigQuiet
import Derived.WalkSmall
import Derived.Lib.AppendStr
import Derived.Laws.AppendOwnNone
import Derived.Deep.AppendLies
import Derived.Maps.AppendAt
set_option linter.unusedVariables false
set_option linter.unusedSimpArgs false
namespace Go.Proofs.YtcknoeepdjhnoaaGreatDoor
open Go.RowKit
theorem hide {p : Prop} (h : p) : Hid p := h
theorem unhide {p : Prop} (h : Hid p) : p := h
end Go.Proofs.YtcknoeepdjhnoaaGreatDoor

namespace Go.Proofs.YtcknoeepdjhnoaaGreatDoor
open Go.RowKit

/-- the bytes of a number, in at most f + 1 groups -/
def encF : Nat → Int → List Int
  | 0, n => [n]
  | f + 1, n => if n < 128 then [n] else (n % 128 + 128) :: encF f (n / 128)

theorem encF_small (f : Nat) (n : Int) (h : n < 128) : encF f n = [n] := by
  cases f <;> simp [encF, h]

theorem encF_great (f : Nat) (n : Int) (h : ¬ n < 128) : encF (f + 1) n = (n % 128 + 128) :: encF f (n / 128) := by
  simp [encF, h]

theorem encF_len (f : Nat) (n : Int) : 1 ≤ (encF f n).length ∧ (encF f n).length ≤ f + 1 := by
  induction f generalizing n with
  | zero => simp [encF]
  | succ f ih =>
    simp only [encF]
    split
    · simp
    · have := ih (n / 128); simp; omega

/-- a slice of bytes whose elements are zs -/
structure Row8 (w : World) (ao : Option Addr) (len cap : Nat) (zs : List Int) : Prop where
  length : zs.length = len
  none : ao = none → len = 0 ∧ cap = 0
  cells : ∀ ad, ao = some ad → ∀ j u, (zs.map (Value.int .u8))[j]? = some u → w.cell? (ad.add j) = some u
  small : ∀ n ∈ zs, 0 ≤ n ∧ n ≤ 255
  le : len ≤ cap

theorem Row8.later {w w' : World} {ao : Option Addr} {len cap : Nat} {zs : List Int} (h : Row8 w ao len cap zs) (hb : Below w.heap.size w w') : Row8 w' ao len cap zs :=
  ⟨h.length, h.none, fun ad ha j u hj => cell_later hb (h.cells ad ha j u hj), h.small, h.le⟩

theorem Row8.at {w : World} {ao : Option Addr} {len cap : Nat} {zs : List Int} (h : Row8 w ao len cap zs) (hp : 0 < len) :
    ∃ b off, ao = some ⟨b, off, Option.none⟩ ∧ ∀ j, j < len → w.cell? ⟨b, off + j, Option.none⟩ = some (.int .u8 (zs.getD j 0)) := by
  have hz := h.length
  cases ao with
  | none => have := (h.none rfl).1; omega
  | some ad =>
    have hc : ∀ i, i < zs.length → w.cell? (ad.add i) = some (.int .u8 (zs.getD i 0)) := by
      intro i hi
      refine h.cells ad rfl i _ ?_
      simp [hi]
    obtain ⟨b, off, rfl, hcc⟩ := ints_at hc (by omega)
    exact ⟨b, off, rfl, fun j hj => hcc j (by omega)⟩

theorem Row8.block {w : World} {ao : Option Addr} {len cap : Nat} {zs : List Int} (h : Row8 w ao len cap zs) (ad : Addr) (ha : ao = some ad) (hp : 0 < len) : ad.block < w.heap.size := by
  obtain ⟨b, off, rfl, hc⟩ := h.at hp
  cases ha
  exact World.block_lt_of_cell? _ _ (hc 0 hp)

/-- a row that the call itself owns, as a slice of bytes -/
theorem Row8.own {w : World} {base g n cap : Nat} {zs : List Int} (h : w.ownsRow base 5 1 (.slice (some ⟨g, 0, Option.none⟩) n cap) n (zs.map (Value.int .u8))) (hs : ∀ n ∈ zs, 0 ≤ n ∧ n ≤ 255) :
    Row8 w (some ⟨g, 0, Option.none⟩) n cap zs := by
  have hl : zs.length = n := by simpa using h.1
  refine ⟨hl, (fun e => by cases e), fun ad ha j u hj => ?_, hs, ?_⟩
  · cases ha
    exact h.cells (g := g) rfl j u hj
  · rcases h.2 with ⟨e, _⟩ | ⟨g', cap', cur, e, _, _, hle, _⟩
    · cases e
    · cases e; exact hle

theorem encF_bytes (f : Nat) (n : Int) (h0 : 0 ≤ n) (h : n < 128 ^ f * 128) : ∀ c ∈ encF f n, 0 ≤ c ∧ c ≤ 255 := by
  induction f generalizing n with
  | zero => intro c hc; simp [encF] at hc; simp at h; omega
  | succ f ih =>
    intro c hc
    simp only [encF] at hc
    split at hc
    · simp at hc; omega
    · simp at hc
      rcases hc with rfl | hc
      · omega
      · refine ih (n / 128) (by omega) ?_ c hc
        have : n < 128 * (128 ^ f * 128) := by rw [Int.pow_succ] at h; omega
        omega

theorem encF9_bytes (n : Int) (h0 : 0 ≤ n) (h : n ≤ 18446744073709551615) : ∀ c ∈ encF 9 n, 0 ≤ c ∧ c ≤ 255 :=
  encF_bytes 9 n h0 (by have e : (128 : Int) ^ 9 * 128 = 1180591620717411303424 := by decide
                        omega)

end Go.Proofs.YtcknoeepdjhnoaaGreatDoor

namespace Go.Proofs.YtcknoeepdjhnoaaGreatDoor
open Go.RowKit

theorem info5 : (Tryz.prog.info? 5).map (fun i => (i.zero, i.size, i.bytes)) = some (some (.int .u8 0), 1, 1) := by kernel_rfl

set_option maxRecDepth 100000 in
set_option maxHeartbeats 400000 in
theorem withRoom_any (ao : Option Addr) (len cap r : Nat) (zs : List Int) (w : World) (hr : Row8 w ao len cap zs) (hm : len + r ≤ 281474976710656) :
    Calls Tryz.prog 62 #[.slice ao len cap, .int .i64 r] w fun e w' => e = .returned (.slice (some ⟨w.heap.size, 0, none⟩) len (len + r)) ∧
      w'.ownsRow w.heap.size 5 1 (.slice (some ⟨w.heap.size, 0, none⟩) len (len + r)) len (zs.map (Value.int .u8)) ∧ Below w.heap.size w w' := by
  obtain ⟨i0, hi, hz0, hz1, hz2⟩ := info_parts info5
  go_enter Tryz.func62, Tryz.ntmps62
  go_wp2_with (first
    | (at_make; refine wpList_make_own _ rfl _ _ 59 rfl w.heap.size 5 i0 (.int .u8 0) 1 Tryz.underlying59 hi hz0 hz1 _ _ _ (len + r) rfl rfl (by omega) (by rw [hz2]; omega) (by unfold maxLen; omega) (Nat.le_refl _) ?_; intro w1 hown1 hgrow1)
    | (at_builtin; refine wpList_append_fits_any _ rfl (.tmp 9) (.tmp 10) 59 rfl w.heap.size 5 i0 1 Tryz.underlying59 hi hz1 w.heap.size 0 (len + r) [] rfl hown1 ao len cap (zs.map (Value.int .u8)) rfl (by simp [hr.length]) hr.none (fun ad ha j u hj => hgrow1.cell (hr.cells ad ha j u hj) (by simp)) (ints_oneCell _ _) (by omega) ?_; intro w2 hown2 hgrow2; simp only [Nat.zero_add, List.nil_append] at hown2))
  go_ret
  exact ⟨by simp, hown2, ((Below.refl _ _).grown hgrow1 (Nat.le_refl _) (by simp)).grown hgrow2 hgrow1.size (by simp)⟩

theorem enc_step (j : Nat) (m : Int) (hj : j < 9) (hm : ¬ m < 128) : encF (9 - j) m = (m % 128 + 128) :: encF (9 - (j + 1)) (m / 128) := by
  have e : 9 - j = 9 - (j + 1) + 1 := by omega
  rw [e, encF_great _ _ hm]

theorem enc_last (j : Nat) (m : Int) (h : m < 128 ∨ j = 9) : encF (9 - j) m = [m] := by
  rcases h with h | rfl
  · exact encF_small _ _ h
  · rfl

theorem ret_val {a b : Value} (h : a = b) : Ending.returned a = .returned b := by rw [h]

set_option maxRecDepth 100000 in
set_option maxHeartbeats 800000 in
theorem layUint_any (g k cap : Nat) (n : Int) (xs : List Value) (w : World) (base : Nat) (h0 : 0 ≤ n) (h1 : n ≤ 18446744073709551615) (hb : base ≤ w.heap.size) (hg : base ≤ g)
    (hown : w.ownsRow base 5 1 (.slice (some ⟨g, 0, none⟩) k cap) k xs) (hroom : k + 10 ≤ cap) :
    Calls Tryz.prog 61 #[.slice (some ⟨g, 0, none⟩) k cap, .int .u64 n] w fun e w' => e = .returned (.slice (some ⟨g, 0, none⟩) (k + (encF 9 n).length) cap) ∧
      w'.ownsRow base 5 1 (.slice (some ⟨g, 0, none⟩) (k + (encF 9 n).length) cap) (k + (encF 9 n).length) (xs ++ (encF 9 n).map (Value.int .u8)) ∧ Below base w w' := by
  obtain ⟨i0, hi, hz0, hz1, hz2⟩ := info_parts info5
  go_enter Tryz.func61, Tryz.ntmps61
  go_wp2
  go_loopw [0, 1, 5] (fun v x i wr => ∃ (j : Nat) (m : Int) (ys : List Value), j ≤ 9 ∧ i = .int .i64 j ∧ x = .int .u64 m ∧ 0 ≤ m ∧ m ≤ 18446744073709551615 ∧ v = .slice (some ⟨g, 0, none⟩) (k + j) cap ∧
      wr.ownsRow base 5 1 (.slice (some ⟨g, 0, none⟩) (k + j) cap) (k + j) ys ∧ Hid (xs ++ (encF 9 n).map (Value.int .u8) = ys ++ (encF (9 - j) m).map (Value.int .u8)) ∧ Hid ((encF 9 n).length = j + (encF (9 - j) m).length) ∧ Hid (m < 128 ^ (9 - j) * 128) ∧ Below base w wr)
    (fun _ _ i _ => 9 - (intOf i).toNat)
  case atStart => exact ⟨0, n, xs, by omega, rfl, rfl, h0, h1, rfl, hown, hide rfl, hide (by simp), hide (by have e : (128 : Int) ^ 9 * 128 = 1180591620717411303424 := by decide
                                                                                                             show n < 128 ^ 9 * 128
                                                                                                             omega), Below.refl _ _⟩
  case round =>
    obtain ⟨j, m, ys, hj, rfl, rfl, m0, m1, rfl, hown', HE, HL, HM, hbel⟩ := hrel
    have hsz := hbel.size
    by_cases hj9 : j < 9
    · by_cases hm : m < 128
      · go_wp2_with (first | (at_builtin; refine wpList_append_fits _ rfl (.tmp 19) (.tmp 22) 59 rfl base 5 i0 1 Tryz.underlying59 hi hz1 g (k + j) cap ys rfl (hown'.alloc _) ⟨wr.heap.size, 0, none⟩ 1 1 [.int .u8 m] rfl rfl (cell_one_new _ _ _) (by intro u hu; simp at hu; subst hu; rfl) (by omega) ?_; intro w1 hown1 hgrow1))
        go_ret
        have e := enc_last j m (Or.inl hm)
        have eL : k + (encF 9 n).length = k + j + 1 := by rw [unhide HL, e]; simp; omega
        have eX : xs ++ (encF 9 n).map (Value.int .u8) = ys ++ [.int .u8 m] := by rw [unhide HE, e]; rfl
        rw [eL, eX]
        exact ⟨rfl, hown1, (hbel.alloc (by omega) _).grown hgrow1 (by simp; omega) (by simp; omega)⟩
      · have hor := u8_or128_right (m % 128) (by omega) (by omega)
        go_wp2_with (first | (at_builtin; refine wpList_append_fits _ rfl (.tmp 9) (.tmp 14) 59 rfl base 5 i0 1 Tryz.underlying59 hi hz1 g (k + j) cap ys rfl (hown'.alloc _) ⟨wr.heap.size, 0, none⟩ 1 1 [.int .u8 (m % 128 + 128)] rfl rfl (cell_one_new _ _ _) (by intro u hu; simp at hu; subst hu; rfl) (by omega) ?_; intro w1 hown1 hgrow1))
        go_roundw
        case rel =>
          have e := enc_step j m hj9 hm
          refine ⟨j + 1, m / 128, ys ++ [.int .u8 (m % 128 + 128)], by omega, by go_num, by go_num, by omega, by omega, rfl, hown1, hide ?_, hide ?_, hide ?_, (hbel.alloc (by omega) _).grown hgrow1 (by simp; omega) (by simp; omega)⟩
          · rw [unhide HE, e]; simp
          · rw [unhide HL, e]; simp; omega
          · have hm' := unhide HM
            have e9 : 9 - j = 9 - (j + 1) + 1 := by omega
            rw [e9, Int.pow_succ] at hm'
            omega
        case measure => simp [intOf]; omega
    · have hj' : j = 9 := by omega
      subst hj'
      have hm : m < 128 := by have := unhide HM; simpa using this
      go_wp2_with (first | (at_builtin; refine wpList_append_fits _ rfl (.tmp 19) (.tmp 22) 59 rfl base 5 i0 1 Tryz.underlying59 hi hz1 g (k + 9) cap ys rfl (hown'.alloc _) ⟨wr.heap.size, 0, none⟩ 1 1 [.int .u8 m] rfl rfl (cell_one_new _ _ _) (by intro u hu; simp at hu; subst hu; rfl) (by omega) ?_; intro w1 hown1 hgrow1))
      go_ret
      have e := enc_last 9 m (Or.inr rfl)
      have eL : k + (encF 9 n).length = k + 9 + 1 := by rw [unhide HL, e]; simp
      have eX : xs ++ (encF 9 n).map (Value.int .u8) = ys ++ [.int .u8 m] := by rw [unhide HE, e]; rfl
      rw [eL, eX]
      exact ⟨rfl, hown1, (hbel.alloc (by omega) _).grown hgrow1 (by simp; omega) (by simp; omega)⟩

set_option maxRecDepth 100000 in
set_option maxHeartbeats 400000 in
theorem putUint_any (ao : Option Addr) (len cap : Nat) (n : Int) (zs : List Int) (w : World) (hr : Row8 w ao len cap zs) (hm : len + 10 ≤ 281474976710656) (h0 : 0 ≤ n) (h1 : n ≤ 18446744073709551615) :
    Calls Tryz.prog 33 #[.slice ao len cap, .int .u64 n] w fun e w' => e = .returned (.slice (some ⟨w.heap.size, 0, none⟩) (len + (encF 9 n).length) (len + 10)) ∧
      w'.ownsRow w.heap.size 5 1 (.slice (some ⟨w.heap.size, 0, none⟩) (len + (encF 9 n).length) (len + 10)) (len + (encF 9 n).length) ((zs ++ encF 9 n).map (Value.int .u8)) ∧ Below w.heap.size w w' := by
  go_enter Tryz.func33, Tryz.ntmps33
  go_wp2_with fail
  refine (withRoom_any ao len cap 10 zs w hr hm).mono ?_
  rintro e w1 ⟨rfl, hown, hb1⟩
  go_wp2_with fail
  have hs := hb1.size
  refine (layUint_any w.heap.size len (len + 10) n (zs.map (Value.int .u8)) w1 w.heap.size h0 h1 hs (Nat.le_refl _) hown (Nat.le_refl _)).mono ?_
  rintro e w2 ⟨rfl, hown2, hb2⟩
  rw [← List.map_append] at hown2
  go_wp2_with fail
  go_ret
  exact ⟨rfl, hown2, hb1.trans hb2⟩

theorem not_i64 (n : Int) (h0 : -9223372036854775808 ≤ n) (h1 : n ≤ 9223372036854775807) : bits .xor .i64 (-1) n = -n - 1 := by
  show IntKind.i64.wrap ((BitVec.ofInt 64 (-1) ^^^ BitVec.ofInt 64 n).toNat : Int) = _
  have e : BitVec.ofInt 64 (-1) = BitVec.allOnes 64 := by decide
  rw [e, BitVec.allOnes_xor, BitVec.toNat_not, BitVec.toNat_ofInt, IntKind.wrap_i64]
  omega

/-- numbers with a sign, taken in turn -/
def foldI (n : Int) : Int := if n < 0 then -2 * n - 1 else 2 * n

theorem foldI_neg (n : Int) (h : n < 0) : foldI n = -2 * n - 1 := by simp [foldI, h]
theorem foldI_pos (n : Int) (h : ¬ n < 0) : foldI n = 2 * n := by rw [foldI, if_neg h]

theorem ret_int {k : IntKind} {a b : Int} (h : a = b) : Ending.returned (.int k a) = .returned (.int k b) := by rw [h]

set_option maxRecDepth 100000 in
set_option maxHeartbeats 400000 in
theorem fold_any (n : Int) (w : World) (h0 : -9223372036854775808 ≤ n) (h1 : n ≤ 9223372036854775807) :
    Calls Tryz.prog 124 #[.int .i64 n] w fun e w' => e = .returned (.int .u64 (foldI n)) ∧ w' = w := by
  by_cases hn : n < 0
  · have hx := not_i64 n h0 h1
    go_enter Tryz.func124, Tryz.ntmps124
    go_wp2
    go_ret
    exact ⟨ret_int (by rw [foldI_neg n hn]; simp only [IntKind.wrap_u64]; omega), rfl⟩
  · go_enter Tryz.func124, Tryz.ntmps124
    go_wp2
    go_ret
    exact ⟨ret_int (by rw [foldI_pos n (by omega)]), rfl⟩

set_option maxRecDepth 100000 in
set_option maxHeartbeats 400000 in
theorem putInt_any (ao : Option Addr) (len cap : Nat) (n : Int) (zs : List Int) (w : World) (hr : Row8 w ao len cap zs) (hm : len + 10 ≤ 281474976710656) (h0 : -9223372036854775808 ≤ n) (h1 : n ≤ 9223372036854775807) :
    Calls Tryz.prog 117 #[.slice ao len cap, .int .i64 n] w fun e w' => e = .returned (.slice (some ⟨w.heap.size, 0, none⟩) (len + (encF 9 (foldI n)).length) (len + 10)) ∧
      w'.ownsRow w.heap.size 5 1 (.slice (some ⟨w.heap.size, 0, none⟩) (len + (encF 9 (foldI n)).length) (len + 10)) (len + (encF 9 (foldI n)).length) ((zs ++ encF 9 (foldI n)).map (Value.int .u8)) ∧ Below w.heap.size w w' := by
  have f0 : 0 ≤ foldI n := by unfold foldI; split <;> omega
  have f1 : foldI n ≤ 18446744073709551615 := by unfold foldI; split <;> omega
  go_enter Tryz.func117, Tryz.ntmps117
  go_wp2_with fail
  refine (fold_any n _ h0 h1).mono ?_
  rintro e w1 ⟨rfl, rfl⟩
  go_wp2_with fail
  refine (putUint_any ao len cap (foldI n) zs _ hr hm f0 f1).mono ?_
  rintro e w2 ⟨rfl, hown2, hb2⟩
  go_wp2_with fail
  go_ret
  exact ⟨rfl, hown2, hb2⟩
end Go.Proofs.YtcknoeepdjhnoaaGreatDoor

namespace Go.Proofs.YtcknoeepdjhnoaaGreatDoor
open Go.RowKit

theorem nilRow (w : World) : Row8 w none 0 0 [] := ⟨rfl, fun _ => ⟨rfl, rfl⟩, (fun ad h => by cases h), (fun n h => by cases h), Nat.le_refl _⟩

theorem putUint_nil (n : Int) (w : World) (h0 : 0 ≤ n) (h1 : n ≤ 18446744073709551615) :
    Calls Tryz.prog 33 #[.slice none 0 0, .int .u64 n] w fun e w' => e = .returned (.slice (some ⟨w.heap.size, 0, none⟩) (encF 9 n).length 10) ∧
      Row8 w' (some ⟨w.heap.size, 0, none⟩) (encF 9 n).length 10 (encF 9 n) ∧ Below w.heap.size w w' := by
  refine (putUint_any none 0 0 n [] w (nilRow w) (by decide) h0 h1).mono ?_
  rintro e w' ⟨rfl, hown, hb⟩
  simp only [Nat.zero_add, List.nil_append] at *
  exact ⟨trivial, Row8.own hown (encF9_bytes n h0 h1), hb⟩

theorem putInt_nil (n : Int) (w : World) (h0 : -9223372036854775808 ≤ n) (h1 : n ≤ 9223372036854775807) :
    Calls Tryz.prog 117 #[.slice none 0 0, .int .i64 n] w fun e w' => e = .returned (.slice (some ⟨w.heap.size, 0, none⟩) (encF 9 (foldI n)).length 10) ∧
      Row8 w' (some ⟨w.heap.size, 0, none⟩) (encF 9 (foldI n)).length 10 (encF 9 (foldI n)) ∧ Below w.heap.size w w' := by
  have f0 : 0 ≤ foldI n := by unfold foldI; split <;> omega
  have f1 : foldI n ≤ 18446744073709551615 := by unfold foldI; split <;> omega
  refine (putInt_any none 0 0 n [] w (nilRow w) (by decide) h0 h1).mono ?_
  rintro e w' ⟨rfl, hown, hb⟩
  simp only [Nat.zero_add, List.nil_append] at *
  exact ⟨trivial, Row8.own hown (encF9_bytes _ f0 f1), hb⟩

/-- string(b[i:j]) -/
theorem conv_row {w : World} {b off : Nat} {len : Nat} {zs : List Int} (hz : zs.length = len) (hc : ∀ j, j < len → w.cell? ⟨b, off + j, none⟩ = some (.int .u8 (zs.getD j 0))) (i n cap : Nat) (hi : i + n ≤ len) :
    ∀ q, Sem.run Tryz.prog (convert 59 9 (.slice (some ⟨b, off + i, none⟩) n cap)) (w.drewN q) = .ok (.string (strOfNums ((zs.drop i).take n))) (w.drewN q) := by
  intro q
  refine run_convert_bytes_arg (P := Tryz.prog) (w.drewN q) 59 5 Tryz.underlying59 Tryz.underlying5 b (off + i) n cap _ (by simp; omega) ?_ 9 Tryz.underlying9
  intro j hj
  have h := hc (i + j) (by omega)
  rw [← Nat.add_assoc] at h
  have e : ((zs.drop i).take n).getD j 0 = zs.getD (i + j) 0 := by simp [List.getD, List.getElem?_drop, hj]
  rw [e]
  simpa using h

end Go.Proofs.YtcknoeepdjhnoaaGreatDoor

namespace Go.Proofs.YtcknoeepdjhnoaaGreatDoor
open Go.RowKit

/-- a text's bytes as numbers -/
def nums (s : ByteArray) : List Int := s.data.toList.map fun b => (b.toNat : Int)

theorem nums_len (s : ByteArray) : (nums s).length = s.size := by
  unfold nums; rw [List.length_map, Array.length_toList]; rfl

theorem nums_cells (s : ByteArray) : Lib.strCells s = (nums s).map (Value.int .u8) := by
  unfold nums Lib.strCells; rw [List.map_map]; rfl

theorem nums_small (s : ByteArray) : ∀ n ∈ nums s, 0 ≤ n ∧ n ≤ 255 := by
  intro n hn
  unfold nums at hn
  obtain ⟨b, _, rfl⟩ := List.mem_map.1 hn
  have := b.toNat_lt
  omega

theorem own_form {w : World} {base : Nat} {v : Value} {n : Nat} {xs : List Value} (h : w.ownsRow base 5 1 v n xs) (hn : 0 < n) : ∃ g cap, v = .slice (some ⟨g, 0, none⟩) n cap ∧ base ≤ g := by
  rcases h.2 with ⟨_, e⟩ | ⟨g, cap, cur, e, hb, _⟩
  · omega
  · exact ⟨g, cap, e, hb⟩

theorem withRoom_int (ao : Option Addr) (len cap r : Nat) (R : Int) (hR : R = (r : Int)) (zs : List Int) (w : World) (hr : Row8 w ao len cap zs) (hm : len + r ≤ 281474976710656) :
    Calls Tryz.prog 62 #[.slice ao len cap, .int .i64 R] w fun e w' => e = .returned (.slice (some ⟨w.heap.size, 0, none⟩) len (len + r)) ∧
      w'.ownsRow w.heap.size 5 1 (.slice (some ⟨w.heap.size, 0, none⟩) len (len + r)) len (zs.map (Value.int .u8)) ∧ Below w.heap.size w w' := by
  subst hR
  exact withRoom_any ao len cap r zs w hr hm

/-- append of a text's bytes, onto a row of the call's own, the new value written out -/
theorem app_string {w : World} {ops : Array Oper} {rest : List Oper} {o : Oper} {a : Act} {Q : Exit → Act → World → Prop} (hgd : o.guard = none) (sl x : Operand)
    (ho : o.op = .call { callee := .builtin .append, args := #[sl, x], argTypes := #[59, 9] })
    (base g n cap : Nat) (xs : List Value) (hs : a.eval sl = .slice (some ⟨g, 0, none⟩) n cap) (hown : w.ownsRow base 5 1 (.slice (some ⟨g, 0, none⟩) n cap) n xs) (hn : 0 < n) (s : ByteArray) (hx : a.eval x = .string s)
    (hbytes : n + s.size ≤ 140737488355328) (hbase : base ≤ w.heap.size)
    (h : ∀ g' cap' w', base ≤ g' → w'.ownsRow base 5 1 (.slice (some ⟨g', 0, none⟩) (n + s.size) cap') (n + s.size) (xs ++ (nums s).map (Value.int .u8)) → w.grownBy w' (some g) → wpList Tryz.prog ops Q rest (a.put o.dst (.slice (some ⟨g', 0, none⟩) (n + s.size) cap')) w') :
    wpList Tryz.prog ops Q (o :: rest) a w := by
  obtain ⟨i0, hi, hz0, hz1, hz2⟩ := info_parts info5
  refine Lib.wpList_append_own_string w hgd sl x 59 9 ho base 5 i0 Tryz.underlying59 Tryz.underlying9 hi hz0 hz1 hz2 _ n xs hs hown s hx (by unfold maxLen; omega) hbytes hbase ?_
  intro v' w' hown' hgrow _
  obtain ⟨g', cap', hv, hb⟩ := own_form hown' (by omega)
  rw [nums_cells] at hown'
  rw [hv] at hown' ⊢
  exact h g' cap' w' hb hown' hgrow

set_option maxRecDepth 100000 in
set_option maxHeartbeats 400000 in
theorem putText_any (ao : Option Addr) (len cap : Nat) (s : ByteArray) (zs : List Int) (w : World) (hr : Row8 w ao len cap zs) (hm : len + 10 + s.size ≤ 140737488355328) :
    Calls Tryz.prog 35 #[.slice ao len cap, .string s] w fun e w' => ∃ g c : Nat, w.heap.size ≤ g ∧ e = .returned (.slice (some ⟨g, 0, none⟩) (len + (encF 9 s.size).length + s.size) c) ∧
      w'.ownsRow w.heap.size 5 1 (.slice (some ⟨g, 0, none⟩) (len + (encF 9 s.size).length + s.size) c) (len + (encF 9 s.size).length + s.size) ((zs ++ encF 9 s.size ++ nums s).map (Value.int .u8)) ∧ Below w.heap.size w w' := by
  have hL := encF_len 9 (s.size : Int)
  go_enter Tryz.func35, Tryz.ntmps35
  go_wp2_with fail
  refine (withRoom_int ao len cap (10 + s.size) _ (by omega) zs w hr (by omega)).mono ?_
  rintro e w1 ⟨rfl, hown, hb1⟩
  have hs1 := hb1.size
  go_wp2_with fail
  refine (layUint_any w.heap.size len (len + (10 + s.size)) (s.size : Int) (zs.map (Value.int .u8)) w1 w.heap.size (by omega) (by omega) hs1 (Nat.le_refl _) hown (by omega)).mono ?_
  rintro e w2 ⟨rfl, hown2, hb2⟩
  rw [← List.map_append] at hown2
  have hb12 := hb1.trans hb2
  have hs2 := hb12.size
  clear hown hb1 hb2 hr
  go_wp2_with (first | (at_builtin; refine app_string rfl (.tmp 13) (.tmp 14) rfl w.heap.size w.heap.size (len + (encF 9 (s.size : Int)).length) (len + (10 + s.size)) _ rfl hown2 (by omega) s rfl (by omega) hs2 ?_; intro g' c' w3 hg3 hown3 hgrow3))
  rw [← List.map_append] at hown3
  go_ret
  exact ⟨g', c', hg3, rfl, hown3, hb12.grown hgrow3 hs2 (by simp)⟩
end Go.Proofs.YtcknoeepdjhnoaaGreatDoor

namespace Go.Proofs.YtcknoeepdjhnoaaGreatDoor
open Go.RowKit

theorem next_far {need old : Nat} (h : old < need) : Builtin.nextslicecap need old ≤ need + need / 4 + 512 := by
  unfold Builtin.nextslicecap
  split
  · omega
  · split
    · omega
    · rw [growBy_four]
      repeat' split
      all_goals omega

theorem zero8 (k : Nat) : (Builtin.zeroCells (Value.int .u8 0).cells k).size = k := by
  rw [size_zeroCells]
  show k * 1 = k
  omega

/-- a row that was just made -/
theorem made8 (w : World) (base N cap : Nat) (A : Array Value) (ys : List Value) (hA : A.toList = ys) (hN : ys.length = N) (hge : N ≤ cap) (hcm : cap ≤ maxLen) (hbase : base ≤ w.heap.size) :
    (w.drew.alloc (.cells (A ++ Builtin.zeroCells (Value.int .u8 0).cells (cap - N)) 5)).ownsRow base 5 1 (.slice (some ⟨w.heap.size, 0, none⟩) N cap) N ys := by
  subst hA
  refine ⟨by omega, .inr ⟨w.heap.size, cap, _, rfl, hbase, heap_alloc_new w.drew _, hge, hcm, ?_, ?_⟩⟩
  · rw [Array.size_append, zero8]
    rw [Array.length_toList] at hN
    omega
  · rw [Array.toList_append, Nat.mul_one, ← hN]
    exact List.take_left

theorem made_grown (w : World) (A : Array Value) (t : TypeId) (row : Option Nat) : w.grownBy (w.drew.alloc (.cells A t)) row := ⟨rfl, rfl, rfl, by simp, fun k hk _ => heap_alloc_old w.drew _ hk⟩

theorem run_own8 (w : World) (ty : TypeId) (base n : Nat) (v : Value) (xs : List Value) (hown : w.ownsRow base 5 1 v n xs) (ad : Addr) (m c : Nat) (rs : List Int) (hl : rs.length = m) (hc : ∀ j u, (rs.map (Value.int .u8))[j]? = some u → w.cell? (ad.add j) = some u) (hbytes : n + m ≤ 140737489403904) (hbase : base ≤ w.heap.size) :
    ∃ v' w', (Builtin.append_ #[59, 59] ty #[v, .slice (some ad) m c]).run Tryz.prog w = .ok v' w' ∧ w'.ownsRow base 5 1 v' (n + m) (xs ++ rs.map (Value.int .u8)) ∧ w.grownBy w' v.ownBlock ∧ (v'.ownBlock = v.ownBlock ∨ v'.ownBlock = some w.heap.size) := by
  obtain ⟨i0, hi, hz0, hz1, hz2⟩ := info_parts info5
  have hrl : (rs.map (Value.int .u8)).length = m := by simp [hl]
  by_cases hs : n + m ≤ 140737488355328
  · obtain ⟨v', w', h1, h2, h3, _, h5⟩ := run_append_own_at (P := Tryz.prog) w base 59 ty 5 i0 (.int .u8 0) 1 1 Tryz.underlying59 hi hz0 hz1 hz2 rfl (by decide) v n _ hown ad m c (rs.map (Value.int .u8)) (by simp [hl]) hc (ints_oneCell _ _) (by unfold maxLen; omega) (by omega) hbase
    exact ⟨v', w', h1, h2, h3, h5⟩
  · have hxl := hown.1
    rw [Nat.mul_one] at hxl
    rcases hown.2 with ⟨rfl, rfl⟩ | ⟨g, cap, cur, rfl, hbg, hg, hnc, hcm, hcs, htake⟩
    · have hr := run_append_nil (P := Tryz.prog) w 59 ty 5 i0 (.int .u8 0) Tryz.underlying59 hi hz0 ad m c (rs.map (Value.int .u8)) (by rw [hz1, hrl, Nat.mul_one]) hc (by omega) (by omega) (by rw [hz2]; omega)
      obtain rfl : xs = [] := List.eq_nil_of_length_eq_zero hxl
      simp only [Nat.zero_add, List.nil_append]
      exact ⟨_, _, hr, made8 w base m _ _ _ rfl hrl (grownCap_ge w m 0 5) (grownCap_le_maxLen w m 0 5 (by unfold maxLen; omega)) hbase, made_grown _ _ _ _, Or.inr rfl⟩
    · by_cases hroom : n + m ≤ cap
      · have hr := run_append_room (P := Tryz.prog) w 59 ty 5 i0 Tryz.underlying59 hi g n cap cur hg ad m c (rs.map (Value.int .u8)) (by rw [hz1, hrl, Nat.mul_one]) hc (ints_oneCell _ _) hroom (by rw [hz1, hrl]; omega)
        rw [hz1, Nat.mul_one, hrl] at hr
        rw [Nat.mul_one] at htake
        refine ⟨_, _, hr, ⟨by rw [List.length_append, hxl, hrl, Nat.mul_one], .inr ⟨g, cap, _, rfl, hbg, setRow_heap w g cur _ 5 _ hg, hroom, hcm, ?_, ?_⟩⟩, ⟨rfl, rfl, rfl, by simp, fun k _ hk => setRow_other w g k _ (fun e => hk (by simp [Value.ownBlock, e]))⟩, Or.inl rfl⟩
        · have hcl : cur.toList.length = cur.size := Array.length_toList
          simp only [List.size_toArray, List.length_append, List.length_take, List.length_drop, hrl]
          omega
        · rw [htake, Nat.mul_one]
          exact List.take_left' (by rw [List.length_append, hxl, hrl])
      · have hr := run_append_grow (P := Tryz.prog) w 59 ty 5 i0 (.int .u8 0) Tryz.underlying59 hi hz0 ⟨g, 0, none⟩ n cap xs (by rw [hz1, hxl, Nat.mul_one]) (hown.cells (g := g) rfl) ad m c (rs.map (Value.int .u8)) (by rw [hz1, hrl, Nat.mul_one]) hc (by omega) (by omega) (by have := next_far (need := n + m) (old := cap) (by omega); rw [hz2]; omega)
        exact ⟨_, _, hr, made8 w base (n + m) _ _ _ (by simp) (by rw [List.length_append, hxl, hrl]) (grownCap_ge w (n + m) cap 5) (grownCap_le_maxLen w (n + m) cap 5 (by unfold maxLen; omega)) hbase, made_grown _ _ _ _, Or.inr rfl⟩

open Lib in
theorem run_str8 (w : World) (ty : TypeId) (base g n cap : Nat) (xs : List Value) (hown : w.ownsRow base 5 1 (.slice (some ⟨g, 0, none⟩) n cap) n xs) (hn : 0 < n) (s : ByteArray) (hbytes : n + s.size ≤ 140737489403904) (hbase : base ≤ w.heap.size) :
    ∃ v' w', (Builtin.append_ #[59, 9] ty #[.slice (some ⟨g, 0, none⟩) n cap, .string s]).run Tryz.prog w = .ok v' w' ∧ w'.ownsRow base 5 1 v' (n + s.size) (xs ++ strCells s) ∧ w.grownBy w' (some g) := by
  obtain ⟨i0, hi, hz0, hz1, hz2⟩ := info_parts info5
  by_cases hs : n + s.size ≤ 140737488355328
  · obtain ⟨v', w', h1, h2, h3, _⟩ := run_append_own_string (P := Tryz.prog) w base 59 9 ty 5 i0 Tryz.underlying59 Tryz.underlying9 hi hz0 hz1 hz2 _ n xs hown s (by unfold maxLen; omega) hs hbase
    exact ⟨v', w', h1, h2, h3⟩
  · have hxl := hown.1
    rw [Nat.mul_one] at hxl
    have hsl := strCells_length s
    rcases hown.2 with ⟨_, h0⟩ | ⟨g', cap', cur, he, hbg, hg, hnc, hcm, hcs, htake⟩
    · omega
    simp only [Value.slice.injEq, Option.some.injEq, Addr.mk.injEq, true_and, and_true] at he
    obtain ⟨rfl, rfl⟩ := he
    rw [Nat.mul_one] at htake
    by_cases hroom : n + s.size ≤ cap
    · have hr := run_append_room_string (P := Tryz.prog) w 59 9 ty 5 i0 Tryz.underlying59 Tryz.underlying9 hi hz1 g n cap cur hg s hroom (by omega)
      refine ⟨_, _, hr, ⟨by rw [List.length_append, hxl, hsl, Nat.mul_one], .inr ⟨g, cap, _, rfl, hbg, setRow_heap w g cur _ 5 _ hg, hroom, hcm, ?_, ?_⟩⟩, ⟨rfl, rfl, rfl, by simp, fun k _ hk => setRow_other w g k _ (fun e => hk (by simp [e]))⟩⟩
      · have hcl : cur.toList.length = cur.size := Array.length_toList
        simp only [List.size_toArray, List.length_append, List.length_take, List.length_drop, hsl]
        omega
      · rw [htake, Nat.mul_one]
        exact List.take_left' (by rw [List.length_append, hxl, hsl])
    · have hr := run_append_grow_string (P := Tryz.prog) w 59 9 ty 5 i0 (.int .u8 0) Tryz.underlying59 Tryz.underlying9 hi hz0 ⟨g, 0, none⟩ n cap xs (by rw [hz1, hxl, Nat.mul_one]) (hown.cells (g := g) rfl) s (by omega) (by omega) (by have := next_far (need := n + s.size) (old := cap) (by omega); rw [hz2]; omega)
      exact ⟨_, _, hr, made8 w base (n + s.size) _ _ _ (by simp) (by rw [List.length_append, hxl, hsl]) (grownCap_ge w (n + s.size) cap 5) (grownCap_le_maxLen w (n + s.size) cap 5 (by unfold maxLen; omega)) hbase, made_grown _ _ _ _⟩

/-- append(b, s...) onto a row of the call's own -/
theorem app_string8 {w : World} {ops : Array Oper} {rest : List Oper} {o : Oper} {a : Act} {Q : Exit → Act → World → Prop} (hgd : o.guard = none) (sl x : Operand)
    (ho : o.op = .call { callee := .builtin .append, args := #[sl, x], argTypes := #[59, 9] })
    (base g n cap : Nat) (xs : List Value) (hs : a.eval sl = .slice (some ⟨g, 0, none⟩) n cap) (hown : w.ownsRow base 5 1 (.slice (some ⟨g, 0, none⟩) n cap) n xs) (hn : 0 < n) (s : ByteArray) (hx : a.eval x = .string s)
    (hbytes : n + s.size ≤ 140737489403904) (hbase : base ≤ w.heap.size)
    (h : ∀ g' cap' w', base ≤ g' → w'.ownsRow base 5 1 (.slice (some ⟨g', 0, none⟩) (n + s.size) cap') (n + s.size) (xs ++ (nums s).map (Value.int .u8)) → w.grownBy w' (some g) → wpList Tryz.prog ops Q rest (a.put o.dst (.slice (some ⟨g', 0, none⟩) (n + s.size) cap')) w') :
    wpList Tryz.prog ops Q (o :: rest) a w := by
  refine wpList_plain hgd fun K hK => ?_
  obtain ⟨v', w', hrun, hown', hgrow⟩ := run_str8 w o.type base g n cap xs hown hn s hbytes hbase
  obtain ⟨g', cap', hv, hb⟩ := own_form hown' (by omega)
  rw [nums_cells] at hown'
  subst hv
  unfold Oper.wp
  simp only [execOp, ho, resolve, invoke, builtin, Sem.run_bind, Sem.run_pure, Result.andThen_ok, List.map_toArray, List.map_cons, List.map_nil, hs, hx, hrun]
  exact hK _ _ (h g' cap' w' hb hown' hgrow)
end Go.Proofs.YtcknoeepdjhnoaaGreatDoor
