/-
  The walk of the law NumOneForm: for any bytes and any place it answers true; no conditions.
-/
import Derived.Test.YtojhfoojodmmaaaReads2
import Derived.Deep.RegionHeld3
import Derived.Deep.DrawnRows
namespace Go.Proofs.Ytojhfoojodmmaaa
open Go.RowKit
attribute [local go_sem ↓] Go.wp_at_zero Go.wp_at_succ

set_option maxHeartbeats 1000000 in
theorem one_err (ao : Option Addr) (len cap : Nat) (zs : List Int) (at_ : Int) (w : World) (hr : Row8 w ao len cap zs) (hm : cap ≤ maxLen) (h : (uintAt zs at_).2.2 ≠ 0) :
    Calls Try.prog 6 #[.slice ao len cap, .int .i64 at_] w fun e w' => e = .returned (.bool true) ∧ Below w.heap.size w w' := by
  have he := uint_err zs at_ h
  go_enter Try.func6, Try.ntmps6
  go_wp2_with fail
  refine (shown_any _).mono ?_
  rintro e v1 ⟨rfl, hb1⟩
  have C1 := hide (uint_any _ _ _ at_ zs v1 (hr.later hb1) hm)
  generalize uintAt zs at_ = U at *
  obtain ⟨u1, u2, u3⟩ := U
  dsimp only at *
  obtain ⟨rfl, rfl⟩ := he
  have hne : (u3 != 0) = true := by simpa using h
  clear h hr
  go_wp2_with fail
  refine (unhide C1).mono ?_
  rintro e v3 ⟨rfl, rfl⟩
  go_wp2_with fail
  go_ret
  exact ⟨rfl, hb1⟩

/-- the text of a part of the bytes, in any later world -/
theorem conv_later {v w' : World} {b off : Nat} {len : Nat} {zs : List Int} (hz : zs.length = len) (hc : ∀ j, j < len → v.cell? ⟨b, off + j, none⟩ = some (.int .u8 (zs.getD j 0))) (i n cap : Nat) (hi : i + n ≤ len) (hb : Below v.heap.size v w') :
    Sem.run Try.prog (convert 22 9 (.slice (some ⟨b, off + i, none⟩) n cap)) w' = .ok (.string (strOfNums ((zs.drop i).take n))) w' :=
  conv_row (w := w') hz (fun j hj => cell_later hb (hc j hj)) i n cap hi 0

theorem conv_new {w' : World} {g len cap : Nat} {zs : List Int} (hr : Row8 w' (some ⟨g, 0, none⟩) len cap zs) (hp : 0 < len) :
    Sem.run Try.prog (convert 22 9 (.slice (some ⟨g, 0, none⟩) len cap)) w' = .ok (.string (strOfNums zs)) w' := by
  obtain ⟨b, o, e, hc⟩ := hr.at hp
  cases e
  have := conv_row (w := w') hr.length hc 0 len cap (by omega) 0
  rw [List.drop_zero, List.take_of_length_le (by rw [hr.length]; exact Nat.le_refl _)] at this
  exact this

/-- what PutUint lays behind no bytes, as a text -/
theorem putUint_text (n : Int) (T : ByteArray) (w : World) (h0 : 0 ≤ n) (h1 : n ≤ 18446744073709551615) (hT : Hid (strOfNums (encF 9 n) = T)) :
    Calls Try.prog 11 #[.slice none 0 0, .int .u64 n] w fun e w' => ∃ g l : Nat, e = .returned (.slice (some ⟨g, 0, none⟩) l 10) ∧
      Sem.run Try.prog (convert 22 9 (.slice (some ⟨g, 0, none⟩) l 10)) w' = .ok (.string T) w' ∧ Below w.heap.size w w' := by
  refine (putUint_nil n w h0 h1).mono ?_
  rintro e w' ⟨rfl, r, hb⟩
  refine ⟨_, _, rfl, ?_, hb⟩
  rw [← unhide hT]
  exact conv_new r (encF_len 9 n).1

theorem putInt_text (m : Int) (T : ByteArray) (w : World) (h0 : -9223372036854775808 ≤ m) (h1 : m ≤ 9223372036854775807) (hT : Hid (strOfNums (encF 9 (foldI m)) = T)) :
    Calls Try.prog 12 #[.slice none 0 0, .int .i64 m] w fun e w' => ∃ g l : Nat, e = .returned (.slice (some ⟨g, 0, none⟩) l 10) ∧
      Sem.run Try.prog (convert 22 9 (.slice (some ⟨g, 0, none⟩) l 10)) w' = .ok (.string T) w' ∧ Below w.heap.size w w' := by
  refine (putInt_nil m w h0 h1).mono ?_
  rintro e w' ⟨rfl, r, hb⟩
  refine ⟨_, _, rfl, ?_, hb⟩
  rw [← unhide hT]
  exact conv_new r (encF_len 9 _).1

theorem keepS {v w1 w2 : World} {P : World → Prop} (H : Hid (∀ w', Below v.heap.size v w' → P w')) (h : Below v.heap.size v w1) (hb : Below w1.heap.size w1 w2) : Below v.heap.size v w2 ∧ P w2 :=
  ⟨h.trans (hb.mono h.size), unhide H _ (h.trans (hb.mono h.size))⟩

set_option maxRecDepth 100000 in
set_option maxHeartbeats 4000000 in
theorem one_ok (ao : Option Addr) (len cap : Nat) (zs : List Int) (at_ : Int) (w : World) (hr : Row8 w ao len cap zs) (hm : cap ≤ 9223372036854775807) (h : (uintAt zs at_).2.2 = 0) :
    Calls Try.prog 6 #[.slice ao len cap, .int .i64 at_] w fun e w' => e = .returned (.bool true) ∧ Below w.heap.size w w' := by
  have h1 := uint_max zs at_ hr.small
  obtain ⟨a, k, rfl, k1, k10, hak, hnx, henc, h0⟩ := uint_form zs at_ hr.small h
  have hz := hr.length
  have hle := hr.le
  rw [hz] at hak
  obtain ⟨b, off, rfl, hc⟩ := hr.at (by omega)
  go_enter Try.func6, Try.ntmps6
  go_wp2_with fail
  refine (shown_any _).mono ?_
  rintro e v ⟨rfl, hb1⟩
  have HB := hide hb1
  have C1 := hide (uint_any _ _ _ (a : Int) zs v (hr.later hb1) hm)
  have C2 := hide (int_any _ _ _ (a : Int) zs v (hr.later hb1) hm)
  have HS0 : Hid (∀ w', Below v.heap.size v w' → Sem.run Try.prog (convert 22 9 (.slice (some ⟨b, off + a, none⟩) k (cap - a))) w' = .ok (.string (strOfNums ((zs.drop a).take k))) w') :=
    hide (fun w' hb => conv_later hz (fun j hj => cell_later hb1 (hc j hj)) a k (cap - a) hak hb)
  have hI : intOfU (uintAt zs a) = (unfoldI (uintAt zs a).1, (uintAt zs a).2.1, 0) := by unfold intOfU; rw [if_pos h]
  rw [hI] at C2
  generalize uintAt zs a = U at *
  obtain ⟨n, u2, u3⟩ := U
  dsimp only at *
  subst h hnx
  rw [← henc] at HS0
  have u0 : -9223372036854775808 ≤ unfoldI n := by unfold unfoldI; split <;> omega
  have u1 : unfoldI n ≤ 9223372036854775807 := by unfold unfoldI; split <;> omega
  have hf : foldI (unfoldI n) = n := by rcases fold_unfold n with h | h <;> omega
  obtain ⟨T, hT⟩ : ∃ T, strOfNums (encF 9 n) = T := ⟨_, rfl⟩
  rw [hT] at HS0
  have D1 := fun w => hide (putUint_text n T w h0 h1 (hide hT))
  have D2 := fun w => hide (putInt_text (unfoldI n) T w u0 u1 (hide (by rw [hf]; exact hT)))
  clear hI henc hc hz hr hb1 hT hf
  generalize unfoldI n = m at *
  obtain ⟨nx, hnx⟩ : ∃ nx, nx = a + k := ⟨_, rfl⟩
  obtain rfl : k = nx - a := by omega
  rw [← hnx] at C1 C2 hak
  have j1 : a < nx := by omega
  clear hnx k1
  have i1 : (0 : Int) ≤ (a : Int) := by omega
  have i2 : (a : Int) < (nx : Int) := by omega
  have i2' : (a : Int) ≤ (nx : Int) := by omega
  have i3 : (nx : Int) ≤ (len : Int) := by omega
  have i5 : (nx : Int) ≤ (cap : Int) := by omega
  have i6 : ¬ cap = a := by omega
  have i7 : IntKind.i64.wrap ((nx : Int) - (a : Int)) = (nx : Int) - (a : Int) := by rw [IntKind.wrap_i64]; omega
  have i8 : (nx : Int) - (a : Int) ≤ 10 := by omega
  go_wp2_with fail
  refine (unhide C1).mono ?_
  rintro e v3 ⟨rfl, rfl⟩
  go_wp2_with fail
  refine (unhide C2).mono ?_
  rintro e v4 ⟨rfl, rfl⟩
  go_wp2_with fail
  clear C1 C2
  go_region_held (fun w' => Below v4.heap.size v4 w' ∧ Sem.run Try.prog (convert 22 9 (.slice (some ⟨b, off + a, none⟩) (nx - a) (cap - a))) w' = .ok (.string T) w')
    (first | assumption | exact ⟨(Below.refl _ _).drew, unhide HS0 _ (Below.refl _ _).drew⟩ | (refine keepS HS0 (And.left (by assumption)) (by assumption); done) | (refine keepS HS0 ?_ ?_ <;> assumption))
    (first | (go_at_call 11; refine (unhide (D1 _)).mono ?_; rintro e w2 ⟨g2, l2, rfl, k2, hb2⟩) | (go_at_call 12; refine (unhide (D2 _)).mono ?_; rintro e w3 ⟨g3, l3, rfl, k3, hb3⟩))
  have hB3 : Below v4.heap.size v4 w3 := (((Below.refl v4.heap.size v4).drew).trans hb2).trans (hb3.mono hb2.size)
  have HB3 := hide ((unhide HB).trans (hB3.mono (unhide HB).size))
  clear hB3 hb2 hb3 k2 k3
  go_wp2_with fail
  go_ret
  exact ⟨rfl, unhide HB3⟩

theorem one_any (ao : Option Addr) (len cap : Nat) (zs : List Int) (at_ : Int) (w : World) (hr : Row8 w ao len cap zs) (hm : cap ≤ maxLen) :
    Calls Try.prog 6 #[.slice ao len cap, .int .i64 at_] w fun e w' => e = .returned (.bool true) ∧ Below w.heap.size w w' := by
  by_cases h : (uintAt zs at_).2.2 = 0
  · exact one_ok ao len cap zs at_ w hr hm h
  · exact one_err ao len cap zs at_ w hr hm h
end Go.Proofs.Ytojhfoojodmmaaa
