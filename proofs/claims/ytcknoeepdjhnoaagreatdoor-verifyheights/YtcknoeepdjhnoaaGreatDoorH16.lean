/-
  The walks of the document's Right, Weight, deep, Depth; no conditions but the form's own reach.
  The walks of the document's own PutUint, PutInt, PutText: what each lays, in new memory; condition: the lengths together are below 2^47 and a million.
-/
import Derived.Test.YtcknoeepdjhnoaaGreatDoorH15
import Derived.Test.YtcknoeepdjhnoaaGreatDoorH00
set_option linter.unusedVariables false
set_option linter.unusedSimpArgs false
namespace Go.Proofs.YtcknoeepdjhnoaaGreatDoor
open Go.RowKit

theorem weigh_any : ∀ b, WeighAt b
  | 0 => weigh_zero
  | b + 1 => weigh_step b (weigh_any b)

theorem wgh_right (v : Vl) : (wgh 8 v 0 ≤ 2048 ↔ rightB v = true) ∧ (rightB v = true → wgh 8 v 0 = wt v) ∧ (rightB v = false → wgh 8 v 0 = 2049) := by
  have h0 : rightB v = (okB 8 v && decide (0 + wt v ≤ 2048)) := by unfold rightB; rw [Nat.zero_add]
  have h1 : rightB v = true → wgh 8 v 0 = wt v := by
    intro h
    rw [h0] at h
    unfold wgh
    rw [if_pos h, Nat.zero_add]
  have h2 : rightB v = false → wgh 8 v 0 = 2049 := by
    intro h
    rw [h0] at h
    unfold wgh
    rw [if_neg (by rw [h]; simp)]
  refine ⟨⟨fun h => ?_, fun h => ?_⟩, h1, h2⟩
  · cases hr : rightB v with
    | true => rfl
    | false => rw [h2 hr] at h; omega
  · rw [h1 h]
    unfold rightB at h
    rw [Bool.and_eq_true, decide_eq_true_eq] at h
    exact h.2

set_option maxRecDepth 100000 in
set_option maxHeartbeats 400000 in
theorem right_ref (v : Vl) (x : Value) (B : Nat) (w : World) (hv : IsV w B v x) (hBs : B ≤ w.heap.size) :
    Calls Tryz.prog 70 #[x] w fun e w' => e = .returned (.bool (rightB v)) ∧ Below w.heap.size w w' := by
  obtain ⟨k', n', s', l', ks', al', ak', cl', ck', hy', hx⟩ := hv.shape
  obtain ⟨ll, hll⟩ : ∃ ll, l'.length = ll := ⟨_, rfl⟩
  obtain ⟨m, hm⟩ : ∃ m, ks'.length = m := ⟨_, rfl⟩
  rw [hll, hm] at hx
  subst hx
  obtain ⟨w1, hw1⟩ : ∃ w1, w.alloc (.cells #[.int .i64 k', .int .i64 n', .string s', .slice al' ll cl', .slice ak' m ck'] 42) = w1 := ⟨_, rfl⟩
  have BX := Box.mk' w (.int .i64 k') (.int .i64 n') (.string s') (.slice al' ll cl') (.slice ak' m ck')
  rw [hw1] at BX
  obtain ⟨c0, c1, c2, c3, c4⟩ := row_cell BX.row
  have z1 := BX.size
  have HB := hide BX.below
  have CW := hide (weigh_any 8 v _ 0 0 B w1 (by omega) (hv.mono (BX.below.mono hBs)) (by omega) (by omega))
  have HR : Hid (decide ((wgh 8 v 0 : Int) ≤ 2048) = rightB v) := hide (by
    cases hr : rightB v with
    | true => exact decide_eq_true (by have := (wgh_right v).1.2 hr; omega)
    | false => exact decide_eq_false (by rw [(wgh_right v).2.2 hr]; omega))
  obtain ⟨W, hW⟩ : ∃ W, wgh 8 v 0 = W := ⟨_, rfl⟩
  rw [hW] at CW HR
  clear BX hv hy' hW
  go_enter Tryz.func70, Tryz.ntmps70
  go_wp2_with fail
  refine (unhide CW).mono ?_
  rintro e w2 ⟨rfl, b2⟩
  have B2 := hide b2
  clear b2 CW
  go_wp2_with fail
  go_ret
  exact ⟨by rw [← unhide HR]; rfl, (unhide HB).trans ((unhide B2).mono (by omega))⟩

end Go.Proofs.YtcknoeepdjhnoaaGreatDoor

namespace Go.Proofs.YtcknoeepdjhnoaaGreatDoor
open Go.RowKit

/-- append of a slice of bytes onto a row of the call's own or onto nil -/
theorem app_any {w : World} {ops : Array Oper} {rest : List Oper} {o : Oper} {a : Act} {Q : Exit → Act → World → Prop} (hgd : o.guard = none) (sl x : Operand)
    (ho : o.op = .call { callee := .builtin .append, args := #[sl, x], argTypes := #[59, 59] })
    (base n : Nat) (v : Value) (xs : List Value) (hs : a.eval sl = v) (hown : w.ownsRow base 5 1 v n xs)
    (ao : Option Addr) (m c : Nat) (rs : List Int) (hx : a.eval x = .slice ao m c) (hr : Row8 w ao m c rs)
    (hbytes : n + m ≤ 140737489403904) (hbase : base ≤ w.heap.size)
    (h : ∀ v' w', w'.ownsRow base 5 1 v' (n + m) (xs ++ rs.map (Value.int .u8)) → w.grownBy w' v.ownBlock → wpList Tryz.prog ops Q rest (a.put o.dst v') w') :
    wpList Tryz.prog ops Q (o :: rest) a w := by
  obtain ⟨i0, hi, hz0, hz1, hz2⟩ := info_parts info5
  have hl := hr.length
  cases ao with
  | none =>
    obtain ⟨rfl, rfl⟩ := hr.none rfl
    have hrs : rs = [] := List.eq_nil_of_length_eq_zero hl
    subst hrs
    exact wpList_append_own_none hgd sl x 59 ho base 5 i0 1 Tryz.underlying59 hi v n xs hs hown hx (h v w (by simpa using hown) (World.grownBy.refl _ _))
  | some ad =>
    refine wpList_plain hgd fun K hK => ?_
    obtain ⟨v', w', hrun, h1, h2, _⟩ := run_own8 w o.type base n v xs hown ad m c rs hl (hr.cells ad rfl) hbytes hbase
    unfold Oper.wp
    simp only [execOp, ho, resolve, invoke, builtin, Sem.run_bind, Sem.run_pure, Result.andThen_ok, List.map_toArray, List.map_cons, List.map_nil, hs, hx, hrun]
    exact hK _ _ (h v' w' h1 h2)

theorem one_row (w : World) (c : Int) (h0 : 0 ≤ c) (h1 : c ≤ 255) : Row8 (w.alloc (.cells #[.int .u8 c] 5)) (some ⟨w.heap.size, 0, none⟩) 1 1 [c] := by
  refine ⟨rfl, (fun e => by cases e), ?_, by simp; omega, Nat.le_refl _⟩
  intro ad ha j u hj
  cases ha
  exact cell_one_new _ _ _ j u hj

theorem enc_bound (n : Int) (h1 : n ≤ 18446744073709551615) : n < 128 ^ (9 - 0) * 128 := by
  have e : (128 : Int) ^ (9 - 0) * 128 = 1180591620717411303424 := by decide
  omega

theorem own_grown {w w' : World} {base : Nat} {v : Value} {n : Nat} {xs : List Value} {B : Nat} {w0 : World} (hb : Below B w0 w) (hown : w.ownsRow base 5 1 v n xs) (hB : B ≤ base) (hs : B ≤ w.heap.size) (hg : w.grownBy w' v.ownBlock) : Below B w0 w' :=
  hb.grown hg hs (fun k hk => Nat.le_trans hB (hown.lt k hk).1)

set_option maxRecDepth 100000 in
set_option maxHeartbeats 1000000 in
theorem refPutUint_any (ao : Option Addr) (len cap : Nat) (n : Int) (zs : List Int) (w : World) (hr : Row8 w ao len cap zs) (hm : len + 10 ≤ 140737489403904) (h0 : 0 ≤ n) (h1 : n ≤ 18446744073709551615) :
    Calls Tryz.prog 72 #[.slice ao len cap, .int .u64 n] w fun e w' => ∃ g c : Nat, w.heap.size ≤ g ∧ e = .returned (.slice (some ⟨g, 0, none⟩) (len + (encF 9 n).length) c) ∧
      w'.ownsRow w.heap.size 5 1 (.slice (some ⟨g, 0, none⟩) (len + (encF 9 n).length) c) (len + (encF 9 n).length) ((zs ++ encF 9 n).map (Value.int .u8)) ∧ Below w.heap.size w w' := by
  go_enter Tryz.func72, Tryz.ntmps72
  go_wp2_with (first | (at_builtin; refine app_any rfl (.tmp 6) (.tmp 7) rfl w.heap.size 0 _ [] rfl (World.ownsRow_nil _ _ _ _) ao len cap zs rfl hr (by omega) (Nat.le_refl _) ?_; intro v1 w1 hown1 hgrow1; simp only [Nat.zero_add, List.nil_append] at hown1))
  have hb1 := own_grown (Below.refl w.heap.size w) (World.ownsRow_nil w w.heap.size 5 1) (Nat.le_refl _) (Nat.le_refl _) hgrow1
  clear hgrow1 hr
  go_loopw [1, 5] (fun x v wr => ∃ (j : Nat) (m : Int) (ys : List Value), j ≤ 9 ∧ x = .int .u64 m ∧ 0 ≤ m ∧ m ≤ 18446744073709551615 ∧
      wr.ownsRow w.heap.size 5 1 v (len + j) ys ∧ Hid ((zs ++ encF 9 n).map (Value.int .u8) = ys ++ (encF (9 - j) m).map (Value.int .u8)) ∧ Hid ((encF 9 n).length = j + (encF (9 - j) m).length) ∧ Hid (m < 128 ^ (9 - j) * 128) ∧ Below w.heap.size w wr)
    (fun x _ _ => (intOf x).toNat)
  case atStart => exact ⟨0, n, zs.map (Value.int .u8), by omega, rfl, h0, h1, hown1, hide (by simp), hide (by simp), hide (enc_bound n h1), hb1⟩
  case round =>
    clear hown1 hb1
    obtain ⟨j, m, ys, hj, rfl, m0, m1, hown, HE, HL, HM, hbel⟩ := hrel
    have hsz := hbel.size
    by_cases hm' : m < 128
    · have r1 := one_row wr m m0 (by omega)
      go_wp2_with (first | (at_builtin; refine app_any rfl (.tmp 20) (.tmp 23) rfl w.heap.size (len + j) _ ys rfl (hown.alloc _) _ 1 1 [m] rfl r1 (by omega) (by simp; omega) ?_; intro v2 w2 hown2 hgrow2))
      have e := enc_last j m (Or.inl hm')
      have eL : len + (encF 9 n).length = len + j + 1 := by rw [unhide HL, e]; simp; omega
      have eX : (zs ++ encF 9 n).map (Value.int .u8) = ys ++ [m].map (Value.int .u8) := by rw [unhide HE, e]
      obtain ⟨g, c, hv, hg⟩ := own_form hown2 (by omega)
      have hb2 := own_grown (hbel.alloc hsz _) (hown.alloc _) (Nat.le_refl _) (by simp; omega) hgrow2
      rw [hv] at hown2
      go_ret
      rw [eL, eX]
      exact ⟨g, c, hg, ret_val hv, hown2, hb2⟩
    · have hj9 : j < 9 := by
        rcases Nat.lt_or_ge j 9 with h | h
        · exact h
        · have e : 9 - j = 0 := by omega
          have := unhide HM
          rw [e] at this
          simp at this
          omega
      have r1 := one_row wr (m % 128 + 128) (by omega) (by omega)
      go_wp2_with (first | (at_builtin; refine app_any rfl (.tmp 11) (.tmp 16) rfl w.heap.size (len + j) _ ys rfl (hown.alloc _) _ 1 1 [m % 128 + 128] rfl r1 (by omega) (by simp; omega) ?_; intro v2 w2 hown2 hgrow2))
      have hb2 := own_grown (hbel.alloc hsz _) (hown.alloc _) (Nat.le_refl _) (by simp; omega) hgrow2
      go_roundw
      case rel =>
        have e := enc_step j m hj9 hm'
        refine ⟨j + 1, m / 128, ys ++ [m % 128 + 128].map (Value.int .u8), by omega, by go_num, by omega, by omega, hown2, hide ?_, hide ?_, hide ?_, hb2⟩
        · rw [unhide HE, e]; simp
        · rw [unhide HL, e]; simp; omega
        · have hm2 := unhide HM
          have e9 : 9 - j = 9 - (j + 1) + 1 := by omega
          rw [e9, Int.pow_succ] at hm2
          omega
      case measure => simp [intOf]; omega

theorem refPutUint_int (ao : Option Addr) (len cap : Nat) (n N : Int) (hN : N = n) (zs : List Int) (w : World) (hr : Row8 w ao len cap zs) (hm : len + 10 ≤ 140737489403904) (h0 : 0 ≤ n) (h1 : n ≤ 18446744073709551615) :
    Calls Tryz.prog 72 #[.slice ao len cap, .int .u64 N] w fun e w' => ∃ g c : Nat, w.heap.size ≤ g ∧ e = .returned (.slice (some ⟨g, 0, none⟩) (len + (encF 9 n).length) c) ∧
      w'.ownsRow w.heap.size 5 1 (.slice (some ⟨g, 0, none⟩) (len + (encF 9 n).length) c) (len + (encF 9 n).length) ((zs ++ encF 9 n).map (Value.int .u8)) ∧ Below w.heap.size w w' := by
  subst hN
  exact refPutUint_any ao len cap N zs w hr hm h0 h1

set_option maxRecDepth 100000 in
set_option maxHeartbeats 400000 in
theorem refPutInt_any (ao : Option Addr) (len cap : Nat) (n : Int) (zs : List Int) (w : World) (hr : Row8 w ao len cap zs) (hm : len + 10 ≤ 140737489403904) (h0 : -9223372036854775808 ≤ n) (h1 : n ≤ 9223372036854775807) :
    Calls Tryz.prog 108 #[.slice ao len cap, .int .i64 n] w fun e w' => ∃ g c : Nat, w.heap.size ≤ g ∧ e = .returned (.slice (some ⟨g, 0, none⟩) (len + (encF 9 (foldI n)).length) c) ∧
      w'.ownsRow w.heap.size 5 1 (.slice (some ⟨g, 0, none⟩) (len + (encF 9 (foldI n)).length) c) (len + (encF 9 (foldI n)).length) ((zs ++ encF 9 (foldI n)).map (Value.int .u8)) ∧ Below w.heap.size w w' := by
  have f0 : 0 ≤ foldI n := by unfold foldI; split <;> omega
  have f1 : foldI n ≤ 18446744073709551615 := by unfold foldI; split <;> omega
  by_cases hn : n < 0
  · have e := foldI_neg n hn
    have HE := hide e
    clear e
    go_enter Tryz.func108, Tryz.ntmps108
    go_wp2_with fail
    refine (refPutUint_int ao len cap (foldI n) _ (by rw [unhide HE]; omega) zs w hr hm f0 f1).mono ?_
    rintro e w1 ⟨g, c, hg, rfl, hown, hb⟩
    go_wp2_with fail
    go_ret
    exact ⟨g, c, hg, rfl, hown, hb⟩
  · have e := foldI_pos n hn
    have HE := hide e
    clear e
    go_enter Tryz.func108, Tryz.ntmps108
    go_wp2_with fail
    refine (refPutUint_int ao len cap (foldI n) _ (by rw [unhide HE]; omega) zs w hr hm f0 f1).mono ?_
    rintro e w1 ⟨g, c, hg, rfl, hown, hb⟩
    go_wp2_with fail
    go_ret
    exact ⟨g, c, hg, rfl, hown, hb⟩

set_option maxRecDepth 100000 in
set_option maxHeartbeats 400000 in
theorem refPutText_any (ao : Option Addr) (len cap : Nat) (s : ByteArray) (zs : List Int) (w : World) (hr : Row8 w ao len cap zs) (hm : len + 10 + s.size ≤ 140737489403904) :
    Calls Tryz.prog 74 #[.slice ao len cap, .string s] w fun e w' => ∃ g c : Nat, w.heap.size ≤ g ∧ e = .returned (.slice (some ⟨g, 0, none⟩) (len + (encF 9 s.size).length + s.size) c) ∧
      w'.ownsRow w.heap.size 5 1 (.slice (some ⟨g, 0, none⟩) (len + (encF 9 s.size).length + s.size) c) (len + (encF 9 s.size).length + s.size) ((zs ++ encF 9 s.size ++ nums s).map (Value.int .u8)) ∧ Below w.heap.size w w' := by
  have hL := encF_len 9 (s.size : Int)
  go_enter Tryz.func74, Tryz.ntmps74
  go_wp2_with fail
  refine (refPutUint_int ao len cap (s.size : Int) _ (by omega) zs w hr (by omega) (by omega) (by omega)).mono ?_
  rintro e w2 ⟨g, c, hg, rfl, hown2, hb2⟩
  have hs2 := hb2.size
  clear hr
  go_wp2_with (first | (at_builtin; refine app_string8 rfl (.tmp 11) (.tmp 12) rfl w.heap.size g (len + (encF 9 (s.size : Int)).length) c _ rfl hown2 (by omega) s rfl (by omega) hs2 ?_; intro g' c' w3 hg3 hown3 hgrow3))
  rw [← List.map_append] at hown3
  go_ret
  exact ⟨g', c', hg3, rfl, hown3, hb2.grown hgrow3 hs2 (by simp; omega)⟩
end Go.Proofs.YtcknoeepdjhnoaaGreatDoor
