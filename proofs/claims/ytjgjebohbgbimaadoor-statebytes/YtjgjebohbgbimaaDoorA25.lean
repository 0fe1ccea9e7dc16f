/-
  The walks of Put and Encode, of copied and same; conditions: the lengths together are below 2^47.
  The walks of the document's own PutUint, PutInt, PutText: what each lays, in new memory; condition: the lengths together are below 2^47 and a million.
-/
import Derived.Test.YtjgjebohbgbimaaDoorA24
import Derived.Test.YtjgjebohbgbimaaDoorA19
import Derived.Test.YtjgjebohbgbimaaDoorA09
import Derived.Test.YtjgjebohbgbimaaDoorA20
set_option linter.unusedVariables false
set_option linter.unusedSimpArgs false
namespace Go.Proofs.YtjgjebohbgbimaaDoor
open Go.RowKit

/-- what a value's bytes are, if it is right -/
def wenc0R (v : Vl) : List Int := if rightB v = true then wenc v else []
def codeR (v : Vl) : Int := if rightB v = true then 0 else 40

theorem right_wt {v : Vl} (h : rightB v = true) : okB 8 v = true ∧ wt v ≤ 2048 := by
  unfold rightB at h
  rw [Bool.and_eq_true, decide_eq_true_eq] at h
  exact h

theorem row_of {w : World} {base n : Nat} {v : Value} {zs : List Int} (h : w.ownsRow base 5 1 v n (zs.map (Value.int .u8))) (hs : ∀ c ∈ zs, 0 ≤ c ∧ c ≤ 255) (hn : 0 < n) : ∃ g cap, v = .slice (some ⟨g, 0, none⟩) n cap ∧ base ≤ g ∧ Row8 w (some ⟨g, 0, none⟩) n cap zs ∧ cap ≤ maxLen := by
  obtain ⟨g, cap, rfl, hb⟩ := own_form h hn
  refine ⟨g, cap, rfl, hb, Row8.own h hs, ?_⟩
  obtain ⟨_, c2, e, _, _, h2, _⟩ := slice_form h
  cases e
  exact h2

theorem own_low {w : World} {base lo : Nat} {e : TypeId} {size : Nat} {v : Value} {n : Nat} {xs : List Value} (h : w.ownsRow base e size v n xs) (hb : lo ≤ base) : w.ownsRow lo e size v n xs := by
  refine ⟨h.1, ?_⟩
  rcases h.2 with hn | ⟨g, cap, cur, e, hbs, rest⟩
  · exact .inl hn
  · exact .inr ⟨g, cap, cur, e, Nat.le_trans hb hbs, rest⟩

set_option maxRecDepth 100000 in
set_option maxHeartbeats 800000 in
theorem put_any (ab : Option Addr) (lb cb : Nat) (zs : List Int) (v : Vl) (x : Value) (B : Nat) (w : World) (hz : Row8 w ab lb cb zs) (hv : IsV w B v x) (hBs : B ≤ w.heap.size) (hb : lb + 43008 ≤ 140737489403904) :
    Calls Tryd.prog 31 #[.slice ab lb cb, x] w fun e w' => ∃ (ao : Option Addr) (len cap : Nat), e = .returned (.tuple #[.slice ao len cap, .int .i64 (codeR v)]) ∧ Row8 w' ao len cap (if rightB v = true then zs ++ wenc v else []) ∧ Below w.heap.size w w' ∧ (∀ a, ao = some a → w.heap.size ≤ a.block) ∧ cap ≤ maxLen ∧ (rightB v = true → w'.ownsRow w.heap.size 5 1 (.slice ao len cap) len ((zs ++ wenc v).map (Value.int .u8))) := by
  have hfit := hv.fit
  obtain ⟨k, n, s, l, ks, al, ak, cl, ck, hvv, hx⟩ := hv.shape
  clear hvv
  obtain ⟨m, hm⟩ : ∃ m, ks.length = m := ⟨_, rfl⟩
  obtain ⟨ln, hln⟩ : ∃ ln, l.length = ln := ⟨_, rfl⟩
  rw [hm, hln] at hx
  subst hx
  obtain ⟨w1, hw1⟩ : ∃ w1, w.alloc (.cells #[.int .i64 k, .int .i64 n, .string s, .slice al ln cl, .slice ak m ck] 37) = w1 := ⟨_, rfl⟩
  have BX := Box.mk' w (.int .i64 k) (.int .i64 n) (.string s) (.slice al ln cl) (.slice ak m ck)
  rw [hw1] at BX
  obtain ⟨g, hg⟩ : ∃ g, w.heap.size = g := ⟨_, rfl⟩
  have z1 := BX.size
  have z1g : w1.heap.size = g + 1 := by omega
  have HRW : Hid (∀ u, Below w1.heap.size w1 u → u.heap[g]? = some (.cells #[.int .i64 k, .int .i64 n, .string s, .slice al ln cl, .slice ak m ck] 37 (0, 0)) ∧ IsV u B v (.agg #[.int .i64 k, .int .i64 n, .string s, .slice al ln cl, .slice ak m ck]) ∧ Row8 u ab lb cb zs ∧ Below w.heap.size w u) := hide (fun u hu => ⟨by rw [← hg]; exact (hu.block _ (by omega)).trans BX.row, hv.mono ((BX.below.mono hBs).trans (hu.mono (by omega))), (hz.later BX.below).later hu, BX.below.trans (hu.mono (by omega))⟩)
  have CR := hide (right_code v _ B w1 (unhide HRW w1 (Below.refl _ _)).2.1 (by omega))
  obtain ⟨c0, c1, c2, c3, c4⟩ := row_cell (unhide HRW w1 (Below.refl _ _)).1
  clear BX hv hz z1 hm hln
  cases hR : rightB v with
  | false =>
    rw [hR] at CR
    have HC : Hid (codeR v = 40) := hide (by simp [codeR, hR])
    clear hR
    go_enter Tryd.func31, Tryd.ntmps31
    go_wp2_with fail
    refine (unhide CR).mono ?_
    rintro e w2 ⟨rfl, b2⟩
    have H2 := hide b2
    clear b2 CR
    go_wp2_with fail
    go_ret2
    refine ⟨none, 0, 0, by rw [unhide HC]; rfl, by simpa using nilRow _, ?_, (fun a h => by cases h), by unfold maxLen; omega⟩
    have h := (unhide HRW _ (unhide H2)).2.2.2
    first | exact h | (rw [← hg]; exact h)
  | true =>
    rw [hR] at CR
    have hw2 := right_wt hR
    have hlen := wenc_len v
    have hlb : (wenc v).length ≤ 43008 := by omega
    have hpos := wenc_pos v 8 hw2.1
    have hsm := wenc_small v 8 hw2.1 hfit
    have HS := hide (And.intro hsm hw2.1)
    have HC : Hid (codeR v = 0) := hide (by simp [codeR, hR])
    obtain ⟨Z, hZ⟩ : ∃ Z, wenc v = Z := ⟨_, rfl⟩
    have CL : Hid (∀ u, Below w1.heap.size w1 u → Calls Tryd.prog 44 #[.slice none 0 0, .agg #[.int .i64 k, .int .i64 n, .string s, .slice al ln cl, .slice ak m ck]] u fun e w' => ∃ sv', e = .returned sv' ∧ w'.ownsRow u.heap.size 5 1 sv' (0 + Z.length) (([] ++ Z).map (Value.int .u8)) ∧ Grew u w' (.slice none 0 0) sv') := hide (fun u hu => by
      have h := lay_any 8 v _ B u.heap.size u (.slice none 0 0) 0 [] hw2.1 (unhide HRW u hu).2.1 (by have := hu.size; omega) (Nat.le_refl _) (World.ownsRow_nil _ _ _ _) (by omega)
      rw [hZ] at h
      exact h)
    rw [hZ] at hlb hpos HS
    rw [if_pos rfl, hZ]
    clear hR hw2 hlen hsm hZ hfit
    go_enter Tryd.func31, Tryd.ntmps31
    go_wp2_with fail
    refine (unhide CR).mono ?_
    rintro e w2 ⟨rfl, b2⟩
    have H2 := hide b2
    clear b2 CR c0 c1 c2 c3 c4
    obtain ⟨c0, c1, c2, c3, c4⟩ := row_cell (unhide HRW w2 (unhide H2)).1
    go_wp2_with fail
    refine (unhide CL w2 (unhide H2)).mono ?_
    rintro e w3 ⟨sv3, rfl, own3, gr3⟩
    rw [Nat.zero_add, List.nil_append] at own3
    obtain ⟨g3, cp3, rfl, hg3, r3, _⟩ := row_of own3 (unhide HS).1 (by omega)
    have b3 : Below w2.heap.size w2 w3 := ⟨gr3.grown.os, gr3.grown.tape, gr3.grown.output, gr3.grown.size, fun q hq => gr3.grown.block q hq (by simp [Value.ownBlock])⟩
    have X3 : Below w1.heap.size w1 w3 := (unhide H2).trans (b3.mono (unhide H2).size)
    obtain ⟨h3, hh3⟩ : ∃ h3, w3.heap.size = h3 := ⟨_, rfl⟩
    obtain ⟨w4, hw4⟩ : ∃ w4, w3.alloc (.cells #[.slice ab lb cb, .slice (some ⟨g3, 0, none⟩) Z.length cp3] 25) = w4 := ⟨_, rfl⟩
    have b4 : Below w3.heap.size w3 w4 := by rw [← hw4]; exact (Below.refl _ _).alloc (Nat.le_refl _) _
    have at4 : w4.heap[h3]? = some (.cells #[.slice ab lb cb, .slice (some ⟨g3, 0, none⟩) Z.length cp3] 25 (0, 0)) := by rw [← hw4, ← hh3]; exact heap_alloc_new _ _
    have CCt := hide (concat_two h3 25 ab (some ⟨g3, 0, none⟩) lb cb Z.length cp3 zs Z w4 at4 (((unhide HRW w3 X3).2.2.1).later b4) (r3.later b4) (by omega))
    have X4 := hide (X3.trans (b4.mono X3.size))
    clear own3 gr3 r3 b3 X3 b4 at4 c0 c1 c2 c3 c4 CL
    go_wp2_with fail
    refine (unhide CCt).mono ?_
    rintro e w5 ⟨sv5, rfl, own5, b5⟩
    have hsz : ∀ c ∈ zs ++ Z, 0 ≤ c ∧ c ≤ 255 := fun c hc => by
      rcases List.mem_append.1 hc with h | h
      · exact (unhide HRW w1 (Below.refl _ _)).2.2.1.small c h
      · exact (unhide HS).1 c h
    obtain ⟨g5, cp5, rfl, hg5, r5, m5⟩ := row_of own5 hsz (by omega)
    have X5 := hide ((unhide X4).trans (b5.mono (unhide X4).size))
    have H5 := hide r5
    have M5 := hide (And.intro m5 own5)
    have hz4 := (unhide X4).size
    clear own5 b5 r5 m5 hsz CCt
    go_wp2_with fail
    go_ret2
    refine ⟨_, _, _, by rw [unhide HC]; rfl, unhide H5, ?_, (fun a h => by cases h; show _ ≤ g5; omega), (unhide M5).1, fun _ => own_low (unhide M5).2 (by omega)⟩
    have h := (unhide HRW _ (unhide X5)).2.2.2
    first | exact h | (rw [← hg]; exact h)

set_option maxRecDepth 100000 in
set_option maxHeartbeats 400000 in
theorem encode_any (v : Vl) (x : Value) (B : Nat) (w : World) (hv : IsV w B v x) (hBs : B ≤ w.heap.size) :
    Calls Tryd.prog 14 #[x] w fun e w' => ∃ (ao : Option Addr) (len cap : Nat), e = .returned (.tuple #[.slice ao len cap, .int .i64 (codeR v)]) ∧ Row8 w' ao len cap (wenc0R v) ∧ Below w.heap.size w w' ∧ (∀ a, ao = some a → w.heap.size ≤ a.block) ∧ cap ≤ maxLen := by
  obtain ⟨k, n, s, l, ks, al, ak, cl, ck, hvv, hx⟩ := hv.shape
  clear hvv
  obtain ⟨m, hm⟩ : ∃ m, ks.length = m := ⟨_, rfl⟩
  obtain ⟨ln, hln⟩ : ∃ ln, l.length = ln := ⟨_, rfl⟩
  rw [hm, hln] at hx
  subst hx
  obtain ⟨w1, hw1⟩ : ∃ w1, w.alloc (.cells #[.int .i64 k, .int .i64 n, .string s, .slice al ln cl, .slice ak m ck] 37) = w1 := ⟨_, rfl⟩
  have BX := Box.mk' w (.int .i64 k) (.int .i64 n) (.string s) (.slice al ln cl) (.slice ak m ck)
  rw [hw1] at BX
  obtain ⟨c0, c1, c2, c3, c4⟩ := row_cell BX.row
  have z1 := BX.size
  have CP := hide (put_any none 0 0 [] v _ B w1 (nilRow _) (hv.mono (BX.below.mono hBs)) (by omega) (by omega))
  rw [List.nil_append] at CP
  have HW : Hid ((if rightB v = true then wenc v else []) = wenc0R v) := hide rfl
  obtain ⟨Z, hZ⟩ : ∃ Z, wenc0R v = Z := ⟨_, rfl⟩
  rw [unhide HW, hZ] at CP
  obtain ⟨C, hC⟩ : ∃ C, codeR v = C := ⟨_, rfl⟩
  rw [hC] at CP
  rw [hZ, hC]
  have HB := hide BX.below
  clear BX hv hm hln hZ hC HW
  go_enter Tryd.func14, Tryd.ntmps14
  go_wp2_with fail
  refine (unhide CP).mono ?_
  rintro e w2 ⟨ao, len, cap, rfl, r2, b2, n2⟩
  have H2 := hide (And.intro r2 (And.intro b2 n2))
  clear r2 b2 n2 CP
  go_wp2_with fail
  go_ret2
  exact ⟨ao, len, cap, rfl, (unhide H2).1, (unhide HB).trans ((unhide H2).2.1.mono (by omega)), (fun a h => by have := (unhide H2).2.2.1 a h; omega), (unhide H2).2.2.2.1⟩

end Go.Proofs.YtjgjebohbgbimaaDoor

namespace Go.Proofs.YtjgjebohbgbimaaDoor
open Go.RowKit

/-- append of a slice of bytes onto a row of the call's own or onto nil -/
theorem app_any {w : World} {ops : Array Oper} {rest : List Oper} {o : Oper} {a : Act} {Q : Exit → Act → World → Prop} (hgd : o.guard = none) (sl x : Operand)
    (ho : o.op = .call { callee := .builtin .append, args := #[sl, x], argTypes := #[25, 25] })
    (base n : Nat) (v : Value) (xs : List Value) (hs : a.eval sl = v) (hown : w.ownsRow base 5 1 v n xs)
    (ao : Option Addr) (m c : Nat) (rs : List Int) (hx : a.eval x = .slice ao m c) (hr : Row8 w ao m c rs)
    (hbytes : n + m ≤ 140737489403904) (hbase : base ≤ w.heap.size)
    (h : ∀ v' w', w'.ownsRow base 5 1 v' (n + m) (xs ++ rs.map (Value.int .u8)) → w.grownBy w' v.ownBlock → wpList Tryd.prog ops Q rest (a.put o.dst v') w') :
    wpList Tryd.prog ops Q (o :: rest) a w := by
  obtain ⟨i0, hi, hz0, hz1, hz2⟩ := info_parts info5
  have hl := hr.length
  cases ao with
  | none =>
    obtain ⟨rfl, rfl⟩ := hr.none rfl
    have hrs : rs = [] := List.eq_nil_of_length_eq_zero hl
    subst hrs
    exact wpList_append_own_none hgd sl x 25 ho base 5 i0 1 Tryd.underlying25 hi v n xs hs hown hx (h v w (by simpa using hown) (World.grownBy.refl _ _))
  | some ad =>
    refine wpList_plain hgd fun K hK => ?_
    obtain ⟨v', w', hrun, h1, h2, _⟩ := run_own8 w o.type base n v xs hown ad m c rs hl (hr.cells ad rfl) hbytes hbase
    unfold Oper.wp
    simp only [execOp, ho, resolve, invoke, builtin, Sem.run_bind, Sem.run_pure, Result.andThen_ok, List.map_toArray, List.map_cons, List.map_nil, hs, hx, hrun]
    exact hK _ _ (h v' w' h1 h2)

theorem one_row (w : World) (c : Int) (h0 : 0 ≤ c) (h1 : c ≤ 255) : Row8 (w.alloc (.cells #[.int .u8 c] 5)) (some ⟨w.heap.size, 0, none⟩) 1 1 [c] := by
  refine ⟨rfl, (fun e => by cases e), ?_, by simp; omega, Nat.le_refl _⟩
  intro ad ha j u hj
  cases ha
  exact cell_one_new _ _ _ j u hj

theorem enc_bound (n : Int) (h1 : n ≤ 18446744073709551615) : n < 128 ^ (9 - 0) * 128 := by
  have e : (128 : Int) ^ (9 - 0) * 128 = 1180591620717411303424 := by decide
  omega

theorem own_grown {w w' : World} {base : Nat} {v : Value} {n : Nat} {xs : List Value} {B : Nat} {w0 : World} (hb : Below B w0 w) (hown : w.ownsRow base 5 1 v n xs) (hB : B ≤ base) (hs : B ≤ w.heap.size) (hg : w.grownBy w' v.ownBlock) : Below B w0 w' :=
  hb.grown hg hs (fun k hk => Nat.le_trans hB (hown.lt k hk).1)

set_option maxRecDepth 100000 in
set_option maxHeartbeats 1000000 in
theorem refPutUint_any (ao : Option Addr) (len cap : Nat) (n : Int) (zs : List Int) (w : World) (hr : Row8 w ao len cap zs) (hm : len + 10 ≤ 140737489403904) (h0 : 0 ≤ n) (h1 : n ≤ 18446744073709551615) :
    Calls Tryd.prog 17 #[.slice ao len cap, .int .u64 n] w fun e w' => ∃ g c : Nat, w.heap.size ≤ g ∧ e = .returned (.slice (some ⟨g, 0, none⟩) (len + (encF 9 n).length) c) ∧
      w'.ownsRow w.heap.size 5 1 (.slice (some ⟨g, 0, none⟩) (len + (encF 9 n).length) c) (len + (encF 9 n).length) ((zs ++ encF 9 n).map (Value.int .u8)) ∧ Below w.heap.size w w' := by
  go_enter Tryd.func17, Tryd.ntmps17
  go_wp2_with (first | (at_builtin; refine app_any rfl (.tmp 6) (.tmp 7) rfl w.heap.size 0 _ [] rfl (World.ownsRow_nil _ _ _ _) ao len cap zs rfl hr (by omega) (Nat.le_refl _) ?_; intro v1 w1 hown1 hgrow1; simp only [Nat.zero_add, List.nil_append] at hown1))
  have hb1 := own_grown (Below.refl w.heap.size w) (World.ownsRow_nil w w.heap.size 5 1) (Nat.le_refl _) (Nat.le_refl _) hgrow1
  clear hgrow1 hr
  go_loopw [1, 5] (fun x v wr => ∃ (j : Nat) (m : Int) (ys : List Value), j ≤ 9 ∧ x = .int .u64 m ∧ 0 ≤ m ∧ m ≤ 18446744073709551615 ∧
      wr.ownsRow w.heap.size 5 1 v (len + j) ys ∧ Hid ((zs ++ encF 9 n).map (Value.int .u8) = ys ++ (encF (9 - j) m).map (Value.int .u8)) ∧ Hid ((encF 9 n).length = j + (encF (9 - j) m).length) ∧ Hid (m < 128 ^ (9 - j) * 128) ∧ Below w.heap.size w wr)
    (fun x _ _ => (intOf x).toNat)
  case atStart => exact ⟨0, n, zs.map (Value.int .u8), by omega, rfl, h0, h1, hown1, hide (by simp), hide (by simp), hide (enc_bound n h1), hb1⟩
  case round =>
    clear hown1 hb1
    obtain ⟨j, m, ys, hj, rfl, m0, m1, hown, HE, HL, HM, hbel⟩ := hrel
    have hsz := hbel.size
    by_cases hm' : m < 128
    · have r1 := one_row wr m m0 (by omega)
      go_wp2_with (first | (at_builtin; refine app_any rfl (.tmp 20) (.tmp 23) rfl w.heap.size (len + j) _ ys rfl (hown.alloc _) _ 1 1 [m] rfl r1 (by omega) (by simp; omega) ?_; intro v2 w2 hown2 hgrow2))
      have e := enc_last j m (Or.inl hm')
      have eL : len + (encF 9 n).length = len + j + 1 := by rw [unhide HL, e]; simp; omega
      have eX : (zs ++ encF 9 n).map (Value.int .u8) = ys ++ [m].map (Value.int .u8) := by rw [unhide HE, e]
      obtain ⟨g, c, hv, hg⟩ := own_form hown2 (by omega)
      have hb2 := own_grown (hbel.alloc hsz _) (hown.alloc _) (Nat.le_refl _) (by simp; omega) hgrow2
      rw [hv] at hown2
      go_ret
      rw [eL, eX]
      exact ⟨g, c, hg, ret_val hv, hown2, hb2⟩
    · have hj9 : j < 9 := by
        rcases Nat.lt_or_ge j 9 with h | h
        · exact h
        · have e : 9 - j = 0 := by omega
          have := unhide HM
          rw [e] at this
          simp at this
          omega
      have r1 := one_row wr (m % 128 + 128) (by omega) (by omega)
      go_wp2_with (first | (at_builtin; refine app_any rfl (.tmp 11) (.tmp 16) rfl w.heap.size (len + j) _ ys rfl (hown.alloc _) _ 1 1 [m % 128 + 128] rfl r1 (by omega) (by simp; omega) ?_; intro v2 w2 hown2 hgrow2))
      have hb2 := own_grown (hbel.alloc hsz _) (hown.alloc _) (Nat.le_refl _) (by simp; omega) hgrow2
      go_roundw
      case rel =>
        have e := enc_step j m hj9 hm'
        refine ⟨j + 1, m / 128, ys ++ [m % 128 + 128].map (Value.int .u8), by omega, by go_num, by omega, by omega, hown2, hide ?_, hide ?_, hide ?_, hb2⟩
        · rw [unhide HE, e]; simp
        · rw [unhide HL, e]; simp; omega
        · have hm2 := unhide HM
          have e9 : 9 - j = 9 - (j + 1) + 1 := by omega
          rw [e9, Int.pow_succ] at hm2
          omega
      case measure => simp [intOf]; omega

theorem refPutUint_int (ao : Option Addr) (len cap : Nat) (n N : Int) (hN : N = n) (zs : List Int) (w : World) (hr : Row8 w ao len cap zs) (hm : len + 10 ≤ 140737489403904) (h0 : 0 ≤ n) (h1 : n ≤ 18446744073709551615) :
    Calls Tryd.prog 17 #[.slice ao len cap, .int .u64 N] w fun e w' => ∃ g c : Nat, w.heap.size ≤ g ∧ e = .returned (.slice (some ⟨g, 0, none⟩) (len + (encF 9 n).length) c) ∧
      w'.ownsRow w.heap.size 5 1 (.slice (some ⟨g, 0, none⟩) (len + (encF 9 n).length) c) (len + (encF 9 n).length) ((zs ++ encF 9 n).map (Value.int .u8)) ∧ Below w.heap.size w w' := by
  subst hN
  exact refPutUint_any ao len cap N zs w hr hm h0 h1

set_option maxRecDepth 100000 in
set_option maxHeartbeats 400000 in
theorem refPutInt_any (ao : Option Addr) (len cap : Nat) (n : Int) (zs : List Int) (w : World) (hr : Row8 w ao len cap zs) (hm : len + 10 ≤ 140737489403904) (h0 : -9223372036854775808 ≤ n) (h1 : n ≤ 9223372036854775807) :
    Calls Tryd.prog 45 #[.slice ao len cap, .int .i64 n] w fun e w' => ∃ g c : Nat, w.heap.size ≤ g ∧ e = .returned (.slice (some ⟨g, 0, none⟩) (len + (encF 9 (foldI n)).length) c) ∧
      w'.ownsRow w.heap.size 5 1 (.slice (some ⟨g, 0, none⟩) (len + (encF 9 (foldI n)).length) c) (len + (encF 9 (foldI n)).length) ((zs ++ encF 9 (foldI n)).map (Value.int .u8)) ∧ Below w.heap.size w w' := by
  have f0 : 0 ≤ foldI n := by unfold foldI; split <;> omega
  have f1 : foldI n ≤ 18446744073709551615 := by unfold foldI; split <;> omega
  by_cases hn : n < 0
  · have e := foldI_neg n hn
    have HE := hide e
    clear e
    go_enter Tryd.func45, Tryd.ntmps45
    go_wp2_with fail
    refine (refPutUint_int ao len cap (foldI n) _ (by rw [unhide HE]; omega) zs w hr hm f0 f1).mono ?_
    rintro e w1 ⟨g, c, hg, rfl, hown, hb⟩
    go_wp2_with fail
    go_ret
    exact ⟨g, c, hg, rfl, hown, hb⟩
  · have e := foldI_pos n hn
    have HE := hide e
    clear e
    go_enter Tryd.func45, Tryd.ntmps45
    go_wp2_with fail
    refine (refPutUint_int ao len cap (foldI n) _ (by rw [unhide HE]; omega) zs w hr hm f0 f1).mono ?_
    rintro e w1 ⟨g, c, hg, rfl, hown, hb⟩
    go_wp2_with fail
    go_ret
    exact ⟨g, c, hg, rfl, hown, hb⟩

set_option maxRecDepth 100000 in
set_option maxHeartbeats 400000 in
theorem refPutText_any (ao : Option Addr) (len cap : Nat) (s : ByteArray) (zs : List Int) (w : World) (hr : Row8 w ao len cap zs) (hm : len + 10 + s.size ≤ 140737489403904) :
    Calls Tryd.prog 18 #[.slice ao len cap, .string s] w fun e w' => ∃ g c : Nat, w.heap.size ≤ g ∧ e = .returned (.slice (some ⟨g, 0, none⟩) (len + (encF 9 s.size).length + s.size) c) ∧
      w'.ownsRow w.heap.size 5 1 (.slice (some ⟨g, 0, none⟩) (len + (encF 9 s.size).length + s.size) c) (len + (encF 9 s.size).length + s.size) ((zs ++ encF 9 s.size ++ nums s).map (Value.int .u8)) ∧ Below w.heap.size w w' := by
  have hL := encF_len 9 (s.size : Int)
  go_enter Tryd.func18, Tryd.ntmps18
  go_wp2_with fail
  refine (refPutUint_int ao len cap (s.size : Int) _ (by omega) zs w hr (by omega) (by omega) (by omega)).mono ?_
  rintro e w2 ⟨g, c, hg, rfl, hown2, hb2⟩
  have hs2 := hb2.size
  clear hr
  go_wp2_with (first | (at_builtin; refine app_string8 rfl (.tmp 11) (.tmp 12) rfl w.heap.size g (len + (encF 9 (s.size : Int)).length) c _ rfl hown2 (by omega) s rfl (by omega) hs2 ?_; intro g' c' w3 hg3 hown3 hgrow3))
  rw [← List.map_append] at hown3
  go_ret
  exact ⟨g', c', hg3, rfl, hown3, hb2.grown hgrow3 hs2 (by simp; omega)⟩
end Go.Proofs.YtjgjebohbgbimaaDoor
