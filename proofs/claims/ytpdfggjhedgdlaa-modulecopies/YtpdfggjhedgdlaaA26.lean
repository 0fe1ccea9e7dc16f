/-
  The walk of value.Copy: a right value in new memory, the zero one of another; conditions: the form's own reach.
  The walks of the document's own PutUint, PutInt, PutText: what each lays, in new memory; condition: the lengths together are below 2^47 and a million.
-/
import Derived.Test.YtpdfggjhedgdlaaA25
import Derived.Test.YtpdfggjhedgdlaaA10
import Derived.Test.YtpdfggjhedgdlaaA20
import Derived.Test.YtpdfggjhedgdlaaA02
import Derived.Test.YtpdfggjhedgdlaaA13
import Derived.Test.YtpdfggjhedgdlaaA01
namespace Go.Proofs.Ytpdfggjhedgdlaa
open Go.RowKit
set_option linter.unusedVariables false
set_option linter.unusedSimpArgs false

def fewB (v : Vl) : Bool := decide (cnt v ≤ 5000)
theorem few_right {v : Vl} (h : rightB v = true) : fewB v = true := by
  unfold rightB at h
  rw [Bool.and_eq_true, decide_eq_true_eq] at h
  have := cnt_wt v
  unfold fewB
  exact decide_eq_true (by omega)





set_option maxRecDepth 100000 in
set_option maxHeartbeats 400000 in
theorem copy_any (v : Vl) (x : Value) (B : Nat) (w : World) (hv : IsV w B v x) (hBs : B ≤ w.heap.size) :
    Calls Try.prog 17 #[x] w fun e w' => ∃ x', e = .returned x' ∧ Below w.heap.size w w' ∧ (rightB v = true → IsQ w' (fun b => w.heap.size ≤ b ∧ b < w'.heap.size) v x') ∧ (rightB v = false → x' = .agg #[.int .i64 0, .int .i64 0, .string ⟨#[]⟩, .slice none 0 0, .slice none 0 0]) := by
  obtain ⟨k, n, s, l, ks, al, ak, cl, ck, hvv, hx⟩ := hv.shape
  clear hvv
  obtain ⟨m, hm⟩ : ∃ m, ks.length = m := ⟨_, rfl⟩
  obtain ⟨ln, hln⟩ : ∃ ln, l.length = ln := ⟨_, rfl⟩
  rw [hm, hln] at hx
  subst hx
  have TW := Two.mk' w 40 #[.int .i64 k, .int .i64 n, .string s, .slice al ln cl, .slice ak m ck] #[.int .i64 0, .int .i64 0, .string ⟨#[]⟩, .slice none 0 0, .slice none 0 0]
  obtain ⟨w2, hw2⟩ : ∃ w2, (w.alloc (.cells #[.int .i64 k, .int .i64 n, .string s, .slice al ln cl, .slice ak m ck] 40)).alloc (.cells #[.int .i64 0, .int .i64 0, .string ⟨#[]⟩, .slice none 0 0, .slice none 0 0] 40) = w2 := ⟨_, rfl⟩
  rw [hw2] at TW
  obtain ⟨g, hg⟩ : ∃ g, w.heap.size = g := ⟨_, rfl⟩
  rw [hg] at TW
  have HT : Hid (∀ u, Below w2.heap.size w2 u → u.heap[g]? = some (.cells #[.int .i64 k, .int .i64 n, .string s, .slice al ln cl, .slice ak m ck] 40 (0, 0)) ∧ u.heap[g + 1]? = some (.cells #[.int .i64 0, .int .i64 0, .string ⟨#[]⟩, .slice none 0 0, .slice none 0 0] 40 (0, 0)) ∧ IsV u B v (.agg #[.int .i64 k, .int .i64 n, .string s, .slice al ln cl, .slice ak m ck]) ∧ B ≤ u.heap.size ∧ Below w.heap.size w u ∧ g + 2 ≤ u.heap.size) :=
    hide (fun u hu => by
      have h1 : Below w.heap.size w u := TW.below.trans (hu.mono (by have := TW.size; omega))
      have h2 := TW.size
      have h3 := hu.size
      exact ⟨(TW.later hu).1, (TW.later hu).2, hv.mono (h1.mono hBs), by omega, h1, by omega⟩)
  obtain ⟨c0, c1, c2, c3, c4⟩ := row_cell TW.at0
  have CF := hide (right_code v _ B w2 (unhide HT w2 (Below.refl _ _)).2.2.1 (unhide HT w2 (Below.refl _ _)).2.2.2.1)
  clear TW hv hm hln
  cases hF : rightB v with
  | false =>
    rw [hF] at CF
    clear hF
    go_enter Try.func17, Try.ntmps17
    go_wp2_with fail
    refine (unhide CF).mono ?_
    rintro e u3 ⟨rfl, b3⟩
    have H3 := hide b3
    clear b3 CF c0 c1 c2 c3 c4
    obtain ⟨c0, c1, c2, c3, c4⟩ := row_cell (unhide HT u3 (unhide H3)).1
    have ATX := (unhide HT u3 (unhide H3)).2.1
    obtain ⟨z0, z1, z2, z3, z4⟩ := row_cell ATX
    have fz : ∀ q, u3.frozen? ⟨g + 1, q, none⟩ = false := fun q => frozen_of_row u3 (g + 1) q _ _ ATX
    have fz0 := fz 0
    have fz1 := fz 1
    have fz2 := fz 2
    have fz3 := fz 3
    have fz4 := fz 4
    have HAT := hide ATX
    clear fz ATX
    go_wp2_with fail
    have ATX := unhide HAT
    have BW := (unhide HT u3 (unhide H3)).2.2.2.2.1
    have R9 := five_set u3 (g + 1) 40 _ _ _ _ _ (.int .i64 0) (.int .i64 0) (.string ⟨#[]⟩) (.slice none 0 0) (.slice none 0 0) ATX
    have O9 := five_other u3 (g + 1) (x0 := .int .i64 0) (x1 := .int .i64 0) (x2 := .string ⟨#[]⟩) (x3 := .slice none 0 0) (x4 := .slice none 0 0)
    have S9 : (((((u3.setCell ⟨g + 1, 0, none⟩ (.int .i64 0)).setCell ⟨g + 1, 1, none⟩ (.int .i64 0)).setCell ⟨g + 1, 2, none⟩ (.string ⟨#[]⟩)).setCell ⟨g + 1, 3, none⟩ (.slice none 0 0)).setCell ⟨g + 1, 4, none⟩ (.slice none 0 0)).heap.size = u3.heap.size := by simp
    obtain ⟨w9, hw9⟩ : ∃ w9, (((((u3.setCell ⟨g + 1, 0, none⟩ (.int .i64 0)).setCell ⟨g + 1, 1, none⟩ (.int .i64 0)).setCell ⟨g + 1, 2, none⟩ (.string ⟨#[]⟩)).setCell ⟨g + 1, 3, none⟩ (.slice none 0 0)).setCell ⟨g + 1, 4, none⟩ (.slice none 0 0)) = w9 := ⟨_, rfl⟩
    rw [hw9] at R9 S9 ⊢
    have B9 : Below w.heap.size w w9 := by rw [← hw9]; exact five_below BW (by omega) _ _ _ _ _
    obtain ⟨r0, r1, r2, r3, r4⟩ := row_cell R9
    refine bodyPost_ret (v := .agg #[.int .i64 0, .int .i64 0, .string ⟨#[]⟩, .slice none 0 0, .slice none 0 0]) (by simp [results, Try.results17, go_sem, r0, r1, r2, r3, r4]) rfl ?_
    first | exact ⟨_, rfl, B9, (fun h => by cases h), fun _ => rfl⟩ | (rw [hg] at B9; exact ⟨_, rfl, B9, (fun h => by cases h), fun _ => rfl⟩) | exact ⟨rfl, B9⟩ | (rw [hg] at B9; exact ⟨rfl, B9⟩)
  | true =>
    rw [hF] at CF
    have hcn : cnt v ≤ 5000 := by have h := few_right hF; unfold fewB at h; exact of_decide_eq_true h
    have CD := fun u hu => hide (cln_any (dep v) v _ B u (Nat.le_refl _) hcn (unhide HT u hu).2.2.1 (unhide HT u hu).2.2.2.1)
    clear hF hcn
    go_enter Try.func17, Try.ntmps17
    go_wp2_with fail
    refine (unhide CF).mono ?_
    rintro e u3 ⟨rfl, b3⟩
    have H3 := hide b3
    clear b3 CF c0 c1 c2 c3 c4
    obtain ⟨c0, c1, c2, c3, c4⟩ := row_cell (unhide HT u3 (unhide H3)).1
    go_wp2_with fail
    refine (unhide (CD u3 (unhide H3))).mono ?_
    rintro e u4 ⟨x4, rfl, p4, b4⟩
    obtain ⟨k4, n4, s4, l4, ks4, al4, ak4, cl4, ck4, hv4, rfl⟩ := p4.shape
    clear hv4
    obtain ⟨lc, hlc⟩ : ∃ lc, l4.length = lc := ⟨_, rfl⟩
    obtain ⟨mc, hmc⟩ : ∃ mc, ks4.length = mc := ⟨_, rfl⟩
    rw [hlc, hmc] at p4 ⊢
    have X4 := (unhide H3).trans (b4.mono (unhide H3).size)
    have H4 := hide (And.intro X4 (And.intro p4 b4.size))
    have ATX := (unhide HT u4 X4).2.1
    obtain ⟨z0, z1, z2, z3, z4⟩ := row_cell ATX
    have fz : ∀ q, u4.frozen? ⟨g + 1, q, none⟩ = false := fun q => frozen_of_row u4 (g + 1) q _ _ ATX
    have fz0 := fz 0
    have fz1 := fz 1
    have fz2 := fz 2
    have fz3 := fz 3
    have fz4 := fz 4
    have HAT := hide ATX
    clear fz ATX p4 b4 X4 CD hlc hmc c0 c1 c2 c3 c4
    go_wp2_with fail
    have ATX := unhide HAT
    have BW := (unhide HT u4 (unhide H4).1).2.2.2.2.1
    have g3 := (unhide HT u3 (unhide H3)).2.2.2.2.2
    have R9 := five_set u4 (g + 1) 40 _ _ _ _ _ (.int .i64 k4) (.int .i64 n4) (.string s4) (.slice al4 lc cl4) (.slice ak4 mc ck4) ATX
    have O9 := five_other u4 (g + 1) (x0 := .int .i64 k4) (x1 := .int .i64 n4) (x2 := .string s4) (x3 := .slice al4 lc cl4) (x4 := .slice ak4 mc ck4)
    have S9 : (((((u4.setCell ⟨g + 1, 0, none⟩ (.int .i64 k4)).setCell ⟨g + 1, 1, none⟩ (.int .i64 n4)).setCell ⟨g + 1, 2, none⟩ (.string s4)).setCell ⟨g + 1, 3, none⟩ (.slice al4 lc cl4)).setCell ⟨g + 1, 4, none⟩ (.slice ak4 mc ck4)).heap.size = u4.heap.size := by simp
    obtain ⟨w9, hw9⟩ : ∃ w9, (((((u4.setCell ⟨g + 1, 0, none⟩ (.int .i64 k4)).setCell ⟨g + 1, 1, none⟩ (.int .i64 n4)).setCell ⟨g + 1, 2, none⟩ (.string s4)).setCell ⟨g + 1, 3, none⟩ (.slice al4 lc cl4)).setCell ⟨g + 1, 4, none⟩ (.slice ak4 mc ck4)) = w9 := ⟨_, rfl⟩
    rw [hw9] at R9 S9 ⊢
    have B9 : Below w.heap.size w w9 := by rw [← hw9]; exact five_below BW (by omega) _ _ _ _ _
    obtain ⟨r0, r1, r2, r3, r4⟩ := row_cell R9
    refine bodyPost_ret (v := .agg #[.int .i64 k4, .int .i64 n4, .string s4, .slice al4 lc cl4, .slice ak4 mc ck4]) (by simp [results, Try.results17, go_sem, r0, r1, r2, r3, r4]) rfl ?_
    have Q9 : IsQ w9 (fun b => w.heap.size ≤ b ∧ b < w9.heap.size) v (.agg #[.int .i64 k4, .int .i64 n4, .string s4, .slice al4 lc cl4, .slice ak4 mc ck4]) := ((unhide H4).2.1.move (fun q hq => by rw [← hw9]; exact O9 q (by have := hq.1; omega))).weak (fun q hq => ⟨by have := hq.1; omega, by have := hq.2; omega⟩)
    first | exact ⟨_, rfl, B9, (fun _ => Q9), fun h => by cases h⟩ | (rw [hg] at B9 Q9; exact ⟨_, rfl, B9, (fun _ => Q9), fun h => by cases h⟩) | exact ⟨_, rfl, B9, Q9⟩ | (rw [hg] at B9 Q9; exact ⟨_, rfl, B9, Q9⟩)

end Go.Proofs.Ytpdfggjhedgdlaa

namespace Go.Proofs.Ytpdfggjhedgdlaa
open Go.RowKit

/-- append of a slice of bytes onto a row of the call's own or onto nil -/
theorem app_any {w : World} {ops : Array Oper} {rest : List Oper} {o : Oper} {a : Act} {Q : Exit → Act → World → Prop} (hgd : o.guard = none) (sl x : Operand)
    (ho : o.op = .call { callee := .builtin .append, args := #[sl, x], argTypes := #[34, 34] })
    (base n : Nat) (v : Value) (xs : List Value) (hs : a.eval sl = v) (hown : w.ownsRow base 5 1 v n xs)
    (ao : Option Addr) (m c : Nat) (rs : List Int) (hx : a.eval x = .slice ao m c) (hr : Row8 w ao m c rs)
    (hbytes : n + m ≤ 140737489403904) (hbase : base ≤ w.heap.size)
    (h : ∀ v' w', w'.ownsRow base 5 1 v' (n + m) (xs ++ rs.map (Value.int .u8)) → w.grownBy w' v.ownBlock → wpList Try.prog ops Q rest (a.put o.dst v') w') :
    wpList Try.prog ops Q (o :: rest) a w := by
  obtain ⟨i0, hi, hz0, hz1, hz2⟩ := info_parts info5
  have hl := hr.length
  cases ao with
  | none =>
    obtain ⟨rfl, rfl⟩ := hr.none rfl
    have hrs : rs = [] := List.eq_nil_of_length_eq_zero hl
    subst hrs
    exact wpList_append_own_none hgd sl x 34 ho base 5 i0 1 Try.underlying34 hi v n xs hs hown hx (h v w (by simpa using hown) (World.grownBy.refl _ _))
  | some ad =>
    refine wpList_plain hgd fun K hK => ?_
    obtain ⟨v', w', hrun, h1, h2, _⟩ := run_own8 w o.type base n v xs hown ad m c rs hl (hr.cells ad rfl) hbytes hbase
    unfold Oper.wp
    simp only [execOp, ho, resolve, invoke, builtin, Sem.run_bind, Sem.run_pure, Result.andThen_ok, List.map_toArray, List.map_cons, List.map_nil, hs, hx, hrun]
    exact hK _ _ (h v' w' h1 h2)

theorem one_row (w : World) (c : Int) (h0 : 0 ≤ c) (h1 : c ≤ 255) : Row8 (w.alloc (.cells #[.int .u8 c] 5)) (some ⟨w.heap.size, 0, none⟩) 1 1 [c] := by
  refine ⟨rfl, (fun e => by cases e), ?_, by simp; omega, Nat.le_refl _⟩
  intro ad ha j u hj
  cases ha
  exact cell_one_new _ _ _ j u hj

theorem enc_bound (n : Int) (h1 : n ≤ 18446744073709551615) : n < 128 ^ (9 - 0) * 128 := by
  have e : (128 : Int) ^ (9 - 0) * 128 = 1180591620717411303424 := by decide
  omega

theorem own_grown {w w' : World} {base : Nat} {v : Value} {n : Nat} {xs : List Value} {B : Nat} {w0 : World} (hb : Below B w0 w) (hown : w.ownsRow base 5 1 v n xs) (hB : B ≤ base) (hs : B ≤ w.heap.size) (hg : w.grownBy w' v.ownBlock) : Below B w0 w' :=
  hb.grown hg hs (fun k hk => Nat.le_trans hB (hown.lt k hk).1)

set_option maxRecDepth 100000 in
set_option maxHeartbeats 1000000 in
theorem refPutUint_any (ao : Option Addr) (len cap : Nat) (n : Int) (zs : List Int) (w : World) (hr : Row8 w ao len cap zs) (hm : len + 10 ≤ 140737489403904) (h0 : 0 ≤ n) (h1 : n ≤ 18446744073709551615) :
    Calls Try.prog 57 #[.slice ao len cap, .int .u64 n] w fun e w' => ∃ g c : Nat, w.heap.size ≤ g ∧ e = .returned (.slice (some ⟨g, 0, none⟩) (len + (encF 9 n).length) c) ∧
      w'.ownsRow w.heap.size 5 1 (.slice (some ⟨g, 0, none⟩) (len + (encF 9 n).length) c) (len + (encF 9 n).length) ((zs ++ encF 9 n).map (Value.int .u8)) ∧ Below w.heap.size w w' := by
  go_enter Try.func57, Try.ntmps57
  go_wp2_with (first | (at_builtin; refine app_any rfl (.tmp 6) (.tmp 7) rfl w.heap.size 0 _ [] rfl (World.ownsRow_nil _ _ _ _) ao len cap zs rfl hr (by omega) (Nat.le_refl _) ?_; intro v1 w1 hown1 hgrow1; simp only [Nat.zero_add, List.nil_append] at hown1))
  have hb1 := own_grown (Below.refl w.heap.size w) (World.ownsRow_nil w w.heap.size 5 1) (Nat.le_refl _) (Nat.le_refl _) hgrow1
  clear hgrow1 hr
  go_loopw [1, 5] (fun x v wr => ∃ (j : Nat) (m : Int) (ys : List Value), j ≤ 9 ∧ x = .int .u64 m ∧ 0 ≤ m ∧ m ≤ 18446744073709551615 ∧
      wr.ownsRow w.heap.size 5 1 v (len + j) ys ∧ Hid ((zs ++ encF 9 n).map (Value.int .u8) = ys ++ (encF (9 - j) m).map (Value.int .u8)) ∧ Hid ((encF 9 n).length = j + (encF (9 - j) m).length) ∧ Hid (m < 128 ^ (9 - j) * 128) ∧ Below w.heap.size w wr)
    (fun x _ _ => (intOf x).toNat)
  case atStart => exact ⟨0, n, zs.map (Value.int .u8), by omega, rfl, h0, h1, hown1, hide (by simp), hide (by simp), hide (enc_bound n h1), hb1⟩
  case round =>
    clear hown1 hb1
    obtain ⟨j, m, ys, hj, rfl, m0, m1, hown, HE, HL, HM, hbel⟩ := hrel
    have hsz := hbel.size
    by_cases hm' : m < 128
    · have r1 := one_row wr m m0 (by omega)
      go_wp2_with (first | (at_builtin; refine app_any rfl (.tmp 20) (.tmp 23) rfl w.heap.size (len + j) _ ys rfl (hown.alloc _) _ 1 1 [m] rfl r1 (by omega) (by simp; omega) ?_; intro v2 w2 hown2 hgrow2))
      have e := enc_last j m (Or.inl hm')
      have eL : len + (encF 9 n).length = len + j + 1 := by rw [unhide HL, e]; simp; omega
      have eX : (zs ++ encF 9 n).map (Value.int .u8) = ys ++ [m].map (Value.int .u8) := by rw [unhide HE, e]
      obtain ⟨g, c, hv, hg⟩ := own_form hown2 (by omega)
      have hb2 := own_grown (hbel.alloc hsz _) (hown.alloc _) (Nat.le_refl _) (by simp; omega) hgrow2
      rw [hv] at hown2
      go_ret
      rw [eL, eX]
      exact ⟨g, c, hg, ret_val hv, hown2, hb2⟩
    · have hj9 : j < 9 := by
        rcases Nat.lt_or_ge j 9 with h | h
        · exact h
        · have e : 9 - j = 0 := by omega
          have := unhide HM
          rw [e] at this
          simp at this
          omega
      have r1 := one_row wr (m % 128 + 128) (by omega) (by omega)
      go_wp2_with (first | (at_builtin; refine app_any rfl (.tmp 11) (.tmp 16) rfl w.heap.size (len + j) _ ys rfl (hown.alloc _) _ 1 1 [m % 128 + 128] rfl r1 (by omega) (by simp; omega) ?_; intro v2 w2 hown2 hgrow2))
      have hb2 := own_grown (hbel.alloc hsz _) (hown.alloc _) (Nat.le_refl _) (by simp; omega) hgrow2
      go_roundw
      case rel =>
        have e := enc_step j m hj9 hm'
        refine ⟨j + 1, m / 128, ys ++ [m % 128 + 128].map (Value.int .u8), by omega, by go_num, by omega, by omega, hown2, hide ?_, hide ?_, hide ?_, hb2⟩
        · rw [unhide HE, e]; simp
        · rw [unhide HL, e]; simp; omega
        · have hm2 := unhide HM
          have e9 : 9 - j = 9 - (j + 1) + 1 := by omega
          rw [e9, Int.pow_succ] at hm2
          omega
      case measure => simp [intOf]; omega

theorem refPutUint_int (ao : Option Addr) (len cap : Nat) (n N : Int) (hN : N = n) (zs : List Int) (w : World) (hr : Row8 w ao len cap zs) (hm : len + 10 ≤ 140737489403904) (h0 : 0 ≤ n) (h1 : n ≤ 18446744073709551615) :
    Calls Try.prog 57 #[.slice ao len cap, .int .u64 N] w fun e w' => ∃ g c : Nat, w.heap.size ≤ g ∧ e = .returned (.slice (some ⟨g, 0, none⟩) (len + (encF 9 n).length) c) ∧
      w'.ownsRow w.heap.size 5 1 (.slice (some ⟨g, 0, none⟩) (len + (encF 9 n).length) c) (len + (encF 9 n).length) ((zs ++ encF 9 n).map (Value.int .u8)) ∧ Below w.heap.size w w' := by
  subst hN
  exact refPutUint_any ao len cap N zs w hr hm h0 h1

set_option maxRecDepth 100000 in
set_option maxHeartbeats 400000 in
theorem refPutInt_any (ao : Option Addr) (len cap : Nat) (n : Int) (zs : List Int) (w : World) (hr : Row8 w ao len cap zs) (hm : len + 10 ≤ 140737489403904) (h0 : -9223372036854775808 ≤ n) (h1 : n ≤ 9223372036854775807) :
    Calls Try.prog 78 #[.slice ao len cap, .int .i64 n] w fun e w' => ∃ g c : Nat, w.heap.size ≤ g ∧ e = .returned (.slice (some ⟨g, 0, none⟩) (len + (encF 9 (foldI n)).length) c) ∧
      w'.ownsRow w.heap.size 5 1 (.slice (some ⟨g, 0, none⟩) (len + (encF 9 (foldI n)).length) c) (len + (encF 9 (foldI n)).length) ((zs ++ encF 9 (foldI n)).map (Value.int .u8)) ∧ Below w.heap.size w w' := by
  have f0 : 0 ≤ foldI n := by unfold foldI; split <;> omega
  have f1 : foldI n ≤ 18446744073709551615 := by unfold foldI; split <;> omega
  by_cases hn : n < 0
  · have e := foldI_neg n hn
    have HE := hide e
    clear e
    go_enter Try.func78, Try.ntmps78
    go_wp2_with fail
    refine (refPutUint_int ao len cap (foldI n) _ (by rw [unhide HE]; omega) zs w hr hm f0 f1).mono ?_
    rintro e w1 ⟨g, c, hg, rfl, hown, hb⟩
    go_wp2_with fail
    go_ret
    exact ⟨g, c, hg, rfl, hown, hb⟩
  · have e := foldI_pos n hn
    have HE := hide e
    clear e
    go_enter Try.func78, Try.ntmps78
    go_wp2_with fail
    refine (refPutUint_int ao len cap (foldI n) _ (by rw [unhide HE]; omega) zs w hr hm f0 f1).mono ?_
    rintro e w1 ⟨g, c, hg, rfl, hown, hb⟩
    go_wp2_with fail
    go_ret
    exact ⟨g, c, hg, rfl, hown, hb⟩

set_option maxRecDepth 100000 in
set_option maxHeartbeats 400000 in
theorem refPutText_any (ao : Option Addr) (len cap : Nat) (s : ByteArray) (zs : List Int) (w : World) (hr : Row8 w ao len cap zs) (hm : len + 10 + s.size ≤ 140737489403904) :
    Calls Try.prog 59 #[.slice ao len cap, .string s] w fun e w' => ∃ g c : Nat, w.heap.size ≤ g ∧ e = .returned (.slice (some ⟨g, 0, none⟩) (len + (encF 9 s.size).length + s.size) c) ∧
      w'.ownsRow w.heap.size 5 1 (.slice (some ⟨g, 0, none⟩) (len + (encF 9 s.size).length + s.size) c) (len + (encF 9 s.size).length + s.size) ((zs ++ encF 9 s.size ++ nums s).map (Value.int .u8)) ∧ Below w.heap.size w w' := by
  have hL := encF_len 9 (s.size : Int)
  go_enter Try.func59, Try.ntmps59
  go_wp2_with fail
  refine (refPutUint_int ao len cap (s.size : Int) _ (by omega) zs w hr (by omega) (by omega) (by omega)).mono ?_
  rintro e w2 ⟨g, c, hg, rfl, hown2, hb2⟩
  have hs2 := hb2.size
  clear hr
  go_wp2_with (first | (at_builtin; refine app_string8 rfl (.tmp 11) (.tmp 12) rfl w.heap.size g (len + (encF 9 (s.size : Int)).length) c _ rfl hown2 (by omega) s rfl (by omega) hs2 ?_; intro g' c' w3 hg3 hown3 hgrow3))
  rw [← List.map_append] at hown3
  go_ret
  exact ⟨g', c', hg3, rfl, hown3, hb2.grown hgrow3 hs2 (by simp; omega)⟩
end Go.Proofs.Ytpdfggjhedgdlaa
