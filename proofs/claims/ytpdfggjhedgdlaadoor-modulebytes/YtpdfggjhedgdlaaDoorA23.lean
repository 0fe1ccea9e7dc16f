/-
  A lent value lies as a value does; Lent and Still of a value that is not right; conditions: the form's own reach.
  Lent and Still of any value, each with one contract; conditions: the form's own reach.
  The walks of the document's own PutUint, PutInt, PutText: what each lays, in new memory; condition: the lengths together are below 2^47 and a million.
-/
import Derived.Test.YtpdfggjhedgdlaaDoorA19
import Derived.Test.YtpdfggjhedgdlaaDoorA22
import Derived.Test.YtpdfggjhedgdlaaDoorA01
namespace Go.Proofs.YtpdfggjhedgdlaaDoor
open Go.RowKit
set_option linter.unusedVariables false
set_option linter.unusedSimpArgs false

theorem add_two (b i j : Nat) : ((⟨b, 0, none⟩ : Addr).add i).add j = ⟨b, i + j, none⟩ := by
  unfold Addr.add
  by_cases h0 : i = 0
  · by_cases h1 : j = 0
    · simp [h0, h1]
    · simp [h0, h1]
  · by_cases h1 : j = 0
    · simp [h0, h1]
    · simp [h0, h1]

theorem add_zero1 (b i : Nat) : (⟨b, 0, none⟩ : Addr).add i = ⟨b, i, none⟩ := by
  unfold Addr.add
  split <;> simp_all

theorem ln_isP {w w0 : World} {P P0 : Nat → Prop} : ∀ (d : Nat) (v : Vl) (x y : Value), dep v ≤ d → Ln w P v x → IsP w0 P0 v y → IsP w P v x
  | 0, v, x, y, hd, _, _ => by have := dep_pos v; omega
  | d + 1, v, x, y, hd, h, h0 => by
    obtain ⟨k, n, s, l, ks, al, ak, cl, ck, V0, rfl, rfl, hf0, el0⟩ := h0.inv
    obtain ⟨bl, bk, V, hx, hf, hl⟩ := h
    have el := (LnL_iff w P l V).1 hl
    have hx' : x = .agg #[.int .i64 k, .int .i64 n, .string s, .slice (some ⟨bl, 0, none⟩) l.length (l.length + 4), .slice (some ⟨bk, 0, none⟩) ks.length (ks.length + 4)] := hx
    rw [hx']
    refine IsP.of (V := V) ⟨hf0.bk, hf0.bn, hf0.bs, (fun e => by cases e), (fun e => by cases e), Nat.le_add_right _ _, Nat.le_add_right _ _, hf0.bl, hf0.bc, hf0.bq, ?_, fun i hi => hf.hv i (Nat.lt_of_lt_of_le hi (Nat.le_add_right _ _)), ?_, hf0.bt⟩ (fun i z hz => ln_isP d z _ _ (by have h1 := dep_elem l i z hz; simp only [dep] at hd; omega) (el i z hz) (el0 i z hz))
    · intro a ha i hi
      cases ha
      refine ⟨hf.pl, fun j u hu => ?_⟩
      rw [add_two]
      exact hf.cells (i := i) (Nat.lt_of_lt_of_le hi (Nat.le_add_right _ _)) j u hu
    · intro a ha i t ht
      cases ha
      refine ⟨hf.pk, ?_⟩
      rw [add_zero1]
      exact hf.key i _ (rowK_at ks i t ht)

theorem Ln.isV {w w0 : World} {P P0 : Nat → Prop} {B : Nat} {v : Vl} {x y : Value} (h : Ln w P v x) (h0 : IsP w0 P0 v y) (hP : ∀ b, P b → b < B) : IsV w B v x := (ln_isP (dep v) v x y (Nat.le_refl _) h h0).isV hP

set_option maxRecDepth 100000 in
set_option maxHeartbeats 1000000 in
theorem lent_no (v : Vl) (x : Value) (B : Nat) (w : World) (hR : rightB v = false) (hv : IsV w B v x) (hBs : B ≤ w.heap.size) :
    Calls Tryd.prog 12 #[x, .int .i64 0] w fun e w' => e = .returned x ∧ Below w.heap.size w w' := by
  obtain ⟨k, n, s, l, ks, al, ak, cl, ck, rfl, rfl⟩ := hv.shape
  obtain ⟨m, hm⟩ : ∃ m, ks.length = m := ⟨_, rfl⟩
  obtain ⟨ln, hln⟩ : ∃ ln, l.length = ln := ⟨_, rfl⟩
  rw [hm, hln] at hv ⊢
  obtain ⟨g, hg⟩ : ∃ g, w.heap.size = g := ⟨_, rfl⟩
  have T3 := Three.mk' w g hg #[.int .i64 k, .int .i64 n, .string s, .slice al ln cl, .slice ak m ck] #[.int .i64 0, .int .i64 0, .string ⟨#[]⟩, .slice none 0 0, .slice none 0 0] #[.int .i64 k, .int .i64 n, .string s, .slice al ln cl, .slice ak m ck]
  go_enter Tryd.func12, Tryd.ntmps12
  obtain ⟨w0, hw0⟩ : ∃ w0, ((w.alloc (.cells #[.int .i64 k, .int .i64 n, .string s, .slice al ln cl, .slice ak m ck] 40)).alloc (.cells #[.int .i64 0, .int .i64 0, .string ⟨#[]⟩, .slice none 0 0, .slice none 0 0] 40)).alloc (.cells #[.int .i64 k, .int .i64 n, .string s, .slice al ln cl, .slice ak m ck] 40) = w0 := ⟨_, rfl⟩
  rw [hw0] at T3
  have CR := hide (right_ref (.mk k n s l ks) _ B w0 (IsV.mono (T3.below.mono (by omega)) hv) (by have := T3.size; omega))
  rw [hR] at CR
  go_upto_region 2 with fail
  obtain ⟨a0, a1, a2, a3, a4⟩ := row_cell T3.at0
  have H0 := hide T3
  clear T3 hw0 hv hm hln
  go_wp2_with fail
  refine (unhide CR).mono ?_
  rintro e w3 ⟨rfl, b3⟩
  have zz := (unhide H0).size
  have H3 : Hid (w3.heap[g + 1]? = some (.cells #[.int .i64 0, .int .i64 0, .string ⟨#[]⟩, .slice none 0 0, .slice none 0 0] 40 (0, 0)) ∧ w3.heap[g + 1 + 1]? = some (.cells #[.int .i64 k, .int .i64 n, .string s, .slice al ln cl, .slice ak m ck] 40 (0, 0)) ∧ Below g w w3) := hide ⟨(b3.block (g + 1) (by omega)).trans (unhide H0).at1, (b3.block (g + 1 + 1) (by omega)).trans (unhide H0).at2, (unhide H0).below.trans (b3.mono (by omega))⟩
  clear b3 zz H0 CR a0 a1 a2 a3 a4
  obtain ⟨c0, c1, c2, c3, c4⟩ := row_cell (unhide H3).2.1
  obtain ⟨z0, z1, z2, z3, z4⟩ := row_cell (unhide H3).1
  have fz : ∀ q, w3.frozen? ⟨g + 1, q, none⟩ = false := fun q => frozen_of_row w3 (g + 1) q _ _ (unhide H3).1
  have fz0 := fz 0
  have fz1 := fz 1
  have fz2 := fz 2
  have fz3 := fz 3
  have fz4 := fz 4
  clear fz
  go_wp2_with fail
  have F9 := five_set w3 (g + 1) 40 _ _ _ _ _ (.int .i64 k) (.int .i64 n) (.string s) (.slice al ln cl) (.slice ak m ck) (unhide H3).1
  have B9 := five_below (g := g + 1) (unhide H3).2.2 (by omega) (.int .i64 k) (.int .i64 n) (.string s) (.slice al ln cl) (.slice ak m ck)
  obtain ⟨w9, hw9⟩ : ∃ w9, (((((w3.setCell ⟨g + 1, 0, none⟩ (.int .i64 k)).setCell ⟨g + 1, 1, none⟩ (.int .i64 n)).setCell ⟨g + 1, 2, none⟩ (.string s)).setCell ⟨g + 1, 3, none⟩ (.slice al ln cl)).setCell ⟨g + 1, 4, none⟩ (.slice ak m ck)) = w9 := ⟨_, rfl⟩
  rw [hw9] at F9 B9 ⊢
  obtain ⟨t0, t1, t2, t3, t4⟩ := row_cell F9
  refine bodyPost_ret (v := .agg #[.int .i64 k, .int .i64 n, .string s, .slice al ln cl, .slice ak m ck]) (by simp [results, Tryd.results12, go_sem, t0, t1, t2, t3, t4]) rfl ?_
  exact ⟨rfl, by first | exact B9 | (rw [hg]; exact B9)⟩

set_option maxRecDepth 100000 in
set_option maxHeartbeats 1000000 in
theorem still_no (v : Vl) (x y : Value) (B : Nat) (w : World) (hR : rightB v = false) (hx : ∃ k n s al ll cl ak m ck, x = .agg #[.int .i64 k, .int .i64 n, .string s, .slice al ll cl, .slice ak m ck]) (hv : IsV w B v y) (hBs : B ≤ w.heap.size) :
    Calls Tryd.prog 18 #[x, y, .int .i64 0] w fun e w' => e = .returned (.bool true) ∧ Below w.heap.size w w' := by
  obtain ⟨k, n, s, l, ks, al, ak, cl, ck, rfl, rfl⟩ := hv.shape
  obtain ⟨xk, xn, xs, xal, xl, xcl, xak, xm, xck, rfl⟩ := hx
  obtain ⟨m, hm⟩ : ∃ m, ks.length = m := ⟨_, rfl⟩
  obtain ⟨ln, hln⟩ : ∃ ln, l.length = ln := ⟨_, rfl⟩
  rw [hm, hln] at hv ⊢
  have TW := Two.mk' w 40 #[.int .i64 xk, .int .i64 xn, .string xs, .slice xal xl xcl, .slice xak xm xck] #[.int .i64 k, .int .i64 n, .string s, .slice al ln cl, .slice ak m ck]
  obtain ⟨w2, hw2⟩ : ∃ w2, (w.alloc (.cells #[.int .i64 xk, .int .i64 xn, .string xs, .slice xal xl xcl, .slice xak xm xck] 40)).alloc (.cells #[.int .i64 k, .int .i64 n, .string s, .slice al ln cl, .slice ak m ck] 40) = w2 := ⟨_, rfl⟩
  rw [hw2] at TW
  have CR := hide (right_ref _ _ B w2 (hv.mono (TW.below.mono hBs)) (Nat.le_trans hBs TW.below.size))
  rw [hR] at CR
  obtain ⟨g, hg⟩ : ∃ g, w.heap.size = g := ⟨_, rfl⟩
  rw [hg] at TW
  have HT := hide TW
  obtain ⟨d0, d1, d2, d3, d4⟩ := row_cell (unhide HT).at1
  have j0 : ¬ (0 : Int) < ((0 : Nat) : Int) := by omega
  clear TW hv hm hln
  go_enter Tryd.func18, Tryd.ntmps18
  go_upto_region 1 with fail
  try rw [hw2]
  clear hw2
  go_wp2_with fail
  refine (unhide CR).mono ?_
  rintro e u ⟨rfl, b⟩
  have HB := hide ((unhide HT).below.trans (b.mono (by have := (unhide HT).below.size; omega)))
  clear b CR
  go_wp2_with fail
  go_ret
  exact ⟨rfl, by first | exact unhide HB | (rw [← hg]; exact unhide HB) | (rw [hg]; exact unhide HB)⟩
end Go.Proofs.YtpdfggjhedgdlaaDoor

namespace Go.Proofs.YtpdfggjhedgdlaaDoor
open Go.RowKit
set_option linter.unusedVariables false

theorem shape9 {w : World} {P : Nat → Prop} {v : Vl} {x : Value} (h : IsP w P v x) : ∃ p0 p1 p2 p3 p4 p5 p6 p7 p8, x = .agg #[.int .i64 p0, .int .i64 p1, .string p2, .slice p3 p4 p5, .slice p6 p7 p8] := by
  obtain ⟨k, n, s, l, ks, al, ak, cl, ck, _, e⟩ := h.shape
  exact ⟨_, _, _, _, _, _, _, _, _, e⟩

/-- a value that was lent; one that is not right, as it is -/
def LentOk (u : World) (lo hi : Nat) (v : Vl) (x y : Value) : Prop := (rightB v = true ∧ Ln u (fun b => lo ≤ b ∧ b < hi) v y) ∨ (rightB v = false ∧ y = x)

theorem LentOk.to {u u1 : World} {lo hi : Nat} {v : Vl} {x y : Value} (h : LentOk u lo hi v x y) (hu : ∀ b, lo ≤ b → b < hi → u1.heap[b]? = u.heap[b]?) : LentOk u1 lo hi v x y := by
  rcases h with ⟨h1, h2⟩ | h
  · exact Or.inl ⟨h1, h2.to (fun b hb => hu b hb.1 hb.2) (fun _ h => h)⟩
  · exact Or.inr h

theorem LentOk.isV {u : World} {lo hi g B : Nat} {v : Vl} {x y : Value} (h : LentOk u lo hi v x y) (hx : IsV u g v x) (h1 : hi ≤ B) (h2 : g ≤ B) : IsV u B v y := by
  rcases h with ⟨_, h⟩ | ⟨_, rfl⟩
  · exact h.isV hx (fun b hb => by omega)
  · exact hx.lift h2

theorem lent_both (v : Vl) (x : Value) (B : Nat) (w : World) (hv : IsV w B v x) (hBs : B ≤ w.heap.size) :
    Calls Tryd.prog 12 #[x, .int .i64 0] w fun e w' => ∃ x', e = .returned x' ∧ LentOk w' w.heap.size w'.heap.size v x x' ∧ Below w.heap.size w w' := by
  cases hR : rightB v with
  | true =>
    refine (lent_yes v x B w hR hv hBs).mono ?_
    rintro e w' ⟨x', rfl, h, b⟩
    exact ⟨x', rfl, Or.inl ⟨hR, h⟩, b⟩
  | false =>
    refine (lent_no v x B w hR hv hBs).mono ?_
    rintro e w' ⟨rfl, b⟩
    exact ⟨x, rfl, Or.inr ⟨hR, rfl⟩, b⟩

theorem still_both (v : Vl) (x y : Value) (lo hi g : Nat) (w : World) (h : LentOk w lo hi v x y) (hv : IsV w g v x) (hg : g ≤ w.heap.size) (hh : hi ≤ w.heap.size) :
    Calls Tryd.prog 18 #[y, x, .int .i64 0] w fun e w' => e = .returned (.bool true) ∧ Below w.heap.size w w' := by
  rcases h with ⟨hR, h⟩ | ⟨hR, rfl⟩
  · exact still_any (dep v) v y x g 0 _ w (Nat.le_refl _) (by have := dep_of_right hR; omega) (fun _ => hR) h (fun b hb => by omega) hv hg
  · exact still_no v y y g w hR (shape9 hv) hv hg
end Go.Proofs.YtpdfggjhedgdlaaDoor

namespace Go.Proofs.YtpdfggjhedgdlaaDoor
open Go.RowKit

/-- append of a slice of bytes onto a row of the call's own or onto nil -/
theorem app_any {w : World} {ops : Array Oper} {rest : List Oper} {o : Oper} {a : Act} {Q : Exit → Act → World → Prop} (hgd : o.guard = none) (sl x : Operand)
    (ho : o.op = .call { callee := .builtin .append, args := #[sl, x], argTypes := #[30, 30] })
    (base n : Nat) (v : Value) (xs : List Value) (hs : a.eval sl = v) (hown : w.ownsRow base 5 1 v n xs)
    (ao : Option Addr) (m c : Nat) (rs : List Int) (hx : a.eval x = .slice ao m c) (hr : Row8 w ao m c rs)
    (hbytes : n + m ≤ 140737489403904) (hbase : base ≤ w.heap.size)
    (h : ∀ v' w', w'.ownsRow base 5 1 v' (n + m) (xs ++ rs.map (Value.int .u8)) → w.grownBy w' v.ownBlock → wpList Tryd.prog ops Q rest (a.put o.dst v') w') :
    wpList Tryd.prog ops Q (o :: rest) a w := by
  obtain ⟨i0, hi, hz0, hz1, hz2⟩ := info_parts info5
  have hl := hr.length
  cases ao with
  | none =>
    obtain ⟨rfl, rfl⟩ := hr.none rfl
    have hrs : rs = [] := List.eq_nil_of_length_eq_zero hl
    subst hrs
    exact wpList_append_own_none hgd sl x 30 ho base 5 i0 1 Tryd.underlying30 hi v n xs hs hown hx (h v w (by simpa using hown) (World.grownBy.refl _ _))
  | some ad =>
    refine wpList_plain hgd fun K hK => ?_
    obtain ⟨v', w', hrun, h1, h2, _⟩ := run_own8 w o.type base n v xs hown ad m c rs hl (hr.cells ad rfl) hbytes hbase
    unfold Oper.wp
    simp only [execOp, ho, resolve, invoke, builtin, Sem.run_bind, Sem.run_pure, Result.andThen_ok, List.map_toArray, List.map_cons, List.map_nil, hs, hx, hrun]
    exact hK _ _ (h v' w' h1 h2)

theorem one_row (w : World) (c : Int) (h0 : 0 ≤ c) (h1 : c ≤ 255) : Row8 (w.alloc (.cells #[.int .u8 c] 5)) (some ⟨w.heap.size, 0, none⟩) 1 1 [c] := by
  refine ⟨rfl, (fun e => by cases e), ?_, by simp; omega, Nat.le_refl _⟩
  intro ad ha j u hj
  cases ha
  exact cell_one_new _ _ _ j u hj

theorem enc_bound (n : Int) (h1 : n ≤ 18446744073709551615) : n < 128 ^ (9 - 0) * 128 := by
  have e : (128 : Int) ^ (9 - 0) * 128 = 1180591620717411303424 := by decide
  omega

theorem own_grown {w w' : World} {base : Nat} {v : Value} {n : Nat} {xs : List Value} {B : Nat} {w0 : World} (hb : Below B w0 w) (hown : w.ownsRow base 5 1 v n xs) (hB : B ≤ base) (hs : B ≤ w.heap.size) (hg : w.grownBy w' v.ownBlock) : Below B w0 w' :=
  hb.grown hg hs (fun k hk => Nat.le_trans hB (hown.lt k hk).1)

set_option maxRecDepth 100000 in
set_option maxHeartbeats 1000000 in
theorem refPutUint_any (ao : Option Addr) (len cap : Nat) (n : Int) (zs : List Int) (w : World) (hr : Row8 w ao len cap zs) (hm : len + 10 ≤ 140737489403904) (h0 : 0 ≤ n) (h1 : n ≤ 18446744073709551615) :
    Calls Tryd.prog 27 #[.slice ao len cap, .int .u64 n] w fun e w' => ∃ g c : Nat, w.heap.size ≤ g ∧ e = .returned (.slice (some ⟨g, 0, none⟩) (len + (encF 9 n).length) c) ∧
      w'.ownsRow w.heap.size 5 1 (.slice (some ⟨g, 0, none⟩) (len + (encF 9 n).length) c) (len + (encF 9 n).length) ((zs ++ encF 9 n).map (Value.int .u8)) ∧ Below w.heap.size w w' := by
  go_enter Tryd.func27, Tryd.ntmps27
  go_wp2_with (first | (at_builtin; refine app_any rfl (.tmp 6) (.tmp 7) rfl w.heap.size 0 _ [] rfl (World.ownsRow_nil _ _ _ _) ao len cap zs rfl hr (by omega) (Nat.le_refl _) ?_; intro v1 w1 hown1 hgrow1; simp only [Nat.zero_add, List.nil_append] at hown1))
  have hb1 := own_grown (Below.refl w.heap.size w) (World.ownsRow_nil w w.heap.size 5 1) (Nat.le_refl _) (Nat.le_refl _) hgrow1
  clear hgrow1 hr
  go_loopw [1, 5] (fun x v wr => ∃ (j : Nat) (m : Int) (ys : List Value), j ≤ 9 ∧ x = .int .u64 m ∧ 0 ≤ m ∧ m ≤ 18446744073709551615 ∧
      wr.ownsRow w.heap.size 5 1 v (len + j) ys ∧ Hid ((zs ++ encF 9 n).map (Value.int .u8) = ys ++ (encF (9 - j) m).map (Value.int .u8)) ∧ Hid ((encF 9 n).length = j + (encF (9 - j) m).length) ∧ Hid (m < 128 ^ (9 - j) * 128) ∧ Below w.heap.size w wr)
    (fun x _ _ => (intOf x).toNat)
  case atStart => exact ⟨0, n, zs.map (Value.int .u8), by omega, rfl, h0, h1, hown1, hide (by simp), hide (by simp), hide (enc_bound n h1), hb1⟩
  case round =>
    clear hown1 hb1
    obtain ⟨j, m, ys, hj, rfl, m0, m1, hown, HE, HL, HM, hbel⟩ := hrel
    have hsz := hbel.size
    by_cases hm' : m < 128
    · have r1 := one_row wr m m0 (by omega)
      go_wp2_with (first | (at_builtin; refine app_any rfl (.tmp 20) (.tmp 23) rfl w.heap.size (len + j) _ ys rfl (hown.alloc _) _ 1 1 [m] rfl r1 (by omega) (by simp; omega) ?_; intro v2 w2 hown2 hgrow2))
      have e := enc_last j m (Or.inl hm')
      have eL : len + (encF 9 n).length = len + j + 1 := by rw [unhide HL, e]; simp; omega
      have eX : (zs ++ encF 9 n).map (Value.int .u8) = ys ++ [m].map (Value.int .u8) := by rw [unhide HE, e]
      obtain ⟨g, c, hv, hg⟩ := own_form hown2 (by omega)
      have hb2 := own_grown (hbel.alloc hsz _) (hown.alloc _) (Nat.le_refl _) (by simp; omega) hgrow2
      rw [hv] at hown2
      go_ret
      rw [eL, eX]
      exact ⟨g, c, hg, ret_val hv, hown2, hb2⟩
    · have hj9 : j < 9 := by
        rcases Nat.lt_or_ge j 9 with h | h
        · exact h
        · have e : 9 - j = 0 := by omega
          have := unhide HM
          rw [e] at this
          simp at this
          omega
      have r1 := one_row wr (m % 128 + 128) (by omega) (by omega)
      go_wp2_with (first | (at_builtin; refine app_any rfl (.tmp 11) (.tmp 16) rfl w.heap.size (len + j) _ ys rfl (hown.alloc _) _ 1 1 [m % 128 + 128] rfl r1 (by omega) (by simp; omega) ?_; intro v2 w2 hown2 hgrow2))
      have hb2 := own_grown (hbel.alloc hsz _) (hown.alloc _) (Nat.le_refl _) (by simp; omega) hgrow2
      go_roundw
      case rel =>
        have e := enc_step j m hj9 hm'
        refine ⟨j + 1, m / 128, ys ++ [m % 128 + 128].map (Value.int .u8), by omega, by go_num, by omega, by omega, hown2, hide ?_, hide ?_, hide ?_, hb2⟩
        · rw [unhide HE, e]; simp
        · rw [unhide HL, e]; simp; omega
        · have hm2 := unhide HM
          have e9 : 9 - j = 9 - (j + 1) + 1 := by omega
          rw [e9, Int.pow_succ] at hm2
          omega
      case measure => simp [intOf]; omega

theorem refPutUint_int (ao : Option Addr) (len cap : Nat) (n N : Int) (hN : N = n) (zs : List Int) (w : World) (hr : Row8 w ao len cap zs) (hm : len + 10 ≤ 140737489403904) (h0 : 0 ≤ n) (h1 : n ≤ 18446744073709551615) :
    Calls Tryd.prog 27 #[.slice ao len cap, .int .u64 N] w fun e w' => ∃ g c : Nat, w.heap.size ≤ g ∧ e = .returned (.slice (some ⟨g, 0, none⟩) (len + (encF 9 n).length) c) ∧
      w'.ownsRow w.heap.size 5 1 (.slice (some ⟨g, 0, none⟩) (len + (encF 9 n).length) c) (len + (encF 9 n).length) ((zs ++ encF 9 n).map (Value.int .u8)) ∧ Below w.heap.size w w' := by
  subst hN
  exact refPutUint_any ao len cap N zs w hr hm h0 h1

set_option maxRecDepth 100000 in
set_option maxHeartbeats 400000 in
theorem refPutInt_any (ao : Option Addr) (len cap : Nat) (n : Int) (zs : List Int) (w : World) (hr : Row8 w ao len cap zs) (hm : len + 10 ≤ 140737489403904) (h0 : -9223372036854775808 ≤ n) (h1 : n ≤ 9223372036854775807) :
    Calls Tryd.prog 67 #[.slice ao len cap, .int .i64 n] w fun e w' => ∃ g c : Nat, w.heap.size ≤ g ∧ e = .returned (.slice (some ⟨g, 0, none⟩) (len + (encF 9 (foldI n)).length) c) ∧
      w'.ownsRow w.heap.size 5 1 (.slice (some ⟨g, 0, none⟩) (len + (encF 9 (foldI n)).length) c) (len + (encF 9 (foldI n)).length) ((zs ++ encF 9 (foldI n)).map (Value.int .u8)) ∧ Below w.heap.size w w' := by
  have f0 : 0 ≤ foldI n := by unfold foldI; split <;> omega
  have f1 : foldI n ≤ 18446744073709551615 := by unfold foldI; split <;> omega
  by_cases hn : n < 0
  · have e := foldI_neg n hn
    have HE := hide e
    clear e
    go_enter Tryd.func67, Tryd.ntmps67
    go_wp2_with fail
    refine (refPutUint_int ao len cap (foldI n) _ (by rw [unhide HE]; omega) zs w hr hm f0 f1).mono ?_
    rintro e w1 ⟨g, c, hg, rfl, hown, hb⟩
    go_wp2_with fail
    go_ret
    exact ⟨g, c, hg, rfl, hown, hb⟩
  · have e := foldI_pos n hn
    have HE := hide e
    clear e
    go_enter Tryd.func67, Tryd.ntmps67
    go_wp2_with fail
    refine (refPutUint_int ao len cap (foldI n) _ (by rw [unhide HE]; omega) zs w hr hm f0 f1).mono ?_
    rintro e w1 ⟨g, c, hg, rfl, hown, hb⟩
    go_wp2_with fail
    go_ret
    exact ⟨g, c, hg, rfl, hown, hb⟩

set_option maxRecDepth 100000 in
set_option maxHeartbeats 400000 in
theorem refPutText_any (ao : Option Addr) (len cap : Nat) (s : ByteArray) (zs : List Int) (w : World) (hr : Row8 w ao len cap zs) (hm : len + 10 + s.size ≤ 140737489403904) :
    Calls Tryd.prog 29 #[.slice ao len cap, .string s] w fun e w' => ∃ g c : Nat, w.heap.size ≤ g ∧ e = .returned (.slice (some ⟨g, 0, none⟩) (len + (encF 9 s.size).length + s.size) c) ∧
      w'.ownsRow w.heap.size 5 1 (.slice (some ⟨g, 0, none⟩) (len + (encF 9 s.size).length + s.size) c) (len + (encF 9 s.size).length + s.size) ((zs ++ encF 9 s.size ++ nums s).map (Value.int .u8)) ∧ Below w.heap.size w w' := by
  have hL := encF_len 9 (s.size : Int)
  go_enter Tryd.func29, Tryd.ntmps29
  go_wp2_with fail
  refine (refPutUint_int ao len cap (s.size : Int) _ (by omega) zs w hr (by omega) (by omega) (by omega)).mono ?_
  rintro e w2 ⟨g, c, hg, rfl, hown2, hb2⟩
  have hs2 := hb2.size
  clear hr
  go_wp2_with (first | (at_builtin; refine app_string8 rfl (.tmp 11) (.tmp 12) rfl w.heap.size g (len + (encF 9 (s.size : Int)).length) c _ rfl hown2 (by omega) s rfl (by omega) hs2 ?_; intro g' c' w3 hg3 hown3 hgrow3))
  rw [← List.map_append] at hown3
  go_ret
  exact ⟨g', c', hg3, rfl, hown3, hb2.grown hgrow3 hs2 (by simp; omega)⟩
end Go.Proofs.YtpdfggjhedgdlaaDoor
