/-
  A lent value lies as a value does; Lent and Still of a value that is not right; conditions: the form's own reach.
  Lent and Still of any value, each with one contract; conditions: the form's own reach.
  The two rows of a value that is its owner's, as rows of the call's own; no conditions.
  append of one element of any type onto a row of the call's own; no conditions.
-/
import Derived.Test.YtpdfggjhedgdlaaA19
import Derived.Test.YtpdfggjhedgdlaaA22
import Derived.Test.YtpdfggjhedgdlaaA14
import Derived.Deep.AppendLies
namespace Go.Proofs.Ytpdfggjhedgdlaa
open Go.RowKit
set_option linter.unusedVariables false
set_option linter.unusedSimpArgs false

theorem add_two (b i j : Nat) : ((⟨b, 0, none⟩ : Addr).add i).add j = ⟨b, i + j, none⟩ := by
  unfold Addr.add
  by_cases h0 : i = 0
  · by_cases h1 : j = 0
    · simp [h0, h1]
    · simp [h0, h1]
  · by_cases h1 : j = 0
    · simp [h0, h1]
    · simp [h0, h1]

theorem add_zero1 (b i : Nat) : (⟨b, 0, none⟩ : Addr).add i = ⟨b, i, none⟩ := by
  unfold Addr.add
  split <;> simp_all

theorem ln_isP {w w0 : World} {P P0 : Nat → Prop} : ∀ (d : Nat) (v : Vl) (x y : Value), dep v ≤ d → Ln w P v x → IsP w0 P0 v y → IsP w P v x
  | 0, v, x, y, hd, _, _ => by have := dep_pos v; omega
  | d + 1, v, x, y, hd, h, h0 => by
    obtain ⟨k, n, s, l, ks, al, ak, cl, ck, V0, rfl, rfl, hf0, el0⟩ := h0.inv
    obtain ⟨bl, bk, V, hx, hf, hl⟩ := h
    have el := (LnL_iff w P l V).1 hl
    have hx' : x = .agg #[.int .i64 k, .int .i64 n, .string s, .slice (some ⟨bl, 0, none⟩) l.length (l.length + 4), .slice (some ⟨bk, 0, none⟩) ks.length (ks.length + 4)] := hx
    rw [hx']
    refine IsP.of (V := V) ⟨hf0.bk, hf0.bn, hf0.bs, (fun e => by cases e), (fun e => by cases e), Nat.le_add_right _ _, Nat.le_add_right _ _, hf0.bl, hf0.bc, hf0.bq, ?_, fun i hi => hf.hv i (Nat.lt_of_lt_of_le hi (Nat.le_add_right _ _)), ?_, hf0.bt⟩ (fun i z hz => ln_isP d z _ _ (by have h1 := dep_elem l i z hz; simp only [dep] at hd; omega) (el i z hz) (el0 i z hz))
    · intro a ha i hi
      cases ha
      refine ⟨hf.pl, fun j u hu => ?_⟩
      rw [add_two]
      exact hf.cells (i := i) (Nat.lt_of_lt_of_le hi (Nat.le_add_right _ _)) j u hu
    · intro a ha i t ht
      cases ha
      refine ⟨hf.pk, ?_⟩
      rw [add_zero1]
      exact hf.key i _ (rowK_at ks i t ht)

theorem Ln.isV {w w0 : World} {P P0 : Nat → Prop} {B : Nat} {v : Vl} {x y : Value} (h : Ln w P v x) (h0 : IsP w0 P0 v y) (hP : ∀ b, P b → b < B) : IsV w B v x := (ln_isP (dep v) v x y (Nat.le_refl _) h h0).isV hP

set_option maxRecDepth 100000 in
set_option maxHeartbeats 1000000 in
theorem lent_no (v : Vl) (x : Value) (B : Nat) (w : World) (hR : rightB v = false) (hv : IsV w B v x) (hBs : B ≤ w.heap.size) :
    Calls Try.prog 14 #[x, .int .i64 0] w fun e w' => e = .returned x ∧ Below w.heap.size w w' := by
  obtain ⟨k, n, s, l, ks, al, ak, cl, ck, rfl, rfl⟩ := hv.shape
  obtain ⟨m, hm⟩ : ∃ m, ks.length = m := ⟨_, rfl⟩
  obtain ⟨ln, hln⟩ : ∃ ln, l.length = ln := ⟨_, rfl⟩
  rw [hm, hln] at hv ⊢
  obtain ⟨g, hg⟩ : ∃ g, w.heap.size = g := ⟨_, rfl⟩
  have T3 := Three.mk' w g hg #[.int .i64 k, .int .i64 n, .string s, .slice al ln cl, .slice ak m ck] #[.int .i64 0, .int .i64 0, .string ⟨#[]⟩, .slice none 0 0, .slice none 0 0] #[.int .i64 k, .int .i64 n, .string s, .slice al ln cl, .slice ak m ck]
  go_enter Try.func14, Try.ntmps14
  obtain ⟨w0, hw0⟩ : ∃ w0, ((w.alloc (.cells #[.int .i64 k, .int .i64 n, .string s, .slice al ln cl, .slice ak m ck] 40)).alloc (.cells #[.int .i64 0, .int .i64 0, .string ⟨#[]⟩, .slice none 0 0, .slice none 0 0] 40)).alloc (.cells #[.int .i64 k, .int .i64 n, .string s, .slice al ln cl, .slice ak m ck] 40) = w0 := ⟨_, rfl⟩
  rw [hw0] at T3
  have CR := hide (right_ref (.mk k n s l ks) _ B w0 (IsV.mono (T3.below.mono (by omega)) hv) (by have := T3.size; omega))
  rw [hR] at CR
  go_upto_region 2 with fail
  obtain ⟨a0, a1, a2, a3, a4⟩ := row_cell T3.at0
  have H0 := hide T3
  clear T3 hw0 hv hm hln
  go_wp2_with fail
  refine (unhide CR).mono ?_
  rintro e w3 ⟨rfl, b3⟩
  have zz := (unhide H0).size
  have H3 : Hid (w3.heap[g + 1]? = some (.cells #[.int .i64 0, .int .i64 0, .string ⟨#[]⟩, .slice none 0 0, .slice none 0 0] 40 (0, 0)) ∧ w3.heap[g + 1 + 1]? = some (.cells #[.int .i64 k, .int .i64 n, .string s, .slice al ln cl, .slice ak m ck] 40 (0, 0)) ∧ Below g w w3) := hide ⟨(b3.block (g + 1) (by omega)).trans (unhide H0).at1, (b3.block (g + 1 + 1) (by omega)).trans (unhide H0).at2, (unhide H0).below.trans (b3.mono (by omega))⟩
  clear b3 zz H0 CR a0 a1 a2 a3 a4
  obtain ⟨c0, c1, c2, c3, c4⟩ := row_cell (unhide H3).2.1
  obtain ⟨z0, z1, z2, z3, z4⟩ := row_cell (unhide H3).1
  have fz : ∀ q, w3.frozen? ⟨g + 1, q, none⟩ = false := fun q => frozen_of_row w3 (g + 1) q _ _ (unhide H3).1
  have fz0 := fz 0
  have fz1 := fz 1
  have fz2 := fz 2
  have fz3 := fz 3
  have fz4 := fz 4
  clear fz
  go_wp2_with fail
  have F9 := five_set w3 (g + 1) 40 _ _ _ _ _ (.int .i64 k) (.int .i64 n) (.string s) (.slice al ln cl) (.slice ak m ck) (unhide H3).1
  have B9 := five_below (g := g + 1) (unhide H3).2.2 (by omega) (.int .i64 k) (.int .i64 n) (.string s) (.slice al ln cl) (.slice ak m ck)
  obtain ⟨w9, hw9⟩ : ∃ w9, (((((w3.setCell ⟨g + 1, 0, none⟩ (.int .i64 k)).setCell ⟨g + 1, 1, none⟩ (.int .i64 n)).setCell ⟨g + 1, 2, none⟩ (.string s)).setCell ⟨g + 1, 3, none⟩ (.slice al ln cl)).setCell ⟨g + 1, 4, none⟩ (.slice ak m ck)) = w9 := ⟨_, rfl⟩
  rw [hw9] at F9 B9 ⊢
  obtain ⟨t0, t1, t2, t3, t4⟩ := row_cell F9
  refine bodyPost_ret (v := .agg #[.int .i64 k, .int .i64 n, .string s, .slice al ln cl, .slice ak m ck]) (by simp [results, Try.results14, go_sem, t0, t1, t2, t3, t4]) rfl ?_
  exact ⟨rfl, by first | exact B9 | (rw [hg]; exact B9)⟩

set_option maxRecDepth 100000 in
set_option maxHeartbeats 1000000 in
theorem still_no (v : Vl) (x y : Value) (B : Nat) (w : World) (hR : rightB v = false) (hx : ∃ k n s al ll cl ak m ck, x = .agg #[.int .i64 k, .int .i64 n, .string s, .slice al ll cl, .slice ak m ck]) (hv : IsV w B v y) (hBs : B ≤ w.heap.size) :
    Calls Try.prog 22 #[x, y, .int .i64 0] w fun e w' => e = .returned (.bool true) ∧ Below w.heap.size w w' := by
  obtain ⟨k, n, s, l, ks, al, ak, cl, ck, rfl, rfl⟩ := hv.shape
  obtain ⟨xk, xn, xs, xal, xl, xcl, xak, xm, xck, rfl⟩ := hx
  obtain ⟨m, hm⟩ : ∃ m, ks.length = m := ⟨_, rfl⟩
  obtain ⟨ln, hln⟩ : ∃ ln, l.length = ln := ⟨_, rfl⟩
  rw [hm, hln] at hv ⊢
  have TW := Two.mk' w 40 #[.int .i64 xk, .int .i64 xn, .string xs, .slice xal xl xcl, .slice xak xm xck] #[.int .i64 k, .int .i64 n, .string s, .slice al ln cl, .slice ak m ck]
  obtain ⟨w2, hw2⟩ : ∃ w2, (w.alloc (.cells #[.int .i64 xk, .int .i64 xn, .string xs, .slice xal xl xcl, .slice xak xm xck] 40)).alloc (.cells #[.int .i64 k, .int .i64 n, .string s, .slice al ln cl, .slice ak m ck] 40) = w2 := ⟨_, rfl⟩
  rw [hw2] at TW
  have CR := hide (right_ref _ _ B w2 (hv.mono (TW.below.mono hBs)) (Nat.le_trans hBs TW.below.size))
  rw [hR] at CR
  obtain ⟨g, hg⟩ : ∃ g, w.heap.size = g := ⟨_, rfl⟩
  rw [hg] at TW
  have HT := hide TW
  obtain ⟨d0, d1, d2, d3, d4⟩ := row_cell (unhide HT).at1
  have j0 : ¬ (0 : Int) < ((0 : Nat) : Int) := by omega
  clear TW hv hm hln
  go_enter Try.func22, Try.ntmps22
  go_upto_region 1 with fail
  try rw [hw2]
  clear hw2
  go_wp2_with fail
  refine (unhide CR).mono ?_
  rintro e u ⟨rfl, b⟩
  have HB := hide ((unhide HT).below.trans (b.mono (by have := (unhide HT).below.size; omega)))
  clear b CR
  go_wp2_with fail
  go_ret
  exact ⟨rfl, by first | exact unhide HB | (rw [← hg]; exact unhide HB) | (rw [hg]; exact unhide HB)⟩
end Go.Proofs.Ytpdfggjhedgdlaa

namespace Go.Proofs.Ytpdfggjhedgdlaa
open Go.RowKit
set_option linter.unusedVariables false
set_option linter.unusedSimpArgs false

theorem shape9 {w : World} {P : Nat → Prop} {v : Vl} {x : Value} (h : IsP w P v x) : ∃ p0 p1 p2 p3 p4 p5 p6 p7 p8, x = .agg #[.int .i64 p0, .int .i64 p1, .string p2, .slice p3 p4 p5, .slice p6 p7 p8] := by
  obtain ⟨k, n, s, l, ks, al, ak, cl, ck, _, e⟩ := h.shape
  exact ⟨_, _, _, _, _, _, _, _, _, e⟩

/-- a value that was lent; one that is not right, as it is -/
def LentOk (u : World) (lo hi : Nat) (v : Vl) (x y : Value) : Prop := (rightB v = true ∧ Ln u (fun b => lo ≤ b ∧ b < hi) v y) ∨ (rightB v = false ∧ y = x)

theorem LentOk.to {u u1 : World} {lo hi : Nat} {v : Vl} {x y : Value} (h : LentOk u lo hi v x y) (hu : ∀ b, lo ≤ b → b < hi → u1.heap[b]? = u.heap[b]?) : LentOk u1 lo hi v x y := by
  rcases h with ⟨h1, h2⟩ | h
  · exact Or.inl ⟨h1, h2.to (fun b hb => hu b hb.1 hb.2) (fun _ h => h)⟩
  · exact Or.inr h

theorem LentOk.isV {u : World} {lo hi g B : Nat} {v : Vl} {x y : Value} (h : LentOk u lo hi v x y) (hx : IsV u g v x) (h1 : hi ≤ B) (h2 : g ≤ B) : IsV u B v y := by
  rcases h with ⟨_, h⟩ | ⟨_, rfl⟩
  · exact h.isV hx (fun b hb => by omega)
  · exact hx.lift h2

theorem lent_both (v : Vl) (x : Value) (B : Nat) (w : World) (hv : IsV w B v x) (hBs : B ≤ w.heap.size) :
    Calls Try.prog 14 #[x, .int .i64 0] w fun e w' => ∃ x', e = .returned x' ∧ LentOk w' w.heap.size w'.heap.size v x x' ∧ Below w.heap.size w w' := by
  cases hR : rightB v with
  | true =>
    refine (lent_yes v x B w hR hv hBs).mono ?_
    rintro e w' ⟨x', rfl, h, b⟩
    exact ⟨x', rfl, Or.inl ⟨hR, h⟩, b⟩
  | false =>
    refine (lent_no v x B w hR hv hBs).mono ?_
    rintro e w' ⟨rfl, b⟩
    exact ⟨x, rfl, Or.inr ⟨hR, rfl⟩, b⟩

theorem still_both (v : Vl) (x y : Value) (lo hi g : Nat) (w : World) (h : LentOk w lo hi v x y) (hv : IsV w g v x) (hg : g ≤ w.heap.size) (hh : hi ≤ w.heap.size) :
    Calls Try.prog 22 #[y, x, .int .i64 0] w fun e w' => e = .returned (.bool true) ∧ Below w.heap.size w w' := by
  rcases h with ⟨hR, h⟩ | ⟨hR, rfl⟩
  · exact still_any (dep v) v y x g 0 _ w (Nat.le_refl _) (by have := dep_of_right hR; omega) (fun _ => hR) h (fun b hb => by omega) hv hg
  · exact still_no v y y g w hR (shape9 hv) hv hg
end Go.Proofs.Ytpdfggjhedgdlaa

namespace Go.Proofs.Ytpdfggjhedgdlaa
open Go.RowKit
set_option linter.unusedVariables false
set_option linter.unusedSimpArgs false

theorem add_at0 (b j : Nat) : (⟨b, 0, none⟩ : Addr).add j = ⟨b, j, none⟩ := by
  unfold Addr.add
  split <;> simp_all

theorem keys_own {w : World} {P : Nat → Prop} {base : Nat} {kind n : Int} {s : ByteArray} {l : List Vl} {ks : List ByteArray} {al ak : Option Addr} {cl ck : Nat} {V : Nat → List Value} (hk : TyK w P ak ks.length ck) (hf : VF w P kind n s l ks al ak cl ck V) (hb : ∀ b, P b → base ≤ b) :
    w.ownsRow base 9 1 (.slice ak ks.length ck) ks.length (ks.map Value.string) := by
  refine ⟨by simp, ?_⟩
  rcases hk with ⟨rfl, h0, rfl⟩ | ⟨b, cs, rfl, hp, hg, hs, hm, hc, _⟩
  · exact .inl ⟨by rw [h0], h0⟩
  · refine .inr ⟨b, ck, cs, rfl, hb b hp, hg, hm, hc, by omega, ?_⟩
    apply List.ext_getElem?
    intro i
    rw [Nat.mul_one, List.getElem?_take]
    by_cases hi : i < ks.length
    · rw [if_pos hi, List.getElem?_map, List.getElem?_eq_getElem hi]
      have h1 := (hf.hk _ rfl i ks[i] (List.getElem?_eq_getElem hi)).2
      rw [add_at0, cell_of_row w b i cs 9 (0, 0) hg] at h1
      simpa using h1
    · rw [if_neg hi, List.getElem?_eq_none (by simpa using Nat.le_of_not_lt hi)]

theorem els_own {w : World} {P : Nat → Prop} {R : Value → Prop} {base : Nat} {kind n : Int} {s : ByteArray} {l : List Vl} {ks : List ByteArray} {al ak : Option Addr} {cl ck : Nat} {V : Nat → List Value} (hk : TyL w P R al l.length cl) (hf : VF w P kind n s l ks al ak cl ck V) (hb : ∀ b, P b → base ≤ b) :
    w.ownsRow base 40 5 (.slice al l.length cl) l.length (flat V l.length) := by
  refine ⟨flat_len V l.length hf.hv, ?_⟩
  rcases hk with ⟨rfl, h0, rfl⟩ | ⟨b, cs, rfl, hp, hg, hs, hm, hc, _⟩
  · exact .inl ⟨by rw [h0], h0⟩
  · refine .inr ⟨b, cl, cs, rfl, hb b hp, hg, hm, hc, hs, ?_⟩
    have hfl := flat_len V l.length hf.hv
    apply List.ext_getElem?
    intro q
    rw [List.getElem?_take]
    by_cases hq : q < l.length * 5
    · rw [if_pos hq]
      have h5 := hf.hv (q / 5) (by omega)
      have h1 := (hf.hl _ rfl (q / 5) (by omega)).2 (q % 5) ((V (q / 5))[q % 5]'(by omega)) (List.getElem?_eq_getElem (by omega))
      have h2 := flat_at V l.length hf.hv (q / 5) (by omega) (q % 5) ((V (q / 5))[q % 5]'(by omega)) (List.getElem?_eq_getElem (by omega))
      have e : q / 5 * 5 + q % 5 = q := by omega
      rw [e] at h2
      rw [h2]
      have ea : ((⟨b, 0, none⟩ : Addr).add (q / 5 * 5)).add (q % 5) = ⟨b, q, none⟩ := by
        rw [add_at0]
        unfold Addr.add
        split
        all_goals (simp; try omega)
      rw [ea, cell_of_row w b q cs _ (0, 0) hg] at h1
      simpa using h1
    · rw [if_neg hq, List.getElem?_eq_none (by omega)]

/-- a value that is its owner's: its two rows, and what its elements are -/
theorem IsQ.rows {w : World} {P : Nat → Prop} {base : Nat} {kind n k' n' : Int} {s s' : ByteArray} {l : List Vl} {ks : List ByteArray} {al ak : Option Addr} {ll m cl ck : Nat} (h : IsQ w P (.mk kind n s l ks) (.agg #[.int .i64 k', .int .i64 n', .string s', .slice al ll cl, .slice ak m ck])) (hb : ∀ b, P b → base ≤ b) :
    ll = l.length ∧ m = ks.length ∧ ∃ V, w.ownsRow base 40 5 (.slice al l.length cl) l.length (flat V l.length) ∧ w.ownsRow base 9 1 (.slice ak ks.length ck) ks.length (ks.map Value.string) ∧ VF w P kind n s l ks al ak cl ck V ∧ ∀ i y, l[i]? = some y → IsP w P y (.agg (V i).toArray) := by
  obtain ⟨rfl, rfl, rfl, rfl, rfl, V, hf, el⟩ := h.1.at
  have hd := dep_pos (.mk k' n' s' l ks)
  obtain ⟨r, hr⟩ : ∃ r, dep (.mk k' n' s' l ks) = r + 1 := ⟨dep (.mk k' n' s' l ks) - 1, by omega⟩
  have ht := h.2
  rw [hr] at ht
  obtain ⟨_, _, _, _, _, _, _, _, _, e, hl, hk⟩ := ht
  simp only [Value.agg.injEq, Array.mk.injEq, List.cons.injEq, Value.int.injEq, Value.string.injEq, Value.slice.injEq, and_true, true_and] at e
  obtain ⟨_, _, _, ⟨rfl, rfl, rfl⟩, rfl, rfl, rfl⟩ := e
  exact ⟨rfl, rfl, V, els_own hl hf hb, keys_own hk hf hb, hf, el⟩
end Go.Proofs.Ytpdfggjhedgdlaa

namespace Go.Proofs.Ytpdfggjhedgdlaa
open Go.RowKit
set_option linter.unusedVariables false
set_option linter.unusedSimpArgs false

/-- append of one element that was just laid -/
theorem wpl_oneG {P : Program} {w : World} {ops : Array Oper} {rest : List Oper} {o : Oper} {a : Act} {Q : Exit → Act → World → Prop} (hgd : o.guard = none) (sl x : Operand) (T e : TypeId) (i0 : TypeInfo) (z : Value) (size bytes : Nat)
    (hu : P.underlying T = some (.slice e)) (hi : P.info? e = some i0) (hz : i0.zero = some z) (hs1 : i0.size = size) (hby : i0.bytes = bytes) (hzs : z.cells.size = size) (hsz : 0 < size)
    (ho : o.op = .call { callee := .builtin .append, args := #[sl, x], argTypes := #[T, T] })
    (base n : Nat) (v : Value) (xs : List Value) (A : List Value) (hA : A.length = size) (h1 : ∀ u ∈ A, u.oneCell' = true) (hs : a.eval sl = v) (hown : w.ownsRow base e size v n xs)
    (hx : a.eval x = .slice (some ⟨w.heap.size, 0, none⟩) 1 1) (hn : n + 1 ≤ maxLen) (hbytes : (n + 1) * bytes ≤ 140737488355328) (hbase : base ≤ w.heap.size)
    (h : ∀ v' w', Hid (w'.ownsRow base e size v' (n + 1) (xs ++ A) ∧ w.grownBy w' v.ownBlock ∧ ∀ b, v'.ownBlock = some b → v.ownBlock = some b ∨ w.heap.size ≤ b) → wpList P ops Q rest (a.put o.dst v') w') :
    wpList P ops Q (o :: rest) a (w.alloc (.cells A.toArray e)) := by
  refine wpList_plain hgd fun K hK => ?_
  have hb : Below w.heap.size w (w.alloc (.cells A.toArray e)) := (Below.refl _ _).alloc (Nat.le_refl _) _
  have hnew := heap_alloc_new w (.cells A.toArray e)
  have hz1 : (w.alloc (.cells A.toArray e)).heap.size = w.heap.size + 1 := by simp
  obtain ⟨v', w', hrun, r1, r2, _, r4⟩ := run_append_own_at (P := P) (w.alloc (.cells A.toArray e)) base T o.type e i0 z size bytes hu hi hz hs1 hby hzs hsz v n xs (hown.alloc _) ⟨w.heap.size, 0, none⟩ 1 1 A (by omega) (fun j u hj => World.news_of_block hnew j u (by simpa using hj)) h1 hn hbytes (by omega)
  unfold Oper.wp
  simp only [execOp, ho, resolve, invoke, builtin, Sem.run_bind, Sem.run_pure, Result.andThen_ok, List.map_toArray, List.map_cons, List.map_nil, hs, hx, hrun]
  refine hK _ _ (h v' w' ⟨r1, ⟨r2.os, r2.tape, r2.output, by have := r2.size; omega, fun k hk hne => (r2.block k (by omega) hne).trans (heap_alloc_old w _ hk)⟩, fun b hb' => ?_⟩)
  rcases r4 with e' | e'
  · exact Or.inl (by rw [← e']; exact hb')
  · rw [hb'] at e'
    exact Or.inr (by rw [Option.some.inj e', hz1]; omega)

end Go.Proofs.Ytpdfggjhedgdlaa
