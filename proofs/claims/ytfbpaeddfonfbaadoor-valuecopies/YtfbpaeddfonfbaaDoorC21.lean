/-
  A lent value lies as a value does; Lent and Still of a value that is not right; conditions: the form's own reach.
-/
import Derived.Test.YtfbpaeddfonfbaaDoorC17
import Derived.Test.YtfbpaeddfonfbaaDoorC20
namespace Go.Proofs.YtfbpaeddfonfbaaDoor
open Go.RowKit
set_option linter.unusedVariables false
set_option linter.unusedSimpArgs false

theorem add_two (b i j : Nat) : ((⟨b, 0, none⟩ : Addr).add i).add j = ⟨b, i + j, none⟩ := by
  unfold Addr.add
  by_cases h0 : i = 0
  · by_cases h1 : j = 0
    · simp [h0, h1]
    · simp [h0, h1]
  · by_cases h1 : j = 0
    · simp [h0, h1]
    · simp [h0, h1]

theorem add_zero1 (b i : Nat) : (⟨b, 0, none⟩ : Addr).add i = ⟨b, i, none⟩ := by
  unfold Addr.add
  split <;> simp_all

theorem ln_isP {w w0 : World} {P P0 : Nat → Prop} : ∀ (d : Nat) (v : Vl) (x y : Value), dep v ≤ d → Ln w P v x → IsP w0 P0 v y → IsP w P v x
  | 0, v, x, y, hd, _, _ => by have := dep_pos v; omega
  | d + 1, v, x, y, hd, h, h0 => by
    obtain ⟨k, n, s, l, ks, al, ak, cl, ck, V0, rfl, rfl, hf0, el0⟩ := h0.inv
    obtain ⟨bl, bk, V, hx, hf, hl⟩ := h
    have el := (LnL_iff w P l V).1 hl
    have hx' : x = .agg #[.int .i64 k, .int .i64 n, .string s, .slice (some ⟨bl, 0, none⟩) l.length (l.length + 4), .slice (some ⟨bk, 0, none⟩) ks.length (ks.length + 4)] := hx
    rw [hx']
    refine IsP.of (V := V) ⟨hf0.bk, hf0.bn, hf0.bs, (fun e => by cases e), (fun e => by cases e), Nat.le_add_right _ _, Nat.le_add_right _ _, hf0.bl, hf0.bc, hf0.bq, ?_, fun i hi => hf.hv i (Nat.lt_of_lt_of_le hi (Nat.le_add_right _ _)), ?_, hf0.bt⟩ (fun i z hz => ln_isP d z _ _ (by have h1 := dep_elem l i z hz; simp only [dep] at hd; omega) (el i z hz) (el0 i z hz))
    · intro a ha i hi
      cases ha
      refine ⟨hf.pl, fun j u hu => ?_⟩
      rw [add_two]
      exact hf.cells (i := i) (Nat.lt_of_lt_of_le hi (Nat.le_add_right _ _)) j u hu
    · intro a ha i t ht
      cases ha
      refine ⟨hf.pk, ?_⟩
      rw [add_zero1]
      exact hf.key i _ (rowK_at ks i t ht)

theorem Ln.isV {w w0 : World} {P P0 : Nat → Prop} {B : Nat} {v : Vl} {x y : Value} (h : Ln w P v x) (h0 : IsP w0 P0 v y) (hP : ∀ b, P b → b < B) : IsV w B v x := (ln_isP (dep v) v x y (Nat.le_refl _) h h0).isV hP

set_option maxRecDepth 100000 in
set_option maxHeartbeats 1000000 in
theorem lent_no (v : Vl) (x : Value) (B : Nat) (w : World) (hR : rightB v = false) (hv : IsV w B v x) (hBs : B ≤ w.heap.size) :
    Calls Tryd.prog 6 #[x, .int .i64 0] w fun e w' => e = .returned x ∧ Below w.heap.size w w' := by
  obtain ⟨k, n, s, l, ks, al, ak, cl, ck, rfl, rfl⟩ := hv.shape
  obtain ⟨m, hm⟩ : ∃ m, ks.length = m := ⟨_, rfl⟩
  obtain ⟨ln, hln⟩ : ∃ ln, l.length = ln := ⟨_, rfl⟩
  rw [hm, hln] at hv ⊢
  obtain ⟨g, hg⟩ : ∃ g, w.heap.size = g := ⟨_, rfl⟩
  have T3 := Three.mk' w g hg #[.int .i64 k, .int .i64 n, .string s, .slice al ln cl, .slice ak m ck] #[.int .i64 0, .int .i64 0, .string ⟨#[]⟩, .slice none 0 0, .slice none 0 0] #[.int .i64 k, .int .i64 n, .string s, .slice al ln cl, .slice ak m ck]
  go_enter Tryd.func6, Tryd.ntmps6
  obtain ⟨w0, hw0⟩ : ∃ w0, ((w.alloc (.cells #[.int .i64 k, .int .i64 n, .string s, .slice al ln cl, .slice ak m ck] 25)).alloc (.cells #[.int .i64 0, .int .i64 0, .string ⟨#[]⟩, .slice none 0 0, .slice none 0 0] 25)).alloc (.cells #[.int .i64 k, .int .i64 n, .string s, .slice al ln cl, .slice ak m ck] 25) = w0 := ⟨_, rfl⟩
  rw [hw0] at T3
  have CR := hide (right_ref (.mk k n s l ks) _ B w0 (IsV.mono (T3.below.mono (by omega)) hv) (by have := T3.size; omega))
  rw [hR] at CR
  go_upto_region 2 with fail
  obtain ⟨a0, a1, a2, a3, a4⟩ := row_cell T3.at0
  have H0 := hide T3
  clear T3 hw0 hv hm hln
  go_wp2_with fail
  refine (unhide CR).mono ?_
  rintro e w3 ⟨rfl, b3⟩
  have zz := (unhide H0).size
  have H3 : Hid (w3.heap[g + 1]? = some (.cells #[.int .i64 0, .int .i64 0, .string ⟨#[]⟩, .slice none 0 0, .slice none 0 0] 25 (0, 0)) ∧ w3.heap[g + 1 + 1]? = some (.cells #[.int .i64 k, .int .i64 n, .string s, .slice al ln cl, .slice ak m ck] 25 (0, 0)) ∧ Below g w w3) := hide ⟨(b3.block (g + 1) (by omega)).trans (unhide H0).at1, (b3.block (g + 1 + 1) (by omega)).trans (unhide H0).at2, (unhide H0).below.trans (b3.mono (by omega))⟩
  clear b3 zz H0 CR a0 a1 a2 a3 a4
  obtain ⟨c0, c1, c2, c3, c4⟩ := row_cell (unhide H3).2.1
  obtain ⟨z0, z1, z2, z3, z4⟩ := row_cell (unhide H3).1
  have fz : ∀ q, w3.frozen? ⟨g + 1, q, none⟩ = false := fun q => frozen_of_row w3 (g + 1) q _ _ (unhide H3).1
  have fz0 := fz 0
  have fz1 := fz 1
  have fz2 := fz 2
  have fz3 := fz 3
  have fz4 := fz 4
  clear fz
  go_wp2_with fail
  have F9 := five_set w3 (g + 1) 25 _ _ _ _ _ (.int .i64 k) (.int .i64 n) (.string s) (.slice al ln cl) (.slice ak m ck) (unhide H3).1
  have B9 := five_below (g := g + 1) (unhide H3).2.2 (by omega) (.int .i64 k) (.int .i64 n) (.string s) (.slice al ln cl) (.slice ak m ck)
  obtain ⟨w9, hw9⟩ : ∃ w9, (((((w3.setCell ⟨g + 1, 0, none⟩ (.int .i64 k)).setCell ⟨g + 1, 1, none⟩ (.int .i64 n)).setCell ⟨g + 1, 2, none⟩ (.string s)).setCell ⟨g + 1, 3, none⟩ (.slice al ln cl)).setCell ⟨g + 1, 4, none⟩ (.slice ak m ck)) = w9 := ⟨_, rfl⟩
  rw [hw9] at F9 B9 ⊢
  obtain ⟨t0, t1, t2, t3, t4⟩ := row_cell F9
  refine bodyPost_ret (v := .agg #[.int .i64 k, .int .i64 n, .string s, .slice al ln cl, .slice ak m ck]) (by simp [results, Tryd.results6, go_sem, t0, t1, t2, t3, t4]) rfl ?_
  exact ⟨rfl, by first | exact B9 | (rw [hg]; exact B9)⟩

set_option maxRecDepth 100000 in
set_option maxHeartbeats 1000000 in
theorem still_no (v : Vl) (x y : Value) (B : Nat) (w : World) (hR : rightB v = false) (hx : ∃ k n s al ll cl ak m ck, x = .agg #[.int .i64 k, .int .i64 n, .string s, .slice al ll cl, .slice ak m ck]) (hv : IsV w B v y) (hBs : B ≤ w.heap.size) :
    Calls Tryd.prog 10 #[x, y, .int .i64 0] w fun e w' => e = .returned (.bool true) ∧ Below w.heap.size w w' := by
  obtain ⟨k, n, s, l, ks, al, ak, cl, ck, rfl, rfl⟩ := hv.shape
  obtain ⟨xk, xn, xs, xal, xl, xcl, xak, xm, xck, rfl⟩ := hx
  obtain ⟨m, hm⟩ : ∃ m, ks.length = m := ⟨_, rfl⟩
  obtain ⟨ln, hln⟩ : ∃ ln, l.length = ln := ⟨_, rfl⟩
  rw [hm, hln] at hv ⊢
  have TW := Two.mk' w 25 #[.int .i64 xk, .int .i64 xn, .string xs, .slice xal xl xcl, .slice xak xm xck] #[.int .i64 k, .int .i64 n, .string s, .slice al ln cl, .slice ak m ck]
  obtain ⟨w2, hw2⟩ : ∃ w2, (w.alloc (.cells #[.int .i64 xk, .int .i64 xn, .string xs, .slice xal xl xcl, .slice xak xm xck] 25)).alloc (.cells #[.int .i64 k, .int .i64 n, .string s, .slice al ln cl, .slice ak m ck] 25) = w2 := ⟨_, rfl⟩
  rw [hw2] at TW
  have CR := hide (right_ref _ _ B w2 (hv.mono (TW.below.mono hBs)) (Nat.le_trans hBs TW.below.size))
  rw [hR] at CR
  obtain ⟨g, hg⟩ : ∃ g, w.heap.size = g := ⟨_, rfl⟩
  rw [hg] at TW
  have HT := hide TW
  obtain ⟨d0, d1, d2, d3, d4⟩ := row_cell (unhide HT).at1
  have j0 : ¬ (0 : Int) < ((0 : Nat) : Int) := by omega
  clear TW hv hm hln
  go_enter Tryd.func10, Tryd.ntmps10
  go_upto_region 1 with fail
  try rw [hw2]
  clear hw2
  go_wp2_with fail
  refine (unhide CR).mono ?_
  rintro e u ⟨rfl, b⟩
  have HB := hide ((unhide HT).below.trans (b.mono (by have := (unhide HT).below.size; omega)))
  clear b CR
  go_wp2_with fail
  go_ret
  exact ⟨rfl, by first | exact unhide HB | (rw [← hg]; exact unhide HB) | (rw [hg]; exact unhide HB)⟩
end Go.Proofs.YtfbpaeddfonfbaaDoor
