/-
  A lent value lies as a value does; Lent and Still of a value that is not right; conditions: the form's own reach.
  Lent and Still of any value, each with one contract; conditions: the form's own reach.
  A value's bytes are bytes; no conditions but the form's own reach.
  The walks of Right; no conditions but the form's own reach.
  The walk of Weight; no conditions but the form's own reach.
-/
import Derived.Test.YtjgjebohbgbimaaDoorA15
import Derived.Test.YtjgjebohbgbimaaDoorA18
import Derived.Test.YtjgjebohbgbimaaDoorA07
import Derived.Test.YtjgjebohbgbimaaDoorA04
set_option linter.unusedVariables false
set_option linter.unusedSimpArgs false
namespace Go.Proofs.YtjgjebohbgbimaaDoor
open Go.RowKit
set_option linter.unusedVariables false
set_option linter.unusedSimpArgs false

theorem add_two (b i j : Nat) : ((⟨b, 0, none⟩ : Addr).add i).add j = ⟨b, i + j, none⟩ := by
  unfold Addr.add
  by_cases h0 : i = 0
  · by_cases h1 : j = 0
    · simp [h0, h1]
    · simp [h0, h1]
  · by_cases h1 : j = 0
    · simp [h0, h1]
    · simp [h0, h1]

theorem add_zero1 (b i : Nat) : (⟨b, 0, none⟩ : Addr).add i = ⟨b, i, none⟩ := by
  unfold Addr.add
  split <;> simp_all

theorem ln_isP {w w0 : World} {P P0 : Nat → Prop} : ∀ (d : Nat) (v : Vl) (x y : Value), dep v ≤ d → Ln w P v x → IsP w0 P0 v y → IsP w P v x
  | 0, v, x, y, hd, _, _ => by have := dep_pos v; omega
  | d + 1, v, x, y, hd, h, h0 => by
    obtain ⟨k, n, s, l, ks, al, ak, cl, ck, V0, rfl, rfl, hf0, el0⟩ := h0.inv
    obtain ⟨bl, bk, V, hx, hf, hl⟩ := h
    have el := (LnL_iff w P l V).1 hl
    have hx' : x = .agg #[.int .i64 k, .int .i64 n, .string s, .slice (some ⟨bl, 0, none⟩) l.length (l.length + 4), .slice (some ⟨bk, 0, none⟩) ks.length (ks.length + 4)] := hx
    rw [hx']
    refine IsP.of (V := V) ⟨hf0.bk, hf0.bn, hf0.bs, (fun e => by cases e), (fun e => by cases e), Nat.le_add_right _ _, Nat.le_add_right _ _, hf0.bl, hf0.bc, hf0.bq, ?_, fun i hi => hf.hv i (Nat.lt_of_lt_of_le hi (Nat.le_add_right _ _)), ?_, hf0.bt⟩ (fun i z hz => ln_isP d z _ _ (by have h1 := dep_elem l i z hz; simp only [dep] at hd; omega) (el i z hz) (el0 i z hz))
    · intro a ha i hi
      cases ha
      refine ⟨hf.pl, fun j u hu => ?_⟩
      rw [add_two]
      exact hf.cells (i := i) (Nat.lt_of_lt_of_le hi (Nat.le_add_right _ _)) j u hu
    · intro a ha i t ht
      cases ha
      refine ⟨hf.pk, ?_⟩
      rw [add_zero1]
      exact hf.key i _ (rowK_at ks i t ht)

theorem Ln.isV {w w0 : World} {P P0 : Nat → Prop} {B : Nat} {v : Vl} {x y : Value} (h : Ln w P v x) (h0 : IsP w0 P0 v y) (hP : ∀ b, P b → b < B) : IsV w B v x := (ln_isP (dep v) v x y (Nat.le_refl _) h h0).isV hP

set_option maxRecDepth 100000 in
set_option maxHeartbeats 1000000 in
theorem lent_no (v : Vl) (x : Value) (B : Nat) (w : World) (hR : rightB v = false) (hv : IsV w B v x) (hBs : B ≤ w.heap.size) :
    Calls Tryd.prog 11 #[x, .int .i64 0] w fun e w' => e = .returned x ∧ Below w.heap.size w w' := by
  obtain ⟨k, n, s, l, ks, al, ak, cl, ck, rfl, rfl⟩ := hv.shape
  obtain ⟨m, hm⟩ : ∃ m, ks.length = m := ⟨_, rfl⟩
  obtain ⟨ln, hln⟩ : ∃ ln, l.length = ln := ⟨_, rfl⟩
  rw [hm, hln] at hv ⊢
  obtain ⟨g, hg⟩ : ∃ g, w.heap.size = g := ⟨_, rfl⟩
  have T3 := Three.mk' w g hg #[.int .i64 k, .int .i64 n, .string s, .slice al ln cl, .slice ak m ck] #[.int .i64 0, .int .i64 0, .string ⟨#[]⟩, .slice none 0 0, .slice none 0 0] #[.int .i64 k, .int .i64 n, .string s, .slice al ln cl, .slice ak m ck]
  go_enter Tryd.func11, Tryd.ntmps11
  obtain ⟨w0, hw0⟩ : ∃ w0, ((w.alloc (.cells #[.int .i64 k, .int .i64 n, .string s, .slice al ln cl, .slice ak m ck] 37)).alloc (.cells #[.int .i64 0, .int .i64 0, .string ⟨#[]⟩, .slice none 0 0, .slice none 0 0] 37)).alloc (.cells #[.int .i64 k, .int .i64 n, .string s, .slice al ln cl, .slice ak m ck] 37) = w0 := ⟨_, rfl⟩
  rw [hw0] at T3
  have CR := hide (right_ref (.mk k n s l ks) _ B w0 (IsV.mono (T3.below.mono (by omega)) hv) (by have := T3.size; omega))
  rw [hR] at CR
  go_upto_region 2 with fail
  obtain ⟨a0, a1, a2, a3, a4⟩ := row_cell T3.at0
  have H0 := hide T3
  clear T3 hw0 hv hm hln
  go_wp2_with fail
  refine (unhide CR).mono ?_
  rintro e w3 ⟨rfl, b3⟩
  have zz := (unhide H0).size
  have H3 : Hid (w3.heap[g + 1]? = some (.cells #[.int .i64 0, .int .i64 0, .string ⟨#[]⟩, .slice none 0 0, .slice none 0 0] 37 (0, 0)) ∧ w3.heap[g + 1 + 1]? = some (.cells #[.int .i64 k, .int .i64 n, .string s, .slice al ln cl, .slice ak m ck] 37 (0, 0)) ∧ Below g w w3) := hide ⟨(b3.block (g + 1) (by omega)).trans (unhide H0).at1, (b3.block (g + 1 + 1) (by omega)).trans (unhide H0).at2, (unhide H0).below.trans (b3.mono (by omega))⟩
  clear b3 zz H0 CR a0 a1 a2 a3 a4
  obtain ⟨c0, c1, c2, c3, c4⟩ := row_cell (unhide H3).2.1
  obtain ⟨z0, z1, z2, z3, z4⟩ := row_cell (unhide H3).1
  have fz : ∀ q, w3.frozen? ⟨g + 1, q, none⟩ = false := fun q => frozen_of_row w3 (g + 1) q _ _ (unhide H3).1
  have fz0 := fz 0
  have fz1 := fz 1
  have fz2 := fz 2
  have fz3 := fz 3
  have fz4 := fz 4
  clear fz
  go_wp2_with fail
  have F9 := five_set w3 (g + 1) 37 _ _ _ _ _ (.int .i64 k) (.int .i64 n) (.string s) (.slice al ln cl) (.slice ak m ck) (unhide H3).1
  have B9 := five_below (g := g + 1) (unhide H3).2.2 (by omega) (.int .i64 k) (.int .i64 n) (.string s) (.slice al ln cl) (.slice ak m ck)
  obtain ⟨w9, hw9⟩ : ∃ w9, (((((w3.setCell ⟨g + 1, 0, none⟩ (.int .i64 k)).setCell ⟨g + 1, 1, none⟩ (.int .i64 n)).setCell ⟨g + 1, 2, none⟩ (.string s)).setCell ⟨g + 1, 3, none⟩ (.slice al ln cl)).setCell ⟨g + 1, 4, none⟩ (.slice ak m ck)) = w9 := ⟨_, rfl⟩
  rw [hw9] at F9 B9 ⊢
  obtain ⟨t0, t1, t2, t3, t4⟩ := row_cell F9
  refine bodyPost_ret (v := .agg #[.int .i64 k, .int .i64 n, .string s, .slice al ln cl, .slice ak m ck]) (by simp [results, Tryd.results11, go_sem, t0, t1, t2, t3, t4]) rfl ?_
  exact ⟨rfl, by first | exact B9 | (rw [hg]; exact B9)⟩

set_option maxRecDepth 100000 in
set_option maxHeartbeats 1000000 in
theorem still_no (v : Vl) (x y : Value) (B : Nat) (w : World) (hR : rightB v = false) (hx : ∃ k n s al ll cl ak m ck, x = .agg #[.int .i64 k, .int .i64 n, .string s, .slice al ll cl, .slice ak m ck]) (hv : IsV w B v y) (hBs : B ≤ w.heap.size) :
    Calls Tryd.prog 22 #[x, y, .int .i64 0] w fun e w' => e = .returned (.bool true) ∧ Below w.heap.size w w' := by
  obtain ⟨k, n, s, l, ks, al, ak, cl, ck, rfl, rfl⟩ := hv.shape
  obtain ⟨xk, xn, xs, xal, xl, xcl, xak, xm, xck, rfl⟩ := hx
  obtain ⟨m, hm⟩ : ∃ m, ks.length = m := ⟨_, rfl⟩
  obtain ⟨ln, hln⟩ : ∃ ln, l.length = ln := ⟨_, rfl⟩
  rw [hm, hln] at hv ⊢
  have TW := Two.mk' w 37 #[.int .i64 xk, .int .i64 xn, .string xs, .slice xal xl xcl, .slice xak xm xck] #[.int .i64 k, .int .i64 n, .string s, .slice al ln cl, .slice ak m ck]
  obtain ⟨w2, hw2⟩ : ∃ w2, (w.alloc (.cells #[.int .i64 xk, .int .i64 xn, .string xs, .slice xal xl xcl, .slice xak xm xck] 37)).alloc (.cells #[.int .i64 k, .int .i64 n, .string s, .slice al ln cl, .slice ak m ck] 37) = w2 := ⟨_, rfl⟩
  rw [hw2] at TW
  have CR := hide (right_ref _ _ B w2 (hv.mono (TW.below.mono hBs)) (Nat.le_trans hBs TW.below.size))
  rw [hR] at CR
  obtain ⟨g, hg⟩ : ∃ g, w.heap.size = g := ⟨_, rfl⟩
  rw [hg] at TW
  have HT := hide TW
  obtain ⟨d0, d1, d2, d3, d4⟩ := row_cell (unhide HT).at1
  have j0 : ¬ (0 : Int) < ((0 : Nat) : Int) := by omega
  clear TW hv hm hln
  go_enter Tryd.func22, Tryd.ntmps22
  go_upto_region 1 with fail
  try rw [hw2]
  clear hw2
  go_wp2_with fail
  refine (unhide CR).mono ?_
  rintro e u ⟨rfl, b⟩
  have HB := hide ((unhide HT).below.trans (b.mono (by have := (unhide HT).below.size; omega)))
  clear b CR
  go_wp2_with fail
  go_ret
  exact ⟨rfl, by first | exact unhide HB | (rw [← hg]; exact unhide HB) | (rw [hg]; exact unhide HB)⟩
end Go.Proofs.YtjgjebohbgbimaaDoor

namespace Go.Proofs.YtjgjebohbgbimaaDoor
open Go.RowKit
set_option linter.unusedVariables false
set_option linter.unusedSimpArgs false

theorem shape9 {w : World} {P : Nat → Prop} {v : Vl} {x : Value} (h : IsP w P v x) : ∃ p0 p1 p2 p3 p4 p5 p6 p7 p8, x = .agg #[.int .i64 p0, .int .i64 p1, .string p2, .slice p3 p4 p5, .slice p6 p7 p8] := by
  obtain ⟨k, n, s, l, ks, al, ak, cl, ck, _, e⟩ := h.shape
  exact ⟨_, _, _, _, _, _, _, _, _, e⟩

/-- a value that was lent; one that is not right, as it is -/
def LentOk (u : World) (lo hi : Nat) (v : Vl) (x y : Value) : Prop := (rightB v = true ∧ Ln u (fun b => lo ≤ b ∧ b < hi) v y) ∨ (rightB v = false ∧ y = x)

theorem LentOk.to {u u1 : World} {lo hi : Nat} {v : Vl} {x y : Value} (h : LentOk u lo hi v x y) (hu : ∀ b, lo ≤ b → b < hi → u1.heap[b]? = u.heap[b]?) : LentOk u1 lo hi v x y := by
  rcases h with ⟨h1, h2⟩ | h
  · exact Or.inl ⟨h1, h2.to (fun b hb => hu b hb.1 hb.2) (fun _ h => h)⟩
  · exact Or.inr h

theorem LentOk.isV {u : World} {lo hi g B : Nat} {v : Vl} {x y : Value} (h : LentOk u lo hi v x y) (hx : IsV u g v x) (h1 : hi ≤ B) (h2 : g ≤ B) : IsV u B v y := by
  rcases h with ⟨_, h⟩ | ⟨_, rfl⟩
  · exact h.isV hx (fun b hb => by omega)
  · exact hx.lift h2

theorem lent_both (v : Vl) (x : Value) (B : Nat) (w : World) (hv : IsV w B v x) (hBs : B ≤ w.heap.size) :
    Calls Tryd.prog 11 #[x, .int .i64 0] w fun e w' => ∃ x', e = .returned x' ∧ LentOk w' w.heap.size w'.heap.size v x x' ∧ Below w.heap.size w w' := by
  cases hR : rightB v with
  | true =>
    refine (lent_yes v x B w hR hv hBs).mono ?_
    rintro e w' ⟨x', rfl, h, b⟩
    exact ⟨x', rfl, Or.inl ⟨hR, h⟩, b⟩
  | false =>
    refine (lent_no v x B w hR hv hBs).mono ?_
    rintro e w' ⟨rfl, b⟩
    exact ⟨x, rfl, Or.inr ⟨hR, rfl⟩, b⟩

theorem still_both (v : Vl) (x y : Value) (lo hi g : Nat) (w : World) (h : LentOk w lo hi v x y) (hv : IsV w g v x) (hg : g ≤ w.heap.size) (hh : hi ≤ w.heap.size) :
    Calls Tryd.prog 22 #[y, x, .int .i64 0] w fun e w' => e = .returned (.bool true) ∧ Below w.heap.size w w' := by
  rcases h with ⟨hR, h⟩ | ⟨hR, rfl⟩
  · exact still_any (dep v) v y x g 0 _ w (Nat.le_refl _) (by have := dep_of_right hR; omega) (fun _ => hR) h (fun b hb => by omega) hv hg
  · exact still_no v y y g w hR (shape9 hv) hv hg
end Go.Proofs.YtjgjebohbgbimaaDoor

namespace Go.Proofs.YtjgjebohbgbimaaDoor
open Go.RowKit

/-- numbers of 64 bits, texts and lists that a machine can hold -/
def fitL : List Vl → Bool
  | [] => true
  | .mk _ n s l ks :: r => (decide (-9223372036854775808 ≤ n ∧ n ≤ 9223372036854775807) && decide (s.size ≤ 140737488351232) && decide (l.length ≤ 140737488351232) && ks.all (fun t => decide (t.size ≤ 140737488351232)) && fitL l) && fitL r
def fitB : Vl → Bool
  | .mk _ n s l ks => decide (-9223372036854775808 ≤ n ∧ n ≤ 9223372036854775807) && decide (s.size ≤ 140737488351232) && decide (l.length ≤ 140737488351232) && ks.all (fun t => decide (t.size ≤ 140737488351232)) && fitL l
theorem fitL_nil : fitL [] = true := by simp only [fitL]
theorem fitL_cons (x : Vl) (r : List Vl) : fitL (x :: r) = (fitB x && fitL r) := by cases x; simp only [fitL, fitB]

theorem fit_of {w : World} {P : Nat → Prop} {kind n : Int} {s : ByteArray} {l : List Vl} {ks : List ByteArray} {al ak : Option Addr} {cl ck : Nat} {V : Nat → List Value} (h : VF w P kind n s l ks al ak cl ck V) (hl : fitL l = true) : fitB (.mk kind n s l ks) = true := by
  simp only [fitB, hl, Bool.and_true, Bool.and_eq_true, decide_eq_true_eq, List.all_eq_true]
  exact ⟨⟨⟨h.bn, h.bs⟩, h.bl⟩, h.bt⟩

theorem IsPL.fit {w : World} {P : Nat → Prop} : ∀ (l : List Vl) (V : Nat → List Value), IsPL w P l V → fitL l = true
  | [], _, _ => fitL_nil
  | .mk kind n s l ks :: r, V, h => by
    simp only [IsPL] at h
    obtain ⟨⟨al, ak, cl, ck, V', _, hf, hl⟩, hr⟩ := h
    rw [fitL_cons, fit_of hf (IsPL.fit l V' hl), IsPL.fit r _ hr]
    rfl

theorem IsP.fit {w : World} {P : Nat → Prop} {v : Vl} {x : Value} (h : IsP w P v x) : fitB v = true := by
  obtain ⟨al, ak, cl, ck, V, _, hf, hl⟩ := h
  cases v with
  | mk kind n s l ks => exact fit_of hf (IsPL.fit l V hl)

theorem IsV.fit {w : World} {B : Nat} {v : Vl} {x : Value} (h : IsV w B v x) : fitB v = true := IsP.fit h

theorem tx_small (s : ByteArray) (hs : s.size ≤ 140737488351232) : ∀ c ∈ tx s, 0 ≤ c ∧ c ≤ 255 := by
  intro c hc
  unfold tx at hc
  rcases List.mem_append.1 hc with h | h
  · exact encF9_bytes _ (by omega) (by omega) c h
  · exact nums_small s c h

theorem foldI_range {n : Int} (h : -9223372036854775808 ≤ n ∧ n ≤ 9223372036854775807) : 0 ≤ foldI n ∧ foldI n ≤ 18446744073709551615 := by
  unfold foldI
  split <;> omega

theorem encN_small {k n : Int} {s : ByteArray} {ll : Nat} {ks : List ByteArray} {body : List Int} (hf : formB k n s ll ks = true) (hn : -9223372036854775808 ≤ n ∧ n ≤ 9223372036854775807) (hs : s.size ≤ 140737488351232) (hl : ll ≤ 140737488351232) (hb : ∀ c ∈ body, 0 ≤ c ∧ c ≤ 255) : ∀ c ∈ encN k n s ll body, 0 ≤ c ∧ c ≤ 255 := by
  have hlen := encF9_bytes (ll : Int) (by omega) (by omega)
  have hfold := encF9_bytes (foldI n) (foldI_range hn).1 (foldI_range hn).2
  have htx := tx_small s hs
  intro c hc
  unfold encN at hc
  rcases form_zero hf with ⟨rfl, _⟩ | ⟨rfl, h01, _⟩ | ⟨rfl, _⟩ | ⟨rfl, _⟩ | ⟨rfl, _⟩ | ⟨rfl, _⟩
  · simp at hc; omega
  · simp at hc; omega
  · simp at hc
    rcases hc with rfl | hc
    · omega
    · exact hfold c hc
  · simp at hc
    rcases hc with rfl | hc
    · omega
    · exact htx c hc
  · simp at hc
    rcases hc with rfl | hc | hc
    · omega
    · exact hlen c hc
    · exact hb c hc
  · simp at hc
    rcases hc with rfl | hc | hc
    · omega
    · exact hlen c hc
    · exact hb c hc

theorem keyAt_small : ∀ (ks : List ByteArray) (i : Nat), (∀ t ∈ ks, t.size ≤ 140737488351232) → (keyAt ks i).size ≤ 140737488351232
  | [], _, _ => by show (0 : Nat) ≤ _; omega
  | t :: _, 0, h => h t (by simp)
  | _ :: r, i + 1, h => keyAt_small r i (fun t ht => h t (by simp [ht]))

theorem wencL_small : ∀ (r : Bool) (l : List Vl) (ks : List ByteArray) (d : Nat), okL d l = true → fitL l = true → (∀ t ∈ ks, t.size ≤ 140737488351232) → ∀ c ∈ wencL r l ks, 0 ≤ c ∧ c ≤ 255
  | _, [], _, _, _, _, _ => by simp [wencL_nil]
  | r, .mk k n s l q :: xs, ks, 0, ho, _, _ => by simp [okL] at ho
  | r, .mk k n s l q :: xs, ks, d + 1, ho, hf, hk => by
    rw [okL_cons, Bool.and_eq_true] at ho
    rw [fitL_cons, Bool.and_eq_true] at hf
    have ho1 := ho.1
    have hf1 := hf.1
    simp only [okB, Bool.and_eq_true] at ho1
    simp only [fitB, Bool.and_eq_true, decide_eq_true_eq, List.all_eq_true] at hf1
    obtain ⟨⟨⟨⟨hn, hs⟩, hl⟩, hq⟩, hfl⟩ := hf1
    have h1 := wencL_small (decide (k = 5)) l q d ho1.2 hfl hq
    have h2 := wencL_small r xs ks.tail (d + 1) ho.2 hf.2 (fun t ht => hk t (List.mem_of_mem_tail ht))
    intro c hc
    rw [wencL_cons] at hc
    simp only [wenc] at hc
    rcases List.mem_append.1 hc with hc | hc
    · rcases List.mem_append.1 hc with hc | hc
      · cases r with
        | false => simp at hc
        | true =>
          rw [if_pos rfl] at hc
          exact tx_small _ (keyAt_small ks 0 hk) c hc
      · exact encN_small ho1.1 hn hs hl h1 c hc
    · exact h2 c hc

theorem wenc_small (v : Vl) (d : Nat) (ho : okB d v = true) (hf : fitB v = true) : ∀ c ∈ wenc v, 0 ≤ c ∧ c ≤ 255 := by
  have h := wencL_small false [v] [] d (by rw [okL_cons, ho, okL_nil]; rfl) (by rw [fitL_cons, hf, fitL_nil]; rfl) (fun t ht => by cases ht)
  rw [wencL_cons, wencL_nil] at h
  simpa using h

theorem wenc_pos (v : Vl) (d : Nat) (ho : okB d v = true) : 1 ≤ (wenc v).length := by
  cases v with
  | mk k n s l ks =>
    cases d with
    | zero => simp [okB] at ho
    | succ d =>
      simp only [okB, Bool.and_eq_true] at ho
      rcases form_zero ho.1 with ⟨rfl, _⟩ | ⟨rfl, _⟩ | ⟨rfl, _⟩ | ⟨rfl, _⟩ | ⟨rfl, _⟩ | ⟨rfl, _⟩
      · rw [wenc0]; simp
      · rw [wenc1]; simp
      · rw [wenc2]; simp
      · rw [wenc3]; simp
      · rw [wenc4]; simp
      · rw [wenc5]; simp
end Go.Proofs.YtjgjebohbgbimaaDoor

namespace Go.Proofs.YtjgjebohbgbimaaDoor
open Go.RowKit

set_option maxRecDepth 100000 in
set_option maxHeartbeats 400000 in
theorem right_code (v : Vl) (x : Value) (B : Nat) (w : World) (hv : IsV w B v x) (hBs : B ≤ w.heap.size) :
    Calls Tryd.prog 27 #[x] w fun e w' => e = .returned (.bool (rightB v)) ∧ Below w.heap.size w w' := by
  obtain ⟨k', n', s', l', ks', al', ak', cl', ck', hy', hx⟩ := hv.shape
  obtain ⟨ll, hll⟩ : ∃ ll, l'.length = ll := ⟨_, rfl⟩
  obtain ⟨m, hm⟩ : ∃ m, ks'.length = m := ⟨_, rfl⟩
  rw [hll, hm] at hx
  subst hx
  obtain ⟨w1, hw1⟩ : ∃ w1, w.alloc (.cells #[.int .i64 k', .int .i64 n', .string s', .slice al' ll cl', .slice ak' m ck'] 37) = w1 := ⟨_, rfl⟩
  have BX := Box.mk' w (.int .i64 k') (.int .i64 n') (.string s') (.slice al' ll cl') (.slice ak' m ck')
  rw [hw1] at BX
  obtain ⟨c0, c1, c2, c3, c4⟩ := row_cell BX.row
  have z1 := BX.size
  have HB := hide BX.below
  have CM := hide (measure_any v _ B w1 (hv.mono (BX.below.mono hBs)) (by omega))
  have HRB : Hid (decide (0 < wt0 v) = rightB v) := hide (by
    unfold wt0
    cases h : rightB v with
    | false => simp
    | true => have := wt_pos v; simp [this])
  clear BX hv hy'
  go_enter Tryd.func27, Tryd.ntmps27
  go_wp2_with fail
  refine (unhide CM).mono ?_
  rintro e w2 ⟨rfl, b2⟩
  have B2 := hide b2
  clear b2 CM
  go_wp2_with fail
  go_ret
  exact ⟨by rw [← unhide HRB]; rfl, (unhide HB).trans ((unhide B2).mono (by omega))⟩

end Go.Proofs.YtjgjebohbgbimaaDoor

namespace Go.Proofs.YtjgjebohbgbimaaDoor
open Go.RowKit

set_option maxRecDepth 100000 in
set_option maxHeartbeats 400000 in
theorem weight_code (v : Vl) (x : Value) (B : Nat) (w : World) (hv : IsV w B v x) (hBs : B ≤ w.heap.size) :
    Calls Tryd.prog 42 #[x] w fun e w' => e = .returned (.int .i64 (wt0 v : Int)) ∧ Below w.heap.size w w' := by
  obtain ⟨k', n', s', l', ks', al', ak', cl', ck', hy', hx⟩ := hv.shape
  obtain ⟨ll, hll⟩ : ∃ ll, l'.length = ll := ⟨_, rfl⟩
  obtain ⟨m, hm⟩ : ∃ m, ks'.length = m := ⟨_, rfl⟩
  rw [hll, hm] at hx
  subst hx
  obtain ⟨w1, hw1⟩ : ∃ w1, w.alloc (.cells #[.int .i64 k', .int .i64 n', .string s', .slice al' ll cl', .slice ak' m ck'] 37) = w1 := ⟨_, rfl⟩
  have BX := Box.mk' w (.int .i64 k') (.int .i64 n') (.string s') (.slice al' ll cl') (.slice ak' m ck')
  rw [hw1] at BX
  obtain ⟨c0, c1, c2, c3, c4⟩ := row_cell BX.row
  have z1 := BX.size
  have HB := hide BX.below
  have CM := hide (measure_any v _ B w1 (hv.mono (BX.below.mono hBs)) (by omega))
  clear BX hv hy'
  go_enter Tryd.func42, Tryd.ntmps42
  go_wp2_with fail
  refine (unhide CM).mono ?_
  rintro e w2 ⟨rfl, b2⟩
  have B2 := hide b2
  clear b2 CM
  go_wp2_with fail
  go_ret
  exact ⟨rfl, (unhide HB).trans ((unhide B2).mono (by omega))⟩

end Go.Proofs.YtjgjebohbgbimaaDoor
