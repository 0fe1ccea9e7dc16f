/-
  A lent value lies as a value does; Lent and Still of a value that is not right; conditions: the form's own reach.
  Lent and Still of any value, each with one contract; conditions: the form's own reach.
  What the form's own reach says of what lies within an argument: elements of slices, fields of structs; no conditions.
  How a value among the arguments is opened: a tree of values that lies in memory; no conditions.
-/
import Derived.Test.YtlmgiimgmjbkeaaA25
import Derived.Test.YtlmgiimgmjbkeaaA27
import Derived.Test.YtlmgiimgmjbkeaaChecked
import Derived.SizedLaws
import Derived.Deep.Strs
import Derived.Test.YtlmgiimgmjbkeaaA00
import Derived.ProofKit
import Derived.OpenShut
set_option linter.unusedVariables false
set_option linter.unusedSimpArgs false
namespace Go.Proofs.Ytlmgiimgmjbkeaa
open Go.RowKit
set_option linter.unusedVariables false
set_option linter.unusedSimpArgs false

theorem add_two (b i j : Nat) : ((⟨b, 0, none⟩ : Addr).add i).add j = ⟨b, i + j, none⟩ := by
  unfold Addr.add
  by_cases h0 : i = 0
  · by_cases h1 : j = 0
    · simp [h0, h1]
    · simp [h0, h1]
  · by_cases h1 : j = 0
    · simp [h0, h1]
    · simp [h0, h1]

theorem add_zero1 (b i : Nat) : (⟨b, 0, none⟩ : Addr).add i = ⟨b, i, none⟩ := by
  unfold Addr.add
  split <;> simp_all

theorem ln_isP {w w0 : World} {P P0 : Nat → Prop} : ∀ (d : Nat) (v : Vl) (x y : Value), dep v ≤ d → Ln w P v x → IsP w0 P0 v y → IsP w P v x
  | 0, v, x, y, hd, _, _ => by have := dep_pos v; omega
  | d + 1, v, x, y, hd, h, h0 => by
    obtain ⟨k, n, s, l, ks, al, ak, cl, ck, V0, rfl, rfl, hf0, el0⟩ := h0.inv
    obtain ⟨bl, bk, V, hx, hf, hl⟩ := h
    have el := (LnL_iff w P l V).1 hl
    have hx' : x = .agg #[.int .i64 k, .int .i64 n, .string s, .slice (some ⟨bl, 0, none⟩) l.length (l.length + 4), .slice (some ⟨bk, 0, none⟩) ks.length (ks.length + 4)] := hx
    rw [hx']
    refine IsP.of (V := V) ⟨hf0.bk, hf0.bn, hf0.bs, (fun e => by cases e), (fun e => by cases e), Nat.le_add_right _ _, Nat.le_add_right _ _, hf0.bl, hf0.bc, hf0.bq, ?_, fun i hi => hf.hv i (Nat.lt_of_lt_of_le hi (Nat.le_add_right _ _)), ?_, hf0.bt⟩ (fun i z hz => ln_isP d z _ _ (by have h1 := dep_elem l i z hz; simp only [dep] at hd; omega) (el i z hz) (el0 i z hz))
    · intro a ha i hi
      cases ha
      refine ⟨hf.pl, fun j u hu => ?_⟩
      rw [add_two]
      exact hf.cells (i := i) (Nat.lt_of_lt_of_le hi (Nat.le_add_right _ _)) j u hu
    · intro a ha i t ht
      cases ha
      refine ⟨hf.pk, ?_⟩
      rw [add_zero1]
      exact hf.key i _ (rowK_at ks i t ht)

theorem Ln.isV {w w0 : World} {P P0 : Nat → Prop} {B : Nat} {v : Vl} {x y : Value} (h : Ln w P v x) (h0 : IsP w0 P0 v y) (hP : ∀ b, P b → b < B) : IsV w B v x := (ln_isP (dep v) v x y (Nat.le_refl _) h h0).isV hP

set_option maxRecDepth 100000 in
set_option maxHeartbeats 1000000 in
theorem lent_no (v : Vl) (x : Value) (B : Nat) (w : World) (hR : rightB v = false) (hv : IsV w B v x) (hBs : B ≤ w.heap.size) :
    Calls Try.prog 13 #[x, .int .i64 0] w fun e w' => e = .returned x ∧ Below w.heap.size w w' := by
  obtain ⟨k, n, s, l, ks, al, ak, cl, ck, rfl, rfl⟩ := hv.shape
  obtain ⟨m, hm⟩ : ∃ m, ks.length = m := ⟨_, rfl⟩
  obtain ⟨ln, hln⟩ : ∃ ln, l.length = ln := ⟨_, rfl⟩
  rw [hm, hln] at hv ⊢
  obtain ⟨g, hg⟩ : ∃ g, w.heap.size = g := ⟨_, rfl⟩
  have T3 := Three.mk' w g hg #[.int .i64 k, .int .i64 n, .string s, .slice al ln cl, .slice ak m ck] #[.int .i64 0, .int .i64 0, .string ⟨#[]⟩, .slice none 0 0, .slice none 0 0] #[.int .i64 k, .int .i64 n, .string s, .slice al ln cl, .slice ak m ck]
  go_enter Try.func13, Try.ntmps13
  obtain ⟨w0, hw0⟩ : ∃ w0, ((w.alloc (.cells #[.int .i64 k, .int .i64 n, .string s, .slice al ln cl, .slice ak m ck] 34)).alloc (.cells #[.int .i64 0, .int .i64 0, .string ⟨#[]⟩, .slice none 0 0, .slice none 0 0] 34)).alloc (.cells #[.int .i64 k, .int .i64 n, .string s, .slice al ln cl, .slice ak m ck] 34) = w0 := ⟨_, rfl⟩
  rw [hw0] at T3
  have CR := hide (right_ref (.mk k n s l ks) _ B w0 (IsV.mono (T3.below.mono (by omega)) hv) (by have := T3.size; omega))
  rw [hR] at CR
  go_upto_region 2 with fail
  obtain ⟨a0, a1, a2, a3, a4⟩ := row_cell T3.at0
  have H0 := hide T3
  clear T3 hw0 hv hm hln
  go_wp2_with fail
  refine (unhide CR).mono ?_
  rintro e w3 ⟨rfl, b3⟩
  have zz := (unhide H0).size
  have H3 : Hid (w3.heap[g + 1]? = some (.cells #[.int .i64 0, .int .i64 0, .string ⟨#[]⟩, .slice none 0 0, .slice none 0 0] 34 (0, 0)) ∧ w3.heap[g + 1 + 1]? = some (.cells #[.int .i64 k, .int .i64 n, .string s, .slice al ln cl, .slice ak m ck] 34 (0, 0)) ∧ Below g w w3) := hide ⟨(b3.block (g + 1) (by omega)).trans (unhide H0).at1, (b3.block (g + 1 + 1) (by omega)).trans (unhide H0).at2, (unhide H0).below.trans (b3.mono (by omega))⟩
  clear b3 zz H0 CR a0 a1 a2 a3 a4
  obtain ⟨c0, c1, c2, c3, c4⟩ := row_cell (unhide H3).2.1
  obtain ⟨z0, z1, z2, z3, z4⟩ := row_cell (unhide H3).1
  have fz : ∀ q, w3.frozen? ⟨g + 1, q, none⟩ = false := fun q => frozen_of_row w3 (g + 1) q _ _ (unhide H3).1
  have fz0 := fz 0
  have fz1 := fz 1
  have fz2 := fz 2
  have fz3 := fz 3
  have fz4 := fz 4
  clear fz
  go_wp2_with fail
  have F9 := five_set w3 (g + 1) 34 _ _ _ _ _ (.int .i64 k) (.int .i64 n) (.string s) (.slice al ln cl) (.slice ak m ck) (unhide H3).1
  have B9 := five_below (g := g + 1) (unhide H3).2.2 (by omega) (.int .i64 k) (.int .i64 n) (.string s) (.slice al ln cl) (.slice ak m ck)
  obtain ⟨w9, hw9⟩ : ∃ w9, (((((w3.setCell ⟨g + 1, 0, none⟩ (.int .i64 k)).setCell ⟨g + 1, 1, none⟩ (.int .i64 n)).setCell ⟨g + 1, 2, none⟩ (.string s)).setCell ⟨g + 1, 3, none⟩ (.slice al ln cl)).setCell ⟨g + 1, 4, none⟩ (.slice ak m ck)) = w9 := ⟨_, rfl⟩
  rw [hw9] at F9 B9 ⊢
  obtain ⟨t0, t1, t2, t3, t4⟩ := row_cell F9
  refine bodyPost_ret (v := .agg #[.int .i64 k, .int .i64 n, .string s, .slice al ln cl, .slice ak m ck]) (by simp [results, Try.results13, go_sem, t0, t1, t2, t3, t4]) rfl ?_
  exact ⟨rfl, by first | exact B9 | (rw [hg]; exact B9)⟩

set_option maxRecDepth 100000 in
set_option maxHeartbeats 1000000 in
theorem still_no (v : Vl) (x y : Value) (B : Nat) (w : World) (hR : rightB v = false) (hx : ∃ k n s al ll cl ak m ck, x = .agg #[.int .i64 k, .int .i64 n, .string s, .slice al ll cl, .slice ak m ck]) (hv : IsV w B v y) (hBs : B ≤ w.heap.size) :
    Calls Try.prog 18 #[x, y, .int .i64 0] w fun e w' => e = .returned (.bool true) ∧ Below w.heap.size w w' := by
  obtain ⟨k, n, s, l, ks, al, ak, cl, ck, rfl, rfl⟩ := hv.shape
  obtain ⟨xk, xn, xs, xal, xl, xcl, xak, xm, xck, rfl⟩ := hx
  obtain ⟨m, hm⟩ : ∃ m, ks.length = m := ⟨_, rfl⟩
  obtain ⟨ln, hln⟩ : ∃ ln, l.length = ln := ⟨_, rfl⟩
  rw [hm, hln] at hv ⊢
  have TW := Two.mk' w 34 #[.int .i64 xk, .int .i64 xn, .string xs, .slice xal xl xcl, .slice xak xm xck] #[.int .i64 k, .int .i64 n, .string s, .slice al ln cl, .slice ak m ck]
  obtain ⟨w2, hw2⟩ : ∃ w2, (w.alloc (.cells #[.int .i64 xk, .int .i64 xn, .string xs, .slice xal xl xcl, .slice xak xm xck] 34)).alloc (.cells #[.int .i64 k, .int .i64 n, .string s, .slice al ln cl, .slice ak m ck] 34) = w2 := ⟨_, rfl⟩
  rw [hw2] at TW
  have CR := hide (right_ref _ _ B w2 (hv.mono (TW.below.mono hBs)) (Nat.le_trans hBs TW.below.size))
  rw [hR] at CR
  obtain ⟨g, hg⟩ : ∃ g, w.heap.size = g := ⟨_, rfl⟩
  rw [hg] at TW
  have HT := hide TW
  obtain ⟨d0, d1, d2, d3, d4⟩ := row_cell (unhide HT).at1
  have j0 : ¬ (0 : Int) < ((0 : Nat) : Int) := by omega
  clear TW hv hm hln
  go_enter Try.func18, Try.ntmps18
  go_upto_region 1 with fail
  try rw [hw2]
  clear hw2
  go_wp2_with fail
  refine (unhide CR).mono ?_
  rintro e u ⟨rfl, b⟩
  have HB := hide ((unhide HT).below.trans (b.mono (by have := (unhide HT).below.size; omega)))
  clear b CR
  go_wp2_with fail
  go_ret
  exact ⟨rfl, by first | exact unhide HB | (rw [← hg]; exact unhide HB) | (rw [hg]; exact unhide HB)⟩
end Go.Proofs.Ytlmgiimgmjbkeaa

namespace Go.Proofs.Ytlmgiimgmjbkeaa
open Go.RowKit
set_option linter.unusedVariables false
set_option linter.unusedSimpArgs false

theorem shape9 {w : World} {P : Nat → Prop} {v : Vl} {x : Value} (h : IsP w P v x) : ∃ p0 p1 p2 p3 p4 p5 p6 p7 p8, x = .agg #[.int .i64 p0, .int .i64 p1, .string p2, .slice p3 p4 p5, .slice p6 p7 p8] := by
  obtain ⟨k, n, s, l, ks, al, ak, cl, ck, _, e⟩ := h.shape
  exact ⟨_, _, _, _, _, _, _, _, _, e⟩

/-- a value that was lent; one that is not right, as it is -/
def LentOk (u : World) (lo hi : Nat) (v : Vl) (x y : Value) : Prop := (rightB v = true ∧ Ln u (fun b => lo ≤ b ∧ b < hi) v y) ∨ (rightB v = false ∧ y = x)

theorem LentOk.to {u u1 : World} {lo hi : Nat} {v : Vl} {x y : Value} (h : LentOk u lo hi v x y) (hu : ∀ b, lo ≤ b → b < hi → u1.heap[b]? = u.heap[b]?) : LentOk u1 lo hi v x y := by
  rcases h with ⟨h1, h2⟩ | h
  · exact Or.inl ⟨h1, h2.to (fun b hb => hu b hb.1 hb.2) (fun _ h => h)⟩
  · exact Or.inr h

theorem LentOk.isV {u : World} {lo hi g B : Nat} {v : Vl} {x y : Value} (h : LentOk u lo hi v x y) (hx : IsV u g v x) (h1 : hi ≤ B) (h2 : g ≤ B) : IsV u B v y := by
  rcases h with ⟨_, h⟩ | ⟨_, rfl⟩
  · exact h.isV hx (fun b hb => by omega)
  · exact hx.lift h2

theorem lent_both (v : Vl) (x : Value) (B : Nat) (w : World) (hv : IsV w B v x) (hBs : B ≤ w.heap.size) :
    Calls Try.prog 13 #[x, .int .i64 0] w fun e w' => ∃ x', e = .returned x' ∧ LentOk w' w.heap.size w'.heap.size v x x' ∧ Below w.heap.size w w' := by
  cases hR : rightB v with
  | true =>
    refine (lent_yes v x B w hR hv hBs).mono ?_
    rintro e w' ⟨x', rfl, h, b⟩
    exact ⟨x', rfl, Or.inl ⟨hR, h⟩, b⟩
  | false =>
    refine (lent_no v x B w hR hv hBs).mono ?_
    rintro e w' ⟨rfl, b⟩
    exact ⟨x, rfl, Or.inr ⟨hR, rfl⟩, b⟩

theorem still_both (v : Vl) (x y : Value) (lo hi g : Nat) (w : World) (h : LentOk w lo hi v x y) (hv : IsV w g v x) (hg : g ≤ w.heap.size) (hh : hi ≤ w.heap.size) :
    Calls Try.prog 18 #[y, x, .int .i64 0] w fun e w' => e = .returned (.bool true) ∧ Below w.heap.size w w' := by
  rcases h with ⟨hR, h⟩ | ⟨hR, rfl⟩
  · exact still_any (dep v) v y x g 0 _ w (Nat.le_refl _) (by have := dep_of_right hR; omega) (fun _ => hR) h (fun b hb => by omega) hv hg
  · exact still_no v y y g w hR (shape9 hv) hv hg
end Go.Proofs.Ytlmgiimgmjbkeaa

namespace Go.Proofs.Ytlmgiimgmjbkeaa
open Go

theorem weightsAll_mem {H : Type} {P : Program} {e : TypeId} : ∀ {ds : List (DataW H)} {d : DataW H}, d ∈ ds → ∀ n ∈ d.weights P e, n ∈ DataW.weightsAll P e ds
  | d0 :: ds, d, hd, n, hn => by
    simp only [DataW.weightsAll, List.mem_append]
    rcases List.mem_cons.1 hd with rfl | hd
    · exact Or.inl hn
    · exact Or.inr (weightsAll_mem hd n hn)

/-- within reach -/
def Reach {H : Type} (P : Program) (t : TypeId) (d : DataW H) : Prop := ∀ n ∈ d.weights P t, n ≤ reachBytes

theorem reach_arg {H : Type} {P : Program} {ts : List TypeId} {ds : List (DataW H)} (h : (DataW.weightsEach P ts ds).all (· ≤ reachBytes) = true) {j : Nat} {t : TypeId} {d : DataW H} (ht : ts[j]? = some t) (hd : ds[j]? = some d) : Reach P t d := fun n hn => by
  have := List.all_eq_true.1 h _ (DataW.weights_mem_each ht hd n hn)
  simpa using this

theorem Reach.slice {H : Type} {P : Program} {t e : TypeId} {elems spare : List (DataW H)} (h : Reach P t (.slice elems spare)) (hu : P.underlying t = some (.slice e)) : (elems.length + spare.length) * P.bytesOf e ≤ reachBytes :=
  h _ (by simp [DataW.weights, hu])

theorem Reach.elem {H : Type} {P : Program} {t e : TypeId} {elems spare : List (DataW H)} (h : Reach P t (.slice elems spare)) (hu : P.underlying t = some (.slice e)) {d : DataW H} (hd : d ∈ elems) : Reach P e d := fun n hn =>
  h n (by
    simp only [DataW.weights, hu, List.mem_cons, List.mem_append]
    exact Or.inr (Or.inl (weightsAll_mem hd n hn)))

theorem Reach.string {H : Type} {P : Program} {t : TypeId} {bytes : List UInt8} (h : Reach (H := H) P t (.lit (.string bytes))) : bytes.length ≤ reachBytes :=
  h _ (by simp [DataW.weights])

theorem Reach.field {H : Type} {P : Program} {t : TypeId} {fs : Array Field} {parts : List (DataW H)} (h : Reach P t (.agg parts)) (hu : P.underlying t = some (.struct fs)) {j : Nat} {u : TypeId} {d : DataW H} (ht : (fs.toList.map (·.type))[j]? = some u) (hd : parts[j]? = some d) : Reach P u d := fun n hn =>
  h n (by
    simp only [DataW.weights, hu]
    exact DataW.weights_mem_each ht hd n hn)

theorem reach_size {H : Type} {P : Program} {t : TypeId} {s : ByteArray} (h : Reach (H := H) P t (.lit (.string s.data.toList))) : s.size ≤ 140737488351232 := by
  have := h.string
  unfold reachBytes at this
  simpa using this
end Go.Proofs.Ytlmgiimgmjbkeaa

namespace Go.Proofs.Ytlmgiimgmjbkeaa
open Go.ChangeShapes Go.WideShapes Go.ChangeAt Go.RowKit

theorem cells1i : Try.prog.cellsOf 3 = 1 := by kernel_rfl
theorem cells1j : Try.prog.cellsOf 2 = 1 := by kernel_rfl
theorem cells1s : Try.prog.cellsOf 9 = 1 := by kernel_rfl
theorem cells1l : Try.prog.cellsOf 31 = 1 := by kernel_rfl
theorem cells1k : Try.prog.cellsOf 32 = 1 := by kernel_rfl
theorem cells5v : Try.prog.cellsOf 34 = 5 := by kernel_rfl

section
variable {H : Type} {enc : TypeId × Value → H} {W : World}

set_option maxRecDepth 100000 in
theorem open_fields {fuel : Nat} {cs : List Value} {x : DataW H × List MemPlace} (h : DataW.trod enc Try.prog W 0 (fun _ => true) true fuel 34 cs = some x) :
    ∃ (n : Nat) (c0 c1 c2 c3 c4 : Value) (y0 y1 y2 y3 y4 : DataW H × List MemPlace), fuel = n + 1 ∧ cs = [c0, c1, c2, c3, c4] ∧ x.1 = .agg [y0.1, y1.1, y2.1, y3.1, y4.1] ∧
      DataW.trod enc Try.prog W 0 (fun _ => true) true n 3 [c0] = some y0 ∧ DataW.trod enc Try.prog W 0 (fun _ => true) true n 2 [c1] = some y1 ∧ DataW.trod enc Try.prog W 0 (fun _ => true) true n 9 [c2] = some y2 ∧
      DataW.trod enc Try.prog W 0 (fun _ => true) true n 31 [c3] = some y3 ∧ DataW.trod enc Try.prog W 0 (fun _ => true) true n 32 [c4] = some y4 := by
  obtain ⟨xs, n, rfl, rfl, hl, hlen, hf⟩ := DataW.trod_struct Try.underlying34 h
  rw [cells5v] at hl
  have hlen' : xs.length = 5 := hlen
  match cs, hl, xs, hlen' with
  | [c0, c1, c2, c3, c4], _, [y0, y1, y2, y3, y4], _ =>
    have h0 : DataW.trod enc Try.prog W 0 (fun _ => true) true n 3 (([c0, c1, c2, c3, c4].drop 0).take (Try.prog.cellsOf 3)) = some y0 := hf 0 _ rfl
    rw [cells1i] at h0
    have h1 : DataW.trod enc Try.prog W 0 (fun _ => true) true n 2 (([c0, c1, c2, c3, c4].drop 1).take (Try.prog.cellsOf 2)) = some y1 := hf 1 _ rfl
    rw [cells1j] at h1
    have h2 : DataW.trod enc Try.prog W 0 (fun _ => true) true n 9 (([c0, c1, c2, c3, c4].drop 2).take (Try.prog.cellsOf 9)) = some y2 := hf 2 _ rfl
    rw [cells1s] at h2
    have h3 : DataW.trod enc Try.prog W 0 (fun _ => true) true n 31 (([c0, c1, c2, c3, c4].drop 3).take (Try.prog.cellsOf 31)) = some y3 := hf 3 _ rfl
    rw [cells1l] at h3
    have h4 : DataW.trod enc Try.prog W 0 (fun _ => true) true n 32 (([c0, c1, c2, c3, c4].drop 4).take (Try.prog.cellsOf 32)) = some y4 := hf 4 _ rfl
    rw [cells1k] at h4
    exact ⟨n, c0, c1, c2, c3, c4, y0, y1, y2, y3, y4, rfl, rfl, rfl, h0, h1, h2, h3, h4⟩

set_option maxRecDepth 100000 in
theorem open_value : ∀ (fuel : Nat) (cs : List Value) (x : DataW H × List MemPlace), DataW.trod enc Try.prog W 0 (fun _ => true) true fuel 34 cs = some x → Go.Proofs.Ytlmgiimgmjbkeaa.Reach Try.prog 34 x.1 → ∃ v, IsV W W.heap.size v (.agg cs.toArray) := by
  intro fuel
  induction fuel using Nat.strongRecOn with
  | ind fuel ih =>
    intro cs x h hre
    obtain ⟨n, c0, c1, c2, c3, c4, y0, y1, y2, y3, y4, rfl, rfl, hx, h0, h1, h2, h3, h4⟩ := open_fields h
    rw [hx] at hre
    obtain ⟨k, e0, _, w0⟩ := DataW.trod_int Try.underlying3 h0
    obtain ⟨m, e1, _, w1⟩ := DataW.trod_int Try.underlying2 h1
    obtain ⟨s, e2, hy2, _⟩ := DataW.trod_string Try.underlying9 h2
    simp only [List.cons.injEq, and_true] at e0 e1 e2
    subst e0
    subst e1
    subst e2
    have r2 : s.size ≤ 140737488351232 := by
      have := hre.field (j := 2) (u := 9) (d := y2.1) Try.underlying34 rfl rfl
      rw [hy2] at this
      exact reach_size this
    have r3 := hre.field (j := 3) (u := 31) (d := y3.1) Try.underlying34 rfl rfl
    have r4 := hre.field (j := 4) (u := 32) (d := y4.1) Try.underlying34 rfl rfl
    obtain ⟨ks, ak, ck, hc4, nk, lk, ⟨bc, bq⟩, hk, bt⟩ : ∃ (ks : List ByteArray) (ak : Option Addr) (ck : Nat), c4 = .slice ak ks.length ck ∧ (ak = none → ks.length = 0 ∧ ck = 0) ∧ ks.length ≤ ck ∧ (ck ≤ 140737488351232 ∧ 16 * ks.length ≤ 140737488351232) ∧ (∀ a, ak = some a → ∀ i t, ks[i]? = some t → a.block < W.heap.size ∧ W.cell? (a.add i) = some (.string t)) ∧ ∀ t ∈ ks, t.size ≤ 140737488351232 := by
      rcases Go.Deep.open_strs Try.underlying32 Try.underlying9 cells1s h4 with ⟨hcs, _⟩ | ⟨a, l, c, m', Sx, hcs, _, hl, hm, hmm, hx4, hcell⟩
      · simp only [List.cons.injEq, and_true] at hcs
        exact ⟨[], none, 0, hcs, fun _ => ⟨rfl, rfl⟩, Nat.le_refl _, ⟨by omega, by simp⟩, (fun a h => by cases h), fun t h => by cases h⟩
      · simp only [List.cons.injEq, and_true] at hcs
        simp only [if_true] at hmm
        subst hmm
        rw [hx4] at r4
        refine ⟨(List.range l).map Sx, some a, m', by simpa using hcs, (fun e => by cases e), by simpa using hl, ?_, ?_, ?_⟩
        · have h := r4.slice Try.underlying32
          rw [show Try.prog.bytesOf 9 = 16 by kernel_rfl] at h
          unfold reachBytes at h
          simp at h
          refine ⟨by omega, ?_⟩
          rw [List.length_map, List.length_range]
          omega
        · intro b hb i t ht
          cases hb
          have hi : i < l := by
            have := (List.getElem?_eq_some_iff.1 ht).1
            simpa using this
          rw [List.getElem?_map, List.getElem?_range hi] at ht
          simp only [Option.map_some, Option.some.injEq] at ht
          subst ht
          have hc := (hcell i (by omega)).1
          refine ⟨?_, hc⟩
          have := World.block_lt_of_cell? _ _ (by rw [hc])
          rw [block_add] at this
          exact this
        · intro t ht
          obtain ⟨i, hi, rfl⟩ := List.mem_map.1 ht
          exact reach_size (r4.elem Try.underlying32 (List.mem_map.2 ⟨i, hi, rfl⟩))
    obtain ⟨l, al, cl, V, hc3, nl, ll, bl, hl, hv, el⟩ : ∃ (l : List Vl) (al : Option Addr) (cl : Nat) (V : Nat → List Value), c3 = .slice al l.length cl ∧ (al = none → l.length = 0 ∧ cl = 0) ∧ l.length ≤ cl ∧ cl ≤ 140737488351232 ∧
        (∀ a, al = some a → ∀ i, i < l.length → a.block < W.heap.size ∧ ∀ j v, (V i)[j]? = some v → W.cell? ((a.add (i * 5)).add j) = some v) ∧ (∀ i, i < l.length → (V i).length = 5) ∧ ∀ i x, l[i]? = some x → IsV W W.heap.size x (.agg (V i).toArray) := by
      rcases DataW.trod_slice Try.underlying31 h3 with ⟨hcs, _⟩ | ⟨a, len, cap, elems, rest, n', hn', hcs, hx3, _, hlc, hcm, hlen, hel, hsp, _⟩
      · simp only [List.cons.injEq, and_true] at hcs
        exact ⟨[], none, 0, fun _ => [], hcs, fun _ => ⟨rfl, rfl⟩, Nat.le_refl _, by omega, (fun a h => by cases h), (fun i h => absurd h (by simp)), fun i x h => by simp at h⟩
      · simp only [List.cons.injEq, and_true] at hcs
        rw [hx3] at r3
        rw [cells5v] at hel
        have hall : ∀ i, i < len → ∃ p : List Value × Vl, p.1.length = 5 ∧ (a.block < W.heap.size ∧ ∀ j v, p.1[j]? = some v → W.cell? ((a.add (i * 5)).add j) = some v) ∧ IsV W W.heap.size p.2 (.agg p.1.toArray) := by
          intro i hi
          have he := hel i hi
          rw [List.getElem?_eq_getElem (by omega)] at he
          obtain ⟨cs', hc1, hc2⟩ := Option.bind_eq_some_iff.1 he
          obtain ⟨_, hl5, hcell⟩ := World.cells?_some hc1
          obtain ⟨v, hv⟩ := ih n' (by omega) cs' _ hc2 (r3.elem Try.underlying31 (List.mem_map.2 ⟨_, List.getElem_mem _, rfl⟩))
          refine ⟨(cs', v), hl5, ⟨?_, fun j u hu => ?_⟩, hv⟩
          · have h0 := hcell 0 (by omega)
            have := World.block_lt_of_cell? W ((a.add (i * 5)).add 0) (by rw [h0, List.getElem?_eq_getElem (by omega)])
            rw [block_add, block_add] at this
            exact this
          · have hj : j < 5 := by
              have h5 : j < cs'.length := (List.getElem?_eq_some_iff.1 hu).1
              omega
            rw [hcell j hj]
            exact hu
        haveI : Inhabited (List Value × Vl) := ⟨([], .mk 0 0 ⟨#[]⟩ [] [])⟩
        obtain ⟨f, hf⟩ := Go.Deep.choose_lt hall
        refine ⟨(List.range len).map (fun i => (f i).2), some a, cap, fun i => (f i).1, by simpa using hcs, (fun e => by cases e), by simpa using hlc, ?_, ?_, ?_, ?_⟩
        · have h := r3.slice Try.underlying31
          rw [show Try.prog.bytesOf 34 = 80 by kernel_rfl] at h
          have hs := (hsp rfl).1
          unfold reachBytes at h
          simp at h
          omega
        · intro b hb i hi
          cases hb
          exact (hf i (by simpa using hi)).2.1
        · intro i hi
          exact (hf i (by simpa using hi)).1
        · intro i x hx
          have hi : i < len := by
            have := (List.getElem?_eq_some_iff.1 hx).1
            simpa using this
          rw [List.getElem?_map, List.getElem?_range hi] at hx
          simp only [Option.map_some, Option.some.injEq] at hx
          subst hx
          exact (hf i hi).2.2
    subst hc3
    subst hc4
    exact ⟨.mk k m s l ks, IsP.of ⟨bounds_i64 w0, bounds_i64 w1, r2, nl, nk, ll, lk, Nat.le_trans ll bl, Nat.le_trans lk bc, bq, hl, hv, hk, bt⟩ el⟩
end
end Go.Proofs.Ytlmgiimgmjbkeaa
