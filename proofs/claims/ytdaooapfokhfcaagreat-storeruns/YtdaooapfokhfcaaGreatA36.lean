/-
  The walks of the document's Right, Weight, deep, Depth; no conditions but the form's own reach.
  The walk of the document's Copy; conditions: the form's own reach.
  The walk of the document's Weight; no conditions but the form's own reach.
  The document's store: place, Key, Get, After, Len, Open, New; conditions: the form's own reach.
  One operation of a region that draws its order, taken first; no conditions.
-/
import Derived.Test.YtdaooapfokhfcaaGreatA35
import Derived.Test.YtdaooapfokhfcaaGreatA33
import Derived.Test.YtdaooapfokhfcaaGreatA20
import Derived.Test.YtdaooapfokhfcaaGreatA32
import Derived.BigQuiet
import Derived.Test.YtdaooapfokhfcaaGreatA00
import Derived.Deep.RegionHeld3
namespace Go.Proofs.YtdaooapfokhfcaaGreat
open Go.RowKit

theorem weigh_any : ∀ b, WeighAt b
  | 0 => weigh_zero
  | b + 1 => weigh_step b (weigh_any b)

theorem wgh_right (v : Vl) : (wgh 8 v 0 ≤ 2048 ↔ rightB v = true) ∧ (rightB v = true → wgh 8 v 0 = wt v) ∧ (rightB v = false → wgh 8 v 0 = 2049) := by
  have h0 : rightB v = (okB 8 v && decide (0 + wt v ≤ 2048)) := by unfold rightB; rw [Nat.zero_add]
  have h1 : rightB v = true → wgh 8 v 0 = wt v := by
    intro h
    rw [h0] at h
    unfold wgh
    rw [if_pos h, Nat.zero_add]
  have h2 : rightB v = false → wgh 8 v 0 = 2049 := by
    intro h
    rw [h0] at h
    unfold wgh
    rw [if_neg (by rw [h]; simp)]
  refine ⟨⟨fun h => ?_, fun h => ?_⟩, h1, h2⟩
  · cases hr : rightB v with
    | true => rfl
    | false => rw [h2 hr] at h; omega
  · rw [h1 h]
    unfold rightB at h
    rw [Bool.and_eq_true, decide_eq_true_eq] at h
    exact h.2

set_option maxRecDepth 100000 in
set_option maxHeartbeats 400000 in
theorem right_ref (v : Vl) (x : Value) (B : Nat) (w : World) (hv : IsV w B v x) (hBs : B ≤ w.heap.size) :
    Calls Tryz.prog 51 #[x] w fun e w' => e = .returned (.bool (rightB v)) ∧ Below w.heap.size w w' := by
  obtain ⟨k', n', s', l', ks', al', ak', cl', ck', hy', hx⟩ := hv.shape
  obtain ⟨ll, hll⟩ : ∃ ll, l'.length = ll := ⟨_, rfl⟩
  obtain ⟨m, hm⟩ : ∃ m, ks'.length = m := ⟨_, rfl⟩
  rw [hll, hm] at hx
  subst hx
  obtain ⟨w1, hw1⟩ : ∃ w1, w.alloc (.cells #[.int .i64 k', .int .i64 n', .string s', .slice al' ll cl', .slice ak' m ck'] 32) = w1 := ⟨_, rfl⟩
  have BX := Box.mk' w (.int .i64 k') (.int .i64 n') (.string s') (.slice al' ll cl') (.slice ak' m ck')
  rw [hw1] at BX
  obtain ⟨c0, c1, c2, c3, c4⟩ := row_cell BX.row
  have z1 := BX.size
  have HB := hide BX.below
  have CW := hide (weigh_any 8 v _ 0 0 B w1 (by omega) (hv.mono (BX.below.mono hBs)) (by omega) (by omega))
  have HR : Hid (decide ((wgh 8 v 0 : Int) ≤ 2048) = rightB v) := hide (by
    cases hr : rightB v with
    | true => exact decide_eq_true (by have := (wgh_right v).1.2 hr; omega)
    | false => exact decide_eq_false (by rw [(wgh_right v).2.2 hr]; omega))
  obtain ⟨W, hW⟩ : ∃ W, wgh 8 v 0 = W := ⟨_, rfl⟩
  rw [hW] at CW HR
  clear BX hv hy' hW
  go_enter Tryz.func51, Tryz.ntmps51
  go_wp2_with fail
  refine (unhide CW).mono ?_
  rintro e w2 ⟨rfl, b2⟩
  have B2 := hide b2
  clear b2 CW
  go_wp2_with fail
  go_ret
  exact ⟨by rw [← unhide HR]; rfl, (unhide HB).trans ((unhide B2).mono (by omega))⟩

end Go.Proofs.YtdaooapfokhfcaaGreat

namespace Go.Proofs.YtdaooapfokhfcaaGreat
open Go.RowKit
set_option linter.unusedVariables false
set_option linter.unusedSimpArgs false

set_option maxRecDepth 100000 in
set_option maxHeartbeats 400000 in
theorem copyD_any (v : Vl) (x : Value) (B : Nat) (w : World) (hv : IsV w B v x) (hBs : B ≤ w.heap.size) :
    Calls Tryz.prog 69 #[x] w fun e w' => ∃ x', e = .returned x' ∧ Below w.heap.size w w' ∧ (rightB v = true → IsQ w' (fun b => w.heap.size ≤ b ∧ b < w'.heap.size) v x') ∧ (rightB v = false → x' = .agg #[.int .i64 0, .int .i64 0, .string ⟨#[]⟩, .slice none 0 0, .slice none 0 0]) := by
  obtain ⟨k, n, s, l, ks, al, ak, cl, ck, hvv, hx⟩ := hv.shape
  clear hvv
  obtain ⟨m, hm⟩ : ∃ m, ks.length = m := ⟨_, rfl⟩
  obtain ⟨ln, hln⟩ : ∃ ln, l.length = ln := ⟨_, rfl⟩
  rw [hm, hln] at hx
  subst hx
  have TW := Two.mk' w 32 #[.int .i64 k, .int .i64 n, .string s, .slice al ln cl, .slice ak m ck] #[.int .i64 0, .int .i64 0, .string ⟨#[]⟩, .slice none 0 0, .slice none 0 0]
  obtain ⟨w2, hw2⟩ : ∃ w2, (w.alloc (.cells #[.int .i64 k, .int .i64 n, .string s, .slice al ln cl, .slice ak m ck] 32)).alloc (.cells #[.int .i64 0, .int .i64 0, .string ⟨#[]⟩, .slice none 0 0, .slice none 0 0] 32) = w2 := ⟨_, rfl⟩
  rw [hw2] at TW
  obtain ⟨g, hg⟩ : ∃ g, w.heap.size = g := ⟨_, rfl⟩
  rw [hg] at TW
  have HT : Hid (∀ u, Below w2.heap.size w2 u → u.heap[g]? = some (.cells #[.int .i64 k, .int .i64 n, .string s, .slice al ln cl, .slice ak m ck] 32 (0, 0)) ∧ u.heap[g + 1]? = some (.cells #[.int .i64 0, .int .i64 0, .string ⟨#[]⟩, .slice none 0 0, .slice none 0 0] 32 (0, 0)) ∧ IsV u B v (.agg #[.int .i64 k, .int .i64 n, .string s, .slice al ln cl, .slice ak m ck]) ∧ B ≤ u.heap.size ∧ Below w.heap.size w u ∧ g + 2 ≤ u.heap.size) :=
    hide (fun u hu => by
      have h1 : Below w.heap.size w u := TW.below.trans (hu.mono (by have := TW.size; omega))
      have h2 := TW.size
      have h3 := hu.size
      exact ⟨(TW.later hu).1, (TW.later hu).2, hv.mono (h1.mono hBs), by omega, h1, by omega⟩)
  obtain ⟨c0, c1, c2, c3, c4⟩ := row_cell TW.at0
  have CF := hide (right_ref v _ B w2 (unhide HT w2 (Below.refl _ _)).2.2.1 (unhide HT w2 (Below.refl _ _)).2.2.2.1)
  clear TW hv hm hln
  cases hF : rightB v with
  | false =>
    rw [hF] at CF
    clear hF
    go_enter Tryz.func69, Tryz.ntmps69
    go_wp2_with fail
    refine (unhide CF).mono ?_
    rintro e u3 ⟨rfl, b3⟩
    have H3 := hide b3
    clear b3 CF c0 c1 c2 c3 c4
    obtain ⟨c0, c1, c2, c3, c4⟩ := row_cell (unhide HT u3 (unhide H3)).1
    have ATX := (unhide HT u3 (unhide H3)).2.1
    obtain ⟨z0, z1, z2, z3, z4⟩ := row_cell ATX
    have fz : ∀ q, u3.frozen? ⟨g + 1, q, none⟩ = false := fun q => frozen_of_row u3 (g + 1) q _ _ ATX
    have fz0 := fz 0
    have fz1 := fz 1
    have fz2 := fz 2
    have fz3 := fz 3
    have fz4 := fz 4
    have HAT := hide ATX
    clear fz ATX
    go_wp2_with fail
    have ATX := unhide HAT
    have BW := (unhide HT u3 (unhide H3)).2.2.2.2.1
    have R9 := five_set u3 (g + 1) 32 _ _ _ _ _ (.int .i64 0) (.int .i64 0) (.string ⟨#[]⟩) (.slice none 0 0) (.slice none 0 0) ATX
    have O9 := five_other u3 (g + 1) (x0 := .int .i64 0) (x1 := .int .i64 0) (x2 := .string ⟨#[]⟩) (x3 := .slice none 0 0) (x4 := .slice none 0 0)
    have S9 : (((((u3.setCell ⟨g + 1, 0, none⟩ (.int .i64 0)).setCell ⟨g + 1, 1, none⟩ (.int .i64 0)).setCell ⟨g + 1, 2, none⟩ (.string ⟨#[]⟩)).setCell ⟨g + 1, 3, none⟩ (.slice none 0 0)).setCell ⟨g + 1, 4, none⟩ (.slice none 0 0)).heap.size = u3.heap.size := by simp
    obtain ⟨w9, hw9⟩ : ∃ w9, (((((u3.setCell ⟨g + 1, 0, none⟩ (.int .i64 0)).setCell ⟨g + 1, 1, none⟩ (.int .i64 0)).setCell ⟨g + 1, 2, none⟩ (.string ⟨#[]⟩)).setCell ⟨g + 1, 3, none⟩ (.slice none 0 0)).setCell ⟨g + 1, 4, none⟩ (.slice none 0 0)) = w9 := ⟨_, rfl⟩
    rw [hw9] at R9 S9 ⊢
    have B9 : Below w.heap.size w w9 := by rw [← hw9]; exact five_below BW (by omega) _ _ _ _ _
    obtain ⟨r0, r1, r2, r3, r4⟩ := row_cell R9
    refine bodyPost_ret (v := .agg #[.int .i64 0, .int .i64 0, .string ⟨#[]⟩, .slice none 0 0, .slice none 0 0]) (by simp [results, Tryz.results69, go_sem, r0, r1, r2, r3, r4]) rfl ?_
    first | exact ⟨_, rfl, B9, (fun h => by cases h), fun _ => rfl⟩ | (rw [hg] at B9; exact ⟨_, rfl, B9, (fun h => by cases h), fun _ => rfl⟩) | exact ⟨rfl, B9⟩ | (rw [hg] at B9; exact ⟨rfl, B9⟩)
  | true =>
    rw [hF] at CF
    have hcn : cnt v ≤ 5000 := by have h := few_right hF; unfold fewB at h; exact of_decide_eq_true h
    have CD := fun u hu => hide (cpd_any (dep v) v _ B u (Nat.le_refl _) hcn (unhide HT u hu).2.2.1 (unhide HT u hu).2.2.2.1)
    clear hF hcn
    go_enter Tryz.func69, Tryz.ntmps69
    go_wp2_with fail
    refine (unhide CF).mono ?_
    rintro e u3 ⟨rfl, b3⟩
    have H3 := hide b3
    clear b3 CF c0 c1 c2 c3 c4
    obtain ⟨c0, c1, c2, c3, c4⟩ := row_cell (unhide HT u3 (unhide H3)).1
    go_wp2_with fail
    refine (unhide (CD u3 (unhide H3))).mono ?_
    rintro e u4 ⟨x4, rfl, p4, b4⟩
    obtain ⟨k4, n4, s4, l4, ks4, al4, ak4, cl4, ck4, hv4, rfl⟩ := p4.shape
    clear hv4
    obtain ⟨lc, hlc⟩ : ∃ lc, l4.length = lc := ⟨_, rfl⟩
    obtain ⟨mc, hmc⟩ : ∃ mc, ks4.length = mc := ⟨_, rfl⟩
    rw [hlc, hmc] at p4 ⊢
    have X4 := (unhide H3).trans (b4.mono (unhide H3).size)
    have H4 := hide (And.intro X4 (And.intro p4 b4.size))
    have ATX := (unhide HT u4 X4).2.1
    obtain ⟨z0, z1, z2, z3, z4⟩ := row_cell ATX
    have fz : ∀ q, u4.frozen? ⟨g + 1, q, none⟩ = false := fun q => frozen_of_row u4 (g + 1) q _ _ ATX
    have fz0 := fz 0
    have fz1 := fz 1
    have fz2 := fz 2
    have fz3 := fz 3
    have fz4 := fz 4
    have HAT := hide ATX
    clear fz ATX p4 b4 X4 CD hlc hmc c0 c1 c2 c3 c4
    go_wp2_with fail
    have ATX := unhide HAT
    have BW := (unhide HT u4 (unhide H4).1).2.2.2.2.1
    have g3 := (unhide HT u3 (unhide H3)).2.2.2.2.2
    have R9 := five_set u4 (g + 1) 32 _ _ _ _ _ (.int .i64 k4) (.int .i64 n4) (.string s4) (.slice al4 lc cl4) (.slice ak4 mc ck4) ATX
    have O9 := five_other u4 (g + 1) (x0 := .int .i64 k4) (x1 := .int .i64 n4) (x2 := .string s4) (x3 := .slice al4 lc cl4) (x4 := .slice ak4 mc ck4)
    have S9 : (((((u4.setCell ⟨g + 1, 0, none⟩ (.int .i64 k4)).setCell ⟨g + 1, 1, none⟩ (.int .i64 n4)).setCell ⟨g + 1, 2, none⟩ (.string s4)).setCell ⟨g + 1, 3, none⟩ (.slice al4 lc cl4)).setCell ⟨g + 1, 4, none⟩ (.slice ak4 mc ck4)).heap.size = u4.heap.size := by simp
    obtain ⟨w9, hw9⟩ : ∃ w9, (((((u4.setCell ⟨g + 1, 0, none⟩ (.int .i64 k4)).setCell ⟨g + 1, 1, none⟩ (.int .i64 n4)).setCell ⟨g + 1, 2, none⟩ (.string s4)).setCell ⟨g + 1, 3, none⟩ (.slice al4 lc cl4)).setCell ⟨g + 1, 4, none⟩ (.slice ak4 mc ck4)) = w9 := ⟨_, rfl⟩
    rw [hw9] at R9 S9 ⊢
    have B9 : Below w.heap.size w w9 := by rw [← hw9]; exact five_below BW (by omega) _ _ _ _ _
    obtain ⟨r0, r1, r2, r3, r4⟩ := row_cell R9
    refine bodyPost_ret (v := .agg #[.int .i64 k4, .int .i64 n4, .string s4, .slice al4 lc cl4, .slice ak4 mc ck4]) (by simp [results, Tryz.results69, go_sem, r0, r1, r2, r3, r4]) rfl ?_
    have Q9 : IsQ w9 (fun b => w.heap.size ≤ b ∧ b < w9.heap.size) v (.agg #[.int .i64 k4, .int .i64 n4, .string s4, .slice al4 lc cl4, .slice ak4 mc ck4]) := ((unhide H4).2.1.move (fun q hq => by rw [← hw9]; exact O9 q (by have := hq.1; omega))).weak (fun q hq => ⟨by have := hq.1; omega, by have := hq.2; omega⟩)
    first | exact ⟨_, rfl, B9, (fun _ => Q9), fun h => by cases h⟩ | (rw [hg] at B9 Q9; exact ⟨_, rfl, B9, (fun _ => Q9), fun h => by cases h⟩) | exact ⟨_, rfl, B9, Q9⟩ | (rw [hg] at B9 Q9; exact ⟨_, rfl, B9, Q9⟩)

end Go.Proofs.YtdaooapfokhfcaaGreat

namespace Go.Proofs.YtdaooapfokhfcaaGreat
open Go.RowKit

set_option maxRecDepth 100000 in
set_option maxHeartbeats 400000 in
theorem weight_ref (v : Vl) (x : Value) (B : Nat) (w : World) (hv : IsV w B v x) (hBs : B ≤ w.heap.size) :
    Calls Tryz.prog 85 #[x] w fun e w' => e = .returned (.int .i64 (wt0 v : Int)) ∧ Below w.heap.size w w' := by
  obtain ⟨k', n', s', l', ks', al', ak', cl', ck', hy', hx⟩ := hv.shape
  obtain ⟨ll, hll⟩ : ∃ ll, l'.length = ll := ⟨_, rfl⟩
  obtain ⟨m, hm⟩ : ∃ m, ks'.length = m := ⟨_, rfl⟩
  rw [hll, hm] at hx
  subst hx
  obtain ⟨w1, hw1⟩ : ∃ w1, w.alloc (.cells #[.int .i64 k', .int .i64 n', .string s', .slice al' ll cl', .slice ak' m ck'] 32) = w1 := ⟨_, rfl⟩
  have BX := Box.mk' w (.int .i64 k') (.int .i64 n') (.string s') (.slice al' ll cl') (.slice ak' m ck')
  rw [hw1] at BX
  obtain ⟨c0, c1, c2, c3, c4⟩ := row_cell BX.row
  have z1 := BX.size
  have HB := hide BX.below
  have CW := hide (weigh_any 8 v _ 0 0 B w1 (by omega) (hv.mono (BX.below.mono hBs)) (by omega) (by omega))
  clear BX hv hy'
  cases hr : rightB v with
  | true =>
    have hz : wt0 v = wt v := by unfold wt0; rw [hr]; rfl
    have hwl : wt v ≤ 2048 := by
      unfold rightB at hr
      rw [Bool.and_eq_true, decide_eq_true_eq] at hr
      exact hr.2
    rw [(wgh_right v).2.1 hr] at CW
    obtain ⟨W, hW⟩ : ∃ W, wt v = W := ⟨_, rfl⟩
    rw [hW] at CW hz hwl
    rw [hz]
    have h1 : ¬ (2048 : Int) < (W : Int) := by omega
    clear hr hz hW
    go_enter Tryz.func85, Tryz.ntmps85
    go_wp2_with fail
    refine (unhide CW).mono ?_
    rintro e w2 ⟨rfl, b2⟩
    have B2 := hide b2
    clear b2 CW
    go_wp2_with fail
    go_ret
    exact ⟨rfl, (unhide HB).trans ((unhide B2).mono (by omega))⟩
  | false =>
    have hz : wt0 v = 0 := by unfold wt0; rw [hr]; rfl
    rw [(wgh_right v).2.2 hr] at CW
    rw [hz]
    clear hr hz
    go_enter Tryz.func85, Tryz.ntmps85
    go_wp2_with fail
    refine (unhide CW).mono ?_
    rintro e w2 ⟨rfl, b2⟩
    have B2 := hide b2
    clear b2 CW
    go_wp2_with fail
    go_ret
    exact ⟨rfl, (unhide HB).trans ((unhide B2).mono (by omega))⟩

end Go.Proofs.YtdaooapfokhfcaaGreat

namespace Go.Proofs.YtdaooapfokhfcaaGreat
open Go.RowKit
set_option linter.unusedVariables false
set_option linter.unusedSimpArgs false

theorem low_is {α : Type} : ∀ (l : List (ByteArray × α)) (k : ByteArray) (i : Nat), i ≤ l.length → (∀ (j : Nat) (p : ByteArray × α), j < i → l[j]? = some p → bl p.1 k = true) → (∀ p, l[i]? = some p → bl p.1 k = false) → i = lowK l k
  | [], k, i, h, _, _ => by simp at h; simp [lowK, h]
  | q :: r, k, 0, _, _, h => by
    have := h q rfl
    simp [lowK, this]
  | q :: r, k, i + 1, hl, h1, h2 => by
    have h0 := h1 0 q (by omega) rfl
    unfold lowK
    rw [if_pos h0]
    have := low_is r k i (by simpa using hl) (fun j p hj hp => h1 (j + 1) p (by omega) (by simpa using hp)) (fun p hp => h2 p (by simpa using hp))
    omega

section
variable {w w' : World} {V V' : Nat → Prop} {t t' : Rx} {X B : Xs} {Bs : List Xs}

theorem Rto.shape (h : Rto w V t) : ∃ ao cap, t.lv = .slice ao t.lx.length cap ∧ t.lx.length ≤ cap ∧ cap ≤ maxLen ∧ (ao = none → t.lx.length = 0 ∧ cap = 0) ∧ (∀ a, ao = some a → ∃ b, a = ⟨b, 0, none⟩) ∧ ∀ i p, t.lx[i]? = some p → ∃ b, ao = some ⟨b, 0, none⟩ ∧ b < w.heap.size ∧ ∀ j u, (pcV (p.1, p.2.1))[j]? = some u → w.cell? ⟨b, i * 6 + j, none⟩ = some u := by
  rcases h.row.2 with ⟨e, e2⟩ | ⟨b, cap, cur, e, hb, hg, hc, hm, hs, ht⟩
  · refine ⟨none, 0, by rw [e, e2], by omega, by unfold maxLen; omega, fun _ => ⟨e2, rfl⟩, (fun a ha => by cases ha), fun i p hp => ?_⟩
    have := (List.getElem?_eq_some_iff.1 hp).1
    omega
  · refine ⟨_, cap, e, hc, hm, (fun e => by cases e), (fun a ha => ⟨b, by cases ha; rfl⟩), fun i p hp => ⟨b, rfl, (Array.getElem?_eq_some_iff.1 hg).1, fun j u hu => ?_⟩⟩
    have h1 : (mapK Prod.fst t.lx)[i]? = some (p.1, p.2.1) := by unfold mapK; rw [List.getElem?_map, hp]; rfl
    have h2 := cellsV_at (mapK Prod.fst t.lx) i _ h1 j u hu
    have h3 := h.row.cells (show t.lv.ownBlock = some b by rw [e]; rfl) _ _ h2
    rw [add_offR, Nat.zero_add] at h3
    exact h3

set_option maxRecDepth 100000 in
set_option maxHeartbeats 800000 in
theorem place_any (h : Rto w V t) (k : ByteArray) : Calls Tryz.prog 68 #[.pointer (some ⟨t.r, 0, none⟩), .string k] w fun e w' => e = .returned (.tuple #[.int .i64 (lowK t.lx k : Int), .bool (decide ((t.lx.map Prod.fst)[lowK t.lx k]? = some k))]) ∧ ∃ q, w' = w.drewN q := by
  have c0 := h.c0
  obtain ⟨ao, cap, hlv, hcap, hmax, hnone, hplain, hsome⟩ := h.shape
  rw [hlv] at c0
  have HS := hide hsome
  obtain ⟨n, hn⟩ : ∃ n, t.lx.length = n := ⟨_, rfl⟩
  have HN := hide hn
  rw [hn] at c0 hcap
  have hmx : n ≤ 9223372036854775807 := by unfold maxLen at hmax; omega
  clear h hlv hnone hplain hsome hn hmax
  obtain ⟨r, lv, lx, uv, us, mv, ms⟩ := t
  dsimp only at c0 HS HN ⊢
  go_enter Tryz.func68, Tryz.ntmps68
  go_wp2_with fail
  go_loopw [6] (fun x wr => ∃ (i : Nat), x = .int .i64 (i : Int) ∧ i ≤ n ∧ Hid ((∀ (j : Nat) (p : ByteArray × (ThV × Vl)), j < i → lx[j]? = some p → bl p.1 k = true) ∧ wr = w)) (fun x _ => n - (intOf x).toNat)
  case atStart => exact ⟨0, rfl, Nat.zero_le _, hide ⟨(fun j p hj => by omega), rfl⟩⟩
  case round =>
    obtain ⟨i, rfl, hi, HR⟩ := hrel
    obtain rfl := (unhide HR).2.symm
    replace HR := hide (unhide HR).1
    by_cases hlt : i < n
    · have i1 : (i : Int) < (n : Int) := by omega
      have d1 : decide ((i : Int) < (n : Int)) = true := by simpa using hlt
      obtain ⟨⟨key, ⟨cc, vv⟩⟩, hp⟩ : ∃ p, lx[i]? = some p := ⟨_, List.getElem?_eq_getElem (by have := unhide HN; omega)⟩
      obtain ⟨b, rfl, hbl, hc⟩ := unhide HS i _ hp
      have e0 : w.cell? ⟨b, i * 6, none⟩ = some (.string key) := hc 0 _ rfl
      have HX := hide hp
      clear hc hp
      by_cases hb : bl key k = true
      · have l1 : Op.bytesLess key.toList k.toList = true := hb
        have HR' : Hid (∀ (j : Nat) (p : ByteArray × (ThV × Vl)), j < i + 1 → lx[j]? = some p → bl p.1 k = true) := hide (fun j p hj hp => by
          by_cases hji : j = i
          · subst hji
            rw [unhide HX] at hp
            cases hp
            exact hb
          · exact unhide HR j p (by omega) hp)
        have HI1 : Hid (i + 1 ≤ n) := hide (by omega)
        clear hb
        go_wp2_with fail
        go_roundw
        case rel => exact ⟨i + 1, by go_num, unhide HI1, hide ⟨unhide HR', by first | rfl | trivial⟩⟩
        case measure => have := unhide HI1; simp [intOf]; omega
      · have l1 : Op.bytesLess key.toList k.toList = false := by simpa using hb
        have HL : Hid (i = lowK lx k) := hide (low_is lx k i (by have := unhide HN; omega) (unhide HR) (fun p hp => by
          rw [unhide HX] at hp
          cases hp
          exact l1))
        have HE : Hid ((lx.map Prod.fst)[i]? = some key) := hide (by rw [List.getElem?_map, unhide HX]; rfl)
        clear hb
        cases hbe : (key.toList == k.toList) with
        | true =>
          have HKK := hide ((bytes_beq key k).1 hbe)
          go_upto_region 4 with fail
          go_quiet (fail)
          go_wp2_with fail
          go_ret2
          refine ⟨?_, _, rfl⟩
          rw [← unhide HL, unhide HE, unhide HKK]
          simp
        | false =>
          have HKK : Hid (key ≠ k) := hide (fun e => by rw [(bytes_beq key k).2 e] at hbe; cases hbe)
          go_upto_region 4 with fail
          go_quiet (fail)
          go_wp2_with fail
          go_ret2
          refine ⟨?_, _, rfl⟩
          rw [← unhide HL, unhide HE]
          simp [unhide HKK]
    · have i1 : ¬ (i : Int) < (n : Int) := by omega
      have d1 : decide ((i : Int) < (n : Int)) = false := by simpa using hlt
      have HL : Hid (i = lowK lx k) := hide (low_is lx k i (by have := unhide HN; omega) (unhide HR) (fun p hp => by
        have := (List.getElem?_eq_some_iff.1 hp).1
        have := unhide HN
        omega))
      have HE : Hid ((lx.map Prod.fst)[i]? = none) := hide (List.getElem?_eq_none (by rw [List.length_map]; have := unhide HN; omega))
      go_upto_region 4 with fail
      go_quiet (fail)
      go_wp2_with fail
      go_ret2
      refine ⟨?_, _, rfl⟩
      rw [← unhide HL, unhide HE]
      simp

theorem Rto.lenV (h : Rto w V t) : ∃ ao cap, t.lv = .slice ao t.lx.length cap := by
  obtain ⟨ao, cap, e, _⟩ := h.shape
  exact ⟨ao, cap, e⟩
theorem own_slice {base : Nat} {T : TypeId} {σ n : Nat} {v : Value} {xs : List Value} (h : w.ownsRow base T σ v n xs) : ∃ ao cap, v = .slice ao n cap ∧ n ≤ cap ∧ cap ≤ maxLen ∧ (∀ a, ao = some a → ∃ b, a = ⟨b, 0, none⟩) ∧ (ao = none → n = 0 ∧ cap = 0) := by
  rcases h.2 with ⟨e, e2⟩ | ⟨b, cap, cur, e, _, _, hc, hm, _⟩
  · exact ⟨none, 0, by rw [e, e2], by omega, by unfold maxLen; omega, (fun a ha => by cases ha), fun _ => ⟨e2, rfl⟩⟩
  · exact ⟨_, cap, e, hc, hm, (fun a ha => by cases ha; exact ⟨b, rfl⟩), fun e => by cases e⟩

set_option maxRecDepth 100000 in
theorem rlen_any (h : Rto w V t) : Calls Tryz.prog 38 #[.pointer (some ⟨t.r, 0, none⟩)] w fun e w' => e = .returned (.int .i64 (t.lx.length : Int)) ∧ w' = w := by
  have c0 := h.c0
  obtain ⟨ao, cap, hlv⟩ := h.lenV
  rw [hlv] at c0
  clear h hlv
  obtain ⟨r, lv, lx, uv, us, mv, ms⟩ := t
  dsimp only at c0 ⊢
  go_enter Tryz.func38, Tryz.ntmps38
  go_wp2_with fail
  go_ret
  exact ⟨rfl, rfl⟩

set_option maxRecDepth 100000 in
theorem ropen_any (h : Rto w V t) : Calls Tryz.prog 40 #[.pointer (some ⟨t.r, 0, none⟩)] w fun e w' => e = .returned (.int .i64 (t.ms.length : Int)) ∧ w' = w := by
  have c2 := h.c2
  obtain ⟨ao, cap, hmv, _⟩ := own_slice h.mrk
  rw [hmv] at c2
  clear h hmv
  obtain ⟨r, lv, lx, uv, us, mv, ms⟩ := t
  dsimp only at c2 ⊢
  go_enter Tryz.func40, Tryz.ntmps40
  go_wp2_with fail
  go_ret
  exact ⟨rfl, rfl⟩

set_option maxRecDepth 100000 in
theorem rkey_any (k : ByteArray) (w : World) : Calls Tryz.prog 50 #[.string k] w fun e w' => e = .returned (.bool (keyB k)) ∧ w' = w := by
  have hk : keyB k = (decide (1 ≤ k.size) && decide (k.size ≤ 32)) := rfl
  obtain ⟨n, hn⟩ : ∃ n, k.size = n := ⟨_, rfl⟩
  rw [hn] at hk
  by_cases h1 : 1 ≤ n
  · have i1 : (1 : Int) ≤ (n : Int) := by omega
    have g1 : decide (1 ≤ n) = true := by simpa using h1
    by_cases h2 : n ≤ 32
    · have i2 : (n : Int) ≤ 32 := by omega
      have g2 : decide (n ≤ 32) = true := by simpa using h2
      rw [g1, g2] at hk
      rw [hk]
      go_enter Tryz.func50, Tryz.ntmps50
      go_wp2_with fail
      go_ret
      simp [hn, i1, i2, h1, h2]
    · have i2 : ¬ (n : Int) ≤ 32 := by omega
      have g2 : decide (n ≤ 32) = false := by simpa using h2
      rw [g1, g2] at hk
      rw [hk]
      go_enter Tryz.func50, Tryz.ntmps50
      go_wp2_with fail
      go_ret
      simp [hn, i1, i2, h1, h2]
  · have i1 : ¬ (1 : Int) ≤ (n : Int) := by omega
    have g1 : decide (1 ≤ n) = false := by simpa using h1
    rw [g1, Bool.false_and] at hk
    rw [hk]
    go_enter Tryz.func50, Tryz.ntmps50
    go_wp2_with fail
    go_ret
    simp [hn, i1, h1]

theorem aft_next : ∀ (X : Xs) (k : ByteArray) (i : Nat), (∀ (j : Nat) (p : ByteArray × Vl), j < i → X[j]? = some p → bl k p.1 = false) → (∀ p, X[i]? = some p → bl k p.1 = true) → aft X k = X[i]?.map Prod.fst
  | [], k, i, _, _ => by simp [aft]
  | p :: r, k, 0, _, h => by
    have := h p rfl
    simp [aft, this]
  | p :: r, k, i + 1, h1, h2 => by
    have h3 := h1 0 p (by omega) rfl
    unfold aft
    rw [if_neg (by rw [h3]; simp), List.getElem?_cons_succ]
    exact aft_next r k i (fun j q hj hq => h1 (j + 1) q (by omega) (by simpa using hq)) (fun q hq => h2 q (by simpa using hq))

set_option maxRecDepth 100000 in
set_option maxHeartbeats 800000 in
theorem rafter_any (h : Rto w V t) (k : ByteArray) : Calls Tryz.prog 33 #[.pointer (some ⟨t.r, 0, none⟩), .string k] w fun e w' => e = .returned (.tuple #[.string ((aft t.X k).getD ⟨#[]⟩), .bool (aft t.X k).isSome]) ∧ w' = w := by
  have c0 := h.c0
  obtain ⟨ao, cap, hlv, hcap, hmax, hnone, hplain, hsome⟩ := h.shape
  rw [hlv] at c0
  have HS := hide hsome
  obtain ⟨n, hn⟩ : ∃ n, t.lx.length = n := ⟨_, rfl⟩
  have HN := hide hn
  rw [hn] at c0 hcap
  have hmx : n ≤ 9223372036854775807 := by unfold maxLen at hmax; omega
  have HXL : Hid (∀ (i : Nat) (p : ByteArray × (ThV × Vl)), t.lx[i]? = some p → t.X[i]? = some (p.1, p.2.2)) := hide (fun i p hp => by unfold Rx.X mapK; rw [List.getElem?_map, hp]; rfl)
  have HXN : Hid (t.X.length = n) := hide (by rw [← hn]; exact mapK_len _ _)
  obtain ⟨X, hX⟩ : ∃ X, t.X = X := ⟨_, rfl⟩
  rw [hX] at HXL HXN ⊢
  clear h hlv hnone hplain hsome hn hmax hX
  obtain ⟨r, lv, lx, uv, us, mv, ms⟩ := t
  dsimp only at c0 HS HN HXL ⊢
  go_enter Tryz.func33, Tryz.ntmps33
  go_wp2_with fail
  go_loopw [6] (fun x wr => ∃ (i : Nat), x = .int .i64 (i : Int) ∧ i ≤ n ∧ Hid ((∀ (j : Nat) (p : ByteArray × Vl), j < i → X[j]? = some p → bl k p.1 = false) ∧ wr = w)) (fun x _ => n - (intOf x).toNat)
  case atStart => exact ⟨0, rfl, Nat.zero_le _, hide ⟨(fun j p hj => by omega), rfl⟩⟩
  case round =>
    obtain ⟨i, rfl, hi, HR⟩ := hrel
    obtain rfl := (unhide HR).2.symm
    replace HR := hide (unhide HR).1
    by_cases hlt : i < n
    · have i1 : (i : Int) < (n : Int) := by omega
      obtain ⟨⟨key, ⟨cc, vv⟩⟩, hp⟩ : ∃ p, lx[i]? = some p := ⟨_, List.getElem?_eq_getElem (by have := unhide HN; omega)⟩
      obtain ⟨b, rfl, hbl, hc⟩ := unhide HS i _ hp
      have e0 : w.cell? ⟨b, i * 6, none⟩ = some (.string key) := hc 0 _ rfl
      have HX := hide (unhide HXL i _ hp)
      clear hc hp
      by_cases hb : bl k key = true
      · have l1 : Op.bytesLess key.toList k.toList = false := kl_asym hb
        have l2 : (key.toList == k.toList) = false := by
          cases e : (key.toList == k.toList) with
          | false => rfl
          | true =>
            have := (bytes_beq key k).1 e
            subst this
            rw [kl_irr] at hb
            cases hb
        have HA : Hid (aft X k = some key) := hide (by
          rw [aft_next X k i (unhide HR) (fun p hp => by rw [unhide HX] at hp; cases hp; exact hb), unhide HX]
          rfl)
        clear hb
        go_wp2_with fail
        go_ret2
        exact ⟨by rw [unhide HA]; rfl, rfl⟩
      · have l1 : (Op.bytesLess key.toList k.toList || key.toList == k.toList) = true := by
          rcases kl_tri k key with h1 | h1 | h1
          · exact absurd h1 hb
          · subst h1
            simp
          · have h2 : Op.bytesLess key.toList k.toList = true := h1
            rw [h2]
            rfl
        have HR' : Hid (∀ (j : Nat) (p : ByteArray × Vl), j < i + 1 → X[j]? = some p → bl k p.1 = false) := hide (fun j p hj hp => by
          by_cases hji : j = i
          · subst hji
            rw [unhide HX] at hp
            cases hp
            simpa using hb
          · exact unhide HR j p (by omega) hp)
        have HI1 : Hid (i + 1 ≤ n) := hide (by omega)
        clear hb
        go_wp2_with fail
        go_roundw
        case rel => exact ⟨i + 1, by go_num, unhide HI1, hide ⟨unhide HR', by first | rfl | trivial⟩⟩
        case measure => have := unhide HI1; simp [intOf]; omega
    · have i1 : ¬ (i : Int) < (n : Int) := by omega
      have HA : Hid (aft X k = none) := hide (by
        have hXi : X[i]? = none := List.getElem?_eq_none (by have := unhide HXN; omega)
        rw [aft_next X k i (unhide HR) (fun p hp => by rw [hXi] at hp; cases hp), hXi]
        rfl)
      go_wp2_with fail
      go_ret2
      exact ⟨by rw [unhide HA]; rfl, rfl⟩

set_option maxRecDepth 100000 in
set_option maxHeartbeats 800000 in
theorem rget_any (h : Rto w V t) (hr : Rk t.lx) (hright : ∀ p ∈ t.lx, rightB p.2.2 = true) (k : ByteArray) : Calls Tryz.prog 31 #[.pointer (some ⟨t.r, 0, none⟩), .string k] w fun e w' => ∃ x, e = .returned (.tuple #[x, .bool (lookK t.X k).isSome]) ∧ Below w.heap.size w w' ∧ IsP w' (fun b => w.heap.size ≤ b ∧ b < w'.heap.size) ((lookK t.X k).getD vz) x := by
  obtain ⟨G, hG⟩ : ∃ G, w.heap.size = G := ⟨_, rfl⟩
  obtain ⟨w0, hw0⟩ : ∃ w0, w.alloc (.cells #[.int .i64 0, .int .i64 0, .string ⟨#[]⟩, .slice none 0 0, .slice none 0 0] 32) = w0 := ⟨_, rfl⟩
  have N0 : w0.heap[G]? = some (.cells #[.int .i64 0, .int .i64 0, .string ⟨#[]⟩, .slice none 0 0, .slice none 0 0] 32 (0, 0)) := by rw [← hw0, ← hG]; exact heap_alloc_new w _
  have B0 : Below w.heap.size w w0 := by rw [← hw0]; exact (Below.refl _ _).alloc (Nat.le_refl _) _
  have hz0 : w0.heap.size = G + 1 := by rw [← hw0, ← hG]; simp
  have CP := place_any (h.later B0) k
  have HU : Hid (∀ u, (∃ q, u = w0.drewN q) → u.heap[G]? = some (.cells #[.int .i64 0, .int .i64 0, .string ⟨#[]⟩, .slice none 0 0, .slice none 0 0] 32 (0, 0)) ∧ Below w.heap.size w u ∧ Rto u V t) := hide (fun u hu => by
    obtain ⟨q, rfl⟩ := hu
    have hb : Below w0.heap.size w0 (w0.drewN q) := ⟨rfl, rfl, rfl, Nat.le_refl _, fun _ _ => rfl⟩
    exact ⟨N0, B0.trans (hb.mono B0.size), (h.later B0).later hb⟩)
  have hlook : lookK t.X k = (lookK t.lx k).map Prod.snd := mapK_look _ _ _
  cases hO : lookK t.lx k with
  | none =>
    rw [hlook, hO]
    rw [decide_eq_false ((look_none_at t.lx k hr).1 hO)] at CP
    have CP := hide CP
    obtain ⟨L, hL⟩ : ∃ L, lowK t.lx k = L := ⟨_, rfl⟩
    rw [hL] at CP
    clear h hr hright N0 B0 hO hL hlook
    obtain ⟨r, lv, lx, uv, us, mv, ms⟩ := t
    dsimp only [Option.map_none, Option.isSome_none, Option.getD_none] at CP HU ⊢
    go_enter Tryz.func31, Tryz.ntmps31
    go_wp2_with fail
    refine (unhide CP).mono ?_
    rintro e u1 ⟨rfl, hq⟩
    obtain ⟨N1, B1, -⟩ := unhide HU u1 hq
    obtain ⟨z0, z1, z2, z3, z4⟩ := row_cell N1
    have f0 := frozen_of_row u1 G 0 _ _ N1
    have f1 := frozen_of_row u1 G 1 _ _ N1
    have f2 := frozen_of_row u1 G 2 _ _ N1
    have f3 := frozen_of_row u1 G 3 _ _ N1
    have f4 := frozen_of_row u1 G 4 _ _ N1
    have HX := hide (And.intro N1 B1)
    clear hq N1 B1 CP HU hw0
    go_wp2_with fail
    obtain ⟨s1, s2, s3, s4⟩ := setsV (a0 := .int .i64 0) (a1 := .int .i64 0) (a2 := .string ⟨#[]⟩) (a3 := .slice none 0 0) (a4 := .slice none 0 0) (unhide HX).1
    refine bodyPost_ret (ret_ctV (p := 4) (u := 5) (T := 32) rfl _ _ G _ _ _ rfl s1 (show Tryz.prog.underlying 32 = some _ from rfl) rfl size_thV) rfl ?_
    exact ⟨_, rfl, s4 _ _ (unhide HX).2 (by omega), isP_flat _ _ 0 0 ⟨#[]⟩ (by omega) (by omega) (by decide)⟩
  | some x =>
    have hat := (look_at t.lx k hr x).1 hO
    have hst : (t.lx.map Prod.fst)[lowK t.lx k]? = some k := by rw [List.getElem?_map, hat]; rfl
    rw [hlook, hO]
    rw [decide_eq_true hst] at CP
    have CP := hide CP
    obtain ⟨L, hL⟩ : ∃ L, lowK t.lx k = L := ⟨_, rfl⟩
    rw [hL] at CP hat
    obtain ⟨⟨t0, t1, t2, t3, t4, t5, t6, t7, t8⟩, y⟩ := x
    have hlt := (List.getElem?_eq_some_iff.1 hat).1
    have HY : Hid (∀ u, Rto u V t → ∃ b cap, t.lv = .slice (some ⟨b, 0, none⟩) t.lx.length cap ∧ t.lx.length ≤ cap ∧ cap ≤ maxLen ∧ u.cell? ⟨b, L * 6 + 1, none⟩ = some (.int .i64 t0) ∧ u.cell? ⟨b, L * 6 + 2, none⟩ = some (.int .i64 t1) ∧ u.cell? ⟨b, L * 6 + 3, none⟩ = some (.string t2) ∧ u.cell? ⟨b, L * 6 + 4, none⟩ = some (.slice t3 t4 t5) ∧ u.cell? ⟨b, L * 6 + 5, none⟩ = some (.slice t6 t7 t8) ∧ IsV u u.heap.size y (.agg #[.int .i64 t0, .int .i64 t1, .string t2, .slice t3 t4 t5, .slice t6 t7 t8]) ∧ u.cell? ⟨t.r, 0, none⟩ = some t.lv) := hide (fun u hu => by
      obtain ⟨ao, cap, hlv, hcap, hmax, -, -, hsome⟩ := hu.shape
      obtain ⟨b, rfl, hbl, hc⟩ := hsome L _ hat
      exact ⟨b, cap, hlv, hcap, hmax, hc 1 _ rfl, hc 2 _ rfl, hc 3 _ rfl, hc 4 _ rfl, hc 5 _ rfl, (hu.ok _ (List.mem_of_getElem? hat)).isV (fun j hj => (hu.vs j hj).1), hu.c0⟩)
    have hry : rightB y = true := hright _ (List.mem_of_getElem? hat)
    obtain ⟨n, hn⟩ : ∃ n, t.lx.length = n := ⟨_, rfl⟩
    rw [hn] at hlt HY
    clear h hr hright N0 B0 hO hL hlook hat hst hn
    obtain ⟨r, lv, lx, uv, us, mv, ms⟩ := t
    dsimp only [Option.map_some, Option.isSome_some, Option.getD_some] at CP HU HY ⊢
    go_enter Tryz.func31, Tryz.ntmps31
    go_wp2_with fail
    refine (unhide CP).mono ?_
    rintro e u1 ⟨rfl, hq⟩
    obtain ⟨N1, B1, R1⟩ := unhide HU u1 hq
    obtain ⟨b, cap, hlv, hcap, hmax, d1, d2, d3, d4, d5, iv, c0⟩ := unhide HY u1 R1
    rw [hlv] at c0
    have i1 : (L : Int) < (n : Int) := by omega
    have hmx : n ≤ 9223372036854775807 := by unfold maxLen at hmax; omega
    have CC := hide (copyD_any y _ u1.heap.size u1 iv (Nat.le_refl _))
    have HX := hide (And.intro N1 B1)
    clear hq N1 B1 R1 CP HU HY hw0 iv hlv hmax
    go_wp2_with fail
    refine (unhide CC).mono ?_
    rintro e u3 ⟨x3, rfl, b3, q3, -⟩
    have q3 := q3 hry
    obtain ⟨k3, n3, s3, l3, ks3, al3, ak3, cl3, ck3, hv3, rfl⟩ := q3.shape
    clear hv3
    obtain ⟨lc, hlc⟩ : ∃ lc, l3.length = lc := ⟨_, rfl⟩
    obtain ⟨mc, hmc⟩ : ∃ mc, ks3.length = mc := ⟨_, rfl⟩
    rw [hlc, hmc] at q3 ⊢
    have hGu : G < u1.heap.size := (Array.getElem?_eq_some_iff.1 (unhide HX).1).1
    have ATX := (b3.block G hGu).trans (unhide HX).1
    obtain ⟨z0, z1, z2, z3, z4⟩ := row_cell ATX
    have fz : ∀ q, u3.frozen? ⟨G, q, none⟩ = false := fun q => frozen_of_row u3 G q _ _ ATX
    have fz0 := fz 0
    have fz1 := fz 1
    have fz2 := fz 2
    have fz3 := fz 3
    have fz4 := fz 4
    have HAT := hide (And.intro ATX (And.intro q3 (And.intro ((unhide HX).2.trans (b3.mono (unhide HX).2.size)) hGu)))
    clear fz ATX q3 b3 CC hlc hmc d1 d2 d3 d4 d5 c0 hGu
    go_wp2_with fail
    obtain ⟨ATX, q3, X3, hGu⟩ := unhide HAT
    obtain ⟨s1, s2, s3', s4⟩ := setsV (a0 := .int .i64 k3) (a1 := .int .i64 n3) (a2 := .string s3) (a3 := .slice al3 lc cl3) (a4 := .slice ak3 mc ck3) ATX
    refine bodyPost_ret (ret_ctV (p := 4) (u := 5) (T := 32) rfl _ _ G _ _ _ rfl s1 (show Tryz.prog.underlying 32 = some _ from rfl) rfl size_thV) rfl ?_
    have hB := s4 _ _ X3 (by omega)
    refine ⟨_, rfl, ?_, ?_⟩
    · first | exact hB | (rw [← hG]; exact hB)
    · exact (q3.move (fun b hb => s3' b (by have := hb.1; omega))).1.weak (fun b hb => ⟨by have := hb.1; omega, by rw [s2]; exact hb.2⟩)
end
end Go.Proofs.YtdaooapfokhfcaaGreat

namespace Go.Proofs.YtdaooapfokhfcaaGreat
open Go.RowKit

theorem take_at {P : Program} {md : Region.Mode} {ops : Array Oper} {Q : Exit → Act → World → Prop} {S : World → Prop} {fuel : Nat} {listed : Array Bool} {a : Act} {w : World} (i : Nat) {oi : Oper} {v : Value} (d : Option Tmp) (hi : ops[i]? = some oi) (hd : oi.dst = d)
    (hs : Region.noSelect ops = true) (hf : Region.free md ops listed i = true) (hr : (Region.ready md ops listed).contains i = true)
    (hQ : ∀ c a w, Q (.panic c) (a.put d v) w → Q (.panic c) a w) (hy : YieldsIf P ops S oi v a) (hS : S w)
    (h : wpAnyH P md ops Q S fuel (listed.setIfInBounds i true) (a.put d v) w) : wpAnyH P md ops Q S (fuel + 1) listed a w := by
  subst hd
  exact wpAnyH_take hi hs hf hr hQ hy hS h
end Go.Proofs.YtdaooapfokhfcaaGreat
