/-
  Two boxes, one behind the other; no conditions.
  The walk of value.Copy: a right value in new memory, the zero one of another; conditions: the form's own reach.
  A module in its box; small facts for the document's own walks; no conditions.
  The walks of Export of a module (layer 9), the code's and the document's own; no conditions but the form's own reach.
-/
import Derived.Test.YtmnbfcpkaglniaaGreatDoorS00
import Derived.Test.YtmnbfcpkaglniaaGreatDoorS13
import Derived.Test.YtmnbfcpkaglniaaGreatDoorS42
import Derived.Test.YtmnbfcpkaglniaaGreatDoorS12
import Derived.Test.YtmnbfcpkaglniaaGreatDoorS05
import Derived.Test.YtmnbfcpkaglniaaGreatDoorS15
import Derived.Test.YtmnbfcpkaglniaaGreatDoorS29
import Derived.BigQuiet
import Derived.Deep.QuietTactic
import Derived.Test.YtmnbfcpkaglniaaGreatDoorS32
set_option linter.unusedVariables false
set_option linter.unusedSimpArgs false
namespace Go.Proofs.YtmnbfcpkaglniaaGreatDoor
open Go.RowKit
set_option linter.unusedVariables false
set_option linter.unusedSimpArgs false
structure Two (w w2 : World) (g : Nat) (T : TypeId) (x y : Array Value) : Prop where
  at0 : w2.heap[g]? = some (.cells x T (0, 0))
  at1 : w2.heap[g + 1]? = some (.cells y T (0, 0))
  size : w2.heap.size = g + 2
  below : Below w.heap.size w w2
theorem Two.mk' (w : World) (T : TypeId) (x y : Array Value) : Two w ((w.alloc (.cells x T)).alloc (.cells y T)) w.heap.size T x y := by
  have h1 : Below w.heap.size w ((w.alloc (.cells x T)).alloc (.cells y T)) := ((Below.refl _ _).alloc (Nat.le_refl _) _).alloc (by simp) _
  refine ⟨?_, ?_, by simp, h1⟩
  · have := ((Below.refl (w.alloc (.cells x T)).heap.size (w.alloc (.cells x T))).alloc (Nat.le_refl _) (.cells y T)).block w.heap.size (by simp)
    rw [this]
    exact heap_alloc_new w _
  · have := heap_alloc_new (w.alloc (.cells x T)) (.cells y T)
    simpa using this
theorem Two.later {w w2 u : World} {g : Nat} {T : TypeId} {x y : Array Value} (h : Two w w2 g T x y) (hb : Below w2.heap.size w2 u) : u.heap[g]? = some (.cells x T (0, 0)) ∧ u.heap[g + 1]? = some (.cells y T (0, 0)) := by
  have := h.size
  exact ⟨(hb.block g (by omega)).trans h.at0, (hb.block (g + 1) (by omega)).trans h.at1⟩
def fewB (v : Vl) : Bool := decide (cnt v ≤ 5000)
theorem few_right {v : Vl} (h : rightB v = true) : fewB v = true := by
  unfold rightB at h
  rw [Bool.and_eq_true, decide_eq_true_eq] at h
  have := cnt_wt v
  unfold fewB
  exact decide_eq_true (by omega)
set_option maxRecDepth 100000 in
set_option maxHeartbeats 400000 in
theorem copy_any (v : Vl) (x : Value) (B : Nat) (w : World) (hv : IsV w B v x) (hBs : B ≤ w.heap.size) :
    Calls Tryz.prog 22 #[x] w fun e w' => ∃ x', e = .returned x' ∧ Below w.heap.size w w' ∧ (rightB v = true → IsQ w' (fun b => w.heap.size ≤ b ∧ b < w'.heap.size) v x') ∧ (rightB v = false → x' = .agg #[.int .i64 0, .int .i64 0, .string ⟨#[]⟩, .slice none 0 0, .slice none 0 0]) := by
  obtain ⟨k, n, s, l, ks, al, ak, cl, ck, hvv, hx⟩ := hv.shape
  clear hvv
  obtain ⟨m, hm⟩ : ∃ m, ks.length = m := ⟨_, rfl⟩
  obtain ⟨ln, hln⟩ : ∃ ln, l.length = ln := ⟨_, rfl⟩
  rw [hm, hln] at hx
  subst hx
  have TW := Two.mk' w 29 #[.int .i64 k, .int .i64 n, .string s, .slice al ln cl, .slice ak m ck] #[.int .i64 0, .int .i64 0, .string ⟨#[]⟩, .slice none 0 0, .slice none 0 0]
  obtain ⟨w2, hw2⟩ : ∃ w2, (w.alloc (.cells #[.int .i64 k, .int .i64 n, .string s, .slice al ln cl, .slice ak m ck] 29)).alloc (.cells #[.int .i64 0, .int .i64 0, .string ⟨#[]⟩, .slice none 0 0, .slice none 0 0] 29) = w2 := ⟨_, rfl⟩
  rw [hw2] at TW
  obtain ⟨g, hg⟩ : ∃ g, w.heap.size = g := ⟨_, rfl⟩
  rw [hg] at TW
  have HT : Hid (∀ u, Below w2.heap.size w2 u → u.heap[g]? = some (.cells #[.int .i64 k, .int .i64 n, .string s, .slice al ln cl, .slice ak m ck] 29 (0, 0)) ∧ u.heap[g + 1]? = some (.cells #[.int .i64 0, .int .i64 0, .string ⟨#[]⟩, .slice none 0 0, .slice none 0 0] 29 (0, 0)) ∧ IsV u B v (.agg #[.int .i64 k, .int .i64 n, .string s, .slice al ln cl, .slice ak m ck]) ∧ B ≤ u.heap.size ∧ Below w.heap.size w u ∧ g + 2 ≤ u.heap.size) :=
    hide (fun u hu => by
      have h1 : Below w.heap.size w u := TW.below.trans (hu.mono (by have := TW.size; omega))
      have h2 := TW.size
      have h3 := hu.size
      exact ⟨(TW.later hu).1, (TW.later hu).2, hv.mono (h1.mono hBs), by omega, h1, by omega⟩)
  obtain ⟨c0, c1, c2, c3, c4⟩ := row_cell TW.at0
  have CF := hide (right_code v _ B w2 (unhide HT w2 (Below.refl _ _)).2.2.1 (unhide HT w2 (Below.refl _ _)).2.2.2.1)
  clear TW hv hm hln
  cases hF : rightB v with
  | false =>
    rw [hF] at CF
    clear hF
    go_enter Tryz.func22, Tryz.ntmps22
    go_wp2_with fail
    refine (unhide CF).mono ?_
    rintro e u3 ⟨rfl, b3⟩
    have H3 := hide b3
    clear b3 CF c0 c1 c2 c3 c4
    obtain ⟨c0, c1, c2, c3, c4⟩ := row_cell (unhide HT u3 (unhide H3)).1
    have ATX := (unhide HT u3 (unhide H3)).2.1
    obtain ⟨z0, z1, z2, z3, z4⟩ := row_cell ATX
    have fz : ∀ q, u3.frozen? ⟨g + 1, q, none⟩ = false := fun q => frozen_of_row u3 (g + 1) q _ _ ATX
    have fz0 := fz 0
    have fz1 := fz 1
    have fz2 := fz 2
    have fz3 := fz 3
    have fz4 := fz 4
    have HAT := hide ATX
    clear fz ATX
    go_wp2_with fail
    have ATX := unhide HAT
    have BW := (unhide HT u3 (unhide H3)).2.2.2.2.1
    have R9 := five_set u3 (g + 1) 29 _ _ _ _ _ (.int .i64 0) (.int .i64 0) (.string ⟨#[]⟩) (.slice none 0 0) (.slice none 0 0) ATX
    have O9 := five_other u3 (g + 1) (x0 := .int .i64 0) (x1 := .int .i64 0) (x2 := .string ⟨#[]⟩) (x3 := .slice none 0 0) (x4 := .slice none 0 0)
    have S9 : (((((u3.setCell ⟨g + 1, 0, none⟩ (.int .i64 0)).setCell ⟨g + 1, 1, none⟩ (.int .i64 0)).setCell ⟨g + 1, 2, none⟩ (.string ⟨#[]⟩)).setCell ⟨g + 1, 3, none⟩ (.slice none 0 0)).setCell ⟨g + 1, 4, none⟩ (.slice none 0 0)).heap.size = u3.heap.size := by simp
    obtain ⟨w9, hw9⟩ : ∃ w9, (((((u3.setCell ⟨g + 1, 0, none⟩ (.int .i64 0)).setCell ⟨g + 1, 1, none⟩ (.int .i64 0)).setCell ⟨g + 1, 2, none⟩ (.string ⟨#[]⟩)).setCell ⟨g + 1, 3, none⟩ (.slice none 0 0)).setCell ⟨g + 1, 4, none⟩ (.slice none 0 0)) = w9 := ⟨_, rfl⟩
    rw [hw9] at R9 S9 ⊢
    have B9 : Below w.heap.size w w9 := by rw [← hw9]; exact five_below BW (by omega) _ _ _ _ _
    obtain ⟨r0, r1, r2, r3, r4⟩ := row_cell R9
    refine bodyPost_ret (v := .agg #[.int .i64 0, .int .i64 0, .string ⟨#[]⟩, .slice none 0 0, .slice none 0 0]) (by simp [results, Tryz.results22, go_sem, r0, r1, r2, r3, r4]) rfl ?_
    first | exact ⟨_, rfl, B9, (fun h => by cases h), fun _ => rfl⟩ | (rw [hg] at B9; exact ⟨_, rfl, B9, (fun h => by cases h), fun _ => rfl⟩) | exact ⟨rfl, B9⟩ | (rw [hg] at B9; exact ⟨rfl, B9⟩)
  | true =>
    rw [hF] at CF
    have hcn : cnt v ≤ 5000 := by have h := few_right hF; unfold fewB at h; exact of_decide_eq_true h
    have CD := fun u hu => hide (cln_any (dep v) v _ B u (Nat.le_refl _) hcn (unhide HT u hu).2.2.1 (unhide HT u hu).2.2.2.1)
    clear hF hcn
    go_enter Tryz.func22, Tryz.ntmps22
    go_wp2_with fail
    refine (unhide CF).mono ?_
    rintro e u3 ⟨rfl, b3⟩
    have H3 := hide b3
    clear b3 CF c0 c1 c2 c3 c4
    obtain ⟨c0, c1, c2, c3, c4⟩ := row_cell (unhide HT u3 (unhide H3)).1
    go_wp2_with fail
    refine (unhide (CD u3 (unhide H3))).mono ?_
    rintro e u4 ⟨x4, rfl, p4, b4⟩
    obtain ⟨k4, n4, s4, l4, ks4, al4, ak4, cl4, ck4, hv4, rfl⟩ := p4.shape
    clear hv4
    obtain ⟨lc, hlc⟩ : ∃ lc, l4.length = lc := ⟨_, rfl⟩
    obtain ⟨mc, hmc⟩ : ∃ mc, ks4.length = mc := ⟨_, rfl⟩
    rw [hlc, hmc] at p4 ⊢
    have X4 := (unhide H3).trans (b4.mono (unhide H3).size)
    have H4 := hide (And.intro X4 (And.intro p4 b4.size))
    have ATX := (unhide HT u4 X4).2.1
    obtain ⟨z0, z1, z2, z3, z4⟩ := row_cell ATX
    have fz : ∀ q, u4.frozen? ⟨g + 1, q, none⟩ = false := fun q => frozen_of_row u4 (g + 1) q _ _ ATX
    have fz0 := fz 0
    have fz1 := fz 1
    have fz2 := fz 2
    have fz3 := fz 3
    have fz4 := fz 4
    have HAT := hide ATX
    clear fz ATX p4 b4 X4 CD hlc hmc c0 c1 c2 c3 c4
    go_wp2_with fail
    have ATX := unhide HAT
    have BW := (unhide HT u4 (unhide H4).1).2.2.2.2.1
    have g3 := (unhide HT u3 (unhide H3)).2.2.2.2.2
    have R9 := five_set u4 (g + 1) 29 _ _ _ _ _ (.int .i64 k4) (.int .i64 n4) (.string s4) (.slice al4 lc cl4) (.slice ak4 mc ck4) ATX
    have O9 := five_other u4 (g + 1) (x0 := .int .i64 k4) (x1 := .int .i64 n4) (x2 := .string s4) (x3 := .slice al4 lc cl4) (x4 := .slice ak4 mc ck4)
    have S9 : (((((u4.setCell ⟨g + 1, 0, none⟩ (.int .i64 k4)).setCell ⟨g + 1, 1, none⟩ (.int .i64 n4)).setCell ⟨g + 1, 2, none⟩ (.string s4)).setCell ⟨g + 1, 3, none⟩ (.slice al4 lc cl4)).setCell ⟨g + 1, 4, none⟩ (.slice ak4 mc ck4)).heap.size = u4.heap.size := by simp
    obtain ⟨w9, hw9⟩ : ∃ w9, (((((u4.setCell ⟨g + 1, 0, none⟩ (.int .i64 k4)).setCell ⟨g + 1, 1, none⟩ (.int .i64 n4)).setCell ⟨g + 1, 2, none⟩ (.string s4)).setCell ⟨g + 1, 3, none⟩ (.slice al4 lc cl4)).setCell ⟨g + 1, 4, none⟩ (.slice ak4 mc ck4)) = w9 := ⟨_, rfl⟩
    rw [hw9] at R9 S9 ⊢
    have B9 : Below w.heap.size w w9 := by rw [← hw9]; exact five_below BW (by omega) _ _ _ _ _
    obtain ⟨r0, r1, r2, r3, r4⟩ := row_cell R9
    refine bodyPost_ret (v := .agg #[.int .i64 k4, .int .i64 n4, .string s4, .slice al4 lc cl4, .slice ak4 mc ck4]) (by simp [results, Tryz.results22, go_sem, r0, r1, r2, r3, r4]) rfl ?_
    have Q9 : IsQ w9 (fun b => w.heap.size ≤ b ∧ b < w9.heap.size) v (.agg #[.int .i64 k4, .int .i64 n4, .string s4, .slice al4 lc cl4, .slice ak4 mc ck4]) := ((unhide H4).2.1.move (fun q hq => by rw [← hw9]; exact O9 q (by have := hq.1; omega))).weak (fun q hq => ⟨by have := hq.1; omega, by have := hq.2; omega⟩)
    first | exact ⟨_, rfl, B9, (fun _ => Q9), fun h => by cases h⟩ | (rw [hg] at B9 Q9; exact ⟨_, rfl, B9, (fun _ => Q9), fun h => by cases h⟩) | exact ⟨_, rfl, B9, Q9⟩ | (rw [hg] at B9 Q9; exact ⟨_, rfl, B9, Q9⟩)
theorem below_drewM {B : Nat} {w w' : World} (h : Below B w w') (q : Nat) : Below B w (w'.drewN q) := ⟨h.os, h.tape, h.output, h.size, h.block⟩
/-- a module in its box -/
structure SeeM (w : World) (B g : Nat) (m : Md) (s1 s2 s3 : Value) (a1 : Option Addr) (c1 : Nat) (a2 : Option Addr) (c2 : Nat) (a3 : Option Addr) (c3 : Nat) : Prop where
  box : w.heap[g]? = some (.cells #[s1, s2, s3] 47 (0, 0))
  mod : IsM w (fun b => b < B) m a1 c1 a2 c2 a3 c3
  low : B ≤ w.heap.size
theorem SeeM.later {w w' : World} {B g : Nat} {m : Md} {s1 s2 s3 : Value} {a1 a2 a3 : Option Addr} {c1 c2 c3 : Nat} (h : SeeM w B g m s1 s2 s3 a1 c1 a2 c2 a3 c3) (hb : Below w.heap.size w w') : SeeM w' B g m s1 s2 s3 a1 c1 a2 c2 a3 c3 :=
  ⟨(hb.block g (lt_of_row h.box)).trans h.box, h.mod.later (hb.mono h.low), Nat.le_trans h.low hb.size⟩
theorem SeeM.drewN {w : World} {B g : Nat} {m : Md} {s1 s2 s3 : Value} {a1 a2 a3 : Option Addr} {c1 c2 c3 : Nat} (h : SeeM w B g m s1 s2 s3 a1 c1 a2 c2 a3 c3) (q : Nat) : SeeM (w.drewN q) B g m s1 s2 s3 a1 c1 a2 c2 a3 c3 := h.later (below_drewM (Below.refl _ _) q)
def findX : List Ex → ByteArray → Int × Bool
  | [], _ => (0, false)
  | x :: r, s => if (x.1.toList == s.toList) = true then (x.2, true) else findX r s
def expOf (m : Md) (s : ByteArray) : Int × Bool := if rightM m = true then findX m.xs s else (0, false)
theorem findX_yes (l : List Ex) (i : Nat) (t s : ByteArray) (f : Int) (h : l[i]? = some (t, f)) (e : (t.toList == s.toList) = true) : findX (l.drop i) s = (f, true) := by
  obtain ⟨hi, hx⟩ := List.getElem?_eq_some_iff.1 h
  rw [List.drop_eq_getElem_cons hi, hx, findX, if_pos e]
theorem findX_no (l : List Ex) (i : Nat) (t s : ByteArray) (f : Int) (h : l[i]? = some (t, f)) (e : (t.toList == s.toList) = false) : findX (l.drop i) s = findX (l.drop (i + 1)) s := by
  obtain ⟨hi, hx⟩ := List.getElem?_eq_some_iff.1 h
  rw [List.drop_eq_getElem_cons hi, hx, findX, if_neg (by rw [e]; decide)]
set_option maxRecDepth 100000 in
set_option maxHeartbeats 2000000 in
theorem export_any (m : Md) (a1 a2 a3 : Option Addr) (n1 c1 n2 c2 n3 c3 B : Nat) (s : ByteArray) (w : World) (hn1 : m.cs.length = n1) (hn2 : m.fs.length = n2) (hn3 : m.xs.length = n3) (h : IsM w (fun b => b < B) m a1 c1 a2 c2 a3 c3) (hB : B ≤ w.heap.size) :
    Calls Tryz.prog 27 #[.agg #[.slice a1 n1 c1, .slice a2 n2 c2, .slice a3 n3 c3], .string s] w fun e w' => e = .returned (.tuple #[.int .i64 (expOf m s).1, .bool (expOf m s).2]) ∧ Below w.heap.size w w' := by
  have hl := h.len
  rw [hn1, hn2, hn3] at hl
  obtain ⟨l1, l2, l3⟩ := hl
  obtain ⟨g, hg⟩ : ∃ g, w.heap.size = g := ⟨_, rfl⟩
  have BX := BoxN.mk' w #[.slice a1 n1 c1, .slice a2 n2 c2, .slice a3 n3 c3] 47
  obtain ⟨w1, hw1⟩ : ∃ w1, w.alloc (.cells #[.slice a1 n1 c1, .slice a2 n2 c2, .slice a3 n3 c3] 47) = w1 := ⟨_, rfl⟩
  rw [hw1] at BX
  have HS : Hid (∀ u, Below w1.heap.size w1 u → SeeM u B g m (.slice a1 n1 c1) (.slice a2 n2 c2) (.slice a3 n3 c3) a1 c1 a2 c2 a3 c3 ∧ Below w.heap.size w u) := hide (fun u hu => by
    have S1 : SeeM w1 B g m (.slice a1 n1 c1) (.slice a2 n2 c2) (.slice a3 n3 c3) a1 c1 a2 c2 a3 c3 := ⟨by rw [← hg]; exact BX.row, h.later (BX.below.mono hB), by have := BX.size; omega⟩
    exact ⟨S1.later hu, BX.below.trans (hu.mono (by have := BX.size; omega))⟩)
  obtain ⟨m0, m1, m2⟩ := row_cell3 (unhide HS w1 (Below.refl _ _)).1.box
  have CR := hide (rightM_any m a1 a2 a3 n1 c1 n2 c2 n3 c3 B w1 hn1 hn2 hn3 (unhide HS w1 (Below.refl _ _)).1.mod (unhide HS w1 (Below.refl _ _)).1.low)
  have HN := hide hn3
  cases hR : rightM m with
  | false =>
    rw [hR] at CR
    have hE : expOf m s = (0, false) := by unfold expOf; rw [hR]; rfl
    rw [hE]
    clear hR hE h hB BX hn1 hn2 hn3
    go_enter Tryz.func27, Tryz.ntmps27
    go_wp2_with fail
    refine (unhide CR).mono ?_
    rintro e u ⟨rfl, b1⟩
    have B1 := hide (unhide HS u b1).2
    clear b1 CR
    go_wp2_with fail
    go_ret2
    exact ⟨rfl, by first | exact unhide B1 | (rw [← hg]; exact unhide B1)⟩
  | true =>
    rw [hR] at CR
    have hE : expOf m s = findX m.xs s := by unfold expOf; rw [hR]; rfl
    rw [hE]
    obtain ⟨F, hF⟩ : ∃ F, findX m.xs s = F := ⟨_, rfl⟩
    rw [hF]
    have HF := hide hF
    clear hR hE h hB BX hn1 hn2 hn3 hF
    go_enter Tryz.func27, Tryz.ntmps27
    go_wp2_with fail
    refine (unhide CR).mono ?_
    rintro e u ⟨rfl, b1⟩
    have B1 := hide b1
    clear b1 CR m0 m1 m2
    obtain ⟨m0, m1, m2⟩ := row_cell3 (unhide HS u (unhide B1)).1.box
    go_wp2_with fail
    go_loopw [14] (fun x wr => ∃ (i : Nat), x = .int .i64 (i : Int) ∧ Hid (i ≤ n3) ∧ Hid (Below w1.heap.size w1 wr) ∧ Hid (findX (m.xs.drop i) s = F)) (fun x _ => n3 - (intOf x).toNat)
    case atStart => exact ⟨0, rfl, hide (by omega), B1, hide (by rw [List.drop_zero]; exact unhide HF)⟩
    case round =>
      clear m0 m1 m2 B1
      obtain ⟨i, rfl, HI, HB, HX⟩ := hrel
      obtain ⟨m0, m1, m2⟩ := row_cell3 (unhide HS wr (unhide HB)).1.box
      by_cases hlt : i < n3
      · have j1 : (i : Int) < (n3 : Int) := by omega
        have HI1 : Hid (i + 1 ≤ n3) := hide (by omega)
        obtain ⟨⟨t, f⟩, hv⟩ : ∃ v, m.xs[i]? = some v := ⟨_, List.getElem?_eq_getElem (by have := unhide HN; omega)⟩
        obtain ⟨a, rfl, _, ht, k0, k1⟩ := (unhide HS wr (unhide HB)).1.mod.exp i t f hv
        have BQ := BoxN.mk' wr #[.string t, .int .i64 f] 44
        obtain ⟨w3, hw3⟩ : ∃ w3, wr.alloc (.cells #[.string t, .int .i64 f] 44) = w3 := ⟨_, rfl⟩
        rw [hw3] at BQ
        obtain ⟨q, hq⟩ : ∃ q, wr.heap.size = q := ⟨_, rfl⟩
        obtain ⟨d0, d1⟩ := row_cell2 (by have := BQ.row; rw [hq] at this; exact this)
        have HB3 : Hid (Below w1.heap.size w1 w3) := hide ((unhide HB).trans (BQ.below.mono (unhide HB).size))
        cases hc : (t.toList == s.toList) with
        | true =>
          have HY : Hid (F = (f, true)) := hide (by rw [← unhide HX]; exact findX_yes _ _ _ _ _ hv hc)
          clear hv BQ
          go_wp2_with fail
          go_ret2
          exact ⟨by rw [unhide HY]; rfl, by first | exact (unhide HS _ (unhide HB3)).2 | (rw [← hg]; exact (unhide HS _ (unhide HB3)).2)⟩
        | false =>
          have HY : Hid (findX (m.xs.drop (i + 1)) s = F) := hide (by rw [← findX_no _ _ _ _ _ hv hc]; exact unhide HX)
          clear hv BQ
          go_wp2_with fail
          go_roundw
          case rel => exact ⟨i + 1, by go_num, HI1, HB3, HY⟩
          case measure => have := unhide HI1; simp [intOf]; omega
      · have j1 : ¬ (i : Int) < (n3 : Int) := by omega
        have HY : Hid (F = (0, false)) := hide (by rw [← unhide HX, List.drop_of_length_le (by have := unhide HN; omega)]; rfl)
        go_wp2_with fail
        go_ret2
        exact ⟨by rw [unhide HY]; rfl, by first | exact (unhide HS _ (unhide HB)).2 | (rw [← hg]; exact (unhide HS _ (unhide HB)).2)⟩
end Go.Proofs.YtmnbfcpkaglniaaGreatDoor
