/-
  The walk of Right of a module (layer 9); no conditions but the form's own reach.
  The walk of ModuleBytes (layer 9); conditions: the form's own reach, the package's variables as its text lays them.
-/
import Derived.Test.YtpdfggjhedgdlaaDoorA46
import Derived.Test.YtpdfggjhedgdlaaDoorA41
import Derived.Test.YtpdfggjhedgdlaaDoorA42
import Derived.Test.YtpdfggjhedgdlaaDoorA50
import Derived.Lib.ConvBytes
import Derived.BigQuiet
import Derived.Deep.QuietTactic
namespace Go.Proofs.YtpdfggjhedgdlaaDoor
open Go.RowKit

set_option maxRecDepth 100000 in
set_option maxHeartbeats 400000 in
theorem rightM_any (m : Md) (a1 a2 a3 : Option Addr) (n1 c1 n2 c2 n3 c3 B : Nat) (w : World) (hn1 : m.cs.length = n1) (hn2 : m.fs.length = n2) (hn3 : m.xs.length = n3) (h : IsM w (fun b => b < B) m a1 c1 a2 c2 a3 c3) (hB : B ≤ w.heap.size) :
    Calls Tryd.prog 6 #[.agg #[.slice a1 n1 c1, .slice a2 n2 c2, .slice a3 n3 c3]] w fun e w' => e = .returned (.bool (rightM m)) ∧ Below w.heap.size w w' := by
  obtain ⟨g, hg⟩ : ∃ g, w.heap.size = g := ⟨_, rfl⟩
  have BX := BoxN.mk' w #[.slice a1 n1 c1, .slice a2 n2 c2, .slice a3 n3 c3] 26
  obtain ⟨w1, hw1⟩ : ∃ w1, w.alloc (.cells #[.slice a1 n1 c1, .slice a2 n2 c2, .slice a3 n3 c3] 26) = w1 := ⟨_, rfl⟩
  rw [hw1] at BX
  obtain ⟨m0, m1, m2⟩ := row_cell3 (by have := BX.row; rw [hg] at this; exact this)
  have CL := hide (layM_any m a1 a2 a3 n1 c1 n2 c2 n3 c3 B w1 hn1 hn2 hn3 (h.later (BX.below.mono hB)) (by have := BX.size; omega))
  have HB := hide BX
  have HG := hide hg
  generalize rightM m = R at *
  clear BX h hB hn1 hn2 hn3
  go_enter Tryd.func6, Tryd.ntmps6
  go_wp2_with fail
  refine (unhide CL).mono ?_
  rintro e u ⟨ao, len, cap, rfl, r1, b1, f1, k1, o1⟩
  have H5 : Hid (Below w.heap.size w u) := hide ((unhide HB).below.trans (b1.mono (by have := (unhide HB).size; omega)))
  clear r1 b1 f1 k1 o1 CL
  go_wp2_with fail
  go_ret
  exact ⟨rfl, by first | exact unhide H5 | (rw [← unhide HG]; exact unhide H5)⟩
end Go.Proofs.YtpdfggjhedgdlaaDoor

namespace Go.Proofs.YtpdfggjhedgdlaaDoor
open Go.RowKit
set_option linter.unusedVariables false
set_option linter.unusedSimpArgs false

theorem conv8m {w : World} {ao : Option Addr} {len cap : Nat} {zs : List Int} (h : Row8 w ao len cap zs) : Sem.run Tryd.prog (convert 30 9 (.slice ao len cap)) w = .ok (.string (strOfNums zs)) w := by
  have hl := h.length
  by_cases h0 : len = 0
  · subst h0
    obtain rfl := List.eq_nil_of_length_eq_zero hl
    have hz : (strOfNums []) = ByteArray.empty := by rfl
    rw [hz, run_convert_bytes_string w 30 9 5 _ 0 cap Tryd.underlying30 Tryd.underlying5 Tryd.underlying9]
    cases ao <;> simp [Conv.bytesToString, loadCells]
    all_goals rfl
  · obtain ⟨b, off, rfl, hc⟩ := h.at (by omega)
    have h1 := conv_row hl hc 0 len cap (by omega) 0
    rw [List.drop_zero, List.take_of_length_le (by omega)] at h1
    exact h1

theorem guard32m : Tryd.prog.eqGuardType Tryd.prog.depth 34 = false := by kernel_rfl

/-- what ModuleBytes keeps: the module, the lent one in its box -/
structure Sby (w u : World) (B g gl lo hi : Nat) (m : Md) (V : Nat → List Value) (bc bf bx : Nat) (R : List (List Value)) (A L : Array Value) (a1 : Option Addr) (c1 : Nat) (a2 : Option Addr) (c2 : Nat) (a3 : Option Addr) (c3 : Nat) (t0 tK : TypeId) : Prop where
  bm : u.heap[g]? = some (.cells A 26 (0, 0))
  bl : u.heap[gl]? = some (.cells L 26 (0, 0))
  mod : IsM u (fun b => b < B) m a1 c1 a2 c2 a3 c3
  cs : CsV u B m.cs a1 V
  low : B ≤ u.heap.size
  len : LentM u lo hi m V bc bf bx R
  pkg : Pkg u t0 tK KS
  below : Below w.heap.size w u

theorem Sby.later {w u u' : World} {B g gl lo hi : Nat} {m : Md} {V : Nat → List Value} {bc bf bx : Nat} {R : List (List Value)} {A L : Array Value} {a1 a2 a3 : Option Addr} {c1 c2 c3 : Nat} {t0 tK : TypeId} (h : Sby w u B g gl lo hi m V bc bf bx R A L a1 c1 a2 c2 a3 c3 t0 tK) (hb : Below u.heap.size u u') : Sby w u' B g gl lo hi m V bc bf bx R A L a1 c1 a2 c2 a3 c3 t0 tK :=
  ⟨(hb.block g (lt_of_row h.bm)).trans h.bm, (hb.block gl (lt_of_row h.bl)).trans h.bl, h.mod.later (hb.mono h.low), h.cs.later (hb.mono h.low), Nat.le_trans h.low hb.size, h.len.later hb, h.pkg.later hb h.pkg.lt, h.below.trans (hb.mono h.below.size)⟩

set_option maxRecDepth 100000 in
set_option maxHeartbeats 8000000 in
theorem bytes_walk {t0 tK : TypeId} (m : Md) (a1 a2 a3 : Option Addr) (n1 c1 n2 c2 n3 c3 B : Nat) (w : World) (hn1 : m.cs.length = n1) (hn2 : m.fs.length = n2) (hn3 : m.xs.length = n3) (h : IsM w (fun b => b < B) m a1 c1 a2 c2 a3 c3) (hB : B ≤ w.heap.size) (hP : Pkg w t0 tK KS) (hb1 : 80 * n1 ≤ 140737488351232) (hb2 : 40 * n2 ≤ 140737488351232) (hb3 : 24 * n3 ≤ 140737488351232) :
    Calls Tryd.prog 3 #[.agg #[.slice a1 n1 c1, .slice a2 n2 c2, .slice a3 n3 c3]] w fun e w' => e = .returned (.bool true) ∧ Below w.heap.size w w' := by
  obtain ⟨V, hV⟩ := h.hc.csV
  obtain ⟨g, hg⟩ : ∃ g, w.heap.size = g := ⟨_, rfl⟩
  have hP1 := hP.lt
  have BX := BoxN.mk' w #[.slice a1 n1 c1, .slice a2 n2 c2, .slice a3 n3 c3] 26
  obtain ⟨w1, hw1⟩ : ∃ w1, w.alloc (.cells #[.slice a1 n1 c1, .slice a2 n2 c2, .slice a3 n3 c3] 26) = w1 := ⟨_, rfl⟩
  rw [hw1] at BX
  have HS : Hid (∀ u, Below w1.heap.size w1 u → SeeM u B g m (.slice a1 n1 c1) (.slice a2 n2 c2) (.slice a3 n3 c3) a1 c1 a2 c2 a3 c3 ∧ CsV u B m.cs a1 V ∧ Below w.heap.size w u ∧ Pkg u t0 tK KS) := hide (fun u hu => by
    have S1 : SeeM w1 B g m (.slice a1 n1 c1) (.slice a2 n2 c2) (.slice a3 n3 c3) a1 c1 a2 c2 a3 c3 := ⟨by rw [← hg]; exact BX.row, h.later (BX.below.mono hB), by have := BX.size; omega⟩
    have hb : Below w.heap.size w u := BX.below.trans (hu.mono (by have := BX.size; omega))
    exact ⟨S1.later hu, hV.later (hb.mono hB), hb, hP.later hb hP1⟩)
  have HM := hide h
  have HN := hide (And.intro hn1 (And.intro hn2 hn3))
  have HW1 : Hid (w.heap.size ≤ w1.heap.size) := hide BX.below.size
  clear h hV hP BX hP1
  go_enter Tryd.func3, Tryd.ntmps3
  go_wp2_with fail
  refine (shown_any w1).mono ?_
  rintro e u1 ⟨rfl, b1⟩
  have B1 := hide b1
  obtain ⟨m0, m1, m2⟩ := row_cell3 (unhide HS u1 b1).1.box
  have CL := hide (lentM_any m V a1 a2 a3 n1 c1 n2 c2 n3 c3 B u1 hn1 hn2 hn3 (unhide HS u1 b1).1.mod (unhide HS u1 b1).2.1 (unhide HS u1 b1).1.low hb1 hb2 hb3)
  clear b1
  go_wp2_with fail
  refine (unhide CL).mono ?_
  rintro e u2 ⟨bc, bf, bx, rfl, hR, b2⟩
  obtain ⟨R, hR⟩ := hR
  have H2 := hide (And.intro hR b2)
  clear hR b2 CL m0 m1 m2
  obtain ⟨gl, hgl⟩ : ∃ gl, u2.heap.size = gl := ⟨_, rfl⟩
  go_upto_region 3 with fail
  obtain ⟨u3, hu3⟩ : ∃ u3, u2.alloc (.cells #[.slice (some ⟨bc, 0, none⟩) n1 (n1 + 2), .slice (some ⟨bf, 0, none⟩) n2 (n2 + 2), .slice (some ⟨bx, 0, none⟩) n3 (n3 + 2)] 26) = u3 := ⟨_, rfl⟩
  have H3 : Hid (Sby w u3 B g gl u1.heap.size u2.heap.size m V bc bf bx R #[.slice a1 n1 c1, .slice a2 n2 c2, .slice a3 n3 c3] #[.slice (some ⟨bc, 0, none⟩) n1 (n1 + 2), .slice (some ⟨bf, 0, none⟩) n2 (n2 + 2), .slice (some ⟨bx, 0, none⟩) n3 (n3 + 2)] a1 c1 a2 c2 a3 c3 t0 tK) := hide (by
    have b3 : Below u2.heap.size u2 u3 := by rw [← hu3]; exact (Below.refl _ _).alloc (Nat.le_refl _) _
    have bb : Below w1.heap.size w1 u3 := (unhide B1).trans (((unhide H2).2.trans (b3.mono (unhide H2).2.size)).mono (unhide B1).size)
    obtain ⟨q1, q2, q3, q4⟩ := unhide HS u3 bb
    exact ⟨q1.box, by rw [← hgl, ← hu3]; exact heap_alloc_new _ _, q1.mod, q2, q1.low, (unhide H2).1.later b3, q4, q3⟩)
  rw [hu3]
  clear hu3
  have HC : Hid (∀ u, Sby w u B g gl u1.heap.size u2.heap.size m V bc bf bx R #[.slice a1 n1 c1, .slice a2 n2 c2, .slice a3 n3 c3] #[.slice (some ⟨bc, 0, none⟩) n1 (n1 + 2), .slice (some ⟨bf, 0, none⟩) n2 (n2 + 2), .slice (some ⟨bx, 0, none⟩) n3 (n3 + 2)] a1 c1 a2 c2 a3 c3 t0 tK → IsM u (fun b => b < u.heap.size) m (some ⟨bc, 0, none⟩) (n1 + 2) (some ⟨bf, 0, none⟩) (n2 + 2) (some ⟨bx, 0, none⟩) (n3 + 2)) := hide (fun u hu => by
    have := hu.len.isM (C := u.heap.size) hu.cs (unhide HM) hu.len.top hu.low
    rw [hn1, hn2, hn3] at this
    exact this)
  clear hgl
  have K1 := hide (rightM_any m _ _ _ n1 (n1 + 2) n2 (n2 + 2) n3 (n3 + 2) u3.heap.size u3 hn1 hn2 hn3 (unhide HC u3 (unhide H3)) (Nat.le_refl _))
  obtain ⟨l0, l1, l2⟩ := row_cell3 (unhide H3).bl
  go_wp2_with fail
  refine (unhide K1).mono ?_
  rintro e u4 ⟨rfl, b4⟩
  have H4 := hide ((unhide H3).later b4)
  clear b4 K1 l0 l1 l2
  have K2 := hide (encodeM_any m _ _ _ n1 (n1 + 2) n2 (n2 + 2) n3 (n3 + 2) u4.heap.size u4 hn1 hn2 hn3 (unhide HC u4 (unhide H4)) (Nat.le_refl _))
  obtain ⟨l0, l1, l2⟩ := row_cell3 (unhide H4).bl
  go_wp2_with fail
  refine (unhide K2).mono ?_
  rintro e u5 ⟨ao, len, cap, rfl, r5, b5, _, hm5, _⟩
  have H5 := hide ((unhide H4).later b5)
  have R5 := hide r5
  clear b5 r5 K2 l0 l1 l2
  have K3 := hide (encodeR_any m a1 a2 a3 n1 c1 n2 c2 n3 c3 B u5 hn1 hn2 hn3 (unhide H5).mod (unhide H5).low)
  obtain ⟨m0, m1, m2⟩ := row_cell3 (unhide H5).bm
  go_wp2_with fail
  refine (unhide K3).mono ?_
  rintro e u6 ⟨ap, lp, cp, rfl, r6, b6, _, hm6⟩
  have H6 := hide ((unhide H5).later b6)
  have R56 := hide (And.intro ((unhide R5).later b6) r6)
  clear b6 r6 K3 m0 m1 m2 R5
  have K4 := hide (digestM_any m _ _ _ n1 (n1 + 2) n2 (n2 + 2) n3 (n3 + 2) u6.heap.size u6 hn1 hn2 hn3 (unhide HC u6 (unhide H6)) (Nat.le_refl _) (unhide H6).pkg)
  obtain ⟨l0, l1, l2⟩ := row_cell3 (unhide H6).bl
  obtain ⟨D, hD⟩ : ∃ D, digOf m = D := ⟨_, rfl⟩
  have HDL : Hid (D.length = 32) := hide (by rw [← hD]; exact digOf_len m)
  have HDS := hide (sizeB (T := 34) sb32 (unhide HDL))
  have HKR : Hid (∀ u, Sby w u B g gl u1.heap.size u2.heap.size m V bc bf bx R #[.slice a1 n1 c1, .slice a2 n2 c2, .slice a3 n3 c3] #[.slice (some ⟨bc, 0, none⟩) n1 (n1 + 2), .slice (some ⟨bf, 0, none⟩) n2 (n2 + 2), .slice (some ⟨bx, 0, none⟩) n3 (n3 + 2)] a1 c1 a2 c2 a3 c3 t0 tK → Calls Tryd.prog 10 #[.agg #[.slice a1 n1 c1, .slice a2 n2 c2, .slice a3 n3 c3]] u fun e w' => e = .returned (.tuple #[.agg (D.map (Value.int .u8)).toArray, .int .i64 (codeM m)]) ∧ Below u.heap.size u w') := hide (fun u hu => by
    have := digestR_any m a1 a2 a3 n1 c1 n2 c2 n3 c3 B u hn1 hn2 hn3 hu.mod hu.low hu.pkg
    rw [hD] at this
    exact this)
  rw [hD] at K4
  clear hD
  obtain ⟨C, hC⟩ : ∃ C, codeM m = C := ⟨_, rfl⟩
  obtain ⟨RR, hRR⟩ : ∃ RR, rightM m = RR := ⟨_, rfl⟩
  have HCR : Hid (C = if RR = true then 0 else 90) := hide (by rw [← hC, ← hRR]; rfl)
  rw [hC] at K4 HKR ⊢
  rw [hRR]
  clear hC hRR
  obtain ⟨Z, hZ⟩ : ∃ Z, bytesM m = Z := ⟨_, rfl⟩
  rw [hZ] at R56
  clear hZ
  obtain ⟨i0, hi0, hz0⟩ := zi32
  have tokA : True := trivial
  have tokB : True := trivial
  go_wp2_with fail
  refine (unhide K4).mono ?_
  rintro e u7 ⟨rfl, b7⟩
  have H7 := hide ((unhide H6).later b7)
  have R7 := hide (And.intro ((unhide R56).1.later b7) ((unhide R56).2.later b7))
  clear b7 K4 l0 l1 l2 R56
  obtain ⟨gd, hgd⟩ : ∃ gd, u7.heap.size = gd := ⟨_, rfl⟩
  go_upto_region 7 with (first
    | (have _t := tokA; refine wpList_new_arr rfl 34 rfl i0 zb32 hi0 hz0 ?_; intro u8 M8; rw [hgd]; clear tokA)
    | (have _t := tokB; refine wpList_put_arr rfl 34 (.tmp 10) (.tmp 32) rfl gd zb32 (D.map (Value.int .u8)).toArray rfl rfl (by have := (unhide M8).at'; rw [hgd] at this; exact this) (by simp [zb32, unhide HDL]) (unhide HDS) (bytes_one _) ?_; intro u9 M9; clear tokB))
  have H9 : Hid (Below u7.heap.size u7 u9 ∧ u9.heap[gd]? = some (.cells (D.map (Value.int .u8)).toArray 34 (0, 0))) := hide ⟨(unhide M9).below _ _ (unhide M8).below (by omega), (unhide M9).at'⟩
  have S9 := hide ((unhide H7).later (unhide H9).1)
  have R9 := hide (And.intro ((unhide R7).1.later (unhide H9).1) ((unhide R7).2.later (unhide H9).1))
  clear M8 M9 R7 hgd
  obtain ⟨m0, m1, m2⟩ := row_cell3 (unhide S9).bm
  have K5 := hide (unhide HKR u9 (unhide S9))
  have tokC : True := trivial
  have tokD : True := trivial
  go_wp2_with fail
  refine (unhide K5).mono ?_
  rintro e v1 ⟨rfl, b1⟩
  have S10 := hide ((unhide S9).later b1)
  have R10 := hide (And.intro ((unhide R9).1.later b1) ((unhide R9).2.later b1))
  have D10 : Hid (v1.heap[gd]? = some (.cells (D.map (Value.int .u8)).toArray 34 (0, 0))) := hide ((b1.block gd (lt_of_row (unhide H9).2)).trans (unhide H9).2)
  clear b1 K5 m0 m1 m2 R9
  obtain ⟨gh, hgh⟩ : ∃ gh, v1.heap.size = gh := ⟨_, rfl⟩
  go_upto_region 8 with (first
    | (have _t := tokC; refine wpList_new_arr rfl 34 rfl i0 zb32 hi0 hz0 ?_; intro v2 M2; rw [hgh]; clear tokC)
    | (have _t := tokD; refine wpList_put_arr rfl 34 (.tmp 12) (.tmp 37) rfl gh zb32 (D.map (Value.int .u8)).toArray rfl rfl (by have := (unhide M2).at'; rw [hgh] at this; exact this) (by simp [zb32, unhide HDL]) (unhide HDS) (bytes_one _) ?_; intro v3 M3; clear tokD))
  have H11 : Hid (Below v1.heap.size v1 v3 ∧ v3.heap[gh]? = some (.cells (D.map (Value.int .u8)).toArray 34 (0, 0))) := hide ⟨(unhide M3).below _ _ (unhide M2).below (by omega), (unhide M3).at'⟩
  have S11 := hide ((unhide S10).later (unhide H11).1)
  have R11 := hide (And.intro ((unhide R10).1.later (unhide H11).1) ((unhide R10).2.later (unhide H11).1))
  have D11 : Hid (v3.heap[gd]? = some (.cells (D.map (Value.int .u8)).toArray 34 (0, 0)) ∧ v3.heap[gh]? = some (.cells (D.map (Value.int .u8)).toArray 34 (0, 0))) := hide ⟨((unhide H11).1.block gd (lt_of_row (unhide D10))).trans (unhide D10), (unhide H11).2⟩
  clear M2 M3 R10 hgh
  obtain ⟨m0, m1, m2⟩ := row_cell3 (unhide S11).bm
  obtain ⟨l0, l1, l2⟩ := row_cell3 (unhide S11).bl
  have K6 := hide (stillM_any m V a1 a2 a3 n1 c1 n2 c2 n3 c3 B u1.heap.size u2.heap.size bc bf bx R v3 hn1 hn2 hn3 (unhide S11).mod (unhide S11).cs (unhide S11).low (unhide S11).len)
  go_wp2_with fail
  refine (unhide K6).mono ?_
  rintro e v4 ⟨rfl, b4⟩
  have S12 : Hid (Below w.heap.size w v4) := hide ((unhide S11).later b4).below
  have kv1 := conv8m ((unhide R11).1.later b4)
  have kv2 := conv8m ((unhide R11).2.later b4)
  have D12 : Hid (v4.heap[gd]? = some (.cells (D.map (Value.int .u8)).toArray 34 (0, 0)) ∧ v4.heap[gh]? = some (.cells (D.map (Value.int .u8)).toArray 34 (0, 0))) := hide ⟨(b4.block gd (lt_of_row (unhide D11).1)).trans (unhide D11).1, (b4.block gh (lt_of_row (unhide D11).2)).trans (unhide D11).2⟩
  clear b4 K6 m0 m1 m2 l0 l1 l2 R11
  have ks1 : ((strOfNums Z).toList == (strOfNums Z).toList) = true := by simp
  have kc0 : (C == C) = true := by simp
  have tokE : True := trivial
  have tokF : True := trivial
  have tokG : True := trivial
  have kc1 : (C == 0) = RR := by
    rw [unhide HCR]
    cases RR <;> rfl
  have kr : (RR == RR) = true := by simp
  go_wp2_with (first
    | (have _t := tokE; refine wpList_load_arrG rfl 34 (.tmp 10) rfl gd (D.map (Value.int .u8)).toArray 32 5 rfl (unhide D12).1 Tryd.underlying34 (unhide HDS) ?_; clear tokE)
    | (have _t := tokF; refine wpList_load_arrG rfl 34 (.tmp 12) rfl gh (D.map (Value.int .u8)).toArray 32 5 rfl (unhide D12).2 Tryd.underlying34 (unhide HDS) ?_; clear tokF)
    | (have _t := tokG; refine wpList_eql_arrG rfl 34 34 (.tmp 64) (.tmp 65) rfl D D 32 5 rfl rfl guard32m Tryd.underlying34 Tryd.underlying5 s1b (unhide HDL) (unhide HDL) true (by simp) ?_; clear tokG))
  go_ret
  exact ⟨rfl, by first | exact unhide S12 | (rw [← hg]; exact unhide S12)⟩
end Go.Proofs.YtpdfggjhedgdlaaDoor
