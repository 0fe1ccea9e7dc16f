/-
  What every program tells of states; no conditions.
  The walk of StateBytes (layer 7); conditions: the form's own reach, the package's variables as its text lays them.
-/
import Derived.Test.YtjgjebohbgbimaaDoorA48
import Derived.Test.YtjgjebohbgbimaaDoorA45
import Derived.Test.YtjgjebohbgbimaaDoorA46
import Derived.Test.YtjgjebohbgbimaaDoorA50
import Derived.Lib.ConvBytes
import Derived.BigQuiet
import Derived.Deep.QuietTactic
set_option linter.unusedVariables false
set_option linter.unusedSimpArgs false
namespace Go.Proofs.YtjgjebohbgbimaaDoor
open Go.RowKit
set_option linter.unusedVariables false

theorem e0sE : (⟨#[]⟩ : ByteArray).size = 0 := rfl

theorem six_cells {w : World} {gv : Nat} {x0 x1 x2 x3 x4 x5 : Value} {E : TypeId} (h : w.heap[gv]? = some (.cells #[x0, x1, x2, x3, x4, x5] E (0, 0))) : ∀ j u, [x0, x1, x2, x3, x4, x5][j]? = some u → w.cell? ((⟨gv, 0, none⟩ : Addr).add j) = some u := by
  intro j u hj
  have hadd : (⟨gv, 0, none⟩ : Addr).add j = ⟨gv, j, none⟩ := by unfold Addr.add; split <;> simp_all
  rw [hadd, cell_of_row w gv j _ _ (0, 0) h, ← hj]
  simp

def es0 : List En := [(⟨#[98]⟩, .mk 1 1 ⟨#[]⟩ [] [])]

theorem size98 : (⟨#[98]⟩ : ByteArray).size = 1 := rfl
theorem es0_right : rightE es0 = true := by
  simp [rightE, es0, keysE, stepsE, entB, rightB, okB, okL, formB, formM, wt, wtL, keysW, entsW, entW, wt0, size98, e0sE]
theorem es0_bytes : encS es0 = [83, 83, 84, 49, 1, 1, 98, 2] := by
  simp [encS, es0, encEs, encE, headE, tx, wenc1, size98, nums]
  decide

/-- a value without lists lies in any memory -/
theorem plain_valS (w : World) (P : Nat → Prop) (k n : Int) (s : ByteArray) (bk : 0 ≤ k ∧ k ≤ 5) (bn : -9223372036854775808 ≤ n ∧ n ≤ 9223372036854775807) (bs : s.size ≤ 2048) :
    IsP w P (.mk k n s [] []) (.agg #[.int .i64 k, .int .i64 n, .string s, .slice none 0 0, .slice none 0 0]) := by
  have h := heap_alloc_new w (.cells #[.int .i64 k, .int .i64 n, .string s, .slice none 0 0, .slice none 0 0] 37)
  have hs : (w.alloc (.cells #[.int .i64 k, .int .i64 n, .string s, .slice none 0 0, .slice none 0 0] 37)).heap.size = w.heap.size + 1 := by simp
  generalize w.alloc (.cells #[.int .i64 k, .int .i64 n, .string s, .slice none 0 0, .slice none 0 0] 37) = u at h hs
  have M : Mid u (w.heap.size + 1) w.heap.size k n s [] [] (.slice none 0 0) (.slice none 0 0) 0 0 (fun _ => []) := ⟨h, by omega, by omega, World.ownsRow_nil _ _ _ _, World.ownsRow_nil _ _ _ _, Or.inl rfl, fun c h => by omega, fun c y h => by omega⟩
  exact (M.made rfl rfl (by omega) bn (by omega) (by simp) (by simp) (by simp)).to (fun b hb => by omega) (fun b hb => by omega)


theorem es0_is (w : World) (g : Nat) (h : w.heap[g]? = some (.cells #[.string ⟨#[98]⟩, .int .i64 1, .int .i64 1, .string ⟨#[]⟩, .slice none 0 0, .slice none 0 0] 39 (0, 0))) : IsE w (fun b => b < w.heap.size) es0 (some ⟨g, 0, none⟩) 1 := by
  refine ⟨fun _ => [.int .i64 1, .int .i64 1, .string ⟨#[]⟩, .slice none 0 0, .slice none 0 0], (fun e => by cases e), Nat.le_refl _, by simp [es0], ?_, ?_, ?_⟩
  · intro a ha i e he
    cases ha
    have hi : i = 0 := by have := (List.getElem?_eq_some_iff.1 he).1; simp [es0] at this; exact this
    subst hi
    simp [es0] at he
    subst he
    exact ⟨lt_of_row h, fun j v hv => six_cells h j v hv⟩
  · intro e he
    simp [es0] at he
    subst he
    rw [size98]
    omega
  · intro i e he
    have hi : i = 0 := by have := (List.getElem?_eq_some_iff.1 he).1; simp [es0] at this; exact this
    subst hi
    simp [es0] at he
    subst he
    exact ⟨rfl, plain_valS w _ 1 1 ⟨#[]⟩ (by omega) (by omega) (by rw [e0sE]; omega)⟩

set_option maxRecDepth 100000 in
set_option maxHeartbeats 400000 in
theorem shown_any (w : World) : Calls Tryd.prog 4 #[] w fun e w' => e = .returned (.bool true) ∧ Below w.heap.size w w' := by
  have BX := Box6.mk' w (.string ⟨#[98]⟩) (.int .i64 1) (.int .i64 1) (.string ⟨#[]⟩) (.slice none 0 0) (.slice none 0 0)
  obtain ⟨g, hg⟩ : ∃ g, w.heap.size = g := ⟨_, rfl⟩
  obtain ⟨w1, hw1⟩ : ∃ w1, w.alloc (.cells #[.string ⟨#[98]⟩, .int .i64 1, .int .i64 1, .string ⟨#[]⟩, .slice none 0 0, .slice none 0 0] 39) = w1 := ⟨_, rfl⟩
  rw [hw1] at BX
  have CE := hide (encodeS_any es0 (some ⟨g, 0, none⟩) 1 1 w1.heap.size w1 rfl (es0_is w1 g (by rw [← hg]; exact BX.row)) (Nat.le_refl _))
  have hc : codeS es0 = 0 := by unfold codeS; rw [es0_right]; rfl
  have hb : bytesS es0 = [83, 83, 84, 49, 1, 1, 98, 2] := by unfold bytesS; rw [es0_right, es0_bytes]; rfl
  rw [hc, hb] at CE
  have HB := hide BX
  clear hc hb BX
  go_enter Tryd.func4, Tryd.ntmps4
  go_wp2_with fail
  refine (unhide CE).mono ?_
  rintro e u ⟨ao, len, cap, rfl, r1, b1, _, _⟩
  have h8 : len = 8 := r1.length.symm
  subst h8
  obtain ⟨b, off, rfl, hcc⟩ := r1.at (by omega)
  have CV : Sem.run Tryd.prog (convert 25 9 (.slice (some ⟨b, off, none⟩) 8 cap)) u = .ok (.string ⟨#[83, 83, 84, 49, 1, 1, 98, 2]⟩) u := by
    have := conv_row (w := u) (len := 8) (zs := [83, 83, 84, 49, 1, 1, 98, 2]) rfl hcc 0 8 cap (by omega) 0
    rw [Nat.add_zero, List.drop_zero] at this
    exact this
  have B1 := hide ((unhide HB).below.trans (b1.mono (by have := (unhide HB).size; omega)))
  clear r1 b1 hcc CE HB
  go_wp2_with fail
  go_ret
  exact ⟨rfl, unhide B1⟩
end Go.Proofs.YtjgjebohbgbimaaDoor

namespace Go.Proofs.YtjgjebohbgbimaaDoor
open Go.RowKit
set_option linter.unusedVariables false
set_option linter.unusedSimpArgs false

theorem conv8s {w : World} {ao : Option Addr} {len cap : Nat} {zs : List Int} (h : Row8 w ao len cap zs) : Sem.run Tryd.prog (convert 25 9 (.slice ao len cap)) w = .ok (.string (strOfNums zs)) w := by
  have hl := h.length
  by_cases h0 : len = 0
  · subst h0
    obtain rfl := List.eq_nil_of_length_eq_zero hl
    have hz : (strOfNums []) = ByteArray.empty := by rfl
    rw [hz, run_convert_bytes_string w 25 9 5 _ 0 cap Tryd.underlying25 Tryd.underlying5 Tryd.underlying9]
    cases ao <;> simp [Conv.bytesToString, loadCells]
    all_goals rfl
  · obtain ⟨b, off, rfl, hc⟩ := h.at (by omega)
    have h1 := conv_row hl hc 0 len cap (by omega) 0
    rw [List.drop_zero, List.take_of_length_le (by omega)] at h1
    exact h1

theorem guard32s : Tryd.prog.eqGuardType Tryd.prog.depth 29 = false := by kernel_rfl

/-- what StateBytes keeps: the entries, the lent ones -/
structure SbyE (w u : World) (B lo hi : Nat) (es : List En) (V : Nat → List Value) (be : Nat) (R : List (List Value)) (al : Option Addr) (cl : Nat) (t0 tK : TypeId) : Prop where
  ent : IsE u (fun b => b < B) es al cl
  cs : CsE u B es al V
  low : B ≤ u.heap.size
  len : LentE u lo hi es V be R
  pkg : Pkg u t0 tK KS
  below : Below w.heap.size w u

theorem SbyE.later {w u u' : World} {B lo hi : Nat} {es : List En} {V : Nat → List Value} {be : Nat} {R : List (List Value)} {al : Option Addr} {cl : Nat} {t0 tK : TypeId} (h : SbyE w u B lo hi es V be R al cl t0 tK) (hb : Below u.heap.size u u') : SbyE w u' B lo hi es V be R al cl t0 tK :=
  ⟨h.ent.later (hb.mono h.low), h.cs.later (hb.mono h.low), Nat.le_trans h.low hb.size, h.len.later hb, h.pkg.later hb h.pkg.lt, h.below.trans (hb.mono h.below.size)⟩

set_option maxRecDepth 100000 in
set_option maxHeartbeats 8000000 in
theorem bytesS_walk {t0 tK : TypeId} (es : List En) (al : Option Addr) (n cl B : Nat) (w : World) (hn : es.length = n) (h : IsE w (fun b => b < B) es al cl) (hB : B ≤ w.heap.size) (hP : Pkg w t0 tK KS) (hb1 : 96 * n ≤ 140737488351232) :
    Calls Tryd.prog 3 #[.slice al n cl] w fun e w' => e = .returned (.bool true) ∧ Below w.heap.size w w' := by
  obtain ⟨V, hV⟩ := h.csE
  have hP1 := hP.lt
  have HS : Hid (∀ u, Below w.heap.size w u → IsE u (fun b => b < B) es al cl ∧ CsE u B es al V ∧ B ≤ u.heap.size ∧ Pkg u t0 tK KS) := hide (fun u hu => ⟨h.later (hu.mono hB), hV.later (hu.mono hB), Nat.le_trans hB hu.size, hP.later hu hP1⟩)
  have HM := hide h
  clear h hV hP hP1 hB
  go_enter Tryd.func3, Tryd.ntmps3
  go_wp2_with fail
  refine (shown_any w).mono ?_
  rintro e u1 ⟨rfl, b1⟩
  have B1 := hide b1
  have CL := hide (lentE_any es V al n cl B u1 hn (unhide HS u1 b1).2.1 (unhide HS u1 b1).2.2.1 hb1)
  clear b1
  go_wp2_with fail
  refine (unhide CL).mono ?_
  rintro e u2 ⟨be, rfl, hR, b2⟩
  obtain ⟨R, hR⟩ := hR
  have H3 : Hid (SbyE w u2 B u1.heap.size u2.heap.size es V be R al cl t0 tK) := hide (by
    have bb : Below w.heap.size w u2 := (unhide B1).trans (b2.mono (unhide B1).size)
    obtain ⟨q1, q2, q3, q4⟩ := unhide HS u2 bb
    exact ⟨q1, q2, q3, hR, q4, bb⟩)
  clear hR b2 CL
  have HC : Hid (∀ u, SbyE w u B u1.heap.size u2.heap.size es V be R al cl t0 tK → IsE u (fun b => b < u.heap.size) es (some ⟨be, 0, none⟩) (n + 2)) := hide (fun u hu => by
    have := hu.len.isE (C := u.heap.size) hu.cs (unhide HM) hu.len.top hu.low
    rw [hn] at this
    exact this)
  have K2 := hide (encodeS_any es (some ⟨be, 0, none⟩) n (n + 2) u2.heap.size u2 hn (unhide HC u2 (unhide H3)) (Nat.le_refl _))
  go_wp2_with fail
  refine (unhide K2).mono ?_
  rintro e u5 ⟨ao, len, cap, rfl, r5, b5, _, hm5⟩
  have H5 := hide ((unhide H3).later b5)
  have R5 := hide r5
  clear b5 r5 K2
  have K3 := hide (encodeRs_any es al n cl B u5 hn (unhide H5).ent (unhide H5).low)
  go_wp2_with fail
  refine (unhide K3).mono ?_
  rintro e u6 ⟨ap, lp, cp, rfl, r6, b6, _, hm6⟩
  have H6 := hide ((unhide H5).later b6)
  have R56 := hide (And.intro ((unhide R5).later b6) r6)
  clear b6 r6 K3 R5
  have K4 := hide (digestS_any es (some ⟨be, 0, none⟩) n (n + 2) u6.heap.size u6 hn (unhide HC u6 (unhide H6)) (Nat.le_refl _) (unhide H6).pkg)
  obtain ⟨D, hD⟩ : ∃ D, digE es = D := ⟨_, rfl⟩
  have HDL : Hid (D.length = 32) := hide (by rw [← hD]; exact digE_len es)
  have HDS := hide (sizeB (T := 29) sb32 (unhide HDL))
  have HKR : Hid (∀ u, SbyE w u B u1.heap.size u2.heap.size es V be R al cl t0 tK → Calls Tryd.prog 9 #[.slice al n cl] u fun e w' => e = .returned (.tuple #[.agg (D.map (Value.int .u8)).toArray, .int .i64 (codeS es)]) ∧ Below u.heap.size u w') := hide (fun u hu => by
    have := digestRs_any es al n cl B u hn hu.ent hu.low hu.pkg
    rw [hD] at this
    exact this)
  rw [hD] at K4
  clear hD
  obtain ⟨C, hC⟩ : ∃ C, codeS es = C := ⟨_, rfl⟩
  rw [hC] at K4 HKR ⊢
  clear hC
  obtain ⟨Z, hZ⟩ : ∃ Z, bytesS es = Z := ⟨_, rfl⟩
  rw [hZ] at R56
  clear hZ
  obtain ⟨i0, hi0, hz0⟩ := zi32
  have tokA : True := trivial
  have tokB : True := trivial
  go_wp2_with fail
  refine (unhide K4).mono ?_
  rintro e u7 ⟨rfl, b7⟩
  have H7 := hide ((unhide H6).later b7)
  have R7 := hide (And.intro ((unhide R56).1.later b7) ((unhide R56).2.later b7))
  clear b7 K4 R56
  obtain ⟨gd, hgd⟩ : ∃ gd, u7.heap.size = gd := ⟨_, rfl⟩
  go_upto_region 6 with (first
    | (have _t := tokA; refine wpList_new_arr rfl 29 rfl i0 zb32 hi0 hz0 ?_; intro u8 M8; rw [hgd]; clear tokA)
    | (have _t := tokB; refine wpList_put_arr rfl 29 (.tmp 9) (.tmp 30) rfl gd zb32 (D.map (Value.int .u8)).toArray rfl rfl (by have := (unhide M8).at'; rw [hgd] at this; exact this) (by simp [zb32, unhide HDL]) (unhide HDS) (bytes_one _) ?_; intro u9 M9; clear tokB))
  have H9 : Hid (Below u7.heap.size u7 u9 ∧ u9.heap[gd]? = some (.cells (D.map (Value.int .u8)).toArray 29 (0, 0))) := hide ⟨(unhide M9).below _ _ (unhide M8).below (by omega), (unhide M9).at'⟩
  have S9 := hide ((unhide H7).later (unhide H9).1)
  have R9 := hide (And.intro ((unhide R7).1.later (unhide H9).1) ((unhide R7).2.later (unhide H9).1))
  clear M8 M9 R7 hgd
  have K5 := hide (unhide HKR u9 (unhide S9))
  have tokC : True := trivial
  have tokD : True := trivial
  go_wp2_with fail
  refine (unhide K5).mono ?_
  rintro e v1 ⟨rfl, b1⟩
  have S10 := hide ((unhide S9).later b1)
  have R10 := hide (And.intro ((unhide R9).1.later b1) ((unhide R9).2.later b1))
  have D10 : Hid (v1.heap[gd]? = some (.cells (D.map (Value.int .u8)).toArray 29 (0, 0))) := hide ((b1.block gd (lt_of_row (unhide H9).2)).trans (unhide H9).2)
  clear b1 K5 R9
  obtain ⟨gh, hgh⟩ : ∃ gh, v1.heap.size = gh := ⟨_, rfl⟩
  go_upto_region 7 with (first
    | (have _t := tokC; refine wpList_new_arr rfl 29 rfl i0 zb32 hi0 hz0 ?_; intro v2 M2; rw [hgh]; clear tokC)
    | (have _t := tokD; refine wpList_put_arr rfl 29 (.tmp 11) (.tmp 35) rfl gh zb32 (D.map (Value.int .u8)).toArray rfl rfl (by have := (unhide M2).at'; rw [hgh] at this; exact this) (by simp [zb32, unhide HDL]) (unhide HDS) (bytes_one _) ?_; intro v3 M3; clear tokD))
  have H11 : Hid (Below v1.heap.size v1 v3 ∧ v3.heap[gh]? = some (.cells (D.map (Value.int .u8)).toArray 29 (0, 0))) := hide ⟨(unhide M3).below _ _ (unhide M2).below (by omega), (unhide M3).at'⟩
  have S11 := hide ((unhide S10).later (unhide H11).1)
  have R11 := hide (And.intro ((unhide R10).1.later (unhide H11).1) ((unhide R10).2.later (unhide H11).1))
  have D11 : Hid (v3.heap[gd]? = some (.cells (D.map (Value.int .u8)).toArray 29 (0, 0)) ∧ v3.heap[gh]? = some (.cells (D.map (Value.int .u8)).toArray 29 (0, 0))) := hide ⟨((unhide H11).1.block gd (lt_of_row (unhide D10))).trans (unhide D10), (unhide H11).2⟩
  clear M2 M3 R10 hgh
  have K6 := hide (stillE_any es V al n cl B u1.heap.size u2.heap.size be R v3 hn (by omega) (unhide S11).cs (unhide S11).low (unhide S11).len)
  go_wp2_with fail
  refine (unhide K6).mono ?_
  rintro e v4 ⟨rfl, b4⟩
  have S12 : Hid (Below w.heap.size w v4) := hide ((unhide S11).later b4).below
  have kv1 := conv8s ((unhide R11).1.later b4)
  have kv2 := conv8s ((unhide R11).2.later b4)
  have D12 : Hid (v4.heap[gd]? = some (.cells (D.map (Value.int .u8)).toArray 29 (0, 0)) ∧ v4.heap[gh]? = some (.cells (D.map (Value.int .u8)).toArray 29 (0, 0))) := hide ⟨(b4.block gd (lt_of_row (unhide D11).1)).trans (unhide D11).1, (b4.block gh (lt_of_row (unhide D11).2)).trans (unhide D11).2⟩
  clear b4 K6 R11
  have ks1 : ((strOfNums Z).toList == (strOfNums Z).toList) = true := by simp
  have kc0 : (C == C) = true := by simp
  have tokE : True := trivial
  have tokF : True := trivial
  have tokG : True := trivial
  go_wp2_with (first
    | (have _t := tokE; refine wpList_load_arrG rfl 29 (.tmp 9) rfl gd (D.map (Value.int .u8)).toArray 32 5 rfl (unhide D12).1 Tryd.underlying29 (unhide HDS) ?_; clear tokE)
    | (have _t := tokF; refine wpList_load_arrG rfl 29 (.tmp 11) rfl gh (D.map (Value.int .u8)).toArray 32 5 rfl (unhide D12).2 Tryd.underlying29 (unhide HDS) ?_; clear tokF)
    | (have _t := tokG; refine wpList_eql_arrG rfl 29 29 (.tmp 57) (.tmp 58) rfl D D 32 5 rfl rfl guard32s Tryd.underlying29 Tryd.underlying5 s1b (unhide HDL) (unhide HDL) true (by simp) ?_; clear tokG))
  go_ret
  exact ⟨rfl, unhide S12⟩
end Go.Proofs.YtjgjebohbgbimaaDoor
