/-
  The walks of Digest of a module (layer 9), the code's and the document's own; conditions: the package's variables as its text lays them.
-/
import Derived.Test.YtpdfggjhedgdlaaDoorA49
import Derived.Test.YtpdfggjhedgdlaaDoorA32
import Derived.Test.YtpdfggjhedgdlaaDoorA35
import Derived.Test.YtpdfggjhedgdlaaDoorA34
namespace Go.Proofs.YtpdfggjhedgdlaaDoor
open Go.RowKit
set_option linter.unusedVariables false
set_option linter.unusedSimpArgs false

theorem builtZ : Tryd.prog.built 34 [] = some zb32 := by kernel_rfl
theorem zb32_one : zb32.all (·.oneCell') = true := by unfold zb32; exact bytes_one _

/-- the digest of a module; of one that is not right: none -/
def digOf (m : Md) : List Int := if rightM m = true then digM KS (encM m) else List.replicate 32 0

theorem digOf_len (m : Md) : (digOf m).length = 32 := by
  unfold digOf
  split
  · exact digM_len _ _
  · simp

theorem Row8.src {w : World} {ao : Option Addr} {len cap : Nat} {zs : List Int} (h : Row8 w ao len cap zs) : Src w ao len cap zs := ⟨h.length, h.none, h.cells⟩

theorem sum_row {t0 tK : TypeId} (ao : Option Addr) (len cap : Nat) (zs : List Int) (w : World) (hr : Row8 w ao len cap zs) (hp : Pkg w t0 tK KS) (hm : len ≤ 140737488351232) :
    Calls Tryd.prog 16 #[.slice ao len cap] w fun e w' => e = .returned (.agg ((digM KS zs).map (Value.int .u8)).toArray) ∧ Below w.heap.size w w' := by
  have hl := hr.length
  subst hl
  obtain ⟨p, hp'⟩ : ∃ p, 0 < zs.length → ∃ o, ao = some ⟨p, o, none⟩ ∧ p < w.heap.size ∧ ∀ j, j < zs.length → w.cell? ⟨p, o + j, none⟩ = some (.int .u8 (zs.getD j 0)) := by
    by_cases h : 0 < zs.length
    · obtain ⟨b, off, e, hc⟩ := hr.at h
      exact ⟨b, fun _ => ⟨off, e, hr.block _ e h, hc⟩⟩
    · exact ⟨0, fun h' => absurd h' h⟩
  exact sum_any p ao cap zs KS w hr.small hp.1 hp.2.1 hp.2.2 hr.le (by omega) hp'

set_option maxRecDepth 100000 in
set_option maxHeartbeats 2000000 in
theorem digestM_any {t0 tK : TypeId} (m : Md) (a1 a2 a3 : Option Addr) (n1 c1 n2 c2 n3 c3 B : Nat) (w : World) (hn1 : m.cs.length = n1) (hn2 : m.fs.length = n2) (hn3 : m.xs.length = n3) (h : IsM w (fun b => b < B) m a1 c1 a2 c2 a3 c3) (hB : B ≤ w.heap.size) (hP : Pkg w t0 tK KS) :
    Calls Tryd.prog 9 #[.agg #[.slice a1 n1 c1, .slice a2 n2 c2, .slice a3 n3 c3]] w fun e w' => e = .returned (.tuple #[.agg ((digOf m).map (Value.int .u8)).toArray, .int .i64 (codeM m)]) ∧ Below w.heap.size w w' := by
  obtain ⟨i0, hi, hz⟩ := zi32
  have hP1 := hP.lt
  obtain ⟨g, hg⟩ : ∃ g, w.heap.size = g := ⟨_, rfl⟩
  have BX := BoxN.mk' w #[.slice a1 n1 c1, .slice a2 n2 c2, .slice a3 n3 c3] 26
  obtain ⟨w1, hw1⟩ : ∃ w1, w.alloc (.cells #[.slice a1 n1 c1, .slice a2 n2 c2, .slice a3 n3 c3] 26) = w1 := ⟨_, rfl⟩
  rw [hw1] at BX
  obtain ⟨s1, hs1⟩ : ∃ s1, w1.heap.size = s1 := ⟨_, rfl⟩
  have HZ1 : Hid (s1 = g + 1) := hide (by have := BX.size; omega)
  have HS : Hid (∀ u, Below w1.heap.size w1 u → SeeM u B g m (.slice a1 n1 c1) (.slice a2 n2 c2) (.slice a3 n3 c3) a1 c1 a2 c2 a3 c3 ∧ Below w.heap.size w u ∧ Pkg u t0 tK KS) := hide (fun u hu => by
    have S1 : SeeM w1 B g m (.slice a1 n1 c1) (.slice a2 n2 c2) (.slice a3 n3 c3) a1 c1 a2 c2 a3 c3 := ⟨by rw [← hg]; exact BX.row, h.later (BX.below.mono hB), by have := BX.size; omega⟩
    have hb : Below w.heap.size w u := BX.below.trans (hu.mono (by have := BX.size; omega))
    exact ⟨S1.later hu, hb, hP.later hb hP1⟩)
  have HE : Hid (∀ u, Below w1.heap.size w1 u → Calls Tryd.prog 7 #[.agg #[.slice a1 n1 c1, .slice a2 n2 c2, .slice a3 n3 c3]] u fun e w' => ∃ (ao : Option Addr) (len cap : Nat), e = .returned (.tuple #[.slice ao len cap, .int .i64 (codeM m)]) ∧ Row8 w' ao len cap (bytesM m) ∧ Below u.heap.size u w') := hide (fun u hu => by
    refine (encodeM_any m a1 a2 a3 n1 c1 n2 c2 n3 c3 B u hn1 hn2 hn3 (unhide HS u hu).1.mod (unhide HS u hu).1.low).mono ?_
    rintro e w' ⟨ao, len, cap, rfl, r, b, _, _, _⟩
    exact ⟨ao, len, cap, rfl, r, b⟩)
  have HDL : Hid ((digOf m).length = 32) := hide (digOf_len m)
  have HDS := hide (sizeB (T := 34) sb32 (unhide HDL))
  have HBL : Hid (rightM m = true → (bytesM m).length ≤ 65536) := hide (fun hr => by
    unfold bytesM
    rw [hr, if_pos rfl]
    unfold rightM at hr
    rw [Bool.and_eq_true, decide_eq_true_eq] at hr
    exact hr.2)
  have HG1 : Hid (1 < g) := hide (by omega)
  clear h hB hP BX hn1 hn2 hn3 hP1
  have tokA : True := trivial
  have tokB : True := trivial
  have tokC : True := trivial
  cases hR : rightM m with
  | false =>
    have hc : codeM m = 90 := by unfold codeM; rw [hR]; rfl
    have hd : digOf m = List.replicate 32 0 := by unfold digOf; rw [hR]; rfl
    rw [hc] at HE
    rw [hc, hd]
    clear hc hd hR
    go_enter Tryd.func9, Tryd.ntmps9
    go_upto_region 1 with (first
      | (have _t := tokA; refine wpList_new_arr rfl 34 rfl i0 zb32 hi hz ?_; intro w2 M2; rw [hs1]; clear tokA))
    have HB2 : Hid (Below w1.heap.size w1 w2 ∧ w2.heap[s1]? = some (.cells zb32 34 (0, 0)) ∧ s1 < w2.heap.size) := hide ⟨(unhide M2).below, by rw [← hs1]; exact (unhide M2).at', by have := (unhide M2).size; omega⟩
    obtain ⟨m0, m1, m2⟩ := row_cell3 (unhide HS w2 (unhide HB2).1).1.box
    have C1 := hide (unhide HE w2 (unhide HB2).1)
    clear M2
    go_wp2_with fail
    refine (unhide C1).mono ?_
    rintro e u ⟨ao, len, cap, rfl, _, b1⟩
    have HU : Hid (Below w.heap.size w u ∧ u.heap[s1]? = some (.cells zb32 34 (0, 0))) := hide ⟨(unhide HS u ((unhide HB2).1.trans (b1.mono (unhide HB2).1.size))).2.1, (b1.block s1 (unhide HB2).2.2).trans (unhide HB2).2.1⟩
    clear b1 C1 m0 m1 m2
    go_wp2_with (first
      | (have _t := tokB; refine wpList_build_arr rfl 34 #[] rfl #[] rfl zb32 builtZ ?_; clear tokB)
      | (have _t := tokC; refine wpList_put_arr rfl 34 (.tmp 2) (.tmp 13) rfl s1 zb32 zb32 rfl rfl (unhide HU).2 rfl (sizeB (T := 34) sb32 (by simp)) zb32_one ?_; intro w6 M6; clear tokC))
    refine bodyPost_ret (ret_cell_tmp (p := 2) (u := 3) (T := 34) rfl _ _ s1 zb32 32 _ rfl (unhide M6).at' Tryd.underlying34 (sizeB (T := 34) sb32 (by simp))) rfl ⟨rfl, ?_⟩
    have hb := (unhide M6).below _ _ (unhide HU).1 (by have := unhide HZ1; omega)
    first | exact hb | (rw [← hg]; exact hb)
  | true =>
    have hc : codeM m = 0 := by unfold codeM; rw [hR]; rfl
    have hbm : bytesM m = encM m := by unfold bytesM; rw [hR]; rfl
    have hd : digOf m = digM KS (bytesM m) := by unfold digOf; rw [hR, hbm]; rfl
    have HL := hide (unhide HBL hR)
    obtain ⟨D, hD⟩ : ∃ D, digOf m = D := ⟨_, rfl⟩
    have HDD : Hid (digM KS (bytesM m) = D) := hide (by rw [← hd]; exact hD)
    rw [hc] at HE
    rw [hc, hD]
    rw [hD] at HDL HDS
    clear hc hd hR hbm hD
    go_enter Tryd.func9, Tryd.ntmps9
    go_upto_region 1 with (first
      | (have _t := tokA; refine wpList_new_arr rfl 34 rfl i0 zb32 hi hz ?_; intro w2 M2; rw [hs1]; clear tokA))
    have HB2 : Hid (Below w1.heap.size w1 w2 ∧ w2.heap[s1]? = some (.cells zb32 34 (0, 0)) ∧ s1 < w2.heap.size) := hide ⟨(unhide M2).below, by rw [← hs1]; exact (unhide M2).at', by have := (unhide M2).size; omega⟩
    obtain ⟨m0, m1, m2⟩ := row_cell3 (unhide HS w2 (unhide HB2).1).1.box
    have C1 := hide (unhide HE w2 (unhide HB2).1)
    clear M2
    go_wp2_with fail
    refine (unhide C1).mono ?_
    rintro e u ⟨ao, len, cap, rfl, r1, b1⟩
    have HU : Hid (Below w1.heap.size w1 u ∧ u.heap[s1]? = some (.cells zb32 34 (0, 0)) ∧ s1 < u.heap.size) := hide ⟨(unhide HB2).1.trans (b1.mono (unhide HB2).1.size), (b1.block s1 (unhide HB2).2.2).trans (unhide HB2).2.1, Nat.lt_of_lt_of_le (unhide HB2).2.2 b1.size⟩
    have hlen : len ≤ 65536 := by have := r1.length; have := unhide HL; omega
    have CS := hide (sum_row ao len cap _ u r1 (unhide HS u (unhide HU).1).2.2 (by omega))
    rw [unhide HDD] at CS
    clear r1 b1 C1 m0 m1 m2
    go_wp2_with fail
    refine (unhide CS).mono ?_
    rintro e u2 ⟨rfl, b2⟩
    have HU2 : Hid (Below w.heap.size w u2 ∧ u2.heap[s1]? = some (.cells zb32 34 (0, 0))) := hide ⟨(unhide HS u2 ((unhide HU).1.trans (b2.mono (unhide HU).1.size))).2.1, (b2.block s1 (unhide HU).2.2).trans (unhide HU).2.1⟩
    clear b2 CS
    go_wp2_with (first
      | (have _t := tokC; refine wpList_put_arr rfl 34 (.tmp 2) (.tmp 16) rfl s1 zb32 (D.map (Value.int .u8)).toArray rfl rfl (unhide HU2).2 (by simp [zb32, unhide HDL]) (unhide HDS) (bytes_one _) ?_; intro w6 M6; clear tokC))
    refine bodyPost_ret (ret_cell_tmp (p := 2) (u := 3) (T := 34) rfl _ _ s1 (D.map (Value.int .u8)).toArray 32 _ rfl (unhide M6).at' Tryd.underlying34 (unhide HDS)) rfl ⟨rfl, ?_⟩
    have hb := (unhide M6).below _ _ (unhide HU2).1 (by have := unhide HZ1; omega)
    first | exact hb | (rw [← hg]; exact hb)

set_option maxRecDepth 100000 in
set_option maxHeartbeats 2000000 in
theorem digestR_any {t0 tK : TypeId} (m : Md) (a1 a2 a3 : Option Addr) (n1 c1 n2 c2 n3 c3 B : Nat) (w : World) (hn1 : m.cs.length = n1) (hn2 : m.fs.length = n2) (hn3 : m.xs.length = n3) (h : IsM w (fun b => b < B) m a1 c1 a2 c2 a3 c3) (hB : B ≤ w.heap.size) (hP : Pkg w t0 tK KS) :
    Calls Tryd.prog 10 #[.agg #[.slice a1 n1 c1, .slice a2 n2 c2, .slice a3 n3 c3]] w fun e w' => e = .returned (.tuple #[.agg ((digOf m).map (Value.int .u8)).toArray, .int .i64 (codeM m)]) ∧ Below w.heap.size w w' := by
  obtain ⟨i0, hi, hz⟩ := zi32
  have hP1 := hP.lt
  obtain ⟨g, hg⟩ : ∃ g, w.heap.size = g := ⟨_, rfl⟩
  have BX := BoxN.mk' w #[.slice a1 n1 c1, .slice a2 n2 c2, .slice a3 n3 c3] 26
  obtain ⟨w1, hw1⟩ : ∃ w1, w.alloc (.cells #[.slice a1 n1 c1, .slice a2 n2 c2, .slice a3 n3 c3] 26) = w1 := ⟨_, rfl⟩
  rw [hw1] at BX
  obtain ⟨s1, hs1⟩ : ∃ s1, w1.heap.size = s1 := ⟨_, rfl⟩
  have HZ1 : Hid (s1 = g + 1) := hide (by have := BX.size; omega)
  have HS : Hid (∀ u, Below w1.heap.size w1 u → SeeM u B g m (.slice a1 n1 c1) (.slice a2 n2 c2) (.slice a3 n3 c3) a1 c1 a2 c2 a3 c3 ∧ Below w.heap.size w u ∧ Pkg u t0 tK KS) := hide (fun u hu => by
    have S1 : SeeM w1 B g m (.slice a1 n1 c1) (.slice a2 n2 c2) (.slice a3 n3 c3) a1 c1 a2 c2 a3 c3 := ⟨by rw [← hg]; exact BX.row, h.later (BX.below.mono hB), by have := BX.size; omega⟩
    have hb : Below w.heap.size w u := BX.below.trans (hu.mono (by have := BX.size; omega))
    exact ⟨S1.later hu, hb, hP.later hb hP1⟩)
  have HE : Hid (∀ u, Below w1.heap.size w1 u → Calls Tryd.prog 8 #[.agg #[.slice a1 n1 c1, .slice a2 n2 c2, .slice a3 n3 c3]] u fun e w' => ∃ (ao : Option Addr) (len cap : Nat), e = .returned (.tuple #[.slice ao len cap, .int .i64 (codeM m)]) ∧ Row8 w' ao len cap (bytesM m) ∧ Below u.heap.size u w') := hide (fun u hu => by
    refine (encodeR_any m a1 a2 a3 n1 c1 n2 c2 n3 c3 B u hn1 hn2 hn3 (unhide HS u hu).1.mod (unhide HS u hu).1.low).mono ?_
    rintro e w' ⟨ao, len, cap, rfl, r, b, _, _⟩
    exact ⟨ao, len, cap, rfl, r, b⟩)
  have HDL : Hid ((digOf m).length = 32) := hide (digOf_len m)
  have HDS := hide (sizeB (T := 34) sb32 (unhide HDL))
  have HBL : Hid (rightM m = true → (bytesM m).length ≤ 65536) := hide (fun hr => by
    unfold bytesM
    rw [hr, if_pos rfl]
    unfold rightM at hr
    rw [Bool.and_eq_true, decide_eq_true_eq] at hr
    exact hr.2)
  have HG1 : Hid (1 < g) := hide (by omega)
  clear h hB hP BX hn1 hn2 hn3 hP1
  have tokA : True := trivial
  have tokB : True := trivial
  have tokC : True := trivial
  cases hR : rightM m with
  | false =>
    have hc : codeM m = 90 := by unfold codeM; rw [hR]; rfl
    have hd : digOf m = List.replicate 32 0 := by unfold digOf; rw [hR]; rfl
    rw [hc] at HE
    rw [hc, hd]
    clear hc hd hR
    go_enter Tryd.func10, Tryd.ntmps10
    go_upto_region 1 with (first
      | (have _t := tokA; refine wpList_new_arr rfl 34 rfl i0 zb32 hi hz ?_; intro w2 M2; rw [hs1]; clear tokA))
    have HB2 : Hid (Below w1.heap.size w1 w2 ∧ w2.heap[s1]? = some (.cells zb32 34 (0, 0)) ∧ s1 < w2.heap.size) := hide ⟨(unhide M2).below, by rw [← hs1]; exact (unhide M2).at', by have := (unhide M2).size; omega⟩
    obtain ⟨m0, m1, m2⟩ := row_cell3 (unhide HS w2 (unhide HB2).1).1.box
    have C1 := hide (unhide HE w2 (unhide HB2).1)
    clear M2
    go_wp2_with fail
    refine (unhide C1).mono ?_
    rintro e u ⟨ao, len, cap, rfl, _, b1⟩
    have HU : Hid (Below w.heap.size w u ∧ u.heap[s1]? = some (.cells zb32 34 (0, 0))) := hide ⟨(unhide HS u ((unhide HB2).1.trans (b1.mono (unhide HB2).1.size))).2.1, (b1.block s1 (unhide HB2).2.2).trans (unhide HB2).2.1⟩
    clear b1 C1 m0 m1 m2
    go_wp2_with (first
      | (have _t := tokB; refine wpList_build_arr rfl 34 #[] rfl #[] rfl zb32 builtZ ?_; clear tokB)
      | (have _t := tokC; refine wpList_put_arr rfl 34 (.tmp 2) (.tmp 13) rfl s1 zb32 zb32 rfl rfl (unhide HU).2 rfl (sizeB (T := 34) sb32 (by simp)) zb32_one ?_; intro w6 M6; clear tokC))
    refine bodyPost_ret (ret_cell_tmp (p := 2) (u := 3) (T := 34) rfl _ _ s1 zb32 32 _ rfl (unhide M6).at' Tryd.underlying34 (sizeB (T := 34) sb32 (by simp))) rfl ⟨rfl, ?_⟩
    have hb := (unhide M6).below _ _ (unhide HU).1 (by have := unhide HZ1; omega)
    first | exact hb | (rw [← hg]; exact hb)
  | true =>
    have hc : codeM m = 0 := by unfold codeM; rw [hR]; rfl
    have hbm : bytesM m = encM m := by unfold bytesM; rw [hR]; rfl
    have hd : digOf m = digM KS (bytesM m) := by unfold digOf; rw [hR, hbm]; rfl
    have HL := hide (unhide HBL hR)
    obtain ⟨D, hD⟩ : ∃ D, digOf m = D := ⟨_, rfl⟩
    have HDD : Hid (digM KS (bytesM m) = D) := hide (by rw [← hd]; exact hD)
    rw [hc] at HE
    rw [hc, hD]
    rw [hD] at HDL HDS
    clear hc hd hR hbm hD
    go_enter Tryd.func10, Tryd.ntmps10
    go_upto_region 1 with (first
      | (have _t := tokA; refine wpList_new_arr rfl 34 rfl i0 zb32 hi hz ?_; intro w2 M2; rw [hs1]; clear tokA))
    have HB2 : Hid (Below w1.heap.size w1 w2 ∧ w2.heap[s1]? = some (.cells zb32 34 (0, 0)) ∧ s1 < w2.heap.size) := hide ⟨(unhide M2).below, by rw [← hs1]; exact (unhide M2).at', by have := (unhide M2).size; omega⟩
    obtain ⟨m0, m1, m2⟩ := row_cell3 (unhide HS w2 (unhide HB2).1).1.box
    have C1 := hide (unhide HE w2 (unhide HB2).1)
    clear M2
    go_wp2_with fail
    refine (unhide C1).mono ?_
    rintro e u ⟨ao, len, cap, rfl, r1, b1⟩
    have HU : Hid (Below w1.heap.size w1 u ∧ u.heap[s1]? = some (.cells zb32 34 (0, 0)) ∧ s1 < u.heap.size) := hide ⟨(unhide HB2).1.trans (b1.mono (unhide HB2).1.size), (b1.block s1 (unhide HB2).2.2).trans (unhide HB2).2.1, Nat.lt_of_lt_of_le (unhide HB2).2.2 b1.size⟩
    have hlen : len ≤ 65536 := by have := r1.length; have := unhide HL; omega
    have CS := hide (refSum_any ao len cap _ u (fun u' hu' => (r1.later hu').src) r1.small (by omega))
    rw [unhide HDD] at CS
    clear r1 b1 C1 m0 m1 m2
    go_wp2_with fail
    refine (unhide CS).mono ?_
    rintro e u2 ⟨rfl, b2⟩
    have HU2 : Hid (Below w.heap.size w u2 ∧ u2.heap[s1]? = some (.cells zb32 34 (0, 0))) := hide ⟨(unhide HS u2 ((unhide HU).1.trans (b2.mono (unhide HU).1.size))).2.1, (b2.block s1 (unhide HU).2.2).trans (unhide HU).2.1⟩
    clear b2 CS
    go_wp2_with (first
      | (have _t := tokC; refine wpList_put_arr rfl 34 (.tmp 2) (.tmp 16) rfl s1 zb32 (D.map (Value.int .u8)).toArray rfl rfl (unhide HU2).2 (by simp [zb32, unhide HDL]) (unhide HDS) (bytes_one _) ?_; intro w6 M6; clear tokC))
    refine bodyPost_ret (ret_cell_tmp (p := 2) (u := 3) (T := 34) rfl _ _ s1 (D.map (Value.int .u8)).toArray 32 _ rfl (unhide M6).at' Tryd.underlying34 (unhide HDS)) rfl ⟨rfl, ?_⟩
    have hb := (unhide M6).below _ _ (unhide HU2).1 (by have := unhide HZ1; omega)
    first | exact hb | (rw [← hg]; exact hb)
end Go.Proofs.YtpdfggjhedgdlaaDoor
