/-
  The walks of Digest of entries (layer 7), the code's and the document's own; conditions: the package's variables as its text lays them.
-/
import Derived.Test.YtjgjebohbgbimaaDoorA49
import Derived.Test.YtjgjebohbgbimaaDoorA48
import Derived.Test.YtjgjebohbgbimaaDoorA36
import Derived.Test.YtjgjebohbgbimaaDoorA40
import Derived.Test.YtjgjebohbgbimaaDoorA38
import Derived.Test.YtjgjebohbgbimaaDoorA39
set_option linter.unusedVariables false
set_option linter.unusedSimpArgs false
namespace Go.Proofs.YtjgjebohbgbimaaDoor
open Go.RowKit
set_option linter.unusedVariables false
set_option linter.unusedSimpArgs false

theorem builtZ : Tryd.prog.built 29 [] = some zb32 := by kernel_rfl
theorem zb32_one : zb32.all (·.oneCell') = true := by unfold zb32; exact bytes_one _

/-- the digest of entries; of ones that are not right: none -/
def digE (es : List En) : List Int := if rightE es = true then digM KS (encS es) else List.replicate 32 0

theorem digE_len (es : List En) : (digE es).length = 32 := by
  unfold digE
  split
  · exact digM_len _ _
  · simp

theorem bytesS_len (es : List En) (h : rightE es = true) : (bytesS es).length ≤ 6000000 := by
  obtain ⟨r1, r2, r3, r4⟩ := right_parts h
  have h2 := outE_len r3 es.length es.length
  have e : outE es es.length es.length = encS es := by unfold outE encS; rw [List.take_of_length_le (Nat.le_refl _)]
  rw [e] at h2
  unfold bytesS
  rw [h, if_pos rfl]
  omega

theorem Row8.src {w : World} {ao : Option Addr} {len cap : Nat} {zs : List Int} (h : Row8 w ao len cap zs) : Src w ao len cap zs := ⟨h.length, h.none, h.cells⟩

theorem sum_row {t0 tK : TypeId} (ao : Option Addr) (len cap : Nat) (zs : List Int) (w : World) (hr : Row8 w ao len cap zs) (hp : Pkg w t0 tK KS) (hm : len ≤ 140737488351232) :
    Calls Tryd.prog 20 #[.slice ao len cap] w fun e w' => e = .returned (.agg ((digM KS zs).map (Value.int .u8)).toArray) ∧ Below w.heap.size w w' := by
  have hl := hr.length
  subst hl
  obtain ⟨p, hp'⟩ : ∃ p, 0 < zs.length → ∃ o, ao = some ⟨p, o, none⟩ ∧ p < w.heap.size ∧ ∀ j, j < zs.length → w.cell? ⟨p, o + j, none⟩ = some (.int .u8 (zs.getD j 0)) := by
    by_cases h : 0 < zs.length
    · obtain ⟨b, off, e, hc⟩ := hr.at h
      exact ⟨b, fun _ => ⟨off, e, hr.block _ e h, hc⟩⟩
    · exact ⟨0, fun h' => absurd h' h⟩
  exact sum_any p ao cap zs KS w hr.small hp.1 hp.2.1 hp.2.2 hr.le (by omega) hp'

set_option maxRecDepth 100000 in
set_option maxHeartbeats 2000000 in
theorem digestS_any {t0 tK : TypeId} (es : List En) (al : Option Addr) (n cl B : Nat) (w : World) (hn : es.length = n) (h : IsE w (fun b => b < B) es al cl) (hB : B ≤ w.heap.size) (hP : Pkg w t0 tK KS) :
    Calls Tryd.prog 8 #[.slice al n cl] w fun e w' => e = .returned (.tuple #[.agg ((digE es).map (Value.int .u8)).toArray, .int .i64 (codeS es)]) ∧ Below w.heap.size w w' := by
  obtain ⟨i0, hi, hz⟩ := zi32
  have hP1 := hP.lt
  obtain ⟨s1, hs1⟩ : ∃ s1, w.heap.size = s1 := ⟨_, rfl⟩
  have HS : Hid (∀ u, Below w.heap.size w u → Pkg u t0 tK KS) := hide (fun u hb => hP.later hb hP1)
  have HE : Hid (∀ u, Below w.heap.size w u → Calls Tryd.prog 6 #[.slice al n cl] u fun e w' => ∃ (ao : Option Addr) (len cap : Nat), e = .returned (.tuple #[.slice ao len cap, .int .i64 (codeS es)]) ∧ Row8 w' ao len cap (bytesS es) ∧ Below u.heap.size u w') := hide (fun u hu => by
    refine (encodeS_any es al n cl B u hn (h.later (hu.mono hB)) (Nat.le_trans hB hu.size)).mono ?_
    rintro e w' ⟨ao, len, cap, rfl, r, b, _, _⟩
    exact ⟨ao, len, cap, rfl, r, b⟩)
  have HDL : Hid ((digE es).length = 32) := hide (digE_len es)
  have HDS := hide (sizeB (T := 29) sb32 (unhide HDL))
  have HBL : Hid (rightE es = true → (bytesS es).length ≤ 6000000) := hide (bytesS_len es)
  clear h hB hP hn hP1
  have tokA : True := trivial
  have tokB : True := trivial
  have tokC : True := trivial
  cases hR : rightE es with
  | false =>
    have hc : codeS es = 70 := by unfold codeS; rw [hR]; rfl
    have hd : digE es = List.replicate 32 0 := by unfold digE; rw [hR]; rfl
    rw [hc] at HE
    rw [hc, hd]
    clear hc hd hR
    go_enter Tryd.func8, Tryd.ntmps8
    go_upto_region 1 with (first
      | (have _t := tokA; refine wpList_new_arr rfl 29 rfl i0 zb32 hi hz ?_; intro w2 M2; rw [hs1]; clear tokA))
    have HB2 : Hid (Below w.heap.size w w2 ∧ w2.heap[s1]? = some (.cells zb32 29 (0, 0)) ∧ s1 < w2.heap.size) := hide ⟨(unhide M2).below, by rw [← hs1]; exact (unhide M2).at', by have := (unhide M2).size; omega⟩
    have C1 := hide (unhide HE w2 (unhide HB2).1)
    clear M2
    go_wp2_with fail
    refine (unhide C1).mono ?_
    rintro e u ⟨ao, len, cap, rfl, _, b1⟩
    have HU : Hid (Below w.heap.size w u ∧ u.heap[s1]? = some (.cells zb32 29 (0, 0))) := hide ⟨(unhide HB2).1.trans (b1.mono (unhide HB2).1.size), (b1.block s1 (unhide HB2).2.2).trans (unhide HB2).2.1⟩
    clear b1 C1
    go_wp2_with (first
      | (have _t := tokB; refine wpList_build_arr rfl 29 #[] rfl #[] rfl zb32 builtZ ?_; clear tokB)
      | (have _t := tokC; refine wpList_put_arr rfl 29 (.tmp 2) (.tmp 13) rfl s1 zb32 zb32 rfl rfl (unhide HU).2 rfl (sizeB (T := 29) sb32 (by simp)) zb32_one ?_; intro w6 M6; clear tokC))
    refine bodyPost_ret (ret_cell_tmp (p := 2) (u := 3) (T := 29) rfl _ _ s1 zb32 32 _ rfl (unhide M6).at' Tryd.underlying29 (sizeB (T := 29) sb32 (by simp))) rfl ⟨rfl, ?_⟩
    have hb := (unhide M6).below _ _ (unhide HU).1 (by omega)
    first | exact hb | (rw [← hs1]; exact hb)
  | true =>
    have hc : codeS es = 0 := by unfold codeS; rw [hR]; rfl
    have hbm : bytesS es = encS es := by unfold bytesS; rw [hR]; rfl
    have hd : digE es = digM KS (bytesS es) := by unfold digE; rw [hR, hbm]; rfl
    have HL := hide (unhide HBL hR)
    obtain ⟨D, hD⟩ : ∃ D, digE es = D := ⟨_, rfl⟩
    have HDD : Hid (digM KS (bytesS es) = D) := hide (by rw [← hd]; exact hD)
    rw [hc] at HE
    rw [hc, hD]
    rw [hD] at HDL HDS
    clear hc hd hR hbm hD
    go_enter Tryd.func8, Tryd.ntmps8
    go_upto_region 1 with (first
      | (have _t := tokA; refine wpList_new_arr rfl 29 rfl i0 zb32 hi hz ?_; intro w2 M2; rw [hs1]; clear tokA))
    have HB2 : Hid (Below w.heap.size w w2 ∧ w2.heap[s1]? = some (.cells zb32 29 (0, 0)) ∧ s1 < w2.heap.size) := hide ⟨(unhide M2).below, by rw [← hs1]; exact (unhide M2).at', by have := (unhide M2).size; omega⟩
    have C1 := hide (unhide HE w2 (unhide HB2).1)
    clear M2
    go_wp2_with fail
    refine (unhide C1).mono ?_
    rintro e u ⟨ao, len, cap, rfl, r1, b1⟩
    have HU : Hid (Below w.heap.size w u ∧ u.heap[s1]? = some (.cells zb32 29 (0, 0)) ∧ s1 < u.heap.size) := hide ⟨(unhide HB2).1.trans (b1.mono (unhide HB2).1.size), (b1.block s1 (unhide HB2).2.2).trans (unhide HB2).2.1, Nat.lt_of_lt_of_le (unhide HB2).2.2 b1.size⟩
    have hlen : len ≤ 6000000 := by have := r1.length; have := unhide HL; omega
    have CS := hide (sum_row ao len cap _ u r1 (unhide HS u (unhide HU).1) (by omega))
    rw [unhide HDD] at CS
    clear r1 b1 C1
    go_wp2_with fail
    refine (unhide CS).mono ?_
    rintro e u2 ⟨rfl, b2⟩
    have HU2 : Hid (Below w.heap.size w u2 ∧ u2.heap[s1]? = some (.cells zb32 29 (0, 0))) := hide ⟨(unhide HU).1.trans (b2.mono (unhide HU).1.size), (b2.block s1 (unhide HU).2.2).trans (unhide HU).2.1⟩
    clear b2 CS
    go_wp2_with (first
      | (have _t := tokC; refine wpList_put_arr rfl 29 (.tmp 2) (.tmp 16) rfl s1 zb32 (D.map (Value.int .u8)).toArray rfl rfl (unhide HU2).2 (by simp [zb32, unhide HDL]) (unhide HDS) (bytes_one _) ?_; intro w6 M6; clear tokC))
    refine bodyPost_ret (ret_cell_tmp (p := 2) (u := 3) (T := 29) rfl _ _ s1 (D.map (Value.int .u8)).toArray 32 _ rfl (unhide M6).at' Tryd.underlying29 (unhide HDS)) rfl ⟨rfl, ?_⟩
    have hb := (unhide M6).below _ _ (unhide HU2).1 (by omega)
    first | exact hb | (rw [← hs1]; exact hb)

set_option maxRecDepth 100000 in
set_option maxHeartbeats 2000000 in
theorem digestRs_any {t0 tK : TypeId} (es : List En) (al : Option Addr) (n cl B : Nat) (w : World) (hn : es.length = n) (h : IsE w (fun b => b < B) es al cl) (hB : B ≤ w.heap.size) (hP : Pkg w t0 tK KS) :
    Calls Tryd.prog 9 #[.slice al n cl] w fun e w' => e = .returned (.tuple #[.agg ((digE es).map (Value.int .u8)).toArray, .int .i64 (codeS es)]) ∧ Below w.heap.size w w' := by
  obtain ⟨i0, hi, hz⟩ := zi32
  have hP1 := hP.lt
  obtain ⟨s1, hs1⟩ : ∃ s1, w.heap.size = s1 := ⟨_, rfl⟩
  have HS : Hid (∀ u, Below w.heap.size w u → Pkg u t0 tK KS) := hide (fun u hb => hP.later hb hP1)
  have HE : Hid (∀ u, Below w.heap.size w u → Calls Tryd.prog 7 #[.slice al n cl] u fun e w' => ∃ (ao : Option Addr) (len cap : Nat), e = .returned (.tuple #[.slice ao len cap, .int .i64 (codeS es)]) ∧ Row8 w' ao len cap (bytesS es) ∧ Below u.heap.size u w') := hide (fun u hu => by
    refine (encodeRs_any es al n cl B u hn (h.later (hu.mono hB)) (Nat.le_trans hB hu.size)).mono ?_
    rintro e w' ⟨ao, len, cap, rfl, r, b, _, _⟩
    exact ⟨ao, len, cap, rfl, r, b⟩)
  have HDL : Hid ((digE es).length = 32) := hide (digE_len es)
  have HDS := hide (sizeB (T := 29) sb32 (unhide HDL))
  have HBL : Hid (rightE es = true → (bytesS es).length ≤ 6000000) := hide (bytesS_len es)
  clear h hB hP hn hP1
  have tokA : True := trivial
  have tokB : True := trivial
  have tokC : True := trivial
  cases hR : rightE es with
  | false =>
    have hc : codeS es = 70 := by unfold codeS; rw [hR]; rfl
    have hd : digE es = List.replicate 32 0 := by unfold digE; rw [hR]; rfl
    rw [hc] at HE
    rw [hc, hd]
    clear hc hd hR
    go_enter Tryd.func9, Tryd.ntmps9
    go_upto_region 1 with (first
      | (have _t := tokA; refine wpList_new_arr rfl 29 rfl i0 zb32 hi hz ?_; intro w2 M2; rw [hs1]; clear tokA))
    have HB2 : Hid (Below w.heap.size w w2 ∧ w2.heap[s1]? = some (.cells zb32 29 (0, 0)) ∧ s1 < w2.heap.size) := hide ⟨(unhide M2).below, by rw [← hs1]; exact (unhide M2).at', by have := (unhide M2).size; omega⟩
    have C1 := hide (unhide HE w2 (unhide HB2).1)
    clear M2
    go_wp2_with fail
    refine (unhide C1).mono ?_
    rintro e u ⟨ao, len, cap, rfl, _, b1⟩
    have HU : Hid (Below w.heap.size w u ∧ u.heap[s1]? = some (.cells zb32 29 (0, 0))) := hide ⟨(unhide HB2).1.trans (b1.mono (unhide HB2).1.size), (b1.block s1 (unhide HB2).2.2).trans (unhide HB2).2.1⟩
    clear b1 C1
    go_wp2_with (first
      | (have _t := tokB; refine wpList_build_arr rfl 29 #[] rfl #[] rfl zb32 builtZ ?_; clear tokB)
      | (have _t := tokC; refine wpList_put_arr rfl 29 (.tmp 2) (.tmp 13) rfl s1 zb32 zb32 rfl rfl (unhide HU).2 rfl (sizeB (T := 29) sb32 (by simp)) zb32_one ?_; intro w6 M6; clear tokC))
    refine bodyPost_ret (ret_cell_tmp (p := 2) (u := 3) (T := 29) rfl _ _ s1 zb32 32 _ rfl (unhide M6).at' Tryd.underlying29 (sizeB (T := 29) sb32 (by simp))) rfl ⟨rfl, ?_⟩
    have hb := (unhide M6).below _ _ (unhide HU).1 (by omega)
    first | exact hb | (rw [← hs1]; exact hb)
  | true =>
    have hc : codeS es = 0 := by unfold codeS; rw [hR]; rfl
    have hbm : bytesS es = encS es := by unfold bytesS; rw [hR]; rfl
    have hd : digE es = digM KS (bytesS es) := by unfold digE; rw [hR, hbm]; rfl
    have HL := hide (unhide HBL hR)
    obtain ⟨D, hD⟩ : ∃ D, digE es = D := ⟨_, rfl⟩
    have HDD : Hid (digM KS (bytesS es) = D) := hide (by rw [← hd]; exact hD)
    rw [hc] at HE
    rw [hc, hD]
    rw [hD] at HDL HDS
    clear hc hd hR hbm hD
    go_enter Tryd.func9, Tryd.ntmps9
    go_upto_region 1 with (first
      | (have _t := tokA; refine wpList_new_arr rfl 29 rfl i0 zb32 hi hz ?_; intro w2 M2; rw [hs1]; clear tokA))
    have HB2 : Hid (Below w.heap.size w w2 ∧ w2.heap[s1]? = some (.cells zb32 29 (0, 0)) ∧ s1 < w2.heap.size) := hide ⟨(unhide M2).below, by rw [← hs1]; exact (unhide M2).at', by have := (unhide M2).size; omega⟩
    have C1 := hide (unhide HE w2 (unhide HB2).1)
    clear M2
    go_wp2_with fail
    refine (unhide C1).mono ?_
    rintro e u ⟨ao, len, cap, rfl, r1, b1⟩
    have HU : Hid (Below w.heap.size w u ∧ u.heap[s1]? = some (.cells zb32 29 (0, 0)) ∧ s1 < u.heap.size) := hide ⟨(unhide HB2).1.trans (b1.mono (unhide HB2).1.size), (b1.block s1 (unhide HB2).2.2).trans (unhide HB2).2.1, Nat.lt_of_lt_of_le (unhide HB2).2.2 b1.size⟩
    have hlen : len ≤ 6000000 := by have := r1.length; have := unhide HL; omega
    have CS := hide (refSum_any ao len cap _ u (fun u' hu' => (r1.later hu').src) r1.small (by omega))
    rw [unhide HDD] at CS
    clear r1 b1 C1
    go_wp2_with fail
    refine (unhide CS).mono ?_
    rintro e u2 ⟨rfl, b2⟩
    have HU2 : Hid (Below w.heap.size w u2 ∧ u2.heap[s1]? = some (.cells zb32 29 (0, 0))) := hide ⟨(unhide HU).1.trans (b2.mono (unhide HU).1.size), (b2.block s1 (unhide HU).2.2).trans (unhide HU).2.1⟩
    clear b2 CS
    go_wp2_with (first
      | (have _t := tokC; refine wpList_put_arr rfl 29 (.tmp 2) (.tmp 16) rfl s1 zb32 (D.map (Value.int .u8)).toArray rfl rfl (unhide HU2).2 (by simp [zb32, unhide HDL]) (unhide HDS) (bytes_one _) ?_; intro w6 M6; clear tokC))
    refine bodyPost_ret (ret_cell_tmp (p := 2) (u := 3) (T := 29) rfl _ _ s1 (D.map (Value.int .u8)).toArray 32 _ rfl (unhide M6).at' Tryd.underlying29 (unhide HDS)) rfl ⟨rfl, ?_⟩
    have hb := (unhide M6).below _ _ (unhide HU2).1 (by omega)
    first | exact hb | (rw [← hs1]; exact hb)
end Go.Proofs.YtjgjebohbgbimaaDoor
