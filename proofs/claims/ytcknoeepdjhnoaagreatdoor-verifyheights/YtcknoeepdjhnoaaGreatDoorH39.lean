/-
  The document's own Take (layer 8); no conditions.
-/
import Derived.Test.YtcknoeepdjhnoaaGreatDoorH38
import Derived.Test.YtcknoeepdjhnoaaGreatDoorH13
set_option linter.unusedVariables false
set_option linter.unusedSimpArgs false
namespace Go.Proofs.YtcknoeepdjhnoaaGreatDoor
open Go.RowKit

set_option maxRecDepth 100000 in
set_option maxHeartbeats 400000 in
theorem rtake_out (ao : Option Addr) (len cap : Nat) (zs : List Int) (p : Int) (w : World) (hz : Row8 w ao len cap zs) (h : p < 0 ∨ (zs.length : Int) ≤ p) :
    Calls Tryz.prog 44 #[.slice ao len cap, .int .i64 p] w fun e w' => e = .returned (takeV (takeI zs p)) ∧ Below w.heap.size w w' := by
  have e : takeI zs p = (0, 0, p, 82) := by unfold takeI; rw [if_pos h]
  rw [e]
  have hl := hz.length
  unfold takeV
  by_cases h0 : p < 0
  · go_enter Tryz.func44, Tryz.ntmps44
    go_wp2_with fail
    exact bodyPost_ret (ret_ctt (p := 4) (u := 5) (v := 6) (T := 75) rfl _ _ w.heap.size _ _ _ rfl (heap_alloc_new w _) Tryz.underlying75 rfl size_ins) rfl ⟨rfl, (Below.refl _ _).alloc (Nat.le_refl _) _⟩
  · have h1 : (len : Int) ≤ p := by omega
    go_enter Tryz.func44, Tryz.ntmps44
    go_wp2_with fail
    exact bodyPost_ret (ret_ctt (p := 4) (u := 5) (v := 6) (T := 75) rfl _ _ w.heap.size _ _ _ rfl (heap_alloc_new w _) Tryz.underlying75 rfl size_ins) rfl ⟨rfl, (Below.refl _ _).alloc (Nat.le_refl _) _⟩

set_option maxRecDepth 100000 in
set_option maxHeartbeats 1000000 in
theorem rtake_in (ao : Option Addr) (len cap : Nat) (zs : List Int) (i : Nat) (w : World) (hz : Row8 w ao len cap zs) (hi : i < len) (hcap : cap ≤ 9223372036854775807) :
    Calls Tryz.prog 44 #[.slice ao len cap, .int .i64 (i : Int)] w fun e w' => e = .returned (takeV (takeI zs (i : Int))) ∧ Below w.heap.size w w' := by
  have hl := hz.length
  have hle := hz.le
  obtain ⟨bb, off, rfl, hcl⟩ := hz.at (by omega)
  have hbb : bb < w.heap.size := World.block_lt_of_cell? _ _ (hcl 0 (by omega))
  obtain ⟨c, hc⟩ : ∃ c, byt zs i = c := ⟨_, rfl⟩
  have hc8 : 0 ≤ c ∧ c ≤ 255 := by
    rw [← hc]
    unfold byt
    exact hz.small _ (by rw [List.getD_eq_getElem?_getD, List.getElem?_eq_getElem (by omega)]; exact List.getElem_mem _)
  obtain ⟨T, hT⟩ : ∃ T, takeI zs (i : Int) = T := ⟨_, rfl⟩
  rw [hT]
  unfold takeI at hT
  rw [if_neg (by omega), Int.toNat_natCast, hc] at hT
  obtain ⟨g, hg⟩ : ∃ g, w.heap.size = g := ⟨_, rfl⟩
  obtain ⟨w1, hw1⟩ : ∃ w1, w.alloc (.cells #[.int .i64 0, .int .i64 0] 75) = w1 := ⟨_, rfl⟩
  have B1 : Below w.heap.size w w1 := by rw [← hw1]; exact (Below.refl _ _).alloc (Nat.le_refl _) _
  have A1 : w1.heap[g]? = some (.cells #[.int .i64 0, .int .i64 0] 75 (0, 0)) := by rw [← hw1, ← hg]; exact heap_alloc_new _ _
  have Z1 : w1.heap.size = g + 1 := by rw [← hw1, ← hg]; simp
  have HZ : Hid (Row8 w (some ⟨bb, off, none⟩) len cap zs) := hide hz
  have CI := hide (rinfo_any c w1)
  have H1 := hide (And.intro B1 A1)
  have ct : w1.cell? ⟨bb, off + i, none⟩ = some (.int .u8 c) := by
    rw [← hc]
    exact cell_later B1 (hcl i hi)
  have HCL : Hid (∀ u, Below w.heap.size w u → ∀ j, j < len → u.cell? ⟨bb, off + j, none⟩ = some (.int .u8 (byt zs j))) := hide (fun u hu j hj => cell_later hu (hcl j hj))
  have i1 : (i : Int) < (len : Int) := by omega
  have HC := hide hc
  clear hz B1 A1 hcl hc
  by_cases hin : 1 ≤ c ∧ c ≤ 41
  · rw [if_pos hin] at hT
    have e1 := infoA_in c hin
    have e2 := srt_is c hin
    have e3 := opd_at (srt c) e2.2
    rw [e1] at CI
    obtain ⟨x, hx⟩ : ∃ x, OPS.getD c.toNat blank = x := ⟨_, rfl⟩
    rw [hx] at CI e2
    obtain ⟨xn, xa, xb, xc, xd, xf⟩ := x
    simp only [infV] at CI e2
    obtain ⟨k, hk⟩ : ∃ k, srt c = k := ⟨_, rfl⟩
    rw [hk] at e2 e3 hT
    obtain ⟨rfl, k5⟩ := e2
    have CM := fun u => hide (most_any k u k5)
    have CW := fun u => hide (width_any k u k5)
    obtain ⟨S, hS⟩ : ∃ S, siz k = S := ⟨_, rfl⟩
    obtain ⟨m, hm⟩ : ∃ m, mst k = m := ⟨_, rfl⟩
    rw [hS] at hT CW e3
    rw [hm] at CM e3
    have HT1 := hide hT
    have hS2 := e3.2.1
    have HF : Hid (∀ A, 0 ≤ A → faultI c A = if A ≤ m then 0 else 81) := hide (fun A hA => by
      unfold faultI
      rw [if_pos hin, hk, hm]
      by_cases h : A ≤ m
      · rw [if_pos h, if_pos ⟨hA, h⟩]
      · rw [if_neg h, if_neg (fun h' => h h'.2)])
    clear e1 e3 hx hk hS hT hm
    go_enter Tryz.func44, Tryz.ntmps44
    go_wp2_with fail
    refine (unhide CI).mono ?_
    rintro e w3 ⟨rfl, B3⟩
    have H3 := hide B3
    have z3 := B3.size
    clear B3 CI ct
    go_upto_region 6 with fail
    obtain ⟨w4, hw4⟩ : ∃ w4, w4 = w3.alloc (.cells #[.string xn, .int .i64 (k : Int), .int .i64 xb, .int .i64 xc, .int .i64 xd, .int .i64 xf] 97) := ⟨_, rfl⟩
    rw [← hw4]
    have A4 : w4.heap[w3.heap.size]? = some (.cells #[.string xn, .int .i64 (k : Int), .int .i64 xb, .int .i64 xc, .int .i64 xd, .int .i64 xf] 97 (0, 0)) := by rw [hw4]; exact heap_alloc_new w3 _
    have B4 : Below w1.heap.size w1 w4 := by rw [hw4]; exact (unhide H3).alloc (unhide H3).size _
    have Z4 : w4.heap.size = w3.heap.size + 1 := by rw [hw4]; simp
    have HK : Hid (∀ u, Below w4.heap.size w4 u → u.cell? ⟨w3.heap.size, 1, none⟩ = some (.int .i64 (k : Int)) ∧ Below w.heap.size w u ∧ u.heap[g]? = some (.cells #[.int .i64 0, .int .i64 0] 75 (0, 0))) := hide (fun u hu => by
      have h1 : Below w1.heap.size w1 u := B4.trans (hu.mono B4.size)
      refine ⟨?_, (unhide H1).1.trans (h1.mono (unhide H1).1.size), (h1.block g (by omega)).trans (unhide H1).2⟩
      rw [cell_of_row u _ 1 _ _ (0, 0) ((hu.block _ (by omega)).trans A4)]
      rfl)
    have d1 := (unhide HK w4 (Below.refl _ _)).1
    clear hw4 A4 B4
    go_wp2_with fail
    refine (unhide (CW w4)).mono ?_
    rintro e w5 ⟨rfl, B5⟩
    have H5 := hide B5
    clear B5 CW d1
    by_cases hS1 : len < i + 1 + S
    · have s1 : (len : Int) - (i : Int) - 1 < (S : Int) := by omega
      have hTT := unhide HT1
      rw [if_pos (by omega)] at hTT
      subst hTT
      clear HT1
      have tok : True := trivial
      go_wp2_with (first | (have _t := tok; refine wpList_put_arr rfl 75 (.tmp 4) (.tmp 46) rfl g _ _ rfl rfl (unhide HK w5 (unhide H5)).2.2 rfl size_ins (one_ins _ _) ?_; clear tok; intro w7 M7))
      exact bodyPost_ret (ret_ctt (p := 4) (u := 5) (v := 6) (T := 75) rfl _ _ g _ _ _ rfl (unhide M7).at' Tryz.underlying75 rfl size_ins) rfl ⟨rfl, (unhide M7).below w.heap.size w (unhide HK w5 (unhide H5)).2.1 (by omega)⟩
    · have s1 : ¬ (len : Int) - (i : Int) - 1 < (S : Int) := by omega
      have hTT := unhide HT1
      rw [if_neg (by omega)] at hTT
      have HT2 := hide hTT
      clear HT1 hTT
      have hsm : ∀ j, j < len → 0 ≤ byt zs j ∧ byt zs j ≤ 255 := fun j hj => (unhide HZ).small _ (by unfold byt; rw [List.getD_eq_getElem?_getD, List.getElem?_eq_getElem (by omega)]; exact List.getElem_mem _)
      have HSM := hide hsm
      clear hsm
      go_wp2_with fail
      go_loopw [10, 11] (fun y x wr => ∃ (j : Nat), x = .int .i64 (j : Int) ∧ y = .int .i64 (valB zs i j) ∧ Hid (j ≤ S ∧ wr = w5)) (fun _ x _ => S - (intOf x).toNat)
      case atStart => exact ⟨0, rfl, rfl, hide ⟨by omega, rfl⟩⟩
      case round =>
        obtain ⟨j, rfl, rfl, HJ⟩ := hrel
        obtain rfl : wr = w5 := (unhide HJ).2
        by_cases hj : j < S
        · have j1 : (j : Int) < (S : Int) := by omega
          have HJ1 := hide hj
          have hij : i + 1 + j < len := by omega
          obtain ⟨z, hz⟩ : ∃ z, byt zs (i + 1 + j) = z := ⟨_, rfl⟩
          have ct : wr.cell? ⟨bb, off + (i + 1 + j), none⟩ = some (.int .u8 z) := by
            have h1 := unhide HCL wr (unhide HK wr (unhide H5)).2.1 (i + 1 + j) hij
            rw [hz] at h1
            exact h1
          have hz8 : 0 ≤ z ∧ z ≤ 255 := by rw [← hz]; exact unhide HSM _ hij
          obtain ⟨V, hV⟩ : ∃ V, valB zs i j = V := ⟨_, rfl⟩
          obtain ⟨V', hV'⟩ : ∃ V', valB zs i (j + 1) = V' := ⟨_, rfl⟩
          have hvv : 0 ≤ V ∧ V ≤ 255 ∧ V' = 256 * V + z := by
            match j, hj with
            | 0, _ => rw [← hV, ← hV', ← hz]; simp [valB]
            | 1, _ =>
              rw [← hV, ← hV', ← hz]
              simp only [valB]
              have := unhide HSM (i + 1) (by omega)
              refine ⟨this.1, this.2, ?_⟩
              show byt zs (i + 1) * 256 + byt zs (i + 2) = 256 * byt zs (i + 1) + byt zs (i + 2)
              omega
            | j + 2, h => omega
          have HV := hide (And.intro hV hV')
          have HVV := hide hvv.2.2
          have h3 : 0 ≤ V ∧ V ≤ 255 := ⟨hvv.1, hvv.2.1⟩
          have h4 : (i : Int) + 1 + (j : Int) < (len : Int) := by omega
          rw [hV]
          clear hz hV hV' hvv hj
          go_wp2_with fail
          go_roundw
          case rel => exact ⟨j + 1, by go_num, by rw [(unhide HV).2, unhide HVV], hide ⟨by have := unhide HJ1; omega, by trivial⟩⟩
          case measure => have := unhide HJ1; simp [intOf]; omega
        · obtain rfl : j = S := by have := (unhide HJ).1; omega
          have d1 := (unhide HK wr (unhide H5)).1
          have ct := unhide HCL wr (unhide HK wr (unhide H5)).2.1 i hi
          rw [unhide HC] at ct
          obtain ⟨A, hA⟩ : ∃ A, valB zs i j = A := ⟨_, rfl⟩
          have hA0 : 0 ≤ A ∧ A ≤ 65535 := by
            rw [← hA]
            match j, hS2 with
            | 0, _ => simp [valB]
            | 1, _ => have := unhide HSM (i + 1) (by omega); simp only [valB]; omega
            | 2, _ => have := unhide HSM (i + 1) (by omega); have := unhide HSM (i + 2) (by omega); simp only [valB]; omega
            | j + 3, h => omega
          rw [hA] at HT2
          rw [hA]
          have hFA := unhide HF A hA0.1
          rw [hFA] at HT2
          have HBB := hide ct
          clear hFA hA HF HJ hj ct
          go_wp2_with fail
          refine (unhide (CM wr)).mono ?_
          rintro e w6 ⟨rfl, B6⟩
          have X6 : Hid (Below w4.heap.size w4 w6) := hide ((unhide H5).trans (B6.mono (unhide H5).size))
          have ct := cell_later B6 (unhide HBB)
          have hS3 : (j : Int) ≤ 2 := by omega
          clear B6 d1
          have tok : True := trivial
          by_cases hm1 : A ≤ m
          · have hTT := unhide HT2
            rw [if_pos hm1, if_pos (by rfl)] at hTT
            subst hTT
            clear HT2
            go_wp2_with (first | (have _t := tok; refine wpList_put_arr rfl 75 (.tmp 4) (.tmp 78) rfl g _ _ rfl rfl (unhide HK w6 (unhide X6)).2.2 rfl size_ins (one_ins _ _) ?_; clear tok; intro w7 M7))
            exact bodyPost_ret (ret_ctt (p := 4) (u := 5) (v := 6) (T := 75) rfl _ _ g _ _ _ rfl (unhide M7).at' Tryz.underlying75 rfl size_ins) rfl ⟨rfl, (unhide M7).below w.heap.size w (unhide HK w6 (unhide X6)).2.1 (by omega)⟩
          · have hm2 : m < A := by omega
            have hTT := unhide HT2
            rw [if_neg hm1, if_neg (by decide)] at hTT
            subst hTT
            clear HT2 hm1
            go_wp2_with (first | (have _t := tok; refine wpList_put_arr rfl 75 (.tmp 4) (.tmp 70) rfl g _ _ rfl rfl (unhide HK w6 (unhide X6)).2.2 rfl size_ins (one_ins _ _) ?_; clear tok; intro w7 M7))
            exact bodyPost_ret (ret_ctt (p := 4) (u := 5) (v := 6) (T := 75) rfl _ _ g _ _ _ rfl (unhide M7).at' Tryz.underlying75 rfl size_ins) rfl ⟨rfl, (unhide M7).below w.heap.size w (unhide HK w6 (unhide X6)).2.1 (by omega)⟩
  · rw [if_neg hin] at hT
    subst hT
    have e1 : infoA c = (blank, false) := by unfold infoA; rw [if_neg hin]
    rw [e1] at CI
    simp only [infV, blank] at CI
    clear e1
    go_enter Tryz.func44, Tryz.ntmps44
    go_wp2_with fail
    refine (unhide CI).mono ?_
    rintro e w3 ⟨rfl, B3⟩
    have H3 := hide B3
    clear B3 CI ct
    go_upto_region 4 with fail
    obtain ⟨w4, hw4⟩ : ∃ w4, w4 = w3.alloc (.cells #[.string ⟨#[]⟩, .int .i64 0, .int .i64 0, .int .i64 0, .int .i64 0, .int .i64 0] 97) := ⟨_, rfl⟩
    rw [← hw4]
    have B4 : Below w1.heap.size w1 w4 := by rw [hw4]; exact (unhide H3).alloc (unhide H3).size _
    have Y7 : Hid (Below w.heap.size w w4) := hide ((unhide H1).1.trans (B4.mono (unhide H1).1.size))
    have G4 : Hid (w4.heap[g]? = some (.cells #[.int .i64 0, .int .i64 0] 75 (0, 0))) := hide ((B4.block g (by omega)).trans (unhide H1).2)
    clear hw4 B4
    have tok : True := trivial
    go_wp2_with (first | (have _t := tok; refine wpList_put_arr rfl 75 (.tmp 4) (.tmp 34) rfl g _ _ rfl rfl (unhide G4) rfl size_ins (one_ins _ _) ?_; clear tok; intro w7 M7))
    exact bodyPost_ret (ret_ctt (p := 4) (u := 5) (v := 6) (T := 75) rfl _ _ g _ _ _ rfl (unhide M7).at' Tryz.underlying75 rfl size_ins) rfl ⟨rfl, (unhide M7).below w.heap.size w (unhide Y7) (by omega)⟩

theorem rtake_any (ao : Option Addr) (len cap : Nat) (zs : List Int) (p : Int) (w : World) (hz : Row8 w ao len cap zs) (hcap : cap ≤ 9223372036854775807) :
    Calls Tryz.prog 44 #[.slice ao len cap, .int .i64 p] w fun e w' => e = .returned (takeV (takeI zs p)) ∧ Below w.heap.size w w' := by
  have hl := hz.length
  by_cases hp : p < 0 ∨ (zs.length : Int) ≤ p
  · exact rtake_out ao len cap zs p w hz hp
  · obtain ⟨i, rfl⟩ : ∃ i : Nat, p = (i : Int) := ⟨p.toNat, by omega⟩
    exact rtake_in ao len cap zs i w hz (by omega) hcap
end Go.Proofs.YtcknoeepdjhnoaaGreatDoor
