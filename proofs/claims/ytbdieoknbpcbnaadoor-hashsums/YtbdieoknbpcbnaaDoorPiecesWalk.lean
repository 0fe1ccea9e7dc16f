/-
  The walk of the statement HashPieces: a message written piece by piece has its digest, and so has each beginning; conditions: the package's variables, lengths that an int holds.
-/
import Derived.Test.YtbdieoknbpcbnaaDoorH2Sum
import Derived.Test.YtbdieoknbpcbnaaDoorBytesOf
import Derived.Test.YtbdieoknbpcbnaaDoorPick
namespace Go.Proofs.YtbdieoknbpcbnaaDoor
open Go.RowKit

theorem guard32 : Tryd.prog.eqGuardType Tryd.prog.depth 23 = false := by kernel_rfl

theorem wrap64_small (K : Nat) (h : K ≤ 9223372036854775807) : wrap64 (K : Int) = (K : Int) := by
  unfold wrap64
  omega

theorem take_split (l : List Int) (k m : Nat) : l.take (k + m) = l.take k ++ (l.take (k + m)).drop k := by
  conv => lhs; rw [← List.take_append_drop k (l.take (k + m))]
  rw [List.take_take, Nat.min_eq_left (by omega)]

theorem pick_nat (c : Int) (n : Nat) (h0 : -9223372036854775808 ≤ c) (h1 : c ≤ 9223372036854775807) (n0 : 0 < n) (n1 : n ≤ 9223372036854775807) :
    ∃ k : Nat, k < n ∧ ∀ w, Hid (Calls Tryd.prog 17 #[.int .i64 c, .int .i64 n] w fun e w' => e = .returned (.int .i64 k) ∧ w' = w) := by
  have hb : 0 ≤ pickI c n ∧ pickI c n < n := by unfold pickI; exact ⟨Int.emod_nonneg _ (by omega), Int.emod_lt_of_pos _ (by omega)⟩
  refine ⟨(pickI c n).toNat, by omega, fun w => ?_⟩
  have h := pick_any c n w h0 h1 (by omega) (by omega)
  rw [show ((pickI c n).toNat : Int) = pickI c n by omega]
  exact h

set_option maxRecDepth 100000 in
set_option maxHeartbeats 1000000 in
theorem pieces_walk {t0 tK : TypeId} (s : ByteArray) (a1 : Option Addr) (len cap : Nat) (Z : Nat → Int) (ks : List Int) (w : World) (hs : s.size ≤ 9223372036854775000) (hl : len ≤ 9223372036854775000)
    (hc : ∀ j, j < len → ∃ b o, a1 = some ⟨b, o, none⟩ ∧ w.cell? ⟨b, o + j, none⟩ = some (.int .i64 (Z j)) ∧ -9223372036854775808 ≤ Z j ∧ Z j ≤ 9223372036854775807)
    (hk : ks.length = 64) (h0 : Words w 0 t0 H0) (hK : Words w 1 tK ks) :
    Calls Tryd.prog 5 #[.string s, .slice a1 len cap] w fun e w' => e = .returned (.bool true) ∧ Below w.heap.size w w' := by
  have hK1 : 1 < w.heap.size := (Array.getElem?_eq_some_iff.1 hK).1
  have HK := hide (And.intro hk (And.intro h0 hK))
  have HC := hide hc
  have HS := hide hs
  have HL := hide hl
  have C0 := hide (new_any w h0)
  clear hk h0 hK hc hs hl
  go_enter Tryd.func5, Tryd.ntmps5
  go_wp2_with fail
  refine (unhide C0).mono ?_
  rintro e w0 ⟨rfl, M0⟩
  have H00 : Hid (Hsh w0 w.heap.size H0 (List.replicate 64 0) 0) := hide M0.at'
  have B0 := hide M0.below
  clear M0 C0
  go_wp2_with fail
  go_loopw [6, 7] (fun x y wr => ∃ (k i : Nat) (st bf : List Int), i ≤ len + 1 ∧ k ≤ s.size ∧ x = .int .i64 k ∧ y = .int .i64 i ∧ Hid (feed ks S0 ((txt s).take k) = (st, bf, k)) ∧ Hid (Hsh wr w.heap.size st bf k) ∧ Hid (st.length = 8 ∧ bf.length = 64 ∧ (∀ y ∈ st, 0 ≤ y ∧ y ≤ 4294967295) ∧ ∀ y ∈ bf, 0 ≤ y ∧ y ≤ 255) ∧ Hid (Below w.heap.size w wr)) (fun _ y _ => len + 1 - (intOf y).toNat)
  case atStart => exact ⟨0, 0, H0, List.replicate 64 0, by omega, by omega, rfl, rfl, hide rfl, H00, hide ⟨rfl, rfl, H0_bounds, by intro y hy; rw [List.eq_of_mem_replicate hy]; omega⟩, B0⟩
  case round =>
    clear H00 B0
    obtain ⟨k, i, st, bf, hi, hks, rfl, rfl, HF, HH, HB, HBel⟩ := hrel
    have hsz := unhide HS
    have hle := unhide HL
    by_cases hilt : i < len
    · obtain ⟨b, o, rfl, hcell, z0, z1⟩ := unhide HC i hilt
      have ct := cell_later (unhide HBel) hcell
      have i1 : (i : Int) ≤ (len : Int) := by omega
      have i2 : (i : Int) < (len : Int) := by omega
      have i3 : (0 : Int) ≤ (i : Int) := by omega
      obtain ⟨R, hR⟩ : ∃ R, s.size - k = R := ⟨_, rfl⟩
      have r1 : (s.size : Int) - (k : Int) = (R : Int) := by omega
      have r2 : IntKind.i64.wrap ((s.size : Int) - (k : Int)) = (R : Int) := by rw [IntKind.wrap_i64]; omega
      have r3 : (R : Int) + 1 = ((R + 1 : Nat) : Int) := by omega
      have r4 : IntKind.i64.wrap ((R : Int) + 1) = ((R + 1 : Nat) : Int) := by rw [IntKind.wrap_i64]; omega
      obtain ⟨m, hm, CP⟩ := pick_nat (Z i) (R + 1) z0 z1 (by omega) (by omega)
      obtain ⟨R1, hR1⟩ : ∃ R1, R + 1 = R1 := ⟨_, rfl⟩
      rw [hR1] at r3 r4 hm CP
      have HR := hide (And.intro hR hR1)
      have hmk : k + m ≤ s.size := by omega
      have HM := hide hmk
      clear hcell HC hR hR1 hm
      go_wp2_with fail
      refine (unhide (CP _)).mono ?_
      rintro e wr ⟨rfl, rfl⟩
      have hmk := unhide HM
      clear ct
      obtain ⟨K, hKK⟩ : ∃ K, k + m = K := ⟨_, rfl⟩
      have n1 : (k : Int) + (m : Int) = (K : Int) := by omega
      have n2 : IntKind.i64.wrap ((k : Int) + (m : Int)) = (K : Int) := by rw [IntKind.wrap_i64]; omega
      have n3 : (K : Int) ≤ (s.size : Int) := by omega
      have n4 : (k : Int) ≤ (K : Int) := by omega
      have n5 : (0 : Int) ≤ (k : Int) := by omega
      have n6 : (0 : Int) ≤ (K : Int) := by omega
      obtain ⟨T, hT⟩ : ∃ T, s.extract k K = T := ⟨_, rfl⟩
      have hTs : T.size = m := by rw [← hT]; simp; omega
      have hTx : (txt s).take K = (txt s).take k ++ txt T := by rw [← hT, txt_extract, ← hKK]; exact take_split (txt s) k m
      have HT := hide (And.intro hTs hTx)
      clear hTs hTx
      have tokA : True := trivial
      go_wp2_with (first | (have _t := tokA; refine wpList_bytes_of rfl 9 25 5 (.tmp 39) rfl T rfl Tryd.underlying9 Tryd.underlying25 Tryd.underlying5 ?_; intro w1 c1 F1; clear tokA))
      have hb := unhide HB
      have f1 := unhide F1
      have hgr : w.heap.size < wr.heap.size := (Array.getElem?_eq_some_iff.1 (unhide HH)).1
      have B1 := hide ((unhide HBel).trans (f1.below.mono (unhide HBel).size))
      have C1 := write_any w.heap.size wr.heap.size (some ⟨wr.heap.size, 0, none⟩) c1 st bf (txt T) ks k w1 ((f1.below.block _ hgr).trans (unhide HH)) hb.1 hb.2.1 hb.2.2.1 hb.2.2.2 (txt_bounds T) (unhide HK).1 (((unhide B1).block 1 hK1).trans (unhide HK).2.2) (by omega) (by rw [txt_len]; exact f1.room) (fun _ => ⟨0, rfl, by omega, by rw [f1.size]; omega, fun j hj => by rw [Nat.zero_add]; exact f1.cells j (by rw [txt_len] at hj; exact hj)⟩) (by rw [txt_len, (unhide HT).1]; omega)
      rw [txt_len] at C1
      have hw64 : wrap64 ((k + T.size : Nat) : Int) = (K : Int) := by rw [(unhide HT).1, hKK]; exact wrap64_small K (by omega)
      rw [hw64] at C1
      have HC1 := hide C1
      clear hb f1 C1 hw64
      refine (unhide HC1).mono ?_
      rintro e w2 ⟨rfl, st2, bf2, q1, q2, q3, q4, q5, q6, q7⟩
      have HQ := hide (And.intro q1 (And.intro q2 (And.intro q4 (And.intro q5 (And.intro q6 q7)))))
      have B2 : Hid (Below w.heap.size w w2) := hide (q3.below (unhide B1) (Nat.le_refl _) (unhide B1).size)
      have HF2 : Hid (feed ks S0 ((txt s).take K) = (st2, bf2, K)) := hide (by rw [(unhide HT).2, feed_app, unhide HF, q1, (unhide HT).1, hKK])
      clear q1 q2 q3 q4 q5 q6 q7 HC1
      go_wp2_with fail
      have hq := unhide HQ
      rw [(unhide HT).1, hKK] at hq
      have hg2 : w.heap.size < w2.heap.size := (Array.getElem?_eq_some_iff.1 hq.2.1).1
      have CS : ∀ u, Below w2.heap.size w2 u → Hid (Calls Tryd.prog 14 #[.pointer (some ⟨w.heap.size, 0, none⟩)] u fun e w' => e = .returned (.agg ((digM ks ((txt s).take K)).map (Value.int .u8)).toArray) ∧ Below u.heap.size u w') := fun u hu => hide (by
        have h := hsum_any w.heap.size st2 bf2 ks K u ((hu.block _ hg2).trans hq.2.1) hq.2.2.1 hq.2.2.2.1 hq.2.2.2.2.1 hq.2.2.2.2.2 (unhide HK).1 ((hu.block 1 (by omega)).trans (((unhide B2).block 1 hK1).trans (unhide HK).2.2)) (by omega)
        have e : digM ks ((txt s).take K) = digS ks (st2, bf2, K) := by unfold digM; rw [unhide HF2]
        rw [e]; exact h)
      obtain ⟨U, hU⟩ : ∃ U, s.extract 0 K = U := ⟨_, rfl⟩
      have hUs : U.size = K := by rw [← hU]; simp; omega
      have hUx : txt U = (txt s).take K := by rw [← hU, txt_extract]; rfl
      have CM : ∀ (u u' : World) (cap : Nat), Below w2.heap.size w2 u → Fresh u u' U cap → ∀ u2, Below u'.heap.size u' u2 → Hid (Calls Tryd.prog 7 #[.slice (some ⟨u.heap.size, 0, none⟩) U.size cap] u2 fun e w' => e = .returned (.agg ((digM ks ((txt s).take K)).map (Value.int .u8)).toArray) ∧ Below u2.heap.size u2 w') := fun u u' cap hu hf u2 hu2 => hide (by
        have b1 : Below w.heap.size w u2 := (((unhide B2).trans (hu.mono (unhide B2).size)).trans (hf.below.mono (Nat.le_trans (unhide B2).size hu.size))).trans (hu2.mono (by have := hf.size; have := hu.size; omega))
        have h := sum_any u.heap.size (some ⟨u.heap.size, 0, none⟩) cap (txt U) ks u2 (txt_bounds U) (unhide HK).1 ((b1.block 0 (by omega)).trans (unhide HK).2.1) ((b1.block 1 hK1).trans (unhide HK).2.2) (by rw [txt_len]; exact hf.room) (by rw [txt_len, hUs]; omega) (fun _ => ⟨0, rfl, by have := hf.size; have := hu2.size; omega, fun j hj => by rw [Nat.zero_add, hu2.cell (by show u.heap.size < u'.heap.size; rw [hf.size]; omega)]; exact hf.cells j (by rw [txt_len] at hj; exact hj)⟩)
        rw [txt_len, hUx] at h; exact h)
      have hDl := digM_len ks ((txt s).take K)
      obtain ⟨D, HD⟩ : ∃ D, Hid (digM ks ((txt s).take K) = D) := ⟨_, rfl⟩
      rw [unhide HD] at CS CM hDl
      have HDL := hide hDl
      have HU := hide (And.intro hUs hUx)
      have n7 : (K : Int) ≤ (s.size : Int) := n3
      have HQ2 := hide hq
      clear hUs hUx hDl hq HQ
      refine wp_region_held_drew (S := fun w' => Below w2.heap.size w2 w') (by kernel_rfl) ((Below.refl _ _).drew) (fun hHeld => ?_)
      refine take_at 0 (v := .pointer (some ⟨w.heap.size, 0, none⟩)) (some 49) rfl rfl (by kernel_rfl) (by kernel_rfl) (by kernel_rfl) (fun _ _ _ h => h) (yields_move (.tmp 5) (Or.inl rfl) rfl rfl) hHeld ?_
      simp only [Act.put, List.setIfInBounds_toArray, List.set_cons_zero, List.set_cons_succ]
      refine take_at 2 (v := .string s) (some 51) rfl rfl (by kernel_rfl) (by kernel_rfl) (by kernel_rfl) (fun _ _ _ h => h) (yields_move (.tmp 0) (Or.inl rfl) rfl rfl) hHeld ?_
      simp only [Act.put, List.setIfInBounds_toArray, List.set_cons_zero, List.set_cons_succ]
      refine take_at 3 (v := .int .i64 K) (some 52) rfl rfl (by kernel_rfl) (by kernel_rfl) (by kernel_rfl) (fun _ _ _ h => h) (yields_move (.tmp 6) (Or.inl rfl) rfl rfl) hHeld ?_
      simp only [Act.put, List.setIfInBounds_toArray, List.set_cons_zero, List.set_cons_succ]
      refine take_at 4 (v := .string U) (some 53) rfl rfl (by kernel_rfl) (by kernel_rfl) (by kernel_rfl) (fun _ _ _ h => h) (Or.inl ⟨by rfl, fun u hu => by go_simp⟩) hHeld ?_
      simp only [Act.put, List.setIfInBounds_toArray, List.set_cons_zero, List.set_cons_succ]
      refine wpAnyH_ready (rs := [1, 5]) (by kernel_rfl) (by simp) ?_
      refine AllReadyH.cons rfl (fun KK hKK' => ?_) (AllReadyH.cons rfl (fun KK hKK' => ?_) AllReadyH.nil)
      · go_simp
        refine (unhide (CS _ hHeld)).mono ?_
        rintro e w3 ⟨rfl, b3⟩
        go_wp2_with fail
        refine hKK'.out _ _ (hHeld.trans (b3.mono hHeld.size)) (fun hH3 => ?_)
        clear hKK' KK
        try simp only [Act.put, List.setIfInBounds_toArray, List.set_cons_zero, List.set_cons_succ]
        refine wpAnyH_ready (rs := [5]) (by kernel_rfl) (by simp) ?_
        refine AllReadyH.cons rfl (fun KK hKK' => ?_) AllReadyH.nil
        refine step_bytes_of rfl (some 54) rfl 9 25 5 (.tmp 53) rfl U rfl Tryd.underlying9 Tryd.underlying25 Tryd.underlying5 ?_
        intro w4 c4 F4
        refine hKK'.out _ _ (hH3.trans ((unhide F4).below.mono hH3.size)) (fun hH4 => ?_)
        clear hKK' KK
        try simp only [Act.put, List.setIfInBounds_toArray, List.set_cons_zero, List.set_cons_succ]
        refine wpAnyH_ready (rs := [6]) (by kernel_rfl) (by simp) ?_
        refine AllReadyH.cons rfl (fun KK hKK' => ?_) AllReadyH.nil
        go_simp
        refine (unhide (CM w3 w4 c4 hH3 (unhide F4) _ (Below.refl _ _))).mono ?_
        rintro e w5 ⟨rfl, b5⟩
        go_wp2_with fail
        refine hKK'.out _ _ (hH4.trans (b5.mono hH4.size)) (fun hH5 => ?_)
        clear hKK' KK
        try simp only [Act.put, List.setIfInBounds_toArray, List.set_cons_zero, List.set_cons_succ]
        refine take_at 7 (some 56) rfl rfl (by kernel_rfl) (by kernel_rfl) (by kernel_rfl) (fun _ _ _ h => h) (yields_neq_arr rfl 23 23 (.tmp 50) (.tmp 55) rfl D D 32 5 rfl rfl guard32 Tryd.underlying23 Tryd.underlying5 s1b (unhide HDL) (unhide HDL)) hH5 ?_
        refine wpAnyH_done (by kernel_rfl) ?_ _
        simp only [Act.put, List.setIfInBounds_toArray, List.set_cons_zero, List.set_cons_succ, decide_true, Bool.not_true]
        have HE := hide hH5
        clear hHeld hH5 CS CM
        go_wp2_with fail
        go_roundw
        case rel =>
          have hq := unhide HQ2
          exact ⟨K, i + 1, st2, bf2, by omega, by omega, rfl, by go_num, HF2, hide (((unhide HE).block _ hg2).trans hq.2.1), hide ⟨hq.2.2.1, hq.2.2.2.1, hq.2.2.2.2.1, hq.2.2.2.2.2⟩, hide ((unhide B2).trans ((unhide HE).mono (unhide B2).size))⟩
        case measure => simp [intOf]; omega
      · refine step_bytes_of rfl (some 54) rfl 9 25 5 (.tmp 53) rfl U rfl Tryd.underlying9 Tryd.underlying25 Tryd.underlying5 ?_
        intro w3 c3 F3
        refine hKK'.out _ _ (hHeld.trans ((unhide F3).below.mono hHeld.size)) (fun hH3 => ?_)
        clear hKK' KK
        try simp only [Act.put, List.setIfInBounds_toArray, List.set_cons_zero, List.set_cons_succ]
        refine wpAnyH_ready (rs := [1]) (by kernel_rfl) (by simp) ?_
        refine AllReadyH.cons rfl (fun KK hKK' => ?_) AllReadyH.nil
        go_simp
        refine (unhide (CS _ hH3)).mono ?_
        rintro e w4 ⟨rfl, b4⟩
        go_wp2_with fail
        refine hKK'.out _ _ (hH3.trans (b4.mono hH3.size)) (fun hH4 => ?_)
        clear hKK' KK
        try simp only [Act.put, List.setIfInBounds_toArray, List.set_cons_zero, List.set_cons_succ]
        refine wpAnyH_ready (rs := [6]) (by kernel_rfl) (by simp) ?_
        refine AllReadyH.cons rfl (fun KK hKK' => ?_) AllReadyH.nil
        go_simp
        refine (unhide (CM _ w3 c3 hHeld (unhide F3) _ b4)).mono ?_
        rintro e w5 ⟨rfl, b5⟩
        go_wp2_with fail
        refine hKK'.out _ _ (hH4.trans (b5.mono hH4.size)) (fun hH5 => ?_)
        clear hKK' KK
        try simp only [Act.put, List.setIfInBounds_toArray, List.set_cons_zero, List.set_cons_succ]
        refine take_at 7 (some 56) rfl rfl (by kernel_rfl) (by kernel_rfl) (by kernel_rfl) (fun _ _ _ h => h) (yields_neq_arr rfl 23 23 (.tmp 50) (.tmp 55) rfl D D 32 5 rfl rfl guard32 Tryd.underlying23 Tryd.underlying5 s1b (unhide HDL) (unhide HDL)) hH5 ?_
        refine wpAnyH_done (by kernel_rfl) ?_ _
        simp only [Act.put, List.setIfInBounds_toArray, List.set_cons_zero, List.set_cons_succ, decide_true, Bool.not_true]
        have HE := hide hH5
        clear hHeld hH5 CS CM
        go_wp2_with fail
        go_roundw
        case rel =>
          have hq := unhide HQ2
          exact ⟨K, i + 1, st2, bf2, by omega, by omega, rfl, by go_num, HF2, hide (((unhide HE).block _ hg2).trans hq.2.1), hide ⟨hq.2.2.1, hq.2.2.2.1, hq.2.2.2.2.1, hq.2.2.2.2.2⟩, hide ((unhide B2).trans ((unhide HE).mono (unhide B2).size))⟩
        case measure => simp [intOf]; omega
    · by_cases hieq : i = len
      · have i1 : (i : Int) ≤ (len : Int) := by omega
        have i2 : ¬ (i : Int) < (len : Int) := by omega
        obtain ⟨m, hm⟩ : ∃ m, s.size - k = m := ⟨_, rfl⟩
        have r1 : (s.size : Int) - (k : Int) = (m : Int) := by omega
        have r2 : IntKind.i64.wrap ((s.size : Int) - (k : Int)) = (m : Int) := by rw [IntKind.wrap_i64]; omega
        have hmk : k + m ≤ s.size := by omega
        clear HC
        obtain ⟨K, hKK⟩ : ∃ K, k + m = K := ⟨_, rfl⟩
        have n1 : (k : Int) + (m : Int) = (K : Int) := by omega
        have n2 : IntKind.i64.wrap ((k : Int) + (m : Int)) = (K : Int) := by rw [IntKind.wrap_i64]; omega
        have n3 : (K : Int) ≤ (s.size : Int) := by omega
        have n4 : (k : Int) ≤ (K : Int) := by omega
        have n5 : (0 : Int) ≤ (k : Int) := by omega
        have n6 : (0 : Int) ≤ (K : Int) := by omega
        obtain ⟨T, hT⟩ : ∃ T, s.extract k K = T := ⟨_, rfl⟩
        have hTs : T.size = m := by rw [← hT]; simp; omega
        have hTx : (txt s).take K = (txt s).take k ++ txt T := by rw [← hT, txt_extract, ← hKK]; exact take_split (txt s) k m
        have HT := hide (And.intro hTs hTx)
        clear hTs hTx
        have tokA : True := trivial
        go_wp2_with (first | (have _t := tokA; refine wpList_bytes_of rfl 9 25 5 (.tmp 39) rfl T rfl Tryd.underlying9 Tryd.underlying25 Tryd.underlying5 ?_; intro w1 c1 F1; clear tokA))
        have hb := unhide HB
        have f1 := unhide F1
        have hgr : w.heap.size < wr.heap.size := (Array.getElem?_eq_some_iff.1 (unhide HH)).1
        have B1 := hide ((unhide HBel).trans (f1.below.mono (unhide HBel).size))
        have C1 := write_any w.heap.size wr.heap.size (some ⟨wr.heap.size, 0, none⟩) c1 st bf (txt T) ks k w1 ((f1.below.block _ hgr).trans (unhide HH)) hb.1 hb.2.1 hb.2.2.1 hb.2.2.2 (txt_bounds T) (unhide HK).1 (((unhide B1).block 1 hK1).trans (unhide HK).2.2) (by omega) (by rw [txt_len]; exact f1.room) (fun _ => ⟨0, rfl, by omega, by rw [f1.size]; omega, fun j hj => by rw [Nat.zero_add]; exact f1.cells j (by rw [txt_len] at hj; exact hj)⟩) (by rw [txt_len, (unhide HT).1]; omega)
        rw [txt_len] at C1
        have hw64 : wrap64 ((k + T.size : Nat) : Int) = (K : Int) := by rw [(unhide HT).1, hKK]; exact wrap64_small K (by omega)
        rw [hw64] at C1
        have HC1 := hide C1
        clear hb f1 C1 hw64
        refine (unhide HC1).mono ?_
        rintro e w2 ⟨rfl, st2, bf2, q1, q2, q3, q4, q5, q6, q7⟩
        have HQ := hide (And.intro q1 (And.intro q2 (And.intro q4 (And.intro q5 (And.intro q6 q7)))))
        have B2 : Hid (Below w.heap.size w w2) := hide (q3.below (unhide B1) (Nat.le_refl _) (unhide B1).size)
        have HF2 : Hid (feed ks S0 ((txt s).take K) = (st2, bf2, K)) := hide (by rw [(unhide HT).2, feed_app, unhide HF, q1, (unhide HT).1, hKK])
        clear q1 q2 q3 q4 q5 q6 q7 HC1
        go_wp2_with fail
        have hq := unhide HQ
        rw [(unhide HT).1, hKK] at hq
        have hg2 : w.heap.size < w2.heap.size := (Array.getElem?_eq_some_iff.1 hq.2.1).1
        have CS : ∀ u, Below w2.heap.size w2 u → Hid (Calls Tryd.prog 14 #[.pointer (some ⟨w.heap.size, 0, none⟩)] u fun e w' => e = .returned (.agg ((digM ks ((txt s).take K)).map (Value.int .u8)).toArray) ∧ Below u.heap.size u w') := fun u hu => hide (by
          have h := hsum_any w.heap.size st2 bf2 ks K u ((hu.block _ hg2).trans hq.2.1) hq.2.2.1 hq.2.2.2.1 hq.2.2.2.2.1 hq.2.2.2.2.2 (unhide HK).1 ((hu.block 1 (by omega)).trans (((unhide B2).block 1 hK1).trans (unhide HK).2.2)) (by omega)
          have e : digM ks ((txt s).take K) = digS ks (st2, bf2, K) := by unfold digM; rw [unhide HF2]
          rw [e]; exact h)
        obtain ⟨U, hU⟩ : ∃ U, s.extract 0 K = U := ⟨_, rfl⟩
        have hUs : U.size = K := by rw [← hU]; simp; omega
        have hUx : txt U = (txt s).take K := by rw [← hU, txt_extract]; rfl
        have CM : ∀ (u u' : World) (cap : Nat), Below w2.heap.size w2 u → Fresh u u' U cap → ∀ u2, Below u'.heap.size u' u2 → Hid (Calls Tryd.prog 7 #[.slice (some ⟨u.heap.size, 0, none⟩) U.size cap] u2 fun e w' => e = .returned (.agg ((digM ks ((txt s).take K)).map (Value.int .u8)).toArray) ∧ Below u2.heap.size u2 w') := fun u u' cap hu hf u2 hu2 => hide (by
          have b1 : Below w.heap.size w u2 := (((unhide B2).trans (hu.mono (unhide B2).size)).trans (hf.below.mono (Nat.le_trans (unhide B2).size hu.size))).trans (hu2.mono (by have := hf.size; have := hu.size; omega))
          have h := sum_any u.heap.size (some ⟨u.heap.size, 0, none⟩) cap (txt U) ks u2 (txt_bounds U) (unhide HK).1 ((b1.block 0 (by omega)).trans (unhide HK).2.1) ((b1.block 1 hK1).trans (unhide HK).2.2) (by rw [txt_len]; exact hf.room) (by rw [txt_len, hUs]; omega) (fun _ => ⟨0, rfl, by have := hf.size; have := hu2.size; omega, fun j hj => by rw [Nat.zero_add, hu2.cell (by show u.heap.size < u'.heap.size; rw [hf.size]; omega)]; exact hf.cells j (by rw [txt_len] at hj; exact hj)⟩)
          rw [txt_len, hUx] at h; exact h)
        have hDl := digM_len ks ((txt s).take K)
        obtain ⟨D, HD⟩ : ∃ D, Hid (digM ks ((txt s).take K) = D) := ⟨_, rfl⟩
        rw [unhide HD] at CS CM hDl
        have HDL := hide hDl
        have HU := hide (And.intro hUs hUx)
        have n7 : (K : Int) ≤ (s.size : Int) := n3
        have HQ2 := hide hq
        clear hUs hUx hDl hq HQ
        refine wp_region_held_drew (S := fun w' => Below w2.heap.size w2 w') (by kernel_rfl) ((Below.refl _ _).drew) (fun hHeld => ?_)
        refine take_at 0 (v := .pointer (some ⟨w.heap.size, 0, none⟩)) (some 49) rfl rfl (by kernel_rfl) (by kernel_rfl) (by kernel_rfl) (fun _ _ _ h => h) (yields_move (.tmp 5) (Or.inl rfl) rfl rfl) hHeld ?_
        simp only [Act.put, List.setIfInBounds_toArray, List.set_cons_zero, List.set_cons_succ]
        refine take_at 2 (v := .string s) (some 51) rfl rfl (by kernel_rfl) (by kernel_rfl) (by kernel_rfl) (fun _ _ _ h => h) (yields_move (.tmp 0) (Or.inl rfl) rfl rfl) hHeld ?_
        simp only [Act.put, List.setIfInBounds_toArray, List.set_cons_zero, List.set_cons_succ]
        refine take_at 3 (v := .int .i64 K) (some 52) rfl rfl (by kernel_rfl) (by kernel_rfl) (by kernel_rfl) (fun _ _ _ h => h) (yields_move (.tmp 6) (Or.inl rfl) rfl rfl) hHeld ?_
        simp only [Act.put, List.setIfInBounds_toArray, List.set_cons_zero, List.set_cons_succ]
        refine take_at 4 (v := .string U) (some 53) rfl rfl (by kernel_rfl) (by kernel_rfl) (by kernel_rfl) (fun _ _ _ h => h) (Or.inl ⟨by rfl, fun u hu => by go_simp⟩) hHeld ?_
        simp only [Act.put, List.setIfInBounds_toArray, List.set_cons_zero, List.set_cons_succ]
        refine wpAnyH_ready (rs := [1, 5]) (by kernel_rfl) (by simp) ?_
        refine AllReadyH.cons rfl (fun KK hKK' => ?_) (AllReadyH.cons rfl (fun KK hKK' => ?_) AllReadyH.nil)
        · go_simp
          refine (unhide (CS _ hHeld)).mono ?_
          rintro e w3 ⟨rfl, b3⟩
          go_wp2_with fail
          refine hKK'.out _ _ (hHeld.trans (b3.mono hHeld.size)) (fun hH3 => ?_)
          clear hKK' KK
          try simp only [Act.put, List.setIfInBounds_toArray, List.set_cons_zero, List.set_cons_succ]
          refine wpAnyH_ready (rs := [5]) (by kernel_rfl) (by simp) ?_
          refine AllReadyH.cons rfl (fun KK hKK' => ?_) AllReadyH.nil
          refine step_bytes_of rfl (some 54) rfl 9 25 5 (.tmp 53) rfl U rfl Tryd.underlying9 Tryd.underlying25 Tryd.underlying5 ?_
          intro w4 c4 F4
          refine hKK'.out _ _ (hH3.trans ((unhide F4).below.mono hH3.size)) (fun hH4 => ?_)
          clear hKK' KK
          try simp only [Act.put, List.setIfInBounds_toArray, List.set_cons_zero, List.set_cons_succ]
          refine wpAnyH_ready (rs := [6]) (by kernel_rfl) (by simp) ?_
          refine AllReadyH.cons rfl (fun KK hKK' => ?_) AllReadyH.nil
          go_simp
          refine (unhide (CM w3 w4 c4 hH3 (unhide F4) _ (Below.refl _ _))).mono ?_
          rintro e w5 ⟨rfl, b5⟩
          go_wp2_with fail
          refine hKK'.out _ _ (hH4.trans (b5.mono hH4.size)) (fun hH5 => ?_)
          clear hKK' KK
          try simp only [Act.put, List.setIfInBounds_toArray, List.set_cons_zero, List.set_cons_succ]
          refine take_at 7 (some 56) rfl rfl (by kernel_rfl) (by kernel_rfl) (by kernel_rfl) (fun _ _ _ h => h) (yields_neq_arr rfl 23 23 (.tmp 50) (.tmp 55) rfl D D 32 5 rfl rfl guard32 Tryd.underlying23 Tryd.underlying5 s1b (unhide HDL) (unhide HDL)) hH5 ?_
          refine wpAnyH_done (by kernel_rfl) ?_ _
          simp only [Act.put, List.setIfInBounds_toArray, List.set_cons_zero, List.set_cons_succ, decide_true, Bool.not_true]
          have HE := hide hH5
          clear hHeld hH5 CS CM
          go_wp2_with fail
          go_roundw
          case rel =>
            have hq := unhide HQ2
            exact ⟨K, i + 1, st2, bf2, by omega, by omega, rfl, by go_num, HF2, hide (((unhide HE).block _ hg2).trans hq.2.1), hide ⟨hq.2.2.1, hq.2.2.2.1, hq.2.2.2.2.1, hq.2.2.2.2.2⟩, hide ((unhide B2).trans ((unhide HE).mono (unhide B2).size))⟩
          case measure => simp [intOf]; omega
        · refine step_bytes_of rfl (some 54) rfl 9 25 5 (.tmp 53) rfl U rfl Tryd.underlying9 Tryd.underlying25 Tryd.underlying5 ?_
          intro w3 c3 F3
          refine hKK'.out _ _ (hHeld.trans ((unhide F3).below.mono hHeld.size)) (fun hH3 => ?_)
          clear hKK' KK
          try simp only [Act.put, List.setIfInBounds_toArray, List.set_cons_zero, List.set_cons_succ]
          refine wpAnyH_ready (rs := [1]) (by kernel_rfl) (by simp) ?_
          refine AllReadyH.cons rfl (fun KK hKK' => ?_) AllReadyH.nil
          go_simp
          refine (unhide (CS _ hH3)).mono ?_
          rintro e w4 ⟨rfl, b4⟩
          go_wp2_with fail
          refine hKK'.out _ _ (hH3.trans (b4.mono hH3.size)) (fun hH4 => ?_)
          clear hKK' KK
          try simp only [Act.put, List.setIfInBounds_toArray, List.set_cons_zero, List.set_cons_succ]
          refine wpAnyH_ready (rs := [6]) (by kernel_rfl) (by simp) ?_
          refine AllReadyH.cons rfl (fun KK hKK' => ?_) AllReadyH.nil
          go_simp
          refine (unhide (CM _ w3 c3 hHeld (unhide F3) _ b4)).mono ?_
          rintro e w5 ⟨rfl, b5⟩
          go_wp2_with fail
          refine hKK'.out _ _ (hH4.trans (b5.mono hH4.size)) (fun hH5 => ?_)
          clear hKK' KK
          try simp only [Act.put, List.setIfInBounds_toArray, List.set_cons_zero, List.set_cons_succ]
          refine take_at 7 (some 56) rfl rfl (by kernel_rfl) (by kernel_rfl) (by kernel_rfl) (fun _ _ _ h => h) (yields_neq_arr rfl 23 23 (.tmp 50) (.tmp 55) rfl D D 32 5 rfl rfl guard32 Tryd.underlying23 Tryd.underlying5 s1b (unhide HDL) (unhide HDL)) hH5 ?_
          refine wpAnyH_done (by kernel_rfl) ?_ _
          simp only [Act.put, List.setIfInBounds_toArray, List.set_cons_zero, List.set_cons_succ, decide_true, Bool.not_true]
          have HE := hide hH5
          clear hHeld hH5 CS CM
          go_wp2_with fail
          go_roundw
          case rel =>
            have hq := unhide HQ2
            exact ⟨K, i + 1, st2, bf2, by omega, by omega, rfl, by go_num, HF2, hide (((unhide HE).block _ hg2).trans hq.2.1), hide ⟨hq.2.2.1, hq.2.2.2.1, hq.2.2.2.2.1, hq.2.2.2.2.2⟩, hide ((unhide B2).trans ((unhide HE).mono (unhide B2).size))⟩
          case measure => simp [intOf]; omega
      · have i1 : ¬ (i : Int) ≤ (len : Int) := by omega
        go_wp2_with fail
        go_ret
        exact ⟨rfl, unhide HBel⟩
end Go.Proofs.YtbdieoknbpcbnaaDoor
