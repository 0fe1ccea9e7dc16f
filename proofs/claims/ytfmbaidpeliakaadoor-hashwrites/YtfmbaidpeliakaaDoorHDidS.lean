/-
  The walk of did, its Sum; conditions: the package's variables, lengths that an int holds.
-/
import Derived.Test.YtfmbaidpeliakaaDoorHDid
namespace Go.Proofs.YtfmbaidpeliakaaDoor
open Go.RowKit
set_option linter.unusedVariables false
set_option linter.unusedSimpArgs false

set_option maxRecDepth 100000 in
set_option maxHeartbeats 2000000 in
theorem did_sum {t0 tK : TypeId} (w wr : World) (lv : Value) (ls : List Bk) (c h : Int) (s : ByteArray) (hp : Pkg w t0 tK KS) (hB : Books w wr lv ls) (h1 : 1 ≤ ls.length) (h2 : ls.length ≤ 2000000) (hc : -9223372036854775808 ≤ c ∧ c ≤ 9223372036854775807) (hh : -9223372036854775808 ≤ h ∧ h ≤ 9223372036854775807) (hk : pickI c 4 = 2) (hlz : ∀ p ∈ ls, p.2.size ≤ 140737488351232) :
    Calls Tryd.prog 8 #[lv, .agg #[.int .i64 c, .int .i64 h, .string s]] wr fun e w' => ResDid w ls s e w' := by
  obtain ⟨b, cap, hlv, hb1, hb2, hcap, _, _, _⟩ := hB.at (by omega)
  obtain ⟨n, hn⟩ : ∃ n, ls.length = n := ⟨_, rfl⟩
  have BX := Box3.mk' wr (.int .i64 c) (.int .i64 h) (.string s)
  obtain ⟨w1, hw1⟩ : ∃ w1, wr.alloc (.cells #[.int .i64 c, .int .i64 h, .string s] 35) = w1 := ⟨_, rfl⟩
  rw [hw1] at BX
  obtain ⟨gB, hgB⟩ : ∃ g, wr.heap.size = g := ⟨_, rfl⟩
  obtain ⟨c0, c1, c2⟩ := row_cell3 (by have := BX.row; rw [hgB] at this; exact this)
  have C1 := hide (pick_any h (n : Int) w1 hh.1 hh.2 (by omega) (by omega))
  have C2 := hide (pick_any c 4 w1 hc.1 hc.2 (by omega) (by omega))
  rw [hk] at C2
  obtain ⟨k, hK, hkn⟩ : ∃ k : Nat, pickI h (n : Int) = (k : Int) ∧ k < n := by
    have := pick_range h (n : Int) (by omega)
    exact ⟨(pickI h (n : Int)).toNat, by omega, by omega⟩
  rw [hK] at C1
  have H1 := hide (hB.later BX.below)
  obtain ⟨⟨g, T⟩, hpk⟩ : ∃ p, ls[k]? = some p := ⟨_, List.getElem?_eq_getElem (by omega)⟩
  have hTs := hlz _ (List.mem_of_getElem? hpk)
  dsimp only at hTs
  have HN := hide (And.intro hn (And.intro h1 (And.intro h2 hpk)))
  have i1 : (k : Int) < (n : Int) := by omega
  have i2 : (0 : Int) ≤ (k : Int) := by omega
  have HP := hide hp
  rw [hn] at hlv hcap
  subst hlv
  obtain ⟨_, _, e3, _, _, _, _, _, hcl⟩ := (unhide H1).at (by omega)
  rw [hn] at e3
  cases e3
  obtain ⟨d0, d1⟩ := hcl k _ hpk
  dsimp only at d0 d1
  have hgb := (unhide H1).has k _ hpk
  dsimp only at hgb
  have hbw : b < w1.heap.size := World.block_lt_of_cell? _ _ (by rw [d1])
  have CD0 : Hid (∀ u, Below w1.heap.size w1 u → u.cell? ⟨b, k * 2, none⟩ = some (.pointer (some ⟨g, 0, none⟩)) ∧ u.cell? ⟨b, k * 2 + 1, none⟩ = some (.string T)) := hide (fun u hu => ⟨(hu.cell (p := ⟨b, k * 2, none⟩) hbw).trans d0, (hu.cell (p := ⟨b, k * 2 + 1, none⟩) hbw).trans d1⟩)
  obtain ⟨D, HD⟩ : ∃ D, Hid (digM KS (txt T) = D) := ⟨_, rfl⟩
  have LD : Hid (D.length = 32) := hide (by rw [← unhide HD]; exact digM_len _ _)
  have CS : ∀ u, Below w1.heap.size w1 u → Hid (Calls Tryd.prog 6 #[.pointer (some ⟨g, 0, none⟩)] u fun e w'' => e = .returned (.agg (D.map (Value.int .u8)).toArray) ∧ Below u.heap.size u w'') := fun u hu => hide (by
    have k := sum_has u (hgb.1.below hu) (((unhide HP).later (unhide H1).below (unhide HP).lt).later hu (by have := (unhide H1).below.size; have := (unhide HP).lt; omega)) (by rw [txt_len]; omega)
    rw [unhide HD] at k
    exact k)
  have CR : ∀ u w' cap, Hid (Fresh u w' T cap) → Hid (Calls Tryd.prog 7 #[.slice (some ⟨u.heap.size, 0, none⟩) T.size cap] w' fun e w'' => e = .returned (.agg (D.map (Value.int .u8)).toArray) ∧ Below w'.heap.size w' w'') := fun u w' cap F => hide (by
    have k := ref_has u w' w' (unhide F) (Below.refl _ _) hTs
    rw [unhide HD] at k
    exact k)
  have CR2 : ∀ u w' cap, Hid (Fresh u w' T cap) → ∀ v, Below w'.heap.size w' v → Hid (Calls Tryd.prog 7 #[.slice (some ⟨u.heap.size, 0, none⟩) T.size cap] v fun e w'' => e = .returned (.agg (D.map (Value.int .u8)).toArray) ∧ Below v.heap.size v w'') := fun u w' cap F v hv => hide (by
    have k := ref_has u w' v (unhide F) hv hTs
    rw [unhide HD] at k
    exact k)
  clear hB BX h1 h2 hn hlz hcl d0 d1 hp hpk
  go_enter Tryd.func8, Tryd.ntmps8
  go_wp2_with fail
  refine (unhide C1).mono ?_
  rintro e u ⟨rfl, rfl⟩
  go_wp2_with fail
  refine (unhide C2).mono ?_
  rintro e u ⟨rfl, rfl⟩
  clear c0 c1 c2 C1 C2
  go_upto_region 13 with fail
  refine wp_region_held_drew (S := fun w' => Below u.heap.size u w') (by kernel_rfl) ((Below.refl _ _).drew) (fun hH => ?_)
  refine take_at 0 (v := .slice (some ⟨b, 0, none⟩) n cap) (some 74) rfl rfl (by kernel_rfl) (by kernel_rfl) (by kernel_rfl) (fun _ _ _ h => h) (yields_moveG (.tmp 0) (Or.inl rfl) rfl rfl) hH ?_
  simp only [Act.put, List.setIfInBounds_toArray, List.set_cons_zero, List.set_cons_succ]
  refine take_at 1 (v := .slice (some ⟨b, 0, none⟩) n cap) (some 75) rfl rfl (by kernel_rfl) (by kernel_rfl) (by kernel_rfl) (fun _ _ _ h => h) (yields_moveG (.tmp 0) (Or.inl rfl) rfl rfl) hH ?_
  simp only [Act.put, List.setIfInBounds_toArray, List.set_cons_zero, List.set_cons_succ]
  refine take_at 2 (v := .int .i64 (k : Int)) (some 76) rfl rfl (by kernel_rfl) (by kernel_rfl) (by kernel_rfl) (fun _ _ _ h => h) (yields_moveG (.tmp 6) (Or.inl rfl) rfl rfl) hH ?_
  simp only [Act.put, List.setIfInBounds_toArray, List.set_cons_zero, List.set_cons_succ]
  refine take_at 3 (v := .pointer (some ⟨b, k * 2, none⟩)) (some 77) rfl rfl (by kernel_rfl) (by kernel_rfl) (by kernel_rfl) (fun _ _ _ h => h) (Or.inl ⟨by rfl, fun u hu => by go_simp⟩) hH ?_
  simp only [Act.put, List.setIfInBounds_toArray, List.set_cons_zero, List.set_cons_succ]
  refine take_at 4 (v := .pointer (some ⟨b, k * 2, none⟩)) (some 78) rfl rfl (by kernel_rfl) (by kernel_rfl) (by kernel_rfl) (fun _ _ _ h => h) (Or.inl ⟨by rfl, fun u hu => by go_simp⟩) hH ?_
  simp only [Act.put, List.setIfInBounds_toArray, List.set_cons_zero, List.set_cons_succ]
  refine take_at 5 (v := .pointer (some ⟨g, 0, none⟩)) (some 79) rfl rfl (by kernel_rfl) (by kernel_rfl) (by kernel_rfl) (fun _ _ _ h => h) (Or.inl ⟨by rfl, fun u hu => by have cu := (unhide CD0 u hu).1; go_simp⟩) hH ?_
  simp only [Act.put, List.setIfInBounds_toArray, List.set_cons_zero, List.set_cons_succ]
  refine take_at 7 (v := .slice (some ⟨b, 0, none⟩) n cap) (some 81) rfl rfl (by kernel_rfl) (by kernel_rfl) (by kernel_rfl) (fun _ _ _ h => h) (yields_moveG (.tmp 0) (Or.inl rfl) rfl rfl) hH ?_
  simp only [Act.put, List.setIfInBounds_toArray, List.set_cons_zero, List.set_cons_succ]
  refine take_at 8 (v := .int .i64 (k : Int)) (some 82) rfl rfl (by kernel_rfl) (by kernel_rfl) (by kernel_rfl) (fun _ _ _ h => h) (yields_moveG (.tmp 6) (Or.inl rfl) rfl rfl) hH ?_
  simp only [Act.put, List.setIfInBounds_toArray, List.set_cons_zero, List.set_cons_succ]
  refine take_at 9 (v := .pointer (some ⟨b, k * 2, none⟩)) (some 83) rfl rfl (by kernel_rfl) (by kernel_rfl) (by kernel_rfl) (fun _ _ _ h => h) (Or.inl ⟨by rfl, fun u hu => by go_simp⟩) hH ?_
  simp only [Act.put, List.setIfInBounds_toArray, List.set_cons_zero, List.set_cons_succ]
  refine take_at 10 (v := .pointer (some ⟨b, k * 2 + 1, none⟩)) (some 84) rfl rfl (by kernel_rfl) (by kernel_rfl) (by kernel_rfl) (fun _ _ _ h => h) (Or.inl ⟨by rfl, fun u hu => by go_simp⟩) hH ?_
  simp only [Act.put, List.setIfInBounds_toArray, List.set_cons_zero, List.set_cons_succ]
  refine take_at 11 (v := .string T) (some 85) rfl rfl (by kernel_rfl) (by kernel_rfl) (by kernel_rfl) (fun _ _ _ h => h) (Or.inl ⟨by rfl, fun u hu => by have cu := (unhide CD0 u hu).2; go_simp⟩) hH ?_
  simp only [Act.put, List.setIfInBounds_toArray, List.set_cons_zero, List.set_cons_succ]
  refine wpAnyH_ready (rs := [6, 12]) (by kernel_rfl) (by simp) ?_
  refine AllReadyH.cons rfl (fun KK hKK => ?_) (AllReadyH.cons rfl (fun KK hKK => ?_) AllReadyH.nil)
  · go_simp
    refine (unhide (CS _ hH)).mono ?_
    rintro e y1 ⟨rfl, b1⟩
    go_wp2_with fail
    refine hKK.out _ _ (hH.trans (b1.mono hH.size)) (fun hH1 => ?_)
    clear hKK KK
    try simp only [Act.put, List.setIfInBounds_toArray, List.set_cons_zero, List.set_cons_succ]
    refine wpAnyH_ready (rs := [12]) (by kernel_rfl) (by simp) ?_
    refine AllReadyH.cons rfl (fun KK hKK => ?_) AllReadyH.nil
    refine step_bytes_of rfl (some 86) rfl 9 36 5 (.tmp 85) rfl T rfl Tryd.underlying9 Tryd.underlying36 Tryd.underlying5 ?_
    intro y2 c2 F1
    refine hKK.out _ _ (hH1.trans ((unhide F1).below.mono hH1.size)) (fun hH2 => ?_)
    clear hKK KK
    try simp only [Act.put, List.setIfInBounds_toArray, List.set_cons_zero, List.set_cons_succ]
    refine wpAnyH_ready (rs := [13]) (by kernel_rfl) (by simp) ?_
    refine AllReadyH.cons rfl (fun KK hKK => ?_) AllReadyH.nil
    go_simp
    refine (unhide (CR _ _ _ F1)).mono ?_
    rintro e y3 ⟨rfl, b3⟩
    go_wp2_with fail
    refine hKK.out _ _ (hH2.trans (b3.mono hH2.size)) (fun hH3 => ?_)
    clear hKK KK
    try simp only [Act.put, List.setIfInBounds_toArray, List.set_cons_zero, List.set_cons_succ]
    refine take_at 14 (v := .bool true) (some 88) rfl rfl (by kernel_rfl) (by kernel_rfl) (by kernel_rfl) (fun _ _ _ h => h) (yields_same_arr rfl 26 26 (.tmp 80) (.tmp 87) rfl D 32 5 rfl rfl guard32 Tryd.underlying26 Tryd.underlying5 s1b (unhide LD)) hH3 ?_
    simp only [Act.put, List.setIfInBounds_toArray, List.set_cons_zero, List.set_cons_succ]
    refine take_at 15 (v := .slice (some ⟨b, 0, none⟩) n cap) (some 4) rfl rfl (by kernel_rfl) (by kernel_rfl) (by kernel_rfl) (fun _ _ _ h => h) (yields_moveG (.tmp 74) (Or.inr rfl) rfl rfl) hH3 ?_
    simp only [Act.put, List.setIfInBounds_toArray, List.set_cons_zero, List.set_cons_succ]
    refine take_at 16 (v := .bool true) (some 5) rfl rfl (by kernel_rfl) (by kernel_rfl) (by kernel_rfl) (fun _ _ _ h => h) (yields_moveG (.tmp 88) (Or.inr rfl) rfl rfl) hH3 ?_
    simp only [Act.put, List.setIfInBounds_toArray, List.set_cons_zero, List.set_cons_succ]
    refine wpAnyH_done (by kernel_rfl) ?_ _
    have HE := hide hH3
    clear hH hH1 hH2 hH3
    try simp only [Act.put]
    go_wp2_with fail
    go_ret2
    refine ⟨_, ls, rfl, (unhide H1).later (unhide HE), Nat.le_refl _, by omega, fun M hM p hp => ?_⟩
    have := hM p hp
    omega
  · refine step_bytes_of rfl (some 86) rfl 9 36 5 (.tmp 85) rfl T rfl Tryd.underlying9 Tryd.underlying36 Tryd.underlying5 ?_
    intro y1 c1 F1
    refine hKK.out _ _ (hH.trans ((unhide F1).below.mono hH.size)) (fun hH1 => ?_)
    clear hKK KK
    try simp only [Act.put, List.setIfInBounds_toArray, List.set_cons_zero, List.set_cons_succ]
    refine wpAnyH_ready (rs := [6]) (by kernel_rfl) (by simp) ?_
    refine AllReadyH.cons rfl (fun KK hKK => ?_) AllReadyH.nil
    go_simp
    refine (unhide (CS _ hH1)).mono ?_
    rintro e y2 ⟨rfl, b2⟩
    go_wp2_with fail
    refine hKK.out _ _ (hH1.trans (b2.mono hH1.size)) (fun hH2 => ?_)
    clear hKK KK
    try simp only [Act.put, List.setIfInBounds_toArray, List.set_cons_zero, List.set_cons_succ]
    refine wpAnyH_ready (rs := [13]) (by kernel_rfl) (by simp) ?_
    refine AllReadyH.cons rfl (fun KK hKK => ?_) AllReadyH.nil
    go_simp
    refine (unhide (CR2 _ _ _ F1 _ b2)).mono ?_
    rintro e y3 ⟨rfl, b3⟩
    go_wp2_with fail
    refine hKK.out _ _ (hH2.trans (b3.mono hH2.size)) (fun hH3 => ?_)
    clear hKK KK
    try simp only [Act.put, List.setIfInBounds_toArray, List.set_cons_zero, List.set_cons_succ]
    refine take_at 14 (v := .bool true) (some 88) rfl rfl (by kernel_rfl) (by kernel_rfl) (by kernel_rfl) (fun _ _ _ h => h) (yields_same_arr rfl 26 26 (.tmp 80) (.tmp 87) rfl D 32 5 rfl rfl guard32 Tryd.underlying26 Tryd.underlying5 s1b (unhide LD)) hH3 ?_
    simp only [Act.put, List.setIfInBounds_toArray, List.set_cons_zero, List.set_cons_succ]
    refine take_at 15 (v := .slice (some ⟨b, 0, none⟩) n cap) (some 4) rfl rfl (by kernel_rfl) (by kernel_rfl) (by kernel_rfl) (fun _ _ _ h => h) (yields_moveG (.tmp 74) (Or.inr rfl) rfl rfl) hH3 ?_
    simp only [Act.put, List.setIfInBounds_toArray, List.set_cons_zero, List.set_cons_succ]
    refine take_at 16 (v := .bool true) (some 5) rfl rfl (by kernel_rfl) (by kernel_rfl) (by kernel_rfl) (fun _ _ _ h => h) (yields_moveG (.tmp 88) (Or.inr rfl) rfl rfl) hH3 ?_
    simp only [Act.put, List.setIfInBounds_toArray, List.set_cons_zero, List.set_cons_succ]
    refine wpAnyH_done (by kernel_rfl) ?_ _
    have HE := hide hH3
    clear hH hH1 hH2 hH3
    try simp only [Act.put]
    go_wp2_with fail
    go_ret2
    refine ⟨_, ls, rfl, (unhide H1).later (unhide HE), Nat.le_refl _, by omega, fun M hM p hp => ?_⟩
    have := hM p hp
    omega
end Go.Proofs.YtfmbaidpeliakaaDoor
