/-
  The walk of the document's Without; conditions: the form's own reach.
-/
import Derived.Test.YtcopkhmmpamboaaB46
import Derived.Test.YtcopkhmmpamboaaB24
import Derived.Test.YtcopkhmmpamboaaB27
import Derived.Deep.QuietTactic
import Derived.BigQuiet
namespace Go.Proofs.Ytcopkhmmpamboaa
open Go.RowKit
set_option linter.unusedVariables false
set_option linter.unusedSimpArgs false

set_option maxRecDepth 100000 in
set_option maxHeartbeats 2000000 in
theorem withoutD_any (v : Vl) (vv : Value) (B : Nat) (key : ByteArray) (w : World) (hv : IsV w B v vv) (hBs : B ≤ w.heap.size) :
    Calls Try.prog 18 #[vv, .string key] w fun e w' => ∃ x', e = .returned (.tuple #[x', .int .i64 (withoutC v key)]) ∧ Below w.heap.size w w' ∧ (∀ I, withoutC v key = 0 → placeK v.ks key = some I → IsV w' w'.heap.size (.mk 5 0 ⟨#[]⟩ (v.l.eraseIdx I) (v.ks.eraseIdx I)) x') ∧ (withoutC v key ≠ 0 → x' = .agg #[.int .i64 0, .int .i64 0, .string ⟨#[]⟩, .slice none 0 0, .slice none 0 0]) := by
  obtain ⟨k, n, s, l, ks, al, ak, cl, ck, rfl, rfl⟩ := hv.shape
  obtain ⟨m, hm⟩ : ∃ m, ks.length = m := ⟨_, rfl⟩
  obtain ⟨ln, hln⟩ : ∃ ln, l.length = ln := ⟨_, rfl⟩
  rw [hm, hln] at hv
  rw [hm, hln]
  obtain ⟨g, hg⟩ : ∃ g, w.heap.size = g := ⟨_, rfl⟩
  have TW := Two.mk' w 27 #[.int .i64 k, .int .i64 n, .string s, .slice al ln cl, .slice ak m ck] #[.int .i64 0, .int .i64 0, .string ⟨#[]⟩, .slice none 0 0, .slice none 0 0]
  obtain ⟨w2, hw2⟩ : ∃ w2, (w.alloc (.cells #[.int .i64 k, .int .i64 n, .string s, .slice al ln cl, .slice ak m ck] 27)).alloc (.cells #[.int .i64 0, .int .i64 0, .string ⟨#[]⟩, .slice none 0 0, .slice none 0 0] 27) = w2 := ⟨_, rfl⟩
  rw [hw2, hg] at TW
  have hz : Wy w w2 g #[.int .i64 k, .int .i64 n, .string s, .slice al ln cl, .slice ak m ck] #[.int .i64 0, .int .i64 0, .string ⟨#[]⟩, .slice none 0 0, .slice none 0 0] := by
    have h1 := TW.later (Below.refl _ _)
    have h2 := TW.size
    have h3 := TW.below
    rw [hg] at h3
    exact ⟨h1.1, h1.2, by omega, h3⟩
  have HVV : Hid (∀ u, Below g w u → IsV u B (.mk k n s l ks) (.agg #[.int .i64 k, .int .i64 n, .string s, .slice al ln cl, .slice ak m ck]) ∧ B ≤ u.heap.size) := hide (fun u hu => ⟨hv.mono (hu.mono (by omega)), by have := hu.size; omega⟩)
  have CR := hide (right_ref (.mk k n s l ks) _ B w2 (unhide HVV w2 hz.below).1 (unhide HVV w2 hz.below).2)
  have HZ := hide hz
  obtain ⟨c0, c1, c2, c3, c4⟩ := row_cell hz.at0
  have HLN := hide (And.intro hm hln)
  clear hz hv hln hm TW
  cases hR : rightB (.mk k n s l ks) with
  | false =>
    have HC : Hid (withoutC (.mk k n s l ks) key = 30) := hide (by unfold withoutC; rw [if_neg (by rw [hR]; simp)])
    rw [hR] at CR
    clear hR
    go_enter Try.func18, Try.ntmps18
    go_wp2_with fail
    refine (unhide CR).mono ?_
    rintro e u3 ⟨rfl, b3⟩
    have HZ3 := hide ((unhide HZ).later b3)
    clear b3 CR c0 c1 c2 c3 c4 hw2
    obtain ⟨c0, c1, c2, c3, c4⟩ := row_cell (unhide HZ3).at0
    have ATX : u3.heap[g + 1]? = some (.cells #[.int .i64 0, .int .i64 0, .string ⟨#[]⟩, .slice none 0 0, .slice none 0 0] 27 (0, 0)) := (unhide HZ3).at1
    obtain ⟨z0, z1, z2, z3, z4⟩ := row_cell ATX
    have fz : ∀ q, u3.frozen? ⟨g + 1, q, none⟩ = false := fun q => frozen_of_row u3 (g + 1) q _ _ ATX
    have fz0 := fz 0
    have fz1 := fz 1
    have fz2 := fz 2
    have fz3 := fz 3
    have fz4 := fz 4
    have HAT := hide ATX
    clear fz ATX
    go_wp2_with fail
    have ATX := unhide HAT
    have BW : Below g w u3 := (unhide HZ3).below
    have R9 := five_set u3 (g + 1) 27 _ _ _ _ _ (.int .i64 0) (.int .i64 0) (.string ⟨#[]⟩) (.slice none 0 0) (.slice none 0 0) ATX
    have B9 := five_below (g := g + 1) BW (by omega) (.int .i64 0) (.int .i64 0) (.string ⟨#[]⟩) (.slice none 0 0) (.slice none 0 0)
    obtain ⟨w9, hw9⟩ : ∃ w9, (((((u3.setCell ⟨g + 1, 0, none⟩ (.int .i64 0)).setCell ⟨g + 1, 1, none⟩ (.int .i64 0)).setCell ⟨g + 1, 2, none⟩ (.string ⟨#[]⟩)).setCell ⟨g + 1, 3, none⟩ (.slice none 0 0)).setCell ⟨g + 1, 4, none⟩ (.slice none 0 0)) = w9 := ⟨_, rfl⟩
    rw [hw9] at R9 B9 ⊢
    obtain ⟨r0, r1, r2, r3, r4⟩ := row_cell R9
    refine bodyPost_ret (v := .tuple #[.agg #[.int .i64 0, .int .i64 0, .string ⟨#[]⟩, .slice none 0 0, .slice none 0 0], .int .i64 30]) (by simp [results, Try.results18, go_sem, r0, r1, r2, r3, r4]) rfl ?_
    rw [hg, unhide HC]
    exact ⟨_, rfl, B9, (fun I h => by cases h), fun _ => rfl⟩
  | true =>
    by_cases h5 : k = 5
    · subst h5
      cases hp : placeK ks key with
      | none =>
        have HC : Hid (withoutC (.mk 5 n s l ks) key = 32) := hide (by unfold withoutC; rw [if_pos hR, if_pos rfl, if_pos hp])
        have HPI : Hid (placeI ks key = -1) := hide (by unfold placeI; rw [hp])
        rw [hR] at CR
        clear hR hp
        go_enter Try.func18, Try.ntmps18
        go_wp2_with fail
        refine (unhide CR).mono ?_
        rintro e u3 ⟨rfl, b3⟩
        have HZ3 := hide ((unhide HZ).later b3)
        clear b3 CR c0 c1 c2 c3 c4 hw2
        obtain ⟨c0, c1, c2, c3, c4⟩ := row_cell (unhide HZ3).at0
        have CB := place_any (.mk 5 n s l ks) _ B key u3 (unhide HVV u3 (unhide HZ3).below).1 (unhide HVV u3 (unhide HZ3).below).2
        rw [show (Vl.mk 5 n s l ks).ks = ks from rfl, unhide HPI] at CB
        have CB := hide CB
        go_wp2_with fail
        refine (unhide CB).mono ?_
        rintro e u4 ⟨rfl, b4⟩
        have HZ4 := hide ((unhide HZ3).later b4)
        clear b4 CB c0 c1 c2 c3 c4
        have ATX : u4.heap[g + 1]? = some (.cells #[.int .i64 0, .int .i64 0, .string ⟨#[]⟩, .slice none 0 0, .slice none 0 0] 27 (0, 0)) := (unhide HZ4).at1
        obtain ⟨z0, z1, z2, z3, z4⟩ := row_cell ATX
        have fz : ∀ q, u4.frozen? ⟨g + 1, q, none⟩ = false := fun q => frozen_of_row u4 (g + 1) q _ _ ATX
        have fz0 := fz 0
        have fz1 := fz 1
        have fz2 := fz 2
        have fz3 := fz 3
        have fz4 := fz 4
        have HAT := hide ATX
        clear fz ATX
        go_wp2_with fail
        have ATX := unhide HAT
        have BW : Below g w u4 := (unhide HZ4).below
        have R9 := five_set u4 (g + 1) 27 _ _ _ _ _ (.int .i64 0) (.int .i64 0) (.string ⟨#[]⟩) (.slice none 0 0) (.slice none 0 0) ATX
        have B9 := five_below (g := g + 1) BW (by omega) (.int .i64 0) (.int .i64 0) (.string ⟨#[]⟩) (.slice none 0 0) (.slice none 0 0)
        obtain ⟨w9, hw9⟩ : ∃ w9, (((((u4.setCell ⟨g + 1, 0, none⟩ (.int .i64 0)).setCell ⟨g + 1, 1, none⟩ (.int .i64 0)).setCell ⟨g + 1, 2, none⟩ (.string ⟨#[]⟩)).setCell ⟨g + 1, 3, none⟩ (.slice none 0 0)).setCell ⟨g + 1, 4, none⟩ (.slice none 0 0)) = w9 := ⟨_, rfl⟩
        rw [hw9] at R9 B9 ⊢
        obtain ⟨r0, r1, r2, r3, r4⟩ := row_cell R9
        refine bodyPost_ret (v := .tuple #[.agg #[.int .i64 0, .int .i64 0, .string ⟨#[]⟩, .slice none 0 0, .slice none 0 0], .int .i64 32]) (by simp [results, Try.results18, go_sem, r0, r1, r2, r3, r4]) rfl ?_
        rw [hg, unhide HC]
        exact ⟨_, rfl, B9, (fun I h => by cases h), fun _ => rfl⟩
      | some I =>
        have HC : Hid (withoutC (.mk 5 n s l ks) key = 0) := hide (by unfold withoutC; rw [if_pos hR, if_pos rfl, if_neg (by rw [hp]; simp)])
        have HPI : Hid (placeI ks key = (I : Int)) := hide (by unfold placeI; rw [hp])
        have HPK := hide hp
        have hIm : I < m := by
          unfold placeK at hp
          have h2 := (List.findIdx?_eq_some_iff_getElem.1 hp).1
          have h3 := (unhide HLN).1
          omega
        have HLL : Hid (ks.length = l.length ∧ cntL l ≤ 5000 ∧ ln = m) := hide (by
          have h := few_right hR
          unfold fewB at h
          have h1 := of_decide_eq_true h
          simp only [cnt] at h1
          have h3 := (right_keys hR).2
          have h4 := (unhide HLN).1
          have h5 := (unhide HLN).2
          exact ⟨h3, by omega, by omega⟩)
        have hmb : m ≤ 5000 := by
          have h2 := len_cntL l
          have h3 := unhide HLL
          have h4 := (unhide HLN).1
          omega
        have hln0 : ¬ (I : Int) < 0 := by omega
        obtain ⟨l', hl'⟩ : ∃ l', l.eraseIdx I = l' := ⟨_, rfl⟩
        obtain ⟨ks', hks'⟩ : ∃ ks', ks.eraseIdx I = ks' := ⟨_, rfl⟩
        have HE : Hid (l.eraseIdx I = l' ∧ ks.eraseIdx I = ks') := hide ⟨hl', hks'⟩
        rw [hR] at CR
        clear hR hp hl' hks'
        go_enter Try.func18, Try.ntmps18
        go_wp2_with fail
        refine (unhide CR).mono ?_
        rintro e u3 ⟨rfl, b3⟩
        have HZ3 := hide ((unhide HZ).later b3)
        clear b3 CR c0 c1 c2 c3 c4 hw2
        obtain ⟨c0, c1, c2, c3, c4⟩ := row_cell (unhide HZ3).at0
        have CB := place_any (.mk 5 n s l ks) _ B key u3 (unhide HVV u3 (unhide HZ3).below).1 (unhide HVV u3 (unhide HZ3).below).2
        rw [show (Vl.mk 5 n s l ks).ks = ks from rfl, unhide HPI] at CB
        have CB := hide CB
        go_wp2_with fail
        refine (unhide CB).mono ?_
        rintro e u4 ⟨rfl, b4⟩
        have HZ4 := hide ((unhide HZ3).later b4)
        clear b4 CB c0 c1 c2 c3 c4
        obtain ⟨gb, hgb⟩ : ∃ gb, u4.heap.size = gb := ⟨_, rfl⟩
        go_upto_region 10 with fail
        obtain ⟨u5, hu5⟩ : ∃ u5, u4.alloc (.cells #[.int .i64 5, .int .i64 0, .string ⟨#[]⟩, .slice none 0 0, .slice none 0 0] 27) = u5 := ⟨_, rfl⟩
        have HC0 : Hid (Cp w u5 g gb #[.int .i64 5, .int .i64 n, .string s, .slice al ln cl, .slice ak m ck] #[.int .i64 0, .int .i64 0, .string ⟨#[]⟩, .slice none 0 0, .slice none 0 0]) := hide (by
          have h1 := (unhide HZ4).later (u1 := u5) (by rw [← hu5]; exact (Below.refl _ _).alloc (Nat.le_refl _) _)
          exact ⟨h1.at0, h1.at1, by have := (unhide HZ4).size; omega, by rw [← hu5]; simp; omega, h1.below⟩)
        have HM0 : Hid (Mid u5 (gb + 1) gb 5 0 ⟨#[]⟩ l' ks' (.slice none 0 0) (.slice none 0 0) 0 0 (fun _ => [])) := hide (by
          have h1 := heap_alloc_new u4 (.cells #[.int .i64 5, .int .i64 0, .string ⟨#[]⟩, .slice none 0 0, .slice none 0 0] 27)
          rw [hu5, hgb] at h1
          exact ⟨h1, by omega, by rw [← hu5]; simp; omega, World.ownsRow_nil _ _ _ _, World.ownsRow_nil _ _ _ _, Or.inl rfl, fun c h => by omega, fun c y h => by omega⟩)
        try rw [hu5]
        try rw [hgb]
        clear hu5 hgb HZ4 HZ3 HZ
        go_wp2_with fail
        go_loopw [9] (fun y wr => ∃ (k c : Nat) (Lv Kv : Value) (V : Nat → List Value), k ≤ m ∧ y = .int .i64 k ∧ Hid (c = if k ≤ I then k else k - 1) ∧ Hid (Cp w wr g gb #[.int .i64 5, .int .i64 n, .string s, .slice al ln cl, .slice ak m ck] #[.int .i64 0, .int .i64 0, .string ⟨#[]⟩, .slice none 0 0, .slice none 0 0]) ∧ Hid (Mid wr (gb + 1) gb 5 0 ⟨#[]⟩ l' ks' Lv Kv c c V)) (fun y _ => m - (intOf y).toNat)
        case atStart => exact ⟨0, 0, _, _, _, Nat.zero_le _, rfl, hide (by simp), HC0, HM0⟩
        case round =>
          clear HC0 HM0
          obtain ⟨q, c, Lv, Kv, V, hq, rfl, HCQ, HCr, HMr⟩ := hrel
          obtain ⟨c0, c1, c2, c3, c4⟩ := row_cell (unhide HCr).at0
          by_cases hlt : q < m
          · have i1 : (q : Int) < (m : Int) := by omega
            have i0 : (0 : Int) ≤ (q : Int) := by omega
            have HI1 : Hid (q + 1 ≤ m) := hide (by omega)
            by_cases hqI : q = I
            · have b1 : ((q : Int) == (I : Int)) = true := by simp [hqI]
              have b2 : (q : Int) = (I : Int) := by omega
              have HCQ1 : Hid (c = if q + 1 ≤ I then q + 1 else q + 1 - 1) := hide (by have h := unhide HCQ; rw [if_pos (by omega)] at h; rw [if_neg (by omega)]; omega)
              clear hqI
              go_wp2_with fail
              go_roundw
              case rel => exact ⟨q + 1, c, _, _, _, unhide HI1, by go_num, HCQ1, HCr, HMr⟩
              case measure => have := unhide HI1; simp [intOf]; omega
            · have b1 : ((q : Int) == (I : Int)) = false := by simp; omega
              have b2 : ¬ (q : Int) = (I : Int) := by omega
              have HCQ1 : Hid (c + 1 = if q + 1 ≤ I then q + 1 else q + 1 - 1) := hide (by
                have h := unhide HCQ
                by_cases h1 : q ≤ I
                · rw [if_pos h1] at h; rw [if_pos (by omega)]; omega
                · rw [if_neg h1] at h; rw [if_neg (by omega)]; omega)
              obtain ⟨tk, htk⟩ : ∃ tk, ks[q]? = some tk := ⟨_, List.getElem?_eq_getElem (by have := (unhide HLN).1; omega)⟩
              obtain ⟨yv, hyv⟩ : ∃ yv, l[q]? = some yv := ⟨_, List.getElem?_eq_getElem (by have := (unhide HLN).2; have := (unhide HLL).2.2; omega)⟩
              have HTY : Hid (ks'[c]? = some tk ∧ l'[c]? = some yv) := hide (by
                rw [← (unhide HE).1, ← (unhide HE).2, List.getElem?_eraseIdx, List.getElem?_eraseIdx]
                have h := unhide HCQ
                by_cases h1 : q ≤ I
                · rw [if_pos h1] at h
                  rw [if_pos (by omega), if_pos (by omega), h]
                  exact ⟨htk, hyv⟩
                · rw [if_neg h1] at h
                  rw [if_neg (by omega), if_neg (by omega), h, show q - 1 + 1 = q by omega]
                  exact ⟨htk, hyv⟩)
              have hcb : c ≤ 5000 := by have h := unhide HCQ; split at h <;> omega
              have VW := (unhide HVV wr (unhide HCr).below).1
              obtain ⟨a2, rfl⟩ : ∃ a2, ak = some a2 := by
                cases ak with
                | none => have h1 := VW.keys.1.none rfl; have h2 := (unhide HLN).1; omega
                | some a2 => exact ⟨a2, rfl⟩
              have cK := VW.keys.1.cell a2 rfl q tk htk
              obtain ⟨a, y0, y1, y2, al', ak', ll', m', cl', ck', rfl, hab, hce, hve⟩ := VW.elem q yv hyv
              have HAB : Hid (a.block < g ∧ a2.block < g) := hide (by
                obtain ⟨_, _, _, _, _, V0, hf, _⟩ := IsP.at VW
                have h1 := (hf.hk a2 rfl q tk htk).1
                have hBg : B ≤ g := by omega
                exact ⟨by omega, by omega⟩)
              have HCE : Hid (∀ j v, [Value.int .i64 y0, .int .i64 y1, .string y2, .slice al' ll' cl', .slice ak' m' ck'][j]? = some v → wr.cell? ((a.add (q * 5)).add j) = some v) := hide hce
              have HVE := hide hve
              have HKb := hide (unhide HMr).ownK.lt
              obtain ⟨iS, hS1, hS2, hS3, hS4⟩ := info_parts infoSc
              have HI := hide (And.intro hS1 (And.intro hS2 (And.intro hS3 hS4)))
              obtain ⟨iV, hV1, hV2, hV3, hV4⟩ := info_parts infoVc
              have HJ := hide (And.intro hV1 (And.intro hV2 (And.intro hV3 hV4)))
              have HDC : Hid (dep yv ≤ dep yv ∧ cnt yv ≤ 5000) := hide ⟨Nat.le_refl _, by have h1 := cntL_next l q yv hyv; have h2 := cntL_take_le l (q + 1); have h3 := (unhide HLL).2.1; omega⟩
              clear VW htk hyv hce hve hab hS1 hS2 hS3 hS4 hV1 hV2 hV3 hV4 hqI
              go_upto_region 14 with fail
              have HS0 : Hid (wr.drew.cell? ⟨gb, 4, none⟩ = some Kv ∧ wr.drew.cell? ⟨g, 4, none⟩ = some (.slice (some a2) m ck) ∧ wr.drew.cell? (a2.add q) = some (.string tk)) := hide ⟨(row_cell (unhide HMr).box).2.2.2.2, c4, cK⟩
              clear cK c0 c1 c2 c3 c4
              refine till_begin (S := fun w' => w'.cell? ⟨gb, 4, none⟩ = some Kv ∧ w'.cell? ⟨g, 4, none⟩ = some (.slice (some a2) m ck) ∧ w'.cell? (a2.add q) = some (.string tk)) 10 (by kernel_rfl) ?_
              have HMd := hide ((unhide HMr).later ((Below.refl wr.heap.size wr).drew))
              have HCd := hide ((unhide HCr).later ((Below.refl wr.heap.size wr).drew))
              have HXd : Hid (Below wr.heap.size wr wr.drew) := hide ((Below.refl wr.heap.size wr).drew)
              obtain ⟨ud, hud⟩ : ∃ ud, wr.drew = ud := ⟨_, rfl⟩
              rw [hud] at HMd HCd HS0 HXd ⊢
              clear hud
              refine till_take 0 (v := .pointer (some ⟨gb, 4, none⟩)) (some 36) rfl rfl rfl (by kernel_rfl) (by kernel_rfl) (by kernel_rfl) (by kernel_rfl) (fun _ _ _ h => h) (Or.inl ⟨by rfl, fun u hu => by obtain ⟨h4, h5, h6⟩ := hu; go_simp⟩) (unhide HS0) ?_
              try simp only [Act.put, List.setIfInBounds_toArray, List.set_cons_zero, List.set_cons_succ]
              refine till_take 1 (v := Kv) (some 37) rfl rfl rfl (by kernel_rfl) (by kernel_rfl) (by kernel_rfl) (by kernel_rfl) (fun _ _ _ h => h) (Or.inl ⟨by rfl, fun u hu => by obtain ⟨h4, h5, h6⟩ := hu; go_simp⟩) (unhide HS0) ?_
              try simp only [Act.put, List.setIfInBounds_toArray, List.set_cons_zero, List.set_cons_succ]
              refine till_take 2 (v := .pointer (some ⟨g, 4, none⟩)) (some 38) rfl rfl rfl (by kernel_rfl) (by kernel_rfl) (by kernel_rfl) (by kernel_rfl) (fun _ _ _ h => h) (Or.inl ⟨by rfl, fun u hu => by obtain ⟨h4, h5, h6⟩ := hu; go_simp⟩) (unhide HS0) ?_
              try simp only [Act.put, List.setIfInBounds_toArray, List.set_cons_zero, List.set_cons_succ]
              refine till_take 3 (v := .slice (some a2) m ck) (some 39) rfl rfl rfl (by kernel_rfl) (by kernel_rfl) (by kernel_rfl) (by kernel_rfl) (fun _ _ _ h => h) (Or.inl ⟨by rfl, fun u hu => by obtain ⟨h4, h5, h6⟩ := hu; go_simp⟩) (unhide HS0) ?_
              try simp only [Act.put, List.setIfInBounds_toArray, List.set_cons_zero, List.set_cons_succ]
              refine till_take 4 (v := .int .i64 (q : Int)) (some 40) rfl rfl rfl (by kernel_rfl) (by kernel_rfl) (by kernel_rfl) (by kernel_rfl) (fun _ _ _ h => h) (Or.inl ⟨by rfl, fun u hu => by obtain ⟨h4, h5, h6⟩ := hu; go_simp⟩) (unhide HS0) ?_
              try simp only [Act.put, List.setIfInBounds_toArray, List.set_cons_zero, List.set_cons_succ]
              refine till_take 5 (v := .pointer (some (a2.add q))) (some 41) rfl rfl rfl (by kernel_rfl) (by kernel_rfl) (by kernel_rfl) (by kernel_rfl) (fun _ _ _ h => h) (Or.inl ⟨by rfl, fun u hu => by obtain ⟨h4, h5, h6⟩ := hu; go_simp⟩) (unhide HS0) ?_
              try simp only [Act.put, List.setIfInBounds_toArray, List.set_cons_zero, List.set_cons_succ]
              refine till_take 6 (v := .string tk) (some 42) rfl rfl rfl (by kernel_rfl) (by kernel_rfl) (by kernel_rfl) (by kernel_rfl) (fun _ _ _ h => h) (Or.inl ⟨by rfl, fun u hu => by obtain ⟨h4, h5, h6⟩ := hu; go_simp⟩) (unhide HS0) ?_
              try simp only [Act.put, List.setIfInBounds_toArray, List.set_cons_zero, List.set_cons_succ]
              refine till_one 7 (by kernel_rfl) rfl (fun K hK => ?_)
              go_simp
              obtain ⟨w6, hw6⟩ : ∃ w6, ud.alloc (.cells #[.string tk] 9) = w6 := ⟨_, rfl⟩
              have X6 : Below ud.heap.size ud w6 := by rw [← hw6]; exact (Below.refl _ _).alloc (Nat.le_refl _) _
              have at6 : w6.heap[ud.heap.size]? = some (.cells #[.string tk] 9 (0, 0)) := by rw [← hw6]; exact heap_alloc_new ud _
              have sz6 : w6.heap.size = ud.heap.size + 1 := by rw [← hw6]; simp
              try rw [hw6]
              have HS6 : Hid (w6.cell? ⟨gb, 4, none⟩ = some Kv ∧ w6.cell? ⟨g, 4, none⟩ = some (.slice (some a2) m ck) ∧ w6.cell? (a2.add q) = some (.string tk)) := hide ⟨cell_later X6 (unhide HS0).1, cell_later X6 (unhide HS0).2.1, cell_later X6 (unhide HS0).2.2⟩
              have HM6 := hide ((unhide HMd).later X6)
              have H6 := hide (And.intro X6 sz6)
              obtain ⟨h5s, hh5s⟩ : ∃ h5s, ud.heap.size = h5s := ⟨_, rfl⟩
              rw [hh5s] at at6
              try rw [hh5s]
              refine hK.out _ _ (Or.inr (unhide HS6)) ?_
              clear hK K hw6 X6 hh5s sz6
              try simp only [Act.put, List.setIfInBounds_toArray, List.set_cons_zero, List.set_cons_succ]
              refine till_one 8 (by kernel_rfl) rfl (fun K hK => ?_)
              refine step_append_lies _ (by rfl) _ _ 25 (by rfl) (gb + 1) 9 iS (.string ⟨#[]⟩) 1 16 Try.underlying25 (unhide HI).1 (unhide HI).2.1 (unhide HI).2.2.1 (unhide HI).2.2.2 rfl (by omega) Kv c ((ks'.take c).map Value.string) (by rfl) (unhide HM6).ownK ⟨h5s, 0, none⟩ 1 1 [.string tk] (by rfl) (by rfl) (World.news_of_block at6) (by simp [Value.oneCell']) (by omega) (by unfold maxLen; omega) (by omega) (unhide HM6).size _ rfl ?_
              intro g7 cap7 w7 hown7 hgrow7 hat7 hlt7
              change K (Act.put _ (some 44) _) w7
              have hsz := (unhide HM6).size
              have hlow := (unhide HCr).low
              have hKl := (unhide HM6).ownK.lt
              have fr : ∀ z, z ≤ gb → some z ≠ Kv.ownBlock := fun z hz e => by have := (hKl z e.symm).1; omega
              have HS7 : Hid (w7.cell? ⟨gb, 4, none⟩ = some Kv ∧ w7.cell? ⟨g, 4, none⟩ = some (.slice (some a2) m ck) ∧ w7.cell? (a2.add q) = some (.string tk)) := hide ⟨(hgrow7.cell_far ⟨gb, 4, none⟩ (by show gb < _; omega) (fr gb (Nat.le_refl _))).trans (unhide HS6).1, (hgrow7.cell_far ⟨g, 4, none⟩ (by show g < _; omega) (fr g (by omega))).trans (unhide HS6).2.1, (hgrow7.cell_far (a2.add q) (by rw [block_add]; have := (unhide HAB).2; omega) (by rw [block_add]; exact fr _ (by have := (unhide HAB).2; omega))).trans (unhide HS6).2.2⟩
              have c7 := (unhide HS7).1
              have f7 : w7.frozen? ⟨gb, 4, none⟩ = false := (hgrow7.frozen_far ⟨gb, 4, none⟩ (by show gb < _; omega) (fr gb (Nat.le_refl _))).trans (frozen_of_row w6 gb 4 _ _ (unhide HM6).box)
              have H7 := hide (And.intro hown7 (And.intro hgrow7 hat7))
              refine hK.out _ _ (Or.inr (unhide HS7)) ?_
              clear hK K hown7 hgrow7 hat7 hlt7 fr hsz hlow hKl
              try simp only [Act.put, List.setIfInBounds_toArray, List.set_cons_zero, List.set_cons_succ]
              refine till_take 9 (v := .pointer (some ⟨gb, 4, none⟩)) (some 45) rfl rfl rfl (by kernel_rfl) (by kernel_rfl) (by kernel_rfl) (by kernel_rfl) (fun _ _ _ h => h) (Or.inl ⟨by rfl, fun u hu => by obtain ⟨h4, h5, h6⟩ := hu; go_simp⟩) (unhide HS7) ?_
              try simp only [Act.put, List.setIfInBounds_toArray, List.set_cons_zero, List.set_cons_succ]
              refine till_one 10 (by kernel_rfl) rfl (fun K hK => ?_)
              go_simp
              refine hK.out _ _ (Or.inl rfl) ?_
              clear hK K
              try simp only [Act.put, List.setIfInBounds_toArray, List.set_cons_zero, List.set_cons_succ]
              refine till_done (by kernel_rfl) ?_ _
              obtain ⟨w8, hw8⟩ : ∃ w8, w7.setCell ⟨gb, 4, none⟩ (.slice (some ⟨g7, 0, none⟩) (c + 1) cap7) = w8 := ⟨_, rfl⟩
              have HC8 : Hid (Cp w w8 g gb #[.int .i64 5, .int .i64 n, .string s, .slice (some a) ln cl, .slice (some a2) m ck] #[.int .i64 0, .int .i64 0, .string ⟨#[]⟩, .slice none 0 0, .slice none 0 0]) := hide (by
                rw [← hw8]
                exact ((unhide HCd).later (unhide H6).1).push (unhide H7).2.1 (fun z e => ((unhide HM6).ownK.lt z e).1))
              have HM8 : Hid (Mid w8 (gb + 1) gb 5 0 ⟨#[]⟩ l' ks' Lv (.slice (some ⟨g7, 0, none⟩) (c + 1) cap7) c (c + 1) V) := hide (by
                rw [← hw8]
                obtain ⟨X6, sz6⟩ := unhide H6
                obtain ⟨hown7, hgrow7, hat7⟩ := unhide H7
                refine (unhide HMd).pushK (fun z hz hne => ?_) (by have := X6.size; have := hgrow7.size; omega) ?_ ?_
                · rw [hgrow7.block z (by have := X6.size; omega) hne, X6.block z hz]
                · rw [List.take_add_one, (unhide HTY).1, List.map_append]
                  exact hown7
                · rcases hat7 with e | e
                  · exact Or.inl e
                  · exact Or.inr (by omega))
              have HB8 : Hid (Below g wr w8) := hide (by
                obtain ⟨X6, sz6⟩ := unhide H6
                obtain ⟨hown7, hgrow7, hat7⟩ := unhide H7
                rw [← hw8]
                have hs := (unhide HCr).size
                have hl := (unhide HCr).low
                have h0 := (unhide HXd).size
                exact ((((unhide HXd).mono (by omega)).trans (X6.mono (by omega))).grown hgrow7 (by have := X6.size; omega) (fun z e => by have := ((unhide HM6).ownK.lt z e).1; omega)).setCell (p := ⟨gb, 4, none⟩) (by show g ≤ gb; omega) _)
              rw [hw8]
              clear hw8 f7 c7 H7 HS7 HS6 HM6 H6 at6 HS0 HMd HCd HXd HMr HCr HKb
              obtain ⟨c0, c1, c2, c3, c4⟩ := row_cell (unhide HC8).at0
              go_upto_region 15 with fail
              have hce : ∀ j v, [Value.int .i64 y0, .int .i64 y1, .string y2, .slice al' ll' cl', .slice ak' m' ck'][j]? = some v → w8.cell? ((a.add (q * 5)).add j) = some v := fun j v hv => by
                rw [World.cell?_of_block (w := wr) (by rw [block_add, block_add]; exact (unhide HB8).block _ (unhide HAB).1)]
                exact unhide HCE j v hv
              have HLb : Hid (∀ z, Lv.ownBlock = some z → gb + 1 ≤ z ∧ z < w8.heap.size) := hide (unhide HM8).ownL.lt
              have hBg : B ≤ g := by omega
              have CR := hide (cpd_any (dep yv) yv _ B w8.drew (unhide HDC).1 (unhide HDC).2 ((unhide HVE).mono (((unhide HB8).drew).mono hBg)) (by have := (unhide HC8).size; have := (unhide HC8).low; show B ≤ w8.heap.size; omega))
              have HS0 : Hid (w8.drew.cell? ⟨gb, 3, none⟩ = some Lv ∧ w8.drew.cell? ⟨g, 3, none⟩ = some (.slice (some a) ln cl) ∧ w8.drew.cell? (a.add (q * 5)) = some (.int .i64 y0) ∧ w8.drew.cell? ⟨(a.add (q * 5)).block, (a.add (q * 5)).off + 1, none⟩ = some (.int .i64 y1) ∧ w8.drew.cell? ⟨(a.add (q * 5)).block, (a.add (q * 5)).off + 2, none⟩ = some (.string y2) ∧ w8.drew.cell? ⟨(a.add (q * 5)).block, (a.add (q * 5)).off + 3, none⟩ = some (.slice al' ll' cl') ∧ w8.drew.cell? ⟨(a.add (q * 5)).block, (a.add (q * 5)).off + 4, none⟩ = some (.slice ak' m' ck')) := hide ⟨(row_cell (unhide HM8).box).2.2.2.1, c3, hce 0 _ rfl, hce 1 _ rfl, hce 2 _ rfl, hce 3 _ rfl, hce 4 _ rfl⟩
              clear hce c0 c1 c2 c3 c4
              have jln : (q : Int) < (ln : Int) := by have := (unhide HLL).2.2; omega
              refine till_begin (S := fun w' => w'.cell? ⟨gb, 3, none⟩ = some Lv ∧ w'.cell? ⟨g, 3, none⟩ = some (.slice (some a) ln cl) ∧ w'.cell? (a.add (q * 5)) = some (.int .i64 y0) ∧ w'.cell? ⟨(a.add (q * 5)).block, (a.add (q * 5)).off + 1, none⟩ = some (.int .i64 y1) ∧ w'.cell? ⟨(a.add (q * 5)).block, (a.add (q * 5)).off + 2, none⟩ = some (.string y2) ∧ w'.cell? ⟨(a.add (q * 5)).block, (a.add (q * 5)).off + 3, none⟩ = some (.slice al' ll' cl') ∧ w'.cell? ⟨(a.add (q * 5)).block, (a.add (q * 5)).off + 4, none⟩ = some (.slice ak' m' ck')) 11 (by kernel_rfl) ?_
              refine till_take 0 (v := .pointer (some ⟨gb, 3, none⟩)) (some 46) rfl rfl rfl (by kernel_rfl) (by kernel_rfl) (by kernel_rfl) (by kernel_rfl) (fun _ _ _ h => h) (Or.inl ⟨by rfl, fun u hu => by obtain ⟨h4, h5, g0, g1, g2, g3, g4⟩ := hu; go_simp⟩) (unhide HS0) ?_
              try simp only [Act.put, List.setIfInBounds_toArray, List.set_cons_zero, List.set_cons_succ]
              refine till_take 1 (v := Lv) (some 47) rfl rfl rfl (by kernel_rfl) (by kernel_rfl) (by kernel_rfl) (by kernel_rfl) (fun _ _ _ h => h) (Or.inl ⟨by rfl, fun u hu => by obtain ⟨h4, h5, g0, g1, g2, g3, g4⟩ := hu; go_simp⟩) (unhide HS0) ?_
              try simp only [Act.put, List.setIfInBounds_toArray, List.set_cons_zero, List.set_cons_succ]
              refine till_take 2 (v := .pointer (some ⟨g, 3, none⟩)) (some 48) rfl rfl rfl (by kernel_rfl) (by kernel_rfl) (by kernel_rfl) (by kernel_rfl) (fun _ _ _ h => h) (Or.inl ⟨by rfl, fun u hu => by obtain ⟨h4, h5, g0, g1, g2, g3, g4⟩ := hu; go_simp⟩) (unhide HS0) ?_
              try simp only [Act.put, List.setIfInBounds_toArray, List.set_cons_zero, List.set_cons_succ]
              refine till_take 3 (v := .slice (some a) ln cl) (some 49) rfl rfl rfl (by kernel_rfl) (by kernel_rfl) (by kernel_rfl) (by kernel_rfl) (fun _ _ _ h => h) (Or.inl ⟨by rfl, fun u hu => by obtain ⟨h4, h5, g0, g1, g2, g3, g4⟩ := hu; go_simp⟩) (unhide HS0) ?_
              try simp only [Act.put, List.setIfInBounds_toArray, List.set_cons_zero, List.set_cons_succ]
              refine till_take 4 (v := .int .i64 (q : Int)) (some 50) rfl rfl rfl (by kernel_rfl) (by kernel_rfl) (by kernel_rfl) (by kernel_rfl) (fun _ _ _ h => h) (Or.inl ⟨by rfl, fun u hu => by obtain ⟨h4, h5, g0, g1, g2, g3, g4⟩ := hu; go_simp⟩) (unhide HS0) ?_
              try simp only [Act.put, List.setIfInBounds_toArray, List.set_cons_zero, List.set_cons_succ]
              refine till_take 5 (v := .pointer (some (a.add (q * 5)))) (some 51) rfl rfl rfl (by kernel_rfl) (by kernel_rfl) (by kernel_rfl) (by kernel_rfl) (fun _ _ _ h => h) (Or.inl ⟨by rfl, fun u hu => by obtain ⟨h4, h5, g0, g1, g2, g3, g4⟩ := hu; go_simp⟩) (unhide HS0) ?_
              try simp only [Act.put, List.setIfInBounds_toArray, List.set_cons_zero, List.set_cons_succ]
              refine till_take 6 (v := .agg #[.int .i64 y0, .int .i64 y1, .string y2, .slice al' ll' cl', .slice ak' m' ck']) (some 52) rfl rfl rfl (by kernel_rfl) (by kernel_rfl) (by kernel_rfl) (by kernel_rfl) (fun _ _ _ h => h) (Or.inl ⟨by rfl, fun u hu => by obtain ⟨h4, h5, g0, g1, g2, g3, g4⟩ := hu; go_simp⟩) (unhide HS0) ?_
              try simp only [Act.put, List.setIfInBounds_toArray, List.set_cons_zero, List.set_cons_succ]
              refine till_one 7 (by kernel_rfl) rfl (fun K hK => ?_)
              go_simp
              refine (unhide CR).mono ?_
              rintro e w5 ⟨x5, rfl, h5, b5⟩
              obtain ⟨k5, n5, s5, l5, ks5, al5, ak5, cl5, ck5, hy5, rfl⟩ := h5.shape
              obtain ⟨lc5, hlc5⟩ : ∃ lc5, l5.length = lc5 := ⟨_, rfl⟩
              obtain ⟨mc5, hmc5⟩ : ∃ mc5, ks5.length = mc5 := ⟨_, rfl⟩
              rw [hlc5, hmc5] at h5 ⊢
              have b6 := below_drew_of' b5
              have HS5 : Hid (w5.cell? ⟨gb, 3, none⟩ = some Lv ∧ w5.cell? ⟨g, 3, none⟩ = some (.slice (some a) ln cl) ∧ w5.cell? (a.add (q * 5)) = some (.int .i64 y0) ∧ w5.cell? ⟨(a.add (q * 5)).block, (a.add (q * 5)).off + 1, none⟩ = some (.int .i64 y1) ∧ w5.cell? ⟨(a.add (q * 5)).block, (a.add (q * 5)).off + 2, none⟩ = some (.string y2) ∧ w5.cell? ⟨(a.add (q * 5)).block, (a.add (q * 5)).off + 3, none⟩ = some (.slice al' ll' cl') ∧ w5.cell? ⟨(a.add (q * 5)).block, (a.add (q * 5)).off + 4, none⟩ = some (.slice ak' m' ck')) := hide ⟨cell_later b6 (unhide HS0).1, cell_later b6 (unhide HS0).2.1, cell_later b6 (unhide HS0).2.2.1, cell_later b6 (unhide HS0).2.2.2.1, cell_later b6 (unhide HS0).2.2.2.2.1, cell_later b6 (unhide HS0).2.2.2.2.2.1, cell_later b6 (unhide HS0).2.2.2.2.2.2⟩
              have H5 := hide (And.intro h5 b6)
              clear b5 b6 h5 hy5 hlc5 hmc5 CR
              go_wp2_with fail
              refine hK.out _ _ (Or.inr (unhide HS5)) ?_
              clear hK K
              try simp only [Act.put, List.setIfInBounds_toArray, List.set_cons_zero, List.set_cons_succ]
              refine till_one 8 (by kernel_rfl) rfl (fun K hK => ?_)
              go_simp
              obtain ⟨w6, hw6⟩ : ∃ w6, w5.alloc (.cells #[.int .i64 k5, .int .i64 n5, .string s5, .slice al5 lc5 cl5, .slice ak5 mc5 ck5] 27) = w6 := ⟨_, rfl⟩
              have X6 : Below w5.heap.size w5 w6 := by rw [← hw6]; exact (Below.refl _ _).alloc (Nat.le_refl _) _
              have at6 : w6.heap[w5.heap.size]? = some (.cells #[.int .i64 k5, .int .i64 n5, .string s5, .slice al5 lc5 cl5, .slice ak5 mc5 ck5] 27 (0, 0)) := by rw [← hw6]; exact heap_alloc_new w5 _
              have sz6 : w6.heap.size = w5.heap.size + 1 := by rw [← hw6]; simp
              try rw [hw6]
              have HS6 : Hid (w6.cell? ⟨gb, 3, none⟩ = some Lv ∧ w6.cell? ⟨g, 3, none⟩ = some (.slice (some a) ln cl) ∧ w6.cell? (a.add (q * 5)) = some (.int .i64 y0) ∧ w6.cell? ⟨(a.add (q * 5)).block, (a.add (q * 5)).off + 1, none⟩ = some (.int .i64 y1) ∧ w6.cell? ⟨(a.add (q * 5)).block, (a.add (q * 5)).off + 2, none⟩ = some (.string y2) ∧ w6.cell? ⟨(a.add (q * 5)).block, (a.add (q * 5)).off + 3, none⟩ = some (.slice al' ll' cl') ∧ w6.cell? ⟨(a.add (q * 5)).block, (a.add (q * 5)).off + 4, none⟩ = some (.slice ak' m' ck')) := hide ⟨cell_later X6 (unhide HS5).1, cell_later X6 (unhide HS5).2.1, cell_later X6 (unhide HS5).2.2.1, cell_later X6 (unhide HS5).2.2.2.1, cell_later X6 (unhide HS5).2.2.2.2.1, cell_later X6 (unhide HS5).2.2.2.2.2.1, cell_later X6 (unhide HS5).2.2.2.2.2.2⟩
              have HM6 := hide (((unhide HM8).later (unhide H5).2).later X6)
              have H6 := hide (And.intro X6 sz6)
              obtain ⟨h5s, hh5s⟩ : ∃ h5s, w5.heap.size = h5s := ⟨_, rfl⟩
              rw [hh5s] at at6
              try rw [hh5s]
              refine hK.out _ _ (Or.inr (unhide HS6)) ?_
              clear hK K hw6 X6 hh5s sz6
              try simp only [Act.put, List.setIfInBounds_toArray, List.set_cons_zero, List.set_cons_succ]
              refine till_one 9 (by kernel_rfl) rfl (fun K hK => ?_)
              refine step_append_lies _ (by rfl) _ _ 24 (by rfl) (gb + 1) 27 iV (.agg #[.int .i64 0, .int .i64 0, .string ⟨#[]⟩, .slice none 0 0, .slice none 0 0]) 5 80 Try.underlying24 (unhide HJ).1 (unhide HJ).2.1 (unhide HJ).2.2.1 (unhide HJ).2.2.2 rfl (by omega) Lv c (flat V c) (by rfl) (unhide HM6).ownL ⟨h5s, 0, none⟩ 1 1 [.int .i64 k5, .int .i64 n5, .string s5, .slice al5 lc5 cl5, .slice ak5 mc5 ck5] (by rfl) (by rfl) (World.news_of_block at6) (by simp [Value.oneCell']) (by omega) (by unfold maxLen; omega) (by omega) (unhide HM6).size _ rfl ?_
              intro g9 cap9 w7 hown7 hgrow7 hat7 hlt7
              change K (Act.put _ (some 55) _) w7
              have hsz := (unhide HM6).size
              have hlow := (unhide HC8).low
              have hLl := (unhide HM6).ownL.lt
              have fr : ∀ z, z ≤ gb → some z ≠ Lv.ownBlock := fun z hz e => by have := (hLl z e.symm).1; omega
              have HS7 : Hid (w7.cell? ⟨gb, 3, none⟩ = some Lv ∧ w7.cell? ⟨g, 3, none⟩ = some (.slice (some a) ln cl) ∧ w7.cell? (a.add (q * 5)) = some (.int .i64 y0) ∧ w7.cell? ⟨(a.add (q * 5)).block, (a.add (q * 5)).off + 1, none⟩ = some (.int .i64 y1) ∧ w7.cell? ⟨(a.add (q * 5)).block, (a.add (q * 5)).off + 2, none⟩ = some (.string y2) ∧ w7.cell? ⟨(a.add (q * 5)).block, (a.add (q * 5)).off + 3, none⟩ = some (.slice al' ll' cl') ∧ w7.cell? ⟨(a.add (q * 5)).block, (a.add (q * 5)).off + 4, none⟩ = some (.slice ak' m' ck')) := hide ⟨(hgrow7.cell_far ⟨gb, 3, none⟩ (by show gb < _; omega) (fr gb (Nat.le_refl _))).trans (unhide HS6).1, (hgrow7.cell_far ⟨g, 3, none⟩ (by show g < _; omega) (fr g (by omega))).trans (unhide HS6).2.1, (hgrow7.cell_far (a.add (q * 5)) (by rw [block_add]; have := (unhide HAB).1; omega) (by rw [block_add]; exact fr _ (by have := (unhide HAB).1; omega))).trans (unhide HS6).2.2.1, (hgrow7.cell_far ⟨(a.add (q * 5)).block, (a.add (q * 5)).off + 1, none⟩ (by show (a.add (q * 5)).block < _; rw [block_add]; have := (unhide HAB).1; omega) (by show some (a.add (q * 5)).block ≠ _; rw [block_add]; exact fr _ (by have := (unhide HAB).1; omega))).trans (unhide HS6).2.2.2.1, (hgrow7.cell_far ⟨(a.add (q * 5)).block, (a.add (q * 5)).off + 2, none⟩ (by show (a.add (q * 5)).block < _; rw [block_add]; have := (unhide HAB).1; omega) (by show some (a.add (q * 5)).block ≠ _; rw [block_add]; exact fr _ (by have := (unhide HAB).1; omega))).trans (unhide HS6).2.2.2.2.1, (hgrow7.cell_far ⟨(a.add (q * 5)).block, (a.add (q * 5)).off + 3, none⟩ (by show (a.add (q * 5)).block < _; rw [block_add]; have := (unhide HAB).1; omega) (by show some (a.add (q * 5)).block ≠ _; rw [block_add]; exact fr _ (by have := (unhide HAB).1; omega))).trans (unhide HS6).2.2.2.2.2.1, (hgrow7.cell_far ⟨(a.add (q * 5)).block, (a.add (q * 5)).off + 4, none⟩ (by show (a.add (q * 5)).block < _; rw [block_add]; have := (unhide HAB).1; omega) (by show some (a.add (q * 5)).block ≠ _; rw [block_add]; exact fr _ (by have := (unhide HAB).1; omega))).trans (unhide HS6).2.2.2.2.2.2⟩
              have c7 := (unhide HS7).1
              have f7 : w7.frozen? ⟨gb, 3, none⟩ = false := (hgrow7.frozen_far ⟨gb, 3, none⟩ (by show gb < _; omega) (fr gb (Nat.le_refl _))).trans (frozen_of_row w6 gb 3 _ _ (unhide HM6).box)
              have H7 := hide (And.intro hown7 (And.intro hgrow7 hat7))
              refine hK.out _ _ (Or.inr (unhide HS7)) ?_
              clear hK K hown7 hgrow7 hat7 hlt7 fr hsz hlow hLl
              try simp only [Act.put, List.setIfInBounds_toArray, List.set_cons_zero, List.set_cons_succ]
              refine till_take 10 (v := .pointer (some ⟨gb, 3, none⟩)) (some 56) rfl rfl rfl (by kernel_rfl) (by kernel_rfl) (by kernel_rfl) (by kernel_rfl) (fun _ _ _ h => h) (Or.inl ⟨by rfl, fun u hu => by obtain ⟨h4, h5, g0, g1, g2, g3, g4⟩ := hu; go_simp⟩) (unhide HS7) ?_
              try simp only [Act.put, List.setIfInBounds_toArray, List.set_cons_zero, List.set_cons_succ]
              refine till_one 11 (by kernel_rfl) rfl (fun K hK => ?_)
              go_simp
              refine hK.out _ _ (Or.inl rfl) ?_
              clear hK K
              try simp only [Act.put, List.setIfInBounds_toArray, List.set_cons_zero, List.set_cons_succ]
              refine till_done (by kernel_rfl) ?_ _
              obtain ⟨w9, hw9⟩ : ∃ w9, w7.setCell ⟨gb, 3, none⟩ (.slice (some ⟨g9, 0, none⟩) (c + 1) cap9) = w9 := ⟨_, rfl⟩
              have HC9 : Hid (Cp w w9 g gb #[.int .i64 5, .int .i64 n, .string s, .slice (some a) ln cl, .slice (some a2) m ck] #[.int .i64 0, .int .i64 0, .string ⟨#[]⟩, .slice none 0 0, .slice none 0 0]) := hide (by
                rw [← hw9]
                exact (((unhide HC8).later (unhide H5).2).later (unhide H6).1).push (unhide H7).2.1 (fun z e => ((unhide HM6).ownL.lt z e).1))
              have HM9 : Hid (Mid w9 (gb + 1) gb 5 0 ⟨#[]⟩ l' ks' (.slice (some ⟨g9, 0, none⟩) (c + 1) cap9) (.slice (some ⟨g7, 0, none⟩) (c + 1) cap7) (c + 1) (c + 1) (setV V c [.int .i64 k5, .int .i64 n5, .string s5, .slice al5 lc5 cl5, .slice ak5 mc5 ck5])) := hide (by
                rw [← hw9]
                obtain ⟨h5, b5⟩ := unhide H5
                obtain ⟨X6, sz6⟩ := unhide H6
                obtain ⟨hown7, hgrow7, hat7⟩ := unhide H7
                refine ((unhide HM8).later b5).pushL (lo := w8.heap.size) (unhide HM8).size (fun z e => (unhide HLb z e).2) (fun z e => ((unhide HM8).ownK.lt z e).2) (unhide HTY).2 h5 rfl (fun z hz hne => ?_) (by have := X6.size; have := hgrow7.size; omega) hown7 ?_
                · rw [hgrow7.block z (by have := X6.size; omega) hne, X6.block z hz]
                · rcases hat7 with e | e
                  · exact Or.inl e
                  · exact Or.inr (by omega))
              rw [hw9]
              clear hw9 f7 c7
              go_wp2_with fail
              go_roundw
              case rel => exact ⟨q + 1, c + 1, _, _, _, unhide HI1, by go_num, HCQ1, HC9, HM9⟩
              case measure => have := unhide HI1; simp [intOf]; omega
          · have i1 : ¬ (q : Int) < (m : Int) := by omega
            have hc : c + 1 = m := by have h := unhide HCQ; rw [if_neg (by omega)] at h; omega
            have hlow := (unhide HCr).low
            obtain ⟨z0, z1, z2, z3, z4⟩ := row_cell (unhide HCr).at1
            obtain ⟨d0, d1, d2, d3, d4⟩ := row_cell (unhide HMr).box
            have fz : ∀ q, wr.frozen? ⟨g + 1, q, none⟩ = false := fun q => frozen_of_row wr (g + 1) q _ _ (unhide HCr).at1
            obtain ⟨aL, cL, eL, _⟩ := slice_form (unhide HMr).ownL
            obtain ⟨aK, cK, eK, _⟩ := slice_form (unhide HMr).ownK
            subst eL
            subst eK
            have HF : Hid (∀ u : World, u.heap.size = wr.heap.size → (∀ q, q ≠ g + 1 → u.heap[q]? = wr.heap[q]?) → IsV u u.heap.size (.mk 5 0 ⟨#[]⟩ l' ks') (.agg #[.int .i64 5, .int .i64 0, .string ⟨#[]⟩, .slice aL c cL, .slice aK c cK])) := hide (fun u hu hq => by
              have VW := (unhide HVV wr (unhide HCr).below).1
              obtain ⟨_, _, _, _, _, V0, hf, _⟩ := IsP.at VW
              have hk' : ks'.length = c := by rw [← (unhide HE).2, List.length_eraseIdx, if_pos (by have := (unhide HLN).1; omega)]; have := (unhide HLN).1; omega
              have hl' : l'.length = c := by rw [← (unhide HE).1, List.length_eraseIdx, if_pos (by have := (unhide HLN).2; have := (unhide HLL).2.2; omega)]; have := (unhide HLN).2; have := (unhide HLL).2.2; omega
              have hp := (unhide HMr).made hl'.symm hk'.symm (by omega) (by omega) (by decide) (by omega) (fun t ht => hf.bt t (by rw [← (unhide HE).2] at ht; exact List.mem_of_mem_eraseIdx ht)) (by omega)
              exact ((hp.move (fun q hP => hq q (by omega))).isV (fun q hP => by omega)))
            have fz0 := fz 0
            have fz1 := fz 1
            have fz2 := fz 2
            have fz3 := fz 3
            have fz4 := fz 4
            clear fz hc
            go_wp2_with fail
            have R9 := five_set wr (g + 1) 27 _ _ _ _ _ (.int .i64 5) (.int .i64 0) (.string ⟨#[]⟩) (.slice aL c cL) (.slice aK c cK) (unhide HCr).at1
            have O9 := five_other wr (g + 1) (x0 := .int .i64 5) (x1 := .int .i64 0) (x2 := .string ⟨#[]⟩) (x3 := .slice aL c cL) (x4 := .slice aK c cK)
            have S9 : (((((wr.setCell ⟨g + 1, 0, none⟩ (.int .i64 5)).setCell ⟨g + 1, 1, none⟩ (.int .i64 0)).setCell ⟨g + 1, 2, none⟩ (.string ⟨#[]⟩)).setCell ⟨g + 1, 3, none⟩ (.slice aL c cL)).setCell ⟨g + 1, 4, none⟩ (.slice aK c cK)).heap.size = wr.heap.size := by simp
            have B9 := five_below (g := g + 1) (unhide HCr).below (by omega) (.int .i64 5) (.int .i64 0) (.string ⟨#[]⟩) (.slice aL c cL) (.slice aK c cK)
            obtain ⟨w9, hw9⟩ : ∃ w9, (((((wr.setCell ⟨g + 1, 0, none⟩ (.int .i64 5)).setCell ⟨g + 1, 1, none⟩ (.int .i64 0)).setCell ⟨g + 1, 2, none⟩ (.string ⟨#[]⟩)).setCell ⟨g + 1, 3, none⟩ (.slice aL c cL)).setCell ⟨g + 1, 4, none⟩ (.slice aK c cK)) = w9 := ⟨_, rfl⟩
            rw [hw9] at R9 S9 B9 ⊢
            have I9 := unhide HF w9 S9 (fun q hq => by rw [← hw9]; exact O9 q hq)
            obtain ⟨r0, r1, r2, r3, r4⟩ := row_cell R9
            refine bodyPost_ret (v := .tuple #[.agg #[.int .i64 5, .int .i64 0, .string ⟨#[]⟩, .slice aL c cL, .slice aK c cK], .int .i64 0]) (by simp [results, Try.results18, go_sem, r0, r1, r2, r3, r4]) rfl ?_
            try rw [hg]
            rw [unhide HC]
            refine ⟨_, rfl, B9, (fun _ => ?_), fun h => absurd rfl h⟩
            rw [(unhide HE).1, (unhide HE).2]
            exact I9
    · have HC : Hid (withoutC (.mk k n s l ks) key = 31) := hide (by unfold withoutC; rw [if_pos hR, if_neg h5])
      rw [hR] at CR
      clear hR
      go_enter Try.func18, Try.ntmps18
      go_wp2_with fail
      refine (unhide CR).mono ?_
      rintro e u3 ⟨rfl, b3⟩
      have HZ3 := hide ((unhide HZ).later b3)
      clear b3 CR c0 c1 c2 c3 c4 hw2
      obtain ⟨c0, c1, c2, c3, c4⟩ := row_cell (unhide HZ3).at0
      have ATX : u3.heap[g + 1]? = some (.cells #[.int .i64 0, .int .i64 0, .string ⟨#[]⟩, .slice none 0 0, .slice none 0 0] 27 (0, 0)) := (unhide HZ3).at1
      obtain ⟨z0, z1, z2, z3, z4⟩ := row_cell ATX
      have fz : ∀ q, u3.frozen? ⟨g + 1, q, none⟩ = false := fun q => frozen_of_row u3 (g + 1) q _ _ ATX
      have fz0 := fz 0
      have fz1 := fz 1
      have fz2 := fz 2
      have fz3 := fz 3
      have fz4 := fz 4
      have HAT := hide ATX
      clear fz ATX
      go_wp2_with fail
      have ATX := unhide HAT
      have BW : Below g w u3 := (unhide HZ3).below
      have R9 := five_set u3 (g + 1) 27 _ _ _ _ _ (.int .i64 0) (.int .i64 0) (.string ⟨#[]⟩) (.slice none 0 0) (.slice none 0 0) ATX
      have B9 := five_below (g := g + 1) BW (by omega) (.int .i64 0) (.int .i64 0) (.string ⟨#[]⟩) (.slice none 0 0) (.slice none 0 0)
      obtain ⟨w9, hw9⟩ : ∃ w9, (((((u3.setCell ⟨g + 1, 0, none⟩ (.int .i64 0)).setCell ⟨g + 1, 1, none⟩ (.int .i64 0)).setCell ⟨g + 1, 2, none⟩ (.string ⟨#[]⟩)).setCell ⟨g + 1, 3, none⟩ (.slice none 0 0)).setCell ⟨g + 1, 4, none⟩ (.slice none 0 0)) = w9 := ⟨_, rfl⟩
      rw [hw9] at R9 B9 ⊢
      obtain ⟨r0, r1, r2, r3, r4⟩ := row_cell R9
      refine bodyPost_ret (v := .tuple #[.agg #[.int .i64 0, .int .i64 0, .string ⟨#[]⟩, .slice none 0 0, .slice none 0 0], .int .i64 31]) (by simp [results, Try.results18, go_sem, r0, r1, r2, r3, r4]) rfl ?_
      rw [hg, unhide HC]
      exact ⟨_, rfl, B9, (fun I h => by cases h), fun _ => rfl⟩
end Go.Proofs.Ytcopkhmmpamboaa
