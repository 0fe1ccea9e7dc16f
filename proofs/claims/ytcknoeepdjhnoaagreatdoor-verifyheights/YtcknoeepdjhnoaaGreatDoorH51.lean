/-
  Layer 12, the walk of VerifyHeights; conditions: the package's variables, the form's own reach.
-/
import Derived.Test.YtcknoeepdjhnoaaGreatDoorH19
import Derived.Test.YtcknoeepdjhnoaaGreatDoorH46
import Derived.Test.YtcknoeepdjhnoaaGreatDoorH47
import Derived.Test.YtcknoeepdjhnoaaGreatDoorH48
import Derived.Test.YtcknoeepdjhnoaaGreatDoorH50
import Derived.BigQuiet
import Derived.Deep.QuietTactic
set_option linter.unusedVariables false
set_option linter.unusedSimpArgs false
namespace Go.Proofs.YtcknoeepdjhnoaaGreatDoor
open Go.RowKit
set_option linter.unusedVariables false
set_option linter.unusedSimpArgs false

theorem hgt_len (m : Md) (f : Int) : (hgtF m f).1.length ≤ 4000 := by
  unfold hgtF
  by_cases h : rightM m = true ∧ 0 ≤ f ∧ f < (m.fs.length : Int)
  · rw [if_pos h]
    obtain ⟨h1, h2, h3⟩ := h
    have hlt : f.toNat < m.fs.length := by omega
    obtain ⟨y, hy⟩ : ∃ y, m.fs[f.toNat]? = some y := ⟨_, List.getElem?_eq_getElem hlt⟩
    have hz := (fnB_parts (right_fs h1 _ (List.mem_of_getElem? hy))).2.2.2.2
    unfold htsF
    rw [getD_of hy]
    by_cases h5 : (lookF m y).2.2 = 0
    · rw [if_pos h5, List.length_map]
      have := lst_le (zsT y.2.2.2) (zsT y.2.2.2).length 0
      unfold lsF
      have e := zsT_len y.2.2.2
      omega
    · rw [if_neg h5]
      exact Nat.zero_le _
  · rw [if_neg h]
    exact Nat.zero_le _

theorem own_set1 {w : World} {B n cap g : Nat} {e : TypeId} {xs : List Value} (h : w.ownsRow B e 1 (.slice (some ⟨g, 0, none⟩) n cap) n xs) (j : Nat) (hj : j < n) (y : Value) : (w.setCell ⟨g, j, none⟩ y).ownsRow B e 1 (.slice (some ⟨g, 0, none⟩) n cap) n (xs.set j y) := by
  refine ⟨by rw [List.length_set]; exact h.1, ?_⟩
  rcases h.2 with ⟨e1, _⟩ | ⟨g', cap', cur, e1, hb, hg, h1, h2, h3, h4⟩
  · cases e1
  · injection e1 with e2 e3 e4
    injection e2 with e2
    injection e2 with e5
    subst e5 e4
    refine .inr ⟨g, cap, cur.setIfInBounds j y, rfl, hb, heap_setCell_same w g j cur e y hg, h1, h2, by rw [Array.size_setIfInBounds]; exact h3, ?_⟩
    rw [Array.toList_setIfInBounds, List.take_set, h4]

set_option maxRecDepth 100000 in
set_option maxHeartbeats 16000000 in
theorem heightsL_any (m : Md) (b1 : Option Addr) (n1 d1 : Nat) (b2 : Option Addr) (n2 d2 : Nat) (b3 : Option Addr) (n3 d3 : Nat) (fs : List Int) (al : Option Addr) (n cl : Nat) (w : World)
    (hM : IsM w (fun b => b < w.heap.size) m b1 d1 b2 d2 b3 d3) (hT : Tab2 w) (hn1 : m.cs.length = n1) (hn2 : m.fs.length = n2) (hn3 : m.xs.length = n3) (hb1 : 80 * n1 ≤ 140737488351232) (hb2 : 40 * n2 ≤ 140737488351232) (hb3 : 24 * n3 ≤ 140737488351232) (hF : RdI w al fs) (hn : fs.length = n) (hnb : n ≤ 9223372036854775807) :
    Calls Tryz.prog 4 #[.agg #[.slice b1 n1 d1, .slice b2 n2 d2, .slice b3 n3 d3], .slice al n cl] w fun e w' => e = .returned (.bool true) ∧ Below w.heap.size w w' := by
  obtain ⟨G, hG⟩ : ∃ G, w.heap.size = G := ⟨_, rfl⟩
  have hbig := hT.big
  obtain ⟨w1, hw1⟩ : ∃ w1, w.alloc (.cells #[.slice b1 n1 d1, .slice b2 n2 d2, .slice b3 n3 d3] 27) = w1 := ⟨_, rfl⟩
  have z1 : w1.heap.size = G + 1 := by rw [← hw1, ← hG]; simp
  have A1 : w1.heap[G]? = some (.cells #[.slice b1 n1 d1, .slice b2 n2 d2, .slice b3 n3 d3] 27 (0, 0)) := by rw [← hw1, ← hG]; exact heap_alloc_new _ _
  have B1 : Below w.heap.size w w1 := by rw [← hw1]; exact (Below.refl _ _).alloc (Nat.le_refl _) _
  have KEEP : Hid (∀ u, Below w1.heap.size w1 u → u.heap[G]? = some (.cells #[.slice b1 n1 d1, .slice b2 n2 d2, .slice b3 n3 d3] 27 (0, 0)) ∧ IsM u (fun b => b < w.heap.size) m b1 d1 b2 d2 b3 d3 ∧ Tab2 u ∧ Below w.heap.size w u ∧ w.heap.size ≤ u.heap.size ∧ RdI u al fs) := hide (fun u hu => by
    have bu : Below w.heap.size w u := B1.trans (hu.mono B1.size)
    exact ⟨(hu.block G (by omega)).trans A1, hM.later bu, hT.below bu, bu, bu.size, hF.later bu⟩)
  have HN := hide (And.intro hn1 (And.intro hn2 (And.intro hn3 (And.intro hn (And.intro hb1 (And.intro hb2 hb3))))))
  have HB1 := hide B1
  clear hM hT A1 B1 hn1 hn2 hn3 hn hb1 hb2 hb3 hF
  obtain ⟨i3, hi3, hz30, hz31, hz32⟩ := info_parts infoInt
  have HJI := hide (And.intro hi3 (And.intro hz30 (And.intro hz31 hz32)))
  clear hi3 hz30 hz31 hz32
  go_enter Tryz.func4, Tryz.ntmps4
  go_wp2_with fail
  go_loopw [5] (fun v wr => ∃ i : Nat, v = .int .i64 (i : Int) ∧ Hid (i ≤ n) ∧ Hid (Below w1.heap.size w1 wr)) (fun v _ => n - (intOf v).toNat)
  case atStart => exact ⟨0, rfl, hide (Nat.zero_le _), hide (Below.refl _ _)⟩
  case round =>
    obtain ⟨i, rfl, Hi, HX⟩ := hrel
    obtain ⟨wq, hwq⟩ : ∃ wq, wq = wr := ⟨_, rfl⟩
    subst hwq
    by_cases hlt : i < n
    · have j1 : (i : Int) < (n : Int) := by omega
      have j0 : (0 : Int) ≤ (i : Int) := by omega
      obtain ⟨f, hf⟩ : ∃ f, fs[i]? = some f := ⟨_, List.getElem?_eq_getElem (by have := (unhide HN).2.2.2.1; omega)⟩
      obtain ⟨k1a, k1b, k1c, k1d, k1e, k1f⟩ := unhide KEEP wq (unhide HX)
      obtain ⟨c0, c1, c2⟩ := row_cell3 k1a
      obtain ⟨fd, rfl, p0⟩ := k1f i f hf
      obtain ⟨hn1, hn2, hn3, hn, hb1, hb2, hb3⟩ := unhide HN
      have CM := hide (moduleOf_any m b1 n1 d1 b2 n2 d2 b3 n3 d3 w.heap.size wq k1b k1e hn1 hn2 hn3 hb1 hb2 hb3)
      clear k1a k1b k1c k1d k1e k1f hn1 hn2 hn3 hn hb1 hb2 hb3 p0
      go_wp2_with fail
      refine (unhide CM).mono ?_
      rintro e w3 ⟨e1, g1, e2, g2, e3, g3, rfl, hM3, b3'⟩
      have HM3 := hide hM3
      have H3 : Hid (Below w1.heap.size w1 w3) := hide ((unhide HX).trans (b3'.mono (unhide HX).size))
      clear hM3 b3' CM c0 c1 c2
      go_upto_region 5 with fail
      obtain ⟨w4, hw4⟩ : ∃ w4, w3.alloc (.cells #[.slice e1 n1 g1, .slice e2 n2 g2, .slice e3 n3 g3] 27) = w4 := ⟨_, rfl⟩
      have A4 : w4.heap[w3.heap.size]? = some (.cells #[.slice e1 n1 g1, .slice e2 n2 g2, .slice e3 n3 g3] 27 (0, 0)) := by rw [← hw4]; exact heap_alloc_new _ _
      have B4 : Below w3.heap.size w3 w4 := by rw [← hw4]; exact (Below.refl _ _).alloc (Nat.le_refl _) _
      have Z4 : w4.heap.size = w3.heap.size + 1 := by rw [← hw4]; simp
      rw [hw4]
      obtain ⟨R, hR⟩ : ∃ R, w3.heap.size = R := ⟨_, rfl⟩
      rw [hR]
      have H4 : Hid (Below w1.heap.size w1 w4) := hide ((unhide H3).trans (B4.mono (unhide H3).size))
      have hG4 : G + 1 ≤ w4.heap.size := by have := (unhide H4).size; omega
      have KM : Hid (∀ u, Below w4.heap.size w4 u → u.cell? ⟨R, 0, none⟩ = some (.slice e1 n1 g1) ∧ u.cell? ⟨R, 1, none⟩ = some (.slice e2 n2 g2) ∧ u.cell? ⟨R, 2, none⟩ = some (.slice e3 n3 g3) ∧ u.cell? ⟨G, 0, none⟩ = some (.slice b1 n1 d1) ∧ u.cell? ⟨G, 1, none⟩ = some (.slice b2 n2 d2) ∧ u.cell? ⟨G, 2, none⟩ = some (.slice b3 n3 d3) ∧ u.cell? (fd.add i) = some (.int .i64 f) ∧ IsM u (fun b => b < w4.heap.size) m e1 g1 e2 g2 e3 g3 ∧ IsM u (fun b => b < w4.heap.size) m b1 d1 b2 d2 b3 d3 ∧ Tab2 u ∧ w4.heap.size ≤ u.heap.size ∧ Below w1.heap.size w1 u) := hide (fun u hu => by
        have hu3 : Below w3.heap.size w3 u := B4.trans (hu.mono B4.size)
        have hu1 : Below w1.heap.size w1 u := (unhide H4).trans (hu.mono (unhide H4).size)
        obtain ⟨k1a, k1b, k1c, k1d, k1e, k1f⟩ := unhide KEEP u hu1
        obtain ⟨c0, c1, c2⟩ := row_cell3 k1a
        have hA : u.heap[R]? = some (.cells #[.slice e1 n1 g1, .slice e2 n2 g2, .slice e3 n3 g3] 27 (0, 0)) := by rw [← hR]; exact (hu.block _ (by omega)).trans A4
        obtain ⟨m0, m1, m2⟩ := row_cell3 hA
        obtain ⟨fd2, e9, p0⟩ := k1f i f hf
        cases e9
        exact ⟨m0, m1, m2, c0, c1, c2, p0, ((unhide HM3).later hu3).weak (fun b hb => by omega), k1b.weak (fun b hb => by omega), k1c, hu.size, hu1⟩)
      obtain ⟨⟨HL, ⟨fa, fb, fc⟩⟩, hhg⟩ : ∃ x, hgtF m f = x := ⟨_, rfl⟩
      obtain ⟨nl, hnl⟩ : ∃ nl, HL.length = nl := ⟨_, rfl⟩
      have hnl4 : nl ≤ 4000 := by have := hgt_len m f; rw [hhg] at this; simp only [] at this; omega
      have HLN := hide hnl
      have CH1 : Hid (∀ u, Below w4.heap.size w4 u → Calls Tryz.prog 10 #[.agg #[.slice e1 n1 g1, .slice e2 n2 g2, .slice e3 n3 g3], .int .i64 f] u fun e w' => ∃ ao, (∃ cap, e = .returned (.tuple #[.slice ao nl cap, .agg #[.int .i64 fa, .int .i64 fb, .int .i64 fc]]) ∧ w'.ownsRow u.heap.size 3 1 (.slice ao nl cap) nl (HL.map (Value.int .i64))) ∧ Below u.heap.size u w') := hide (fun u hu => by
        obtain ⟨x0, x1, x2, x3, x4, x5, x6, k1, k2, k3, k4, k5⟩ := unhide KM u hu
        have := heights_any m e1 n1 g1 e2 n2 g2 e3 n3 g3 w4.heap.size f u k1 k4 (by omega) k3 (unhide HN).1 (unhide HN).2.1 (unhide HN).2.2.1
        unfold HgtR at this
        rw [hhg] at this
        simp only [fltV, hnl] at this
        exact this)
      have CH3 : Hid (∀ u, Below w4.heap.size w4 u → Calls Tryz.prog 11 #[.agg #[.slice b1 n1 d1, .slice b2 n2 d2, .slice b3 n3 d3], .int .i64 f] u fun e w' => ∃ ao, (∃ cap, e = .returned (.tuple #[.slice ao nl cap, .agg #[.int .i64 fa, .int .i64 fb, .int .i64 fc]]) ∧ w'.ownsRow u.heap.size 3 1 (.slice ao nl cap) nl (HL.map (Value.int .i64))) ∧ Below u.heap.size u w') := hide (fun u hu => by
        obtain ⟨x0, x1, x2, x3, x4, x5, x6, k1, k2, k3, k4, k5⟩ := unhide KM u hu
        have := heightsK_any m b1 n1 d1 b2 n2 d2 b3 n3 d3 w4.heap.size f u k2 k4 (unhide HN).1 (unhide HN).2.1 (unhide HN).2.2.1
        unfold HgtR at this
        rw [hhg] at this
        simp only [fltV, hnl] at this
        exact this)
      have C3 : Hid (∀ u, Below w4.heap.size w4 u → Calls Tryz.prog 8 #[.agg #[.slice e1 n1 g1, .slice e2 n2 g2, .slice e3 n3 g3], .agg #[.slice b1 n1 d1, .slice b2 n2 d2, .slice b3 n3 d3]] u fun e w' => e = .returned (.bool true) ∧ Below u.heap.size u w') := hide (fun u hu => by
        obtain ⟨x0, x1, x2, x3, x4, x5, x6, k1, k2, k3, k4, k5⟩ := unhide KM u hu
        have hb := (unhide HN).2.2.2.2
        exact sameM_any m e1 n1 g1 e2 n2 g2 e3 n3 g3 b1 d1 b2 d2 b3 d3 w4.heap.size u k1 k2 k4 (unhide HN).1 (unhide HN).2.1 (unhide HN).2.2.1 (by omega) (by omega) (by omega))
      clear hw4 A4 B4 Z4 hhg hnl HM3 hf
      have HSS : Hid (w4.cell? ⟨R, 0, none⟩ = some (.slice e1 n1 g1) ∧ w4.cell? ⟨R, 1, none⟩ = some (.slice e2 n2 g2) ∧ w4.cell? ⟨R, 2, none⟩ = some (.slice e3 n3 g3) ∧ w4.cell? (fd.add i) = some (.int .i64 f)) := hide (by obtain ⟨x0, x1, x2, x3, x4, x5, x6, _⟩ := unhide KM w4 (Below.refl _ _); exact ⟨x0, x1, x2, x6⟩)
      go_cut [7, 8] from 25 to 33 (fun v7 v8 wx => ∃ (bx : Nat) (ao : Option Addr) (cap : Nat), v7 = .slice ao nl cap ∧ v8 = .pointer (some ⟨bx, 0, none⟩) ∧ Hid (wx.heap[bx]? = some (.cells #[.int .i64 fa, .int .i64 fb, .int .i64 fc] 31 (0, 0)) ∧ wx.ownsRow w4.heap.size 3 1 (.slice ao nl cap) nl (HL.map (Value.int .i64)) ∧ Below w4.heap.size w4 wx))
      case first =>
        have HS0 : Hid (w4.drew.cell? ⟨R, 0, none⟩ = some (.slice e1 n1 g1) ∧ w4.drew.cell? ⟨R, 1, none⟩ = some (.slice e2 n2 g2) ∧ w4.drew.cell? ⟨R, 2, none⟩ = some (.slice e3 n3 g3) ∧ w4.drew.cell? (fd.add i) = some (.int .i64 f)) := hide (by obtain ⟨b0, b1, b2, b3⟩ := unhide HSS; exact ⟨b0, b1, b2, b3⟩)
        refine till_begin (S := fun w' => w'.cell? ⟨R, 0, none⟩ = some (.slice e1 n1 g1) ∧ w'.cell? ⟨R, 1, none⟩ = some (.slice e2 n2 g2) ∧ w'.cell? ⟨R, 2, none⟩ = some (.slice e3 n3 g3) ∧ w'.cell? (fd.add i) = some (.int .i64 f)) 11 (by kernel_rfl) ?_
        refine till_take 0 (v := .agg #[.slice e1 n1 g1, .slice e2 n2 g2, .slice e3 n3 g3]) (some 26) rfl rfl rfl (by kernel_rfl) (by kernel_rfl) (by kernel_rfl) (by kernel_rfl) (fun _ _ _ h => h) (Or.inl ⟨by rfl, fun u hu => by obtain ⟨b0, b1, b2, b3⟩ := hu; go_simp⟩) (unhide HS0) ?_
        try simp only [Act.put, List.setIfInBounds_toArray, List.set_cons_zero, List.set_cons_succ]
        refine till_take 1 (v := .slice (some fd) n cl) (some 27) rfl rfl rfl (by kernel_rfl) (by kernel_rfl) (by kernel_rfl) (by kernel_rfl) (fun _ _ _ h => h) (Or.inl ⟨by rfl, fun u hu => by obtain ⟨b0, b1, b2, b3⟩ := hu; go_simp⟩) (unhide HS0) ?_
        try simp only [Act.put, List.setIfInBounds_toArray, List.set_cons_zero, List.set_cons_succ]
        refine till_take 2 (v := .int .i64 (i : Int)) (some 28) rfl rfl rfl (by kernel_rfl) (by kernel_rfl) (by kernel_rfl) (by kernel_rfl) (fun _ _ _ h => h) (Or.inl ⟨by rfl, fun u hu => by obtain ⟨b0, b1, b2, b3⟩ := hu; go_simp⟩) (unhide HS0) ?_
        try simp only [Act.put, List.setIfInBounds_toArray, List.set_cons_zero, List.set_cons_succ]
        refine till_take 3 (v := .pointer (some (fd.add i))) (some 29) rfl rfl rfl (by kernel_rfl) (by kernel_rfl) (by kernel_rfl) (by kernel_rfl) (fun _ _ _ h => h) (Or.inl ⟨by rfl, fun u hu => by obtain ⟨b0, b1, b2, b3⟩ := hu; go_simp⟩) (unhide HS0) ?_
        try simp only [Act.put, List.setIfInBounds_toArray, List.set_cons_zero, List.set_cons_succ]
        refine till_take 4 (v := .int .i64 f) (some 30) rfl rfl rfl (by kernel_rfl) (by kernel_rfl) (by kernel_rfl) (by kernel_rfl) (fun _ _ _ h => h) (Or.inl ⟨by rfl, fun u hu => by obtain ⟨b0, b1, b2, b3⟩ := hu; go_simp⟩) (unhide HS0) ?_
        try simp only [Act.put, List.setIfInBounds_toArray, List.set_cons_zero, List.set_cons_succ]
        obtain ⟨W0, hW0⟩ : ∃ W0, w4.drew = W0 := ⟨_, rfl⟩
        have HY0 : Hid (Below w4.heap.size w4 W0) := hide (by rw [← hW0]; exact (Below.refl _ _).drew)
        try rw [hW0]
        rw [hW0] at HS0
        clear hW0
        refine till_two 5 9 (by kernel_rfl) rfl rfl (fun K hK => ?_) (fun K hK => ?_)
        · go_simp
          refine (unhide CH1 W0 (unhide HY0)).mono ?_
          rintro e W1 ⟨ao, ⟨cap, rfl, oo⟩, dd⟩
          have HS1 : Hid (W1.cell? ⟨R, 0, none⟩ = some (.slice e1 n1 g1) ∧ W1.cell? ⟨R, 1, none⟩ = some (.slice e2 n2 g2) ∧ W1.cell? ⟨R, 2, none⟩ = some (.slice e3 n3 g3) ∧ W1.cell? (fd.add i) = some (.int .i64 f)) := hide ⟨cell_up dd ((unhide HS0).1), cell_up dd ((unhide HS0).2.1), cell_up dd ((unhide HS0).2.2.1), cell_up dd ((unhide HS0).2.2.2)⟩
          have HY1 : Hid (Below w4.heap.size w4 W1) := hide ((unhide HY0).trans (dd.mono (unhide HY0).size))
          have HO1 : Hid (W1.ownsRow w4.heap.size 3 1 (.slice ao nl cap) nl (HL.map (Value.int .i64))) := hide (own_low oo (unhide HY0).size)
          clear dd oo
          go_wp2_with fail
          refine hK.out _ _ (Or.inr (unhide HS1)) ?_
          clear hK K HS0 HY0
          try simp only [Act.put, List.setIfInBounds_toArray, List.set_cons_zero, List.set_cons_succ]
          refine till_take 6 (v := .tuple #[.slice ao nl cap, .agg #[.int .i64 fa, .int .i64 fb, .int .i64 fc]]) (some 25) rfl rfl rfl (by kernel_rfl) (by kernel_rfl) (by kernel_rfl) (by kernel_rfl) (fun _ _ _ h => h) (Or.inl ⟨by rfl, fun u hu => by obtain ⟨b0, b1, b2, b3⟩ := hu; go_simp⟩) (unhide HS1) ?_
          try simp only [Act.put, List.setIfInBounds_toArray, List.set_cons_zero, List.set_cons_succ]
          refine till_take 7 (v := .slice ao nl cap) (some 32) rfl rfl rfl (by kernel_rfl) (by kernel_rfl) (by kernel_rfl) (by kernel_rfl) (fun _ _ _ h => h) (Or.inl ⟨by rfl, fun u hu => by obtain ⟨b0, b1, b2, b3⟩ := hu; go_simp⟩) (unhide HS1) ?_
          try simp only [Act.put, List.setIfInBounds_toArray, List.set_cons_zero, List.set_cons_succ]
          refine till_take 8 (v := .agg #[.int .i64 fa, .int .i64 fb, .int .i64 fc]) (some 33) rfl rfl rfl (by kernel_rfl) (by kernel_rfl) (by kernel_rfl) (by kernel_rfl) (fun _ _ _ h => h) (Or.inl ⟨by rfl, fun u hu => by obtain ⟨b0, b1, b2, b3⟩ := hu; go_simp⟩) (unhide HS1) ?_
          try simp only [Act.put, List.setIfInBounds_toArray, List.set_cons_zero, List.set_cons_succ]
          refine till_one 9 (by kernel_rfl) rfl (fun K hK => ?_)
          go_simp
          obtain ⟨W2, hW2⟩ : ∃ W, W1.alloc (.cells #[.int .i64 0, .int .i64 0, .int .i64 0] 31) = W := ⟨_, rfl⟩
          obtain ⟨bx, hbx⟩ : ∃ bx, W1.heap.size = bx := ⟨_, rfl⟩
          have dd : Below W1.heap.size W1 W2 := by rw [← hW2]; exact (Below.refl _ _).alloc (Nat.le_refl _) _
          have HX2 : Hid (W2.heap[bx]? = some (.cells #[.int .i64 0, .int .i64 0, .int .i64 0] 31 (0, 0))) := hide (by rw [← hW2, ← hbx]; exact heap_alloc_new W1 _)
          have HBX : Hid (w4.heap.size ≤ bx) := hide (by rw [← hbx]; exact (unhide HY1).size)
          have HA : Hid (∀ k, (Value.slice ao nl cap).ownBlock = some k → ¬ k = bx) := hide (fun k hk => by have := ((unhide HO1).lt k hk).2; omega)
          try rw [hW2]
          try rw [hbx]
          have HS2 : Hid (W2.cell? ⟨R, 0, none⟩ = some (.slice e1 n1 g1) ∧ W2.cell? ⟨R, 1, none⟩ = some (.slice e2 n2 g2) ∧ W2.cell? ⟨R, 2, none⟩ = some (.slice e3 n3 g3) ∧ W2.cell? (fd.add i) = some (.int .i64 f)) := hide ⟨cell_up dd ((unhide HS1).1), cell_up dd ((unhide HS1).2.1), cell_up dd ((unhide HS1).2.2.1), cell_up dd ((unhide HS1).2.2.2)⟩
          have HY2 : Hid (Below w4.heap.size w4 W2) := hide ((unhide HY1).trans (dd.mono (unhide HY1).size))
          have HO2 : Hid (W2.ownsRow w4.heap.size 3 1 (.slice ao nl cap) nl (HL.map (Value.int .i64))) := hide (own_below (unhide HO1) dd)
          refine hK.out _ _ (Or.inr (unhide HS2)) ?_
          clear hK K HS1 HY1 HO1 dd hW2 hbx
          try simp only [Act.put, List.setIfInBounds_toArray, List.set_cons_zero, List.set_cons_succ]
          refine till_one 10 (by kernel_rfl) rfl (fun K hK => ?_)
          go_simp
          refine hK.out _ _ (Or.inr (unhide HS2)) ?_
          clear hK K 
          try simp only [Act.put, List.setIfInBounds_toArray, List.set_cons_zero, List.set_cons_succ]
          refine till_one 11 (by kernel_rfl) rfl (fun K hK => ?_)
          obtain ⟨q0, q1, q2⟩ := row_cell3 (unhide HX2)
          have y0 := frozen_of_row W2 bx 0 _ _ (unhide HX2)
          have y1 := frozen_of_row W2 bx 1 _ _ (unhide HX2)
          have y2 := frozen_of_row W2 bx 2 _ _ (unhide HX2)
          go_simp
          refine hK.out _ _ (Or.inl (by first | rfl | trivial)) ?_
          clear hK K q0 q1 q2 y0 y1 y2
          try simp only [Act.put, List.setIfInBounds_toArray, List.set_cons_zero, List.set_cons_succ]
          refine till_done (by kernel_rfl) ?_ _
          go_wp2_with fail
          go_meet
          refine ⟨bx, ao, cap, rfl, rfl, hide ⟨set3 (unhide HX2) _ _ _, ?_, set3_below (unhide HY2) (unhide HBX) _ _ _⟩⟩
          refine own_later (unhide HO2) (fun b hl hb => ?_)
          have hne := unhide HA b hb
          rw [heap_setCell_other _ _ _ _ hne, heap_setCell_other _ _ _ _ hne, heap_setCell_other _ _ _ _ hne]
        · go_simp
          obtain ⟨W1, hW1⟩ : ∃ W, W0.alloc (.cells #[.int .i64 0, .int .i64 0, .int .i64 0] 31) = W := ⟨_, rfl⟩
          obtain ⟨bx, hbx⟩ : ∃ bx, W0.heap.size = bx := ⟨_, rfl⟩
          have dd : Below W0.heap.size W0 W1 := by rw [← hW1]; exact (Below.refl _ _).alloc (Nat.le_refl _) _
          have HX1 : Hid (W1.heap[bx]? = some (.cells #[.int .i64 0, .int .i64 0, .int .i64 0] 31 (0, 0))) := hide (by rw [← hW1, ← hbx]; exact heap_alloc_new W0 _)
          have HBX : Hid (w4.heap.size ≤ bx) := hide (by rw [← hbx]; exact (unhide HY0).size)
          try rw [hW1]
          try rw [hbx]
          have HS1 : Hid (W1.cell? ⟨R, 0, none⟩ = some (.slice e1 n1 g1) ∧ W1.cell? ⟨R, 1, none⟩ = some (.slice e2 n2 g2) ∧ W1.cell? ⟨R, 2, none⟩ = some (.slice e3 n3 g3) ∧ W1.cell? (fd.add i) = some (.int .i64 f)) := hide ⟨cell_up dd ((unhide HS0).1), cell_up dd ((unhide HS0).2.1), cell_up dd ((unhide HS0).2.2.1), cell_up dd ((unhide HS0).2.2.2)⟩
          have HY1 : Hid (Below w4.heap.size w4 W1) := hide ((unhide HY0).trans (dd.mono (unhide HY0).size))
          refine hK.out _ _ (Or.inr (unhide HS1)) ?_
          clear hK K HS0 HY0 dd hW1 hbx
          try simp only [Act.put, List.setIfInBounds_toArray, List.set_cons_zero, List.set_cons_succ]
          refine till_one 5 (by kernel_rfl) rfl (fun K hK => ?_)
          go_simp
          refine (unhide CH1 W1 (unhide HY1)).mono ?_
          rintro e W2 ⟨ao, ⟨cap, rfl, oo⟩, dd⟩
          have HS2 : Hid (W2.cell? ⟨R, 0, none⟩ = some (.slice e1 n1 g1) ∧ W2.cell? ⟨R, 1, none⟩ = some (.slice e2 n2 g2) ∧ W2.cell? ⟨R, 2, none⟩ = some (.slice e3 n3 g3) ∧ W2.cell? (fd.add i) = some (.int .i64 f)) := hide ⟨cell_up dd ((unhide HS1).1), cell_up dd ((unhide HS1).2.1), cell_up dd ((unhide HS1).2.2.1), cell_up dd ((unhide HS1).2.2.2)⟩
          have HY2 : Hid (Below w4.heap.size w4 W2) := hide ((unhide HY1).trans (dd.mono (unhide HY1).size))
          have HX2 : Hid (W2.heap[bx]? = some (.cells #[.int .i64 0, .int .i64 0, .int .i64 0] 31 (0, 0))) := hide ((dd.block bx (Array.getElem?_eq_some_iff.1 (unhide HX1)).1).trans (unhide HX1))
          have HO2 : Hid (W2.ownsRow w4.heap.size 3 1 (.slice ao nl cap) nl (HL.map (Value.int .i64))) := hide (own_low oo (unhide HY1).size)
          have HA : Hid (∀ k, (Value.slice ao nl cap).ownBlock = some k → ¬ k = bx) := hide (fun k hk => by have := (oo.lt k hk).1; have := (Array.getElem?_eq_some_iff.1 (unhide HX1)).1; omega)
          clear dd oo
          go_wp2_with fail
          refine hK.out _ _ (Or.inr (unhide HS2)) ?_
          clear hK K HS1 HY1 HX1
          try simp only [Act.put, List.setIfInBounds_toArray, List.set_cons_zero, List.set_cons_succ]
          refine till_take 6 (v := .tuple #[.slice ao nl cap, .agg #[.int .i64 fa, .int .i64 fb, .int .i64 fc]]) (some 25) rfl rfl rfl (by kernel_rfl) (by kernel_rfl) (by kernel_rfl) (by kernel_rfl) (fun _ _ _ h => h) (Or.inl ⟨by rfl, fun u hu => by obtain ⟨b0, b1, b2, b3⟩ := hu; go_simp⟩) (unhide HS2) ?_
          try simp only [Act.put, List.setIfInBounds_toArray, List.set_cons_zero, List.set_cons_succ]
          refine till_take 7 (v := .slice ao nl cap) (some 32) rfl rfl rfl (by kernel_rfl) (by kernel_rfl) (by kernel_rfl) (by kernel_rfl) (fun _ _ _ h => h) (Or.inl ⟨by rfl, fun u hu => by obtain ⟨b0, b1, b2, b3⟩ := hu; go_simp⟩) (unhide HS2) ?_
          try simp only [Act.put, List.setIfInBounds_toArray, List.set_cons_zero, List.set_cons_succ]
          refine till_take 8 (v := .agg #[.int .i64 fa, .int .i64 fb, .int .i64 fc]) (some 33) rfl rfl rfl (by kernel_rfl) (by kernel_rfl) (by kernel_rfl) (by kernel_rfl) (fun _ _ _ h => h) (Or.inl ⟨by rfl, fun u hu => by obtain ⟨b0, b1, b2, b3⟩ := hu; go_simp⟩) (unhide HS2) ?_
          try simp only [Act.put, List.setIfInBounds_toArray, List.set_cons_zero, List.set_cons_succ]
          refine till_one 10 (by kernel_rfl) rfl (fun K hK => ?_)
          go_simp
          refine hK.out _ _ (Or.inr (unhide HS2)) ?_
          clear hK K 
          try simp only [Act.put, List.setIfInBounds_toArray, List.set_cons_zero, List.set_cons_succ]
          refine till_one 11 (by kernel_rfl) rfl (fun K hK => ?_)
          obtain ⟨q0, q1, q2⟩ := row_cell3 (unhide HX2)
          have y0 := frozen_of_row W2 bx 0 _ _ (unhide HX2)
          have y1 := frozen_of_row W2 bx 1 _ _ (unhide HX2)
          have y2 := frozen_of_row W2 bx 2 _ _ (unhide HX2)
          go_simp
          refine hK.out _ _ (Or.inl (by first | rfl | trivial)) ?_
          clear hK K q0 q1 q2 y0 y1 y2
          try simp only [Act.put, List.setIfInBounds_toArray, List.set_cons_zero, List.set_cons_succ]
          refine till_done (by kernel_rfl) ?_ _
          go_wp2_with fail
          go_meet
          refine ⟨bx, ao, cap, rfl, rfl, hide ⟨set3 (unhide HX2) _ _ _, ?_, set3_below (unhide HY2) (unhide HBX) _ _ _⟩⟩
          refine own_later (unhide HO2) (fun b hl hb => ?_)
          have hne := unhide HA b hb
          rw [heap_setCell_other _ _ _ _ hne, heap_setCell_other _ _ _ _ hne, heap_setCell_other _ _ _ _ hne]
      case rest =>
        obtain ⟨bx5, a5, q5, rfl, rfl, HC5⟩ := hcut
        obtain ⟨w5, hwc⟩ : ∃ u, u = wc := ⟨_, rfl⟩
        subst hwc
        have BB5 : Hid (Below w4.heap.size w4 w5) := hide ((unhide HC5).2.2)
        have CH2 : Hid (∀ u, Below w5.heap.size w5 u → Calls Tryz.prog 10 #[.agg #[.slice e1 n1 g1, .slice e2 n2 g2, .slice e3 n3 g3], .int .i64 f] u fun e w' => ∃ ao, (∃ cap, e = .returned (.tuple #[.slice ao nl cap, .agg #[.int .i64 fa, .int .i64 fb, .int .i64 fc]]) ∧ w'.ownsRow u.heap.size 3 1 (.slice ao nl cap) nl (HL.map (Value.int .i64))) ∧ Below u.heap.size u w') := hide (fun u hu => unhide CH1 u ((unhide BB5).trans (hu.mono (unhide BB5).size)))
        have HSS : Hid (w5.cell? ⟨R, 0, none⟩ = some (.slice e1 n1 g1) ∧ w5.cell? ⟨R, 1, none⟩ = some (.slice e2 n2 g2) ∧ w5.cell? ⟨R, 2, none⟩ = some (.slice e3 n3 g3) ∧ w5.cell? (fd.add i) = some (.int .i64 f)) := hide (by obtain ⟨x0, x1, x2, x3, x4, x5, x6, _⟩ := unhide KM w5 (unhide BB5); exact ⟨x0, x1, x2, x6⟩)
        go_upto_region 6 with fail
        go_cut [9, 10] from 34 to 42 (fun v7 v8 wx => ∃ (bx : Nat) (ao : Option Addr) (cap : Nat), v7 = .slice ao nl cap ∧ v8 = .pointer (some ⟨bx, 0, none⟩) ∧ Hid (wx.heap[bx]? = some (.cells #[.int .i64 fa, .int .i64 fb, .int .i64 fc] 31 (0, 0)) ∧ wx.ownsRow w5.heap.size 3 1 (.slice ao nl cap) nl (HL.map (Value.int .i64)) ∧ Below w5.heap.size w5 wx))
        case first =>
          have HS0 : Hid (w5.drew.cell? ⟨R, 0, none⟩ = some (.slice e1 n1 g1) ∧ w5.drew.cell? ⟨R, 1, none⟩ = some (.slice e2 n2 g2) ∧ w5.drew.cell? ⟨R, 2, none⟩ = some (.slice e3 n3 g3) ∧ w5.drew.cell? (fd.add i) = some (.int .i64 f)) := hide (by obtain ⟨b0, b1, b2, b3⟩ := unhide HSS; exact ⟨b0, b1, b2, b3⟩)
          refine till_begin (S := fun w' => w'.cell? ⟨R, 0, none⟩ = some (.slice e1 n1 g1) ∧ w'.cell? ⟨R, 1, none⟩ = some (.slice e2 n2 g2) ∧ w'.cell? ⟨R, 2, none⟩ = some (.slice e3 n3 g3) ∧ w'.cell? (fd.add i) = some (.int .i64 f)) 11 (by kernel_rfl) ?_
          refine till_take 0 (v := .agg #[.slice e1 n1 g1, .slice e2 n2 g2, .slice e3 n3 g3]) (some 35) rfl rfl rfl (by kernel_rfl) (by kernel_rfl) (by kernel_rfl) (by kernel_rfl) (fun _ _ _ h => h) (Or.inl ⟨by rfl, fun u hu => by obtain ⟨b0, b1, b2, b3⟩ := hu; go_simp⟩) (unhide HS0) ?_
          try simp only [Act.put, List.setIfInBounds_toArray, List.set_cons_zero, List.set_cons_succ]
          refine till_take 1 (v := .slice (some fd) n cl) (some 36) rfl rfl rfl (by kernel_rfl) (by kernel_rfl) (by kernel_rfl) (by kernel_rfl) (fun _ _ _ h => h) (Or.inl ⟨by rfl, fun u hu => by obtain ⟨b0, b1, b2, b3⟩ := hu; go_simp⟩) (unhide HS0) ?_
          try simp only [Act.put, List.setIfInBounds_toArray, List.set_cons_zero, List.set_cons_succ]
          refine till_take 2 (v := .int .i64 (i : Int)) (some 37) rfl rfl rfl (by kernel_rfl) (by kernel_rfl) (by kernel_rfl) (by kernel_rfl) (fun _ _ _ h => h) (Or.inl ⟨by rfl, fun u hu => by obtain ⟨b0, b1, b2, b3⟩ := hu; go_simp⟩) (unhide HS0) ?_
          try simp only [Act.put, List.setIfInBounds_toArray, List.set_cons_zero, List.set_cons_succ]
          refine till_take 3 (v := .pointer (some (fd.add i))) (some 38) rfl rfl rfl (by kernel_rfl) (by kernel_rfl) (by kernel_rfl) (by kernel_rfl) (fun _ _ _ h => h) (Or.inl ⟨by rfl, fun u hu => by obtain ⟨b0, b1, b2, b3⟩ := hu; go_simp⟩) (unhide HS0) ?_
          try simp only [Act.put, List.setIfInBounds_toArray, List.set_cons_zero, List.set_cons_succ]
          refine till_take 4 (v := .int .i64 f) (some 39) rfl rfl rfl (by kernel_rfl) (by kernel_rfl) (by kernel_rfl) (by kernel_rfl) (fun _ _ _ h => h) (Or.inl ⟨by rfl, fun u hu => by obtain ⟨b0, b1, b2, b3⟩ := hu; go_simp⟩) (unhide HS0) ?_
          try simp only [Act.put, List.setIfInBounds_toArray, List.set_cons_zero, List.set_cons_succ]
          obtain ⟨W0, hW0⟩ : ∃ W0, w5.drew = W0 := ⟨_, rfl⟩
          have HY0 : Hid (Below w5.heap.size w5 W0) := hide (by rw [← hW0]; exact (Below.refl _ _).drew)
          try rw [hW0]
          rw [hW0] at HS0
          clear hW0
          refine till_two 5 9 (by kernel_rfl) rfl rfl (fun K hK => ?_) (fun K hK => ?_)
          · go_simp
            refine (unhide CH2 W0 (unhide HY0)).mono ?_
            rintro e W1 ⟨ao, ⟨cap, rfl, oo⟩, dd⟩
            have HS1 : Hid (W1.cell? ⟨R, 0, none⟩ = some (.slice e1 n1 g1) ∧ W1.cell? ⟨R, 1, none⟩ = some (.slice e2 n2 g2) ∧ W1.cell? ⟨R, 2, none⟩ = some (.slice e3 n3 g3) ∧ W1.cell? (fd.add i) = some (.int .i64 f)) := hide ⟨cell_up dd ((unhide HS0).1), cell_up dd ((unhide HS0).2.1), cell_up dd ((unhide HS0).2.2.1), cell_up dd ((unhide HS0).2.2.2)⟩
            have HY1 : Hid (Below w5.heap.size w5 W1) := hide ((unhide HY0).trans (dd.mono (unhide HY0).size))
            have HO1 : Hid (W1.ownsRow w5.heap.size 3 1 (.slice ao nl cap) nl (HL.map (Value.int .i64))) := hide (own_low oo (unhide HY0).size)
            clear dd oo
            go_wp2_with fail
            refine hK.out _ _ (Or.inr (unhide HS1)) ?_
            clear hK K HS0 HY0
            try simp only [Act.put, List.setIfInBounds_toArray, List.set_cons_zero, List.set_cons_succ]
            refine till_take 6 (v := .tuple #[.slice ao nl cap, .agg #[.int .i64 fa, .int .i64 fb, .int .i64 fc]]) (some 34) rfl rfl rfl (by kernel_rfl) (by kernel_rfl) (by kernel_rfl) (by kernel_rfl) (fun _ _ _ h => h) (Or.inl ⟨by rfl, fun u hu => by obtain ⟨b0, b1, b2, b3⟩ := hu; go_simp⟩) (unhide HS1) ?_
            try simp only [Act.put, List.setIfInBounds_toArray, List.set_cons_zero, List.set_cons_succ]
            refine till_take 7 (v := .slice ao nl cap) (some 41) rfl rfl rfl (by kernel_rfl) (by kernel_rfl) (by kernel_rfl) (by kernel_rfl) (fun _ _ _ h => h) (Or.inl ⟨by rfl, fun u hu => by obtain ⟨b0, b1, b2, b3⟩ := hu; go_simp⟩) (unhide HS1) ?_
            try simp only [Act.put, List.setIfInBounds_toArray, List.set_cons_zero, List.set_cons_succ]
            refine till_take 8 (v := .agg #[.int .i64 fa, .int .i64 fb, .int .i64 fc]) (some 42) rfl rfl rfl (by kernel_rfl) (by kernel_rfl) (by kernel_rfl) (by kernel_rfl) (fun _ _ _ h => h) (Or.inl ⟨by rfl, fun u hu => by obtain ⟨b0, b1, b2, b3⟩ := hu; go_simp⟩) (unhide HS1) ?_
            try simp only [Act.put, List.setIfInBounds_toArray, List.set_cons_zero, List.set_cons_succ]
            refine till_one 9 (by kernel_rfl) rfl (fun K hK => ?_)
            go_simp
            obtain ⟨W2, hW2⟩ : ∃ W, W1.alloc (.cells #[.int .i64 0, .int .i64 0, .int .i64 0] 31) = W := ⟨_, rfl⟩
            obtain ⟨bx, hbx⟩ : ∃ bx, W1.heap.size = bx := ⟨_, rfl⟩
            have dd : Below W1.heap.size W1 W2 := by rw [← hW2]; exact (Below.refl _ _).alloc (Nat.le_refl _) _
            have HX2 : Hid (W2.heap[bx]? = some (.cells #[.int .i64 0, .int .i64 0, .int .i64 0] 31 (0, 0))) := hide (by rw [← hW2, ← hbx]; exact heap_alloc_new W1 _)
            have HBX : Hid (w5.heap.size ≤ bx) := hide (by rw [← hbx]; exact (unhide HY1).size)
            have HA : Hid (∀ k, (Value.slice ao nl cap).ownBlock = some k → ¬ k = bx) := hide (fun k hk => by have := ((unhide HO1).lt k hk).2; omega)
            try rw [hW2]
            try rw [hbx]
            have HS2 : Hid (W2.cell? ⟨R, 0, none⟩ = some (.slice e1 n1 g1) ∧ W2.cell? ⟨R, 1, none⟩ = some (.slice e2 n2 g2) ∧ W2.cell? ⟨R, 2, none⟩ = some (.slice e3 n3 g3) ∧ W2.cell? (fd.add i) = some (.int .i64 f)) := hide ⟨cell_up dd ((unhide HS1).1), cell_up dd ((unhide HS1).2.1), cell_up dd ((unhide HS1).2.2.1), cell_up dd ((unhide HS1).2.2.2)⟩
            have HY2 : Hid (Below w5.heap.size w5 W2) := hide ((unhide HY1).trans (dd.mono (unhide HY1).size))
            have HO2 : Hid (W2.ownsRow w5.heap.size 3 1 (.slice ao nl cap) nl (HL.map (Value.int .i64))) := hide (own_below (unhide HO1) dd)
            refine hK.out _ _ (Or.inr (unhide HS2)) ?_
            clear hK K HS1 HY1 HO1 dd hW2 hbx
            try simp only [Act.put, List.setIfInBounds_toArray, List.set_cons_zero, List.set_cons_succ]
            refine till_one 10 (by kernel_rfl) rfl (fun K hK => ?_)
            go_simp
            refine hK.out _ _ (Or.inr (unhide HS2)) ?_
            clear hK K 
            try simp only [Act.put, List.setIfInBounds_toArray, List.set_cons_zero, List.set_cons_succ]
            refine till_one 11 (by kernel_rfl) rfl (fun K hK => ?_)
            obtain ⟨q0, q1, q2⟩ := row_cell3 (unhide HX2)
            have y0 := frozen_of_row W2 bx 0 _ _ (unhide HX2)
            have y1 := frozen_of_row W2 bx 1 _ _ (unhide HX2)
            have y2 := frozen_of_row W2 bx 2 _ _ (unhide HX2)
            go_simp
            refine hK.out _ _ (Or.inl (by first | rfl | trivial)) ?_
            clear hK K q0 q1 q2 y0 y1 y2
            try simp only [Act.put, List.setIfInBounds_toArray, List.set_cons_zero, List.set_cons_succ]
            refine till_done (by kernel_rfl) ?_ _
            go_wp2_with fail
            go_meet
            refine ⟨bx, ao, cap, rfl, rfl, hide ⟨set3 (unhide HX2) _ _ _, ?_, set3_below (unhide HY2) (unhide HBX) _ _ _⟩⟩
            refine own_later (unhide HO2) (fun b hl hb => ?_)
            have hne := unhide HA b hb
            rw [heap_setCell_other _ _ _ _ hne, heap_setCell_other _ _ _ _ hne, heap_setCell_other _ _ _ _ hne]
          · go_simp
            obtain ⟨W1, hW1⟩ : ∃ W, W0.alloc (.cells #[.int .i64 0, .int .i64 0, .int .i64 0] 31) = W := ⟨_, rfl⟩
            obtain ⟨bx, hbx⟩ : ∃ bx, W0.heap.size = bx := ⟨_, rfl⟩
            have dd : Below W0.heap.size W0 W1 := by rw [← hW1]; exact (Below.refl _ _).alloc (Nat.le_refl _) _
            have HX1 : Hid (W1.heap[bx]? = some (.cells #[.int .i64 0, .int .i64 0, .int .i64 0] 31 (0, 0))) := hide (by rw [← hW1, ← hbx]; exact heap_alloc_new W0 _)
            have HBX : Hid (w5.heap.size ≤ bx) := hide (by rw [← hbx]; exact (unhide HY0).size)
            try rw [hW1]
            try rw [hbx]
            have HS1 : Hid (W1.cell? ⟨R, 0, none⟩ = some (.slice e1 n1 g1) ∧ W1.cell? ⟨R, 1, none⟩ = some (.slice e2 n2 g2) ∧ W1.cell? ⟨R, 2, none⟩ = some (.slice e3 n3 g3) ∧ W1.cell? (fd.add i) = some (.int .i64 f)) := hide ⟨cell_up dd ((unhide HS0).1), cell_up dd ((unhide HS0).2.1), cell_up dd ((unhide HS0).2.2.1), cell_up dd ((unhide HS0).2.2.2)⟩
            have HY1 : Hid (Below w5.heap.size w5 W1) := hide ((unhide HY0).trans (dd.mono (unhide HY0).size))
            refine hK.out _ _ (Or.inr (unhide HS1)) ?_
            clear hK K HS0 HY0 dd hW1 hbx
            try simp only [Act.put, List.setIfInBounds_toArray, List.set_cons_zero, List.set_cons_succ]
            refine till_one 5 (by kernel_rfl) rfl (fun K hK => ?_)
            go_simp
            refine (unhide CH2 W1 (unhide HY1)).mono ?_
            rintro e W2 ⟨ao, ⟨cap, rfl, oo⟩, dd⟩
            have HS2 : Hid (W2.cell? ⟨R, 0, none⟩ = some (.slice e1 n1 g1) ∧ W2.cell? ⟨R, 1, none⟩ = some (.slice e2 n2 g2) ∧ W2.cell? ⟨R, 2, none⟩ = some (.slice e3 n3 g3) ∧ W2.cell? (fd.add i) = some (.int .i64 f)) := hide ⟨cell_up dd ((unhide HS1).1), cell_up dd ((unhide HS1).2.1), cell_up dd ((unhide HS1).2.2.1), cell_up dd ((unhide HS1).2.2.2)⟩
            have HY2 : Hid (Below w5.heap.size w5 W2) := hide ((unhide HY1).trans (dd.mono (unhide HY1).size))
            have HX2 : Hid (W2.heap[bx]? = some (.cells #[.int .i64 0, .int .i64 0, .int .i64 0] 31 (0, 0))) := hide ((dd.block bx (Array.getElem?_eq_some_iff.1 (unhide HX1)).1).trans (unhide HX1))
            have HO2 : Hid (W2.ownsRow w5.heap.size 3 1 (.slice ao nl cap) nl (HL.map (Value.int .i64))) := hide (own_low oo (unhide HY1).size)
            have HA : Hid (∀ k, (Value.slice ao nl cap).ownBlock = some k → ¬ k = bx) := hide (fun k hk => by have := (oo.lt k hk).1; have := (Array.getElem?_eq_some_iff.1 (unhide HX1)).1; omega)
            clear dd oo
            go_wp2_with fail
            refine hK.out _ _ (Or.inr (unhide HS2)) ?_
            clear hK K HS1 HY1 HX1
            try simp only [Act.put, List.setIfInBounds_toArray, List.set_cons_zero, List.set_cons_succ]
            refine till_take 6 (v := .tuple #[.slice ao nl cap, .agg #[.int .i64 fa, .int .i64 fb, .int .i64 fc]]) (some 34) rfl rfl rfl (by kernel_rfl) (by kernel_rfl) (by kernel_rfl) (by kernel_rfl) (fun _ _ _ h => h) (Or.inl ⟨by rfl, fun u hu => by obtain ⟨b0, b1, b2, b3⟩ := hu; go_simp⟩) (unhide HS2) ?_
            try simp only [Act.put, List.setIfInBounds_toArray, List.set_cons_zero, List.set_cons_succ]
            refine till_take 7 (v := .slice ao nl cap) (some 41) rfl rfl rfl (by kernel_rfl) (by kernel_rfl) (by kernel_rfl) (by kernel_rfl) (fun _ _ _ h => h) (Or.inl ⟨by rfl, fun u hu => by obtain ⟨b0, b1, b2, b3⟩ := hu; go_simp⟩) (unhide HS2) ?_
            try simp only [Act.put, List.setIfInBounds_toArray, List.set_cons_zero, List.set_cons_succ]
            refine till_take 8 (v := .agg #[.int .i64 fa, .int .i64 fb, .int .i64 fc]) (some 42) rfl rfl rfl (by kernel_rfl) (by kernel_rfl) (by kernel_rfl) (by kernel_rfl) (fun _ _ _ h => h) (Or.inl ⟨by rfl, fun u hu => by obtain ⟨b0, b1, b2, b3⟩ := hu; go_simp⟩) (unhide HS2) ?_
            try simp only [Act.put, List.setIfInBounds_toArray, List.set_cons_zero, List.set_cons_succ]
            refine till_one 10 (by kernel_rfl) rfl (fun K hK => ?_)
            go_simp
            refine hK.out _ _ (Or.inr (unhide HS2)) ?_
            clear hK K 
            try simp only [Act.put, List.setIfInBounds_toArray, List.set_cons_zero, List.set_cons_succ]
            refine till_one 11 (by kernel_rfl) rfl (fun K hK => ?_)
            obtain ⟨q0, q1, q2⟩ := row_cell3 (unhide HX2)
            have y0 := frozen_of_row W2 bx 0 _ _ (unhide HX2)
            have y1 := frozen_of_row W2 bx 1 _ _ (unhide HX2)
            have y2 := frozen_of_row W2 bx 2 _ _ (unhide HX2)
            go_simp
            refine hK.out _ _ (Or.inl (by first | rfl | trivial)) ?_
            clear hK K q0 q1 q2 y0 y1 y2
            try simp only [Act.put, List.setIfInBounds_toArray, List.set_cons_zero, List.set_cons_succ]
            refine till_done (by kernel_rfl) ?_ _
            go_wp2_with fail
            go_meet
            refine ⟨bx, ao, cap, rfl, rfl, hide ⟨set3 (unhide HX2) _ _ _, ?_, set3_below (unhide HY2) (unhide HBX) _ _ _⟩⟩
            refine own_later (unhide HO2) (fun b hl hb => ?_)
            have hne := unhide HA b hb
            rw [heap_setCell_other _ _ _ _ hne, heap_setCell_other _ _ _ _ hne, heap_setCell_other _ _ _ _ hne]
        case rest =>
          obtain ⟨bx6, a6, q6, rfl, rfl, HC6⟩ := hcut
          obtain ⟨w6, hwc⟩ : ∃ u, u = wc := ⟨_, rfl⟩
          subst hwc
          have BB6 : Hid (Below w4.heap.size w4 w6) := hide ((unhide BB5).trans ((unhide HC6).2.2.mono (unhide BB5).size))
          have CH4 : Hid (∀ u, Below w6.heap.size w6 u → Calls Tryz.prog 11 #[.agg #[.slice b1 n1 d1, .slice b2 n2 d2, .slice b3 n3 d3], .int .i64 f] u fun e w' => ∃ ao, (∃ cap, e = .returned (.tuple #[.slice ao nl cap, .agg #[.int .i64 fa, .int .i64 fb, .int .i64 fc]]) ∧ w'.ownsRow u.heap.size 3 1 (.slice ao nl cap) nl (HL.map (Value.int .i64))) ∧ Below u.heap.size u w') := hide (fun u hu => unhide CH3 u ((unhide BB6).trans (hu.mono (unhide BB6).size)))
          have HSS : Hid (w6.cell? ⟨G, 0, none⟩ = some (.slice b1 n1 d1) ∧ w6.cell? ⟨G, 1, none⟩ = some (.slice b2 n2 d2) ∧ w6.cell? ⟨G, 2, none⟩ = some (.slice b3 n3 d3) ∧ w6.cell? (fd.add i) = some (.int .i64 f)) := hide (by obtain ⟨x0, x1, x2, x3, x4, x5, x6, _⟩ := unhide KM w6 (unhide BB6); exact ⟨x3, x4, x5, x6⟩)
          go_upto_region 7 with fail
          go_cut [11, 12] from 43 to 51 (fun v7 v8 wx => ∃ (bx : Nat) (ao : Option Addr) (cap : Nat), v7 = .slice ao nl cap ∧ v8 = .pointer (some ⟨bx, 0, none⟩) ∧ Hid (wx.heap[bx]? = some (.cells #[.int .i64 fa, .int .i64 fb, .int .i64 fc] 31 (0, 0)) ∧ wx.ownsRow w6.heap.size 3 1 (.slice ao nl cap) nl (HL.map (Value.int .i64)) ∧ Below w6.heap.size w6 wx))
          case first =>
            have HS0 : Hid (w6.drew.cell? ⟨G, 0, none⟩ = some (.slice b1 n1 d1) ∧ w6.drew.cell? ⟨G, 1, none⟩ = some (.slice b2 n2 d2) ∧ w6.drew.cell? ⟨G, 2, none⟩ = some (.slice b3 n3 d3) ∧ w6.drew.cell? (fd.add i) = some (.int .i64 f)) := hide (by obtain ⟨b0, b1, b2, b3⟩ := unhide HSS; exact ⟨b0, b1, b2, b3⟩)
            refine till_begin (S := fun w' => w'.cell? ⟨G, 0, none⟩ = some (.slice b1 n1 d1) ∧ w'.cell? ⟨G, 1, none⟩ = some (.slice b2 n2 d2) ∧ w'.cell? ⟨G, 2, none⟩ = some (.slice b3 n3 d3) ∧ w'.cell? (fd.add i) = some (.int .i64 f)) 11 (by kernel_rfl) ?_
            refine till_take 0 (v := .agg #[.slice b1 n1 d1, .slice b2 n2 d2, .slice b3 n3 d3]) (some 44) rfl rfl rfl (by kernel_rfl) (by kernel_rfl) (by kernel_rfl) (by kernel_rfl) (fun _ _ _ h => h) (Or.inl ⟨by rfl, fun u hu => by obtain ⟨b0, b1, b2, b3⟩ := hu; go_simp⟩) (unhide HS0) ?_
            try simp only [Act.put, List.setIfInBounds_toArray, List.set_cons_zero, List.set_cons_succ]
            refine till_take 1 (v := .slice (some fd) n cl) (some 45) rfl rfl rfl (by kernel_rfl) (by kernel_rfl) (by kernel_rfl) (by kernel_rfl) (fun _ _ _ h => h) (Or.inl ⟨by rfl, fun u hu => by obtain ⟨b0, b1, b2, b3⟩ := hu; go_simp⟩) (unhide HS0) ?_
            try simp only [Act.put, List.setIfInBounds_toArray, List.set_cons_zero, List.set_cons_succ]
            refine till_take 2 (v := .int .i64 (i : Int)) (some 46) rfl rfl rfl (by kernel_rfl) (by kernel_rfl) (by kernel_rfl) (by kernel_rfl) (fun _ _ _ h => h) (Or.inl ⟨by rfl, fun u hu => by obtain ⟨b0, b1, b2, b3⟩ := hu; go_simp⟩) (unhide HS0) ?_
            try simp only [Act.put, List.setIfInBounds_toArray, List.set_cons_zero, List.set_cons_succ]
            refine till_take 3 (v := .pointer (some (fd.add i))) (some 47) rfl rfl rfl (by kernel_rfl) (by kernel_rfl) (by kernel_rfl) (by kernel_rfl) (fun _ _ _ h => h) (Or.inl ⟨by rfl, fun u hu => by obtain ⟨b0, b1, b2, b3⟩ := hu; go_simp⟩) (unhide HS0) ?_
            try simp only [Act.put, List.setIfInBounds_toArray, List.set_cons_zero, List.set_cons_succ]
            refine till_take 4 (v := .int .i64 f) (some 48) rfl rfl rfl (by kernel_rfl) (by kernel_rfl) (by kernel_rfl) (by kernel_rfl) (fun _ _ _ h => h) (Or.inl ⟨by rfl, fun u hu => by obtain ⟨b0, b1, b2, b3⟩ := hu; go_simp⟩) (unhide HS0) ?_
            try simp only [Act.put, List.setIfInBounds_toArray, List.set_cons_zero, List.set_cons_succ]
            obtain ⟨W0, hW0⟩ : ∃ W0, w6.drew = W0 := ⟨_, rfl⟩
            have HY0 : Hid (Below w6.heap.size w6 W0) := hide (by rw [← hW0]; exact (Below.refl _ _).drew)
            try rw [hW0]
            rw [hW0] at HS0
            clear hW0
            refine till_two 5 9 (by kernel_rfl) rfl rfl (fun K hK => ?_) (fun K hK => ?_)
            · go_simp
              refine (unhide CH4 W0 (unhide HY0)).mono ?_
              rintro e W1 ⟨ao, ⟨cap, rfl, oo⟩, dd⟩
              have HS1 : Hid (W1.cell? ⟨G, 0, none⟩ = some (.slice b1 n1 d1) ∧ W1.cell? ⟨G, 1, none⟩ = some (.slice b2 n2 d2) ∧ W1.cell? ⟨G, 2, none⟩ = some (.slice b3 n3 d3) ∧ W1.cell? (fd.add i) = some (.int .i64 f)) := hide ⟨cell_up dd ((unhide HS0).1), cell_up dd ((unhide HS0).2.1), cell_up dd ((unhide HS0).2.2.1), cell_up dd ((unhide HS0).2.2.2)⟩
              have HY1 : Hid (Below w6.heap.size w6 W1) := hide ((unhide HY0).trans (dd.mono (unhide HY0).size))
              have HO1 : Hid (W1.ownsRow w6.heap.size 3 1 (.slice ao nl cap) nl (HL.map (Value.int .i64))) := hide (own_low oo (unhide HY0).size)
              clear dd oo
              go_wp2_with fail
              refine hK.out _ _ (Or.inr (unhide HS1)) ?_
              clear hK K HS0 HY0
              try simp only [Act.put, List.setIfInBounds_toArray, List.set_cons_zero, List.set_cons_succ]
              refine till_take 6 (v := .tuple #[.slice ao nl cap, .agg #[.int .i64 fa, .int .i64 fb, .int .i64 fc]]) (some 43) rfl rfl rfl (by kernel_rfl) (by kernel_rfl) (by kernel_rfl) (by kernel_rfl) (fun _ _ _ h => h) (Or.inl ⟨by rfl, fun u hu => by obtain ⟨b0, b1, b2, b3⟩ := hu; go_simp⟩) (unhide HS1) ?_
              try simp only [Act.put, List.setIfInBounds_toArray, List.set_cons_zero, List.set_cons_succ]
              refine till_take 7 (v := .slice ao nl cap) (some 50) rfl rfl rfl (by kernel_rfl) (by kernel_rfl) (by kernel_rfl) (by kernel_rfl) (fun _ _ _ h => h) (Or.inl ⟨by rfl, fun u hu => by obtain ⟨b0, b1, b2, b3⟩ := hu; go_simp⟩) (unhide HS1) ?_
              try simp only [Act.put, List.setIfInBounds_toArray, List.set_cons_zero, List.set_cons_succ]
              refine till_take 8 (v := .agg #[.int .i64 fa, .int .i64 fb, .int .i64 fc]) (some 51) rfl rfl rfl (by kernel_rfl) (by kernel_rfl) (by kernel_rfl) (by kernel_rfl) (fun _ _ _ h => h) (Or.inl ⟨by rfl, fun u hu => by obtain ⟨b0, b1, b2, b3⟩ := hu; go_simp⟩) (unhide HS1) ?_
              try simp only [Act.put, List.setIfInBounds_toArray, List.set_cons_zero, List.set_cons_succ]
              refine till_one 9 (by kernel_rfl) rfl (fun K hK => ?_)
              go_simp
              obtain ⟨W2, hW2⟩ : ∃ W, W1.alloc (.cells #[.int .i64 0, .int .i64 0, .int .i64 0] 31) = W := ⟨_, rfl⟩
              obtain ⟨bx, hbx⟩ : ∃ bx, W1.heap.size = bx := ⟨_, rfl⟩
              have dd : Below W1.heap.size W1 W2 := by rw [← hW2]; exact (Below.refl _ _).alloc (Nat.le_refl _) _
              have HX2 : Hid (W2.heap[bx]? = some (.cells #[.int .i64 0, .int .i64 0, .int .i64 0] 31 (0, 0))) := hide (by rw [← hW2, ← hbx]; exact heap_alloc_new W1 _)
              have HBX : Hid (w6.heap.size ≤ bx) := hide (by rw [← hbx]; exact (unhide HY1).size)
              have HA : Hid (∀ k, (Value.slice ao nl cap).ownBlock = some k → ¬ k = bx) := hide (fun k hk => by have := ((unhide HO1).lt k hk).2; omega)
              try rw [hW2]
              try rw [hbx]
              have HS2 : Hid (W2.cell? ⟨G, 0, none⟩ = some (.slice b1 n1 d1) ∧ W2.cell? ⟨G, 1, none⟩ = some (.slice b2 n2 d2) ∧ W2.cell? ⟨G, 2, none⟩ = some (.slice b3 n3 d3) ∧ W2.cell? (fd.add i) = some (.int .i64 f)) := hide ⟨cell_up dd ((unhide HS1).1), cell_up dd ((unhide HS1).2.1), cell_up dd ((unhide HS1).2.2.1), cell_up dd ((unhide HS1).2.2.2)⟩
              have HY2 : Hid (Below w6.heap.size w6 W2) := hide ((unhide HY1).trans (dd.mono (unhide HY1).size))
              have HO2 : Hid (W2.ownsRow w6.heap.size 3 1 (.slice ao nl cap) nl (HL.map (Value.int .i64))) := hide (own_below (unhide HO1) dd)
              refine hK.out _ _ (Or.inr (unhide HS2)) ?_
              clear hK K HS1 HY1 HO1 dd hW2 hbx
              try simp only [Act.put, List.setIfInBounds_toArray, List.set_cons_zero, List.set_cons_succ]
              refine till_one 10 (by kernel_rfl) rfl (fun K hK => ?_)
              go_simp
              refine hK.out _ _ (Or.inr (unhide HS2)) ?_
              clear hK K 
              try simp only [Act.put, List.setIfInBounds_toArray, List.set_cons_zero, List.set_cons_succ]
              refine till_one 11 (by kernel_rfl) rfl (fun K hK => ?_)
              obtain ⟨q0, q1, q2⟩ := row_cell3 (unhide HX2)
              have y0 := frozen_of_row W2 bx 0 _ _ (unhide HX2)
              have y1 := frozen_of_row W2 bx 1 _ _ (unhide HX2)
              have y2 := frozen_of_row W2 bx 2 _ _ (unhide HX2)
              go_simp
              refine hK.out _ _ (Or.inl (by first | rfl | trivial)) ?_
              clear hK K q0 q1 q2 y0 y1 y2
              try simp only [Act.put, List.setIfInBounds_toArray, List.set_cons_zero, List.set_cons_succ]
              refine till_done (by kernel_rfl) ?_ _
              go_wp2_with fail
              go_meet
              refine ⟨bx, ao, cap, rfl, rfl, hide ⟨set3 (unhide HX2) _ _ _, ?_, set3_below (unhide HY2) (unhide HBX) _ _ _⟩⟩
              refine own_later (unhide HO2) (fun b hl hb => ?_)
              have hne := unhide HA b hb
              rw [heap_setCell_other _ _ _ _ hne, heap_setCell_other _ _ _ _ hne, heap_setCell_other _ _ _ _ hne]
            · go_simp
              obtain ⟨W1, hW1⟩ : ∃ W, W0.alloc (.cells #[.int .i64 0, .int .i64 0, .int .i64 0] 31) = W := ⟨_, rfl⟩
              obtain ⟨bx, hbx⟩ : ∃ bx, W0.heap.size = bx := ⟨_, rfl⟩
              have dd : Below W0.heap.size W0 W1 := by rw [← hW1]; exact (Below.refl _ _).alloc (Nat.le_refl _) _
              have HX1 : Hid (W1.heap[bx]? = some (.cells #[.int .i64 0, .int .i64 0, .int .i64 0] 31 (0, 0))) := hide (by rw [← hW1, ← hbx]; exact heap_alloc_new W0 _)
              have HBX : Hid (w6.heap.size ≤ bx) := hide (by rw [← hbx]; exact (unhide HY0).size)
              try rw [hW1]
              try rw [hbx]
              have HS1 : Hid (W1.cell? ⟨G, 0, none⟩ = some (.slice b1 n1 d1) ∧ W1.cell? ⟨G, 1, none⟩ = some (.slice b2 n2 d2) ∧ W1.cell? ⟨G, 2, none⟩ = some (.slice b3 n3 d3) ∧ W1.cell? (fd.add i) = some (.int .i64 f)) := hide ⟨cell_up dd ((unhide HS0).1), cell_up dd ((unhide HS0).2.1), cell_up dd ((unhide HS0).2.2.1), cell_up dd ((unhide HS0).2.2.2)⟩
              have HY1 : Hid (Below w6.heap.size w6 W1) := hide ((unhide HY0).trans (dd.mono (unhide HY0).size))
              refine hK.out _ _ (Or.inr (unhide HS1)) ?_
              clear hK K HS0 HY0 dd hW1 hbx
              try simp only [Act.put, List.setIfInBounds_toArray, List.set_cons_zero, List.set_cons_succ]
              refine till_one 5 (by kernel_rfl) rfl (fun K hK => ?_)
              go_simp
              refine (unhide CH4 W1 (unhide HY1)).mono ?_
              rintro e W2 ⟨ao, ⟨cap, rfl, oo⟩, dd⟩
              have HS2 : Hid (W2.cell? ⟨G, 0, none⟩ = some (.slice b1 n1 d1) ∧ W2.cell? ⟨G, 1, none⟩ = some (.slice b2 n2 d2) ∧ W2.cell? ⟨G, 2, none⟩ = some (.slice b3 n3 d3) ∧ W2.cell? (fd.add i) = some (.int .i64 f)) := hide ⟨cell_up dd ((unhide HS1).1), cell_up dd ((unhide HS1).2.1), cell_up dd ((unhide HS1).2.2.1), cell_up dd ((unhide HS1).2.2.2)⟩
              have HY2 : Hid (Below w6.heap.size w6 W2) := hide ((unhide HY1).trans (dd.mono (unhide HY1).size))
              have HX2 : Hid (W2.heap[bx]? = some (.cells #[.int .i64 0, .int .i64 0, .int .i64 0] 31 (0, 0))) := hide ((dd.block bx (Array.getElem?_eq_some_iff.1 (unhide HX1)).1).trans (unhide HX1))
              have HO2 : Hid (W2.ownsRow w6.heap.size 3 1 (.slice ao nl cap) nl (HL.map (Value.int .i64))) := hide (own_low oo (unhide HY1).size)
              have HA : Hid (∀ k, (Value.slice ao nl cap).ownBlock = some k → ¬ k = bx) := hide (fun k hk => by have := (oo.lt k hk).1; have := (Array.getElem?_eq_some_iff.1 (unhide HX1)).1; omega)
              clear dd oo
              go_wp2_with fail
              refine hK.out _ _ (Or.inr (unhide HS2)) ?_
              clear hK K HS1 HY1 HX1
              try simp only [Act.put, List.setIfInBounds_toArray, List.set_cons_zero, List.set_cons_succ]
              refine till_take 6 (v := .tuple #[.slice ao nl cap, .agg #[.int .i64 fa, .int .i64 fb, .int .i64 fc]]) (some 43) rfl rfl rfl (by kernel_rfl) (by kernel_rfl) (by kernel_rfl) (by kernel_rfl) (fun _ _ _ h => h) (Or.inl ⟨by rfl, fun u hu => by obtain ⟨b0, b1, b2, b3⟩ := hu; go_simp⟩) (unhide HS2) ?_
              try simp only [Act.put, List.setIfInBounds_toArray, List.set_cons_zero, List.set_cons_succ]
              refine till_take 7 (v := .slice ao nl cap) (some 50) rfl rfl rfl (by kernel_rfl) (by kernel_rfl) (by kernel_rfl) (by kernel_rfl) (fun _ _ _ h => h) (Or.inl ⟨by rfl, fun u hu => by obtain ⟨b0, b1, b2, b3⟩ := hu; go_simp⟩) (unhide HS2) ?_
              try simp only [Act.put, List.setIfInBounds_toArray, List.set_cons_zero, List.set_cons_succ]
              refine till_take 8 (v := .agg #[.int .i64 fa, .int .i64 fb, .int .i64 fc]) (some 51) rfl rfl rfl (by kernel_rfl) (by kernel_rfl) (by kernel_rfl) (by kernel_rfl) (fun _ _ _ h => h) (Or.inl ⟨by rfl, fun u hu => by obtain ⟨b0, b1, b2, b3⟩ := hu; go_simp⟩) (unhide HS2) ?_
              try simp only [Act.put, List.setIfInBounds_toArray, List.set_cons_zero, List.set_cons_succ]
              refine till_one 10 (by kernel_rfl) rfl (fun K hK => ?_)
              go_simp
              refine hK.out _ _ (Or.inr (unhide HS2)) ?_
              clear hK K 
              try simp only [Act.put, List.setIfInBounds_toArray, List.set_cons_zero, List.set_cons_succ]
              refine till_one 11 (by kernel_rfl) rfl (fun K hK => ?_)
              obtain ⟨q0, q1, q2⟩ := row_cell3 (unhide HX2)
              have y0 := frozen_of_row W2 bx 0 _ _ (unhide HX2)
              have y1 := frozen_of_row W2 bx 1 _ _ (unhide HX2)
              have y2 := frozen_of_row W2 bx 2 _ _ (unhide HX2)
              go_simp
              refine hK.out _ _ (Or.inl (by first | rfl | trivial)) ?_
              clear hK K q0 q1 q2 y0 y1 y2
              try simp only [Act.put, List.setIfInBounds_toArray, List.set_cons_zero, List.set_cons_succ]
              refine till_done (by kernel_rfl) ?_ _
              go_wp2_with fail
              go_meet
              refine ⟨bx, ao, cap, rfl, rfl, hide ⟨set3 (unhide HX2) _ _ _, ?_, set3_below (unhide HY2) (unhide HBX) _ _ _⟩⟩
              refine own_later (unhide HO2) (fun b hl hb => ?_)
              have hne := unhide HA b hb
              rw [heap_setCell_other _ _ _ _ hne, heap_setCell_other _ _ _ _ hne, heap_setCell_other _ _ _ _ hne]
          case rest =>
            obtain ⟨bx7, a7, q7, rfl, rfl, HC7⟩ := hcut
            obtain ⟨w7, hwc⟩ : ∃ u, u = wc := ⟨_, rfl⟩
            subst hwc
            have BB7 : Hid (Below w4.heap.size w4 w7) := hide ((unhide BB6).trans ((unhide HC7).2.2.mono (unhide BB6).size))
            have B56 := (unhide HC6).2.2
            have B67 := (unhide HC7).2.2
            have B57 : Below w5.heap.size w5 w7 := B56.trans (B67.mono B56.size)
            have s56 := B56.size
            have s67 := B67.size
            have s45 := (unhide HC5).2.2.size
            have l5 := (Array.getElem?_eq_some_iff.1 (unhide HC5).1).1
            have l6 := (Array.getElem?_eq_some_iff.1 (unhide HC6).1).1
            have l7 := (Array.getElem?_eq_some_iff.1 (unhide HC7).1).1
            obtain ⟨x0, x1, x2⟩ := row_cell3 ((B57.block _ l5).trans (unhide HC5).1)
            obtain ⟨y0, y1, y2⟩ := row_cell3 ((B67.block _ l6).trans (unhide HC6).1)
            obtain ⟨z0, z1', z2⟩ := row_cell3 (unhide HC7).1
            obtain ⟨m0, m1, m2, o0, o1, o2, _⟩ := unhide KM w7 (unhide BB7)
            have CSM := hide (unhide C3 w7 (unhide BB7))
            have HR5 : Hid (w7.ownsRow w4.heap.size 3 1 (.slice a5 nl q5) nl (HL.map (Value.int .i64)) ∧ ∀ k, (Value.slice a5 nl q5).ownBlock = some k → k < w5.heap.size) := hide ⟨own_below (unhide HC5).2.1 B57, fun k hk => ((unhide HC5).2.1.lt k hk).2⟩
            have HR6 : Hid (w7.ownsRow w5.heap.size 3 1 (.slice a6 nl q6) nl (HL.map (Value.int .i64))) := hide (own_below (unhide HC6).2.1 B67)
            have HR7 : Hid (w7.ownsRow w5.heap.size 3 1 (.slice a7 nl q7) nl (HL.map (Value.int .i64))) := hide (own_low (unhide HC7).2.1 s56)
            clear B56 B67 B57 l5 l6 l7 C3 CH1 CH2 CH3 CH4 HC5 HC6 HC7
            go_wp2_with fail
            refine (unhide CSM).mono ?_
            rintro e w8 ⟨rfl, b8⟩
            have BB8 : Hid (Below w4.heap.size w4 w8) := hide ((unhide BB7).trans (b8.mono (unhide BB7).size))
            have KR : Hid (w8.ownsRow w4.heap.size 3 1 (.slice a5 nl q5) nl (HL.map (Value.int .i64)) ∧ w8.ownsRow w5.heap.size 3 1 (.slice a6 nl q6) nl (HL.map (Value.int .i64)) ∧ w8.ownsRow w5.heap.size 3 1 (.slice a7 nl q7) nl (HL.map (Value.int .i64))) := hide ⟨own_below (unhide HR5).1 b8, own_below (unhide HR6) b8, own_below (unhide HR7) b8⟩
            have s78 := b8.size
            clear b8 CSM HR6 HR7 x0 x1 x2 y0 y1 y2 z0 z1' z2 m0 m1 m2 o0 o1 o2
            go_wp2_with fail
            go_loopw [13] (fun v13 wx => ∃ j : Nat, v13 = .int .i64 (j : Int) ∧ Hid (j ≤ nl) ∧ Hid (Below w8.heap.size w8 wx)) (fun v13 _ => nl - (intOf v13).toNat)
            case atStart => exact ⟨0, rfl, hide (Nat.zero_le _), hide (Below.refl _ _)⟩
            case round =>
              obtain ⟨j, rfl, HJ, HQ⟩ := hrel
              by_cases hj : j < nl
              · have hj1 : (j : Int) < (nl : Int) := by omega
                have hj0 : (0 : Int) ≤ (j : Int) := by omega
                obtain ⟨z, hz⟩ : ∃ z, HL[j]? = some z := ⟨_, List.getElem?_eq_getElem (by have := unhide HLN; omega)⟩
                obtain ⟨x1, rfl, k1⟩ := (own_rdI (unhide KR).1).later (unhide HQ) j z hz
                obtain ⟨x2, rfl, k2⟩ := (own_rdI (unhide KR).2.2).later (unhide HQ) j z hz
                have HQ2 : Hid (∀ q, Below w8.heap.size w8 (wr.drewN q)) := hide (fun q => below_drewN (unhide HQ) q)
                go_upto_region 13 with fail
                go_quiet (fail)
                go_wp2_with fail
                go_roundw
                case rel => exact ⟨j + 1, by go_num, hide (by omega), hide (unhide HQ2 _)⟩
                case measure => simp [intOf]; omega
              · have hj1 : ¬ (j : Int) < (nl : Int) := by omega
                obtain ⟨w9, hw9⟩ : ∃ u, u = wr := ⟨_, rfl⟩
                subst hw9
                have s89 := (unhide HQ).size
                have BB9 : Hid (Below w4.heap.size w4 w9) := hide ((unhide BB8).trans ((unhide HQ).mono (unhide BB8).size))
                have KR9 : Hid (w9.ownsRow w4.heap.size 3 1 (.slice a5 nl q5) nl (HL.map (Value.int .i64)) ∧ RdI w9 a6 HL ∧ RdI w9 a7 HL ∧ (∀ a, a6 = some a → w5.heap.size ≤ a.block) ∧ ∀ a, a7 = some a → w5.heap.size ≤ a.block) := hide (by
                  obtain ⟨r5, r6, r7⟩ := unhide KR
                  exact ⟨own_below r5 (unhide HQ), (own_rdI r6).later (unhide HQ), (own_rdI r7).later (unhide HQ), fun a ha => by subst ha; exact (r6.lt a.block rfl).1, fun a ha => by subst ha; exact (r7.lt a.block rfl).1⟩)
                have KD : Hid (∀ u : World, (∀ b, w5.heap.size ≤ b → b < w9.heap.size → u.heap[b]? = w9.heap[b]?) → RdI u a6 HL ∧ RdI u a7 HL) := hide (fun u hu => by
                  obtain ⟨_, r6, r7, t6, t7⟩ := unhide KR9
                  refine ⟨fun k z hk => ?_, fun k z hk => ?_⟩
                  · obtain ⟨a, ha, hc⟩ := r6 k z hk
                    exact ⟨a, ha, cell_of_block hc (hu _ (by rw [add_block]; exact t6 a ha) (cell_lt hc))⟩
                  · obtain ⟨a, ha, hc⟩ := r7 k z hk
                    exact ⟨a, ha, cell_of_block hc (hu _ (by rw [add_block]; exact t7 a ha) (cell_lt hc))⟩)
                have HO5 := hide (unhide HR5).2
                have s59 : w5.heap.size ≤ w9.heap.size := by omega
                have HI3 : Hid (∃ xs, w9.ownsRow w4.heap.size 3 1 (.slice a5 nl q5) nl xs) := hide ⟨_, (unhide KR9).1⟩
                clear HR5 KR HQ HJ
                go_wp2_with fail
                go_loopw [14] (fun v14 wx => ∃ j : Nat, v14 = .int .i64 (j : Int) ∧ Hid (j ≤ nl) ∧ Hid ((∀ b, w5.heap.size ≤ b → b < w9.heap.size → wx.heap[b]? = w9.heap[b]?) ∧ Below w4.heap.size w4 wx ∧ wx.heap.size = w9.heap.size ∧ ∃ xs, wx.ownsRow w4.heap.size 3 1 (.slice a5 nl q5) nl xs)) (fun v14 _ => nl - (intOf v14).toNat)
                case atStart => exact ⟨0, rfl, hide (Nat.zero_le _), hide ⟨fun _ _ _ => rfl, unhide BB9, rfl, unhide HI3⟩⟩
                case round =>
                  clear HI3
                  obtain ⟨j3, rfl, HJ, HQ⟩ := hrel
                  by_cases hj3 : j3 < nl
                  · have hj4 : (j3 : Int) < (nl : Int) := by omega
                    have hj0 : (0 : Int) ≤ (j3 : Int) := by omega
                    obtain ⟨xs, hxs⟩ := (unhide HQ).2.2.2
                    obtain ⟨qb, hqb⟩ : ∃ qb, a5 = some ⟨qb, 0, none⟩ := by
                      rcases hxs.2 with ⟨e1, e2⟩ | ⟨q, cap', cur, e1, _⟩
                      · exfalso; simp at e1; omega
                      · cases e1; exact ⟨q, rfl⟩
                    subst hqb
                    obtain ⟨vj, hvj⟩ : ∃ v, xs[j3]? = some v := ⟨_, List.getElem?_eq_getElem (by have := hxs.1; omega)⟩
                    obtain ⟨cq, yq⟩ := own_cell hxs hvj
                    have hq5 := unhide HO5 qb rfl
                    have hq4 := (hxs.lt qb rfl).1
                    have HNEW : Hid (∀ v, (∀ b, w5.heap.size ≤ b → b < w9.heap.size → (wr.setCell ⟨qb, j3, none⟩ v).heap[b]? = w9.heap[b]?) ∧ Below w4.heap.size w4 (wr.setCell ⟨qb, j3, none⟩ v) ∧ (wr.setCell ⟨qb, j3, none⟩ v).heap.size = w9.heap.size ∧ ∃ xs, (wr.setCell ⟨qb, j3, none⟩ v).ownsRow w4.heap.size 3 1 (.slice (some ⟨qb, 0, none⟩) nl q5) nl xs) := hide (fun v => ⟨fun b h1 h2 => by
                      have hne : b ≠ qb := by omega
                      rw [heap_setCell_other _ _ _ _ hne]
                      exact (unhide HQ).1 b h1 h2, (unhide HQ).2.1.setCell (p := ⟨qb, j3, none⟩) hq4 _, by simpa using (unhide HQ).2.2.1, _, own_set1 hxs j3 hj3 v⟩)
                    clear hxs hvj
                    go_wp2_with fail
                    go_roundw
                    case rel => exact ⟨j3 + 1, by go_num, hide (by omega), hide (unhide HNEW _)⟩
                    case measure => simp [intOf]; omega
                  · have hj4 : ¬ (j3 : Int) < (nl : Int) := by omega
                    obtain ⟨wA, hwA⟩ : ∃ u, u = wr := ⟨_, rfl⟩
                    subst hwA
                    have HI4 : Hid (∃ a c xs, Value.slice a5 nl q5 = .slice a (nl + 0) c ∧ wA.ownsRow w4.heap.size 3 1 (.slice a (nl + 0) c) (nl + 0) xs ∧ ∀ k, (Value.slice a (nl + 0) c).ownBlock = some k → k < w5.heap.size ∨ w9.heap.size ≤ k) := hide (by obtain ⟨xs, h⟩ := (unhide HQ).2.2.2; exact ⟨_, _, xs, rfl, h, fun k hk => .inl (unhide HO5 k hk)⟩)
                    have HQA := hide (And.intro (unhide HQ).1 (And.intro (unhide HQ).2.1 (unhide HQ).2.2.1))
                    clear HQ HJ
                    go_wp2_with fail
                    go_loopw [7, 15] (fun v7 v15 wx => ∃ (k4 : Nat) (a : Option Addr) (c : Nat), v7 = .slice a (nl + k4) c ∧ v15 = .int .i64 (k4 : Int) ∧ Hid (k4 ≤ 9) ∧ Hid ((∀ b, w5.heap.size ≤ b → b < w9.heap.size → wx.heap[b]? = w9.heap[b]?) ∧ Below w4.heap.size w4 wx ∧ w9.heap.size ≤ wx.heap.size ∧ ∃ xs, wx.ownsRow w4.heap.size 3 1 (.slice a (nl + k4) c) (nl + k4) xs ∧ ∀ k, (Value.slice a (nl + k4) c).ownBlock = some k → k < w5.heap.size ∨ w9.heap.size ≤ k)) (fun _ v15 _ => 9 - (intOf v15).toNat)
                    case atStart =>
                      obtain ⟨a, c, xs, h1, h2, h3⟩ := unhide HI4
                      exact ⟨0, a, c, h1, rfl, hide (by omega), hide ⟨(unhide HQA).1, (unhide HQA).2.1, by rw [(unhide HQA).2.2]; exact Nat.le_refl _, xs, h2, h3⟩⟩
                    case round =>
                      clear HI4 HQA
                      obtain ⟨k4, a, c, rfl, rfl, HJ, HQ⟩ := hrel
                      by_cases hk4 : k4 < 9
                      · have hk5 : (k4 : Int) < 9 := by omega
                        obtain ⟨xs, hxs, hown⟩ := (unhide HQ).2.2.2
                        have HXS := hide (And.intro hxs hown)
                        have s4r := (unhide HQ).2.1.size
                        clear hxs hown
                        have tokA : True := trivial
                        go_upto_region 21 with (first
                          | (at_builtin; have _t := tokA; refine wpl_oneG rfl (.tmp 108) (.tmp 109) 36 3 i3 _ 1 8 Tryz.underlying36 (unhide HJI).1 (unhide HJI).2.1 (unhide HJI).2.2.1 (unhide HJI).2.2.2 rfl (by omega) rfl w4.heap.size (nl + k4) (.slice a (nl + k4) c) xs [.int .i64 99] rfl (by simp [Value.oneCell']) rfl (unhide HXS).1 rfl (by unfold maxLen; omega) (by omega) (by omega) ?_; clear tokA; intro v6 w6' H6; obtain ⟨ah4, ch4, rfl⟩ := own_sliceG (unhide H6).1))
                        have HNEW : Hid ((∀ b, w5.heap.size ≤ b → b < w9.heap.size → w6'.heap[b]? = w9.heap[b]?) ∧ Below w4.heap.size w4 w6' ∧ w9.heap.size ≤ w6'.heap.size ∧ ∃ xs, w6'.ownsRow w4.heap.size 3 1 (.slice ah4 (nl + (k4 + 1)) ch4) (nl + (k4 + 1)) xs ∧ ∀ k, (Value.slice ah4 (nl + (k4 + 1)) ch4).ownBlock = some k → k < w5.heap.size ∨ w9.heap.size ≤ k) := hide (by
                          obtain ⟨o6, g6, n6⟩ := unhide H6
                          have sq := (unhide HQ).2.2.1
                          refine ⟨fun b h1 h2 => ?_, (unhide HQ).2.1.trans ((Below.refl _ _).grown g6 (by omega) (fun k hk => ((unhide HXS).1.lt k hk).1)), Nat.le_trans sq g6.size, _, o6, fun k hk => ?_⟩
                          · rw [g6.block b (by omega) (fun e => by rcases (unhide HXS).2 b e.symm with h | h <;> omega)]
                            exact (unhide HQ).1 b h1 h2
                          · rcases n6 k hk with h | h
                            · exact (unhide HXS).2 k h
                            · exact .inr (by omega))
                        clear H6 HXS
                        go_wp2_with fail
                        go_roundw
                        case rel => exact ⟨k4 + 1, _, _, rfl, by go_num, hide (by omega), HNEW⟩
                        case measure => simp [intOf]; omega
                      · have hk5 : ¬ (k4 : Int) < 9 := by omega
                        obtain ⟨wB, hwB⟩ : ∃ u, u = wr := ⟨_, rfl⟩
                        subst hwB
                        have KDB := hide (unhide KD wB (unhide HQ).1)
                        have BBB := hide (unhide HQ).2.1
                        clear HQ HJ KD KR9
                        go_wp2_with fail
                        go_loopw [16] (fun v16 wx => ∃ j : Nat, v16 = .int .i64 (j : Int) ∧ Hid (j ≤ nl) ∧ Hid (Below wB.heap.size wB wx)) (fun v16 _ => nl - (intOf v16).toNat)
                        case atStart => exact ⟨0, rfl, hide (Nat.zero_le _), hide (Below.refl _ _)⟩
                        case round =>
                          obtain ⟨j, rfl, HJ, HQ⟩ := hrel
                          by_cases hj : j < nl
                          · have hj1 : (j : Int) < (nl : Int) := by omega
                            have hj0 : (0 : Int) ≤ (j : Int) := by omega
                            obtain ⟨z, hz⟩ : ∃ z, HL[j]? = some z := ⟨_, List.getElem?_eq_getElem (by have := unhide HLN; omega)⟩
                            obtain ⟨x1, rfl, k1⟩ := (unhide KDB).1.later (unhide HQ) j z hz
                            obtain ⟨x2, rfl, k2⟩ := (unhide KDB).2.later (unhide HQ) j z hz
                            have HQ2 : Hid (∀ q, Below wB.heap.size wB (wr.drewN q)) := hide (fun q => below_drewN (unhide HQ) q)
                            go_upto_region 26 with fail
                            go_quiet (fail)
                            go_wp2_with fail
                            go_roundw
                            case rel => exact ⟨j + 1, by go_num, hide (by omega), hide (unhide HQ2 _)⟩
                            case measure => simp [intOf]; omega
                          · have hj1 : ¬ (j : Int) < (nl : Int) := by omega
                            have FX : Hid (Below w1.heap.size w1 wr) := hide ((unhide H4).trans (((unhide BBB).trans ((unhide HQ).mono (unhide BBB).size)).mono (unhide H4).size))
                            go_wp2_with fail
                            go_roundw
                            case rel => exact ⟨i + 1, by go_num, hide (by omega), FX⟩
                            case measure => simp [intOf]; omega
    · have j1 : ¬ (i : Int) < (n : Int) := by omega
      have CS := hide (shown_any wq (unhide KEEP wq (unhide HX)).2.2.1)
      have H0 := hide (unhide KEEP wq (unhide HX)).2.2.2.1
      go_wp2_with fail
      refine (unhide CS).mono ?_
      rintro e w5 ⟨rfl, b5⟩
      have H5 : Hid (Below w.heap.size w w5) := hide ((unhide H0).trans (b5.mono (unhide H0).size))
      clear b5
      go_wp2_with fail
      go_ret
      exact ⟨rfl, unhide H5⟩
end Go.Proofs.YtcknoeepdjhnoaaGreatDoor
