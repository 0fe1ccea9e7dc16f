/-
  The walk of VerifyWays: on every way through a verified function the stack is as high as its height says; conditions: the package's variables, the form's own reach.
-/
import Derived.Test.YtdlgehnplkeoiaaDoorA45
import Derived.Test.YtdlgehnplkeoiaaDoorA46
import Derived.Test.YtdlgehnplkeoiaaDoorA47
import Derived.Test.YtdlgehnplkeoiaaDoorA48
import Derived.Test.YtdlgehnplkeoiaaDoorA50
set_option linter.unusedVariables false
set_option linter.unusedSimpArgs false
namespace Go.Proofs.YtdlgehnplkeoiaaDoor
open Go.RowKit
set_option linter.unusedVariables false
set_option linter.unusedSimpArgs false

theorem modF_all {m : Md} (h : (modF m).1 = 0) : modF m = (0, 0, 0) := by
  have hn : ∀ n f, (modN m n f).1 = 0 → modN m n f = (0, 0, 0) := by
    intro n
    induction n with
    | zero => intro f _; rfl
    | succ n ih =>
      intro f h
      unfold modN at h ⊢
      split at h
      · rename_i h0
        rw [if_pos h0]
        exact ih (f + 1) h
      · rename_i h0
        exact absurd h h0
  unfold modF at h ⊢
  split at h
  · rename_i h0
    rw [if_pos h0]
    exact hn _ _ h
  · cases h

set_option maxRecDepth 100000 in
set_option maxHeartbeats 8000000 in
theorem ways_any (m : Md) (b1 : Option Addr) (n1 d1 : Nat) (b2 : Option Addr) (n2 d2 : Nat) (b3 : Option Addr) (n3 d3 : Nat) (f : Int) (ta : Option Addr) (tn tc : Nat) (ts : List Bool) (w : World)
    (hM : IsM w (fun b => b < w.heap.size) m b1 d1 b2 d2 b3 d3) (hT : Tab2 w) (hn1 : m.cs.length = n1) (hn2 : m.fs.length = n2) (hn3 : m.xs.length = n3) (hb1 : 80 * n1 ≤ 140737488351232) (hb2 : 40 * n2 ≤ 140737488351232) (hb3 : 24 * n3 ≤ 140737488351232) (hf : i64B f) (htn : ts.length = tn) (htr : RdB w ta ts) :
    Calls Tryd.prog 3 #[.agg #[.slice b1 n1 d1, .slice b2 n2 d2, .slice b3 n3 d3], .int .i64 f, .slice ta tn tc] w fun e w' => e = .returned (.bool true) ∧ Below w.heap.size w w' := by
  obtain ⟨G, hG⟩ : ∃ G, w.heap.size = G := ⟨_, rfl⟩
  have hbig := hT.big
  obtain ⟨w1, hw1⟩ : ∃ w1, w.alloc (.cells #[.slice b1 n1 d1, .slice b2 n2 d2, .slice b3 n3 d3] 26) = w1 := ⟨_, rfl⟩
  have z1 : w1.heap.size = G + 1 := by rw [← hw1, ← hG]; simp
  have A1 : w1.heap[G]? = some (.cells #[.slice b1 n1 d1, .slice b2 n2 d2, .slice b3 n3 d3] 26 (0, 0)) := by rw [← hw1, ← hG]; exact heap_alloc_new _ _
  have B1 : Below w.heap.size w w1 := by rw [← hw1]; exact (Below.refl _ _).alloc (Nat.le_refl _) _
  have KEEP : Hid (∀ u, Below w1.heap.size w1 u → u.heap[G]? = some (.cells #[.slice b1 n1 d1, .slice b2 n2 d2, .slice b3 n3 d3] 26 (0, 0)) ∧ IsM u (fun b => b < w.heap.size) m b1 d1 b2 d2 b3 d3 ∧ Tab2 u ∧ Below w.heap.size w u ∧ w.heap.size ≤ u.heap.size ∧ RdB u ta ts) := hide (fun u hu => by
    have bu : Below w.heap.size w u := B1.trans (hu.mono B1.size)
    exact ⟨(hu.block G (by omega)).trans A1, hM.later bu, hT.below bu, bu, bu.size, htr.later bu⟩)
  have CS := hide (shown_any w1 (unhide KEEP w1 (Below.refl _ _)).2.2.1)
  have HN := hide (And.intro hn1 (And.intro hn2 (And.intro hn3 htn)))
  have hn2b : n2 ≤ 140737488351232 := by omega
  clear hM hT htr A1 B1 hn1 hn2 hn3 htn
  go_enter Tryd.func3, Tryd.ntmps3
  go_wp2_with fail
  refine (unhide CS).mono ?_
  rintro e w2 ⟨rfl, x2⟩
  have H2 := hide x2
  clear x2 CS hw1
  obtain ⟨k2a, k2b, k2c, k2d, k2e, _⟩ := unhide KEEP w2 (unhide H2)
  obtain ⟨c0, c1, c2⟩ := row_cell3 k2a
  have CM := hide (moduleOf_any m b1 n1 d1 b2 n2 d2 b3 n3 d3 w.heap.size w2 k2b k2e (unhide HN).1 (unhide HN).2.1 (unhide HN).2.2.1 hb1 hb2 hb3)
  clear k2a k2b k2c k2d k2e
  go_wp2_with fail
  refine (unhide CM).mono ?_
  rintro e w3 ⟨a1, e1, a2, e2, a3, e3, rfl, hM3, x3⟩
  have H3 : Hid (Below w1.heap.size w1 w3) := hide ((unhide H2).trans (x3.mono (unhide H2).size))
  have hs3 := (unhide H3).size
  have CV := hide (module_any m a1 n1 e1 a2 n2 e2 a3 n3 e3 w3.heap.size w3 hM3 (Nat.le_refl _) (by omega) (unhide KEEP w3 (unhide H3)).2.2.1 (unhide HN).1 (unhide HN).2.1 (unhide HN).2.2.1)
  clear hM3 x3 CM c0 c1 c2
  obtain ⟨⟨fa, fb, fc⟩, hfl⟩ : ∃ fl, modF m = fl := ⟨_, rfl⟩
  rw [hfl] at CV
  simp only [fltV] at CV
  have HFL := hide hfl
  clear hfl
  go_wp2_with fail
  refine (unhide CV).mono ?_
  rintro e w4 ⟨rfl, x4⟩
  have H4 : Hid (Below w1.heap.size w1 w4) := hide ((unhide H3).trans (x4.mono (unhide H3).size))
  have hs4 := (unhide H4).size
  clear x4 CV
  by_cases hfa : fa = 0
  · subst hfa
    have hz := modF_all (m := m) (by rw [unhide HFL])
    have hz2 := unhide HFL
    rw [hz] at hz2
    cases hz2
    by_cases hn0 : n2 = 0
    · subst hn0
      go_upto_region 3 with fail
      obtain ⟨w5, hw5⟩ : ∃ w5, w4.alloc (.cells #[.int .i64 0, .int .i64 0, .int .i64 0] 31) = w5 := ⟨_, rfl⟩
      have d5 : w5.heap[w4.heap.size]? = some (.cells #[.int .i64 0, .int .i64 0, .int .i64 0] 31 (0, 0)) := by rw [← hw5]; exact heap_alloc_new _ _
      have x5 : Below w4.heap.size w4 w5 := by rw [← hw5]; exact (Below.refl _ _).alloc (Nat.le_refl _) _
      have H5 : Hid (Below w1.heap.size w1 w5) := hide ((unhide H4).trans (x5.mono (unhide H4).size))
      rw [hw5]
      obtain ⟨r0, r1, r2⟩ := row_cell3 d5
      obtain ⟨c0, c1, c2⟩ := row_cell3 (unhide KEEP w5 (unhide H5)).1
      clear hw5 d5 x5
      go_wp2_with fail
      go_ret
      have hb := (unhide KEEP w5 (unhide H5)).2.2.2.1
      exact ⟨rfl, by first | exact hb | (rw [← hG]; exact hb)⟩
    · have hn0' : ¬ (n2 : Int) = 0 := by omega
      have qn0 : ((n2 : Int) == 0) = false := by simpa using hn0
      have hv := modF_zero (m := m) (by rw [hz])
      go_upto_region 3 with fail
      obtain ⟨w5, hw5⟩ : ∃ w5, w4.alloc (.cells #[.int .i64 0, .int .i64 0, .int .i64 0] 31) = w5 := ⟨_, rfl⟩
      have d5 : w5.heap[w4.heap.size]? = some (.cells #[.int .i64 0, .int .i64 0, .int .i64 0] 31 (0, 0)) := by rw [← hw5]; exact heap_alloc_new _ _
      have x5 : Below w4.heap.size w4 w5 := by rw [← hw5]; exact (Below.refl _ _).alloc (Nat.le_refl _) _
      have H5 : Hid (Below w1.heap.size w1 w5) := hide ((unhide H4).trans (x5.mono (unhide H4).size))
      rw [hw5]
      obtain ⟨r0, r1, r2⟩ := row_cell3 d5
      obtain ⟨k5a, k5b, k5c, k5d, k5e, _⟩ := unhide KEEP w5 (unhide H5)
      obtain ⟨c0, c1, c2⟩ := row_cell3 k5a
      have hp0 : 0 ≤ pickI f (n2 : Int) ∧ pickI f (n2 : Int) < (n2 : Int) := by
        unfold pickI
        exact ⟨Int.emod_nonneg _ hn0', Int.emod_lt_of_pos _ (by omega)⟩
      obtain ⟨k, hk⟩ : ∃ k : Nat, pickI f (n2 : Int) = (k : Int) := ⟨(pickI f (n2 : Int)).toNat, by omega⟩
      have hkn : k < n2 := by omega
      have CP := hide (pick_any f (n2 : Int) w5 hf.1 hf.2 (by omega) (by omega))
      rw [hk] at CP
      have CM := hide (moduleOf_any m b1 n1 d1 b2 n2 d2 b3 n3 d3 w.heap.size w5 k5b k5e (unhide HN).1 (unhide HN).2.1 (unhide HN).2.2.1 hb1 hb2 hb3)
      have HV := hide hv
      clear hw5 d5 x5 k5a k5b k5c k5d k5e hk hp0 hv hz
      go_wp2_with fail
      refine (unhide CP).mono ?_
      rintro e u5 ⟨rfl, hu5⟩
      obtain rfl := hu5
      clear CP r0 r1 r2
      go_wp2_with fail
      refine (unhide CM).mono ?_
      rintro e w6 ⟨a1', e1', a2', e2', a3', e3', rfl, hM6, x6⟩
      have H6 : Hid (Below w1.heap.size w1 w6) := hide ((unhide H5).trans (x6.mono (unhide H5).size))
      have hs6 := (unhide H6).size
      have CH := hide (heights_any m a1' n1 e1' a2' n2 e2' a3' n3 e3' w6.heap.size (k : Int) w6 hM6 (Nat.le_refl _) (by omega) (unhide KEEP w6 (unhide H6)).2.2.1 (unhide HN).1 (unhide HN).2.1 (unhide HN).2.2.1)
      obtain ⟨⟨p, l, s, tt⟩, hy⟩ : ∃ y, m.fs[k]? = some y := ⟨_, List.getElem?_eq_getElem (by have := (unhide HN).2.1; omega)⟩
      have hlk := (unhide HV).2 k (by rw [(unhide HN).2.1]; exact hkn)
      rw [getD_of hy] at hlk
      have hfs := right_fs (unhide HV).1
      have hway := look_ways (m := m) (fn := (p, l, s, tt)) hfs hM6.cbl (hfs _ (List.mem_of_getElem? hy)) hlk
      obtain ⟨HH, hHH⟩ : ∃ HH, (lookF m (p, l, s, tt)).1 = HH := ⟨_, rfl⟩
      have hhg : hgtF m (k : Int) = ((lsF tt).2.1.map (fun q => (HH.lookup q).getD (-1)), (0, 0, 0)) := by
        unfold hgtF
        rw [if_pos ⟨(unhide HV).1, by omega, by rw [(unhide HN).2.1]; omega⟩, Int.toNat_natCast]
        unfold htsF fltF
        rw [getD_of hy, if_pos hlk, if_pos hlk]
        simp only [hHH]
      unfold HgtR at CH
      rw [hhg] at CH
      simp only [fltV, List.length_map] at CH
      rw [hHH] at hway
      simp only [] at hway
      have htz := (fnB_parts (hfs _ (List.mem_of_getElem? hy))).2.2.2.2
      have hsk := (fnB_parts (hfs _ (List.mem_of_getElem? hy))).2.2
      simp only [] at htz hsk
      obtain ⟨q1, q2, q3, q4, q5, q6⟩ := lsF_good hway.1
      have HWAY := hide (And.intro hway (And.intro hy (And.intro q1 (And.intro q3 hsk))))
      obtain ⟨np, hnp⟩ : ∃ np, (lsF tt).2.1.length = np := ⟨_, rfl⟩
      obtain ⟨nl, hnl⟩ : ∃ nl, (lsF tt).1.length = nl := ⟨_, rfl⟩
      have hnpl : nl = np := by omega
      have hnp4 : np ≤ 4000 := by omega
      have hnp0 : 0 < nl := by
        rcases Nat.eq_zero_or_pos nl with e | e
        · exact absurd (List.eq_nil_of_length_eq_zero (hnl.trans e)) hway.2.1
        · exact e
      rw [hnp] at CH
      have HNP := hide (And.intro hnp hnl)
      clear hM6 x6 CM c0 c1 c2 hy hlk hfs hway hhg q1 q2 q3 q4 q5 q6 hsk hHH hnp hnl
      go_wp2_with fail
      refine (unhide CH).mono ?_
      rintro e w7 ⟨ah, ⟨ch, rfl, ho7⟩, x7⟩
      have H7 : Hid (Below w1.heap.size w1 w7) := hide ((unhide H6).trans (x7.mono (unhide H6).size))
      have HH7 : Hid (RdI w7 ah ((lsF tt).2.1.map (fun q => (HH.lookup q).getD (-1)))) := hide (own_rdI ho7)
      clear x7 CH ho7
      go_upto_region 7 with fail
      obtain ⟨w8, hw8⟩ : ∃ w8, w7.alloc (.cells #[.int .i64 0, .int .i64 0, .int .i64 0] 31) = w8 := ⟨_, rfl⟩
      have d8 : w8.heap[w7.heap.size]? = some (.cells #[.int .i64 0, .int .i64 0, .int .i64 0] 31 (0, 0)) := by rw [← hw8]; exact heap_alloc_new _ _
      have x8 : Below w7.heap.size w7 w8 := by rw [← hw8]; exact (Below.refl _ _).alloc (Nat.le_refl _) _
      have H8 : Hid (Below w1.heap.size w1 w8) := hide ((unhide H7).trans (x8.mono (unhide H7).size))
      rw [hw8]
      obtain ⟨R8, hR8⟩ : ∃ R8, w7.heap.size = R8 := ⟨_, rfl⟩
      rw [hR8] at d8 ⊢
      obtain ⟨k8a, k8b, k8c, k8d, k8e, k8f⟩ := unhide KEEP w8 (unhide H8)
      obtain ⟨c0, c1, c2⟩ := row_cell3 k8a
      obtain ⟨ad, rfl, hab, hts, f0, f1, f2, f3⟩ := k8b.func k p l s tt (unhide HWAY).2.1
      have hkn' : (k : Int) < (n2 : Int) := by omega
      have HD8 := hide (And.intro d8 (And.intro ((unhide HH7).later x8) k8c))
      have CLs : Hid (∀ (u : World) (cap : Nat), FreshT w8 u tt cap → Calls Tryd.prog 9 #[.slice (some ⟨w8.heap.size, 0, none⟩) tt.size cap] u fun e w' => ∃ al cl ap cp, e = .returned (.tuple #[.slice al nl cl, .slice ap np cp, .int .i64 (lsF tt).2.2.1, .int .i64 (lsF tt).2.2.2]) ∧ Listed u w' (lsF tt) al cl ap cp) := hide (fun u cap hu => by
        have hc := cntI_le (zsT tt) tt.size 0
        have := rlist_any (some ⟨w8.heap.size, 0, none⟩) tt.size cap (zsT tt) u hu.row hu.cap (by omega)
        rw [← (unhide HNP).1, ← (unhide HNP).2]
        rw [← zsT_len tt] at this ⊢
        exact this)
      obtain ⟨lat, hlat⟩ : ∃ lat, (lsF tt).2.2.1 = lat := ⟨_, rfl⟩
      rw [hlat, (unhide HWAY).1.1] at CLs
      clear hw8 d8 x8 k8a k8b k8c k8d k8e k8f f0 f1 f2 hab hlat
      have tok1 : True := trivial
      go_wp2_with (first | (have _t := tok1; refine wpl_bytesT rfl 9 41 5 (.tmp 59) rfl tt rfl (by omega) Tryd.underlying9 Tryd.underlying41 Tryd.underlying5 ?_; clear tok1; intro w9 cap9 H9))
      refine (unhide CLs w9 cap9 (unhide H9)).mono ?_
      rintro e w10 ⟨al, cl, ap, cp, rfl, HLd⟩
      have X10 : Below w8.heap.size w8 w10 := (unhide H9).below.trans (HLd.below.mono (unhide H9).below.size)
      have H10 : Hid (Below w1.heap.size w1 w10) := hide ((unhide H8).trans (X10.mono (unhide H8).size))
      obtain ⟨kAa, kAb, kAc, kAd, kAe, kAf⟩ := unhide KEEP w10 (unhide H10)
      have HLw := HLd.ins
      have HLp := HLd.pls
      have WY : Hid (Wy w10 w.heap.size G m b1 n1 d1 (some ad) n2 d2 b3 n3 d3 ah al ap ta ((lsF tt).2.1.map (fun q => (HH.lookup q).getD (-1))) (lsF tt).1 (lsF tt).2.1 ts) := hide ⟨kAa, kAb, kAe, (unhide HD8).2.1.later X10, own_rdN HLw, own_rdI HLp, kAf⟩
      obtain ⟨r0, r1, r2⟩ := row_cell3 ((X10.block R8 (Array.getElem?_eq_some_iff.1 (unhide HD8).1).1).trans (unhide HD8).1)
      have hnl0' : ¬ (nl : Int) = 0 := by omega
      have qnl : ((nl : Int) == 0) = false := by simpa using (show ¬ nl = 0 by omega)
      subst hnpl
      clear X10 HLd HLw HLp kAa kAb kAc kAd kAe kAf CLs c0 c1 c2 f3
      go_wp2_with fail
      obtain ⟨pd, hpd, _⟩ := (unhide WY).pls 0 0 (by obtain ⟨r, hr⟩ := (unhide HWAY).1.2.2.1.snd.fst; have hr' : (lsF tt).2.1 = 0 :: r := hr; rw [hr']; rfl)
      obtain ⟨ld, hld, _⟩ := (unhide WY).ins 0 _ (List.getElem?_eq_getElem (by have := (unhide HNP).2; omega))
      obtain ⟨hd, hhd, _⟩ := (unhide WY).hts 0 _ (List.getElem?_eq_getElem (by rw [List.length_map]; have := (unhide HNP).1; omega))
      subst hpd hld hhd
      go_loopw [15, 16, 17, 18] (fun v15 v16 v17 v18 wr => ∃ (i : Nat) (a h : Int) (tu st : Nat), v15 = .int .i64 (i : Int) ∧ v16 = .int .i64 h ∧ v17 = .int .i64 (tu : Int) ∧ v18 = .int .i64 (st : Int) ∧ Hid (i < nl ∧ (lsF tt).2.1[i]? = some a ∧ HH.lookup a = some h) ∧ Hid (tu ≤ st ∧ st ≤ 4000) ∧ Hid (Below w10.heap.size w10 wr)) (fun _ _ _ v18 _ => 4000 - (intOf v18).toNat)
      case atStart =>
        refine ⟨0, 0, 0, 0, 0, rfl, rfl, rfl, rfl, hide ⟨by omega, ?_, (unhide HWAY).1.2.2.2.1⟩, hide (by omega), hide (Below.refl _ _)⟩
        obtain ⟨r, hr⟩ := (unhide HWAY).1.2.2.1.snd.fst
        have hr' : (lsF tt).2.1 = 0 :: r := hr
        rw [hr']
        rfl
      case round =>
        clear r0 r1 r2
        obtain ⟨i, a, h, tu, st, rfl, rfl, rfl, rfl, HI, Hst, HB⟩ := hrel
        have WYr := hide ((unhide WY).later (unhide HB))
        by_cases hst : st < 4000
        · have st1 : (st : Int) < 4000 := by omega
          obtain ⟨hil, hpi, hlh⟩ := unhide HI
          obtain ⟨⟨op, ai⟩, hoi⟩ : ∃ y, (lsF tt).1[i]? = some y := ⟨_, List.getElem?_eq_getElem (by have := (unhide HNP).2; omega)⟩
          have hon : ∀ turn, _ := fun turn => ways_on (fn := (p, l, s, tt)) (unhide HWAY).1.2.2.1 (unhide HWAY).1.2.2.2.2 hpi hoi hlh turn
          have hnm := (unhide HWAY).1.2.2.1.nam (op, ai) (List.mem_of_getElem? hoi)
          have hsm := (unhide HWAY).1.2.2.1.sml (op, ai) (List.mem_of_getElem? hoi)
          have hbnd := ((unhide HWAY).1.2.2.2.2 a h hlh).2.2
          simp only [] at hon hsm hbnd
          have hmm : (boF m (p, l, s, tt)).m = m := rfl
          rw [hmm] at hnm hsm
          obtain ⟨TK, hTK⟩ : ∃ TK, tkI m (op, ai) = TK := ⟨_, rfl⟩
          obtain ⟨GV, hGV⟩ : ∃ GV, gvsI op = GV := ⟨_, rfl⟩
          rw [hTK, hGV] at hsm
          simp only [hTK, hGV] at hon
          obtain ⟨h2, hh2⟩ : ∃ h2, h - TK + GV = h2 := ⟨_, rfl⟩
          simp only [hh2] at hon
          have hsk40 := (unhide HWAY).2.2.2.2
          have g1 : ¬ h < TK := by have := (hon true).1; omega
          have g2 : ¬ s < h := by omega
          have g3 : IntKind.i64.wrap (h - TK) = h - TK := by rw [IntKind.wrap_i64]; omega
          have g4 : IntKind.i64.wrap (h - TK + GV) = h2 := by rw [IntKind.wrap_i64]; omega
          have HON := hide hon
          have HHA := hide (And.intro hpi (And.intro hlh (And.intro hoi hnm)))
          obtain ⟨hd', hhd', ch0⟩ := (unhide WYr).hts i h (by rw [List.getElem?_map, hpi]; simp [hlh])
          cases hhd'
          obtain ⟨ld', hld', cl0, cl1⟩ := (unhide WYr).ins i _ hoi
          cases hld'
          simp only [] at cl0 cl1
          obtain ⟨ad', had', hab', hts', f0, f1, f2, f3⟩ := (unhide WYr).mod.func k p l s tt (unhide HWAY).2.1
          cases had'
          obtain ⟨c0, c1, c2⟩ := row_cell3 (unhide WYr).box
          have i1 : (i : Int) < (nl : Int) := by omega
          have CMv : Hid (∀ (u : World), Below wr.heap.size wr u → Calls Tryd.prog 10 #[.agg #[.slice b1 n1 d1, .slice (some ad) n2 d2, .slice b3 n3 d3], .agg #[.int .i64 op, .int .i64 ai]] u fun e w' => e = .returned (.tuple #[.int .i64 TK, .int .i64 GV]) ∧ Below u.heap.size u w') := hide (fun u hu => by
            have := moved_any m b1 n1 d1 (some ad) n2 d2 b3 n3 d3 w.heap.size op ai u ((unhide WYr).later hu).mod ((unhide WYr).later hu).big (unhide HN).1 (unhide HN).2.1 hnm
            rw [hTK, hGV] at this
            exact this)
          have SK : Hid (∀ u, Below wr.heap.size wr u → u.cell? ⟨G, 0, none⟩ = some (.slice b1 n1 d1) ∧ u.cell? ⟨G, 1, none⟩ = some (.slice (some ad) n2 d2) ∧ u.cell? ⟨G, 2, none⟩ = some (.slice b3 n3 d3) ∧ u.cell? (ld.add (i * 2)) = some (.int .i64 op) ∧ u.cell? ⟨(ld.add (i * 2)).block, (ld.add (i * 2)).off + 1, none⟩ = some (.int .i64 ai)) := hide (fun u hu => ⟨cell_ne c0 (hu.block _ (cell_lt c0)), cell_ne c1 (hu.block _ (cell_lt c1)), cell_ne c2 (hu.block _ (cell_lt c2)), cell_ne cl0 (hu.block _ (cell_lt cl0)), cell_ne cl1 (hu.block _ (cell_lt cl1))⟩)
          clear hpi hlh hoi hnm hon hTK hGV f0 f1 f3 hab' hts' hsm hmm hh2
          go_upto_region 18 with fail
          go_region_held3 (fun u => u.cell? ⟨G, 0, none⟩ = some (.slice b1 n1 d1) ∧ u.cell? ⟨G, 1, none⟩ = some (.slice (some ad) n2 d2) ∧ u.cell? ⟨G, 2, none⟩ = some (.slice b3 n3 d3) ∧ u.cell? (ld.add (i * 2)) = some (.int .i64 op) ∧ u.cell? ⟨(ld.add (i * 2)).block, (ld.add (i * 2)).off + 1, none⟩ = some (.int .i64 ai))
            (first | go_keep | (have hb6 := below_drew_of' b5; exact unhide SK _ hb6) | exact unhide SK _ ((Below.refl _ _).drew))
            (first | (go_at_call 10; refine (unhide CMv _ ((Below.refl _ _).drew)).mono ?_; rintro e wr5 ⟨rfl, b5⟩))
          have H5 : Hid (Below w10.heap.size w10 wr5) := hide ((unhide HB).trans ((below_drew_of' b5).mono (unhide HB).size))
          have WY5 := hide ((unhide WY).later (unhide H5))
          have cl0' := cell_ne cl0 ((below_drew_of' b5).block _ (cell_lt cl0))
          have cl1' := cell_ne cl1 ((below_drew_of' b5).block _ (cell_lt cl1))
          clear b5 CMv SK c0 c1 c2 cl0 cl1 f2 ch0 WYr
          obtain ⟨q, hq⟩ : ∃ q : Nat, q = i + 1 := ⟨_, rfl⟩
          have hqw : IntKind.i64.wrap ((i : Int) + 1) = (q : Int) := by rw [IntKind.wrap_i64]; omega
          have htw : IntKind.i64.wrap ((tu : Int) + 1) = ((tu + 1 : Nat) : Int) := by have := unhide Hst; rw [IntKind.wrap_i64]; omega
          have hsw : IntKind.i64.wrap ((st : Int) + 1) = ((st + 1 : Nat) : Int) := by rw [IntKind.wrap_i64]; omega
          have HQ := hide hq
          by_cases hk1 : q < nl
          · have k1 : (q : Int) < (nl : Int) := by omega
            obtain ⟨z, hzq⟩ : ∃ z, (lsF tt).2.1[q]? = some z := ⟨_, List.getElem?_eq_getElem (by have := (unhide HNP).1; omega)⟩
            obtain ⟨pd3, hpd3, cz⟩ := (unhide WY5).pls q z hzq
            cases hpd3
            have HZ : Hid ((boF m (p, l, s, tt)).ps.getD (i + 1) 0 = z ∧ i + 1 < (boF m (p, l, s, tt)).ps.length) := hide ⟨by rw [← hq]; exact getD_of hzq, by rw [← hq]; exact (List.getElem?_eq_some_iff.1 hzq).1⟩
            clear hzq hq
            by_cases o9 : op = 9
            · subst o9
              go_wp2_with fail
              go_ret
              have hb := ((unhide KEEP w10 (unhide H10)).2.2.2.1).trans ((unhide H5).mono (unhide KEEP w10 (unhide H10)).2.2.2.1.size)
              exact ⟨rfl, by first | exact hb | (rw [← hG]; exact hb)⟩
            · have q9 : (op == 9) = false := by simpa using o9
              by_cases o5 : op = 5
              · subst o5
                have HTo : Hid (HH.lookup ai = some h2 ∧ ai ∈ (lsF tt).2.1) := hide (by
                  have h9q := (unhide HON true).2.2.2 (by decide)
                  have e : toI (boF m (p, l, s, tt)) i (5, ai) true = ai := by
                    unfold toI
                    rw [if_pos rfl]
                  rw [e] at h9q
                  exact h9q)
                clear HON
                obtain ⟨X, hX⟩ : ∃ X, (lsF tt).2.1.idxOf ai = X := ⟨_, rfl⟩
                have hXa := idx_at (unhide HTo).2
                rw [hX] at hXa
                have hXl : X < nl := by have := (List.getElem?_eq_some_iff.1 hXa).1; have := (unhide HNP).1; omega
                have HX := hide hXa
                clear hX hXa
                go_wp2_with fail
                go_loopw [15, 22] (fun v15 v22 wx => ∃ j : Nat, v22 = .int .i64 (j : Int) ∧ v15 = .int .i64 (if X < j then (X : Int) else -1) ∧ Hid (j ≤ nl) ∧ wx = wr5) (fun _ v22 _ => nl - (intOf v22).toNat)
                case atStart => exact ⟨0, rfl, by rw [if_neg (by omega)], hide (by omega), rfl⟩
                case round =>
                  obtain ⟨j, rfl, rfl, Hj, hwx⟩ := hrel
                  obtain rfl := hwx
                  by_cases hjl : j < nl
                  · have jl : (j : Int) < (nl : Int) := by omega
                    obtain ⟨qq, hqq⟩ : ∃ qq, (lsF tt).2.1[j]? = some qq := ⟨_, List.getElem?_eq_getElem (by have := (unhide HNP).1; omega)⟩
                    obtain ⟨pd2, hpd2, cq⟩ := (unhide WY5).pls j qq hqq
                    cases hpd2
                    by_cases hqt : qq = ai
                    · have hjx : j = X := by
                        rcases Nat.lt_trichotomy j X with hc | hc | hc
                        · have := rise_at (unhide HWAY).2.2.1 hc hqq (unhide HX); omega
                        · exact hc
                        · have := rise_at (unhide HWAY).2.2.1 hc (unhide HX) hqq; omega
                      have HJ := hide hjx
                      rw [hqt] at cq
                      clear hjx hqq hqt
                      go_wp2_with fail
                      go_roundw
                      case rel => exact ⟨j + 1, by go_num, by rw [if_pos (by have := unhide HJ; omega), unhide HJ], hide (by omega), by first | rfl | trivial⟩
                      case measure => simp [intOf]; omega
                    · have qqt : (qq == ai) = false := by simpa using hqt
                      have hjx : ¬ j = X := fun e => by rw [e, unhide HX] at hqq; exact hqt (Option.some.inj hqq).symm
                      have HJ := hide hjx
                      clear hjx hqq
                      go_wp2_with fail
                      go_roundw
                      case rel => exact ⟨j + 1, by go_num, by
                        by_cases hc : X < j
                        · rw [if_pos hc, if_pos (by omega)]
                        · rw [if_neg hc, if_neg (by have := unhide HJ; omega)], hide (by omega), by first | rfl | trivial⟩
                      case measure => simp [intOf]; omega
                  · have jl : ¬ (j : Int) < (nl : Int) := by omega
                    have hXj : X < j := by have := unhide Hj; omega
                    rw [if_pos hXj]
                    go_wp2_with fail
                    go_roundw
                    case rel => exact ⟨X, ai, h2, tu, st + 1, by first | rfl | go_num, rfl, by first | rfl | go_num, by first | rfl | go_num, hide ⟨hXl, unhide HX, (unhide HTo).1⟩, hide (by have := unhide Hst; omega), H5⟩
                    case measure => have := unhide Hst; simp [intOf]; omega
              · have q5 : (op == 5) = false := by simpa using o5
                by_cases o6 : op = 6
                · subst o6
                  by_cases htt : tu < tn
                  · have htt' : (tu : Int) < (tn : Int) := by omega
                    obtain ⟨tb, htb⟩ : ∃ tb, ts[tu]? = some tb := ⟨_, List.getElem?_eq_getElem (by have := (unhide HN).2.2.2; omega)⟩
                    obtain ⟨td, hta, ct⟩ := (unhide WY5).trn tu tb htb
                    subst hta
                    clear htb
                    cases tb with
                    | true =>
                      have HTo : Hid (HH.lookup ai = some h2 ∧ ai ∈ (lsF tt).2.1) := hide (by
                        have h9q := (unhide HON true).2.2.2 (by decide)
                        have e : toI (boF m (p, l, s, tt)) i (6, ai) true = ai := by
                          unfold toI
                          rw [if_neg (by show ¬ (6 : Int) = 5; decide), if_pos ⟨rfl, rfl⟩]
                        rw [e] at h9q
                        exact h9q)
                      clear HON
                      obtain ⟨X, hX⟩ : ∃ X, (lsF tt).2.1.idxOf ai = X := ⟨_, rfl⟩
                      have hXa := idx_at (unhide HTo).2
                      rw [hX] at hXa
                      have hXl : X < nl := by have := (List.getElem?_eq_some_iff.1 hXa).1; have := (unhide HNP).1; omega
                      have HX := hide hXa
                      clear hX hXa
                      go_wp2_with fail
                      go_loopw [15, 22] (fun v15 v22 wx => ∃ j : Nat, v22 = .int .i64 (j : Int) ∧ v15 = .int .i64 (if X < j then (X : Int) else -1) ∧ Hid (j ≤ nl) ∧ wx = wr5) (fun _ v22 _ => nl - (intOf v22).toNat)
                      case atStart => exact ⟨0, rfl, by rw [if_neg (by omega)], hide (by omega), rfl⟩
                      case round =>
                        obtain ⟨j, rfl, rfl, Hj, hwx⟩ := hrel
                        obtain rfl := hwx
                        by_cases hjl : j < nl
                        · have jl : (j : Int) < (nl : Int) := by omega
                          obtain ⟨qq, hqq⟩ : ∃ qq, (lsF tt).2.1[j]? = some qq := ⟨_, List.getElem?_eq_getElem (by have := (unhide HNP).1; omega)⟩
                          obtain ⟨pd2, hpd2, cq⟩ := (unhide WY5).pls j qq hqq
                          cases hpd2
                          by_cases hqt : qq = ai
                          · have hjx : j = X := by
                              rcases Nat.lt_trichotomy j X with hc | hc | hc
                              · have := rise_at (unhide HWAY).2.2.1 hc hqq (unhide HX); omega
                              · exact hc
                              · have := rise_at (unhide HWAY).2.2.1 hc (unhide HX) hqq; omega
                            have HJ := hide hjx
                            rw [hqt] at cq
                            clear hjx hqq hqt
                            go_wp2_with fail
                            go_roundw
                            case rel => exact ⟨j + 1, by go_num, by rw [if_pos (by have := unhide HJ; omega), unhide HJ], hide (by omega), by first | rfl | trivial⟩
                            case measure => simp [intOf]; omega
                          · have qqt : (qq == ai) = false := by simpa using hqt
                            have hjx : ¬ j = X := fun e => by rw [e, unhide HX] at hqq; exact hqt (Option.some.inj hqq).symm
                            have HJ := hide hjx
                            clear hjx hqq
                            go_wp2_with fail
                            go_roundw
                            case rel => exact ⟨j + 1, by go_num, by
                              by_cases hc : X < j
                              · rw [if_pos hc, if_pos (by omega)]
                              · rw [if_neg hc, if_neg (by have := unhide HJ; omega)], hide (by omega), by first | rfl | trivial⟩
                            case measure => simp [intOf]; omega
                        · have jl : ¬ (j : Int) < (nl : Int) := by omega
                          have hXj : X < j := by have := unhide Hj; omega
                          rw [if_pos hXj]
                          go_wp2_with fail
                          go_roundw
                          case rel => exact ⟨X, ai, h2, tu + 1, st + 1, by first | rfl | go_num, rfl, by first | rfl | go_num, by first | rfl | go_num, hide ⟨hXl, unhide HX, (unhide HTo).1⟩, hide (by have := unhide Hst; omega), H5⟩
                          case measure => have := unhide Hst; simp [intOf]; omega
                    | false =>
                      have HTo : Hid (HH.lookup z = some h2 ∧ z ∈ (lsF tt).2.1) := hide (by
                        have h9q := (unhide HON false).2.2.2 (by decide)
                        have e : toI (boF m (p, l, s, tt)) i (6, ai) false = z := by
                          unfold toI
                          rw [if_neg (by show ¬ (6 : Int) = 5; decide), if_neg (by simp), if_pos (unhide HZ).2]; exact (unhide HZ).1
                        rw [e] at h9q
                        exact h9q)
                      clear HON
                      obtain ⟨X, hX⟩ : ∃ X, (lsF tt).2.1.idxOf z = X := ⟨_, rfl⟩
                      have hXa := idx_at (unhide HTo).2
                      rw [hX] at hXa
                      have hXl : X < nl := by have := (List.getElem?_eq_some_iff.1 hXa).1; have := (unhide HNP).1; omega
                      have HX := hide hXa
                      clear hX hXa
                      go_wp2_with fail
                      go_loopw [15, 22] (fun v15 v22 wx => ∃ j : Nat, v22 = .int .i64 (j : Int) ∧ v15 = .int .i64 (if X < j then (X : Int) else -1) ∧ Hid (j ≤ nl) ∧ wx = wr5) (fun _ v22 _ => nl - (intOf v22).toNat)
                      case atStart => exact ⟨0, rfl, by rw [if_neg (by omega)], hide (by omega), rfl⟩
                      case round =>
                        obtain ⟨j, rfl, rfl, Hj, hwx⟩ := hrel
                        obtain rfl := hwx
                        by_cases hjl : j < nl
                        · have jl : (j : Int) < (nl : Int) := by omega
                          obtain ⟨qq, hqq⟩ : ∃ qq, (lsF tt).2.1[j]? = some qq := ⟨_, List.getElem?_eq_getElem (by have := (unhide HNP).1; omega)⟩
                          obtain ⟨pd2, hpd2, cq⟩ := (unhide WY5).pls j qq hqq
                          cases hpd2
                          by_cases hqt : qq = z
                          · have hjx : j = X := by
                              rcases Nat.lt_trichotomy j X with hc | hc | hc
                              · have := rise_at (unhide HWAY).2.2.1 hc hqq (unhide HX); omega
                              · exact hc
                              · have := rise_at (unhide HWAY).2.2.1 hc (unhide HX) hqq; omega
                            have HJ := hide hjx
                            rw [hqt] at cq
                            clear hjx hqq hqt
                            go_wp2_with fail
                            go_roundw
                            case rel => exact ⟨j + 1, by go_num, by rw [if_pos (by have := unhide HJ; omega), unhide HJ], hide (by omega), by first | rfl | trivial⟩
                            case measure => simp [intOf]; omega
                          · have qqt : (qq == z) = false := by simpa using hqt
                            have hjx : ¬ j = X := fun e => by rw [e, unhide HX] at hqq; exact hqt (Option.some.inj hqq).symm
                            have HJ := hide hjx
                            clear hjx hqq
                            go_wp2_with fail
                            go_roundw
                            case rel => exact ⟨j + 1, by go_num, by
                              by_cases hc : X < j
                              · rw [if_pos hc, if_pos (by omega)]
                              · rw [if_neg hc, if_neg (by have := unhide HJ; omega)], hide (by omega), by first | rfl | trivial⟩
                            case measure => simp [intOf]; omega
                        · have jl : ¬ (j : Int) < (nl : Int) := by omega
                          have hXj : X < j := by have := unhide Hj; omega
                          rw [if_pos hXj]
                          go_wp2_with fail
                          go_roundw
                          case rel => exact ⟨X, z, h2, tu + 1, st + 1, by first | rfl | go_num, rfl, by first | rfl | go_num, by first | rfl | go_num, hide ⟨hXl, unhide HX, (unhide HTo).1⟩, hide (by have := unhide Hst; omega), H5⟩
                          case measure => have := unhide Hst; simp [intOf]; omega
                  · have htt' : ¬ (tu : Int) < (tn : Int) := by omega
                    have HTo : Hid (HH.lookup z = some h2 ∧ z ∈ (lsF tt).2.1) := hide (by
                      have h9q := (unhide HON false).2.2.2 (by decide)
                      have e : toI (boF m (p, l, s, tt)) i (6, ai) false = z := by
                        unfold toI
                        rw [if_neg (by show ¬ (6 : Int) = 5; decide), if_neg (by simp), if_pos (unhide HZ).2]; exact (unhide HZ).1
                      rw [e] at h9q
                      exact h9q)
                    clear HON
                    obtain ⟨X, hX⟩ : ∃ X, (lsF tt).2.1.idxOf z = X := ⟨_, rfl⟩
                    have hXa := idx_at (unhide HTo).2
                    rw [hX] at hXa
                    have hXl : X < nl := by have := (List.getElem?_eq_some_iff.1 hXa).1; have := (unhide HNP).1; omega
                    have HX := hide hXa
                    clear hX hXa
                    go_wp2_with fail
                    go_loopw [15, 22] (fun v15 v22 wx => ∃ j : Nat, v22 = .int .i64 (j : Int) ∧ v15 = .int .i64 (if X < j then (X : Int) else -1) ∧ Hid (j ≤ nl) ∧ wx = wr5) (fun _ v22 _ => nl - (intOf v22).toNat)
                    case atStart => exact ⟨0, rfl, by rw [if_neg (by omega)], hide (by omega), rfl⟩
                    case round =>
                      obtain ⟨j, rfl, rfl, Hj, hwx⟩ := hrel
                      obtain rfl := hwx
                      by_cases hjl : j < nl
                      · have jl : (j : Int) < (nl : Int) := by omega
                        obtain ⟨qq, hqq⟩ : ∃ qq, (lsF tt).2.1[j]? = some qq := ⟨_, List.getElem?_eq_getElem (by have := (unhide HNP).1; omega)⟩
                        obtain ⟨pd2, hpd2, cq⟩ := (unhide WY5).pls j qq hqq
                        cases hpd2
                        by_cases hqt : qq = z
                        · have hjx : j = X := by
                            rcases Nat.lt_trichotomy j X with hc | hc | hc
                            · have := rise_at (unhide HWAY).2.2.1 hc hqq (unhide HX); omega
                            · exact hc
                            · have := rise_at (unhide HWAY).2.2.1 hc (unhide HX) hqq; omega
                          have HJ := hide hjx
                          rw [hqt] at cq
                          clear hjx hqq hqt
                          go_wp2_with fail
                          go_roundw
                          case rel => exact ⟨j + 1, by go_num, by rw [if_pos (by have := unhide HJ; omega), unhide HJ], hide (by omega), by first | rfl | trivial⟩
                          case measure => simp [intOf]; omega
                        · have qqt : (qq == z) = false := by simpa using hqt
                          have hjx : ¬ j = X := fun e => by rw [e, unhide HX] at hqq; exact hqt (Option.some.inj hqq).symm
                          have HJ := hide hjx
                          clear hjx hqq
                          go_wp2_with fail
                          go_roundw
                          case rel => exact ⟨j + 1, by go_num, by
                            by_cases hc : X < j
                            · rw [if_pos hc, if_pos (by omega)]
                            · rw [if_neg hc, if_neg (by have := unhide HJ; omega)], hide (by omega), by first | rfl | trivial⟩
                          case measure => simp [intOf]; omega
                      · have jl : ¬ (j : Int) < (nl : Int) := by omega
                        have hXj : X < j := by have := unhide Hj; omega
                        rw [if_pos hXj]
                        go_wp2_with fail
                        go_roundw
                        case rel => exact ⟨X, z, h2, tu + 1, st + 1, by first | rfl | go_num, rfl, by first | rfl | go_num, by first | rfl | go_num, hide ⟨hXl, unhide HX, (unhide HTo).1⟩, hide (by have := unhide Hst; omega), H5⟩
                        case measure => have := unhide Hst; simp [intOf]; omega
                · have q6 : (op == 6) = false := by simpa using o6
                  have HTo : Hid (HH.lookup z = some h2 ∧ z ∈ (lsF tt).2.1) := hide (by
                    have h9q := (unhide HON false).2.2.2 o9
                    have e : toI (boF m (p, l, s, tt)) i (op, ai) false = z := by
                      unfold toI
                      rw [if_neg o5, if_neg (fun e => o6 e.1), if_pos (unhide HZ).2]; exact (unhide HZ).1
                    rw [e] at h9q
                    exact h9q)
                  clear HON
                  obtain ⟨X, hX⟩ : ∃ X, (lsF tt).2.1.idxOf z = X := ⟨_, rfl⟩
                  have hXa := idx_at (unhide HTo).2
                  rw [hX] at hXa
                  have hXl : X < nl := by have := (List.getElem?_eq_some_iff.1 hXa).1; have := (unhide HNP).1; omega
                  have HX := hide hXa
                  clear hX hXa
                  go_wp2_with fail
                  go_loopw [15, 22] (fun v15 v22 wx => ∃ j : Nat, v22 = .int .i64 (j : Int) ∧ v15 = .int .i64 (if X < j then (X : Int) else -1) ∧ Hid (j ≤ nl) ∧ wx = wr5) (fun _ v22 _ => nl - (intOf v22).toNat)
                  case atStart => exact ⟨0, rfl, by rw [if_neg (by omega)], hide (by omega), rfl⟩
                  case round =>
                    obtain ⟨j, rfl, rfl, Hj, hwx⟩ := hrel
                    obtain rfl := hwx
                    by_cases hjl : j < nl
                    · have jl : (j : Int) < (nl : Int) := by omega
                      obtain ⟨qq, hqq⟩ : ∃ qq, (lsF tt).2.1[j]? = some qq := ⟨_, List.getElem?_eq_getElem (by have := (unhide HNP).1; omega)⟩
                      obtain ⟨pd2, hpd2, cq⟩ := (unhide WY5).pls j qq hqq
                      cases hpd2
                      by_cases hqt : qq = z
                      · have hjx : j = X := by
                          rcases Nat.lt_trichotomy j X with hc | hc | hc
                          · have := rise_at (unhide HWAY).2.2.1 hc hqq (unhide HX); omega
                          · exact hc
                          · have := rise_at (unhide HWAY).2.2.1 hc (unhide HX) hqq; omega
                        have HJ := hide hjx
                        rw [hqt] at cq
                        clear hjx hqq hqt
                        go_wp2_with fail
                        go_roundw
                        case rel => exact ⟨j + 1, by go_num, by rw [if_pos (by have := unhide HJ; omega), unhide HJ], hide (by omega), by first | rfl | trivial⟩
                        case measure => simp [intOf]; omega
                      · have qqt : (qq == z) = false := by simpa using hqt
                        have hjx : ¬ j = X := fun e => by rw [e, unhide HX] at hqq; exact hqt (Option.some.inj hqq).symm
                        have HJ := hide hjx
                        clear hjx hqq
                        go_wp2_with fail
                        go_roundw
                        case rel => exact ⟨j + 1, by go_num, by
                          by_cases hc : X < j
                          · rw [if_pos hc, if_pos (by omega)]
                          · rw [if_neg hc, if_neg (by have := unhide HJ; omega)], hide (by omega), by first | rfl | trivial⟩
                        case measure => simp [intOf]; omega
                    · have jl : ¬ (j : Int) < (nl : Int) := by omega
                      have hXj : X < j := by have := unhide Hj; omega
                      rw [if_pos hXj]
                      go_wp2_with fail
                      go_roundw
                      case rel => exact ⟨X, z, h2, tu, st + 1, by first | rfl | go_num, rfl, by first | rfl | go_num, by first | rfl | go_num, hide ⟨hXl, unhide HX, (unhide HTo).1⟩, hide (by have := unhide Hst; omega), H5⟩
                      case measure => have := unhide Hst; simp [intOf]; omega
          · have k1 : ¬ (q : Int) < (nl : Int) := by omega
            have HNo : Hid (¬ i + 1 < (boF m (p, l, s, tt)).ps.length ∧ ¬ (-1 : Int) ∈ (boF m (p, l, s, tt)).ps) := hide ⟨by rw [← hq]; have := (unhide HNP).1; show ¬ q < (lsF tt).2.1.length; omega, fun e => by have := (unhide HWAY).1.2.2.1.snd.inn _ e; omega⟩
            clear hq
            by_cases o9 : op = 9
            · subst o9
              go_wp2_with fail
              go_ret
              have hb := ((unhide KEEP w10 (unhide H10)).2.2.2.1).trans ((unhide H5).mono (unhide KEEP w10 (unhide H10)).2.2.2.1.size)
              exact ⟨rfl, by first | exact hb | (rw [← hG]; exact hb)⟩
            · have q9 : (op == 9) = false := by simpa using o9
              by_cases o5 : op = 5
              · subst o5
                have HTo : Hid (HH.lookup ai = some h2 ∧ ai ∈ (lsF tt).2.1) := hide (by
                  have h9q := (unhide HON true).2.2.2 (by decide)
                  have e : toI (boF m (p, l, s, tt)) i (5, ai) true = ai := by
                    unfold toI
                    rw [if_pos rfl]
                  rw [e] at h9q
                  exact h9q)
                clear HON
                obtain ⟨X, hX⟩ : ∃ X, (lsF tt).2.1.idxOf ai = X := ⟨_, rfl⟩
                have hXa := idx_at (unhide HTo).2
                rw [hX] at hXa
                have hXl : X < nl := by have := (List.getElem?_eq_some_iff.1 hXa).1; have := (unhide HNP).1; omega
                have HX := hide hXa
                clear hX hXa
                go_wp2_with fail
                go_loopw [15, 22] (fun v15 v22 wx => ∃ j : Nat, v22 = .int .i64 (j : Int) ∧ v15 = .int .i64 (if X < j then (X : Int) else -1) ∧ Hid (j ≤ nl) ∧ wx = wr5) (fun _ v22 _ => nl - (intOf v22).toNat)
                case atStart => exact ⟨0, rfl, by rw [if_neg (by omega)], hide (by omega), rfl⟩
                case round =>
                  obtain ⟨j, rfl, rfl, Hj, hwx⟩ := hrel
                  obtain rfl := hwx
                  by_cases hjl : j < nl
                  · have jl : (j : Int) < (nl : Int) := by omega
                    obtain ⟨qq, hqq⟩ : ∃ qq, (lsF tt).2.1[j]? = some qq := ⟨_, List.getElem?_eq_getElem (by have := (unhide HNP).1; omega)⟩
                    obtain ⟨pd2, hpd2, cq⟩ := (unhide WY5).pls j qq hqq
                    cases hpd2
                    by_cases hqt : qq = ai
                    · have hjx : j = X := by
                        rcases Nat.lt_trichotomy j X with hc | hc | hc
                        · have := rise_at (unhide HWAY).2.2.1 hc hqq (unhide HX); omega
                        · exact hc
                        · have := rise_at (unhide HWAY).2.2.1 hc (unhide HX) hqq; omega
                      have HJ := hide hjx
                      rw [hqt] at cq
                      clear hjx hqq hqt
                      go_wp2_with fail
                      go_roundw
                      case rel => exact ⟨j + 1, by go_num, by rw [if_pos (by have := unhide HJ; omega), unhide HJ], hide (by omega), by first | rfl | trivial⟩
                      case measure => simp [intOf]; omega
                    · have qqt : (qq == ai) = false := by simpa using hqt
                      have hjx : ¬ j = X := fun e => by rw [e, unhide HX] at hqq; exact hqt (Option.some.inj hqq).symm
                      have HJ := hide hjx
                      clear hjx hqq
                      go_wp2_with fail
                      go_roundw
                      case rel => exact ⟨j + 1, by go_num, by
                        by_cases hc : X < j
                        · rw [if_pos hc, if_pos (by omega)]
                        · rw [if_neg hc, if_neg (by have := unhide HJ; omega)], hide (by omega), by first | rfl | trivial⟩
                      case measure => simp [intOf]; omega
                  · have jl : ¬ (j : Int) < (nl : Int) := by omega
                    have hXj : X < j := by have := unhide Hj; omega
                    rw [if_pos hXj]
                    go_wp2_with fail
                    go_roundw
                    case rel => exact ⟨X, ai, h2, tu, st + 1, by first | rfl | go_num, rfl, by first | rfl | go_num, by first | rfl | go_num, hide ⟨hXl, unhide HX, (unhide HTo).1⟩, hide (by have := unhide Hst; omega), H5⟩
                    case measure => have := unhide Hst; simp [intOf]; omega
              · have q5 : (op == 5) = false := by simpa using o5
                exfalso
                have h9q := ((unhide HON false).2.2.2 o9).2
                have e : toI (boF m (p, l, s, tt)) i (op, ai) false = -1 := by
                  unfold toI
                  rw [if_neg o5, if_neg (by simp), if_neg (unhide HNo).1]
                rw [e] at h9q
                exact (unhide HNo).2 h9q
        · have st1 : ¬ (st : Int) < 4000 := by omega
          go_wp2_with fail
          go_ret
          have hb := ((unhide KEEP w10 (unhide H10)).2.2.2.1).trans ((unhide HB).mono (unhide KEEP w10 (unhide H10)).2.2.2.1.size)
          exact ⟨rfl, by first | exact hb | (rw [← hG]; exact hb)⟩
  · have qfa : (fa == 0) = false := by simpa using hfa
    go_upto_region 3 with fail
    obtain ⟨w5, hw5⟩ : ∃ w5, w4.alloc (.cells #[.int .i64 fa, .int .i64 fb, .int .i64 fc] 31) = w5 := ⟨_, rfl⟩
    have d5 : w5.heap[w4.heap.size]? = some (.cells #[.int .i64 fa, .int .i64 fb, .int .i64 fc] 31 (0, 0)) := by rw [← hw5]; exact heap_alloc_new _ _
    have x5 : Below w4.heap.size w4 w5 := by rw [← hw5]; exact (Below.refl _ _).alloc (Nat.le_refl _) _
    have H5 : Hid (Below w1.heap.size w1 w5) := hide ((unhide H4).trans (x5.mono (unhide H4).size))
    rw [hw5]
    obtain ⟨r0, r1, r2⟩ := row_cell3 d5
    obtain ⟨c0, c1, c2⟩ := row_cell3 (unhide KEEP w5 (unhide H5)).1
    clear hw5 d5 x5
    go_wp2_with fail
    go_ret
    have hb := (unhide KEEP w5 (unhide H5)).2.2.2.1
    exact ⟨rfl, by first | exact hb | (rw [← hG]; exact hb)⟩
end Go.Proofs.YtdlgehnplkeoiaaDoor
