/-
  Two modules' bytes are the same just if the modules are, and none begins the other (ModuleApartSaid); no condition but the form's own reach.
-/
import Derived.Test.YtclamkkamkimnabRows
import Derived.Test.YtclamkkamkimnabM6
import Derived.Test.YtclamkkamkimnabM7
import Derived.Test.YtclamkkamkimnabMApart
import Derived.Test.YtclamkkamkimnabMOpen
import Derived.ShutString
import Derived.ChangeOld
import Derived.Deep.RegionHeld3
import Derived.BigQuiet
namespace Go.Proofs.Ytclamkkamkimnab.moduleApart
open Go.ChangeShapes Go.WideShapes Go.ChangeAt Go.RowKit
set_option linter.unusedVariables false

theorem own : ownKnob Try.prog.godebug = none := by kernel_rfl
theorem laidOut : laidOutB Try.prog = true := by kernel_rfl

theorem encM_pos (m : Md) : 0 < (encM m).length := by
  have h1 := outM_le m 0 3
  have h2 : (outM m 0).length = 4 := rfl
  unfold encM
  rw [Nat.zero_add] at h1
  omega

theorem conv_q {v w' : World} {b off : Nat} {len : Nat} {zs : List Int} (hz : zs.length = len) (hc : ∀ j, j < len → v.cell? ⟨b, off + j, none⟩ = some (.int .u8 (zs.getD j 0))) (n cap : Nat) (hi : n ≤ len) (hb : Below v.heap.size v w') :
    ∀ q, Sem.run Try.prog (convert 28 9 (.slice (some ⟨b, off, none⟩) n cap)) (w'.drewN q) = .ok (.string (strOfNums (zs.take n))) (w'.drewN q) := by
  intro q
  have := conv_row (w := w') hz (fun j hj => cell_later hb (hc j hj)) 0 n cap (by omega) q
  rw [Nat.add_zero, List.drop_zero] at this
  exact this

theorem right_formed {m : Md} (h : rightM m = true) : formedB m = true := by
  unfold rightM at h
  simp only [Bool.and_eq_true] at h
  exact h.1

theorem codeM_no {m : Md} (h : rightM m = false) : codeM m = 90 := by unfold codeM; rw [h]; rfl
theorem codeM_yes {m : Md} (h : rightM m = true) : codeM m = 0 ∧ bytesM m = encM m := by unfold codeM bytesM; rw [h]; exact ⟨rfl, rfl⟩

/-- what two modules' bytes are held against -/
theorem text_test {a b : Md} (ha : rightM a = true) (hb : rightM b = true) (fa : ∀ v ∈ a.cs, fitB v = true) (fb : ∀ v ∈ b.cs, fitB v = true) (hne : ¬ a = b) : ((strOfNums ((encM b).take (encM a).length)).toList == (strOfNums (encM a)).toList) = false := by
  refine beq_eq_false_iff_ne.2 fun e => hne ?_
  have s1 : ∀ c ∈ encM a, 0 ≤ c ∧ c ≤ 255 := outM_small (right_formed ha) fa 3 (Nat.le_refl _)
  have s2 : ∀ c ∈ encM b, 0 ≤ c ∧ c ≤ 255 := outM_small (right_formed hb) fb 3 (Nat.le_refl _)
  have e1 := congrArg nums (toList_inj.1 e)
  rw [nums_strM _ (fun c hc => s2 c (List.mem_of_mem_take hc)), nums_strM _ s1] at e1
  exact encM_begins (right_formed ha) (right_formed hb) e1

set_option maxRecDepth 100000 in
set_option maxHeartbeats 1000000 in
theorem walk_no (m k : Md) (a1 a2 a3 b1 b2 b3 : Option Addr) (n1 c1 n2 c2 n3 c3 l1 f1 l2 f2 l3 f3 B : Nat) (w : World) (hn1 : m.cs.length = n1) (hn2 : m.fs.length = n2) (hn3 : m.xs.length = n3) (hl1 : k.cs.length = l1) (hl2 : k.fs.length = l2) (hl3 : k.xs.length = l3)
    (h : IsM w (fun b => b < B) m a1 c1 a2 c2 a3 c3) (h' : IsM w (fun b => b < B) k b1 f1 b2 f2 b3 f3) (hB : B ≤ w.heap.size) (hno : rightM m = false ∨ rightM k = false) :
    Calls Try.prog 3 #[.agg #[.slice a1 n1 c1, .slice a2 n2 c2, .slice a3 n3 c3], .agg #[.slice b1 l1 f1, .slice b2 l2 f2, .slice b3 l3 f3]] w fun e w' => e = .returned (.bool true) ∧ Below w.heap.size w w' := by
  obtain ⟨g, hg⟩ : ∃ g, w.heap.size = g := ⟨_, rfl⟩
  have BX := BoxN.mk' w #[.slice a1 n1 c1, .slice a2 n2 c2, .slice a3 n3 c3] 26
  obtain ⟨w1, hw1⟩ : ∃ w1, w.alloc (.cells #[.slice a1 n1 c1, .slice a2 n2 c2, .slice a3 n3 c3] 26) = w1 := ⟨_, rfl⟩
  rw [hw1] at BX
  obtain ⟨g', hg'⟩ : ∃ g', w1.heap.size = g' := ⟨_, rfl⟩
  have BY := BoxN.mk' w1 #[.slice b1 l1 f1, .slice b2 l2 f2, .slice b3 l3 f3] 26
  obtain ⟨w2, hw2⟩ : ∃ w2, w1.alloc (.cells #[.slice b1 l1 f1, .slice b2 l2 f2, .slice b3 l3 f3] 26) = w2 := ⟨_, rfl⟩
  rw [hw2] at BY
  have H2 : Hid (∀ u, Below w2.heap.size w2 u → TwoM u B g g' m k (.slice a1 n1 c1) (.slice a2 n2 c2) (.slice a3 n3 c3) (.slice b1 l1 f1) (.slice b2 l2 f2) (.slice b3 l3 f3) a1 c1 a2 c2 a3 c3 b1 f1 b2 f2 b3 f3 ∧ Below w.heap.size w u) := hide (fun u hu => by
    have q1 := BX.size
    have q2 : Below w.heap.size w w2 := BX.below.trans (BY.below.mono (by omega))
    have q3 : TwoM w2 B g g' m k (.slice a1 n1 c1) (.slice a2 n2 c2) (.slice a3 n3 c3) (.slice b1 l1 f1) (.slice b2 l2 f2) (.slice b3 l3 f3) a1 c1 a2 c2 a3 c3 b1 f1 b2 f2 b3 f3 := ⟨(BY.below.block g (by omega)).trans (by rw [← hg]; exact BX.row), by rw [← hg']; exact BY.row, h.later (q2.mono hB), h'.later (q2.mono hB), Nat.le_trans hB q2.size⟩
    exact ⟨q3.later hu, q2.trans (hu.mono q2.size)⟩)
  have CS := hide (shown_any w2)
  have CE := fun u (hu : Below w2.heap.size w2 u) => hide (encodeM_any m a1 a2 a3 n1 c1 n2 c2 n3 c3 B u hn1 hn2 hn3 (unhide H2 u hu).1.mod (unhide H2 u hu).1.low)
  have CF := fun u (hu : Below w2.heap.size w2 u) => hide (encodeM_any k b1 b2 b3 l1 f1 l2 f2 l3 f3 B u hl1 hl2 hl3 (unhide H2 u hu).1.mod' (unhide H2 u hu).1.low)
  obtain ⟨r1, hr1⟩ : ∃ c, codeM m = c := ⟨_, rfl⟩
  obtain ⟨r2, hr2⟩ : ∃ c, codeM k = c := ⟨_, rfl⟩
  have hcc : ¬ r1 = 0 ∨ (r1 = 0 ∧ ¬ r2 = 0) := by
    rcases hno with h | h
    · left; rw [← hr1, codeM_no h]; omega
    · by_cases h0 : r1 = 0
      · right; exact ⟨h0, by rw [← hr2, codeM_no h]; omega⟩
      · exact Or.inl h0
  simp only [hr1] at CE
  simp only [hr2] at CF
  have HG := hide hg
  clear h h' hn1 hn2 hn3 hl1 hl2 hl3 hno hr1 hr2 BX BY
  go_enter Try.func3, Try.ntmps3
  go_wp2_with fail
  refine (unhide CS).mono ?_
  rintro e u ⟨rfl, b1'⟩
  have B1 := hide b1'
  obtain ⟨m0, m1, m2⟩ := row_cell3 (unhide H2 u b1').1.box
  clear b1'
  go_wp2_with fail
  refine (unhide (CE u (unhide B1))).mono ?_
  rintro e u2 ⟨ao, len, cap, rfl, _, b2', _, _, _⟩
  have B2 := hide ((unhide B1).trans (b2'.mono (unhide B1).size))
  obtain ⟨m3, m4, m5⟩ := row_cell3 (unhide H2 u2 (unhide B2)).1.box'
  clear b2'
  go_wp2_with fail
  refine (unhide (CF u2 (unhide B2))).mono ?_
  rintro e u3 ⟨ao3, len3, cap3, rfl, _, b3', _, _, _⟩
  have B3 := hide (unhide H2 u3 ((unhide B2).trans (b3'.mono (unhide B2).size))).2
  clear b3'
  rcases hcc with k1 | ⟨k0, k1⟩
  · go_wp2_with fail
    go_ret
    exact ⟨rfl, by first | exact unhide B3 | (rw [← unhide HG]; exact unhide B3)⟩
  · subst k0
    go_wp2_with fail
    go_ret
    exact ⟨rfl, by first | exact unhide B3 | (rw [← unhide HG]; exact unhide B3)⟩

set_option maxRecDepth 100000 in
set_option maxHeartbeats 1000000 in
theorem walk_yes (m k : Md) (a1 a2 a3 b1 b2 b3 : Option Addr) (n1 c1 n2 c2 n3 c3 l1 f1 l2 f2 l3 f3 B : Nat) (w : World) (hn1 : m.cs.length = n1) (hn2 : m.fs.length = n2) (hn3 : m.xs.length = n3) (hl1 : k.cs.length = l1) (hl2 : k.fs.length = l2) (hl3 : k.xs.length = l3)
    (h : IsM w (fun b => b < B) m a1 c1 a2 c2 a3 c3) (h' : IsM w (fun b => b < B) k b1 f1 b2 f2 b3 f3) (hB : B ≤ w.heap.size) (hr : rightM m = true) (hr' : rightM k = true) :
    Calls Try.prog 3 #[.agg #[.slice a1 n1 c1, .slice a2 n2 c2, .slice a3 n3 c3], .agg #[.slice b1 l1 f1, .slice b2 l2 f2, .slice b3 l3 f3]] w fun e w' => e = .returned (.bool true) ∧ Below w.heap.size w w' := by
  obtain ⟨g, hg⟩ : ∃ g, w.heap.size = g := ⟨_, rfl⟩
  have BX := BoxN.mk' w #[.slice a1 n1 c1, .slice a2 n2 c2, .slice a3 n3 c3] 26
  obtain ⟨w1, hw1⟩ : ∃ w1, w.alloc (.cells #[.slice a1 n1 c1, .slice a2 n2 c2, .slice a3 n3 c3] 26) = w1 := ⟨_, rfl⟩
  rw [hw1] at BX
  obtain ⟨g', hg'⟩ : ∃ g', w1.heap.size = g' := ⟨_, rfl⟩
  have BY := BoxN.mk' w1 #[.slice b1 l1 f1, .slice b2 l2 f2, .slice b3 l3 f3] 26
  obtain ⟨w2, hw2⟩ : ∃ w2, w1.alloc (.cells #[.slice b1 l1 f1, .slice b2 l2 f2, .slice b3 l3 f3] 26) = w2 := ⟨_, rfl⟩
  rw [hw2] at BY
  have H2 : Hid (∀ u, Below w2.heap.size w2 u → TwoM u B g g' m k (.slice a1 n1 c1) (.slice a2 n2 c2) (.slice a3 n3 c3) (.slice b1 l1 f1) (.slice b2 l2 f2) (.slice b3 l3 f3) a1 c1 a2 c2 a3 c3 b1 f1 b2 f2 b3 f3 ∧ Below w.heap.size w u) := hide (fun u hu => by
    have q1 := BX.size
    have q2 : Below w.heap.size w w2 := BX.below.trans (BY.below.mono (by omega))
    have q3 : TwoM w2 B g g' m k (.slice a1 n1 c1) (.slice a2 n2 c2) (.slice a3 n3 c3) (.slice b1 l1 f1) (.slice b2 l2 f2) (.slice b3 l3 f3) a1 c1 a2 c2 a3 c3 b1 f1 b2 f2 b3 f3 := ⟨(BY.below.block g (by omega)).trans (by rw [← hg]; exact BX.row), by rw [← hg']; exact BY.row, h.later (q2.mono hB), h'.later (q2.mono hB), Nat.le_trans hB q2.size⟩
    exact ⟨q3.later hu, q2.trans (hu.mono q2.size)⟩)
  have CS := hide (shown_any w2)
  have CE := fun u (hu : Below w2.heap.size w2 u) => hide (encodeM_any m a1 a2 a3 n1 c1 n2 c2 n3 c3 B u hn1 hn2 hn3 (unhide H2 u hu).1.mod (unhide H2 u hu).1.low)
  have CF := fun u (hu : Below w2.heap.size w2 u) => hide (encodeM_any k b1 b2 b3 l1 f1 l2 f2 l3 f3 B u hl1 hl2 hl3 (unhide H2 u hu).1.mod' (unhide H2 u hu).1.low)
  obtain ⟨k1, k2⟩ := codeM_yes hr
  obtain ⟨k3, k4⟩ := codeM_yes hr'
  simp only [k1, k2] at CE
  simp only [k3, k4] at CF
  have CQ := fun u (hu : Below w2.heap.size w2 u) => hide (sameM_any m k a1 a2 a3 b1 b2 b3 n1 c1 n2 c2 n3 c3 l1 f1 l2 f2 l3 f3 B u hn1 hn2 hn3 hl1 hl2 hl3 (unhide H2 u hu).1.mod (unhide H2 u hu).1.mod' (unhide H2 u hu).1.low)
  have HT := hide (text_test hr hr' (cs_fit h.hc) (cs_fit h'.hc))
  have p1 := encM_pos m
  have p2 := encM_pos k
  have HG := hide hg
  clear h h' hn1 hn2 hn3 hl1 hl2 hl3 hr hr' k1 k2 k3 k4 BX BY
  go_enter Try.func3, Try.ntmps3
  go_wp2_with fail
  refine (unhide CS).mono ?_
  rintro e u ⟨rfl, b1'⟩
  have B1 := hide b1'
  obtain ⟨m0, m1, m2⟩ := row_cell3 (unhide H2 u b1').1.box
  clear b1'
  go_wp2_with fail
  refine (unhide (CE u (unhide B1))).mono ?_
  rintro e u2 ⟨ao, lx, cx, rfl, q2, b2', _, x2, _⟩
  have B2 := hide ((unhide B1).trans (b2'.mono (unhide B1).size))
  have Q2 := hide q2
  have e2 := q2.length
  have le2 := q2.le
  obtain ⟨m3, m4, m5⟩ := row_cell3 (unhide H2 u2 (unhide B2)).1.box'
  clear b2' q2
  go_wp2_with fail
  refine (unhide (CF u2 (unhide B2))).mono ?_
  rintro e u3 ⟨ao3, ly, cy, rfl, q3, b3', _, x3, _⟩
  have B3 := hide ((unhide B2).trans (b3'.mono (unhide B2).size))
  have Q2' := hide ((unhide Q2).later b3')
  have e3 := q3.length
  have le3 := q3.le
  obtain ⟨b, off, rfl, hc⟩ := (unhide Q2').at (by omega)
  obtain ⟨b', off', rfl, hc'⟩ := q3.at (by omega)
  have CV1 := conv_q e2 hc lx cx (Nat.le_refl _) (Below.refl _ _)
  rw [List.take_of_length_le (by omega)] at CV1
  have HCV := hide (fun (hle : lx ≤ ly) => conv_q e3 hc' lx cy hle (Below.refl _ _))
  have HQ5 : Hid (∀ q, TwoM (u3.drewN q) B g g' m k (.slice a1 n1 c1) (.slice a2 n2 c2) (.slice a3 n3 c3) (.slice b1 l1 f1) (.slice b2 l2 f2) (.slice b3 l3 f3) a1 c1 a2 c2 a3 c3 b1 f1 b2 f2 b3 f3 ∧ Below w2.heap.size w2 (u3.drewN q)) := hide (fun q => by
    have z := below_drewN (unhide B3) q
    exact ⟨(unhide H2 _ z).1, z⟩)
  have hmx2 : cx ≤ 9223372036854775807 := by unfold maxLen at x2; omega
  have hmx3 : cy ≤ 9223372036854775807 := by unfold maxLen at x3; omega
  clear b3' q3 Q2 CE CF CS hc hc' m0 m1 m2 m3 m4 m5
  by_cases hab : m = k
  · have hly : ly = lx := by rw [← e2, ← e3, hab]
    have CV2 := unhide HCV (by omega)
    have hT2 : (encM k).take lx = encM m := by rw [← hab, List.take_of_length_le (by omega)]
    rw [hT2] at CV2
    have i1 : (lx : Int) ≤ (ly : Int) := by omega
    have i2 : (lx : Int) ≤ (cy : Int) := by omega
    have HAB := hide hab
    clear hab hT2 hly
    obtain ⟨T, hTT⟩ : ∃ T, strOfNums (encM m) = T := ⟨_, rfl⟩
    rw [hTT] at CV1 CV2
    clear hTT
    go_upto_region 6 with fail
    go_cut [10] from 29 to 44 (fun r wx => r = .bool true ∧ ∃ q, wx = u3.drewN q)
    case first =>
      go_quiet (fail)
      go_wp2_with fail
      go_meet
      exact ⟨by simp, _, rfl⟩
    case rest =>
      obtain ⟨rfl, q, hwc⟩ := hcut
      have X5 := hide (unhide HQ5 q)
      rw [← hwc] at X5
      obtain ⟨m0, m1, m2⟩ := row_cell3 (unhide X5).1.box
      obtain ⟨m3, m4, m5⟩ := row_cell3 (unhide X5).1.box'
      have CQ' := CQ wc (unhide X5).2
      clear hwc CV1 CQ HCV
      go_wp2_with fail
      refine (unhide CQ').mono ?_
      rintro e u7 ⟨r7, rfl, h7, b7⟩
      obtain rfl : r7 = true := h7.2 (unhide HAB)
      have B7 := hide (unhide H2 u7 ((unhide X5).2.trans (b7.mono (unhide X5).2.size))).2
      clear b7 h7
      go_wp2_with fail
      go_ret
      exact ⟨by simp, by first | exact unhide B7 | (rw [← unhide HG]; exact unhide B7)⟩
  · have HAB := hide hab
    have hT1 := unhide HT hab
    rw [e2] at hT1
    obtain ⟨T1, hTT1⟩ : ∃ T, strOfNums ((encM k).take lx) = T := ⟨_, rfl⟩
    obtain ⟨T, hTT⟩ : ∃ T, strOfNums (encM m) = T := ⟨_, rfl⟩
    rw [hTT] at CV1 hT1
    rw [hTT1] at hT1 HCV
    clear hTT hTT1 hab
    by_cases hlt : lx ≤ ly
    · have CV2 := unhide HCV hlt
      have i1 : (lx : Int) ≤ (ly : Int) := by omega
      have i2 : (lx : Int) ≤ (cy : Int) := by omega
      go_upto_region 6 with fail
      go_cut [10] from 29 to 44 (fun r wx => r = .bool false ∧ ∃ q, wx = u3.drewN q)
      case first =>
        go_quiet (fail)
        go_wp2_with fail
        go_meet
        exact ⟨by simp, _, rfl⟩
      case rest =>
        obtain ⟨rfl, q, hwc⟩ := hcut
        have X5 := hide (unhide HQ5 q)
        rw [← hwc] at X5
        obtain ⟨m0, m1, m2⟩ := row_cell3 (unhide X5).1.box
        obtain ⟨m3, m4, m5⟩ := row_cell3 (unhide X5).1.box'
        have CQ' := CQ wc (unhide X5).2
        clear hwc CV1 CQ HCV
        go_wp2_with fail
        refine (unhide CQ').mono ?_
        rintro e u7 ⟨r7, rfl, h7, b7⟩
        obtain rfl : r7 = false := by cases r7 with | false => rfl | true => exact absurd (h7.1 rfl) (unhide HAB)
        have B7 := hide (unhide H2 u7 ((unhide X5).2.trans (b7.mono (unhide X5).2.size))).2
        clear b7 h7
        go_wp2_with fail
        go_ret
        exact ⟨by simp, by first | exact unhide B7 | (rw [← unhide HG]; exact unhide B7)⟩
    · have i1 : ¬ (lx : Int) ≤ (ly : Int) := by omega
      have i2 : decide ((lx : Int) ≤ (ly : Int)) = false := decide_eq_false i1
      have i3 : decide (lx ≤ ly) = false := decide_eq_false hlt
      go_upto_region 6 with fail
      go_cut [10] from 29 to 44 (fun r wx => r = .bool false ∧ ∃ q, wx = u3.drewN q)
      case first =>
        go_quiet (fail)
        go_wp2_with fail
        go_meet
        exact ⟨by simp, _, rfl⟩
      case rest =>
        obtain ⟨rfl, q, hwc⟩ := hcut
        have X5 := hide (unhide HQ5 q)
        rw [← hwc] at X5
        obtain ⟨m0, m1, m2⟩ := row_cell3 (unhide X5).1.box
        obtain ⟨m3, m4, m5⟩ := row_cell3 (unhide X5).1.box'
        have CQ' := CQ wc (unhide X5).2
        clear hwc CV1 CQ HCV
        go_wp2_with fail
        refine (unhide CQ').mono ?_
        rintro e u7 ⟨r7, rfl, h7, b7⟩
        obtain rfl : r7 = false := by cases r7 with | false => rfl | true => exact absurd (h7.1 rfl) (unhide HAB)
        have B7 := hide (unhide H2 u7 ((unhide X5).2.trans (b7.mono (unhide X5).2.size))).2
        clear b7 h7
        go_wp2_with fail
        go_ret
        exact ⟨by simp, by first | exact unhide B7 | (rw [← unhide HG]; exact unhide B7)⟩


theorem walk (m k : Md) (a1 a2 a3 b1 b2 b3 : Option Addr) (n1 c1 n2 c2 n3 c3 l1 f1 l2 f2 l3 f3 B : Nat) (w : World) (hn1 : m.cs.length = n1) (hn2 : m.fs.length = n2) (hn3 : m.xs.length = n3) (hl1 : k.cs.length = l1) (hl2 : k.fs.length = l2) (hl3 : k.xs.length = l3)
    (h : IsM w (fun b => b < B) m a1 c1 a2 c2 a3 c3) (h' : IsM w (fun b => b < B) k b1 f1 b2 f2 b3 f3) (hB : B ≤ w.heap.size) :
    Calls Try.prog 3 #[.agg #[.slice a1 n1 c1, .slice a2 n2 c2, .slice a3 n3 c3], .agg #[.slice b1 l1 f1, .slice b2 l2 f2, .slice b3 l3 f3]] w fun e w' => e = .returned (.bool true) ∧ Below w.heap.size w w' := by
  cases hr : rightM m with
  | false => exact walk_no m k a1 a2 a3 b1 b2 b3 n1 c1 n2 c2 n3 c3 l1 f1 l2 f2 l3 f3 B w hn1 hn2 hn3 hl1 hl2 hl3 h h' hB (Or.inl hr)
  | true =>
    cases hr' : rightM k with
    | false => exact walk_no m k a1 a2 a3 b1 b2 b3 n1 c1 n2 c2 n3 c3 l1 f1 l2 f2 l3 f3 B w hn1 hn2 hn3 hl1 hl2 hl3 h h' hB (Or.inr hr')
    | true => exact walk_yes m k a1 a2 a3 b1 b2 b3 n1 c1 n2 c2 n3 c3 l1 f1 l2 f2 l3 f3 B w hn1 hn2 hn3 hl1 hl2 hl3 h h' hB hr hr'

set_option maxRecDepth 100000 in
theorem lifted (os : Os) (started : os.Started) (H : Type) (enc : TypeId × Value → H) :
    ReturnsInHanded {} Try.checked os 3 .any (Rows.moduleApartSpec.pre6 enc Try.prog Try.f3 Rows.moduleApartRow.domain false) (Rows.moduleApartSpec.post enc Try.prog Try.f3 false true false false) := by
  refine returnsInHanded_of_change_sized (C := Try.checked) own started (by kernel_rfl) Try.func3
    (ChangeSpec.witness6 (enc := enc) (C := Try.checked) false ⟨#[], #[.agg #[.slice none 0 0, .slice none 0 0, .slice none 0 0], .agg #[.slice none 0 0, .slice none 0 0, .slice none 0 0]], []⟩ 8 (by kernel_rfl) (by kernel_rfl) (by kernel_rfl) (by kernel_rfl)) ?_
  intro W base args ds gs before hval0 hW _ hsz0 _
  have hsz : (DataW.weightsEach Try.prog (Try.f3.params.toList ++ Rows.moduleApartSpec.plain.varTypes Try.prog) (ds ++ gs)).all (· ≤ reachBytes) = true := hsz0
  clear hsz0
  have hval : ∀ (j : Nat) t v, Try.f3.params[j]? = some t → args[j]? = some v → Value.okWide Try.prog W .any base t v := hval0
  have hW' := hW
  obtain ⟨p, q, hA0, hV, rfl, hfz, hnd⟩ := hW
  have hA : DataW.TrodAll enc Try.prog W 0 (fun _ => true) true Try.f3.params.toList args.toList ds p := hA0
  rw [Try.params3] at hA hval hsz
  obtain ⟨v0, vs0, d0, ds0, p0, q0, hargs, rfl, rfl, h0, r0⟩ := trodAll_cons hA
  obtain ⟨v1, vs1, d1, ds1, p1, q1, hargs1, rfl, rfl, h1, r1⟩ := trodAll_cons r0
  obtain ⟨rfl, rfl, rfl⟩ := trodAll_nil r1
  subst hargs1
  obtain rfl : args = #[v0, v1] := by cases args; simp_all
  obtain ⟨rfl, rfl⟩ := trodVars_none hV
  have k0 := h0
  have lt0 : ∀ x ∈ p0, x.block < W.heap.size := by obtain ⟨m, hm⟩ := k0; exact DataW.trod_lt m _ _ _ hm
  have k1 := h1
  have lt1 : ∀ x ∈ p1, x.block < W.heap.size := by obtain ⟨m, hm⟩ := k1; exact DataW.trod_lt m _ _ _ hm
  obtain ⟨m, a1, a2, a3, c1, c2, c3, rfl, hm⟩ := arg_module (hval 0 26 v0 rfl rfl) h0 (reach_arg hsz (j := 0) rfl rfl)
  obtain ⟨k, b1, b2, b3, f1, f2, f3, rfl, hk⟩ := arg_module (hval 1 26 v1 rfl rfl) h1 (reach_arg hsz (j := 1) rfl rfl)
  clear hA0 hval0
  refine (walk m k a1 a2 a3 b1 b2 b3 _ c1 _ c2 _ c3 _ f1 _ f2 _ f3 W.heap.size W rfl rfl rfl rfl rfl rfl hm hk (Nat.le_refl _)).mono fun e W' ⟨he, bel⟩ => ?_
  subst he
  exact ⟨_, rfl, _, _, _, [], _, [], hW', trodAll_mk1 (shut_bool Try.underlying4 _), (trodAll_cons_mk (Below.trod laidOut (by kernel_rfl) (of_decide_eq_true (by kernel_rfl)) k0 bel lt0) (trodAll_cons_mk (Below.trod laidOut (by kernel_rfl) (of_decide_eq_true (by kernel_rfl)) k1 bel lt1) trodAll_mk0)), rfl, bel.frame _, fun h => by cases h⟩

theorem over : Rows.moduleApartRow.holds Try.pinned (OpenSpec.ofChange Rows.moduleApartSpec) :=
  OpenClaim.holds_of_wide 3 Try.f3 rfl rfl rfl rfl rfl rfl rfl ⟨rfl, rfl, rfl, rfl, rfl⟩ rfl rfl rfl rfl rfl (by kernel_rfl) Try.func3 (by kernel_rfl)
    (of_decide_eq_true (by kernel_rfl)) (by unfold Func.isWrapper; first | (rw [if_pos (by decide +kernel)]; kernel_rfl) | (rw [if_neg (by decide +kernel)]; exact ⟨rfl, rfl⟩))
    (fun os started H enc _ => lifted os started H enc)

end Go.Proofs.Ytclamkkamkimnab.moduleApart

namespace Go.Proofs.Ytclamkkamkimnab
theorem moduleApart_holds : Rows.ModuleApartSaid := moduleApart.over
#print axioms moduleApart_holds
end Go.Proofs.Ytclamkkamkimnab
