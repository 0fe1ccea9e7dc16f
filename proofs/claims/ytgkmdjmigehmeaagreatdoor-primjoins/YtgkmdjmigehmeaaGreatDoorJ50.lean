/-
  slice takes apart what add puts together, and len adds up: the walk of PrimJoins; conditions: the package's variables.
-/
import Derived.Test.YtgkmdjmigehmeaaGreatDoorJ49
import Derived.Test.YtgkmdjmigehmeaaGreatDoorJ42
set_option linter.unusedVariables false
set_option linter.unusedSimpArgs false
namespace Go.Proofs.YtgkmdjmigehmeaaGreatDoor
open Go.RowKit Go.Shelf
set_option linter.unusedVariables false
set_option linter.unusedSimpArgs false

set_option maxRecDepth 100000 in
set_option maxHeartbeats 16000000 in
theorem joins_walk (x y : Vl) (p0 p1 : Int) (p2 : ByteArray) (p3 : Option Addr) (p4 p5 : Nat) (p6 : Option Addr) (p7 p8 : Nat) (q0 q1 : Int) (q2 : ByteArray) (q3 : Option Addr) (q4 q5 : Nat) (q6 : Option Addr) (q7 q8 : Nat) (B : Nat) (w : World) (ht : Tab w) (hx : IsV w B x (.agg #[.int .i64 p0, .int .i64 p1, .string p2, .slice p3 p4 p5, .slice p6 p7 p8])) (hy : IsV w B y (.agg #[.int .i64 q0, .int .i64 q1, .string q2, .slice q3 q4 q5, .slice q6 q7 q8])) (hBs : B ≤ w.heap.size) :
    Calls Tryz.prog 7 #[.agg #[.int .i64 p0, .int .i64 p1, .string p2, .slice p3 p4 p5, .slice p6 p7 p8], .agg #[.int .i64 q0, .int .i64 q1, .string q2, .slice q3 q4 q5, .slice q6 q7 q8]] w fun e w' => e = .returned (.bool true) ∧ Below w.heap.size w w' := by
  have HT : Hid (∀ u, Below w.heap.size w u → Tab u) := hide (fun u hu => ht.later hu ht.big hu.size)
  have P0 : PJ w w [] [(x, .agg #[.int .i64 p0, .int .i64 p1, .string p2, .slice p3 p4 p5, .slice p6 p7 p8]), (y, .agg #[.int .i64 q0, .int .i64 q1, .string q2, .slice q3 q4 q5, .slice q6 q7 q8])] := ⟨Below.refl _ _, (fun p hp => by cases hp), fun z hz => by
    simp only [List.mem_cons, List.not_mem_nil, or_false] at hz
    rcases hz with rfl | rfl
    · exact IsV.lift hBs hx
    · exact IsV.lift hBs hy⟩
  obtain ⟨gx, hgx⟩ : ∃ g, w.heap.size = g := ⟨_, rfl⟩
  obtain ⟨w1, hw1⟩ : ∃ u, w.alloc (.cells #[.int .i64 p0, .int .i64 p1, .string p2, .slice p3 p4 p5, .slice p6 p7 p8] 25) = u := ⟨_, rfl⟩
  have P1 := P0.addB hw1 hgx
  obtain ⟨gy, hgy⟩ : ∃ g, w1.heap.size = g := ⟨_, rfl⟩
  obtain ⟨w2, hw2⟩ : ∃ u, w1.alloc (.cells #[.int .i64 q0, .int .i64 q1, .string q2, .slice q3 q4 q5, .slice q6 q7 q8] 25) = u := ⟨_, rfl⟩
  have P2 := P1.addB hw2 hgy
  have HP0 := hide P2
  have CS := hide (shown_any w2 (unhide HT w2 P2.below))
  obtain ⟨r, hr⟩ : ∃ r, doAdd x y = r := ⟨_, rfl⟩
  clear ht hx hy hBs P0 P1 P2
  go_enter Tryz.func7, Tryz.ntmps7
  go_wp2_with fail
  refine (unhide CS).mono ?_
  rintro e u1 ⟨rfl, d1⟩
  have HP1 := hide ((unhide HP0).later d1)
  clear d1 CS HP0
  obtain ⟨a0, a1, a2, a3, a4⟩ := block5 ((unhide HP1).box _ (List.mem_cons_of_mem _ List.mem_cons_self))
  obtain ⟨b0, b1, b2, b3, b4⟩ := block5 ((unhide HP1).box _ List.mem_cons_self)
  obtain ⟨gl, hgl⟩ : ∃ g, u1.heap.size = g := ⟨_, rfl⟩
  obtain ⟨u2, hu2⟩ : ∃ u, u1.alloc (.cells #[.int .i64 p0, .int .i64 p1, .string p2, .slice p3 p4 p5, .slice p6 p7 p8, .int .i64 q0, .int .i64 q1, .string q2, .slice q3 q4 q5, .slice q6 q7 q8] 25) = u := ⟨_, rfl⟩
  have HP2 := hide ((unhide HP1).addB hu2 hgl)
  have C2 := hide (doA2 x y p0 p1 p2 p3 p4 p5 p6 p7 p8 q0 q1 q2 q3 q4 q5 q6 q7 q8 gl u2.heap.size u2 (unhide HT u2 (unhide HP2).below) ((unhide HP2).val _ List.mem_cons_self) ((unhide HP2).val _ (List.mem_cons_of_mem _ List.mem_cons_self)) (Nat.le_refl _) ((unhide HP2).box _ List.mem_cons_self))
  rw [hr] at C2
  clear HP1
  go_wp2_with fail
  refine (unhide C2).mono ?_
  rintro e u3 ⟨y0, y1, y2, y3, y4, y5, y6, y7, y8, t, rfl, ⟨htr, q3⟩, d3⟩
  have HP3 := hide (((unhide HP2).later d3).addV (q3.isV (fun b hb => hb.2)))
  have hy0 : y0 = r.1.kind := by
    obtain ⟨⟨k, n, s, l, ks⟩, t9⟩ := r
    exact (IsP.at q3.1).1
  have HTR := hide (And.intro htr hy0)
  clear q3 d3 C2 HP2 hu2 hgl htr hy0 a0 a1 a2 a3 a4 b0 b1 b2 b3 b4
  by_cases ht0 : t = 0
  · subst ht0
    by_cases hk2 : y0 = 2
    · subst hk2
      go_wp2_with fail
      go_ret
      exact ⟨by simp, (unhide HP3).below.alloc (unhide HP3).below.size _⟩
    · have kb : (y0 == 2) = false := beq_eq_false_iff_ne.2 hk2
      have HJ : Hid (rightB x = true ∧ rightB y = true ∧ (x.kind = 3 ∨ x.kind = 4) ∧ rightB r.1 = true ∧ r.1.kind = x.kind ∧ sliceV r.1 0 (cntO x) = (x, 0) ∧ sliceV r.1 (cntO x) (cntO r.1) = (y, 0)) := hide (by
        have h1 := unhide HTR
        have h2 := joins (x := x) (y := y) (by rw [hr]; exact h1.1.symm) (by rw [hr, ← h1.2]; exact hk2)
        rw [hr] at h2
        exact h2)
      clear HTR hr
      obtain ⟨cx, hcx⟩ : ∃ c, cntO x = c := ⟨_, rfl⟩
      obtain ⟨cv, hcv⟩ : ∃ c, cntO r.1 = c := ⟨_, rfl⟩
      rw [hcx, hcv] at HJ
      have HCX := hide (And.intro hcx hcv)
      clear hcx hcv
      go_upto_region 3 with fail
      obtain ⟨g6, hg6⟩ : ∃ g, u3.heap.size = g := ⟨_, rfl⟩
      obtain ⟨u4, hu4⟩ : ∃ u, u3.alloc (.cells #[.int .i64 y0, .int .i64 y1, .string y2, .slice y3 y4 y5, .slice y6 y7 y8] 25) = u := ⟨_, rfl⟩
      have HP4 := hide ((unhide HP3).addB hu4 hg6)
      try rw [hu4]
      try rw [hg6]
      clear hu4 hg6 HP3
      obtain ⟨a0, a1, a2, a3, a4⟩ := block5 ((unhide HP4).box _ List.mem_cons_self)
      obtain ⟨b0, b1, b2, b3, b4⟩ := block5 ((unhide HP4).box _ (List.mem_cons_of_mem _ (List.mem_cons_of_mem _ (List.mem_cons_of_mem _ List.mem_cons_self))))
      obtain ⟨gk, hgk⟩ : ∃ g, u4.heap.size = g := ⟨_, rfl⟩
      obtain ⟨u5, hu5⟩ : ∃ u, u4.alloc (.cells #[.int .i64 p0, .int .i64 p1, .string p2, .slice p3 p4 p5, .slice p6 p7 p8] 25) = u := ⟨_, rfl⟩
      have HP5 := hide ((unhide HP4).addB hu5 hgk)
      have C5 := hide (doL1 x p0 p1 p2 p3 p4 p5 p6 p7 p8 gk u5.heap.size u5 (unhide HT u5 (unhide HP5).below) ((unhide HP5).val _ (List.mem_cons_of_mem _ List.mem_cons_self)) (Nat.le_refl _) ((unhide HP5).box _ List.mem_cons_self) (unhide HJ).1 (unhide HJ).2.2.1)
      rw [(unhide HCX).1] at C5
      clear HP4
      go_wp2_with fail
      refine (unhide C5).mono ?_
      rintro e u6 ⟨m0, m1, m2, m3, m4, m5, m6, m7, m8, t6, rfl, ⟨ht6, q6⟩, d6⟩
      have t60 : t6 = 0 := ht6
      subst t60
      have HP6 := hide (((unhide HP5).later d6).addV (q6.isV (fun b hb => hb.2)))
      clear q6 d6 ht6 C5 HP5 hu5 hgk a0 a1 a2 a3 a4 b0 b1 b2 b3 b4
      go_upto_region 6 with fail
      obtain ⟨g8, hg8⟩ : ∃ g, u6.heap.size = g := ⟨_, rfl⟩
      obtain ⟨u7, hu7⟩ : ∃ u, u6.alloc (.cells #[.int .i64 m0, .int .i64 m1, .string m2, .slice m3 m4 m5, .slice m6 m7 m8] 25) = u := ⟨_, rfl⟩
      have HP7 := hide ((unhide HP6).addB hu7 hg8)
      try rw [hu7]
      try rw [hg8]
      clear hu7 hg8 HP6
      obtain ⟨a0, a1, a2, a3, a4⟩ := block5 ((unhide HP7).box _ (List.mem_cons_of_mem _ (List.mem_cons_of_mem _ List.mem_cons_self)))
      obtain ⟨gj, hgj⟩ : ∃ g, u7.heap.size = g := ⟨_, rfl⟩
      obtain ⟨u8, hu8⟩ : ∃ u, u7.alloc (.cells #[.int .i64 y0, .int .i64 y1, .string y2, .slice y3 y4 y5, .slice y6 y7 y8] 25) = u := ⟨_, rfl⟩
      have HP8 := hide ((unhide HP7).addB hu8 hgj)
      have C8 := hide (doL1 r.1 y0 y1 y2 y3 y4 y5 y6 y7 y8 gj u8.heap.size u8 (unhide HT u8 (unhide HP8).below) ((unhide HP8).val _ (List.mem_cons_of_mem _ List.mem_cons_self)) (Nat.le_refl _) ((unhide HP8).box _ List.mem_cons_self) (unhide HJ).2.2.2.1 (by rw [(unhide HJ).2.2.2.2.1]; exact (unhide HJ).2.2.1))
      rw [(unhide HCX).2] at C8
      clear HP7
      go_wp2_with fail
      refine (unhide C8).mono ?_
      rintro e u9 ⟨n0, n1, n2, n3, n4, n5, n6, n7, n8, t9, rfl, ⟨ht9, q9⟩, d9⟩
      have t90 : t9 = 0 := ht9
      subst t90
      have HP9 := hide (((unhide HP8).later d9).addV (q9.isV (fun b hb => hb.2)))
      clear q9 d9 ht9 C8 HP8 hu8 hgj a0 a1 a2 a3 a4
      go_upto_region 7 with fail
      obtain ⟨g10, hg10⟩ : ∃ g, u9.heap.size = g := ⟨_, rfl⟩
      obtain ⟨vv, hvv⟩ : ∃ u, u9.alloc (.cells #[.int .i64 n0, .int .i64 n1, .string n2, .slice n3 n4 n5, .slice n6 n7 n8] 25) = u := ⟨_, rfl⟩
      have HPV := hide ((unhide HP9).addB hvv hg10)
      try rw [hvv]
      try rw [hg10]
      clear hvv hg10 HP9
      have CSL : Hid (∀ u g, Below vv.heap.size vv u → u.heap[g]? = some (.cells #[.int .i64 y0, .int .i64 y1, .string y2, .slice y3 y4 y5, .slice y6 y7 y8, .int .i64 2, .int .i64 0, .string ⟨#[]⟩, .slice none 0 0, .slice none 0 0, .int .i64 m0, .int .i64 m1, .string m2, .slice m3 m4 m5, .slice m6 m7 m8] 25 (0, 0)) → Calls Tryz.prog 12 #[.int .i64 30, .agg #[.int .i64 0, .int .i64 0, .string ⟨#[]⟩, .slice none 0 0, .slice none 0 0], .slice (some ⟨g, 0, none⟩) 3 3] u fun e w' => OpPost u (x, 0) e w') := hide (fun u g hu hr9 => by
        have hP := (unhide HPV).later hu
        have := doS3 r.1 (nm 0) (nm cx) y0 y1 y2 y3 y4 y5 y6 y7 y8 2 0 ⟨#[]⟩ none 0 0 none 0 0 m0 m1 m2 m3 m4 m5 m6 m7 m8 g u.heap.size u (unhide HT u hP.below) (hP.val _ (List.mem_cons_of_mem _ (List.mem_cons_of_mem _ List.mem_cons_self))) (plain_is u _ 2 0 (by omega) (by omega)) (hP.val _ (List.mem_cons_of_mem _ List.mem_cons_self)) (Nat.le_refl _) hr9 (unhide HJ).2.2.2.1 (by rw [(unhide HJ).2.2.2.2.1]; exact (unhide HJ).2.2.1) (right_nm 0) (right_nm cx) rfl rfl
        rw [show (nm 0).n = 0 from rfl, show (nm cx).n = cx from rfl, (unhide HJ).2.2.2.2.2.1] at this
        exact this)
      have HVV : Hid (vv.cell? ⟨g6, 0, none⟩ = some (.int .i64 y0) ∧ vv.cell? ⟨g6, 1, none⟩ = some (.int .i64 y1) ∧ vv.cell? ⟨g6, 2, none⟩ = some (.string y2) ∧ vv.cell? ⟨g6, 3, none⟩ = some (.slice y3 y4 y5) ∧ vv.cell? ⟨g6, 4, none⟩ = some (.slice y6 y7 y8) ∧ vv.cell? ⟨g8, 0, none⟩ = some (.int .i64 m0) ∧ vv.cell? ⟨g8, 1, none⟩ = some (.int .i64 m1) ∧ vv.cell? ⟨g8, 2, none⟩ = some (.string m2) ∧ vv.cell? ⟨g8, 3, none⟩ = some (.slice m3 m4 m5) ∧ vv.cell? ⟨g8, 4, none⟩ = some (.slice m6 m7 m8)) := hide (by
        obtain ⟨i0, i1, i2, i3, i4⟩ := block5 ((unhide HPV).box _ (List.mem_cons_of_mem _ (List.mem_cons_of_mem _ (List.mem_cons_of_mem _ (List.mem_cons_of_mem _ List.mem_cons_self)))))
        obtain ⟨j0, j1, j2, j3, j4⟩ := block5 ((unhide HPV).box _ (List.mem_cons_of_mem _ (List.mem_cons_of_mem _ List.mem_cons_self)))
        exact ⟨i0, i1, i2, i3, i4, j0, j1, j2, j3, j4⟩)
      have HBL : Hid (g6 < vv.heap.size ∧ g8 < vv.heap.size) := hide ⟨(Array.getElem?_eq_some_iff.1 ((unhide HPV).box _ (List.mem_cons_of_mem _ (List.mem_cons_of_mem _ (List.mem_cons_of_mem _ (List.mem_cons_of_mem _ List.mem_cons_self)))))).1, (Array.getElem?_eq_some_iff.1 ((unhide HPV).box _ (List.mem_cons_of_mem _ (List.mem_cons_of_mem _ List.mem_cons_self)))).1⟩
      go_cut [12, 13] from 47 to 55 (fun r12 r13 wx => ∃ (g : Nat) (f0 f1 : Int) (f2 : ByteArray) (f3 : Option Addr) (f4 f5 : Nat) (f6 : Option Addr) (f7 f8 : Nat), r12 = .pointer (some ⟨g, 0, none⟩) ∧ r13 = .int .i64 0 ∧ Hid (wx.heap[g]? = some (.cells #[.int .i64 f0, .int .i64 f1, .string f2, .slice f3 f4 f5, .slice f6 f7 f8] 25 (0, 0)) ∧ IsV wx wx.heap.size x (.agg #[.int .i64 f0, .int .i64 f1, .string f2, .slice f3 f4 f5, .slice f6 f7 f8]) ∧ Below vv.heap.size vv wx))
      case first =>
        have HS0 : Hid (vv.drew.cell? ⟨g6, 0, none⟩ = some (.int .i64 y0) ∧ vv.drew.cell? ⟨g6, 1, none⟩ = some (.int .i64 y1) ∧ vv.drew.cell? ⟨g6, 2, none⟩ = some (.string y2) ∧ vv.drew.cell? ⟨g6, 3, none⟩ = some (.slice y3 y4 y5) ∧ vv.drew.cell? ⟨g6, 4, none⟩ = some (.slice y6 y7 y8) ∧ vv.drew.cell? ⟨g8, 0, none⟩ = some (.int .i64 m0) ∧ vv.drew.cell? ⟨g8, 1, none⟩ = some (.int .i64 m1) ∧ vv.drew.cell? ⟨g8, 2, none⟩ = some (.string m2) ∧ vv.drew.cell? ⟨g8, 3, none⟩ = some (.slice m3 m4 m5) ∧ vv.drew.cell? ⟨g8, 4, none⟩ = some (.slice m6 m7 m8)) := hide (unhide HVV)
        refine till_begin (S := fun w' => w'.cell? ⟨g6, 0, none⟩ = some (.int .i64 y0) ∧ w'.cell? ⟨g6, 1, none⟩ = some (.int .i64 y1) ∧ w'.cell? ⟨g6, 2, none⟩ = some (.string y2) ∧ w'.cell? ⟨g6, 3, none⟩ = some (.slice y3 y4 y5) ∧ w'.cell? ⟨g6, 4, none⟩ = some (.slice y6 y7 y8) ∧ w'.cell? ⟨g8, 0, none⟩ = some (.int .i64 m0) ∧ w'.cell? ⟨g8, 1, none⟩ = some (.int .i64 m1) ∧ w'.cell? ⟨g8, 2, none⟩ = some (.string m2) ∧ w'.cell? ⟨g8, 3, none⟩ = some (.slice m3 m4 m5) ∧ w'.cell? ⟨g8, 4, none⟩ = some (.slice m6 m7 m8)) 11 (by kernel_rfl) ?_
        refine till_take 0 (v := .agg #[.int .i64 0, .int .i64 0, .string ⟨#[]⟩, .slice none 0 0, .slice none 0 0]) (some 48) rfl rfl rfl (by kernel_rfl) (by kernel_rfl) (by kernel_rfl) (by kernel_rfl) (fun _ _ _ h => h) (Or.inl ⟨by rfl, fun u hu => by obtain ⟨b0, b1, b2, b3, b4, b5, b6, b7, b8, b9⟩ := hu; go_simp⟩) (unhide HS0) ?_
        try simp only [Act.put, List.setIfInBounds_toArray, List.set_cons_zero, List.set_cons_succ]
        refine till_take 1 (v := .agg #[.int .i64 y0, .int .i64 y1, .string y2, .slice y3 y4 y5, .slice y6 y7 y8]) (some 49) rfl rfl rfl (by kernel_rfl) (by kernel_rfl) (by kernel_rfl) (by kernel_rfl) (fun _ _ _ h => h) (Or.inl ⟨by rfl, fun u hu => by obtain ⟨b0, b1, b2, b3, b4, b5, b6, b7, b8, b9⟩ := hu; go_simp⟩) (unhide HS0) ?_
        try simp only [Act.put, List.setIfInBounds_toArray, List.set_cons_zero, List.set_cons_succ]
        refine till_take 3 (v := .agg #[.int .i64 m0, .int .i64 m1, .string m2, .slice m3 m4 m5, .slice m6 m7 m8]) (some 51) rfl rfl rfl (by kernel_rfl) (by kernel_rfl) (by kernel_rfl) (by kernel_rfl) (fun _ _ _ h => h) (Or.inl ⟨by rfl, fun u hu => by obtain ⟨b0, b1, b2, b3, b4, b5, b6, b7, b8, b9⟩ := hu; go_simp⟩) (unhide HS0) ?_
        try simp only [Act.put, List.setIfInBounds_toArray, List.set_cons_zero, List.set_cons_succ]
        obtain ⟨W0, hW0⟩ : ∃ W0, vv.drew = W0 := ⟨_, rfl⟩
        have HY0 : Hid (Below vv.heap.size vv W0) := hide (by rw [← hW0]; exact below_drew_of' (Below.refl _ _))
        try rw [hW0]
        rw [hW0] at HS0
        clear hW0
        refine till_two 2 9 (by kernel_rfl) rfl rfl (fun K hK => ?_) (fun K hK => ?_)
        · go_simp
          refine (lawnum_any _ _).mono ?_
          rintro e W1 ⟨rfl, dd⟩
          have HS1 : Hid (W1.cell? ⟨g6, 0, none⟩ = some (.int .i64 y0) ∧ W1.cell? ⟨g6, 1, none⟩ = some (.int .i64 y1) ∧ W1.cell? ⟨g6, 2, none⟩ = some (.string y2) ∧ W1.cell? ⟨g6, 3, none⟩ = some (.slice y3 y4 y5) ∧ W1.cell? ⟨g6, 4, none⟩ = some (.slice y6 y7 y8) ∧ W1.cell? ⟨g8, 0, none⟩ = some (.int .i64 m0) ∧ W1.cell? ⟨g8, 1, none⟩ = some (.int .i64 m1) ∧ W1.cell? ⟨g8, 2, none⟩ = some (.string m2) ∧ W1.cell? ⟨g8, 3, none⟩ = some (.slice m3 m4 m5) ∧ W1.cell? ⟨g8, 4, none⟩ = some (.slice m6 m7 m8)) := hide ⟨cell_later dd ((unhide HS0).1), cell_later dd ((unhide HS0).2.1), cell_later dd ((unhide HS0).2.2.1), cell_later dd ((unhide HS0).2.2.2.1), cell_later dd ((unhide HS0).2.2.2.2.1), cell_later dd ((unhide HS0).2.2.2.2.2.1), cell_later dd ((unhide HS0).2.2.2.2.2.2.1), cell_later dd ((unhide HS0).2.2.2.2.2.2.2.1), cell_later dd ((unhide HS0).2.2.2.2.2.2.2.2.1), cell_later dd ((unhide HS0).2.2.2.2.2.2.2.2.2)⟩
          have HY1 : Hid (Below vv.heap.size vv W1) := hide ((unhide HY0).trans (dd.mono (unhide HY0).size))
          clear dd
          go_wp2_with fail
          refine hK.out _ _ (Or.inr (unhide HS1)) ?_
          clear hK K HS0 HY0
          try simp only [Act.put, List.setIfInBounds_toArray, List.set_cons_zero, List.set_cons_succ]
          refine till_two 4 9 (by kernel_rfl) rfl rfl (fun K hK => ?_) (fun K hK => ?_)
          · go_simp
            obtain ⟨W2, hW2⟩ : ∃ W, W1.alloc (.cells #[.int .i64 y0, .int .i64 y1, .string y2, .slice y3 y4 y5, .slice y6 y7 y8, .int .i64 2, .int .i64 0, .string ⟨#[]⟩, .slice none 0 0, .slice none 0 0, .int .i64 m0, .int .i64 m1, .string m2, .slice m3 m4 m5, .slice m6 m7 m8] 25) = W := ⟨_, rfl⟩
            obtain ⟨gs, hgs⟩ : ∃ gs, W1.heap.size = gs := ⟨_, rfl⟩
            have dd : Below W1.heap.size W1 W2 := by rw [← hW2]; exact (Below.refl _ _).alloc (Nat.le_refl _) _
            have HG2 : Hid (W2.heap[gs]? = some (.cells #[.int .i64 y0, .int .i64 y1, .string y2, .slice y3 y4 y5, .slice y6 y7 y8, .int .i64 2, .int .i64 0, .string ⟨#[]⟩, .slice none 0 0, .slice none 0 0, .int .i64 m0, .int .i64 m1, .string m2, .slice m3 m4 m5, .slice m6 m7 m8] 25 (0, 0))) := hide (by rw [← hW2, ← hgs]; exact heap_alloc_new W1 _)
            try rw [hW2]
            try rw [hgs]
            have HS2 : Hid (W2.cell? ⟨g6, 0, none⟩ = some (.int .i64 y0) ∧ W2.cell? ⟨g6, 1, none⟩ = some (.int .i64 y1) ∧ W2.cell? ⟨g6, 2, none⟩ = some (.string y2) ∧ W2.cell? ⟨g6, 3, none⟩ = some (.slice y3 y4 y5) ∧ W2.cell? ⟨g6, 4, none⟩ = some (.slice y6 y7 y8) ∧ W2.cell? ⟨g8, 0, none⟩ = some (.int .i64 m0) ∧ W2.cell? ⟨g8, 1, none⟩ = some (.int .i64 m1) ∧ W2.cell? ⟨g8, 2, none⟩ = some (.string m2) ∧ W2.cell? ⟨g8, 3, none⟩ = some (.slice m3 m4 m5) ∧ W2.cell? ⟨g8, 4, none⟩ = some (.slice m6 m7 m8)) := hide ⟨cell_later dd ((unhide HS1).1), cell_later dd ((unhide HS1).2.1), cell_later dd ((unhide HS1).2.2.1), cell_later dd ((unhide HS1).2.2.2.1), cell_later dd ((unhide HS1).2.2.2.2.1), cell_later dd ((unhide HS1).2.2.2.2.2.1), cell_later dd ((unhide HS1).2.2.2.2.2.2.1), cell_later dd ((unhide HS1).2.2.2.2.2.2.2.1), cell_later dd ((unhide HS1).2.2.2.2.2.2.2.2.1), cell_later dd ((unhide HS1).2.2.2.2.2.2.2.2.2)⟩
            have HY2 : Hid (Below vv.heap.size vv W2) := hide ((unhide HY1).trans (dd.mono (unhide HY1).size))
            refine hK.out _ _ (Or.inr (unhide HS2)) ?_
            clear hK K HS1 HY1 dd hW2 hgs
            try simp only [Act.put, List.setIfInBounds_toArray, List.set_cons_zero, List.set_cons_succ]
            refine till_two 5 9 (by kernel_rfl) rfl rfl (fun K hK => ?_) (fun K hK => ?_)
            · go_simp
              refine (unhide CSL W2 gs (unhide HY2) (unhide HG2)).mono ?_
              rintro e W3 ⟨f0, f1, f2, f3, f4, f5, f6, f7, f8, tt, rfl, ⟨htt, qq⟩, dd⟩
              have tt0 : tt = 0 := htt
              subst tt0
              have HQ3 : Hid (IsV W3 W3.heap.size x (.agg #[.int .i64 f0, .int .i64 f1, .string f2, .slice f3 f4 f5, .slice f6 f7 f8])) := hide (qq.isV (fun b hb => hb.2))
              have HS3 : Hid (W3.cell? ⟨g6, 0, none⟩ = some (.int .i64 y0) ∧ W3.cell? ⟨g6, 1, none⟩ = some (.int .i64 y1) ∧ W3.cell? ⟨g6, 2, none⟩ = some (.string y2) ∧ W3.cell? ⟨g6, 3, none⟩ = some (.slice y3 y4 y5) ∧ W3.cell? ⟨g6, 4, none⟩ = some (.slice y6 y7 y8) ∧ W3.cell? ⟨g8, 0, none⟩ = some (.int .i64 m0) ∧ W3.cell? ⟨g8, 1, none⟩ = some (.int .i64 m1) ∧ W3.cell? ⟨g8, 2, none⟩ = some (.string m2) ∧ W3.cell? ⟨g8, 3, none⟩ = some (.slice m3 m4 m5) ∧ W3.cell? ⟨g8, 4, none⟩ = some (.slice m6 m7 m8)) := hide ⟨cell_later dd ((unhide HS2).1), cell_later dd ((unhide HS2).2.1), cell_later dd ((unhide HS2).2.2.1), cell_later dd ((unhide HS2).2.2.2.1), cell_later dd ((unhide HS2).2.2.2.2.1), cell_later dd ((unhide HS2).2.2.2.2.2.1), cell_later dd ((unhide HS2).2.2.2.2.2.2.1), cell_later dd ((unhide HS2).2.2.2.2.2.2.2.1), cell_later dd ((unhide HS2).2.2.2.2.2.2.2.2.1), cell_later dd ((unhide HS2).2.2.2.2.2.2.2.2.2)⟩
              have HY3 : Hid (Below vv.heap.size vv W3) := hide ((unhide HY2).trans (dd.mono (unhide HY2).size))
              clear dd qq htt
              go_wp2_with fail
              refine hK.out _ _ (Or.inr (unhide HS3)) ?_
              clear hK K HS2 HY2 HG2
              try simp only [Act.put, List.setIfInBounds_toArray, List.set_cons_zero, List.set_cons_succ]
              refine till_take 6 (v := .tuple #[.agg #[.int .i64 f0, .int .i64 f1, .string f2, .slice f3 f4 f5, .slice f6 f7 f8], .int .i64 0]) (some 47) rfl rfl rfl (by kernel_rfl) (by kernel_rfl) (by kernel_rfl) (by kernel_rfl) (fun _ _ _ h => h) (Or.inl ⟨by rfl, fun u hu => by obtain ⟨b0, b1, b2, b3, b4, b5, b6, b7, b8, b9⟩ := hu; go_simp⟩) (unhide HS3) ?_
              try simp only [Act.put, List.setIfInBounds_toArray, List.set_cons_zero, List.set_cons_succ]
              refine till_take 7 (v := .agg #[.int .i64 f0, .int .i64 f1, .string f2, .slice f3 f4 f5, .slice f6 f7 f8]) (some 54) rfl rfl rfl (by kernel_rfl) (by kernel_rfl) (by kernel_rfl) (by kernel_rfl) (fun _ _ _ h => h) (Or.inl ⟨by rfl, fun u hu => by obtain ⟨b0, b1, b2, b3, b4, b5, b6, b7, b8, b9⟩ := hu; go_simp⟩) (unhide HS3) ?_
              try simp only [Act.put, List.setIfInBounds_toArray, List.set_cons_zero, List.set_cons_succ]
              refine till_take 8 (v := .int .i64 0) (some 55) rfl rfl rfl (by kernel_rfl) (by kernel_rfl) (by kernel_rfl) (by kernel_rfl) (fun _ _ _ h => h) (Or.inl ⟨by rfl, fun u hu => by obtain ⟨b0, b1, b2, b3, b4, b5, b6, b7, b8, b9⟩ := hu; go_simp⟩) (unhide HS3) ?_
              try simp only [Act.put, List.setIfInBounds_toArray, List.set_cons_zero, List.set_cons_succ]
              refine till_one 9 (by kernel_rfl) rfl (fun K hK => ?_)
              go_simp
              obtain ⟨W4, hW4⟩ : ∃ W, W3.alloc (.cells #[.int .i64 0, .int .i64 0, .string ⟨#[]⟩, .slice none 0 0, .slice none 0 0] 25) = W := ⟨_, rfl⟩
              obtain ⟨bx, hbx⟩ : ∃ bx, W3.heap.size = bx := ⟨_, rfl⟩
              have dd : Below W3.heap.size W3 W4 := by rw [← hW4]; exact (Below.refl _ _).alloc (Nat.le_refl _) _
              have HX4 : Hid (W4.heap[bx]? = some (.cells #[.int .i64 0, .int .i64 0, .string ⟨#[]⟩, .slice none 0 0, .slice none 0 0] 25 (0, 0))) := hide (by rw [← hW4, ← hbx]; exact heap_alloc_new W3 _)
              have HBX : Hid (vv.heap.size ≤ bx) := hide (by rw [← hbx]; exact (unhide HY3).size)
              have HQN4 : Hid (IsP W4 (fun b => b < W4.heap.size ∧ b ≠ bx) x (.agg #[.int .i64 f0, .int .i64 f1, .string f2, .slice f3 f4 f5, .slice f6 f7 f8])) := hide ((unhide HQ3).to (fun b hb => dd.block b hb) (fun b hb => ⟨Nat.lt_of_lt_of_le hb dd.size, fun e => by rw [← hbx] at e; omega⟩))
              try rw [hW4]
              try rw [hbx]
              have HS4 : Hid (W4.cell? ⟨g6, 0, none⟩ = some (.int .i64 y0) ∧ W4.cell? ⟨g6, 1, none⟩ = some (.int .i64 y1) ∧ W4.cell? ⟨g6, 2, none⟩ = some (.string y2) ∧ W4.cell? ⟨g6, 3, none⟩ = some (.slice y3 y4 y5) ∧ W4.cell? ⟨g6, 4, none⟩ = some (.slice y6 y7 y8) ∧ W4.cell? ⟨g8, 0, none⟩ = some (.int .i64 m0) ∧ W4.cell? ⟨g8, 1, none⟩ = some (.int .i64 m1) ∧ W4.cell? ⟨g8, 2, none⟩ = some (.string m2) ∧ W4.cell? ⟨g8, 3, none⟩ = some (.slice m3 m4 m5) ∧ W4.cell? ⟨g8, 4, none⟩ = some (.slice m6 m7 m8)) := hide ⟨cell_later dd ((unhide HS3).1), cell_later dd ((unhide HS3).2.1), cell_later dd ((unhide HS3).2.2.1), cell_later dd ((unhide HS3).2.2.2.1), cell_later dd ((unhide HS3).2.2.2.2.1), cell_later dd ((unhide HS3).2.2.2.2.2.1), cell_later dd ((unhide HS3).2.2.2.2.2.2.1), cell_later dd ((unhide HS3).2.2.2.2.2.2.2.1), cell_later dd ((unhide HS3).2.2.2.2.2.2.2.2.1), cell_later dd ((unhide HS3).2.2.2.2.2.2.2.2.2)⟩
              have HY4 : Hid (Below vv.heap.size vv W4) := hide ((unhide HY3).trans (dd.mono (unhide HY3).size))
              have HQ4 : Hid (IsV W4 W4.heap.size x (.agg #[.int .i64 f0, .int .i64 f1, .string f2, .slice f3 f4 f5, .slice f6 f7 f8])) := hide (IsV.lift dd.size (IsV.mono dd (unhide HQ3)))
              refine hK.out _ _ (Or.inr (unhide HS4)) ?_
              clear hK K HS3 HY3 HQ3 dd hW4 hbx
              try simp only [Act.put, List.setIfInBounds_toArray, List.set_cons_zero, List.set_cons_succ]
              obtain ⟨c0, c1, c2, c3, c4⟩ := block5 (unhide HX4)
              have f0z := frozen_of_row W4 bx 0 _ _ (unhide HX4)
              have f1z := frozen_of_row W4 bx 1 _ _ (unhide HX4)
              have f2z := frozen_of_row W4 bx 2 _ _ (unhide HX4)
              have f3z := frozen_of_row W4 bx 3 _ _ (unhide HX4)
              have f4z := frozen_of_row W4 bx 4 _ _ (unhide HX4)
              obtain ⟨W5, hW5⟩ : ∃ W, (((((W4.setCell ⟨bx, 0, none⟩ (.int .i64 f0)).setCell ⟨bx, 1, none⟩ (.int .i64 f1)).setCell ⟨bx, 2, none⟩ (.string f2)).setCell ⟨bx, 3, none⟩ (.slice f3 f4 f5)).setCell ⟨bx, 4, none⟩ (.slice f6 f7 f8)) = W := ⟨_, rfl⟩
              have HM5 : Hid (W5.heap[bx]? = some (.cells #[.int .i64 f0, .int .i64 f1, .string f2, .slice f3 f4 f5, .slice f6 f7 f8] 25 (0, 0)) ∧ Below vv.heap.size vv W5) := hide ⟨by rw [← hW5]; exact set5P (unhide HX4) _ _ _ _ _, by rw [← hW5]; exact set5P_below (unhide HY4) (unhide HBX) _ _ _ _ _⟩
              have HQQ : Hid (IsV W5 W5.heap.size x (.agg #[.int .i64 f0, .int .i64 f1, .string f2, .slice f3 f4 f5, .slice f6 f7 f8])) := hide (by
                have hq := unhide HQ4
                have hQN := unhide HQN4
                refine (hQN.to (fun b hb => ?_) (fun b hb => ?_))
                · rw [← hW5, heap_setCell_other _ _ _ _ hb.2, heap_setCell_other _ _ _ _ hb.2, heap_setCell_other _ _ _ _ hb.2, heap_setCell_other _ _ _ _ hb.2, heap_setCell_other _ _ _ _ hb.2]
                · rw [← hW5]; simpa using hb.1)
              have HS5 : Hid (W5.cell? ⟨g6, 0, none⟩ = some (.int .i64 y0) ∧ W5.cell? ⟨g6, 1, none⟩ = some (.int .i64 y1) ∧ W5.cell? ⟨g6, 2, none⟩ = some (.string y2) ∧ W5.cell? ⟨g6, 3, none⟩ = some (.slice y3 y4 y5) ∧ W5.cell? ⟨g6, 4, none⟩ = some (.slice y6 y7 y8) ∧ W5.cell? ⟨g8, 0, none⟩ = some (.int .i64 m0) ∧ W5.cell? ⟨g8, 1, none⟩ = some (.int .i64 m1) ∧ W5.cell? ⟨g8, 2, none⟩ = some (.string m2) ∧ W5.cell? ⟨g8, 3, none⟩ = some (.slice m3 m4 m5) ∧ W5.cell? ⟨g8, 4, none⟩ = some (.slice m6 m7 m8)) := hide (by
                have hlt := unhide HBL
                have hY := (unhide HM5).2
                exact ⟨(hY.cell (p := ⟨g6, 0, none⟩) hlt.1).trans ((unhide HVV).1), (hY.cell (p := ⟨g6, 1, none⟩) hlt.1).trans ((unhide HVV).2.1), (hY.cell (p := ⟨g6, 2, none⟩) hlt.1).trans ((unhide HVV).2.2.1), (hY.cell (p := ⟨g6, 3, none⟩) hlt.1).trans ((unhide HVV).2.2.2.1), (hY.cell (p := ⟨g6, 4, none⟩) hlt.1).trans ((unhide HVV).2.2.2.2.1), (hY.cell (p := ⟨g8, 0, none⟩) hlt.2).trans ((unhide HVV).2.2.2.2.2.1), (hY.cell (p := ⟨g8, 1, none⟩) hlt.2).trans ((unhide HVV).2.2.2.2.2.2.1), (hY.cell (p := ⟨g8, 2, none⟩) hlt.2).trans ((unhide HVV).2.2.2.2.2.2.2.1), (hY.cell (p := ⟨g8, 3, none⟩) hlt.2).trans ((unhide HVV).2.2.2.2.2.2.2.2.1), (hY.cell (p := ⟨g8, 4, none⟩) hlt.2).trans ((unhide HVV).2.2.2.2.2.2.2.2.2)⟩)
              refine till_one 10 (by kernel_rfl) rfl (fun K hK => ?_)
              go_simp
              try rw [hW5]
              refine hK.out _ _ (Or.inr (unhide HS5)) ?_
              clear hK K HS4 HY4 HX4 HQ4 c0 c1 c2 c3 c4 f0z f1z f2z f3z f4z hW5
              try simp only [Act.put, List.setIfInBounds_toArray, List.set_cons_zero, List.set_cons_succ]
              refine till_one 11 (by kernel_rfl) rfl (fun K hK => ?_)
              go_simp
              refine hK.out _ _ (Or.inl (by first | rfl | trivial)) ?_
              clear hK K HS5
              try simp only [Act.put, List.setIfInBounds_toArray, List.set_cons_zero, List.set_cons_succ]
              refine till_done (by kernel_rfl) ?_ _
              go_wp2_with fail
              go_meet
              exact ⟨bx, f0, f1, f2, f3, f4, f5, f6, f7, f8, rfl, rfl, hide ⟨(unhide HM5).1, unhide HQQ, (unhide HM5).2⟩⟩
            · go_simp
              obtain ⟨W3, hW3⟩ : ∃ W, W2.alloc (.cells #[.int .i64 0, .int .i64 0, .string ⟨#[]⟩, .slice none 0 0, .slice none 0 0] 25) = W := ⟨_, rfl⟩
              obtain ⟨bx, hbx⟩ : ∃ bx, W2.heap.size = bx := ⟨_, rfl⟩
              have dd : Below W2.heap.size W2 W3 := by rw [← hW3]; exact (Below.refl _ _).alloc (Nat.le_refl _) _
              have HX3 : Hid (W3.heap[bx]? = some (.cells #[.int .i64 0, .int .i64 0, .string ⟨#[]⟩, .slice none 0 0, .slice none 0 0] 25 (0, 0))) := hide (by rw [← hW3, ← hbx]; exact heap_alloc_new W2 _)
              have HBX : Hid (vv.heap.size ≤ bx) := hide (by rw [← hbx]; exact (unhide HY2).size)
              try rw [hW3]
              try rw [hbx]
              have HS3 : Hid (W3.cell? ⟨g6, 0, none⟩ = some (.int .i64 y0) ∧ W3.cell? ⟨g6, 1, none⟩ = some (.int .i64 y1) ∧ W3.cell? ⟨g6, 2, none⟩ = some (.string y2) ∧ W3.cell? ⟨g6, 3, none⟩ = some (.slice y3 y4 y5) ∧ W3.cell? ⟨g6, 4, none⟩ = some (.slice y6 y7 y8) ∧ W3.cell? ⟨g8, 0, none⟩ = some (.int .i64 m0) ∧ W3.cell? ⟨g8, 1, none⟩ = some (.int .i64 m1) ∧ W3.cell? ⟨g8, 2, none⟩ = some (.string m2) ∧ W3.cell? ⟨g8, 3, none⟩ = some (.slice m3 m4 m5) ∧ W3.cell? ⟨g8, 4, none⟩ = some (.slice m6 m7 m8)) := hide ⟨cell_later dd ((unhide HS2).1), cell_later dd ((unhide HS2).2.1), cell_later dd ((unhide HS2).2.2.1), cell_later dd ((unhide HS2).2.2.2.1), cell_later dd ((unhide HS2).2.2.2.2.1), cell_later dd ((unhide HS2).2.2.2.2.2.1), cell_later dd ((unhide HS2).2.2.2.2.2.2.1), cell_later dd ((unhide HS2).2.2.2.2.2.2.2.1), cell_later dd ((unhide HS2).2.2.2.2.2.2.2.2.1), cell_later dd ((unhide HS2).2.2.2.2.2.2.2.2.2)⟩
              have HY3 : Hid (Below vv.heap.size vv W3) := hide ((unhide HY2).trans (dd.mono (unhide HY2).size))
              have HG3 : Hid (W3.heap[gs]? = some (.cells #[.int .i64 y0, .int .i64 y1, .string y2, .slice y3 y4 y5, .slice y6 y7 y8, .int .i64 2, .int .i64 0, .string ⟨#[]⟩, .slice none 0 0, .slice none 0 0, .int .i64 m0, .int .i64 m1, .string m2, .slice m3 m4 m5, .slice m6 m7 m8] 25 (0, 0))) := hide ((dd.block gs (Array.getElem?_eq_some_iff.1 (unhide HG2)).1).trans (unhide HG2))
              refine hK.out _ _ (Or.inr (unhide HS3)) ?_
              clear hK K HS2 HY2 HG2 dd hW3 hbx
              try simp only [Act.put, List.setIfInBounds_toArray, List.set_cons_zero, List.set_cons_succ]
              refine till_one 5 (by kernel_rfl) rfl (fun K hK => ?_)
              go_simp
              refine (unhide CSL W3 gs (unhide HY3) (unhide HG3)).mono ?_
              rintro e W4 ⟨f0, f1, f2, f3, f4, f5, f6, f7, f8, tt, rfl, ⟨htt, qq⟩, dd⟩
              have tt0 : tt = 0 := htt
              subst tt0
              have HQ4 : Hid (IsV W4 W4.heap.size x (.agg #[.int .i64 f0, .int .i64 f1, .string f2, .slice f3 f4 f5, .slice f6 f7 f8])) := hide (qq.isV (fun b hb => hb.2))
              have HQN4 : Hid (IsP W4 (fun b => b < W4.heap.size ∧ b ≠ bx) x (.agg #[.int .i64 f0, .int .i64 f1, .string f2, .slice f3 f4 f5, .slice f6 f7 f8])) := hide (qq.1.weak (fun b hb => ⟨hb.2, fun e => by have h1 := hb.1; have h2 := (Array.getElem?_eq_some_iff.1 (unhide HX3)).1; omega⟩))
              have HS4 : Hid (W4.cell? ⟨g6, 0, none⟩ = some (.int .i64 y0) ∧ W4.cell? ⟨g6, 1, none⟩ = some (.int .i64 y1) ∧ W4.cell? ⟨g6, 2, none⟩ = some (.string y2) ∧ W4.cell? ⟨g6, 3, none⟩ = some (.slice y3 y4 y5) ∧ W4.cell? ⟨g6, 4, none⟩ = some (.slice y6 y7 y8) ∧ W4.cell? ⟨g8, 0, none⟩ = some (.int .i64 m0) ∧ W4.cell? ⟨g8, 1, none⟩ = some (.int .i64 m1) ∧ W4.cell? ⟨g8, 2, none⟩ = some (.string m2) ∧ W4.cell? ⟨g8, 3, none⟩ = some (.slice m3 m4 m5) ∧ W4.cell? ⟨g8, 4, none⟩ = some (.slice m6 m7 m8)) := hide ⟨cell_later dd ((unhide HS3).1), cell_later dd ((unhide HS3).2.1), cell_later dd ((unhide HS3).2.2.1), cell_later dd ((unhide HS3).2.2.2.1), cell_later dd ((unhide HS3).2.2.2.2.1), cell_later dd ((unhide HS3).2.2.2.2.2.1), cell_later dd ((unhide HS3).2.2.2.2.2.2.1), cell_later dd ((unhide HS3).2.2.2.2.2.2.2.1), cell_later dd ((unhide HS3).2.2.2.2.2.2.2.2.1), cell_later dd ((unhide HS3).2.2.2.2.2.2.2.2.2)⟩
              have HY4 : Hid (Below vv.heap.size vv W4) := hide ((unhide HY3).trans (dd.mono (unhide HY3).size))
              have HX4 : Hid (W4.heap[bx]? = some (.cells #[.int .i64 0, .int .i64 0, .string ⟨#[]⟩, .slice none 0 0, .slice none 0 0] 25 (0, 0))) := hide ((dd.block bx (Array.getElem?_eq_some_iff.1 (unhide HX3)).1).trans (unhide HX3))
              clear dd qq htt
              go_wp2_with fail
              refine hK.out _ _ (Or.inr (unhide HS4)) ?_
              clear hK K HS3 HY3 HX3 HG3
              try simp only [Act.put, List.setIfInBounds_toArray, List.set_cons_zero, List.set_cons_succ]
              refine till_take 6 (v := .tuple #[.agg #[.int .i64 f0, .int .i64 f1, .string f2, .slice f3 f4 f5, .slice f6 f7 f8], .int .i64 0]) (some 47) rfl rfl rfl (by kernel_rfl) (by kernel_rfl) (by kernel_rfl) (by kernel_rfl) (fun _ _ _ h => h) (Or.inl ⟨by rfl, fun u hu => by obtain ⟨b0, b1, b2, b3, b4, b5, b6, b7, b8, b9⟩ := hu; go_simp⟩) (unhide HS4) ?_
              try simp only [Act.put, List.setIfInBounds_toArray, List.set_cons_zero, List.set_cons_succ]
              refine till_take 7 (v := .agg #[.int .i64 f0, .int .i64 f1, .string f2, .slice f3 f4 f5, .slice f6 f7 f8]) (some 54) rfl rfl rfl (by kernel_rfl) (by kernel_rfl) (by kernel_rfl) (by kernel_rfl) (fun _ _ _ h => h) (Or.inl ⟨by rfl, fun u hu => by obtain ⟨b0, b1, b2, b3, b4, b5, b6, b7, b8, b9⟩ := hu; go_simp⟩) (unhide HS4) ?_
              try simp only [Act.put, List.setIfInBounds_toArray, List.set_cons_zero, List.set_cons_succ]
              refine till_take 8 (v := .int .i64 0) (some 55) rfl rfl rfl (by kernel_rfl) (by kernel_rfl) (by kernel_rfl) (by kernel_rfl) (fun _ _ _ h => h) (Or.inl ⟨by rfl, fun u hu => by obtain ⟨b0, b1, b2, b3, b4, b5, b6, b7, b8, b9⟩ := hu; go_simp⟩) (unhide HS4) ?_
              try simp only [Act.put, List.setIfInBounds_toArray, List.set_cons_zero, List.set_cons_succ]
              obtain ⟨c0, c1, c2, c3, c4⟩ := block5 (unhide HX4)
              have f0z := frozen_of_row W4 bx 0 _ _ (unhide HX4)
              have f1z := frozen_of_row W4 bx 1 _ _ (unhide HX4)
              have f2z := frozen_of_row W4 bx 2 _ _ (unhide HX4)
              have f3z := frozen_of_row W4 bx 3 _ _ (unhide HX4)
              have f4z := frozen_of_row W4 bx 4 _ _ (unhide HX4)
              obtain ⟨W5, hW5⟩ : ∃ W, (((((W4.setCell ⟨bx, 0, none⟩ (.int .i64 f0)).setCell ⟨bx, 1, none⟩ (.int .i64 f1)).setCell ⟨bx, 2, none⟩ (.string f2)).setCell ⟨bx, 3, none⟩ (.slice f3 f4 f5)).setCell ⟨bx, 4, none⟩ (.slice f6 f7 f8)) = W := ⟨_, rfl⟩
              have HM5 : Hid (W5.heap[bx]? = some (.cells #[.int .i64 f0, .int .i64 f1, .string f2, .slice f3 f4 f5, .slice f6 f7 f8] 25 (0, 0)) ∧ Below vv.heap.size vv W5) := hide ⟨by rw [← hW5]; exact set5P (unhide HX4) _ _ _ _ _, by rw [← hW5]; exact set5P_below (unhide HY4) (unhide HBX) _ _ _ _ _⟩
              have HQQ : Hid (IsV W5 W5.heap.size x (.agg #[.int .i64 f0, .int .i64 f1, .string f2, .slice f3 f4 f5, .slice f6 f7 f8])) := hide (by
                have hq := unhide HQ4
                have hQN := unhide HQN4
                refine (hQN.to (fun b hb => ?_) (fun b hb => ?_))
                · rw [← hW5, heap_setCell_other _ _ _ _ hb.2, heap_setCell_other _ _ _ _ hb.2, heap_setCell_other _ _ _ _ hb.2, heap_setCell_other _ _ _ _ hb.2, heap_setCell_other _ _ _ _ hb.2]
                · rw [← hW5]; simpa using hb.1)
              have HS5 : Hid (W5.cell? ⟨g6, 0, none⟩ = some (.int .i64 y0) ∧ W5.cell? ⟨g6, 1, none⟩ = some (.int .i64 y1) ∧ W5.cell? ⟨g6, 2, none⟩ = some (.string y2) ∧ W5.cell? ⟨g6, 3, none⟩ = some (.slice y3 y4 y5) ∧ W5.cell? ⟨g6, 4, none⟩ = some (.slice y6 y7 y8) ∧ W5.cell? ⟨g8, 0, none⟩ = some (.int .i64 m0) ∧ W5.cell? ⟨g8, 1, none⟩ = some (.int .i64 m1) ∧ W5.cell? ⟨g8, 2, none⟩ = some (.string m2) ∧ W5.cell? ⟨g8, 3, none⟩ = some (.slice m3 m4 m5) ∧ W5.cell? ⟨g8, 4, none⟩ = some (.slice m6 m7 m8)) := hide (by
                have hlt := unhide HBL
                have hY := (unhide HM5).2
                exact ⟨(hY.cell (p := ⟨g6, 0, none⟩) hlt.1).trans ((unhide HVV).1), (hY.cell (p := ⟨g6, 1, none⟩) hlt.1).trans ((unhide HVV).2.1), (hY.cell (p := ⟨g6, 2, none⟩) hlt.1).trans ((unhide HVV).2.2.1), (hY.cell (p := ⟨g6, 3, none⟩) hlt.1).trans ((unhide HVV).2.2.2.1), (hY.cell (p := ⟨g6, 4, none⟩) hlt.1).trans ((unhide HVV).2.2.2.2.1), (hY.cell (p := ⟨g8, 0, none⟩) hlt.2).trans ((unhide HVV).2.2.2.2.2.1), (hY.cell (p := ⟨g8, 1, none⟩) hlt.2).trans ((unhide HVV).2.2.2.2.2.2.1), (hY.cell (p := ⟨g8, 2, none⟩) hlt.2).trans ((unhide HVV).2.2.2.2.2.2.2.1), (hY.cell (p := ⟨g8, 3, none⟩) hlt.2).trans ((unhide HVV).2.2.2.2.2.2.2.2.1), (hY.cell (p := ⟨g8, 4, none⟩) hlt.2).trans ((unhide HVV).2.2.2.2.2.2.2.2.2)⟩)
              refine till_one 10 (by kernel_rfl) rfl (fun K hK => ?_)
              go_simp
              try rw [hW5]
              refine hK.out _ _ (Or.inr (unhide HS5)) ?_
              clear hK K HS4 HY4 HX4 HQ4 c0 c1 c2 c3 c4 f0z f1z f2z f3z f4z hW5
              try simp only [Act.put, List.setIfInBounds_toArray, List.set_cons_zero, List.set_cons_succ]
              refine till_one 11 (by kernel_rfl) rfl (fun K hK => ?_)
              go_simp
              refine hK.out _ _ (Or.inl (by first | rfl | trivial)) ?_
              clear hK K HS5
              try simp only [Act.put, List.setIfInBounds_toArray, List.set_cons_zero, List.set_cons_succ]
              refine till_done (by kernel_rfl) ?_ _
              go_wp2_with fail
              go_meet
              exact ⟨bx, f0, f1, f2, f3, f4, f5, f6, f7, f8, rfl, rfl, hide ⟨(unhide HM5).1, unhide HQQ, (unhide HM5).2⟩⟩
          · go_simp
            obtain ⟨W2, hW2⟩ : ∃ W, W1.alloc (.cells #[.int .i64 0, .int .i64 0, .string ⟨#[]⟩, .slice none 0 0, .slice none 0 0] 25) = W := ⟨_, rfl⟩
            obtain ⟨bx, hbx⟩ : ∃ bx, W1.heap.size = bx := ⟨_, rfl⟩
            have dd : Below W1.heap.size W1 W2 := by rw [← hW2]; exact (Below.refl _ _).alloc (Nat.le_refl _) _
            have HX2 : Hid (W2.heap[bx]? = some (.cells #[.int .i64 0, .int .i64 0, .string ⟨#[]⟩, .slice none 0 0, .slice none 0 0] 25 (0, 0))) := hide (by rw [← hW2, ← hbx]; exact heap_alloc_new W1 _)
            have HBX : Hid (vv.heap.size ≤ bx) := hide (by rw [← hbx]; exact (unhide HY1).size)
            try rw [hW2]
            try rw [hbx]
            have HS2 : Hid (W2.cell? ⟨g6, 0, none⟩ = some (.int .i64 y0) ∧ W2.cell? ⟨g6, 1, none⟩ = some (.int .i64 y1) ∧ W2.cell? ⟨g6, 2, none⟩ = some (.string y2) ∧ W2.cell? ⟨g6, 3, none⟩ = some (.slice y3 y4 y5) ∧ W2.cell? ⟨g6, 4, none⟩ = some (.slice y6 y7 y8) ∧ W2.cell? ⟨g8, 0, none⟩ = some (.int .i64 m0) ∧ W2.cell? ⟨g8, 1, none⟩ = some (.int .i64 m1) ∧ W2.cell? ⟨g8, 2, none⟩ = some (.string m2) ∧ W2.cell? ⟨g8, 3, none⟩ = some (.slice m3 m4 m5) ∧ W2.cell? ⟨g8, 4, none⟩ = some (.slice m6 m7 m8)) := hide ⟨cell_later dd ((unhide HS1).1), cell_later dd ((unhide HS1).2.1), cell_later dd ((unhide HS1).2.2.1), cell_later dd ((unhide HS1).2.2.2.1), cell_later dd ((unhide HS1).2.2.2.2.1), cell_later dd ((unhide HS1).2.2.2.2.2.1), cell_later dd ((unhide HS1).2.2.2.2.2.2.1), cell_later dd ((unhide HS1).2.2.2.2.2.2.2.1), cell_later dd ((unhide HS1).2.2.2.2.2.2.2.2.1), cell_later dd ((unhide HS1).2.2.2.2.2.2.2.2.2)⟩
            have HY2 : Hid (Below vv.heap.size vv W2) := hide ((unhide HY1).trans (dd.mono (unhide HY1).size))
            refine hK.out _ _ (Or.inr (unhide HS2)) ?_
            clear hK K HS1 HY1 dd hW2 hbx
            try simp only [Act.put, List.setIfInBounds_toArray, List.set_cons_zero, List.set_cons_succ]
            refine till_one 4 (by kernel_rfl) rfl (fun K hK => ?_)
            go_simp
            obtain ⟨W3, hW3⟩ : ∃ W, W2.alloc (.cells #[.int .i64 y0, .int .i64 y1, .string y2, .slice y3 y4 y5, .slice y6 y7 y8, .int .i64 2, .int .i64 0, .string ⟨#[]⟩, .slice none 0 0, .slice none 0 0, .int .i64 m0, .int .i64 m1, .string m2, .slice m3 m4 m5, .slice m6 m7 m8] 25) = W := ⟨_, rfl⟩
            obtain ⟨gs, hgs⟩ : ∃ gs, W2.heap.size = gs := ⟨_, rfl⟩
            have dd : Below W2.heap.size W2 W3 := by rw [← hW3]; exact (Below.refl _ _).alloc (Nat.le_refl _) _
            have HG3 : Hid (W3.heap[gs]? = some (.cells #[.int .i64 y0, .int .i64 y1, .string y2, .slice y3 y4 y5, .slice y6 y7 y8, .int .i64 2, .int .i64 0, .string ⟨#[]⟩, .slice none 0 0, .slice none 0 0, .int .i64 m0, .int .i64 m1, .string m2, .slice m3 m4 m5, .slice m6 m7 m8] 25 (0, 0))) := hide (by rw [← hW3, ← hgs]; exact heap_alloc_new W2 _)
            try rw [hW3]
            try rw [hgs]
            have HS3 : Hid (W3.cell? ⟨g6, 0, none⟩ = some (.int .i64 y0) ∧ W3.cell? ⟨g6, 1, none⟩ = some (.int .i64 y1) ∧ W3.cell? ⟨g6, 2, none⟩ = some (.string y2) ∧ W3.cell? ⟨g6, 3, none⟩ = some (.slice y3 y4 y5) ∧ W3.cell? ⟨g6, 4, none⟩ = some (.slice y6 y7 y8) ∧ W3.cell? ⟨g8, 0, none⟩ = some (.int .i64 m0) ∧ W3.cell? ⟨g8, 1, none⟩ = some (.int .i64 m1) ∧ W3.cell? ⟨g8, 2, none⟩ = some (.string m2) ∧ W3.cell? ⟨g8, 3, none⟩ = some (.slice m3 m4 m5) ∧ W3.cell? ⟨g8, 4, none⟩ = some (.slice m6 m7 m8)) := hide ⟨cell_later dd ((unhide HS2).1), cell_later dd ((unhide HS2).2.1), cell_later dd ((unhide HS2).2.2.1), cell_later dd ((unhide HS2).2.2.2.1), cell_later dd ((unhide HS2).2.2.2.2.1), cell_later dd ((unhide HS2).2.2.2.2.2.1), cell_later dd ((unhide HS2).2.2.2.2.2.2.1), cell_later dd ((unhide HS2).2.2.2.2.2.2.2.1), cell_later dd ((unhide HS2).2.2.2.2.2.2.2.2.1), cell_later dd ((unhide HS2).2.2.2.2.2.2.2.2.2)⟩
            have HY3 : Hid (Below vv.heap.size vv W3) := hide ((unhide HY2).trans (dd.mono (unhide HY2).size))
            have HX3 : Hid (W3.heap[bx]? = some (.cells #[.int .i64 0, .int .i64 0, .string ⟨#[]⟩, .slice none 0 0, .slice none 0 0] 25 (0, 0))) := hide ((dd.block bx (Array.getElem?_eq_some_iff.1 (unhide HX2)).1).trans (unhide HX2))
            refine hK.out _ _ (Or.inr (unhide HS3)) ?_
            clear hK K HS2 HY2 HX2 dd hW3 hgs
            try simp only [Act.put, List.setIfInBounds_toArray, List.set_cons_zero, List.set_cons_succ]
            refine till_one 5 (by kernel_rfl) rfl (fun K hK => ?_)
            go_simp
            refine (unhide CSL W3 gs (unhide HY3) (unhide HG3)).mono ?_
            rintro e W4 ⟨f0, f1, f2, f3, f4, f5, f6, f7, f8, tt, rfl, ⟨htt, qq⟩, dd⟩
            have tt0 : tt = 0 := htt
            subst tt0
            have HQ4 : Hid (IsV W4 W4.heap.size x (.agg #[.int .i64 f0, .int .i64 f1, .string f2, .slice f3 f4 f5, .slice f6 f7 f8])) := hide (qq.isV (fun b hb => hb.2))
            have HQN4 : Hid (IsP W4 (fun b => b < W4.heap.size ∧ b ≠ bx) x (.agg #[.int .i64 f0, .int .i64 f1, .string f2, .slice f3 f4 f5, .slice f6 f7 f8])) := hide (qq.1.weak (fun b hb => ⟨hb.2, fun e => by have h1 := hb.1; have h2 := (Array.getElem?_eq_some_iff.1 (unhide HX3)).1; omega⟩))
            have HS4 : Hid (W4.cell? ⟨g6, 0, none⟩ = some (.int .i64 y0) ∧ W4.cell? ⟨g6, 1, none⟩ = some (.int .i64 y1) ∧ W4.cell? ⟨g6, 2, none⟩ = some (.string y2) ∧ W4.cell? ⟨g6, 3, none⟩ = some (.slice y3 y4 y5) ∧ W4.cell? ⟨g6, 4, none⟩ = some (.slice y6 y7 y8) ∧ W4.cell? ⟨g8, 0, none⟩ = some (.int .i64 m0) ∧ W4.cell? ⟨g8, 1, none⟩ = some (.int .i64 m1) ∧ W4.cell? ⟨g8, 2, none⟩ = some (.string m2) ∧ W4.cell? ⟨g8, 3, none⟩ = some (.slice m3 m4 m5) ∧ W4.cell? ⟨g8, 4, none⟩ = some (.slice m6 m7 m8)) := hide ⟨cell_later dd ((unhide HS3).1), cell_later dd ((unhide HS3).2.1), cell_later dd ((unhide HS3).2.2.1), cell_later dd ((unhide HS3).2.2.2.1), cell_later dd ((unhide HS3).2.2.2.2.1), cell_later dd ((unhide HS3).2.2.2.2.2.1), cell_later dd ((unhide HS3).2.2.2.2.2.2.1), cell_later dd ((unhide HS3).2.2.2.2.2.2.2.1), cell_later dd ((unhide HS3).2.2.2.2.2.2.2.2.1), cell_later dd ((unhide HS3).2.2.2.2.2.2.2.2.2)⟩
            have HY4 : Hid (Below vv.heap.size vv W4) := hide ((unhide HY3).trans (dd.mono (unhide HY3).size))
            have HX4 : Hid (W4.heap[bx]? = some (.cells #[.int .i64 0, .int .i64 0, .string ⟨#[]⟩, .slice none 0 0, .slice none 0 0] 25 (0, 0))) := hide ((dd.block bx (Array.getElem?_eq_some_iff.1 (unhide HX3)).1).trans (unhide HX3))
            clear dd qq htt
            go_wp2_with fail
            refine hK.out _ _ (Or.inr (unhide HS4)) ?_
            clear hK K HS3 HY3 HX3 HG3
            try simp only [Act.put, List.setIfInBounds_toArray, List.set_cons_zero, List.set_cons_succ]
            refine till_take 6 (v := .tuple #[.agg #[.int .i64 f0, .int .i64 f1, .string f2, .slice f3 f4 f5, .slice f6 f7 f8], .int .i64 0]) (some 47) rfl rfl rfl (by kernel_rfl) (by kernel_rfl) (by kernel_rfl) (by kernel_rfl) (fun _ _ _ h => h) (Or.inl ⟨by rfl, fun u hu => by obtain ⟨b0, b1, b2, b3, b4, b5, b6, b7, b8, b9⟩ := hu; go_simp⟩) (unhide HS4) ?_
            try simp only [Act.put, List.setIfInBounds_toArray, List.set_cons_zero, List.set_cons_succ]
            refine till_take 7 (v := .agg #[.int .i64 f0, .int .i64 f1, .string f2, .slice f3 f4 f5, .slice f6 f7 f8]) (some 54) rfl rfl rfl (by kernel_rfl) (by kernel_rfl) (by kernel_rfl) (by kernel_rfl) (fun _ _ _ h => h) (Or.inl ⟨by rfl, fun u hu => by obtain ⟨b0, b1, b2, b3, b4, b5, b6, b7, b8, b9⟩ := hu; go_simp⟩) (unhide HS4) ?_
            try simp only [Act.put, List.setIfInBounds_toArray, List.set_cons_zero, List.set_cons_succ]
            refine till_take 8 (v := .int .i64 0) (some 55) rfl rfl rfl (by kernel_rfl) (by kernel_rfl) (by kernel_rfl) (by kernel_rfl) (fun _ _ _ h => h) (Or.inl ⟨by rfl, fun u hu => by obtain ⟨b0, b1, b2, b3, b4, b5, b6, b7, b8, b9⟩ := hu; go_simp⟩) (unhide HS4) ?_
            try simp only [Act.put, List.setIfInBounds_toArray, List.set_cons_zero, List.set_cons_succ]
            obtain ⟨c0, c1, c2, c3, c4⟩ := block5 (unhide HX4)
            have f0z := frozen_of_row W4 bx 0 _ _ (unhide HX4)
            have f1z := frozen_of_row W4 bx 1 _ _ (unhide HX4)
            have f2z := frozen_of_row W4 bx 2 _ _ (unhide HX4)
            have f3z := frozen_of_row W4 bx 3 _ _ (unhide HX4)
            have f4z := frozen_of_row W4 bx 4 _ _ (unhide HX4)
            obtain ⟨W5, hW5⟩ : ∃ W, (((((W4.setCell ⟨bx, 0, none⟩ (.int .i64 f0)).setCell ⟨bx, 1, none⟩ (.int .i64 f1)).setCell ⟨bx, 2, none⟩ (.string f2)).setCell ⟨bx, 3, none⟩ (.slice f3 f4 f5)).setCell ⟨bx, 4, none⟩ (.slice f6 f7 f8)) = W := ⟨_, rfl⟩
            have HM5 : Hid (W5.heap[bx]? = some (.cells #[.int .i64 f0, .int .i64 f1, .string f2, .slice f3 f4 f5, .slice f6 f7 f8] 25 (0, 0)) ∧ Below vv.heap.size vv W5) := hide ⟨by rw [← hW5]; exact set5P (unhide HX4) _ _ _ _ _, by rw [← hW5]; exact set5P_below (unhide HY4) (unhide HBX) _ _ _ _ _⟩
            have HQQ : Hid (IsV W5 W5.heap.size x (.agg #[.int .i64 f0, .int .i64 f1, .string f2, .slice f3 f4 f5, .slice f6 f7 f8])) := hide (by
              have hq := unhide HQ4
              have hQN := unhide HQN4
              refine (hQN.to (fun b hb => ?_) (fun b hb => ?_))
              · rw [← hW5, heap_setCell_other _ _ _ _ hb.2, heap_setCell_other _ _ _ _ hb.2, heap_setCell_other _ _ _ _ hb.2, heap_setCell_other _ _ _ _ hb.2, heap_setCell_other _ _ _ _ hb.2]
              · rw [← hW5]; simpa using hb.1)
            have HS5 : Hid (W5.cell? ⟨g6, 0, none⟩ = some (.int .i64 y0) ∧ W5.cell? ⟨g6, 1, none⟩ = some (.int .i64 y1) ∧ W5.cell? ⟨g6, 2, none⟩ = some (.string y2) ∧ W5.cell? ⟨g6, 3, none⟩ = some (.slice y3 y4 y5) ∧ W5.cell? ⟨g6, 4, none⟩ = some (.slice y6 y7 y8) ∧ W5.cell? ⟨g8, 0, none⟩ = some (.int .i64 m0) ∧ W5.cell? ⟨g8, 1, none⟩ = some (.int .i64 m1) ∧ W5.cell? ⟨g8, 2, none⟩ = some (.string m2) ∧ W5.cell? ⟨g8, 3, none⟩ = some (.slice m3 m4 m5) ∧ W5.cell? ⟨g8, 4, none⟩ = some (.slice m6 m7 m8)) := hide (by
              have hlt := unhide HBL
              have hY := (unhide HM5).2
              exact ⟨(hY.cell (p := ⟨g6, 0, none⟩) hlt.1).trans ((unhide HVV).1), (hY.cell (p := ⟨g6, 1, none⟩) hlt.1).trans ((unhide HVV).2.1), (hY.cell (p := ⟨g6, 2, none⟩) hlt.1).trans ((unhide HVV).2.2.1), (hY.cell (p := ⟨g6, 3, none⟩) hlt.1).trans ((unhide HVV).2.2.2.1), (hY.cell (p := ⟨g6, 4, none⟩) hlt.1).trans ((unhide HVV).2.2.2.2.1), (hY.cell (p := ⟨g8, 0, none⟩) hlt.2).trans ((unhide HVV).2.2.2.2.2.1), (hY.cell (p := ⟨g8, 1, none⟩) hlt.2).trans ((unhide HVV).2.2.2.2.2.2.1), (hY.cell (p := ⟨g8, 2, none⟩) hlt.2).trans ((unhide HVV).2.2.2.2.2.2.2.1), (hY.cell (p := ⟨g8, 3, none⟩) hlt.2).trans ((unhide HVV).2.2.2.2.2.2.2.2.1), (hY.cell (p := ⟨g8, 4, none⟩) hlt.2).trans ((unhide HVV).2.2.2.2.2.2.2.2.2)⟩)
            refine till_one 10 (by kernel_rfl) rfl (fun K hK => ?_)
            go_simp
            try rw [hW5]
            refine hK.out _ _ (Or.inr (unhide HS5)) ?_
            clear hK K HS4 HY4 HX4 HQ4 c0 c1 c2 c3 c4 f0z f1z f2z f3z f4z hW5
            try simp only [Act.put, List.setIfInBounds_toArray, List.set_cons_zero, List.set_cons_succ]
            refine till_one 11 (by kernel_rfl) rfl (fun K hK => ?_)
            go_simp
            refine hK.out _ _ (Or.inl (by first | rfl | trivial)) ?_
            clear hK K HS5
            try simp only [Act.put, List.setIfInBounds_toArray, List.set_cons_zero, List.set_cons_succ]
            refine till_done (by kernel_rfl) ?_ _
            go_wp2_with fail
            go_meet
            exact ⟨bx, f0, f1, f2, f3, f4, f5, f6, f7, f8, rfl, rfl, hide ⟨(unhide HM5).1, unhide HQQ, (unhide HM5).2⟩⟩
        · go_simp
          obtain ⟨W1, hW1⟩ : ∃ W, W0.alloc (.cells #[.int .i64 0, .int .i64 0, .string ⟨#[]⟩, .slice none 0 0, .slice none 0 0] 25) = W := ⟨_, rfl⟩
          obtain ⟨bx, hbx⟩ : ∃ bx, W0.heap.size = bx := ⟨_, rfl⟩
          have dd : Below W0.heap.size W0 W1 := by rw [← hW1]; exact (Below.refl _ _).alloc (Nat.le_refl _) _
          have HX1 : Hid (W1.heap[bx]? = some (.cells #[.int .i64 0, .int .i64 0, .string ⟨#[]⟩, .slice none 0 0, .slice none 0 0] 25 (0, 0))) := hide (by rw [← hW1, ← hbx]; exact heap_alloc_new W0 _)
          have HBX : Hid (vv.heap.size ≤ bx) := hide (by rw [← hbx]; exact (unhide HY0).size)
          try rw [hW1]
          try rw [hbx]
          have HS1 : Hid (W1.cell? ⟨g6, 0, none⟩ = some (.int .i64 y0) ∧ W1.cell? ⟨g6, 1, none⟩ = some (.int .i64 y1) ∧ W1.cell? ⟨g6, 2, none⟩ = some (.string y2) ∧ W1.cell? ⟨g6, 3, none⟩ = some (.slice y3 y4 y5) ∧ W1.cell? ⟨g6, 4, none⟩ = some (.slice y6 y7 y8) ∧ W1.cell? ⟨g8, 0, none⟩ = some (.int .i64 m0) ∧ W1.cell? ⟨g8, 1, none⟩ = some (.int .i64 m1) ∧ W1.cell? ⟨g8, 2, none⟩ = some (.string m2) ∧ W1.cell? ⟨g8, 3, none⟩ = some (.slice m3 m4 m5) ∧ W1.cell? ⟨g8, 4, none⟩ = some (.slice m6 m7 m8)) := hide ⟨cell_later dd ((unhide HS0).1), cell_later dd ((unhide HS0).2.1), cell_later dd ((unhide HS0).2.2.1), cell_later dd ((unhide HS0).2.2.2.1), cell_later dd ((unhide HS0).2.2.2.2.1), cell_later dd ((unhide HS0).2.2.2.2.2.1), cell_later dd ((unhide HS0).2.2.2.2.2.2.1), cell_later dd ((unhide HS0).2.2.2.2.2.2.2.1), cell_later dd ((unhide HS0).2.2.2.2.2.2.2.2.1), cell_later dd ((unhide HS0).2.2.2.2.2.2.2.2.2)⟩
          have HY1 : Hid (Below vv.heap.size vv W1) := hide ((unhide HY0).trans (dd.mono (unhide HY0).size))
          refine hK.out _ _ (Or.inr (unhide HS1)) ?_
          clear hK K HS0 HY0 dd hW1 hbx
          try simp only [Act.put, List.setIfInBounds_toArray, List.set_cons_zero, List.set_cons_succ]
          refine till_one 2 (by kernel_rfl) rfl (fun K hK => ?_)
          go_simp
          refine (lawnum_any _ _).mono ?_
          rintro e W2 ⟨rfl, dd⟩
          have HS2 : Hid (W2.cell? ⟨g6, 0, none⟩ = some (.int .i64 y0) ∧ W2.cell? ⟨g6, 1, none⟩ = some (.int .i64 y1) ∧ W2.cell? ⟨g6, 2, none⟩ = some (.string y2) ∧ W2.cell? ⟨g6, 3, none⟩ = some (.slice y3 y4 y5) ∧ W2.cell? ⟨g6, 4, none⟩ = some (.slice y6 y7 y8) ∧ W2.cell? ⟨g8, 0, none⟩ = some (.int .i64 m0) ∧ W2.cell? ⟨g8, 1, none⟩ = some (.int .i64 m1) ∧ W2.cell? ⟨g8, 2, none⟩ = some (.string m2) ∧ W2.cell? ⟨g8, 3, none⟩ = some (.slice m3 m4 m5) ∧ W2.cell? ⟨g8, 4, none⟩ = some (.slice m6 m7 m8)) := hide ⟨cell_later dd ((unhide HS1).1), cell_later dd ((unhide HS1).2.1), cell_later dd ((unhide HS1).2.2.1), cell_later dd ((unhide HS1).2.2.2.1), cell_later dd ((unhide HS1).2.2.2.2.1), cell_later dd ((unhide HS1).2.2.2.2.2.1), cell_later dd ((unhide HS1).2.2.2.2.2.2.1), cell_later dd ((unhide HS1).2.2.2.2.2.2.2.1), cell_later dd ((unhide HS1).2.2.2.2.2.2.2.2.1), cell_later dd ((unhide HS1).2.2.2.2.2.2.2.2.2)⟩
          have HY2 : Hid (Below vv.heap.size vv W2) := hide ((unhide HY1).trans (dd.mono (unhide HY1).size))
          have HX2 : Hid (W2.heap[bx]? = some (.cells #[.int .i64 0, .int .i64 0, .string ⟨#[]⟩, .slice none 0 0, .slice none 0 0] 25 (0, 0))) := hide ((dd.block bx (Array.getElem?_eq_some_iff.1 (unhide HX1)).1).trans (unhide HX1))
          clear dd
          go_wp2_with fail
          refine hK.out _ _ (Or.inr (unhide HS2)) ?_
          clear hK K HS1 HY1 HX1
          try simp only [Act.put, List.setIfInBounds_toArray, List.set_cons_zero, List.set_cons_succ]
          refine till_one 4 (by kernel_rfl) rfl (fun K hK => ?_)
          go_simp
          obtain ⟨W3, hW3⟩ : ∃ W, W2.alloc (.cells #[.int .i64 y0, .int .i64 y1, .string y2, .slice y3 y4 y5, .slice y6 y7 y8, .int .i64 2, .int .i64 0, .string ⟨#[]⟩, .slice none 0 0, .slice none 0 0, .int .i64 m0, .int .i64 m1, .string m2, .slice m3 m4 m5, .slice m6 m7 m8] 25) = W := ⟨_, rfl⟩
          obtain ⟨gs, hgs⟩ : ∃ gs, W2.heap.size = gs := ⟨_, rfl⟩
          have dd : Below W2.heap.size W2 W3 := by rw [← hW3]; exact (Below.refl _ _).alloc (Nat.le_refl _) _
          have HG3 : Hid (W3.heap[gs]? = some (.cells #[.int .i64 y0, .int .i64 y1, .string y2, .slice y3 y4 y5, .slice y6 y7 y8, .int .i64 2, .int .i64 0, .string ⟨#[]⟩, .slice none 0 0, .slice none 0 0, .int .i64 m0, .int .i64 m1, .string m2, .slice m3 m4 m5, .slice m6 m7 m8] 25 (0, 0))) := hide (by rw [← hW3, ← hgs]; exact heap_alloc_new W2 _)
          try rw [hW3]
          try rw [hgs]
          have HS3 : Hid (W3.cell? ⟨g6, 0, none⟩ = some (.int .i64 y0) ∧ W3.cell? ⟨g6, 1, none⟩ = some (.int .i64 y1) ∧ W3.cell? ⟨g6, 2, none⟩ = some (.string y2) ∧ W3.cell? ⟨g6, 3, none⟩ = some (.slice y3 y4 y5) ∧ W3.cell? ⟨g6, 4, none⟩ = some (.slice y6 y7 y8) ∧ W3.cell? ⟨g8, 0, none⟩ = some (.int .i64 m0) ∧ W3.cell? ⟨g8, 1, none⟩ = some (.int .i64 m1) ∧ W3.cell? ⟨g8, 2, none⟩ = some (.string m2) ∧ W3.cell? ⟨g8, 3, none⟩ = some (.slice m3 m4 m5) ∧ W3.cell? ⟨g8, 4, none⟩ = some (.slice m6 m7 m8)) := hide ⟨cell_later dd ((unhide HS2).1), cell_later dd ((unhide HS2).2.1), cell_later dd ((unhide HS2).2.2.1), cell_later dd ((unhide HS2).2.2.2.1), cell_later dd ((unhide HS2).2.2.2.2.1), cell_later dd ((unhide HS2).2.2.2.2.2.1), cell_later dd ((unhide HS2).2.2.2.2.2.2.1), cell_later dd ((unhide HS2).2.2.2.2.2.2.2.1), cell_later dd ((unhide HS2).2.2.2.2.2.2.2.2.1), cell_later dd ((unhide HS2).2.2.2.2.2.2.2.2.2)⟩
          have HY3 : Hid (Below vv.heap.size vv W3) := hide ((unhide HY2).trans (dd.mono (unhide HY2).size))
          have HX3 : Hid (W3.heap[bx]? = some (.cells #[.int .i64 0, .int .i64 0, .string ⟨#[]⟩, .slice none 0 0, .slice none 0 0] 25 (0, 0))) := hide ((dd.block bx (Array.getElem?_eq_some_iff.1 (unhide HX2)).1).trans (unhide HX2))
          refine hK.out _ _ (Or.inr (unhide HS3)) ?_
          clear hK K HS2 HY2 HX2 dd hW3 hgs
          try simp only [Act.put, List.setIfInBounds_toArray, List.set_cons_zero, List.set_cons_succ]
          refine till_one 5 (by kernel_rfl) rfl (fun K hK => ?_)
          go_simp
          refine (unhide CSL W3 gs (unhide HY3) (unhide HG3)).mono ?_
          rintro e W4 ⟨f0, f1, f2, f3, f4, f5, f6, f7, f8, tt, rfl, ⟨htt, qq⟩, dd⟩
          have tt0 : tt = 0 := htt
          subst tt0
          have HQ4 : Hid (IsV W4 W4.heap.size x (.agg #[.int .i64 f0, .int .i64 f1, .string f2, .slice f3 f4 f5, .slice f6 f7 f8])) := hide (qq.isV (fun b hb => hb.2))
          have HQN4 : Hid (IsP W4 (fun b => b < W4.heap.size ∧ b ≠ bx) x (.agg #[.int .i64 f0, .int .i64 f1, .string f2, .slice f3 f4 f5, .slice f6 f7 f8])) := hide (qq.1.weak (fun b hb => ⟨hb.2, fun e => by have h1 := hb.1; have h2 := (Array.getElem?_eq_some_iff.1 (unhide HX3)).1; omega⟩))
          have HS4 : Hid (W4.cell? ⟨g6, 0, none⟩ = some (.int .i64 y0) ∧ W4.cell? ⟨g6, 1, none⟩ = some (.int .i64 y1) ∧ W4.cell? ⟨g6, 2, none⟩ = some (.string y2) ∧ W4.cell? ⟨g6, 3, none⟩ = some (.slice y3 y4 y5) ∧ W4.cell? ⟨g6, 4, none⟩ = some (.slice y6 y7 y8) ∧ W4.cell? ⟨g8, 0, none⟩ = some (.int .i64 m0) ∧ W4.cell? ⟨g8, 1, none⟩ = some (.int .i64 m1) ∧ W4.cell? ⟨g8, 2, none⟩ = some (.string m2) ∧ W4.cell? ⟨g8, 3, none⟩ = some (.slice m3 m4 m5) ∧ W4.cell? ⟨g8, 4, none⟩ = some (.slice m6 m7 m8)) := hide ⟨cell_later dd ((unhide HS3).1), cell_later dd ((unhide HS3).2.1), cell_later dd ((unhide HS3).2.2.1), cell_later dd ((unhide HS3).2.2.2.1), cell_later dd ((unhide HS3).2.2.2.2.1), cell_later dd ((unhide HS3).2.2.2.2.2.1), cell_later dd ((unhide HS3).2.2.2.2.2.2.1), cell_later dd ((unhide HS3).2.2.2.2.2.2.2.1), cell_later dd ((unhide HS3).2.2.2.2.2.2.2.2.1), cell_later dd ((unhide HS3).2.2.2.2.2.2.2.2.2)⟩
          have HY4 : Hid (Below vv.heap.size vv W4) := hide ((unhide HY3).trans (dd.mono (unhide HY3).size))
          have HX4 : Hid (W4.heap[bx]? = some (.cells #[.int .i64 0, .int .i64 0, .string ⟨#[]⟩, .slice none 0 0, .slice none 0 0] 25 (0, 0))) := hide ((dd.block bx (Array.getElem?_eq_some_iff.1 (unhide HX3)).1).trans (unhide HX3))
          clear dd qq htt
          go_wp2_with fail
          refine hK.out _ _ (Or.inr (unhide HS4)) ?_
          clear hK K HS3 HY3 HX3 HG3
          try simp only [Act.put, List.setIfInBounds_toArray, List.set_cons_zero, List.set_cons_succ]
          refine till_take 6 (v := .tuple #[.agg #[.int .i64 f0, .int .i64 f1, .string f2, .slice f3 f4 f5, .slice f6 f7 f8], .int .i64 0]) (some 47) rfl rfl rfl (by kernel_rfl) (by kernel_rfl) (by kernel_rfl) (by kernel_rfl) (fun _ _ _ h => h) (Or.inl ⟨by rfl, fun u hu => by obtain ⟨b0, b1, b2, b3, b4, b5, b6, b7, b8, b9⟩ := hu; go_simp⟩) (unhide HS4) ?_
          try simp only [Act.put, List.setIfInBounds_toArray, List.set_cons_zero, List.set_cons_succ]
          refine till_take 7 (v := .agg #[.int .i64 f0, .int .i64 f1, .string f2, .slice f3 f4 f5, .slice f6 f7 f8]) (some 54) rfl rfl rfl (by kernel_rfl) (by kernel_rfl) (by kernel_rfl) (by kernel_rfl) (fun _ _ _ h => h) (Or.inl ⟨by rfl, fun u hu => by obtain ⟨b0, b1, b2, b3, b4, b5, b6, b7, b8, b9⟩ := hu; go_simp⟩) (unhide HS4) ?_
          try simp only [Act.put, List.setIfInBounds_toArray, List.set_cons_zero, List.set_cons_succ]
          refine till_take 8 (v := .int .i64 0) (some 55) rfl rfl rfl (by kernel_rfl) (by kernel_rfl) (by kernel_rfl) (by kernel_rfl) (fun _ _ _ h => h) (Or.inl ⟨by rfl, fun u hu => by obtain ⟨b0, b1, b2, b3, b4, b5, b6, b7, b8, b9⟩ := hu; go_simp⟩) (unhide HS4) ?_
          try simp only [Act.put, List.setIfInBounds_toArray, List.set_cons_zero, List.set_cons_succ]
          obtain ⟨c0, c1, c2, c3, c4⟩ := block5 (unhide HX4)
          have f0z := frozen_of_row W4 bx 0 _ _ (unhide HX4)
          have f1z := frozen_of_row W4 bx 1 _ _ (unhide HX4)
          have f2z := frozen_of_row W4 bx 2 _ _ (unhide HX4)
          have f3z := frozen_of_row W4 bx 3 _ _ (unhide HX4)
          have f4z := frozen_of_row W4 bx 4 _ _ (unhide HX4)
          obtain ⟨W5, hW5⟩ : ∃ W, (((((W4.setCell ⟨bx, 0, none⟩ (.int .i64 f0)).setCell ⟨bx, 1, none⟩ (.int .i64 f1)).setCell ⟨bx, 2, none⟩ (.string f2)).setCell ⟨bx, 3, none⟩ (.slice f3 f4 f5)).setCell ⟨bx, 4, none⟩ (.slice f6 f7 f8)) = W := ⟨_, rfl⟩
          have HM5 : Hid (W5.heap[bx]? = some (.cells #[.int .i64 f0, .int .i64 f1, .string f2, .slice f3 f4 f5, .slice f6 f7 f8] 25 (0, 0)) ∧ Below vv.heap.size vv W5) := hide ⟨by rw [← hW5]; exact set5P (unhide HX4) _ _ _ _ _, by rw [← hW5]; exact set5P_below (unhide HY4) (unhide HBX) _ _ _ _ _⟩
          have HQQ : Hid (IsV W5 W5.heap.size x (.agg #[.int .i64 f0, .int .i64 f1, .string f2, .slice f3 f4 f5, .slice f6 f7 f8])) := hide (by
            have hq := unhide HQ4
            have hQN := unhide HQN4
            refine (hQN.to (fun b hb => ?_) (fun b hb => ?_))
            · rw [← hW5, heap_setCell_other _ _ _ _ hb.2, heap_setCell_other _ _ _ _ hb.2, heap_setCell_other _ _ _ _ hb.2, heap_setCell_other _ _ _ _ hb.2, heap_setCell_other _ _ _ _ hb.2]
            · rw [← hW5]; simpa using hb.1)
          have HS5 : Hid (W5.cell? ⟨g6, 0, none⟩ = some (.int .i64 y0) ∧ W5.cell? ⟨g6, 1, none⟩ = some (.int .i64 y1) ∧ W5.cell? ⟨g6, 2, none⟩ = some (.string y2) ∧ W5.cell? ⟨g6, 3, none⟩ = some (.slice y3 y4 y5) ∧ W5.cell? ⟨g6, 4, none⟩ = some (.slice y6 y7 y8) ∧ W5.cell? ⟨g8, 0, none⟩ = some (.int .i64 m0) ∧ W5.cell? ⟨g8, 1, none⟩ = some (.int .i64 m1) ∧ W5.cell? ⟨g8, 2, none⟩ = some (.string m2) ∧ W5.cell? ⟨g8, 3, none⟩ = some (.slice m3 m4 m5) ∧ W5.cell? ⟨g8, 4, none⟩ = some (.slice m6 m7 m8)) := hide (by
            have hlt := unhide HBL
            have hY := (unhide HM5).2
            exact ⟨(hY.cell (p := ⟨g6, 0, none⟩) hlt.1).trans ((unhide HVV).1), (hY.cell (p := ⟨g6, 1, none⟩) hlt.1).trans ((unhide HVV).2.1), (hY.cell (p := ⟨g6, 2, none⟩) hlt.1).trans ((unhide HVV).2.2.1), (hY.cell (p := ⟨g6, 3, none⟩) hlt.1).trans ((unhide HVV).2.2.2.1), (hY.cell (p := ⟨g6, 4, none⟩) hlt.1).trans ((unhide HVV).2.2.2.2.1), (hY.cell (p := ⟨g8, 0, none⟩) hlt.2).trans ((unhide HVV).2.2.2.2.2.1), (hY.cell (p := ⟨g8, 1, none⟩) hlt.2).trans ((unhide HVV).2.2.2.2.2.2.1), (hY.cell (p := ⟨g8, 2, none⟩) hlt.2).trans ((unhide HVV).2.2.2.2.2.2.2.1), (hY.cell (p := ⟨g8, 3, none⟩) hlt.2).trans ((unhide HVV).2.2.2.2.2.2.2.2.1), (hY.cell (p := ⟨g8, 4, none⟩) hlt.2).trans ((unhide HVV).2.2.2.2.2.2.2.2.2)⟩)
          refine till_one 10 (by kernel_rfl) rfl (fun K hK => ?_)
          go_simp
          try rw [hW5]
          refine hK.out _ _ (Or.inr (unhide HS5)) ?_
          clear hK K HS4 HY4 HX4 HQ4 c0 c1 c2 c3 c4 f0z f1z f2z f3z f4z hW5
          try simp only [Act.put, List.setIfInBounds_toArray, List.set_cons_zero, List.set_cons_succ]
          refine till_one 11 (by kernel_rfl) rfl (fun K hK => ?_)
          go_simp
          refine hK.out _ _ (Or.inl (by first | rfl | trivial)) ?_
          clear hK K HS5
          try simp only [Act.put, List.setIfInBounds_toArray, List.set_cons_zero, List.set_cons_succ]
          refine till_done (by kernel_rfl) ?_ _
          go_wp2_with fail
          go_meet
          exact ⟨bx, f0, f1, f2, f3, f4, f5, f6, f7, f8, rfl, rfl, hide ⟨(unhide HM5).1, unhide HQQ, (unhide HM5).2⟩⟩
      case rest =>
        obtain ⟨g12, f0, f1, f2, f3, f4, f5, f6, f7, f8, rfl, rfl, HR⟩ := hcut
        have HPC : Hid (PJ w wc ((g12, #[.int .i64 f0, .int .i64 f1, .string f2, .slice f3 f4 f5, .slice f6 f7 f8]) :: [(g10, #[.int .i64 n0, .int .i64 n1, .string n2, .slice n3 n4 n5, .slice n6 n7 n8]), (gj, #[.int .i64 y0, .int .i64 y1, .string y2, .slice y3 y4 y5, .slice y6 y7 y8]), (g8, #[.int .i64 m0, .int .i64 m1, .string m2, .slice m3 m4 m5, .slice m6 m7 m8]), (gk, #[.int .i64 p0, .int .i64 p1, .string p2, .slice p3 p4 p5, .slice p6 p7 p8]), (g6, #[.int .i64 y0, .int .i64 y1, .string y2, .slice y3 y4 y5, .slice y6 y7 y8]), (gl, #[.int .i64 p0, .int .i64 p1, .string p2, .slice p3 p4 p5, .slice p6 p7 p8, .int .i64 q0, .int .i64 q1, .string q2, .slice q3 q4 q5, .slice q6 q7 q8]), (gy, #[.int .i64 q0, .int .i64 q1, .string q2, .slice q3 q4 q5, .slice q6 q7 q8]), (gx, #[.int .i64 p0, .int .i64 p1, .string p2, .slice p3 p4 p5, .slice p6 p7 p8])]) ((x, .agg #[.int .i64 f0, .int .i64 f1, .string f2, .slice f3 f4 f5, .slice f6 f7 f8]) :: [(nm cv, .agg #[.int .i64 n0, .int .i64 n1, .string n2, .slice n3 n4 n5, .slice n6 n7 n8]), (nm cx, .agg #[.int .i64 m0, .int .i64 m1, .string m2, .slice m3 m4 m5, .slice m6 m7 m8]), (r.1, .agg #[.int .i64 y0, .int .i64 y1, .string y2, .slice y3 y4 y5, .slice y6 y7 y8]), (x, .agg #[.int .i64 p0, .int .i64 p1, .string p2, .slice p3 p4 p5, .slice p6 p7 p8]), (y, .agg #[.int .i64 q0, .int .i64 q1, .string q2, .slice q3 q4 q5, .slice q6 q7 q8])])) := hide (by
          have h := (unhide HPV).later (unhide HR).2.2
          refine ⟨h.below, fun p hp => ?_, (h.addV (unhide HR).2.1).val⟩
          rcases List.mem_cons.1 hp with rfl | hp
          · exact (unhide HR).1
          · exact h.box p hp)
        clear HR HPV HVV HBL CSL
        obtain ⟨a0, a1, a2, a3, a4⟩ := block5 ((unhide HPC).box _ (List.mem_cons_of_mem _ (List.mem_cons_of_mem _ (List.mem_cons_of_mem _ (List.mem_cons_of_mem _ (List.mem_cons_of_mem _ List.mem_cons_self))))))
        obtain ⟨b0, b1, b2, b3, b4⟩ := block5 ((unhide HPC).box _ (List.mem_cons_of_mem _ (List.mem_cons_of_mem _ (List.mem_cons_of_mem _ List.mem_cons_self))))
        obtain ⟨c0, c1, c2, c3, c4⟩ := block5 ((unhide HPC).box _ (List.mem_cons_of_mem _ List.mem_cons_self))
        obtain ⟨gi, hgi⟩ : ∃ g, wc.heap.size = g := ⟨_, rfl⟩
        obtain ⟨v1, hv1⟩ : ∃ u, wc.alloc (.cells #[.int .i64 y0, .int .i64 y1, .string y2, .slice y3 y4 y5, .slice y6 y7 y8, .int .i64 m0, .int .i64 m1, .string m2, .slice m3 m4 m5, .slice m6 m7 m8, .int .i64 n0, .int .i64 n1, .string n2, .slice n3 n4 n5, .slice n6 n7 n8] 25) = u := ⟨_, rfl⟩
        have HPD := hide ((unhide HPC).addB hv1 hgi)
        have CT : Hid (Calls Tryz.prog 12 #[.int .i64 30, .agg #[.int .i64 0, .int .i64 0, .string ⟨#[]⟩, .slice none 0 0, .slice none 0 0], .slice (some ⟨gi, 0, none⟩) 3 3] v1 fun e w' => OpPost v1 (y, 0) e w') := hide (by
          have := doS3 r.1 (nm cx) (nm cv) y0 y1 y2 y3 y4 y5 y6 y7 y8 m0 m1 m2 m3 m4 m5 m6 m7 m8 n0 n1 n2 n3 n4 n5 n6 n7 n8 gi v1.heap.size v1 (unhide HT v1 (unhide HPD).below) ((unhide HPD).val _ (List.mem_cons_of_mem _ (List.mem_cons_of_mem _ (List.mem_cons_of_mem _ List.mem_cons_self)))) ((unhide HPD).val _ (List.mem_cons_of_mem _ (List.mem_cons_of_mem _ List.mem_cons_self))) ((unhide HPD).val _ (List.mem_cons_of_mem _ List.mem_cons_self)) (Nat.le_refl _) ((unhide HPD).box _ List.mem_cons_self) (unhide HJ).2.2.2.1 (by rw [(unhide HJ).2.2.2.2.1]; exact (unhide HJ).2.2.1) (right_nm cx) (right_nm cv) rfl rfl
          rw [show (nm cx).n = cx from rfl, show (nm cv).n = cv from rfl, (unhide HJ).2.2.2.2.2.2] at this
          exact this)
        clear HPC
        go_wp2_with fail
        refine (unhide CT).mono ?_
        rintro e v2 ⟨s0, s1, s2, s3, s4, s5, s6, s7, s8, t2, rfl, ⟨ht2, q2'⟩, d2⟩
        have t20 : t2 = 0 := ht2
        subst t20
        have HPE := hide (((unhide HPD).later d2).addV (q2'.isV (fun b hb => hb.2)))
        clear q2' d2 ht2 CT HPD hv1 hgi a0 a1 a2 a3 a4 b0 b1 b2 b3 b4 c0 c1 c2 c3 c4
        go_upto_region 9 with fail
        obtain ⟨g14, hg14⟩ : ∃ g, v2.heap.size = g := ⟨_, rfl⟩
        obtain ⟨v3, hv3⟩ : ∃ u, v2.alloc (.cells #[.int .i64 s0, .int .i64 s1, .string s2, .slice s3 s4 s5, .slice s6 s7 s8] 25) = u := ⟨_, rfl⟩
        have HPF := hide ((unhide HPE).addB hv3 hg14)
        try rw [hv3]
        try rw [hg14]
        clear hv3 hg14 HPE
        obtain ⟨a0, a1, a2, a3, a4⟩ := block5 ((unhide HPF).box _ (List.mem_cons_of_mem _ (List.mem_cons_of_mem _ List.mem_cons_self)))
        obtain ⟨b0, b1, b2, b3, b4⟩ := block5 ((unhide HPF).box _ (List.mem_cons_of_mem _ (List.mem_cons_of_mem _ (List.mem_cons_of_mem _ (List.mem_cons_of_mem _ (List.mem_cons_of_mem _ (List.mem_cons_of_mem _ (List.mem_cons_of_mem _ (List.mem_cons_of_mem _ (List.mem_cons_of_mem _ (List.mem_cons_of_mem _ List.mem_cons_self)))))))))))
        have CA := hide (same3_any (dep x) x x _ _ v3.heap.size v3 (Nat.le_refl _) ((unhide HPF).val _ (List.mem_cons_of_mem _ List.mem_cons_self)) ((unhide HPF).val _ (List.mem_cons_of_mem _ (List.mem_cons_of_mem _ (List.mem_cons_of_mem _ (List.mem_cons_of_mem _ (List.mem_cons_of_mem _ List.mem_cons_self)))))) (Nat.le_refl _))
        rw [show sameB x x = true from (sameB_iff x x).2 rfl] at CA
        go_wp2_with fail
        refine (unhide CA).mono ?_
        rintro e v4 ⟨rfl, d4⟩
        have HPG := hide ((unhide HPF).later d4)
        clear d4 CA HPF a0 a1 a2 a3 a4 b0 b1 b2 b3 b4
        obtain ⟨a0, a1, a2, a3, a4⟩ := block5 ((unhide HPG).box _ List.mem_cons_self)
        obtain ⟨b0, b1, b2, b3, b4⟩ := block5 ((unhide HPG).box _ (List.mem_cons_of_mem _ (List.mem_cons_of_mem _ (List.mem_cons_of_mem _ (List.mem_cons_of_mem _ (List.mem_cons_of_mem _ (List.mem_cons_of_mem _ (List.mem_cons_of_mem _ (List.mem_cons_of_mem _ (List.mem_cons_of_mem _ List.mem_cons_self))))))))))
        have CB := hide (same3_any (dep y) y y _ _ v4.heap.size v4 (Nat.le_refl _) ((unhide HPG).val _ List.mem_cons_self) ((unhide HPG).val _ (List.mem_cons_of_mem _ (List.mem_cons_of_mem _ (List.mem_cons_of_mem _ (List.mem_cons_of_mem _ (List.mem_cons_of_mem _ (List.mem_cons_of_mem _ List.mem_cons_self))))))) (Nat.le_refl _))
        rw [show sameB y y = true from (sameB_iff y y).2 rfl] at CB
        go_wp2_with fail
        refine (unhide CB).mono ?_
        rintro e v5 ⟨rfl, d5⟩
        have HD5 := hide ((unhide HPG).later d5).below
        clear d5 CB HPG
        go_wp2_with fail
        go_ret
        exact ⟨by simp, unhide HD5⟩
  · have tb : (t == 0) = false := beq_eq_false_iff_ne.2 ht0
    go_wp2_with fail
    go_ret
    exact ⟨by simp, (unhide HP3).below.alloc (unhide HP3).below.size _⟩
end Go.Proofs.YtgkmdjmigehmeaaGreatDoor
