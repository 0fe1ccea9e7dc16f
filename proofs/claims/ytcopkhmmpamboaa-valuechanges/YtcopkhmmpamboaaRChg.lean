/-
  The walk of ValueChanges; conditions: the form's own reach.
-/
import Derived.Test.YtcopkhmmpamboaaR51
namespace Go.Proofs.Ytcopkhmmpamboaa
open Go.RowKit
set_option linter.unusedVariables false
set_option linter.unusedSimpArgs false

set_option maxRecDepth 100000 in
set_option maxHeartbeats 8000000 in
theorem changes_any (r x : Vl) (rr xx : Value) (B : Nat) (key : ByteArray) (w : World) (hv : IsV w B r rr) (hx : IsV w B x xx) (hBs : B ≤ w.heap.size) :
    Calls Try.prog 4 #[rr, .string key, xx] w fun e w' => e = .returned (.bool true) ∧ Below w.heap.size w w' := by
  obtain ⟨yr0, yr1, yr2, yr3, yr4, yr5, yr6, yr7, yr8, rfl⟩ := shape9 hv
  obtain ⟨yx0, yx1, yx2, yx3, yx4, yx5, yx6, yx7, yx8, rfl⟩ := shape9 hx
  obtain ⟨g, hg⟩ : ∃ g, w.heap.size = g := ⟨_, rfl⟩
  have TW := Two.mk' w 27 #[.int .i64 yr0, .int .i64 yr1, .string yr2, .slice yr3 yr4 yr5, .slice yr6 yr7 yr8] #[.int .i64 yx0, .int .i64 yx1, .string yx2, .slice yx3 yx4 yx5, .slice yx6 yx7 yx8]
  obtain ⟨w2, hw2⟩ : ∃ w2, (w.alloc (.cells #[.int .i64 yr0, .int .i64 yr1, .string yr2, .slice yr3 yr4 yr5, .slice yr6 yr7 yr8] 27)).alloc (.cells #[.int .i64 yx0, .int .i64 yx1, .string yx2, .slice yx3 yx4 yx5, .slice yx6 yx7 yx8] 27) = w2 := ⟨_, rfl⟩
  rw [hw2, hg] at TW
  have hz : Cs w w2 g [(g, #[.int .i64 yr0, .int .i64 yr1, .string yr2, .slice yr3 yr4 yr5, .slice yr6 yr7 yr8]), (g + 1, #[.int .i64 yx0, .int .i64 yx1, .string yx2, .slice yx3 yx4 yx5, .slice yx6 yx7 yx8])] [(r, .agg #[.int .i64 yr0, .int .i64 yr1, .string yr2, .slice yr3 yr4 yr5, .slice yr6 yr7 yr8]), (x, .agg #[.int .i64 yx0, .int .i64 yx1, .string yx2, .slice yx3 yx4 yx5, .slice yx6 yx7 yx8])] [] [] [] := by
    have h1 := TW.later (Below.refl _ _)
    have h2 := TW.size
    have h3 := TW.below
    rw [hg] at h3
    refine ⟨h3, by omega, fun p hp => ?_, fun q hq => ?_, (fun q hq => by cases hq), (fun q hq => by cases hq), (fun q hq => by cases hq)⟩
    · simp only [List.mem_cons, List.not_mem_nil, or_false] at hp
      rcases hp with rfl | rfl
      · exact h1.1
      · exact h1.2
    · simp only [List.mem_cons, List.not_mem_nil, or_false] at hq
      rcases hq with rfl | rfl
      · exact (hv.mono (h3.mono (by omega))).lift (by omega)
      · exact (hx.mono (h3.mono (by omega))).lift (by omega)
  have HZ := hide hz
  have HG := hide (And.intro hg TW.size)
  obtain ⟨S1, hS1⟩ : ∃ S1, (getR r key).isSome = S1 := ⟨_, rfl⟩
  obtain ⟨E2, hE2⟩ : ∃ E2, withE r key x = E2 := ⟨_, rfl⟩
  obtain ⟨E3, hE3⟩ : ∃ E3, withoutC r key = E3 := ⟨_, rfl⟩
  obtain ⟨VA, hVA⟩ : ∃ VA, (getR r key).getD zeroVl = VA := ⟨_, rfl⟩
  obtain ⟨VC, hVC⟩ : ∃ VC, wiV r key x = VC := ⟨_, rfl⟩
  obtain ⟨VG, hVG⟩ : ∃ VG, woV r key = VG := ⟨_, rfl⟩
  have HEQ := hide (And.intro hS1 (And.intro hE2 (And.intro hE3 (And.intro hVA (And.intro hVC hVG)))))
  clear hz hv hx TW hS1 hE2 hE3 hVA hVC hVG
  go_enter Try.func4, Try.ntmps4
  go_wp2_with fail
  refine (shown_any w2).mono ?_
  rintro e u0 ⟨rfl, b0⟩
  have HZ0 := hide ((unhide HZ).later b0)
  obtain ⟨n0, hn0⟩ : ∃ n0, u0.heap.size = n0 := ⟨_, rfl⟩
  have HN0 : Hid (g + 2 ≤ n0) := hide (by have := b0.size; have := (unhide HG).2; omega)
  have HU0 := hide hn0
  clear b0 hw2 HZ hn0
  obtain ⟨c0, c1, c2, c3, c4⟩ := row_cell ((unhide HZ0).box _ (memAt (i := 0) rfl))
  have CW := hide (lent_both r _ g u0 ((unhide HZ0).val _ (memAt (i := 0) rfl)) (unhide HZ0).low)
  go_wp2_with fail
  refine (unhide CW).mono ?_
  rintro e u1 ⟨x', rfl, q1, b1⟩
  have hI := q1.isV ((((unhide HZ0).later b1).val _ (memAt (i := 0) rfl))) (Nat.le_refl _) ((unhide HZ0).later b1).low
  obtain ⟨yl0, yl1, yl2, yl3, yl4, yl5, yl6, yl7, yl8, rfl⟩ := shape9 hI
  clear hI
  obtain ⟨n1, hn1⟩ : ∃ n, u1.heap.size = n := ⟨_, rfl⟩
  have HN1 : Hid (n0 ≤ n1) := hide (by have h1 := b1.size; have h2 := unhide HU0; omega)
  have hZ := ((((unhide HZ0).later b1).addL (lo := n0) (hi := n1) (by rw [← unhide HU0, ← hn1]; exact q1) (by omega)).make #[.int .i64 yl0, .int .i64 yl1, .string yl2, .slice yl3 yl4 yl5, .slice yl6 yl7 yl8])
  rw [hn1] at hZ
  have HZ2 := hide hZ
  have HS : Hid ((u1.alloc (.cells #[.int .i64 yl0, .int .i64 yl1, .string yl2, .slice yl3 yl4 yl5, .slice yl6 yl7 yl8] 27)).heap.size = n1 + 1) := hide (by rw [← hn1]; simp)
  clear hZ b1 q1 CW HZ0 c0 c1 c2 c3 c4
  go_upto_region 3 with fail
  try rw [hn1]
  obtain ⟨u2, hu2⟩ : ∃ u, u1.alloc (.cells #[.int .i64 yl0, .int .i64 yl1, .string yl2, .slice yl3 yl4 yl5, .slice yl6 yl7 yl8] 27) = u := ⟨_, rfl⟩
  rw [hu2] at HZ2 HS
  try rw [hu2]
  clear hu2 hn1 HU0
  obtain ⟨n2, hn2⟩ : ∃ n, u2.heap.size = n := ⟨_, rfl⟩
  have HN2 : Hid (n2 = n1 + 1) := hide (by rw [← hn2]; exact unhide HS)
  have HU2 := hide hn2
  clear HS hn2
  obtain ⟨c0, c1, c2, c3, c4⟩ := row_cell ((unhide HZ2).box _ (memAt (i := 2) rfl))
  have CW := hide (lent_both x _ g u2 ((unhide HZ2).val _ (memAt (i := 1) rfl)) (unhide HZ2).low)
  go_wp2_with fail
  refine (unhide CW).mono ?_
  rintro e u3 ⟨x', rfl, q1, b1⟩
  have hI := q1.isV ((((unhide HZ2).later b1).val _ (memAt (i := 1) rfl))) (Nat.le_refl _) ((unhide HZ2).later b1).low
  obtain ⟨ym0, ym1, ym2, ym3, ym4, ym5, ym6, ym7, ym8, rfl⟩ := shape9 hI
  clear hI
  obtain ⟨n3, hn3⟩ : ∃ n, u3.heap.size = n := ⟨_, rfl⟩
  have HN3 : Hid (n2 ≤ n3) := hide (by have h1 := b1.size; have h2 := unhide HU2; omega)
  have hZ := ((((unhide HZ2).later b1).addL (lo := n2) (hi := n3) (by rw [← unhide HU2, ← hn3]; exact q1) (by omega)).make #[.int .i64 ym0, .int .i64 ym1, .string ym2, .slice ym3 ym4 ym5, .slice ym6 ym7 ym8])
  rw [hn3] at hZ
  have HZ4 := hide hZ
  have HS : Hid ((u3.alloc (.cells #[.int .i64 ym0, .int .i64 ym1, .string ym2, .slice ym3 ym4 ym5, .slice ym6 ym7 ym8] 27)).heap.size = n3 + 1) := hide (by rw [← hn3]; simp)
  clear hZ b1 q1 CW HZ2 c0 c1 c2 c3 c4
  go_upto_region 4 with fail
  try rw [hn3]
  obtain ⟨u4, hu4⟩ : ∃ u, u3.alloc (.cells #[.int .i64 ym0, .int .i64 ym1, .string ym2, .slice ym3 ym4 ym5, .slice ym6 ym7 ym8] 27) = u := ⟨_, rfl⟩
  rw [hu4] at HZ4 HS
  try rw [hu4]
  clear hu4 hn3 HU2
  obtain ⟨n4, hn4⟩ : ∃ n, u4.heap.size = n := ⟨_, rfl⟩
  have HN4 : Hid (n4 = n3 + 1) := hide (by rw [← hn4]; exact unhide HS)
  have HU4 := hide hn4
  clear HS hn4
  obtain ⟨c0, c1, c2, c3, c4⟩ := row_cell ((unhide HZ4).box _ (memAt (i := 1) rfl))
  have CW := getQ_any r _ u4.heap.size key u4 (((unhide HZ4).lent _ (memAt (i := 1) rfl)).1.isV ((unhide HZ4).val _ (memAt (i := 0) rfl)) ((unhide HZ4).lent _ (memAt (i := 1) rfl)).2 (unhide HZ4).low) (Nat.le_refl _)
  rw [(unhide HEQ).1, (unhide HEQ).2.2.2.1] at CW
  have CW := hide CW
  go_wp2_with fail
  refine (unhide CW).mono ?_
  rintro e u5 ⟨x', rfl, b1, q1⟩
  obtain ⟨ya0, ya1, ya2, ya3, ya4, ya5, ya6, ya7, ya8, rfl⟩ := shape9 q1.1
  obtain ⟨n5, hn5⟩ : ∃ n, u5.heap.size = n := ⟨_, rfl⟩
  have HN5 : Hid (n4 ≤ n5) := hide (by have h1 := b1.size; have h2 := unhide HU4; omega)
  have hZ := ((((unhide HZ4).later b1).addQ (lo := n4) (hi := n5) (by rw [← unhide HU4, ← hn5]; exact q1) (by omega)).make #[.int .i64 ya0, .int .i64 ya1, .string ya2, .slice ya3 ya4 ya5, .slice ya6 ya7 ya8])
  rw [hn5] at hZ
  have HZ6 := hide hZ
  have HS : Hid ((u5.alloc (.cells #[.int .i64 ya0, .int .i64 ya1, .string ya2, .slice ya3 ya4 ya5, .slice ya6 ya7 ya8] 27)).heap.size = n5 + 1) := hide (by rw [← hn5]; simp)
  clear hZ b1 q1 CW HZ4 c0 c1 c2 c3 c4
  go_upto_region 5 with fail
  try rw [hn5]
  obtain ⟨u6, hu6⟩ : ∃ u, u5.alloc (.cells #[.int .i64 ya0, .int .i64 ya1, .string ya2, .slice ya3 ya4 ya5, .slice ya6 ya7 ya8] 27) = u := ⟨_, rfl⟩
  rw [hu6] at HZ6 HS
  try rw [hu6]
  clear hu6 hn5 HU4
  obtain ⟨n6, hn6⟩ : ∃ n, u6.heap.size = n := ⟨_, rfl⟩
  have HN6 : Hid (n6 = n5 + 1) := hide (by rw [← hn6]; exact unhide HS)
  have HU6 := hide hn6
  clear HS hn6
  obtain ⟨c0, c1, c2, c3, c4⟩ := row_cell ((unhide HZ6).box _ (memAt (i := 3) rfl))
  have CW := getD_any r _ g key u6 ((unhide HZ6).val _ (memAt (i := 0) rfl)) (unhide HZ6).low
  rw [show (Vl.mk 0 0 ⟨#[]⟩ [] []) = zeroVl from rfl, (unhide HEQ).1, (unhide HEQ).2.2.2.1] at CW
  have CW := hide CW
  go_wp2_with fail
  refine (unhide CW).mono ?_
  rintro e u7 ⟨x', rfl, b1, q1⟩
  obtain ⟨yb0, yb1, yb2, yb3, yb4, yb5, yb6, yb7, yb8, rfl⟩ := shape9 q1
  obtain ⟨n7, hn7⟩ : ∃ n, u7.heap.size = n := ⟨_, rfl⟩
  have HN7 : Hid (n6 ≤ n7) := hide (by have h1 := b1.size; have h2 := unhide HU6; omega)
  have hZ := ((((unhide HZ6).later b1).addD q1).make #[.int .i64 yb0, .int .i64 yb1, .string yb2, .slice yb3 yb4 yb5, .slice yb6 yb7 yb8])
  rw [hn7] at hZ
  have HZ8 := hide hZ
  have HS : Hid ((u7.alloc (.cells #[.int .i64 yb0, .int .i64 yb1, .string yb2, .slice yb3 yb4 yb5, .slice yb6 yb7 yb8] 27)).heap.size = n7 + 1) := hide (by rw [← hn7]; simp)
  clear hZ b1 q1 CW HZ6 c0 c1 c2 c3 c4
  go_upto_region 6 with fail
  try rw [hn7]
  obtain ⟨u8, hu8⟩ : ∃ u, u7.alloc (.cells #[.int .i64 yb0, .int .i64 yb1, .string yb2, .slice yb3 yb4 yb5, .slice yb6 yb7 yb8] 27) = u := ⟨_, rfl⟩
  rw [hu8] at HZ8 HS
  try rw [hu8]
  clear hu8 hn7 HU6
  obtain ⟨n8, hn8⟩ : ∃ n, u8.heap.size = n := ⟨_, rfl⟩
  have HN8 : Hid (n8 = n7 + 1) := hide (by rw [← hn8]; exact unhide HS)
  have HU8 := hide hn8
  clear HS hn8
  obtain ⟨c0, c1, c2, c3, c4⟩ := row_cell ((unhide HZ8).box _ (memAt (i := 3) rfl))
  obtain ⟨d0, d1, d2, d3, d4⟩ := row_cell ((unhide HZ8).box _ (memAt (i := 2) rfl))
  have CW := withQ_any r x _ _ u8.heap.size key u8 (((unhide HZ8).lent _ (memAt (i := 1) rfl)).1.isV ((unhide HZ8).val _ (memAt (i := 0) rfl)) ((unhide HZ8).lent _ (memAt (i := 1) rfl)).2 (unhide HZ8).low) (((unhide HZ8).lent _ (memAt (i := 0) rfl)).1.isV ((unhide HZ8).val _ (memAt (i := 1) rfl)) ((unhide HZ8).lent _ (memAt (i := 0) rfl)).2 (unhide HZ8).low) (Nat.le_refl _)
  rw [(unhide HEQ).2.1, (unhide HEQ).2.2.2.2.1] at CW
  have CW := hide CW
  go_wp2_with fail
  refine (unhide CW).mono ?_
  rintro e u9 ⟨x', rfl, b1, q1⟩
  obtain ⟨yc0, yc1, yc2, yc3, yc4, yc5, yc6, yc7, yc8, rfl⟩ := shape9 q1.1
  obtain ⟨n9, hn9⟩ : ∃ n, u9.heap.size = n := ⟨_, rfl⟩
  have HN9 : Hid (n8 ≤ n9) := hide (by have h1 := b1.size; have h2 := unhide HU8; omega)
  have hZ := ((((unhide HZ8).later b1).addQ (lo := n8) (hi := n9) (by rw [← unhide HU8, ← hn9]; exact q1) (by omega)).make #[.int .i64 yc0, .int .i64 yc1, .string yc2, .slice yc3 yc4 yc5, .slice yc6 yc7 yc8])
  rw [hn9] at hZ
  have HZ10 := hide hZ
  have HS : Hid ((u9.alloc (.cells #[.int .i64 yc0, .int .i64 yc1, .string yc2, .slice yc3 yc4 yc5, .slice yc6 yc7 yc8] 27)).heap.size = n9 + 1) := hide (by rw [← hn9]; simp)
  clear hZ b1 q1 CW HZ8 c0 c1 c2 c3 c4 d0 d1 d2 d3 d4
  go_upto_region 7 with fail
  try rw [hn9]
  obtain ⟨u10, hu10⟩ : ∃ u, u9.alloc (.cells #[.int .i64 yc0, .int .i64 yc1, .string yc2, .slice yc3 yc4 yc5, .slice yc6 yc7 yc8] 27) = u := ⟨_, rfl⟩
  rw [hu10] at HZ10 HS
  try rw [hu10]
  clear hu10 hn9 HU8
  obtain ⟨n10, hn10⟩ : ∃ n, u10.heap.size = n := ⟨_, rfl⟩
  have HN10 : Hid (n10 = n9 + 1) := hide (by rw [← hn10]; exact unhide HS)
  have HU10 := hide hn10
  clear HS hn10
  obtain ⟨c0, c1, c2, c3, c4⟩ := row_cell ((unhide HZ10).box _ (memAt (i := 5) rfl))
  obtain ⟨d0, d1, d2, d3, d4⟩ := row_cell ((unhide HZ10).box _ (memAt (i := 6) rfl))
  have CW := withDQ_any r x _ _ g key u10 ((unhide HZ10).val _ (memAt (i := 0) rfl)) ((unhide HZ10).val _ (memAt (i := 1) rfl)) (unhide HZ10).low
  rw [(unhide HEQ).2.1, (unhide HEQ).2.2.2.2.1] at CW
  have CW := hide CW
  go_wp2_with fail
  refine (unhide CW).mono ?_
  rintro e u11 ⟨x', rfl, b1, q1⟩
  obtain ⟨yd0, yd1, yd2, yd3, yd4, yd5, yd6, yd7, yd8, rfl⟩ := shape9 q1
  obtain ⟨n11, hn11⟩ : ∃ n, u11.heap.size = n := ⟨_, rfl⟩
  have HN11 : Hid (n10 ≤ n11) := hide (by have h1 := b1.size; have h2 := unhide HU10; omega)
  have hZ := ((((unhide HZ10).later b1).addD q1).make #[.int .i64 yd0, .int .i64 yd1, .string yd2, .slice yd3 yd4 yd5, .slice yd6 yd7 yd8])
  rw [hn11] at hZ
  have HZ12 := hide hZ
  have HS : Hid ((u11.alloc (.cells #[.int .i64 yd0, .int .i64 yd1, .string yd2, .slice yd3 yd4 yd5, .slice yd6 yd7 yd8] 27)).heap.size = n11 + 1) := hide (by rw [← hn11]; simp)
  clear hZ b1 q1 CW HZ10 c0 c1 c2 c3 c4 d0 d1 d2 d3 d4
  go_upto_region 8 with fail
  try rw [hn11]
  obtain ⟨u12, hu12⟩ : ∃ u, u11.alloc (.cells #[.int .i64 yd0, .int .i64 yd1, .string yd2, .slice yd3 yd4 yd5, .slice yd6 yd7 yd8] 27) = u := ⟨_, rfl⟩
  rw [hu12] at HZ12 HS
  try rw [hu12]
  clear hu12 hn11 HU10
  obtain ⟨n12, hn12⟩ : ∃ n, u12.heap.size = n := ⟨_, rfl⟩
  have HN12 : Hid (n12 = n11 + 1) := hide (by rw [← hn12]; exact unhide HS)
  have HU12 := hide hn12
  clear HS hn12
  obtain ⟨c0, c1, c2, c3, c4⟩ := row_cell ((unhide HZ12).box _ (memAt (i := 5) rfl))
  have CW := withoutQ_any r _ u12.heap.size key u12 (((unhide HZ12).lent _ (memAt (i := 1) rfl)).1.isV ((unhide HZ12).val _ (memAt (i := 0) rfl)) ((unhide HZ12).lent _ (memAt (i := 1) rfl)).2 (unhide HZ12).low) (Nat.le_refl _)
  rw [(unhide HEQ).2.2.1, (unhide HEQ).2.2.2.2.2] at CW
  have CW := hide CW
  go_wp2_with fail
  refine (unhide CW).mono ?_
  rintro e u13 ⟨x', rfl, b1, q1⟩
  obtain ⟨yh0, yh1, yh2, yh3, yh4, yh5, yh6, yh7, yh8, rfl⟩ := shape9 q1.1
  obtain ⟨n13, hn13⟩ : ∃ n, u13.heap.size = n := ⟨_, rfl⟩
  have HN13 : Hid (n12 ≤ n13) := hide (by have h1 := b1.size; have h2 := unhide HU12; omega)
  have hZ := ((((unhide HZ12).later b1).addQ (lo := n12) (hi := n13) (by rw [← unhide HU12, ← hn13]; exact q1) (by omega)).make #[.int .i64 yh0, .int .i64 yh1, .string yh2, .slice yh3 yh4 yh5, .slice yh6 yh7 yh8])
  rw [hn13] at hZ
  have HZ14 := hide hZ
  have HS : Hid ((u13.alloc (.cells #[.int .i64 yh0, .int .i64 yh1, .string yh2, .slice yh3 yh4 yh5, .slice yh6 yh7 yh8] 27)).heap.size = n13 + 1) := hide (by rw [← hn13]; simp)
  clear hZ b1 q1 CW HZ12 c0 c1 c2 c3 c4
  go_upto_region 9 with fail
  try rw [hn13]
  obtain ⟨u14, hu14⟩ : ∃ u, u13.alloc (.cells #[.int .i64 yh0, .int .i64 yh1, .string yh2, .slice yh3 yh4 yh5, .slice yh6 yh7 yh8] 27) = u := ⟨_, rfl⟩
  rw [hu14] at HZ14 HS
  try rw [hu14]
  clear hu14 hn13 HU12
  obtain ⟨n14, hn14⟩ : ∃ n, u14.heap.size = n := ⟨_, rfl⟩
  have HN14 : Hid (n14 = n13 + 1) := hide (by rw [← hn14]; exact unhide HS)
  have HU14 := hide hn14
  clear HS hn14
  obtain ⟨c0, c1, c2, c3, c4⟩ := row_cell ((unhide HZ14).box _ (memAt (i := 7) rfl))
  have CW := withoutDQ_any r _ g key u14 ((unhide HZ14).val _ (memAt (i := 0) rfl)) (unhide HZ14).low
  rw [(unhide HEQ).2.2.1, (unhide HEQ).2.2.2.2.2] at CW
  have CW := hide CW
  go_wp2_with fail
  refine (unhide CW).mono ?_
  rintro e u15 ⟨x', rfl, b1, q1⟩
  obtain ⟨yi0, yi1, yi2, yi3, yi4, yi5, yi6, yi7, yi8, rfl⟩ := shape9 q1
  obtain ⟨n15, hn15⟩ : ∃ n, u15.heap.size = n := ⟨_, rfl⟩
  have HN15 : Hid (n14 ≤ n15) := hide (by have h1 := b1.size; have h2 := unhide HU14; omega)
  have hZ := ((((unhide HZ14).later b1).addD q1).make #[.int .i64 yi0, .int .i64 yi1, .string yi2, .slice yi3 yi4 yi5, .slice yi6 yi7 yi8])
  rw [hn15] at hZ
  have HZ16 := hide hZ
  have HS : Hid ((u15.alloc (.cells #[.int .i64 yi0, .int .i64 yi1, .string yi2, .slice yi3 yi4 yi5, .slice yi6 yi7 yi8] 27)).heap.size = n15 + 1) := hide (by rw [← hn15]; simp)
  clear hZ b1 q1 CW HZ14 c0 c1 c2 c3 c4
  go_upto_region 10 with fail
  try rw [hn15]
  obtain ⟨u16, hu16⟩ : ∃ u, u15.alloc (.cells #[.int .i64 yi0, .int .i64 yi1, .string yi2, .slice yi3 yi4 yi5, .slice yi6 yi7 yi8] 27) = u := ⟨_, rfl⟩
  rw [hu16] at HZ16 HS
  try rw [hu16]
  clear hu16 hn15 HU14
  obtain ⟨n16, hn16⟩ : ∃ n, u16.heap.size = n := ⟨_, rfl⟩
  have HN16 : Hid (n16 = n15 + 1) := hide (by rw [← hn16]; exact unhide HS)
  have HU16 := hide hn16
  clear HS hn16
  obtain ⟨c0, c1, c2, c3, c4⟩ := row_cell ((unhide HZ16).box _ (memAt (i := 5) rfl))
  obtain ⟨d0, d1, d2, d3, d4⟩ := row_cell ((unhide HZ16).box _ (memAt (i := 4) rfl))
  have CW := same3_any (dep VA) VA VA _ _ u16.heap.size u16 (Nat.le_refl _) (((unhide HZ16).own _ (memAt (i := 2) rfl)).1.isV (B := u16.heap.size) (fun b hb => by have h1 := ((unhide HZ16).own _ (memAt (i := 2) rfl)).2; have h2 := hb.2; exact Nat.lt_of_lt_of_le h2 h1)) ((unhide HZ16).doc _ (memAt (i := 2) rfl)) (Nat.le_refl _)
  rw [(sameB_iff VA VA).2 rfl] at CW
  have CW := hide CW
  go_wp2_with fail
  refine (unhide CW).mono ?_
  rintro e s0 ⟨rfl, b1⟩
  have HT0 := hide ((unhide HZ16).later b1)
  clear b1 CW HZ16 c0 c1 c2 c3 c4 d0 d1 d2 d3 d4
  obtain ⟨c0, c1, c2, c3, c4⟩ := row_cell ((unhide HT0).box _ (memAt (i := 3) rfl))
  obtain ⟨d0, d1, d2, d3, d4⟩ := row_cell ((unhide HT0).box _ (memAt (i := 2) rfl))
  have CW := same3_any (dep VC) VC VC _ _ s0.heap.size s0 (Nat.le_refl _) (((unhide HT0).own _ (memAt (i := 1) rfl)).1.isV (B := s0.heap.size) (fun b hb => by have h1 := ((unhide HT0).own _ (memAt (i := 1) rfl)).2; have h2 := hb.2; exact Nat.lt_of_lt_of_le h2 h1)) ((unhide HT0).doc _ (memAt (i := 1) rfl)) (Nat.le_refl _)
  rw [(sameB_iff VC VC).2 rfl] at CW
  have CW := hide CW
  go_wp2_with fail
  refine (unhide CW).mono ?_
  rintro e s1 ⟨rfl, b1⟩
  have HT1 := hide ((unhide HT0).later b1)
  clear b1 CW HT0 c0 c1 c2 c3 c4 d0 d1 d2 d3 d4
  obtain ⟨c0, c1, c2, c3, c4⟩ := row_cell ((unhide HT1).box _ (memAt (i := 1) rfl))
  obtain ⟨d0, d1, d2, d3, d4⟩ := row_cell ((unhide HT1).box _ (memAt (i := 0) rfl))
  have CW := same3_any (dep VG) VG VG _ _ s1.heap.size s1 (Nat.le_refl _) (((unhide HT1).own _ (memAt (i := 0) rfl)).1.isV (B := s1.heap.size) (fun b hb => by have h1 := ((unhide HT1).own _ (memAt (i := 0) rfl)).2; have h2 := hb.2; exact Nat.lt_of_lt_of_le h2 h1)) ((unhide HT1).doc _ (memAt (i := 0) rfl)) (Nat.le_refl _)
  rw [(sameB_iff VG VG).2 rfl] at CW
  have CW := hide CW
  go_wp2_with fail
  refine (unhide CW).mono ?_
  rintro e s2 ⟨rfl, b1⟩
  have HT2 := hide ((unhide HT1).later b1)
  clear b1 CW HT1 c0 c1 c2 c3 c4 d0 d1 d2 d3 d4
  have HO : Hid (g + 2 ≤ n0 ∧ n0 ≤ n1 ∧ n2 = n1 + 1 ∧ n2 ≤ n3 ∧ n4 = n3 + 1 ∧ n4 ≤ n5 ∧ n6 = n5 + 1 ∧ n6 ≤ n7 ∧ n8 = n7 + 1 ∧ n8 ≤ n9 ∧ n10 = n9 + 1 ∧ n10 ≤ n11 ∧ n12 = n11 + 1 ∧ n12 ≤ n13 ∧ n14 = n13 + 1 ∧ n14 ≤ n15) := hide ⟨unhide HN0, unhide HN1, unhide HN2, unhide HN3, unhide HN4, unhide HN5, unhide HN6, unhide HN7, unhide HN8, unhide HN9, unhide HN10, unhide HN11, unhide HN12, unhide HN13, unhide HN14, unhide HN15⟩
  clear HN0 HN1 HN2 HN3 HN4 HN5 HN6 HN7 HN8 HN9 HN10 HN11 HN12 HN13 HN14 HN15 HN16 HU16
  obtain ⟨c0, c1, c2, c3, c4⟩ := row_cell ((unhide HT2).box _ (memAt (i := 5) rfl))
  have CW := hide (spoil_any (dep VA) _ (fun b => n4 ≤ b ∧ b < n5) s2 ((unhide HT2).own _ (memAt (i := 2) rfl)).1.2 (fun b hb => Nat.lt_of_lt_of_le hb.2 ((unhide HT2).own _ (memAt (i := 2) rfl)).2))
  go_wp2_with fail
  refine (unhide CW).mono ?_
  rintro e t0 ⟨rfl, b1⟩
  have HW0 := hide ((unhide HT2).wipe (QS' := [(n12, n13, VG, .agg #[.int .i64 yh0, .int .i64 yh1, .string yh2, .slice yh3 yh4 yh5, .slice yh6 yh7 yh8]), (n8, n9, VC, .agg #[.int .i64 yc0, .int .i64 yc1, .string yc2, .slice yc3 yc4 yc5, .slice yc6 yc7 yc8])]) b1 (by have := unhide HO; omega)
    (fun p hp => by
      have := unhide HO
      simp only [List.mem_cons, List.not_mem_nil, or_false] at hp
      rcases hp with rfl | rfl | rfl | rfl | rfl | rfl | rfl | rfl | rfl | rfl <;> (simp only []; omega))
    (fun q hq => by
      have := unhide HO
      simp only [List.mem_cons, List.not_mem_nil, or_false] at hq
      rcases hq with rfl | rfl <;> (simp only []; omega))
    (fun q hq => by
      have := unhide HO
      simp only [List.mem_cons, List.not_mem_nil, or_false] at hq
      rcases hq with rfl | rfl <;> exact ⟨by simp, by simp only []; omega⟩))
  clear b1 CW HT2 c0 c1 c2 c3 c4
  obtain ⟨c0, c1, c2, c3, c4⟩ := row_cell ((unhide HW0).box _ (memAt (i := 3) rfl))
  have CW := hide (spoil_any (dep VC) _ (fun b => n8 ≤ b ∧ b < n9) t0 ((unhide HW0).own _ (memAt (i := 1) rfl)).1.2 (fun b hb => Nat.lt_of_lt_of_le hb.2 ((unhide HW0).own _ (memAt (i := 1) rfl)).2))
  go_wp2_with fail
  refine (unhide CW).mono ?_
  rintro e t1 ⟨rfl, b1⟩
  have HW1 := hide ((unhide HW0).wipe (QS' := [(n12, n13, VG, .agg #[.int .i64 yh0, .int .i64 yh1, .string yh2, .slice yh3 yh4 yh5, .slice yh6 yh7 yh8])]) b1 (by have := unhide HO; omega)
    (fun p hp => by
      have := unhide HO
      simp only [List.mem_cons, List.not_mem_nil, or_false] at hp
      rcases hp with rfl | rfl | rfl | rfl | rfl | rfl | rfl | rfl | rfl | rfl <;> (simp only []; omega))
    (fun q hq => by
      have := unhide HO
      simp only [List.mem_cons, List.not_mem_nil, or_false] at hq
      rcases hq with rfl | rfl <;> (simp only []; omega))
    (fun q hq => by
      have := unhide HO
      simp only [List.mem_cons, List.not_mem_nil, or_false] at hq
      rcases hq with rfl <;> exact ⟨by simp, by simp only []; omega⟩))
  clear b1 CW HW0 c0 c1 c2 c3 c4
  obtain ⟨c0, c1, c2, c3, c4⟩ := row_cell ((unhide HW1).box _ (memAt (i := 1) rfl))
  have CW := hide (spoil_any (dep VG) _ (fun b => n12 ≤ b ∧ b < n13) t1 ((unhide HW1).own _ (memAt (i := 0) rfl)).1.2 (fun b hb => Nat.lt_of_lt_of_le hb.2 ((unhide HW1).own _ (memAt (i := 0) rfl)).2))
  go_wp2_with fail
  refine (unhide CW).mono ?_
  rintro e t2 ⟨rfl, b1⟩
  have HW2 := hide ((unhide HW1).wipe (QS' := []) b1 (by have := unhide HO; omega)
    (fun p hp => by
      have := unhide HO
      simp only [List.mem_cons, List.not_mem_nil, or_false] at hp
      rcases hp with rfl | rfl | rfl | rfl | rfl | rfl | rfl | rfl | rfl | rfl <;> (simp only []; omega))
    (fun q hq => by
      have := unhide HO
      simp only [List.mem_cons, List.not_mem_nil, or_false] at hq
      rcases hq with rfl | rfl <;> (simp only []; omega))
    (fun q hq => by cases hq))
  clear b1 CW HW1 c0 c1 c2 c3 c4
  obtain ⟨c0, c1, c2, c3, c4⟩ := row_cell ((unhide HW2).box _ (memAt (i := 7) rfl))
  obtain ⟨d0, d1, d2, d3, d4⟩ := row_cell ((unhide HW2).box _ (memAt (i := 8) rfl))
  have CW := hide (still_both r _ _ _ _ g t2 ((unhide HW2).lent _ (memAt (i := 1) rfl)).1 ((unhide HW2).val _ (memAt (i := 0) rfl)) (unhide HW2).low ((unhide HW2).lent _ (memAt (i := 1) rfl)).2)
  go_wp2_with fail
  refine (unhide CW).mono ?_
  rintro e v0 ⟨rfl, b1⟩
  have HY0 := hide ((unhide HW2).later b1)
  clear b1 CW HW2 c0 c1 c2 c3 c4 d0 d1 d2 d3 d4
  obtain ⟨c0, c1, c2, c3, c4⟩ := row_cell ((unhide HY0).box _ (memAt (i := 6) rfl))
  obtain ⟨d0, d1, d2, d3, d4⟩ := row_cell ((unhide HY0).box _ (memAt (i := 9) rfl))
  have CW := hide (still_both x _ _ _ _ g v0 ((unhide HY0).lent _ (memAt (i := 0) rfl)).1 ((unhide HY0).val _ (memAt (i := 1) rfl)) (unhide HY0).low ((unhide HY0).lent _ (memAt (i := 0) rfl)).2)
  go_wp2_with fail
  refine (unhide CW).mono ?_
  rintro e v1 ⟨rfl, b1⟩
  have HY1 := hide ((unhide HY0).later b1)
  clear b1 CW HY0 c0 c1 c2 c3 c4 d0 d1 d2 d3 d4
  have HF := hide (unhide HY1).below
  clear HY1
  go_wp2_with fail
  go_ret
  exact ⟨by simp, by rw [(unhide HG).1]; exact unhide HF⟩
end Go.Proofs.Ytcopkhmmpamboaa
