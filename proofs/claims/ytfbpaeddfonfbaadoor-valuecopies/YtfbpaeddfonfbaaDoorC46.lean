/-
  The walk of ValueCopies; conditions: the form's own reach, the table of strconv as the program's text lays it.
-/
import Derived.Test.YtfbpaeddfonfbaaDoorC34
import Derived.Test.YtfbpaeddfonfbaaDoorC45
import Derived.Deep.RegionHeld
namespace Go.Proofs.YtfbpaeddfonfbaaDoor
open Go.RowKit
set_option linter.unusedVariables false
set_option linter.unusedSimpArgs false

theorem keepV {v w1 w2 : World} {P : World → Prop} (H : Hid (∀ w', Below v.heap.size v w' → P w')) (h : Below v.heap.size v w1) (hb : Below w1.heap.size w1 w2) : Below v.heap.size v w2 ∧ P w2 :=
  ⟨h.trans (hb.mono h.size), unhide H _ (h.trans (hb.mono h.size))⟩

theorem text_eq {a b : ByteArray} (h : a.data.toList = b.data.toList) : a = b := by
  cases a
  cases b
  congr
  exact Array.ext' h

set_option maxRecDepth 100000 in
set_option maxHeartbeats 8000000 in
theorem copies_any (r : Vl) (rr : Value) (B : Nat) (w : World) (hv : IsV w B r rr) (hBs : B ≤ w.heap.size) (hP : PowAt w) (hG : 0 < w.heap.size) :
    Calls Tryd.prog 3 #[rr] w fun e w' => e = .returned (.bool true) ∧ Below w.heap.size w w' := by
  obtain ⟨yr0, yr1, yr2, yr3, yr4, yr5, yr6, yr7, yr8, rfl⟩ := shape9 hv
  obtain ⟨g, hg⟩ : ∃ g, w.heap.size = g := ⟨_, rfl⟩
  obtain ⟨w2, hw2⟩ : ∃ w2, w.alloc (.cells #[.int .i64 yr0, .int .i64 yr1, .string yr2, .slice yr3 yr4 yr5, .slice yr6 yr7 yr8] 25) = w2 := ⟨_, rfl⟩
  have hsz2 : w2.heap.size = g + 1 := by rw [← hw2, ← hg]; simp
  have hbl2 : Below g w w2 := by rw [← hw2, ← hg]; exact (Below.refl _ _).alloc (Nat.le_refl _) _
  have hz : Cs w w2 g [(g, #[.int .i64 yr0, .int .i64 yr1, .string yr2, .slice yr3 yr4 yr5, .slice yr6 yr7 yr8])] [(r, .agg #[.int .i64 yr0, .int .i64 yr1, .string yr2, .slice yr3 yr4 yr5, .slice yr6 yr7 yr8])] [] [] [] := by
    refine ⟨hbl2, by omega, fun p hp => ?_, fun q hq => ?_, (fun q hq => by cases hq), (fun q hq => by cases hq), (fun q hq => by cases hq)⟩
    · simp only [List.mem_cons, List.not_mem_nil, or_false] at hp
      subst hp
      rw [← hw2, ← hg]
      exact heap_alloc_new w _
    · simp only [List.mem_cons, List.not_mem_nil, or_false] at hq
      subst hq
      exact (hv.mono (hbl2.mono (by omega))).lift (by omega)
  have HZ := hide hz
  have HPW : Hid (∀ u, Below g w u → PowAt u) := hide (fun u hu => hP.later hu (by omega))
  have HG := hide (And.intro hg hsz2)
  have HGG : Hid (0 < g) := hide (by omega)
  obtain ⟨VA, hVA⟩ : ∃ VA, cpV r = VA := ⟨_, rfl⟩
  have HEQ := hide hVA
  clear hz hv hVA hP hbl2
  go_enter Tryd.func3, Tryd.ntmps3
  go_wp2_with fail
  refine (shown_any w2).mono ?_
  rintro e u0 ⟨rfl, b0⟩
  have HZ0 := hide ((unhide HZ).later b0)
  obtain ⟨n0, hn0⟩ : ∃ n0, u0.heap.size = n0 := ⟨_, rfl⟩
  have HN0 : Hid (g + 1 ≤ n0) := hide (by have := b0.size; have := (unhide HG).2; omega)
  have HU0 := hide hn0
  clear b0 hw2 HZ hn0 hsz2
  obtain ⟨c0, c1, c2, c3, c4⟩ := row_cell ((unhide HZ0).box _ (memAt (i := 0) rfl))
  have CW := hide (lent_both r _ g u0 ((unhide HZ0).val _ (memAt (i := 0) rfl)) (unhide HZ0).low)
  go_wp2_with fail
  refine (unhide CW).mono ?_
  rintro e u1 ⟨x', rfl, q1, b1⟩
  have hI := q1.isV ((((unhide HZ0).later b1).val _ (memAt (i := 0) rfl))) (Nat.le_refl _) ((unhide HZ0).later b1).low
  obtain ⟨yl0, yl1, yl2, yl3, yl4, yl5, yl6, yl7, yl8, rfl⟩ := shape9 hI
  clear hI
  obtain ⟨n1, hn1⟩ : ∃ n, u1.heap.size = n := ⟨_, rfl⟩
  have HN1 : Hid (n0 ≤ n1) := hide (by have h1 := b1.size; have h2 := unhide HU0; omega)
  have hZ := ((((unhide HZ0).later b1).addL (lo := n0) (hi := n1) (by rw [← unhide HU0, ← hn1]; exact q1) (by omega)).make #[.int .i64 yl0, .int .i64 yl1, .string yl2, .slice yl3 yl4 yl5, .slice yl6 yl7 yl8])
  rw [hn1] at hZ
  have HZ2 := hide hZ
  have HS : Hid ((u1.alloc (.cells #[.int .i64 yl0, .int .i64 yl1, .string yl2, .slice yl3 yl4 yl5, .slice yl6 yl7 yl8] 25)).heap.size = n1 + 1) := hide (by rw [← hn1]; simp)
  clear hZ b1 q1 CW HZ0 c0 c1 c2 c3 c4
  go_upto_region 3 with fail
  try rw [hn1]
  obtain ⟨u2, hu2⟩ : ∃ u, u1.alloc (.cells #[.int .i64 yl0, .int .i64 yl1, .string yl2, .slice yl3 yl4 yl5, .slice yl6 yl7 yl8] 25) = u := ⟨_, rfl⟩
  rw [hu2] at HZ2 HS
  try rw [hu2]
  clear hu2 hn1 HU0
  obtain ⟨n2, hn2⟩ : ∃ n, u2.heap.size = n := ⟨_, rfl⟩
  have HN2 : Hid (n2 = n1 + 1) := hide (by rw [← hn2]; exact unhide HS)
  have HU2 := hide hn2
  clear HS hn2
  obtain ⟨c0, c1, c2, c3, c4⟩ := row_cell ((unhide HZ2).box _ (memAt (i := 0) rfl))
  have CW := copyQ_any r _ u2.heap.size u2 (((unhide HZ2).lent _ (memAt (i := 0) rfl)).1.isV ((unhide HZ2).val _ (memAt (i := 0) rfl)) ((unhide HZ2).lent _ (memAt (i := 0) rfl)).2 (unhide HZ2).low) (Nat.le_refl _)
  rw [unhide HEQ] at CW
  have CW := hide CW
  go_wp2_with fail
  refine (unhide CW).mono ?_
  rintro e u3 ⟨x', rfl, b1, q1⟩
  obtain ⟨yx0, yx1, yx2, yx3, yx4, yx5, yx6, yx7, yx8, rfl⟩ := shape9 q1.1
  obtain ⟨n3, hn3⟩ : ∃ n, u3.heap.size = n := ⟨_, rfl⟩
  have HN3 : Hid (n2 ≤ n3) := hide (by have h1 := b1.size; have h2 := unhide HU2; omega)
  have hZ := ((((unhide HZ2).later b1).addQ (lo := n2) (hi := n3) (by rw [← unhide HU2, ← hn3]; exact q1) (by omega)).make #[.int .i64 yx0, .int .i64 yx1, .string yx2, .slice yx3 yx4 yx5, .slice yx6 yx7 yx8])
  rw [hn3] at hZ
  have HZ4 := hide hZ
  have HS : Hid ((u3.alloc (.cells #[.int .i64 yx0, .int .i64 yx1, .string yx2, .slice yx3 yx4 yx5, .slice yx6 yx7 yx8] 25)).heap.size = n3 + 1) := hide (by rw [← hn3]; simp)
  clear hZ b1 q1 CW HZ2 c0 c1 c2 c3 c4
  go_upto_region 4 with fail
  try rw [hn3]
  obtain ⟨u4, hu4⟩ : ∃ u, u3.alloc (.cells #[.int .i64 yx0, .int .i64 yx1, .string yx2, .slice yx3 yx4 yx5, .slice yx6 yx7 yx8] 25) = u := ⟨_, rfl⟩
  rw [hu4] at HZ4 HS
  try rw [hu4]
  clear hu4 hn3 HU2
  obtain ⟨n4, hn4⟩ : ∃ n, u4.heap.size = n := ⟨_, rfl⟩
  have HN4 : Hid (n4 = n3 + 1) := hide (by rw [← hn4]; exact unhide HS)
  have HU4 := hide hn4
  clear HS hn4
  obtain ⟨c0, c1, c2, c3, c4⟩ := row_cell ((unhide HZ4).box _ (memAt (i := 1) rfl))
  have CW := hide (print_any r _ u4.heap.size u4 (((unhide HZ4).lent _ (memAt (i := 0) rfl)).1.isV ((unhide HZ4).val _ (memAt (i := 0) rfl)) ((unhide HZ4).lent _ (memAt (i := 0) rfl)).2 (unhide HZ4).low) (Nat.le_refl _) (by have h1 := unhide HGG; have h2 := (unhide HZ4).low; omega) (unhide HPW u4 (unhide HZ4).below))
  go_wp2_with fail
  refine (unhide CW).mono ?_
  rintro e u5 ⟨t1, rfl, ht1, b1⟩
  have HZ5 := hide ((unhide HZ4).later b1)
  have HT1 := hide ht1
  obtain ⟨n5, hn5⟩ : ∃ n, u5.heap.size = n := ⟨_, rfl⟩
  have HN5 : Hid (n4 ≤ n5) := hide (by have h1 := b1.size; have h2 := unhide HU4; omega)
  have HU5 := hide hn5
  clear b1 ht1 CW HZ4 HU4 hn5 c0 c1 c2 c3 c4
  obtain ⟨c0, c1, c2, c3, c4⟩ := row_cell ((unhide HZ5).box _ (memAt (i := 1) rfl))
  have CW := copyQ_any r _ u5.heap.size u5 (((unhide HZ5).lent _ (memAt (i := 0) rfl)).1.isV ((unhide HZ5).val _ (memAt (i := 0) rfl)) ((unhide HZ5).lent _ (memAt (i := 0) rfl)).2 (unhide HZ5).low) (Nat.le_refl _)
  rw [unhide HEQ] at CW
  have CW := hide CW
  go_wp2_with fail
  refine (unhide CW).mono ?_
  rintro e u7 ⟨x', rfl, b1, q1⟩
  obtain ⟨yy0, yy1, yy2, yy3, yy4, yy5, yy6, yy7, yy8, rfl⟩ := shape9 q1.1
  obtain ⟨n7, hn7⟩ : ∃ n, u7.heap.size = n := ⟨_, rfl⟩
  have HN7 : Hid (n5 ≤ n7) := hide (by have h1 := b1.size; have h2 := unhide HU5; omega)
  have hZ := ((((unhide HZ5).later b1).addQ (lo := n5) (hi := n7) (by rw [← unhide HU5, ← hn7]; exact q1) (by omega)).make #[.int .i64 yy0, .int .i64 yy1, .string yy2, .slice yy3 yy4 yy5, .slice yy6 yy7 yy8])
  rw [hn7] at hZ
  have HZ8 := hide hZ
  have HS : Hid ((u7.alloc (.cells #[.int .i64 yy0, .int .i64 yy1, .string yy2, .slice yy3 yy4 yy5, .slice yy6 yy7 yy8] 25)).heap.size = n7 + 1) := hide (by rw [← hn7]; simp)
  clear hZ b1 q1 CW HZ5 c0 c1 c2 c3 c4
  go_upto_region 6 with fail
  try rw [hn7]
  obtain ⟨u8, hu8⟩ : ∃ u, u7.alloc (.cells #[.int .i64 yy0, .int .i64 yy1, .string yy2, .slice yy3 yy4 yy5, .slice yy6 yy7 yy8] 25) = u := ⟨_, rfl⟩
  rw [hu8] at HZ8 HS
  try rw [hu8]
  clear hu8 hn7 HU5
  obtain ⟨n8, hn8⟩ : ∃ n, u8.heap.size = n := ⟨_, rfl⟩
  have HN8 : Hid (n8 = n7 + 1) := hide (by rw [← hn8]; exact unhide HS)
  have HU8 := hide hn8
  clear HS hn8
  have HO : Hid (g + 1 ≤ n0 ∧ n0 ≤ n1 ∧ n2 = n1 + 1 ∧ n2 ≤ n3 ∧ n4 = n3 + 1 ∧ n4 ≤ n5 ∧ n5 ≤ n7 ∧ n8 = n7 + 1) := hide ⟨unhide HN0, unhide HN1, unhide HN2, unhide HN3, unhide HN4, unhide HN5, unhide HN7, unhide HN8⟩
  clear HN0 HN1 HN2 HN3 HN4 HN5 HN7 HN8 HU8
  obtain ⟨c0, c1, c2, c3, c4⟩ := row_cell ((unhide HZ8).box _ (memAt (i := 0) rfl))
  have CW := hide (spoil_any (dep VA) _ (fun b => n5 ≤ b ∧ b < n7) u8 ((unhide HZ8).own _ (memAt (i := 0) rfl)).1.2 (fun b hb => Nat.lt_of_lt_of_le hb.2 ((unhide HZ8).own _ (memAt (i := 0) rfl)).2))
  go_wp2_with fail
  refine (unhide CW).mono ?_
  rintro e t0 ⟨rfl, b1⟩
  have HW0 := hide ((unhide HZ8).wipe (QS' := [(n2, n3, VA, .agg #[.int .i64 yx0, .int .i64 yx1, .string yx2, .slice yx3 yx4 yx5, .slice yx6 yx7 yx8])]) b1 (by have := unhide HO; omega)
    (fun p hp => by
      have := unhide HO
      simp only [List.mem_cons, List.not_mem_nil, or_false] at hp
      rcases hp with rfl | rfl | rfl | rfl <;> (simp only []; omega))
    (fun q hq => by
      have := unhide HO
      simp only [List.mem_cons, List.not_mem_nil, or_false] at hq
      rcases hq with rfl <;> (simp only []; omega))
    (fun q hq => by
      have := unhide HO
      simp only [List.mem_cons, List.not_mem_nil, or_false] at hq
      rcases hq with rfl <;> exact ⟨by simp, by simp only []; omega⟩))
  clear b1 CW HZ8 c0 c1 c2 c3 c4
  obtain ⟨c0, c1, c2, c3, c4⟩ := row_cell ((unhide HW0).box _ (memAt (i := 2) rfl))
  obtain ⟨d0, d1, d2, d3, d4⟩ := row_cell ((unhide HW0).box _ (memAt (i := 3) rfl))
  have CW := hide (still_both r _ _ _ _ g t0 ((unhide HW0).lent _ (memAt (i := 0) rfl)).1 ((unhide HW0).val _ (memAt (i := 0) rfl)) (unhide HW0).low ((unhide HW0).lent _ (memAt (i := 0) rfl)).2)
  go_wp2_with fail
  refine (unhide CW).mono ?_
  rintro e v0 ⟨rfl, b1⟩
  have HY0 := hide ((unhide HW0).later b1)
  clear b1 CW HW0 c0 c1 c2 c3 c4 d0 d1 d2 d3 d4
  have HK : Hid (∀ u, Below v0.heap.size v0 u → (u.cell? ⟨g, 0, none⟩ = some (.int .i64 yr0) ∧ u.cell? ⟨g, 1, none⟩ = some (.int .i64 yr1) ∧ u.cell? ⟨g, 2, none⟩ = some (.string yr2) ∧ u.cell? ⟨g, 3, none⟩ = some (.slice yr3 yr4 yr5) ∧ u.cell? ⟨g, 4, none⟩ = some (.slice yr6 yr7 yr8)) ∧ (u.cell? ⟨n3, 0, none⟩ = some (.int .i64 yx0) ∧ u.cell? ⟨n3, 1, none⟩ = some (.int .i64 yx1) ∧ u.cell? ⟨n3, 2, none⟩ = some (.string yx2) ∧ u.cell? ⟨n3, 3, none⟩ = some (.slice yx3 yx4 yx5) ∧ u.cell? ⟨n3, 4, none⟩ = some (.slice yx6 yx7 yx8))) := hide (fun u hu => by
    have h := (unhide HY0).later hu
    exact ⟨row_cell (h.box _ (memAt (i := 3) rfl)), row_cell (h.box _ (memAt (i := 1) rfl))⟩)
  have D1 : Hid (∀ u, Below v0.heap.size v0 u → _) := hide (fun u (hu : Below v0.heap.size v0 u) => printD_any r _ g u (((unhide HY0).later hu).val _ (memAt (i := 0) rfl)) ((unhide HY0).later hu).low)
  have D2 : Hid (∀ u, Below v0.heap.size v0 u → _) := hide (fun u (hu : Below v0.heap.size v0 u) => copyDQ_any r _ g u (((unhide HY0).later hu).val _ (memAt (i := 0) rfl)) ((unhide HY0).later hu).low)
  rw [unhide HEQ] at D2
  have D3 : Hid (∀ u x, Below v0.heap.size v0 u → IsV u u.heap.size VA x → _) := hide (fun u x (hu : Below v0.heap.size v0 u) (hx : IsV u u.heap.size VA x) => same3_any (dep VA) VA VA _ x u.heap.size u (Nat.le_refl _) ((((unhide HY0).later hu).own _ (memAt (i := 0) rfl)).1.isV (B := u.heap.size) (fun b hb => by have h1 := (((unhide HY0).later hu).own _ (memAt (i := 0) rfl)).2; have h2 := hb.2; exact Nat.lt_of_lt_of_le h2 h1)) hx (Nat.le_refl _))
  rw [(sameB_iff VA VA).2 rfl] at D3
  have hgv : g < v0.heap.size := lt_of_row ((unhide HY0).box _ (memAt (i := 3) rfl))
  have hnv : n3 < v0.heap.size := lt_of_row ((unhide HY0).box _ (memAt (i := 1) rfl))
  have HBV := hide (unhide HY0).below
  go_upto_region 8 with fail
  clear HY0
  go_region_held (fun w' => Below v0.heap.size v0 w' ∧ (w'.cell? ⟨g, 0, none⟩ = some (.int .i64 yr0) ∧ w'.cell? ⟨g, 1, none⟩ = some (.int .i64 yr1) ∧ w'.cell? ⟨g, 2, none⟩ = some (.string yr2) ∧ w'.cell? ⟨g, 3, none⟩ = some (.slice yr3 yr4 yr5) ∧ w'.cell? ⟨g, 4, none⟩ = some (.slice yr6 yr7 yr8)) ∧ (w'.cell? ⟨n3, 0, none⟩ = some (.int .i64 yx0) ∧ w'.cell? ⟨n3, 1, none⟩ = some (.int .i64 yx1) ∧ w'.cell? ⟨n3, 2, none⟩ = some (.string yx2) ∧ w'.cell? ⟨n3, 3, none⟩ = some (.slice yx3 yx4 yx5) ∧ w'.cell? ⟨n3, 4, none⟩ = some (.slice yx6 yx7 yx8)))
    (first | assumption | exact ⟨(Below.refl _ _).drew, unhide HK _ (Below.refl _ _).drew⟩ | (refine keepV HK (And.left (by assumption)) (by assumption); done) | (refine keepV HK ?_ ?_ <;> assumption))
    (first | (go_at_call 11; refine (unhide D1 _ (And.left (by assumption))).mono ?_; rintro e w6 ⟨t2, rfl, ht2, hb6⟩; obtain rfl : t2 = t1 := text_eq (ht2.trans (unhide HT1).symm)) | (go_at_call 13; refine (unhide D2 _ (And.left (by assumption))).mono ?_; rintro e w7 ⟨x7, rfl, hb7, hx7⟩) | (go_at_call 12; refine (unhide D3 _ _ (And.left (by assumption)) hx7).mono ?_; rintro e w8 ⟨rfl, hb8⟩))
  have B8 : Hid (Below g w w8) := hide ((unhide HBV).trans ((And.left (by assumption) : Below v0.heap.size v0 w8).mono (by omega)))
  go_wp2_with fail
  go_ret
  exact ⟨by simp, by rw [(unhide HG).1]; exact unhide B8⟩
end Go.Proofs.YtfbpaeddfonfbaaDoor
