/-
  Whole numbers go round: by nothing; conditions: the package's variables.
-/
import Derived.Test.YtghegjmmgcnabaaGreatDoorPM9
import Derived.Deep.Cut
namespace Go.Proofs.YtghegjmmgcnabaaGreatDoor
open Go.RowKit
set_option linter.unusedVariables false
set_option linter.unusedSimpArgs false

set_option maxRecDepth 100000 in
set_option maxHeartbeats 16000000 in
theorem walk_zero (a b : Int) (ha : -9223372036854775808 ≤ a ∧ a ≤ 9223372036854775807) (hb : -9223372036854775808 ≤ b ∧ b ≤ 9223372036854775807) (w : World) (ht : Tab w) (hb0 : b = 0) :
    Calls Tryz.prog 8 #[.int .i64 a, .int .i64 b] w fun e w' => e = .returned (.bool true) ∧ Below w.heap.size w w' := by
  subst hb0
  have HT : Hid (∀ u, Below w.heap.size w u → Tab u) := hide (fun u hu => ht.later hu ht.big hu.size)
  have CS := hide (shown_any w ht)
  obtain ⟨sq, hsq⟩ : ∃ x, wrap64 (a - 0) = x := ⟨_, rfl⟩
  obtain ⟨kq, hkq⟩ : ∃ x, wrap64 (sq + 0) = x := ⟨_, rfl⟩
  obtain ⟨nq, hnq⟩ : ∃ x, wrap64 (-a) = x := ⟨_, rfl⟩
  obtain ⟨mq, hmq⟩ : ∃ x, wrap64 (-nq) = x := ⟨_, rfl⟩
  have HBd : Hid ((-9223372036854775808 ≤ a ∧ a ≤ 9223372036854775807) ∧ (-9223372036854775808 ≤ (0 : Int) ∧ (0 : Int) ≤ 9223372036854775807) ∧ (-9223372036854775808 ≤ sq ∧ sq ≤ 9223372036854775807) ∧ (-9223372036854775808 ≤ nq ∧ nq ≤ 9223372036854775807)) := hide ⟨ha, hb, by rw [← hsq]; exact wr64 _, by rw [← hnq]; exact wr64 _⟩
  have CDv : Hid (∀ u g, Below w.heap.size w u → u.heap[g]? = some (.cells #[.int .i64 2, .int .i64 (a), .string ⟨#[]⟩, .slice none 0 0, .slice none 0 0, .int .i64 2, .int .i64 (0), .string ⟨#[]⟩, .slice none 0 0, .slice none 0 0] 25 (0, 0)) → Calls Tryz.prog 12 #[.int .i64 13, .agg #[.int .i64 0, .int .i64 0, .string ⟨#[]⟩, .slice none 0 0, .slice none 0 0], .slice (some ⟨g, 0, none⟩) 2 2] u fun e w' => e = .returned (.tuple #[.agg #[.int .i64 0, .int .i64 0, .string ⟨#[]⟩, .slice none 0 0, .slice none 0 0], .int .i64 1]) ∧ Below u.heap.size u w') := hide (fun u g hu hr => by
    have := do_div0 a 0 g 0 25 u (unhide HT u hu) hr ⟨ha, hb⟩ rfl
    exact this)
  have CRm : Hid (∀ u g, Below w.heap.size w u → u.heap[g]? = some (.cells #[.int .i64 2, .int .i64 (a), .string ⟨#[]⟩, .slice none 0 0, .slice none 0 0, .int .i64 2, .int .i64 (0), .string ⟨#[]⟩, .slice none 0 0, .slice none 0 0] 25 (0, 0)) → Calls Tryz.prog 12 #[.int .i64 14, .agg #[.int .i64 0, .int .i64 0, .string ⟨#[]⟩, .slice none 0 0, .slice none 0 0], .slice (some ⟨g, 0, none⟩) 2 2] u fun e w' => e = .returned (.tuple #[.agg #[.int .i64 0, .int .i64 0, .string ⟨#[]⟩, .slice none 0 0, .slice none 0 0], .int .i64 1]) ∧ Below u.heap.size u w') := hide (fun u g hu hr => by
    have := do_rem0 a 0 g 0 25 u (unhide HT u hu) hr ⟨ha, hb⟩ rfl
    exact this)
  have CSb : Hid (∀ u g, Below w.heap.size w u → u.heap[g]? = some (.cells #[.int .i64 2, .int .i64 (a), .string ⟨#[]⟩, .slice none 0 0, .slice none 0 0, .int .i64 2, .int .i64 (0), .string ⟨#[]⟩, .slice none 0 0, .slice none 0 0] 25 (0, 0)) → Calls Tryz.prog 12 #[.int .i64 11, .agg #[.int .i64 0, .int .i64 0, .string ⟨#[]⟩, .slice none 0 0, .slice none 0 0], .slice (some ⟨g, 0, none⟩) 2 2] u fun e w' => e = .returned (.tuple #[.agg #[.int .i64 2, .int .i64 (sq), .string ⟨#[]⟩, .slice none 0 0, .slice none 0 0], .int .i64 0]) ∧ Below u.heap.size u w') := hide (fun u g hu hr => by
    have := do_sub a 0 g 0 25 u (unhide HT u hu) hr ⟨ha, hb⟩
    rw [wrap_is, hsq] at this
    exact this)
  have CA1 : Hid (∀ u g, Below w.heap.size w u → u.heap[g]? = some (.cells #[.int .i64 2, .int .i64 (sq), .string ⟨#[]⟩, .slice none 0 0, .slice none 0 0, .int .i64 2, .int .i64 (0), .string ⟨#[]⟩, .slice none 0 0, .slice none 0 0] 25 (0, 0)) → Calls Tryz.prog 12 #[.int .i64 10, .agg #[.int .i64 0, .int .i64 0, .string ⟨#[]⟩, .slice none 0 0, .slice none 0 0], .slice (some ⟨g, 0, none⟩) 2 2] u fun e w' => e = .returned (.tuple #[.agg #[.int .i64 2, .int .i64 (kq), .string ⟨#[]⟩, .slice none 0 0, .slice none 0 0], .int .i64 0]) ∧ Below u.heap.size u w') := hide (fun u g hu hr => by
    have := do_add sq 0 g 0 25 u (unhide HT u hu) hr ⟨(unhide HBd).2.2.1, hb⟩
    rw [hkq] at this
    exact this)
  have CN1 : Hid (∀ u g, Below w.heap.size w u → u.heap[g]? = some (.cells #[.int .i64 2, .int .i64 (a), .string ⟨#[]⟩, .slice none 0 0, .slice none 0 0, .int .i64 2, .int .i64 (0), .string ⟨#[]⟩, .slice none 0 0, .slice none 0 0] 25 (0, 0)) → Calls Tryz.prog 12 #[.int .i64 15, .agg #[.int .i64 0, .int .i64 0, .string ⟨#[]⟩, .slice none 0 0, .slice none 0 0], .slice (some ⟨g, 0, none⟩) 1 2] u fun e w' => e = .returned (.tuple #[.agg #[.int .i64 2, .int .i64 (nq), .string ⟨#[]⟩, .slice none 0 0, .slice none 0 0], .int .i64 0]) ∧ Below u.heap.size u w') := hide (fun u g hu hr => by
    have := do_neg a 0 g 2 25 u (unhide HT u hu) _ hr (fun j v hv => by
      have hj : j < 5 := (List.getElem?_eq_some_iff.1 hv).1
      rcases (show j = 0 ∨ j = 1 ∨ j = 2 ∨ j = 3 ∨ j = 4 by omega) with rfl | rfl | rfl | rfl | rfl <;> simpa using hv) (by omega) ha
    rw [hnq] at this
    exact this)
  have CN2 : Hid (∀ u g, Below w.heap.size w u → u.heap[g]? = some (.cells #[.int .i64 2, .int .i64 (nq), .string ⟨#[]⟩, .slice none 0 0, .slice none 0 0] 25 (0, 0)) → Calls Tryz.prog 12 #[.int .i64 15, .agg #[.int .i64 0, .int .i64 0, .string ⟨#[]⟩, .slice none 0 0, .slice none 0 0], .slice (some ⟨g, 0, none⟩) 1 1] u fun e w' => e = .returned (.tuple #[.agg #[.int .i64 2, .int .i64 (mq), .string ⟨#[]⟩, .slice none 0 0, .slice none 0 0], .int .i64 0]) ∧ Below u.heap.size u w') := hide (fun u g hu hr => by
    have := do_neg nq 0 g 1 25 u (unhide HT u hu) _ hr (fun j v hv => by simpa using hv) (by omega) (unhide HBd).2.2.2
    rw [hmq] at this
    exact this)
  clear ht hsq hkq hnq hmq ha hb
  go_enter Tryz.func8, Tryz.ntmps8
  go_wp2_with fail
  refine (unhide CS).mono ?_
  rintro e u1 ⟨rfl, d1⟩
  have D1 := hide d1
  have C1 := hide (lawnum_any a u1)
  clear d1 CS
  go_wp2_with fail
  refine (unhide C1).mono ?_
  rintro e u2 ⟨rfl, d2⟩
  have D2 := hide ((unhide D1).trans (d2.mono (unhide D1).size))
  have C2 := hide (lawnum_any 0 u2)
  clear d2 C1 D1
  go_wp2_with fail
  refine (unhide C2).mono ?_
  rintro e u3 ⟨rfl, d3⟩
  have D3 := hide ((unhide D2).trans (d3.mono (unhide D2).size))
  clear d3 C2 D2
  obtain ⟨gl, hgl⟩ : ∃ g, u3.heap.size = g := ⟨_, rfl⟩
  obtain ⟨u4, hu4⟩ : ∃ u, u3.alloc (.cells #[.int .i64 2, .int .i64 (a), .string ⟨#[]⟩, .slice none 0 0, .slice none 0 0, .int .i64 2, .int .i64 (0), .string ⟨#[]⟩, .slice none 0 0, .slice none 0 0] 25) = u := ⟨_, rfl⟩
  have Ngl : Hid (u4.heap[gl]? = some (.cells #[.int .i64 2, .int .i64 (a), .string ⟨#[]⟩, .slice none 0 0, .slice none 0 0, .int .i64 2, .int .i64 (0), .string ⟨#[]⟩, .slice none 0 0, .slice none 0 0] 25 (0, 0))) := hide (by rw [← hu4, ← hgl]; exact heap_alloc_new u3 _)
  have dB : Below u3.heap.size u3 u4 := by rw [← hu4]; exact (Below.refl _ _).alloc (Nat.le_refl _) _
  have D4 : Hid (Below w.heap.size w u4) := hide ((unhide D3).trans (dB.mono (unhide D3).size))
  have C4 := hide (unhide CDv u4 gl (unhide D4) (unhide Ngl))
  clear dB D3
  go_wp2_with fail
  refine (unhide C4).mono ?_
  rintro e u5 ⟨rfl, d5⟩
  have D5 : Hid (Below w.heap.size w u5) := hide ((unhide D4).trans (d5.mono (unhide D4).size))
  have L5 : Hid (u5.heap[gl]? = some (.cells #[.int .i64 2, .int .i64 (a), .string ⟨#[]⟩, .slice none 0 0, .slice none 0 0, .int .i64 2, .int .i64 (0), .string ⟨#[]⟩, .slice none 0 0, .slice none 0 0] 25 (0, 0))) := hide ((d5.block gl (Array.getElem?_eq_some_iff.1 (unhide Ngl)).1).trans (unhide Ngl))
  clear d5 C4 hgl hu4 Ngl D4
  go_upto_region 4 with fail
  obtain ⟨g7, hg7⟩ : ∃ g, u5.heap.size = g := ⟨_, rfl⟩
  obtain ⟨u6, hu6⟩ : ∃ u, u5.alloc (.cells #[.int .i64 0, .int .i64 0, .string ⟨#[]⟩, .slice none 0 0, .slice none 0 0] 25) = u := ⟨_, rfl⟩
  have Ng7 : Hid (u6.heap[g7]? = some (.cells #[.int .i64 0, .int .i64 0, .string ⟨#[]⟩, .slice none 0 0, .slice none 0 0] 25 (0, 0))) := hide (by rw [← hu6, ← hg7]; exact heap_alloc_new u5 _)
  have dB : Below u5.heap.size u5 u6 := by rw [← hu6]; exact (Below.refl _ _).alloc (Nat.le_refl _) _
  try rw [hu6]
  try rw [hg7]
  have D6 : Hid (Below w.heap.size w u6) := hide ((unhide D5).trans (dB.mono (unhide D5).size))
  have L6 : Hid (u6.heap[gl]? = some (.cells #[.int .i64 2, .int .i64 (a), .string ⟨#[]⟩, .slice none 0 0, .slice none 0 0, .int .i64 2, .int .i64 (0), .string ⟨#[]⟩, .slice none 0 0, .slice none 0 0] 25 (0, 0))) := hide ((dB.block gl (Array.getElem?_eq_some_iff.1 (unhide L5)).1).trans (unhide L5))
  have C6 := hide (unhide CRm u6 gl (unhide D6) (unhide L6))
  clear dB D5 L5 hg7 hu6
  go_wp2_with fail
  refine (unhide C6).mono ?_
  rintro e u7 ⟨rfl, d7⟩
  have D7 : Hid (Below w.heap.size w u7) := hide ((unhide D6).trans (d7.mono (unhide D6).size))
  have L7 : Hid (u7.heap[gl]? = some (.cells #[.int .i64 2, .int .i64 (a), .string ⟨#[]⟩, .slice none 0 0, .slice none 0 0, .int .i64 2, .int .i64 (0), .string ⟨#[]⟩, .slice none 0 0, .slice none 0 0] 25 (0, 0)) ∧ u7.heap[g7]? = some (.cells #[.int .i64 0, .int .i64 0, .string ⟨#[]⟩, .slice none 0 0, .slice none 0 0] 25 (0, 0))) := hide ⟨(d7.block gl (Array.getElem?_eq_some_iff.1 (unhide L6)).1).trans (unhide L6), (d7.block g7 (Array.getElem?_eq_some_iff.1 (unhide Ng7)).1).trans (unhide Ng7)⟩
  clear d7 C6 Ng7 D6 L6
  go_upto_region 5 with fail
  obtain ⟨g9, hg9⟩ : ∃ g, u7.heap.size = g := ⟨_, rfl⟩
  obtain ⟨u8, hu8⟩ : ∃ u, u7.alloc (.cells #[.int .i64 0, .int .i64 0, .string ⟨#[]⟩, .slice none 0 0, .slice none 0 0] 25) = u := ⟨_, rfl⟩
  have Ng9 : Hid (u8.heap[g9]? = some (.cells #[.int .i64 0, .int .i64 0, .string ⟨#[]⟩, .slice none 0 0, .slice none 0 0] 25 (0, 0))) := hide (by rw [← hu8, ← hg9]; exact heap_alloc_new u7 _)
  have dB : Below u7.heap.size u7 u8 := by rw [← hu8]; exact (Below.refl _ _).alloc (Nat.le_refl _) _
  try rw [hu8]
  try rw [hg9]
  have D8 : Hid (Below w.heap.size w u8) := hide ((unhide D7).trans (dB.mono (unhide D7).size))
  have L8 : Hid (u8.heap[gl]? = some (.cells #[.int .i64 2, .int .i64 (a), .string ⟨#[]⟩, .slice none 0 0, .slice none 0 0, .int .i64 2, .int .i64 (0), .string ⟨#[]⟩, .slice none 0 0, .slice none 0 0] 25 (0, 0)) ∧ u8.heap[g7]? = some (.cells #[.int .i64 0, .int .i64 0, .string ⟨#[]⟩, .slice none 0 0, .slice none 0 0] 25 (0, 0))) := hide ⟨(dB.block gl (Array.getElem?_eq_some_iff.1 (unhide L7).1).1).trans (unhide L7).1, (dB.block g7 (Array.getElem?_eq_some_iff.1 (unhide L7).2).1).trans (unhide L7).2⟩
  have C8 := hide (unhide CSb u8 gl (unhide D8) (unhide L8).1)
  clear dB D7 L7 hg9 hu8
  go_wp2_with fail
  refine (unhide C8).mono ?_
  rintro e u9 ⟨rfl, d9⟩
  have D9 : Hid (Below w.heap.size w u9) := hide ((unhide D8).trans (d9.mono (unhide D8).size))
  have L9 : Hid (u9.heap[gl]? = some (.cells #[.int .i64 2, .int .i64 (a), .string ⟨#[]⟩, .slice none 0 0, .slice none 0 0, .int .i64 2, .int .i64 (0), .string ⟨#[]⟩, .slice none 0 0, .slice none 0 0] 25 (0, 0)) ∧ u9.heap[g7]? = some (.cells #[.int .i64 0, .int .i64 0, .string ⟨#[]⟩, .slice none 0 0, .slice none 0 0] 25 (0, 0)) ∧ u9.heap[g9]? = some (.cells #[.int .i64 0, .int .i64 0, .string ⟨#[]⟩, .slice none 0 0, .slice none 0 0] 25 (0, 0))) := hide ⟨(d9.block gl (Array.getElem?_eq_some_iff.1 (unhide L8).1).1).trans (unhide L8).1, (d9.block g7 (Array.getElem?_eq_some_iff.1 (unhide L8).2).1).trans (unhide L8).2, (d9.block g9 (Array.getElem?_eq_some_iff.1 (unhide Ng9)).1).trans (unhide Ng9)⟩
  clear d9 C8 Ng9 D8 L8
  go_upto_region 6 with fail
  obtain ⟨g11, hg11⟩ : ∃ g, u9.heap.size = g := ⟨_, rfl⟩
  obtain ⟨vv, hvv⟩ : ∃ u, u9.alloc (.cells #[.int .i64 2, .int .i64 (sq), .string ⟨#[]⟩, .slice none 0 0, .slice none 0 0] 25) = u := ⟨_, rfl⟩
  have Ng11 : Hid (vv.heap[g11]? = some (.cells #[.int .i64 2, .int .i64 (sq), .string ⟨#[]⟩, .slice none 0 0, .slice none 0 0] 25 (0, 0))) := hide (by rw [← hvv, ← hg11]; exact heap_alloc_new u9 _)
  have dB : Below u9.heap.size u9 vv := by rw [← hvv]; exact (Below.refl _ _).alloc (Nat.le_refl _) _
  try rw [hvv]
  try rw [hg11]
  have DV : Hid (Below w.heap.size w vv) := hide ((unhide D9).trans (dB.mono (unhide D9).size))
  have LV : Hid (vv.heap[gl]? = some (.cells #[.int .i64 2, .int .i64 (a), .string ⟨#[]⟩, .slice none 0 0, .slice none 0 0, .int .i64 2, .int .i64 (0), .string ⟨#[]⟩, .slice none 0 0, .slice none 0 0] 25 (0, 0)) ∧ vv.heap[g7]? = some (.cells #[.int .i64 0, .int .i64 0, .string ⟨#[]⟩, .slice none 0 0, .slice none 0 0] 25 (0, 0)) ∧ vv.heap[g9]? = some (.cells #[.int .i64 0, .int .i64 0, .string ⟨#[]⟩, .slice none 0 0, .slice none 0 0] 25 (0, 0))) := hide ⟨(dB.block gl (Array.getElem?_eq_some_iff.1 (unhide L9).1).1).trans (unhide L9).1, (dB.block g7 (Array.getElem?_eq_some_iff.1 (unhide L9).2.1).1).trans (unhide L9).2.1, (dB.block g9 (Array.getElem?_eq_some_iff.1 (unhide L9).2.2).1).trans (unhide L9).2.2⟩
  have HVV : Hid (vv.cell? ⟨g11, 0, none⟩ = some (.int .i64 2) ∧ vv.cell? ⟨g11, 1, none⟩ = some (.int .i64 (sq)) ∧ vv.cell? ⟨g11, 2, none⟩ = some (.string ⟨#[]⟩) ∧ vv.cell? ⟨g11, 3, none⟩ = some (.slice none 0 0) ∧ vv.cell? ⟨g11, 4, none⟩ = some (.slice none 0 0)) := hide (block5 (unhide Ng11))
  have HBL : Hid (g11 < vv.heap.size) := hide (Array.getElem?_eq_some_iff.1 (unhide Ng11)).1
  clear dB D9 L9 hvv hg11
  go_cut [13, 14] from 48 to 56 (fun r13 r14 wx => ∃ g, r13 = .pointer (some ⟨g, 0, none⟩) ∧ r14 = .int .i64 0 ∧ Hid (wx.heap[g]? = some (.cells #[.int .i64 2, .int .i64 (kq), .string ⟨#[]⟩, .slice none 0 0, .slice none 0 0] 25 (0, 0)) ∧ Below vv.heap.size vv wx))
  case first =>
    have HS0 : Hid (vv.drew.cell? ⟨g11, 0, none⟩ = some (.int .i64 2) ∧ vv.drew.cell? ⟨g11, 1, none⟩ = some (.int .i64 (sq)) ∧ vv.drew.cell? ⟨g11, 2, none⟩ = some (.string ⟨#[]⟩) ∧ vv.drew.cell? ⟨g11, 3, none⟩ = some (.slice none 0 0) ∧ vv.drew.cell? ⟨g11, 4, none⟩ = some (.slice none 0 0)) := hide (unhide HVV)
    refine till_begin (S := fun w' => w'.cell? ⟨g11, 0, none⟩ = some (.int .i64 2) ∧ w'.cell? ⟨g11, 1, none⟩ = some (.int .i64 (sq)) ∧ w'.cell? ⟨g11, 2, none⟩ = some (.string ⟨#[]⟩) ∧ w'.cell? ⟨g11, 3, none⟩ = some (.slice none 0 0) ∧ w'.cell? ⟨g11, 4, none⟩ = some (.slice none 0 0)) 11 (by kernel_rfl) ?_
    refine till_take 0 (v := .agg #[.int .i64 0, .int .i64 0, .string ⟨#[]⟩, .slice none 0 0, .slice none 0 0]) (some 49) rfl rfl rfl (by kernel_rfl) (by kernel_rfl) (by kernel_rfl) (by kernel_rfl) (fun _ _ _ h => h) (Or.inl ⟨by rfl, fun u hu => by obtain ⟨b0, b1, b2, b3, b4⟩ := hu; go_simp⟩) (unhide HS0) ?_
    try simp only [Act.put, List.setIfInBounds_toArray, List.set_cons_zero, List.set_cons_succ]
    refine till_take 1 (v := .agg #[.int .i64 2, .int .i64 (sq), .string ⟨#[]⟩, .slice none 0 0, .slice none 0 0]) (some 50) rfl rfl rfl (by kernel_rfl) (by kernel_rfl) (by kernel_rfl) (by kernel_rfl) (fun _ _ _ h => h) (Or.inl ⟨by rfl, fun u hu => by obtain ⟨b0, b1, b2, b3, b4⟩ := hu; go_simp⟩) (unhide HS0) ?_
    try simp only [Act.put, List.setIfInBounds_toArray, List.set_cons_zero, List.set_cons_succ]
    refine till_take 2 (v := .int .i64 0) (some 51) rfl rfl rfl (by kernel_rfl) (by kernel_rfl) (by kernel_rfl) (by kernel_rfl) (fun _ _ _ h => h) (Or.inl ⟨by rfl, fun u hu => by obtain ⟨b0, b1, b2, b3, b4⟩ := hu; go_simp⟩) (unhide HS0) ?_
    try simp only [Act.put, List.setIfInBounds_toArray, List.set_cons_zero, List.set_cons_succ]
    obtain ⟨W0, hW0⟩ : ∃ W0, vv.drew = W0 := ⟨_, rfl⟩
    have HY0 : Hid (Below vv.heap.size vv W0) := hide (by rw [← hW0]; exact below_drew_of' (Below.refl _ _))
    try rw [hW0]
    rw [hW0] at HS0
    clear hW0
    refine till_two 3 9 (by kernel_rfl) rfl rfl (fun K hK => ?_) (fun K hK => ?_)
    · go_simp
      refine (lawnum_any _ _).mono ?_
      rintro e W1 ⟨rfl, dd⟩
      have HS1 : Hid (W1.cell? ⟨g11, 0, none⟩ = some (.int .i64 2) ∧ W1.cell? ⟨g11, 1, none⟩ = some (.int .i64 (sq)) ∧ W1.cell? ⟨g11, 2, none⟩ = some (.string ⟨#[]⟩) ∧ W1.cell? ⟨g11, 3, none⟩ = some (.slice none 0 0) ∧ W1.cell? ⟨g11, 4, none⟩ = some (.slice none 0 0)) := hide ⟨cell_later dd ((unhide HS0).1), cell_later dd ((unhide HS0).2.1), cell_later dd ((unhide HS0).2.2.1), cell_later dd ((unhide HS0).2.2.2.1), cell_later dd ((unhide HS0).2.2.2.2)⟩
      have HY1 : Hid (Below vv.heap.size vv W1) := hide ((unhide HY0).trans (dd.mono (unhide HY0).size))
      clear dd
      go_wp2_with fail
      refine hK.out _ _ (Or.inr (unhide HS1)) ?_
      clear hK K HS0 HY0
      try simp only [Act.put, List.setIfInBounds_toArray, List.set_cons_zero, List.set_cons_succ]
      refine till_two 4 9 (by kernel_rfl) rfl rfl (fun K hK => ?_) (fun K hK => ?_)
      · go_simp
        obtain ⟨W2, hW2⟩ : ∃ W, W1.alloc (.cells #[.int .i64 2, .int .i64 (sq), .string ⟨#[]⟩, .slice none 0 0, .slice none 0 0, .int .i64 2, .int .i64 (0), .string ⟨#[]⟩, .slice none 0 0, .slice none 0 0] 25) = W := ⟨_, rfl⟩
        obtain ⟨gs, hgs⟩ : ∃ gs, W1.heap.size = gs := ⟨_, rfl⟩
        have dd : Below W1.heap.size W1 W2 := by rw [← hW2]; exact (Below.refl _ _).alloc (Nat.le_refl _) _
        have HG2 : Hid (W2.heap[gs]? = some (.cells #[.int .i64 2, .int .i64 (sq), .string ⟨#[]⟩, .slice none 0 0, .slice none 0 0, .int .i64 2, .int .i64 (0), .string ⟨#[]⟩, .slice none 0 0, .slice none 0 0] 25 (0, 0))) := hide (by rw [← hW2, ← hgs]; exact heap_alloc_new W1 _)
        try rw [hW2]
        try rw [hgs]
        have HS2 : Hid (W2.cell? ⟨g11, 0, none⟩ = some (.int .i64 2) ∧ W2.cell? ⟨g11, 1, none⟩ = some (.int .i64 (sq)) ∧ W2.cell? ⟨g11, 2, none⟩ = some (.string ⟨#[]⟩) ∧ W2.cell? ⟨g11, 3, none⟩ = some (.slice none 0 0) ∧ W2.cell? ⟨g11, 4, none⟩ = some (.slice none 0 0)) := hide ⟨cell_later dd ((unhide HS1).1), cell_later dd ((unhide HS1).2.1), cell_later dd ((unhide HS1).2.2.1), cell_later dd ((unhide HS1).2.2.2.1), cell_later dd ((unhide HS1).2.2.2.2)⟩
        have HY2 : Hid (Below vv.heap.size vv W2) := hide ((unhide HY1).trans (dd.mono (unhide HY1).size))
        refine hK.out _ _ (Or.inr (unhide HS2)) ?_
        clear hK K HS1 HY1 dd hW2 hgs
        try simp only [Act.put, List.setIfInBounds_toArray, List.set_cons_zero, List.set_cons_succ]
        refine till_two 5 9 (by kernel_rfl) rfl rfl (fun K hK => ?_) (fun K hK => ?_)
        · go_simp
          refine (unhide CA1 W2 gs ((unhide DV).trans ((unhide HY2).mono (unhide DV).size)) (unhide HG2)).mono ?_
          rintro e W3 ⟨rfl, dd⟩
          have HS3 : Hid (W3.cell? ⟨g11, 0, none⟩ = some (.int .i64 2) ∧ W3.cell? ⟨g11, 1, none⟩ = some (.int .i64 (sq)) ∧ W3.cell? ⟨g11, 2, none⟩ = some (.string ⟨#[]⟩) ∧ W3.cell? ⟨g11, 3, none⟩ = some (.slice none 0 0) ∧ W3.cell? ⟨g11, 4, none⟩ = some (.slice none 0 0)) := hide ⟨cell_later dd ((unhide HS2).1), cell_later dd ((unhide HS2).2.1), cell_later dd ((unhide HS2).2.2.1), cell_later dd ((unhide HS2).2.2.2.1), cell_later dd ((unhide HS2).2.2.2.2)⟩
          have HY3 : Hid (Below vv.heap.size vv W3) := hide ((unhide HY2).trans (dd.mono (unhide HY2).size))
          clear dd
          go_wp2_with fail
          refine hK.out _ _ (Or.inr (unhide HS3)) ?_
          clear hK K HS2 HY2 HG2
          try simp only [Act.put, List.setIfInBounds_toArray, List.set_cons_zero, List.set_cons_succ]
          refine till_take 6 (v := .tuple #[.agg #[.int .i64 2, .int .i64 (kq), .string ⟨#[]⟩, .slice none 0 0, .slice none 0 0], .int .i64 0]) (some 48) rfl rfl rfl (by kernel_rfl) (by kernel_rfl) (by kernel_rfl) (by kernel_rfl) (fun _ _ _ h => h) (Or.inl ⟨by rfl, fun u hu => by obtain ⟨b0, b1, b2, b3, b4⟩ := hu; go_simp⟩) (unhide HS3) ?_
          try simp only [Act.put, List.setIfInBounds_toArray, List.set_cons_zero, List.set_cons_succ]
          refine till_take 7 (v := .agg #[.int .i64 2, .int .i64 (kq), .string ⟨#[]⟩, .slice none 0 0, .slice none 0 0]) (some 55) rfl rfl rfl (by kernel_rfl) (by kernel_rfl) (by kernel_rfl) (by kernel_rfl) (fun _ _ _ h => h) (Or.inl ⟨by rfl, fun u hu => by obtain ⟨b0, b1, b2, b3, b4⟩ := hu; go_simp⟩) (unhide HS3) ?_
          try simp only [Act.put, List.setIfInBounds_toArray, List.set_cons_zero, List.set_cons_succ]
          refine till_take 8 (v := .int .i64 0) (some 56) rfl rfl rfl (by kernel_rfl) (by kernel_rfl) (by kernel_rfl) (by kernel_rfl) (fun _ _ _ h => h) (Or.inl ⟨by rfl, fun u hu => by obtain ⟨b0, b1, b2, b3, b4⟩ := hu; go_simp⟩) (unhide HS3) ?_
          try simp only [Act.put, List.setIfInBounds_toArray, List.set_cons_zero, List.set_cons_succ]
          refine till_one 9 (by kernel_rfl) rfl (fun K hK => ?_)
          go_simp
          obtain ⟨W4, hW4⟩ : ∃ W, W3.alloc (.cells #[.int .i64 0, .int .i64 0, .string ⟨#[]⟩, .slice none 0 0, .slice none 0 0] 25) = W := ⟨_, rfl⟩
          obtain ⟨bx, hbx⟩ : ∃ bx, W3.heap.size = bx := ⟨_, rfl⟩
          have dd : Below W3.heap.size W3 W4 := by rw [← hW4]; exact (Below.refl _ _).alloc (Nat.le_refl _) _
          have HX4 : Hid (W4.heap[bx]? = some (.cells #[.int .i64 0, .int .i64 0, .string ⟨#[]⟩, .slice none 0 0, .slice none 0 0] 25 (0, 0))) := hide (by rw [← hW4, ← hbx]; exact heap_alloc_new W3 _)
          have HBX : Hid (vv.heap.size ≤ bx) := hide (by rw [← hbx]; exact (unhide HY3).size)
          try rw [hW4]
          try rw [hbx]
          have HS4 : Hid (W4.cell? ⟨g11, 0, none⟩ = some (.int .i64 2) ∧ W4.cell? ⟨g11, 1, none⟩ = some (.int .i64 (sq)) ∧ W4.cell? ⟨g11, 2, none⟩ = some (.string ⟨#[]⟩) ∧ W4.cell? ⟨g11, 3, none⟩ = some (.slice none 0 0) ∧ W4.cell? ⟨g11, 4, none⟩ = some (.slice none 0 0)) := hide ⟨cell_later dd ((unhide HS3).1), cell_later dd ((unhide HS3).2.1), cell_later dd ((unhide HS3).2.2.1), cell_later dd ((unhide HS3).2.2.2.1), cell_later dd ((unhide HS3).2.2.2.2)⟩
          have HY4 : Hid (Below vv.heap.size vv W4) := hide ((unhide HY3).trans (dd.mono (unhide HY3).size))
          refine hK.out _ _ (Or.inr (unhide HS4)) ?_
          clear hK K HS3 HY3 dd hW4 hbx
          try simp only [Act.put, List.setIfInBounds_toArray, List.set_cons_zero, List.set_cons_succ]
          obtain ⟨c0, c1, c2, c3, c4⟩ := block5 (unhide HX4)
          have f0 := frozen_of_row W4 bx 0 _ _ (unhide HX4)
          have f1 := frozen_of_row W4 bx 1 _ _ (unhide HX4)
          have f2 := frozen_of_row W4 bx 2 _ _ (unhide HX4)
          have f3 := frozen_of_row W4 bx 3 _ _ (unhide HX4)
          have f4 := frozen_of_row W4 bx 4 _ _ (unhide HX4)
          obtain ⟨W5, hW5⟩ : ∃ W, (((((W4.setCell ⟨bx, 0, none⟩ (.int .i64 2)).setCell ⟨bx, 1, none⟩ (.int .i64 (kq))).setCell ⟨bx, 2, none⟩ (.string ⟨#[]⟩)).setCell ⟨bx, 3, none⟩ (.slice none 0 0)).setCell ⟨bx, 4, none⟩ (.slice none 0 0)) = W := ⟨_, rfl⟩
          have HM5 : Hid (W5.heap[bx]? = some (.cells #[.int .i64 2, .int .i64 (kq), .string ⟨#[]⟩, .slice none 0 0, .slice none 0 0] 25 (0, 0)) ∧ Below vv.heap.size vv W5) := hide ⟨by rw [← hW5]; exact set5P (unhide HX4) _ _ _ _ _, by rw [← hW5]; exact set5P_below (unhide HY4) (unhide HBX) _ _ _ _ _⟩
          have HS5 : Hid (W5.cell? ⟨g11, 0, none⟩ = some (.int .i64 2) ∧ W5.cell? ⟨g11, 1, none⟩ = some (.int .i64 (sq)) ∧ W5.cell? ⟨g11, 2, none⟩ = some (.string ⟨#[]⟩) ∧ W5.cell? ⟨g11, 3, none⟩ = some (.slice none 0 0) ∧ W5.cell? ⟨g11, 4, none⟩ = some (.slice none 0 0)) := hide (by
            have hlt := unhide HBL
            have hY := (unhide HM5).2
            exact ⟨(hY.cell (p := ⟨g11, 0, none⟩) hlt).trans ((unhide HVV).1), (hY.cell (p := ⟨g11, 1, none⟩) hlt).trans ((unhide HVV).2.1), (hY.cell (p := ⟨g11, 2, none⟩) hlt).trans ((unhide HVV).2.2.1), (hY.cell (p := ⟨g11, 3, none⟩) hlt).trans ((unhide HVV).2.2.2.1), (hY.cell (p := ⟨g11, 4, none⟩) hlt).trans ((unhide HVV).2.2.2.2)⟩)
          refine till_one 10 (by kernel_rfl) rfl (fun K hK => ?_)
          go_simp
          try rw [hW5]
          refine hK.out _ _ (Or.inr (unhide HS5)) ?_
          clear hK K HS4 HY4 HX4 c0 c1 c2 c3 c4 f0 f1 f2 f3 f4 hW5
          try simp only [Act.put, List.setIfInBounds_toArray, List.set_cons_zero, List.set_cons_succ]
          refine till_one 11 (by kernel_rfl) rfl (fun K hK => ?_)
          go_simp
          refine hK.out _ _ (Or.inl (by first | rfl | trivial)) ?_
          clear hK K HS5
          try simp only [Act.put, List.setIfInBounds_toArray, List.set_cons_zero, List.set_cons_succ]
          refine till_done (by kernel_rfl) ?_ _
          go_wp2_with fail
          go_meet
          exact ⟨bx, rfl, rfl, HM5⟩
        · go_simp
          obtain ⟨W3, hW3⟩ : ∃ W, W2.alloc (.cells #[.int .i64 0, .int .i64 0, .string ⟨#[]⟩, .slice none 0 0, .slice none 0 0] 25) = W := ⟨_, rfl⟩
          obtain ⟨bx, hbx⟩ : ∃ bx, W2.heap.size = bx := ⟨_, rfl⟩
          have dd : Below W2.heap.size W2 W3 := by rw [← hW3]; exact (Below.refl _ _).alloc (Nat.le_refl _) _
          have HX3 : Hid (W3.heap[bx]? = some (.cells #[.int .i64 0, .int .i64 0, .string ⟨#[]⟩, .slice none 0 0, .slice none 0 0] 25 (0, 0))) := hide (by rw [← hW3, ← hbx]; exact heap_alloc_new W2 _)
          have HBX : Hid (vv.heap.size ≤ bx) := hide (by rw [← hbx]; exact (unhide HY2).size)
          try rw [hW3]
          try rw [hbx]
          have HS3 : Hid (W3.cell? ⟨g11, 0, none⟩ = some (.int .i64 2) ∧ W3.cell? ⟨g11, 1, none⟩ = some (.int .i64 (sq)) ∧ W3.cell? ⟨g11, 2, none⟩ = some (.string ⟨#[]⟩) ∧ W3.cell? ⟨g11, 3, none⟩ = some (.slice none 0 0) ∧ W3.cell? ⟨g11, 4, none⟩ = some (.slice none 0 0)) := hide ⟨cell_later dd ((unhide HS2).1), cell_later dd ((unhide HS2).2.1), cell_later dd ((unhide HS2).2.2.1), cell_later dd ((unhide HS2).2.2.2.1), cell_later dd ((unhide HS2).2.2.2.2)⟩
          have HY3 : Hid (Below vv.heap.size vv W3) := hide ((unhide HY2).trans (dd.mono (unhide HY2).size))
          have HG3 : Hid (W3.heap[gs]? = some (.cells #[.int .i64 2, .int .i64 (sq), .string ⟨#[]⟩, .slice none 0 0, .slice none 0 0, .int .i64 2, .int .i64 (0), .string ⟨#[]⟩, .slice none 0 0, .slice none 0 0] 25 (0, 0))) := hide ((dd.block gs (Array.getElem?_eq_some_iff.1 (unhide HG2)).1).trans (unhide HG2))
          refine hK.out _ _ (Or.inr (unhide HS3)) ?_
          clear hK K HS2 HY2 HG2 dd hW3 hbx
          try simp only [Act.put, List.setIfInBounds_toArray, List.set_cons_zero, List.set_cons_succ]
          refine till_one 5 (by kernel_rfl) rfl (fun K hK => ?_)
          go_simp
          refine (unhide CA1 W3 gs ((unhide DV).trans ((unhide HY3).mono (unhide DV).size)) (unhide HG3)).mono ?_
          rintro e W4 ⟨rfl, dd⟩
          have HS4 : Hid (W4.cell? ⟨g11, 0, none⟩ = some (.int .i64 2) ∧ W4.cell? ⟨g11, 1, none⟩ = some (.int .i64 (sq)) ∧ W4.cell? ⟨g11, 2, none⟩ = some (.string ⟨#[]⟩) ∧ W4.cell? ⟨g11, 3, none⟩ = some (.slice none 0 0) ∧ W4.cell? ⟨g11, 4, none⟩ = some (.slice none 0 0)) := hide ⟨cell_later dd ((unhide HS3).1), cell_later dd ((unhide HS3).2.1), cell_later dd ((unhide HS3).2.2.1), cell_later dd ((unhide HS3).2.2.2.1), cell_later dd ((unhide HS3).2.2.2.2)⟩
          have HY4 : Hid (Below vv.heap.size vv W4) := hide ((unhide HY3).trans (dd.mono (unhide HY3).size))
          have HX4 : Hid (W4.heap[bx]? = some (.cells #[.int .i64 0, .int .i64 0, .string ⟨#[]⟩, .slice none 0 0, .slice none 0 0] 25 (0, 0))) := hide ((dd.block bx (Array.getElem?_eq_some_iff.1 (unhide HX3)).1).trans (unhide HX3))
          clear dd
          go_wp2_with fail
          refine hK.out _ _ (Or.inr (unhide HS4)) ?_
          clear hK K HS3 HY3 HX3 HG3
          try simp only [Act.put, List.setIfInBounds_toArray, List.set_cons_zero, List.set_cons_succ]
          refine till_take 6 (v := .tuple #[.agg #[.int .i64 2, .int .i64 (kq), .string ⟨#[]⟩, .slice none 0 0, .slice none 0 0], .int .i64 0]) (some 48) rfl rfl rfl (by kernel_rfl) (by kernel_rfl) (by kernel_rfl) (by kernel_rfl) (fun _ _ _ h => h) (Or.inl ⟨by rfl, fun u hu => by obtain ⟨b0, b1, b2, b3, b4⟩ := hu; go_simp⟩) (unhide HS4) ?_
          try simp only [Act.put, List.setIfInBounds_toArray, List.set_cons_zero, List.set_cons_succ]
          refine till_take 7 (v := .agg #[.int .i64 2, .int .i64 (kq), .string ⟨#[]⟩, .slice none 0 0, .slice none 0 0]) (some 55) rfl rfl rfl (by kernel_rfl) (by kernel_rfl) (by kernel_rfl) (by kernel_rfl) (fun _ _ _ h => h) (Or.inl ⟨by rfl, fun u hu => by obtain ⟨b0, b1, b2, b3, b4⟩ := hu; go_simp⟩) (unhide HS4) ?_
          try simp only [Act.put, List.setIfInBounds_toArray, List.set_cons_zero, List.set_cons_succ]
          refine till_take 8 (v := .int .i64 0) (some 56) rfl rfl rfl (by kernel_rfl) (by kernel_rfl) (by kernel_rfl) (by kernel_rfl) (fun _ _ _ h => h) (Or.inl ⟨by rfl, fun u hu => by obtain ⟨b0, b1, b2, b3, b4⟩ := hu; go_simp⟩) (unhide HS4) ?_
          try simp only [Act.put, List.setIfInBounds_toArray, List.set_cons_zero, List.set_cons_succ]
          obtain ⟨c0, c1, c2, c3, c4⟩ := block5 (unhide HX4)
          have f0 := frozen_of_row W4 bx 0 _ _ (unhide HX4)
          have f1 := frozen_of_row W4 bx 1 _ _ (unhide HX4)
          have f2 := frozen_of_row W4 bx 2 _ _ (unhide HX4)
          have f3 := frozen_of_row W4 bx 3 _ _ (unhide HX4)
          have f4 := frozen_of_row W4 bx 4 _ _ (unhide HX4)
          obtain ⟨W5, hW5⟩ : ∃ W, (((((W4.setCell ⟨bx, 0, none⟩ (.int .i64 2)).setCell ⟨bx, 1, none⟩ (.int .i64 (kq))).setCell ⟨bx, 2, none⟩ (.string ⟨#[]⟩)).setCell ⟨bx, 3, none⟩ (.slice none 0 0)).setCell ⟨bx, 4, none⟩ (.slice none 0 0)) = W := ⟨_, rfl⟩
          have HM5 : Hid (W5.heap[bx]? = some (.cells #[.int .i64 2, .int .i64 (kq), .string ⟨#[]⟩, .slice none 0 0, .slice none 0 0] 25 (0, 0)) ∧ Below vv.heap.size vv W5) := hide ⟨by rw [← hW5]; exact set5P (unhide HX4) _ _ _ _ _, by rw [← hW5]; exact set5P_below (unhide HY4) (unhide HBX) _ _ _ _ _⟩
          have HS5 : Hid (W5.cell? ⟨g11, 0, none⟩ = some (.int .i64 2) ∧ W5.cell? ⟨g11, 1, none⟩ = some (.int .i64 (sq)) ∧ W5.cell? ⟨g11, 2, none⟩ = some (.string ⟨#[]⟩) ∧ W5.cell? ⟨g11, 3, none⟩ = some (.slice none 0 0) ∧ W5.cell? ⟨g11, 4, none⟩ = some (.slice none 0 0)) := hide (by
            have hlt := unhide HBL
            have hY := (unhide HM5).2
            exact ⟨(hY.cell (p := ⟨g11, 0, none⟩) hlt).trans ((unhide HVV).1), (hY.cell (p := ⟨g11, 1, none⟩) hlt).trans ((unhide HVV).2.1), (hY.cell (p := ⟨g11, 2, none⟩) hlt).trans ((unhide HVV).2.2.1), (hY.cell (p := ⟨g11, 3, none⟩) hlt).trans ((unhide HVV).2.2.2.1), (hY.cell (p := ⟨g11, 4, none⟩) hlt).trans ((unhide HVV).2.2.2.2)⟩)
          refine till_one 10 (by kernel_rfl) rfl (fun K hK => ?_)
          go_simp
          try rw [hW5]
          refine hK.out _ _ (Or.inr (unhide HS5)) ?_
          clear hK K HS4 HY4 HX4 c0 c1 c2 c3 c4 f0 f1 f2 f3 f4 hW5
          try simp only [Act.put, List.setIfInBounds_toArray, List.set_cons_zero, List.set_cons_succ]
          refine till_one 11 (by kernel_rfl) rfl (fun K hK => ?_)
          go_simp
          refine hK.out _ _ (Or.inl (by first | rfl | trivial)) ?_
          clear hK K HS5
          try simp only [Act.put, List.setIfInBounds_toArray, List.set_cons_zero, List.set_cons_succ]
          refine till_done (by kernel_rfl) ?_ _
          go_wp2_with fail
          go_meet
          exact ⟨bx, rfl, rfl, HM5⟩
      · go_simp
        obtain ⟨W2, hW2⟩ : ∃ W, W1.alloc (.cells #[.int .i64 0, .int .i64 0, .string ⟨#[]⟩, .slice none 0 0, .slice none 0 0] 25) = W := ⟨_, rfl⟩
        obtain ⟨bx, hbx⟩ : ∃ bx, W1.heap.size = bx := ⟨_, rfl⟩
        have dd : Below W1.heap.size W1 W2 := by rw [← hW2]; exact (Below.refl _ _).alloc (Nat.le_refl _) _
        have HX2 : Hid (W2.heap[bx]? = some (.cells #[.int .i64 0, .int .i64 0, .string ⟨#[]⟩, .slice none 0 0, .slice none 0 0] 25 (0, 0))) := hide (by rw [← hW2, ← hbx]; exact heap_alloc_new W1 _)
        have HBX : Hid (vv.heap.size ≤ bx) := hide (by rw [← hbx]; exact (unhide HY1).size)
        try rw [hW2]
        try rw [hbx]
        have HS2 : Hid (W2.cell? ⟨g11, 0, none⟩ = some (.int .i64 2) ∧ W2.cell? ⟨g11, 1, none⟩ = some (.int .i64 (sq)) ∧ W2.cell? ⟨g11, 2, none⟩ = some (.string ⟨#[]⟩) ∧ W2.cell? ⟨g11, 3, none⟩ = some (.slice none 0 0) ∧ W2.cell? ⟨g11, 4, none⟩ = some (.slice none 0 0)) := hide ⟨cell_later dd ((unhide HS1).1), cell_later dd ((unhide HS1).2.1), cell_later dd ((unhide HS1).2.2.1), cell_later dd ((unhide HS1).2.2.2.1), cell_later dd ((unhide HS1).2.2.2.2)⟩
        have HY2 : Hid (Below vv.heap.size vv W2) := hide ((unhide HY1).trans (dd.mono (unhide HY1).size))
        refine hK.out _ _ (Or.inr (unhide HS2)) ?_
        clear hK K HS1 HY1 dd hW2 hbx
        try simp only [Act.put, List.setIfInBounds_toArray, List.set_cons_zero, List.set_cons_succ]
        refine till_one 4 (by kernel_rfl) rfl (fun K hK => ?_)
        go_simp
        obtain ⟨W3, hW3⟩ : ∃ W, W2.alloc (.cells #[.int .i64 2, .int .i64 (sq), .string ⟨#[]⟩, .slice none 0 0, .slice none 0 0, .int .i64 2, .int .i64 (0), .string ⟨#[]⟩, .slice none 0 0, .slice none 0 0] 25) = W := ⟨_, rfl⟩
        obtain ⟨gs, hgs⟩ : ∃ gs, W2.heap.size = gs := ⟨_, rfl⟩
        have dd : Below W2.heap.size W2 W3 := by rw [← hW3]; exact (Below.refl _ _).alloc (Nat.le_refl _) _
        have HG3 : Hid (W3.heap[gs]? = some (.cells #[.int .i64 2, .int .i64 (sq), .string ⟨#[]⟩, .slice none 0 0, .slice none 0 0, .int .i64 2, .int .i64 (0), .string ⟨#[]⟩, .slice none 0 0, .slice none 0 0] 25 (0, 0))) := hide (by rw [← hW3, ← hgs]; exact heap_alloc_new W2 _)
        try rw [hW3]
        try rw [hgs]
        have HS3 : Hid (W3.cell? ⟨g11, 0, none⟩ = some (.int .i64 2) ∧ W3.cell? ⟨g11, 1, none⟩ = some (.int .i64 (sq)) ∧ W3.cell? ⟨g11, 2, none⟩ = some (.string ⟨#[]⟩) ∧ W3.cell? ⟨g11, 3, none⟩ = some (.slice none 0 0) ∧ W3.cell? ⟨g11, 4, none⟩ = some (.slice none 0 0)) := hide ⟨cell_later dd ((unhide HS2).1), cell_later dd ((unhide HS2).2.1), cell_later dd ((unhide HS2).2.2.1), cell_later dd ((unhide HS2).2.2.2.1), cell_later dd ((unhide HS2).2.2.2.2)⟩
        have HY3 : Hid (Below vv.heap.size vv W3) := hide ((unhide HY2).trans (dd.mono (unhide HY2).size))
        have HX3 : Hid (W3.heap[bx]? = some (.cells #[.int .i64 0, .int .i64 0, .string ⟨#[]⟩, .slice none 0 0, .slice none 0 0] 25 (0, 0))) := hide ((dd.block bx (Array.getElem?_eq_some_iff.1 (unhide HX2)).1).trans (unhide HX2))
        refine hK.out _ _ (Or.inr (unhide HS3)) ?_
        clear hK K HS2 HY2 HX2 dd hW3 hgs
        try simp only [Act.put, List.setIfInBounds_toArray, List.set_cons_zero, List.set_cons_succ]
        refine till_one 5 (by kernel_rfl) rfl (fun K hK => ?_)
        go_simp
        refine (unhide CA1 W3 gs ((unhide DV).trans ((unhide HY3).mono (unhide DV).size)) (unhide HG3)).mono ?_
        rintro e W4 ⟨rfl, dd⟩
        have HS4 : Hid (W4.cell? ⟨g11, 0, none⟩ = some (.int .i64 2) ∧ W4.cell? ⟨g11, 1, none⟩ = some (.int .i64 (sq)) ∧ W4.cell? ⟨g11, 2, none⟩ = some (.string ⟨#[]⟩) ∧ W4.cell? ⟨g11, 3, none⟩ = some (.slice none 0 0) ∧ W4.cell? ⟨g11, 4, none⟩ = some (.slice none 0 0)) := hide ⟨cell_later dd ((unhide HS3).1), cell_later dd ((unhide HS3).2.1), cell_later dd ((unhide HS3).2.2.1), cell_later dd ((unhide HS3).2.2.2.1), cell_later dd ((unhide HS3).2.2.2.2)⟩
        have HY4 : Hid (Below vv.heap.size vv W4) := hide ((unhide HY3).trans (dd.mono (unhide HY3).size))
        have HX4 : Hid (W4.heap[bx]? = some (.cells #[.int .i64 0, .int .i64 0, .string ⟨#[]⟩, .slice none 0 0, .slice none 0 0] 25 (0, 0))) := hide ((dd.block bx (Array.getElem?_eq_some_iff.1 (unhide HX3)).1).trans (unhide HX3))
        clear dd
        go_wp2_with fail
        refine hK.out _ _ (Or.inr (unhide HS4)) ?_
        clear hK K HS3 HY3 HX3 HG3
        try simp only [Act.put, List.setIfInBounds_toArray, List.set_cons_zero, List.set_cons_succ]
        refine till_take 6 (v := .tuple #[.agg #[.int .i64 2, .int .i64 (kq), .string ⟨#[]⟩, .slice none 0 0, .slice none 0 0], .int .i64 0]) (some 48) rfl rfl rfl (by kernel_rfl) (by kernel_rfl) (by kernel_rfl) (by kernel_rfl) (fun _ _ _ h => h) (Or.inl ⟨by rfl, fun u hu => by obtain ⟨b0, b1, b2, b3, b4⟩ := hu; go_simp⟩) (unhide HS4) ?_
        try simp only [Act.put, List.setIfInBounds_toArray, List.set_cons_zero, List.set_cons_succ]
        refine till_take 7 (v := .agg #[.int .i64 2, .int .i64 (kq), .string ⟨#[]⟩, .slice none 0 0, .slice none 0 0]) (some 55) rfl rfl rfl (by kernel_rfl) (by kernel_rfl) (by kernel_rfl) (by kernel_rfl) (fun _ _ _ h => h) (Or.inl ⟨by rfl, fun u hu => by obtain ⟨b0, b1, b2, b3, b4⟩ := hu; go_simp⟩) (unhide HS4) ?_
        try simp only [Act.put, List.setIfInBounds_toArray, List.set_cons_zero, List.set_cons_succ]
        refine till_take 8 (v := .int .i64 0) (some 56) rfl rfl rfl (by kernel_rfl) (by kernel_rfl) (by kernel_rfl) (by kernel_rfl) (fun _ _ _ h => h) (Or.inl ⟨by rfl, fun u hu => by obtain ⟨b0, b1, b2, b3, b4⟩ := hu; go_simp⟩) (unhide HS4) ?_
        try simp only [Act.put, List.setIfInBounds_toArray, List.set_cons_zero, List.set_cons_succ]
        obtain ⟨c0, c1, c2, c3, c4⟩ := block5 (unhide HX4)
        have f0 := frozen_of_row W4 bx 0 _ _ (unhide HX4)
        have f1 := frozen_of_row W4 bx 1 _ _ (unhide HX4)
        have f2 := frozen_of_row W4 bx 2 _ _ (unhide HX4)
        have f3 := frozen_of_row W4 bx 3 _ _ (unhide HX4)
        have f4 := frozen_of_row W4 bx 4 _ _ (unhide HX4)
        obtain ⟨W5, hW5⟩ : ∃ W, (((((W4.setCell ⟨bx, 0, none⟩ (.int .i64 2)).setCell ⟨bx, 1, none⟩ (.int .i64 (kq))).setCell ⟨bx, 2, none⟩ (.string ⟨#[]⟩)).setCell ⟨bx, 3, none⟩ (.slice none 0 0)).setCell ⟨bx, 4, none⟩ (.slice none 0 0)) = W := ⟨_, rfl⟩
        have HM5 : Hid (W5.heap[bx]? = some (.cells #[.int .i64 2, .int .i64 (kq), .string ⟨#[]⟩, .slice none 0 0, .slice none 0 0] 25 (0, 0)) ∧ Below vv.heap.size vv W5) := hide ⟨by rw [← hW5]; exact set5P (unhide HX4) _ _ _ _ _, by rw [← hW5]; exact set5P_below (unhide HY4) (unhide HBX) _ _ _ _ _⟩
        have HS5 : Hid (W5.cell? ⟨g11, 0, none⟩ = some (.int .i64 2) ∧ W5.cell? ⟨g11, 1, none⟩ = some (.int .i64 (sq)) ∧ W5.cell? ⟨g11, 2, none⟩ = some (.string ⟨#[]⟩) ∧ W5.cell? ⟨g11, 3, none⟩ = some (.slice none 0 0) ∧ W5.cell? ⟨g11, 4, none⟩ = some (.slice none 0 0)) := hide (by
          have hlt := unhide HBL
          have hY := (unhide HM5).2
          exact ⟨(hY.cell (p := ⟨g11, 0, none⟩) hlt).trans ((unhide HVV).1), (hY.cell (p := ⟨g11, 1, none⟩) hlt).trans ((unhide HVV).2.1), (hY.cell (p := ⟨g11, 2, none⟩) hlt).trans ((unhide HVV).2.2.1), (hY.cell (p := ⟨g11, 3, none⟩) hlt).trans ((unhide HVV).2.2.2.1), (hY.cell (p := ⟨g11, 4, none⟩) hlt).trans ((unhide HVV).2.2.2.2)⟩)
        refine till_one 10 (by kernel_rfl) rfl (fun K hK => ?_)
        go_simp
        try rw [hW5]
        refine hK.out _ _ (Or.inr (unhide HS5)) ?_
        clear hK K HS4 HY4 HX4 c0 c1 c2 c3 c4 f0 f1 f2 f3 f4 hW5
        try simp only [Act.put, List.setIfInBounds_toArray, List.set_cons_zero, List.set_cons_succ]
        refine till_one 11 (by kernel_rfl) rfl (fun K hK => ?_)
        go_simp
        refine hK.out _ _ (Or.inl (by first | rfl | trivial)) ?_
        clear hK K HS5
        try simp only [Act.put, List.setIfInBounds_toArray, List.set_cons_zero, List.set_cons_succ]
        refine till_done (by kernel_rfl) ?_ _
        go_wp2_with fail
        go_meet
        exact ⟨bx, rfl, rfl, HM5⟩
    · go_simp
      obtain ⟨W1, hW1⟩ : ∃ W, W0.alloc (.cells #[.int .i64 0, .int .i64 0, .string ⟨#[]⟩, .slice none 0 0, .slice none 0 0] 25) = W := ⟨_, rfl⟩
      obtain ⟨bx, hbx⟩ : ∃ bx, W0.heap.size = bx := ⟨_, rfl⟩
      have dd : Below W0.heap.size W0 W1 := by rw [← hW1]; exact (Below.refl _ _).alloc (Nat.le_refl _) _
      have HX1 : Hid (W1.heap[bx]? = some (.cells #[.int .i64 0, .int .i64 0, .string ⟨#[]⟩, .slice none 0 0, .slice none 0 0] 25 (0, 0))) := hide (by rw [← hW1, ← hbx]; exact heap_alloc_new W0 _)
      have HBX : Hid (vv.heap.size ≤ bx) := hide (by rw [← hbx]; exact (unhide HY0).size)
      try rw [hW1]
      try rw [hbx]
      have HS1 : Hid (W1.cell? ⟨g11, 0, none⟩ = some (.int .i64 2) ∧ W1.cell? ⟨g11, 1, none⟩ = some (.int .i64 (sq)) ∧ W1.cell? ⟨g11, 2, none⟩ = some (.string ⟨#[]⟩) ∧ W1.cell? ⟨g11, 3, none⟩ = some (.slice none 0 0) ∧ W1.cell? ⟨g11, 4, none⟩ = some (.slice none 0 0)) := hide ⟨cell_later dd ((unhide HS0).1), cell_later dd ((unhide HS0).2.1), cell_later dd ((unhide HS0).2.2.1), cell_later dd ((unhide HS0).2.2.2.1), cell_later dd ((unhide HS0).2.2.2.2)⟩
      have HY1 : Hid (Below vv.heap.size vv W1) := hide ((unhide HY0).trans (dd.mono (unhide HY0).size))
      refine hK.out _ _ (Or.inr (unhide HS1)) ?_
      clear hK K HS0 HY0 dd hW1 hbx
      try simp only [Act.put, List.setIfInBounds_toArray, List.set_cons_zero, List.set_cons_succ]
      refine till_one 3 (by kernel_rfl) rfl (fun K hK => ?_)
      go_simp
      refine (lawnum_any _ _).mono ?_
      rintro e W2 ⟨rfl, dd⟩
      have HS2 : Hid (W2.cell? ⟨g11, 0, none⟩ = some (.int .i64 2) ∧ W2.cell? ⟨g11, 1, none⟩ = some (.int .i64 (sq)) ∧ W2.cell? ⟨g11, 2, none⟩ = some (.string ⟨#[]⟩) ∧ W2.cell? ⟨g11, 3, none⟩ = some (.slice none 0 0) ∧ W2.cell? ⟨g11, 4, none⟩ = some (.slice none 0 0)) := hide ⟨cell_later dd ((unhide HS1).1), cell_later dd ((unhide HS1).2.1), cell_later dd ((unhide HS1).2.2.1), cell_later dd ((unhide HS1).2.2.2.1), cell_later dd ((unhide HS1).2.2.2.2)⟩
      have HY2 : Hid (Below vv.heap.size vv W2) := hide ((unhide HY1).trans (dd.mono (unhide HY1).size))
      have HX2 : Hid (W2.heap[bx]? = some (.cells #[.int .i64 0, .int .i64 0, .string ⟨#[]⟩, .slice none 0 0, .slice none 0 0] 25 (0, 0))) := hide ((dd.block bx (Array.getElem?_eq_some_iff.1 (unhide HX1)).1).trans (unhide HX1))
      clear dd
      go_wp2_with fail
      refine hK.out _ _ (Or.inr (unhide HS2)) ?_
      clear hK K HS1 HY1 HX1
      try simp only [Act.put, List.setIfInBounds_toArray, List.set_cons_zero, List.set_cons_succ]
      refine till_one 4 (by kernel_rfl) rfl (fun K hK => ?_)
      go_simp
      obtain ⟨W3, hW3⟩ : ∃ W, W2.alloc (.cells #[.int .i64 2, .int .i64 (sq), .string ⟨#[]⟩, .slice none 0 0, .slice none 0 0, .int .i64 2, .int .i64 (0), .string ⟨#[]⟩, .slice none 0 0, .slice none 0 0] 25) = W := ⟨_, rfl⟩
      obtain ⟨gs, hgs⟩ : ∃ gs, W2.heap.size = gs := ⟨_, rfl⟩
      have dd : Below W2.heap.size W2 W3 := by rw [← hW3]; exact (Below.refl _ _).alloc (Nat.le_refl _) _
      have HG3 : Hid (W3.heap[gs]? = some (.cells #[.int .i64 2, .int .i64 (sq), .string ⟨#[]⟩, .slice none 0 0, .slice none 0 0, .int .i64 2, .int .i64 (0), .string ⟨#[]⟩, .slice none 0 0, .slice none 0 0] 25 (0, 0))) := hide (by rw [← hW3, ← hgs]; exact heap_alloc_new W2 _)
      try rw [hW3]
      try rw [hgs]
      have HS3 : Hid (W3.cell? ⟨g11, 0, none⟩ = some (.int .i64 2) ∧ W3.cell? ⟨g11, 1, none⟩ = some (.int .i64 (sq)) ∧ W3.cell? ⟨g11, 2, none⟩ = some (.string ⟨#[]⟩) ∧ W3.cell? ⟨g11, 3, none⟩ = some (.slice none 0 0) ∧ W3.cell? ⟨g11, 4, none⟩ = some (.slice none 0 0)) := hide ⟨cell_later dd ((unhide HS2).1), cell_later dd ((unhide HS2).2.1), cell_later dd ((unhide HS2).2.2.1), cell_later dd ((unhide HS2).2.2.2.1), cell_later dd ((unhide HS2).2.2.2.2)⟩
      have HY3 : Hid (Below vv.heap.size vv W3) := hide ((unhide HY2).trans (dd.mono (unhide HY2).size))
      have HX3 : Hid (W3.heap[bx]? = some (.cells #[.int .i64 0, .int .i64 0, .string ⟨#[]⟩, .slice none 0 0, .slice none 0 0] 25 (0, 0))) := hide ((dd.block bx (Array.getElem?_eq_some_iff.1 (unhide HX2)).1).trans (unhide HX2))
      refine hK.out _ _ (Or.inr (unhide HS3)) ?_
      clear hK K HS2 HY2 HX2 dd hW3 hgs
      try simp only [Act.put, List.setIfInBounds_toArray, List.set_cons_zero, List.set_cons_succ]
      refine till_one 5 (by kernel_rfl) rfl (fun K hK => ?_)
      go_simp
      refine (unhide CA1 W3 gs ((unhide DV).trans ((unhide HY3).mono (unhide DV).size)) (unhide HG3)).mono ?_
      rintro e W4 ⟨rfl, dd⟩
      have HS4 : Hid (W4.cell? ⟨g11, 0, none⟩ = some (.int .i64 2) ∧ W4.cell? ⟨g11, 1, none⟩ = some (.int .i64 (sq)) ∧ W4.cell? ⟨g11, 2, none⟩ = some (.string ⟨#[]⟩) ∧ W4.cell? ⟨g11, 3, none⟩ = some (.slice none 0 0) ∧ W4.cell? ⟨g11, 4, none⟩ = some (.slice none 0 0)) := hide ⟨cell_later dd ((unhide HS3).1), cell_later dd ((unhide HS3).2.1), cell_later dd ((unhide HS3).2.2.1), cell_later dd ((unhide HS3).2.2.2.1), cell_later dd ((unhide HS3).2.2.2.2)⟩
      have HY4 : Hid (Below vv.heap.size vv W4) := hide ((unhide HY3).trans (dd.mono (unhide HY3).size))
      have HX4 : Hid (W4.heap[bx]? = some (.cells #[.int .i64 0, .int .i64 0, .string ⟨#[]⟩, .slice none 0 0, .slice none 0 0] 25 (0, 0))) := hide ((dd.block bx (Array.getElem?_eq_some_iff.1 (unhide HX3)).1).trans (unhide HX3))
      clear dd
      go_wp2_with fail
      refine hK.out _ _ (Or.inr (unhide HS4)) ?_
      clear hK K HS3 HY3 HX3 HG3
      try simp only [Act.put, List.setIfInBounds_toArray, List.set_cons_zero, List.set_cons_succ]
      refine till_take 6 (v := .tuple #[.agg #[.int .i64 2, .int .i64 (kq), .string ⟨#[]⟩, .slice none 0 0, .slice none 0 0], .int .i64 0]) (some 48) rfl rfl rfl (by kernel_rfl) (by kernel_rfl) (by kernel_rfl) (by kernel_rfl) (fun _ _ _ h => h) (Or.inl ⟨by rfl, fun u hu => by obtain ⟨b0, b1, b2, b3, b4⟩ := hu; go_simp⟩) (unhide HS4) ?_
      try simp only [Act.put, List.setIfInBounds_toArray, List.set_cons_zero, List.set_cons_succ]
      refine till_take 7 (v := .agg #[.int .i64 2, .int .i64 (kq), .string ⟨#[]⟩, .slice none 0 0, .slice none 0 0]) (some 55) rfl rfl rfl (by kernel_rfl) (by kernel_rfl) (by kernel_rfl) (by kernel_rfl) (fun _ _ _ h => h) (Or.inl ⟨by rfl, fun u hu => by obtain ⟨b0, b1, b2, b3, b4⟩ := hu; go_simp⟩) (unhide HS4) ?_
      try simp only [Act.put, List.setIfInBounds_toArray, List.set_cons_zero, List.set_cons_succ]
      refine till_take 8 (v := .int .i64 0) (some 56) rfl rfl rfl (by kernel_rfl) (by kernel_rfl) (by kernel_rfl) (by kernel_rfl) (fun _ _ _ h => h) (Or.inl ⟨by rfl, fun u hu => by obtain ⟨b0, b1, b2, b3, b4⟩ := hu; go_simp⟩) (unhide HS4) ?_
      try simp only [Act.put, List.setIfInBounds_toArray, List.set_cons_zero, List.set_cons_succ]
      obtain ⟨c0, c1, c2, c3, c4⟩ := block5 (unhide HX4)
      have f0 := frozen_of_row W4 bx 0 _ _ (unhide HX4)
      have f1 := frozen_of_row W4 bx 1 _ _ (unhide HX4)
      have f2 := frozen_of_row W4 bx 2 _ _ (unhide HX4)
      have f3 := frozen_of_row W4 bx 3 _ _ (unhide HX4)
      have f4 := frozen_of_row W4 bx 4 _ _ (unhide HX4)
      obtain ⟨W5, hW5⟩ : ∃ W, (((((W4.setCell ⟨bx, 0, none⟩ (.int .i64 2)).setCell ⟨bx, 1, none⟩ (.int .i64 (kq))).setCell ⟨bx, 2, none⟩ (.string ⟨#[]⟩)).setCell ⟨bx, 3, none⟩ (.slice none 0 0)).setCell ⟨bx, 4, none⟩ (.slice none 0 0)) = W := ⟨_, rfl⟩
      have HM5 : Hid (W5.heap[bx]? = some (.cells #[.int .i64 2, .int .i64 (kq), .string ⟨#[]⟩, .slice none 0 0, .slice none 0 0] 25 (0, 0)) ∧ Below vv.heap.size vv W5) := hide ⟨by rw [← hW5]; exact set5P (unhide HX4) _ _ _ _ _, by rw [← hW5]; exact set5P_below (unhide HY4) (unhide HBX) _ _ _ _ _⟩
      have HS5 : Hid (W5.cell? ⟨g11, 0, none⟩ = some (.int .i64 2) ∧ W5.cell? ⟨g11, 1, none⟩ = some (.int .i64 (sq)) ∧ W5.cell? ⟨g11, 2, none⟩ = some (.string ⟨#[]⟩) ∧ W5.cell? ⟨g11, 3, none⟩ = some (.slice none 0 0) ∧ W5.cell? ⟨g11, 4, none⟩ = some (.slice none 0 0)) := hide (by
        have hlt := unhide HBL
        have hY := (unhide HM5).2
        exact ⟨(hY.cell (p := ⟨g11, 0, none⟩) hlt).trans ((unhide HVV).1), (hY.cell (p := ⟨g11, 1, none⟩) hlt).trans ((unhide HVV).2.1), (hY.cell (p := ⟨g11, 2, none⟩) hlt).trans ((unhide HVV).2.2.1), (hY.cell (p := ⟨g11, 3, none⟩) hlt).trans ((unhide HVV).2.2.2.1), (hY.cell (p := ⟨g11, 4, none⟩) hlt).trans ((unhide HVV).2.2.2.2)⟩)
      refine till_one 10 (by kernel_rfl) rfl (fun K hK => ?_)
      go_simp
      try rw [hW5]
      refine hK.out _ _ (Or.inr (unhide HS5)) ?_
      clear hK K HS4 HY4 HX4 c0 c1 c2 c3 c4 f0 f1 f2 f3 f4 hW5
      try simp only [Act.put, List.setIfInBounds_toArray, List.set_cons_zero, List.set_cons_succ]
      refine till_one 11 (by kernel_rfl) rfl (fun K hK => ?_)
      go_simp
      refine hK.out _ _ (Or.inl (by first | rfl | trivial)) ?_
      clear hK K HS5
      try simp only [Act.put, List.setIfInBounds_toArray, List.set_cons_zero, List.set_cons_succ]
      refine till_done (by kernel_rfl) ?_ _
      go_wp2_with fail
      go_meet
      exact ⟨bx, rfl, rfl, HM5⟩
  case rest =>
    obtain ⟨g13, rfl, rfl, HR⟩ := hcut
    have DC : Hid (Below w.heap.size w wc) := hide ((unhide DV).trans ((unhide HR).2.mono (unhide DV).size))
    have LC : Hid (wc.heap[gl]? = some (.cells #[.int .i64 2, .int .i64 (a), .string ⟨#[]⟩, .slice none 0 0, .slice none 0 0, .int .i64 2, .int .i64 (0), .string ⟨#[]⟩, .slice none 0 0, .slice none 0 0] 25 (0, 0)) ∧ wc.heap[g7]? = some (.cells #[.int .i64 0, .int .i64 0, .string ⟨#[]⟩, .slice none 0 0, .slice none 0 0] 25 (0, 0)) ∧ wc.heap[g9]? = some (.cells #[.int .i64 0, .int .i64 0, .string ⟨#[]⟩, .slice none 0 0, .slice none 0 0] 25 (0, 0)) ∧ wc.heap[g13]? = some (.cells #[.int .i64 2, .int .i64 (kq), .string ⟨#[]⟩, .slice none 0 0, .slice none 0 0] 25 (0, 0))) := hide ⟨((unhide HR).2.block gl (Array.getElem?_eq_some_iff.1 (unhide LV).1).1).trans (unhide LV).1, ((unhide HR).2.block g7 (Array.getElem?_eq_some_iff.1 (unhide LV).2.1).1).trans (unhide LV).2.1, ((unhide HR).2.block g9 (Array.getElem?_eq_some_iff.1 (unhide LV).2.2).1).trans (unhide LV).2.2, (unhide HR).1⟩
    have C10 := hide (unhide CN1 wc gl (unhide DC) (unhide LC).1)
    clear HR LV DV HVV HBL Ng11
    go_wp2_with fail
    refine (unhide C10).mono ?_
    rintro e x1 ⟨rfl, d1⟩
    have DX : Hid (Below w.heap.size w x1) := hide ((unhide DC).trans (d1.mono (unhide DC).size))
    have LX : Hid (x1.heap[g7]? = some (.cells #[.int .i64 0, .int .i64 0, .string ⟨#[]⟩, .slice none 0 0, .slice none 0 0] 25 (0, 0)) ∧ x1.heap[g9]? = some (.cells #[.int .i64 0, .int .i64 0, .string ⟨#[]⟩, .slice none 0 0, .slice none 0 0] 25 (0, 0)) ∧ x1.heap[g13]? = some (.cells #[.int .i64 2, .int .i64 (kq), .string ⟨#[]⟩, .slice none 0 0, .slice none 0 0] 25 (0, 0))) := hide ⟨(d1.block g7 (Array.getElem?_eq_some_iff.1 (unhide LC).2.1).1).trans (unhide LC).2.1, (d1.block g9 (Array.getElem?_eq_some_iff.1 (unhide LC).2.2.1).1).trans (unhide LC).2.2.1, (d1.block g13 (Array.getElem?_eq_some_iff.1 (unhide LC).2.2.2).1).trans (unhide LC).2.2.2⟩
    clear d1 C10 DC LC
    go_upto_region 8 with fail
    obtain ⟨g15, hg15⟩ : ∃ g, x1.heap.size = g := ⟨_, rfl⟩
    obtain ⟨x2, hx2⟩ : ∃ u, x1.alloc (.cells #[.int .i64 2, .int .i64 (nq), .string ⟨#[]⟩, .slice none 0 0, .slice none 0 0] 25) = u := ⟨_, rfl⟩
    have Ng15 : Hid (x2.heap[g15]? = some (.cells #[.int .i64 2, .int .i64 (nq), .string ⟨#[]⟩, .slice none 0 0, .slice none 0 0] 25 (0, 0))) := hide (by rw [← hx2, ← hg15]; exact heap_alloc_new x1 _)
    have dB : Below x1.heap.size x1 x2 := by rw [← hx2]; exact (Below.refl _ _).alloc (Nat.le_refl _) _
    try rw [hx2]
    try rw [hg15]
    clear hx2 hg15
    have DX2 : Hid (Below w.heap.size w x2) := hide ((unhide DX).trans (dB.mono (unhide DX).size))
    have LX2 : Hid (x2.heap[g7]? = some (.cells #[.int .i64 0, .int .i64 0, .string ⟨#[]⟩, .slice none 0 0, .slice none 0 0] 25 (0, 0)) ∧ x2.heap[g9]? = some (.cells #[.int .i64 0, .int .i64 0, .string ⟨#[]⟩, .slice none 0 0, .slice none 0 0] 25 (0, 0)) ∧ x2.heap[g13]? = some (.cells #[.int .i64 2, .int .i64 (kq), .string ⟨#[]⟩, .slice none 0 0, .slice none 0 0] 25 (0, 0))) := hide ⟨(dB.block g7 (Array.getElem?_eq_some_iff.1 (unhide LX).1).1).trans (unhide LX).1, (dB.block g9 (Array.getElem?_eq_some_iff.1 (unhide LX).2.1).1).trans (unhide LX).2.1, (dB.block g13 (Array.getElem?_eq_some_iff.1 (unhide LX).2.2).1).trans (unhide LX).2.2⟩
    obtain ⟨z0, z1, z2, z3, z4⟩ := block5 (unhide Ng15)
    clear dB DX LX
    obtain ⟨gk, hgk⟩ : ∃ g, x2.heap.size = g := ⟨_, rfl⟩
    obtain ⟨x3, hx3⟩ : ∃ u, x2.alloc (.cells #[.int .i64 2, .int .i64 (nq), .string ⟨#[]⟩, .slice none 0 0, .slice none 0 0] 25) = u := ⟨_, rfl⟩
    have Ngk : Hid (x3.heap[gk]? = some (.cells #[.int .i64 2, .int .i64 (nq), .string ⟨#[]⟩, .slice none 0 0, .slice none 0 0] 25 (0, 0))) := hide (by rw [← hx3, ← hgk]; exact heap_alloc_new x2 _)
    have dB : Below x2.heap.size x2 x3 := by rw [← hx3]; exact (Below.refl _ _).alloc (Nat.le_refl _) _
    have DX3 : Hid (Below w.heap.size w x3) := hide ((unhide DX2).trans (dB.mono (unhide DX2).size))
    have LX3 : Hid (x3.heap[g7]? = some (.cells #[.int .i64 0, .int .i64 0, .string ⟨#[]⟩, .slice none 0 0, .slice none 0 0] 25 (0, 0)) ∧ x3.heap[g9]? = some (.cells #[.int .i64 0, .int .i64 0, .string ⟨#[]⟩, .slice none 0 0, .slice none 0 0] 25 (0, 0)) ∧ x3.heap[g13]? = some (.cells #[.int .i64 2, .int .i64 (kq), .string ⟨#[]⟩, .slice none 0 0, .slice none 0 0] 25 (0, 0))) := hide ⟨(dB.block g7 (Array.getElem?_eq_some_iff.1 (unhide LX2).1).1).trans (unhide LX2).1, (dB.block g9 (Array.getElem?_eq_some_iff.1 (unhide LX2).2.1).1).trans (unhide LX2).2.1, (dB.block g13 (Array.getElem?_eq_some_iff.1 (unhide LX2).2.2).1).trans (unhide LX2).2.2⟩
    have C11 := hide (unhide CN2 x3 gk (unhide DX3) (unhide Ngk))
    clear dB DX2 LX2
    go_wp2_with fail
    refine (unhide C11).mono ?_
    rintro e x4 ⟨rfl, d4⟩
    have DX4 : Hid (Below w.heap.size w x4) := hide ((unhide DX3).trans (d4.mono (unhide DX3).size))
    have LX4 : Hid (x4.heap[g7]? = some (.cells #[.int .i64 0, .int .i64 0, .string ⟨#[]⟩, .slice none 0 0, .slice none 0 0] 25 (0, 0)) ∧ x4.heap[g9]? = some (.cells #[.int .i64 0, .int .i64 0, .string ⟨#[]⟩, .slice none 0 0, .slice none 0 0] 25 (0, 0)) ∧ x4.heap[g13]? = some (.cells #[.int .i64 2, .int .i64 (kq), .string ⟨#[]⟩, .slice none 0 0, .slice none 0 0] 25 (0, 0))) := hide ⟨(d4.block g7 (Array.getElem?_eq_some_iff.1 (unhide LX3).1).1).trans (unhide LX3).1, (d4.block g9 (Array.getElem?_eq_some_iff.1 (unhide LX3).2.1).1).trans (unhide LX3).2.1, (d4.block g13 (Array.getElem?_eq_some_iff.1 (unhide LX3).2.2).1).trans (unhide LX3).2.2⟩
    clear d4 C11 DX3 LX3 z0 z1 z2 z3 z4 hx3 hgk Ng15 Ngk
    go_wp2_with fail
    go_ret
    exact ⟨by simp, (unhide DX4).alloc (unhide DX4).size _⟩
end Go.Proofs.YtghegjmmgcnabaaGreatDoor
