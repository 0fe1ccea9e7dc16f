/-
  The walk of scruplelaw03.Spoil: all lists of a value are written over, and grown; conditions: the lists are the owner's own, of at most a million.
-/
import Derived.Test.YtfdnhpmldnmncaaR50
import Derived.BigQuiet
import Derived.Deep.QuietTactic
namespace Go.Proofs.Ytfdnhpmldnmncaa
open Go.RowKit
set_option linter.unusedVariables false
set_option linter.unusedSimpArgs false

set_option maxRecDepth 100000 in
theorem mark_any (w : World) : Calls Try.prog 28 #[] w fun e w' => e = .returned (.agg #[.int .i64 2, .int .i64 77, .string ⟨#[]⟩, .slice none 0 0, .slice none 0 0]) ∧ Below w.heap.size w w' := by
  have BX := Box.mk' w (.int .i64 2) (.int .i64 77) (.string ⟨#[]⟩) (.slice none 0 0) (.slice none 0 0)
  obtain ⟨c0, c1, c2, c3, c4⟩ := row_cell BX.row
  go_enter Try.func28, Try.ntmps28
  go_wp2_with fail
  refine bodyPost_ret (v := .agg #[.int .i64 2, .int .i64 77, .string ⟨#[]⟩, .slice none 0 0, .slice none 0 0]) (by simp [results, Try.results28, go_sem, c0, c1, c2, c3, c4]) rfl ?_
  exact ⟨rfl, BX.below⟩

def SpoilAt (r : Nat) : Prop := ∀ (x : Value) (Q : Nat → Prop) (w : World), Ty w Q r x → (∀ b, Q b → b < w.heap.size) →
    Calls Try.prog 17 #[x] w fun e w' => e = .returned (.tuple #[]) ∧ Wiped Q w w'

set_option maxRecDepth 100000 in
set_option maxHeartbeats 4000000 in
theorem spoil_step (r : Nat) (ih : ∀ q, r = q + 1 → SpoilAt q) : SpoilAt r := by
  intro x Q w hx hQ
  obtain ⟨k, n, t, al, ll, cl, ak, m, ck, rfl⟩ := hx.shape
  obtain ⟨w1, hw1⟩ : ∃ w1, w.alloc (.cells #[.int .i64 k, .int .i64 n, .string t, .slice al ll cl, .slice ak m ck] 51) = w1 := ⟨_, rfl⟩
  have BX := Box.mk' w (.int .i64 k) (.int .i64 n) (.string t) (.slice al ll cl) (.slice ak m ck)
  rw [hw1] at BX
  obtain ⟨g, hg⟩ : ∃ g, w.heap.size = g := ⟨_, rfl⟩
  have W01 : Wiped Q w w1 := Wiped.of_below BX.below
  have zb := BX.size
  have HT : Hid (∀ u, Wiped Q w1 u → u.heap[g]? = some (.cells #[.int .i64 k, .int .i64 n, .string t, .slice al ll cl, .slice ak m ck] 51 (0, 0)) ∧ (TyL u Q (Ty u Q (r - 1)) al ll cl ∧ TyK u Q ak m ck ∧ (r = 0 → ll = 0)) ∧ Wiped Q w u ∧ g < u.heap.size) := hide (fun u hu => by
    have h1 : u.heap[g]? = w1.heap[g]? := hu.far (by omega) (fun q => by have := hQ g q; omega)
    exact ⟨h1.trans (by rw [← hg]; exact BX.row), (Ty.wiped (W01.trans hu) _ _ hx).parts, W01.trans hu, by have := hu.size; omega⟩)
  have HQ := hide (And.intro hQ hg)
  have hbl : ll ≤ 1000000 ∧ 16 * m ≤ 140737488351232 := by
    obtain ⟨hl, hk, _⟩ := hx.parts
    constructor
    · rcases hl with ⟨_, rfl, _⟩ | ⟨_, _, _, _, _, _, _, _, h, _⟩
      · omega
      · exact h
    · rcases hk with ⟨_, rfl, _⟩ | ⟨_, _, _, _, _, _, _, _, h⟩
      · omega
      · exact h
  obtain ⟨hb1, hb2⟩ := hbl
  have HIH := hide ih
  have H1 : Hid (Wiped Q w1 w1) := hide (Wiped.refl _ _)
  have HZ := hide zb
  clear BX W01 hx hQ ih zb
  go_enter Try.func17, Try.ntmps17
  go_wp2_with fail
  go_loopw [2] (fun x wr => ∃ i : Nat, i ≤ ll ∧ x = .int .i64 i ∧ Hid (Wiped Q w1 wr)) (fun x _ => ll - (intOf x).toNat)
  case atStart => exact ⟨0, by omega, rfl, H1⟩
  case round =>
    clear H1
    obtain ⟨i, hi, rfl, HW⟩ := hrel
    obtain ⟨at0, ⟨hl, hk, h0⟩, hw, hgs⟩ := unhide HT wr (unhide HW)
    obtain ⟨c0, c1, c2, c3, c4⟩ := row_cell at0
    by_cases hlt : i < ll
    · rcases hl with ⟨_, hz, _⟩ | ⟨b, cs, rfl, hqb, hbb, hsz, hlc, hcm, _, hel⟩
      · omega
      obtain ⟨y0, y1, y2, y3, y4, ⟨q0, q1, q2, q3, q4⟩, hty⟩ := hel i hlt
      have hr0 : r ≠ 0 := fun h => by
        have := h0 h
        omega
      obtain ⟨q, hq⟩ : ∃ q, r = q + 1 := ⟨r - 1, by omega⟩
      rw [show r - 1 = q by omega] at hty
      obtain ⟨k', n', t', al', ll', cl', ak', m', ck', hs⟩ := hty.shape
      simp only [Value.agg.injEq, Array.mk.injEq, List.cons.injEq, and_true] at hs
      obtain ⟨rfl, rfl, rfl, rfl, rfl⟩ := hs
      have e0 : wr.cell? ⟨b, i * 5, none⟩ = some (.int .i64 k') := by rw [cell_of_row wr b (i * 5) cs _ (0, 0) hbb]; exact q0
      have e1 : wr.cell? ⟨b, i * 5 + 1, none⟩ = some (.int .i64 n') := by rw [cell_of_row wr b (i * 5 + 1) cs _ (0, 0) hbb]; exact q1
      have e2 : wr.cell? ⟨b, i * 5 + 2, none⟩ = some (.string t') := by rw [cell_of_row wr b (i * 5 + 2) cs _ (0, 0) hbb]; exact q2
      have e3 : wr.cell? ⟨b, i * 5 + 3, none⟩ = some (.slice al' ll' cl') := by rw [cell_of_row wr b (i * 5 + 3) cs _ (0, 0) hbb]; exact q3
      have e4 : wr.cell? ⟨b, i * 5 + 4, none⟩ = some (.slice ak' m' ck') := by rw [cell_of_row wr b (i * 5 + 4) cs _ (0, 0) hbb]; exact q4
      have CI := hide (unhide HIH q hq _ Q wr hty (fun z hz => Nat.lt_of_lt_of_le ((unhide HQ).1 z hz) hw.size))
      have i1 : (i : Int) < (ll : Int) := by omega
      have i0 : (0 : Int) ≤ (i : Int) := by omega
      have hcl : cl ≤ 9223372036854775807 := by unfold maxLen at hcm; omega
      clear hel hk h0 hw hgs at0 hq q0 q1 q2 q3 q4 hty hbb hr0 hsz
      go_wp2_with fail
      refine (unhide CI).mono ?_
      rintro e w5 ⟨rfl, h5⟩
      have HW5 := hide ((unhide HW).trans h5)
      clear h5 CI c0 c1 c2 c3 c4 e0 e1 e2 e3 e4
      go_upto_region 5 with fail
      obtain ⟨at0, ⟨hl, hk, h0⟩, hw, hgs⟩ := unhide HT w5 (unhide HW5)
      obtain ⟨c0, c1, c2, c3, c4⟩ := row_cell at0
      rcases hl with ⟨ha, _, _⟩ | ⟨b', cs, hb', hqb, hbb, hsz, hlc, hcm, _, hel⟩
      · cases ha
      cases hb'
      obtain ⟨y0, y1, y2, y3, y4, ⟨q0, q1, q2, q3, q4⟩, hty⟩ := hel i hlt
      have HBB := hide (And.intro hbb (And.intro hqb (And.intro hsz hlc)))
      have HQ5 := hide (And.intro q0 (And.intro q1 (And.intro q2 (And.intro q3 q4))))
      have hs0 : w5.drew.cell? ⟨g, 3, none⟩ = some (.slice (some ⟨b, 0, none⟩) ll cl) := c3
      clear hel hk h0 hw hgs at0 q0 q1 q2 q3 q4 hty hbb c0 c1 c2 c4 hsz
      refine till_begin (S := fun w' => w'.cell? ⟨g, 3, none⟩ = some (.slice (some ⟨b, 0, none⟩) ll cl)) 5 (by kernel_rfl) ?_
      refine till_take 0 (v := .pointer (some ⟨g, 3, none⟩)) (some 19) rfl rfl rfl (by kernel_rfl) (by kernel_rfl) (by kernel_rfl) (by kernel_rfl) (fun _ _ _ h => h) (Or.inl ⟨by rfl, fun u s0 => by go_simp⟩) hs0 ?_
      try simp only [Act.put, List.setIfInBounds_toArray, List.set_cons_zero, List.set_cons_succ]
      refine till_take 1 (v := .slice (some ⟨b, 0, none⟩) ll cl) (some 20) rfl rfl rfl (by kernel_rfl) (by kernel_rfl) (by kernel_rfl) (by kernel_rfl) (fun _ _ _ h => h) (Or.inl ⟨by rfl, fun u s0 => by go_simp⟩) hs0 ?_
      try simp only [Act.put, List.setIfInBounds_toArray, List.set_cons_zero, List.set_cons_succ]
      refine till_take 2 (v := .int .i64 (i : Int)) (some 21) rfl rfl rfl (by kernel_rfl) (by kernel_rfl) (by kernel_rfl) (by kernel_rfl) (fun _ _ _ h => h) (Or.inl ⟨by rfl, fun u s0 => by go_simp⟩) hs0 ?_
      try simp only [Act.put, List.setIfInBounds_toArray, List.set_cons_zero, List.set_cons_succ]
      refine till_one 3 (by kernel_rfl) rfl (fun K hK => ?_)
      go_simp
      refine (mark_any _).mono ?_
      rintro e w6 ⟨rfl, b6⟩
      have hb6 : Below w5.heap.size w5 w6 := ⟨b6.os, b6.tape, b6.output, b6.size, b6.block⟩
      have HW6 := hide ((unhide HW5).on hb6)
      have hs6 : w6.cell? ⟨g, 3, none⟩ = some (.slice (some ⟨b, 0, none⟩) ll cl) := cell_later hb6 c3
      have hbb6 := (hb6.block b (lt_of_row (unhide HBB).1)).trans (unhide HBB).1
      have HBB6 := hide hbb6
      clear b6 hb6 hs0 c3 HW5
      go_wp2_with fail
      refine hK.out _ _ (Or.inr hs6) ?_
      clear hK K
      try simp only [Act.put, List.setIfInBounds_toArray, List.set_cons_zero, List.set_cons_succ]
      refine till_one 4 (by kernel_rfl) rfl (fun K hK => ?_)
      go_simp
      refine hK.out _ _ (Or.inr hs6) ?_
      clear hK K
      try simp only [Act.put, List.setIfInBounds_toArray, List.set_cons_zero, List.set_cons_succ]
      refine till_one 5 (by kernel_rfl) rfl (fun K hK => ?_)
      obtain ⟨q0, q1, q2, q3, q4⟩ := unhide HQ5
      have e0 : w6.cell? ⟨b, i * 5, none⟩ = some y0 := by rw [cell_of_row w6 b (i * 5) cs _ (0, 0) hbb6]; exact q0
      have e1 : w6.cell? ⟨b, i * 5 + 1, none⟩ = some y1 := by rw [cell_of_row w6 b (i * 5 + 1) cs _ (0, 0) hbb6]; exact q1
      have e2 : w6.cell? ⟨b, i * 5 + 2, none⟩ = some y2 := by rw [cell_of_row w6 b (i * 5 + 2) cs _ (0, 0) hbb6]; exact q2
      have e3 : w6.cell? ⟨b, i * 5 + 3, none⟩ = some y3 := by rw [cell_of_row w6 b (i * 5 + 3) cs _ (0, 0) hbb6]; exact q3
      have e4 : w6.cell? ⟨b, i * 5 + 4, none⟩ = some y4 := by rw [cell_of_row w6 b (i * 5 + 4) cs _ (0, 0) hbb6]; exact q4
      have f0 := frozen_of_row w6 b (i * 5) _ _ hbb6
      have f1 := frozen_of_row w6 b (i * 5 + 1) _ _ hbb6
      have f2 := frozen_of_row w6 b (i * 5 + 2) _ _ hbb6
      have f3 := frozen_of_row w6 b (i * 5 + 3) _ _ hbb6
      have f4 := frozen_of_row w6 b (i * 5 + 4) _ _ hbb6
      have HW7 := hide (Wiped.leaf (i := i) 2 77 ⟨#[]⟩ (unhide HW6) hbb6 (Or.inl (unhide HBB).2.1) (by have := (unhide HBB).2.2; omega))
      clear q0 q1 q2 q3 q4 hbb6
      go_simp
      refine hK.out _ _ (Or.inl rfl) ?_
      clear hK K e0 e1 e2 e3 e4 f0 f1 f2 f3 f4 hs6
      try simp only [Act.put, List.setIfInBounds_toArray, List.set_cons_zero, List.set_cons_succ]
      refine till_done (by kernel_rfl) ?_ _
      go_wp2_with fail
      go_roundw
      case rel => exact ⟨i + 1, by omega, by go_num, HW7⟩
      case measure => simp [intOf]; omega
    · have i1 : ¬ (i : Int) < (ll : Int) := by omega
      clear hl hk h0 hw hgs at0
      go_wp2_with fail
      clear c0 c1 c2 c3 c4
      go_loopw [3] (fun x wr => ∃ i : Nat, i ≤ m ∧ x = .int .i64 i ∧ Hid (Wiped Q w1 wr)) (fun x _ => m - (intOf x).toNat)
      case atStart => exact ⟨0, by omega, rfl, HW⟩
      case round =>
        clear HW
        obtain ⟨i3, hi3, rfl, HW3⟩ := hrel
        obtain ⟨at0, ⟨hl, hk, h0⟩, hw, hgs⟩ := unhide HT wr (unhide HW3)
        obtain ⟨c0, c1, c2, c3, c4⟩ := row_cell at0
        by_cases hlt3 : i3 < m
        · rcases hk with ⟨_, hz, _⟩ | ⟨b, cs, rfl, hqb, hbb, hsz, hlc, hcm, _⟩
          · omega
          obtain ⟨y, hy⟩ : ∃ y, cs[i3]? = some y := ⟨_, Array.getElem?_eq_getElem (by omega)⟩
          have e0 : wr.cell? ⟨b, i3, none⟩ = some y := by rw [cell_of_row wr b i3 cs _ (0, 0) hbb]; exact hy
          have f0 := frozen_of_row wr b i3 _ _ hbb
          have HW5 := hide ((unhide HW3).trans (wipe_key (Q := Q) (i := i3) (.string ⟨#[109, 105, 110, 101]⟩) hbb hqb))
          have ia3 : (i3 : Int) < (m : Int) := by omega
          have ib3 : (0 : Int) ≤ (i3 : Int) := by omega
          have hcl : ck ≤ 9223372036854775807 := by unfold maxLen at hcm; omega
          clear hl h0 hw hgs at0 hbb hy
          go_wp2_with fail
          go_roundw
          case rel => exact ⟨i3 + 1, by omega, by go_num, HW5⟩
          case measure => simp [intOf]; omega
        · have ia3 : ¬ (i3 : Int) < (m : Int) := by omega
          have HR : Hid (Row wr Q w1.heap.size 51 5 (.slice al ll cl) ll ∧ Row wr Q w1.heap.size 9 1 (.slice ak m ck) m ∧ wr.heap[g]? = some (.cells #[.int .i64 k, .int .i64 n, .string t, .slice al ll cl, .slice ak m ck] 51 (0, 0))) := hide ⟨hl.row, hk.row, at0⟩
          clear hl hk h0 hw hgs at0 c0 c1 c2
          go_upto_region 10 with fail
          have hs0 : wr.drew.cell? ⟨g, 3, none⟩ = some (.slice al ll cl) := c3
          refine till_begin (S := fun w' => w'.cell? ⟨g, 3, none⟩ = some (.slice al ll cl)) 8 (by kernel_rfl) ?_
          refine till_take 0 (v := .pointer (some ⟨g, 3, none⟩)) (some 35) rfl rfl rfl (by kernel_rfl) (by kernel_rfl) (by kernel_rfl) (by kernel_rfl) (fun _ _ _ h => h) (Or.inl ⟨by rfl, fun u s0 => by go_simp⟩) hs0 ?_
          try simp only [Act.put, List.setIfInBounds_toArray, List.set_cons_zero, List.set_cons_succ]
          refine till_take 1 (v := .slice al ll cl) (some 36) rfl rfl rfl (by kernel_rfl) (by kernel_rfl) (by kernel_rfl) (by kernel_rfl) (fun _ _ _ h => h) (Or.inl ⟨by rfl, fun u s0 => by go_simp⟩) hs0 ?_
          try simp only [Act.put, List.setIfInBounds_toArray, List.set_cons_zero, List.set_cons_succ]
          have X0 : Hid (Below wr.heap.size wr wr.drew) := hide ((Below.refl _ _).drew)
          refine till_one 2 (by kernel_rfl) rfl (fun K hK => ?_)
          go_simp
          refine (mark_any _).mono ?_
          rintro e w6 ⟨rfl, b6⟩
          have X1 : Hid (Below wr.heap.size wr w6) := hide ((unhide X0).trans ((show Below wr.drew.heap.size wr.drew w6 from ⟨b6.os, b6.tape, b6.output, b6.size, b6.block⟩).mono (unhide X0).size))
          clear b6
          go_wp2_with fail
          refine hK.out _ _ (Or.inr (cell_later (unhide X1) c3)) ?_
          clear hK K
          try simp only [Act.put, List.setIfInBounds_toArray, List.set_cons_zero, List.set_cons_succ]
          refine till_one 3 (by kernel_rfl) rfl (fun K hK => ?_)
          go_simp
          refine (mark_any _).mono ?_
          rintro e w7 ⟨rfl, b6⟩
          have X2 : Hid (Below wr.heap.size wr w7) := hide ((unhide X1).trans ((show Below w6.heap.size w6 w7 from ⟨b6.os, b6.tape, b6.output, b6.size, b6.block⟩).mono (unhide X1).size))
          clear b6
          go_wp2_with fail
          refine hK.out _ _ (Or.inr (cell_later (unhide X2) c3)) ?_
          clear hK K
          try simp only [Act.put, List.setIfInBounds_toArray, List.set_cons_zero, List.set_cons_succ]
          refine till_one 4 (by kernel_rfl) rfl (fun K hK => ?_)
          go_simp
          refine (mark_any _).mono ?_
          rintro e w8 ⟨rfl, b6⟩
          have X3 : Hid (Below wr.heap.size wr w8) := hide ((unhide X2).trans ((show Below w7.heap.size w7 w8 from ⟨b6.os, b6.tape, b6.output, b6.size, b6.block⟩).mono (unhide X2).size))
          clear b6
          go_wp2_with fail
          refine hK.out _ _ (Or.inr (cell_later (unhide X3) c3)) ?_
          clear hK K
          try simp only [Act.put, List.setIfInBounds_toArray, List.set_cons_zero, List.set_cons_succ]
          refine till_one 5 (by kernel_rfl) rfl (fun K hK => ?_)
          go_simp
          refine (mark_any _).mono ?_
          rintro e w9 ⟨rfl, b6⟩
          have X4 : Hid (Below wr.heap.size wr w9) := hide ((unhide X3).trans ((show Below w8.heap.size w8 w9 from ⟨b6.os, b6.tape, b6.output, b6.size, b6.block⟩).mono (unhide X3).size))
          clear b6
          go_wp2_with fail
          refine hK.out _ _ (Or.inr (cell_later (unhide X4) c3)) ?_
          clear hK K
          try simp only [Act.put, List.setIfInBounds_toArray, List.set_cons_zero, List.set_cons_succ]
          refine till_one 6 (by kernel_rfl) rfl (fun K hK => ?_)
          go_simp
          have X5 : Hid (Below wr.heap.size wr (w9.alloc (.cells #[.int .i64 2, .int .i64 77, .string ⟨#[]⟩, .slice none 0 0, .slice none 0 0, .int .i64 2, .int .i64 77, .string ⟨#[]⟩, .slice none 0 0, .slice none 0 0, .int .i64 2, .int .i64 77, .string ⟨#[]⟩, .slice none 0 0, .slice none 0 0, .int .i64 2, .int .i64 77, .string ⟨#[]⟩, .slice none 0 0, .slice none 0 0] 51))) := hide ((unhide X4).alloc (unhide X4).size _)
          have at6 := heap_alloc_new w9 (.cells #[.int .i64 2, .int .i64 77, .string ⟨#[]⟩, .slice none 0 0, .slice none 0 0, .int .i64 2, .int .i64 77, .string ⟨#[]⟩, .slice none 0 0, .slice none 0 0, .int .i64 2, .int .i64 77, .string ⟨#[]⟩, .slice none 0 0, .slice none 0 0, .int .i64 2, .int .i64 77, .string ⟨#[]⟩, .slice none 0 0, .slice none 0 0] 51)
          obtain ⟨w10, hw10⟩ : ∃ w10, w9.alloc (.cells #[.int .i64 2, .int .i64 77, .string ⟨#[]⟩, .slice none 0 0, .slice none 0 0, .int .i64 2, .int .i64 77, .string ⟨#[]⟩, .slice none 0 0, .slice none 0 0, .int .i64 2, .int .i64 77, .string ⟨#[]⟩, .slice none 0 0, .slice none 0 0, .int .i64 2, .int .i64 77, .string ⟨#[]⟩, .slice none 0 0, .slice none 0 0] 51) = w10 := ⟨_, rfl⟩
          rw [hw10] at X5 at6 ⊢
          obtain ⟨h9, hh9⟩ : ∃ h9, w9.heap.size = h9 := ⟨_, rfl⟩
          rw [hh9] at at6 ⊢
          refine hK.out _ _ (Or.inr (cell_later (unhide X5) c3)) ?_
          clear hK K hw10 hh9 X0 X1 X2 X3 X4
          try simp only [Act.put, List.setIfInBounds_toArray, List.set_cons_zero, List.set_cons_succ]
          have hnews : ∀ j u, (List.replicate 4 (lf 2 77 ⟨#[]⟩)).flatten[j]? = some u → w10.cell? ((⟨h9, 0, none⟩ : Addr).add j) = some u := fun j u hu => World.news_of_block at6 j u hu
          obtain ⟨iv, hiv, hz0, hz1, hz2⟩ := info_parts infoVs
          have hsz10 : w1.heap.size ≤ w10.heap.size := Nat.le_trans (unhide HW3).size (unhide X5).size
          refine till_one 7 (by kernel_rfl) rfl (fun K hK => ?_)
          refine step_rowN (by rfl) _ _ 24 51 iv _ 5 80 (by rfl) Try.underlying24 hiv hz0 hz1 hz2 rfl (by omega) (by omega) Q w1.heap.size ll 4 (.slice al ll cl) (by rfl) ((unhide HR).1.later (unhide X5)) (by omega) ⟨h9, 0, none⟩ 4 (List.replicate 4 (lf 2 77 ⟨#[]⟩)).flatten (by rfl) (by simp [lf]) hnews (by simp [lf, List.replicate, Value.oneCell']) (by omega) hsz10 ?_
          intro v7 w11 HA
          have HW11 := hide ((unhide HA).leaves ((unhide HW3).on (unhide X5)))
          have at11 := (unhide HT w11 (unhide HW11)).1
          have hs11 := (row_cell at11).2.2.2.1
          refine hK.out _ _ (Or.inr hs11) ?_
          have HK11 : Hid (Row w11 Q w1.heap.size 9 1 (.slice ak m ck) m) := hide (((unhide HR).2.1.later (unhide X5)).other (fun b cs hb => (unhide HA).other (by decide) hb))
          have HL11 := hide (unhide HA).1
          have HA11 := hide at11
          clear hK K hnews at6 HA at11
          try simp only [Act.put, List.setIfInBounds_toArray, List.set_cons_zero, List.set_cons_succ]
          refine till_one 8 (by kernel_rfl) rfl (fun K hK => ?_)
          go_simp
          refine hK.out _ _ (Or.inl rfl) ?_
          clear hK K hs11 hs0 hsz10
          try simp only [Act.put, List.setIfInBounds_toArray, List.set_cons_zero, List.set_cons_succ]
          refine till_done (by kernel_rfl) ?_ _
          clear c3 c4
          obtain ⟨N4, hN4⟩ : ∃ N, ll + 4 = N := ⟨_, rfl⟩
          rw [hN4] at HL11
          obtain ⟨bl, capl, csl, rfl, hql, hbl, hsl, hnl, hcml⟩ : ∃ b cap cs, v7 = .slice (some ⟨b, 0, none⟩) N4 cap ∧ (Q b ∨ w1.heap.size ≤ b) ∧ w11.heap[b]? = some (.cells cs 51 (0, 0)) ∧ cs.size = cap * 5 ∧ N4 ≤ cap ∧ cap ≤ maxLen := by
            rcases unhide HL11 with ⟨_, h0⟩ | h
            · omega
            · exact h
          have hN0 : (0 : Int) < (N4 : Int) := by omega
          have HBL := hide (And.intro hql (And.intro hbl (And.intro hsl hnl)))
          have hcl2 : capl ≤ 9223372036854775807 := by unfold maxLen at hcml; omega
          have hN4c : 4 ≤ N4 := by omega
          clear hN4 hql hbl hsl HL11 hcml
          obtain ⟨c0, c1, c2, c3, c4⟩ := row_cell (unhide HA11)
          have B1 : Below w11.heap.size w11 (w11.alloc (.cells #[.string ⟨#[109, 105, 110, 101]⟩, .string ⟨#[109, 105, 110, 101]⟩, .string ⟨#[109, 105, 110, 101]⟩, .string ⟨#[109, 105, 110, 101]⟩] 9)) := (Below.refl _ _).alloc (Nat.le_refl _) _
          have HB1 := hide B1
          have hn4 : ∀ j u, [.string ⟨#[109, 105, 110, 101]⟩, .string ⟨#[109, 105, 110, 101]⟩, .string ⟨#[109, 105, 110, 101]⟩, .string ⟨#[109, 105, 110, 101]⟩][j]? = some u → (w11.alloc (.cells #[.string ⟨#[109, 105, 110, 101]⟩, .string ⟨#[109, 105, 110, 101]⟩, .string ⟨#[109, 105, 110, 101]⟩, .string ⟨#[109, 105, 110, 101]⟩] 9)).cell? ((⟨w11.heap.size, 0, none⟩ : Addr).add j) = some u := fun j u hu => World.news_of_block (heap_alloc_new w11 (.cells #[.string ⟨#[109, 105, 110, 101]⟩, .string ⟨#[109, 105, 110, 101]⟩, .string ⟨#[109, 105, 110, 101]⟩, .string ⟨#[109, 105, 110, 101]⟩] 9)) j u (by simpa using hu)
          have HN4 := hide hn4
          obtain ⟨ik, hik, kz0, kz1, kz2⟩ := info_parts infoS9
          have HIK := hide (And.intro hik (And.intro kz0 (And.intro kz1 kz2)))
          have tokA : True := trivial
          clear B1 hn4 hik kz0 kz1 kz2
          go_upto_region 11 with fail
          go_wp2_with (first
            | (at_builtin; have _t := tokA; refine wpl_rowN rfl (.tmp 44) (.tmp 45) 49 9 ik _ 1 16 rfl Try.underlying49 (unhide HIK).1 (unhide HIK).2.1 (unhide HIK).2.2.1 (unhide HIK).2.2.2 rfl (by omega) (by omega) Q w1.heap.size m 4 (.slice ak m ck) rfl ((unhide HK11).later (unhide HB1)) (by omega) ⟨w11.heap.size, 0, none⟩ 4 [.string ⟨#[109, 105, 110, 101]⟩, .string ⟨#[109, 105, 110, 101]⟩, .string ⟨#[109, 105, 110, 101]⟩, .string ⟨#[109, 105, 110, 101]⟩] rfl rfl (unhide HN4) (by simp [Value.oneCell']) (by omega) (by have := (unhide HW11).size; have := (unhide HB1).size; omega) ?_; intro v12 w12 HA12; clear tokA))
          refine (mark_any _).mono ?_
          rintro e w13 ⟨rfl, b13⟩
          have HW12 := hide ((unhide HA12).keys rfl ((unhide HW11).on (unhide HB1)))
          have HW13 := hide ((unhide HW12).on b13)
          have hbl13 : w13.heap[bl]? = some (.cells csl 51 (0, 0)) := by
            have h1 := ((unhide HB1).block bl (lt_of_row (unhide HBL).2.1)).trans (unhide HBL).2.1
            have h2 := (unhide HA12).other (by decide) h1
            exact (b13.block bl (lt_of_row h2)).trans h2
          obtain ⟨M4, hM4⟩ : ∃ N, m + 4 = N := ⟨_, rfl⟩
          obtain ⟨bk, capk, csk, rfl, hqk, hbk, hsk, hnk, hcmk⟩ : ∃ b cap cs, v12 = .slice (some ⟨b, 0, none⟩) M4 cap ∧ (Q b ∨ w1.heap.size ≤ b) ∧ w12.heap[b]? = some (.cells cs 9 (0, 0)) ∧ cs.size = cap * 1 ∧ M4 ≤ cap ∧ cap ≤ maxLen := by
            have h := (unhide HA12).1
            rw [hM4] at h
            rcases h with ⟨_, h0⟩ | h
            · omega
            · exact h
          have hbk13 : w13.heap[bk]? = some (.cells csk 9 (0, 0)) := (b13.block bk (lt_of_row hbk)).trans hbk
          have hne : bk ≠ bl := fun e => by rw [e, hbl13] at hbk13; cases hbk13
          have hM0 : (0 : Int) < (M4 : Int) := by omega
          have hcl3 : capk ≤ 9223372036854775807 := by unfold maxLen at hcmk; omega
          have hszl : 20 ≤ csl.size := by have := (unhide HBL).2.2; omega
          obtain ⟨z0, hz0'⟩ : ∃ z, csl[0]? = some z := ⟨_, Array.getElem?_eq_getElem (by omega)⟩
          obtain ⟨z1, hz1'⟩ : ∃ z, csl[1]? = some z := ⟨_, Array.getElem?_eq_getElem (by omega)⟩
          obtain ⟨z2, hz2'⟩ : ∃ z, csl[2]? = some z := ⟨_, Array.getElem?_eq_getElem (by omega)⟩
          obtain ⟨z3, hz3'⟩ : ∃ z, csl[3]? = some z := ⟨_, Array.getElem?_eq_getElem (by omega)⟩
          obtain ⟨z4, hz4'⟩ : ∃ z, csl[4]? = some z := ⟨_, Array.getElem?_eq_getElem (by omega)⟩
          obtain ⟨x0, hx0'⟩ : ∃ z, csk[0]? = some z := ⟨_, Array.getElem?_eq_getElem (by omega)⟩
          have e0 : w13.cell? ⟨bl, 0, none⟩ = some z0 := by rw [cell_of_row w13 bl 0 csl _ (0, 0) hbl13]; exact hz0'
          have e1 : w13.cell? ⟨bl, 1, none⟩ = some z1 := by rw [cell_of_row w13 bl 1 csl _ (0, 0) hbl13]; exact hz1'
          have e2 : w13.cell? ⟨bl, 2, none⟩ = some z2 := by rw [cell_of_row w13 bl 2 csl _ (0, 0) hbl13]; exact hz2'
          have e3 : w13.cell? ⟨bl, 3, none⟩ = some z3 := by rw [cell_of_row w13 bl 3 csl _ (0, 0) hbl13]; exact hz3'
          have e4 : w13.cell? ⟨bl, 4, none⟩ = some z4 := by rw [cell_of_row w13 bl 4 csl _ (0, 0) hbl13]; exact hz4'
          have f0 := frozen_of_row w13 bl 0 _ _ hbl13
          have f1 := frozen_of_row w13 bl 1 _ _ hbl13
          have f2 := frozen_of_row w13 bl 2 _ _ hbl13
          have f3 := frozen_of_row w13 bl 3 _ _ hbl13
          have f4 := frozen_of_row w13 bl 4 _ _ hbl13
          have hwl := Wiped.leaf (i := 0) 2 77 ⟨#[]⟩ (unhide HW13) hbl13 (unhide HBL).1 (by omega)
          simp only [Nat.zero_mul, Nat.zero_add] at hwl
          have hbk14 : (((((w13.setCell ⟨bl, 0, none⟩ (.int .i64 2)).setCell ⟨bl, 1, none⟩ (.int .i64 77)).setCell ⟨bl, 2, none⟩ (.string ⟨#[]⟩)).setCell ⟨bl, 3, none⟩ (.slice none 0 0)).setCell ⟨bl, 4, none⟩ (.slice none 0 0)).heap[bk]? = some (.cells csk 9 (0, 0)) := by
            rw [heap_setCell_other _ _ _ _ hne, heap_setCell_other _ _ _ _ hne, heap_setCell_other _ _ _ _ hne, heap_setCell_other _ _ _ _ hne, heap_setCell_other _ _ _ _ hne]
            exact hbk13
          have HWL := hide (And.intro hwl (And.intro hbk14 (And.intro hqk hx0')))
          clear hz0' hz1' hz2' hz3' hz4' hwl hbk14 hbk13 hbl13 hbk hne hqk hx0' hM4 b13 hsk hcmk hszl c0 c1 c2 c3 c4 HA12 HW12 HW13
          go_upto_region 14 with fail
          obtain ⟨w14, hw14⟩ : ∃ w14, ((((w13.setCell ⟨bl, 0, none⟩ (.int .i64 2)).setCell ⟨bl, 1, none⟩ (.int .i64 77)).setCell ⟨bl, 2, none⟩ (.string ⟨#[]⟩)).setCell ⟨bl, 3, none⟩ (.slice none 0 0)).setCell ⟨bl, 4, none⟩ (.slice none 0 0) = w14 := ⟨_, rfl⟩
          rw [hw14] at HWL ⊢
          clear hw14 e0 e1 e2 e3 e4 f0 f1 f2 f3 f4
          obtain ⟨hwl, hbk14, hqk, hx0'⟩ := unhide HWL
          have e0 : w14.cell? ⟨bk, 0, none⟩ = some x0 := by rw [cell_of_row w14 bk 0 csk _ (0, 0) hbk14]; exact hx0'
          have f0 := frozen_of_row w14 bk 0 _ _ hbk14
          have HF := hide (unhide HT _ (Wiped.key (i := 0) (.string ⟨#[109, 105, 110, 101]⟩) hwl hbk14 hqk)).2.2.1
          clear hwl hbk14 hqk hx0' HWL
          go_wp2_with fail
          go_end0
          exact ⟨rfl, unhide HF⟩

theorem spoil_any : ∀ r, SpoilAt r
  | 0 => spoil_step 0 (fun q h => by omega)
  | r + 1 => spoil_step (r + 1) (fun q h => by
    obtain rfl : q = r := by omega
    exact spoil_any q)
end Go.Proofs.Ytfdnhpmldnmncaa
