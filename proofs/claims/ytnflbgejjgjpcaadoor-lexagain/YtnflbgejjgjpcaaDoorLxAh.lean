/-
  The walk of LexAhead; conditions: what the variables of strconv hold.
-/
import Derived.Test.YtnflbgejjgjpcaaDoorLxL1
import Derived.Deep.RegionHeld3
namespace Go.Proofs.YtnflbgejjgjpcaaDoor
open Go.RowKit
set_option linter.unusedVariables false
set_option linter.unusedSimpArgs false

/-- All, where it gives tokens -/
theorem all_toks (s : ByteArray) (ts : List Tk) (w : World) (he : Ev w) (hw6 : 5 < w.heap.size) (h : allT s.data.toList = .ok ts) (N : Nat) (hN : ts.length = N + 1) :
    Calls Tryd.prog 7 #[.string s] w fun e w' => ∃ b c, e = .returned (.tuple #[.slice (some ⟨b, 0, none⟩) (N + 1) c, .int .i64 0, .int .i64 0]) ∧ N + 1 ≤ c ∧ w.heap.size ≤ b ∧ c ≤ maxLen ∧ Hid (w'.ownsRow w.heap.size 29 4 (.slice (some ⟨b, 0, none⟩) (N + 1) c) (N + 1) (flT ts) ∧ TR w' (some ⟨b, 0, none⟩) ts ∧ Below w.heap.size w w') := by
  have hA := all_any s w he hw6
  rw [h] at hA
  refine hA.mono ?_
  rintro e w' ⟨⟨v, rfl, hown⟩, hb⟩
  rw [hN] at hown
  obtain ⟨ao, c, rfl, hs1, hs2, hs3, hs4⟩ := slice_form hown
  have ht := TR.of hown hN
  obtain ⟨t, ht0⟩ : ∃ t, ts[0]? = some t := ⟨_, List.getElem?_eq_getElem (by omega)⟩
  obtain ⟨b, rfl, _⟩ := ht 0 t ht0
  exact ⟨b, c, rfl, hs2, (hown.lt b (hs4 _ rfl).1).1, hs3, hide ⟨hown, ht, hb⟩⟩

/-- All, where it gives an error -/
theorem all_bad (s : ByteArray) (p er : Nat) (w : World) (he : Ev w) (hw6 : 5 < w.heap.size) (h : allT s.data.toList = .error (p, er)) :
    Calls Tryd.prog 7 #[.string s] w fun e w' => e = .returned (.tuple #[.slice none 0 0, .int .i64 (p : Int), .int .i64 (er : Int)]) ∧ Below w.heap.size w w' := by
  have hA := all_any s w he hw6
  rw [h] at hA
  exact hA

theorem TR.at {w : World} {b i : Nat} {ts : List Tk} {t : Tk} (h : TR w (some ⟨b, 0, none⟩) ts) (ht : ts[i]? = some t) : b < w.heap.size ∧ w.cell? ⟨b, i * 4, none⟩ = some (.int .i64 (t.k : Int)) ∧ w.cell? ⟨b, i * 4 + 1, none⟩ = some (.string (bA t.t)) ∧ w.cell? ⟨b, i * 4 + 2, none⟩ = some (.int .i64 (t.n : Int)) ∧ w.cell? ⟨b, i * 4 + 3, none⟩ = some (.int .i64 (t.p : Int)) := by
  obtain ⟨b', e, h1, h2, h3, h4, h5⟩ := h i t ht
  cases e
  exact ⟨h1, h2, h3, h4, h5⟩

theorem Ev.later {B : Nat} {w u : World} (h : Ev w) (hw : 5 < w.heap.size) (hb : Below w.heap.size w u) : Ev u ∧ 5 < u.heap.size := ⟨h.below hb hw, Nat.lt_of_lt_of_le hw hb.size⟩

theorem bA_nil : bA [] = ⟨#[]⟩ := rfl

set_option maxRecDepth 100000 in
set_option maxHeartbeats 1000000 in
theorem ahead_long (s : ByteArray) (w : World) (he : Ev w) (hw6 : 5 < w.heap.size) (h : 8192 < s.size) :
    Calls Tryd.prog 6 #[.string s] w fun e w' => e = .returned (.bool true) ∧ Below w.heap.size w w' := by
  have hE : allT s.data.toList = .error (0, 160) := by unfold allT; rw [len_list, if_pos h]
  have CA := hide (all_bad s 0 160 w he hw6 hE)
  have CS := hide (fun u (hu : Below w.heap.size w u) => shown_any u (he.below hu hw6) (Nat.lt_of_lt_of_le hw6 hu.size))
  have j1 : (8192 : Int) < (s.size : Int) := by omega
  clear he hE h
  go_enter Tryd.func6, Tryd.ntmps6
  go_wp2_with fail
  refine (unhide CA).mono ?_
  rintro e u1 ⟨rfl, b1⟩
  have B1 := hide b1
  clear b1
  go_wp2_with fail
  refine ((unhide CS) u1 (unhide B1)).mono ?_
  rintro e u2 ⟨rfl, b2⟩
  have B2 : Hid (Below w.heap.size w u2) := hide ((unhide B1).trans (b2.mono (unhide B1).size))
  clear b2
  go_wp2_with fail
  go_ret
  exact ⟨rfl, unhide B2⟩

set_option maxRecDepth 100000 in
set_option maxHeartbeats 1000000 in
theorem ahead_fault (s : ByteArray) (w : World) (he : Ev w) (hw6 : 5 < w.heap.size) (q er : Nat) (hE : allT s.data.toList = .error (q, er)) (h1 : 161 ≤ er) (h2 : er ≤ 164) (hs : s.size ≤ 8192) (hq : q < s.size) (ts : List Tk) (hT : allT (s.data.toList.take q) = .ok (ts ++ [endT q])) :
    Calls Tryd.prog 6 #[.string s] w fun e w' => e = .returned (.bool true) ∧ Below w.heap.size w w' := by
  have CA := hide (all_bad s q er w he hw6 hE)
  have CS := hide (fun u (hu : Below w.heap.size w u) => shown_any u (he.below hu hw6) (Nat.lt_of_lt_of_le hw6 hu.size))
  obtain ⟨N, hN⟩ : ∃ N, ts.length = N := ⟨_, rfl⟩
  have hl := (all_again hT).2.1
  have CK := hide (fun u (hu : Below w.heap.size w u) => all_toks (s.extract 0 q) (ts ++ [endT q]) u (he.below hu hw6) (Nat.lt_of_lt_of_le hw6 hu.size) (by rw [ext_take, bA_data]; exact hT) N (by rw [List.length_append, hN]; rfl))
  have HL : Hid ((ts ++ [endT q])[N]? = some (endT q)) := hide (by rw [List.getElem?_append_right (by omega), hN, Nat.sub_self]; rfl)
  rw [List.length_append, hN] at hl
  simp only [List.length_cons, List.length_nil] at hl
  have k1 : ((er : Int) == 160) = false := beq_eq_false_iff_ne.2 (by omega)
  have k2 : ¬ (er : Int) = 160 := by omega
  have k3 : ((er : Int) == 0) = false := beq_eq_false_iff_ne.2 (by omega)
  have k4 : ((er : Int) != 0) = true := by simp; omega
  have k5 : ¬ (er : Int) = 0 := by omega
  have q1 : ¬ (q : Int) < 0 := by omega
  have q2 : ¬ (s.size : Int) ≤ (q : Int) := by omega
  have q3 : (q : Int) ≤ (s.size : Int) := by omega
  have hs2 : (s.size : Int) ≤ 8192 := by omega
  have ne := eql_tok 0 0 (q : Int) ⟨#[]⟩
  have ng := fun (w : World) (x y : Operand) => run_eqGuard_agg (P := Tryd.prog) w .eql 29 x y #[.int .i64 0, .string ⟨#[]⟩, .int .i64 0, .int .i64 (q : Int)] #[.int .i64 0, .string ⟨#[]⟩, .int .i64 0, .int .i64 (q : Int)] guard_tok
  clear he hE hT hN h1 h2
  go_enter Tryd.func6, Tryd.ntmps6
  go_wp2_with fail
  refine (unhide CA).mono ?_
  rintro e u1 ⟨rfl, b1⟩
  have B1 := hide b1
  clear b1
  go_wp2_with fail
  refine ((unhide CS) u1 (unhide B1)).mono ?_
  rintro e u2 ⟨rfl, b2⟩
  have B2 : Hid (Below w.heap.size w u2) := hide ((unhide B1).trans (b2.mono (unhide B1).size))
  clear b2
  go_wp2_with fail
  refine ((unhide CK) u2 (unhide B2)).mono ?_
  rintro e u3 ⟨b, c, rfl, hc, hbb, hcm, HK⟩
  have B3 : Hid (Below w.heap.size w u3) := hide ((unhide B2).trans ((unhide HK).2.2.mono (unhide B2).size))
  obtain ⟨hbl, x0, x1, x2, x3⟩ := (unhide HK).2.1.at (unhide HL)
  simp only [endT, bA_nil] at x0 x1 x2 x3
  obtain ⟨o, ho⟩ : ∃ o, N * 4 = o := ⟨_, rfl⟩
  have r1 := add_row b (N * 4)
  rw [ho] at r1 x0 x1 x2 x3
  have n1 : (1 : Int) ≤ (N : Int) + 1 := by omega
  have n2 : (N : Int) < (N : Int) + 1 := by omega
  go_wp2_with fail
  go_ret
  exact ⟨rfl, unhide B3⟩
end Go.Proofs.YtnflbgejjgjpcaaDoor
