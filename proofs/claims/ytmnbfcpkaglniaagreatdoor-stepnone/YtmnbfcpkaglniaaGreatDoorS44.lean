/-
  Layer 15 (step): what New calls: a new store, ContainsFunc and copies of none, copies of one value, functions of one; no conditions.
  Layer 15 (step): functions of a module of one function, enter; no conditions.
-/
import Derived.Test.YtmnbfcpkaglniaaGreatDoorS39
import Derived.Test.YtmnbfcpkaglniaaGreatDoorS17
import Derived.Test.YtmnbfcpkaglniaaGreatDoorS43
import Derived.Lib.SlBytesConst
import Derived.Test.YtmnbfcpkaglniaaGreatDoorS28
set_option linter.unusedVariables false
set_option linter.unusedSimpArgs false
namespace Go.Proofs.YtmnbfcpkaglniaaGreatDoor
open Go.RowKit
set_option linter.unusedVariables false
set_option linter.unusedSimpArgs false
theorem tnew_any (w : World) : Calls Tryz.prog 24 #[] w fun e w' => ∃ b, e = .returned (.pointer (some ⟨b, 0, none⟩)) ∧ Below w.heap.size w w' := by
  go_enter Tryz.func24, Tryz.ntmps24
  go_wp2_with fail
  go_ret
  exact ⟨_, rfl, (Below.refl _ _).alloc (Nat.le_refl _) _⟩
theorem snew_any (w : World) : Calls Tryz.prog 9 #[] w fun e w' => ∃ b, e = .returned (.pointer (some ⟨b, 0, none⟩)) ∧ Below w.heap.size w w' := by
  have C := hide (tnew_any w)
  go_enter Tryz.func9, Tryz.ntmps9
  go_wp2_with fail
  refine (unhide C).mono ?_
  rintro e w1 ⟨b, rfl, b1⟩
  have B1 := hide b1
  clear b1 C
  go_wp2_with fail
  go_ret
  exact ⟨_, rfl, (unhide B1).alloc (unhide B1).size _⟩
theorem index_none (F : Value) (w : World) : Calls Tryz.prog 50 #[.slice none 0 0, F] w fun e w' => e = .returned (.int .i64 (-1)) ∧ w' = w := by
  go_enter Tryz.func50, Tryz.ntmps50
  go_wp2_with fail
  go_loopw [8] (fun d wr => d = .int .i64 0 ∧ wr = w) (fun _ _ => 0)
  case atStart => exact ⟨rfl, rfl⟩
  case round =>
    obtain ⟨rfl, rfl⟩ := hrel
    go_wp2_with fail
    go_ret
    exact ⟨rfl, rfl⟩
theorem contains_none (F : Value) (w : World) : Calls Tryz.prog 28 #[.slice none 0 0, F] w fun e w' => e = .returned (.bool false) ∧ w' = w := by
  have C := hide (index_none F w)
  go_enter Tryz.func28, Tryz.ntmps28
  go_wp2_with fail
  refine (unhide C).mono ?_
  rintro e w1 ⟨rfl, e1⟩
  rw [e1]
  clear e1 C
  go_wp2_with fail
  go_ret
  exact ⟨rfl, rfl⟩
theorem copies_none (w : World) : Calls Tryz.prog 21 #[.slice none 0 0] w fun e w' => e = .returned (.slice none 0 0) ∧ w' = w := by
  go_enter Tryz.func21, Tryz.ntmps21
  go_wp2_with fail
  go_loopw [3, 8] (fun o d wr => o = .slice none 0 0 ∧ d = .int .i64 0 ∧ wr = w) (fun _ _ _ => 0)
  case atStart => exact ⟨rfl, rfl, rfl⟩
  case round =>
    obtain ⟨rfl, rfl, rfl⟩ := hrel
    go_wp2_with fail
    go_ret
    exact ⟨rfl, rfl⟩
/-- the value 2 -/
def vlT : Vl := .mk 2 2 ⟨#[]⟩ [] []
theorem vlT_right : rightB vlT = true := by
  simp [rightB, okB, wt, vlT, formB, okL, keysW, wtL]
  constructor <;> decide +kernel
theorem vlT_is (w : World) (P : Nat → Prop) : IsP w P vlT (.agg #[.int .i64 2, .int .i64 2, .string ⟨#[]⟩, .slice none 0 0, .slice none 0 0]) :=
  IsP.of (V := fun _ => []) ⟨by omega, by omega, by decide, fun _ => ⟨rfl, rfl⟩, fun _ => ⟨rfl, rfl⟩, Nat.le_refl _, Nat.le_refl _, by simp, by simp, by simp, (fun a h => by cases h), (fun i hi => by simp at hi), (fun a h => by cases h), by simp⟩ (fun i y hy => by simp at hy)
/-- lists without room where there are none -/
def Em (al : Option Addr) (cl : Nat) (ak : Option Addr) (ck : Nat) : Prop := (al = none → cl = 0) ∧ (ak = none → ck = 0)
theorem em_of {w : World} {P : Nat → Prop} {x : Value} (h : IsP w P vlT x) : ∃ al cl ak ck, x = .agg #[.int .i64 2, .int .i64 2, .string ⟨#[]⟩, .slice al 0 cl, .slice ak 0 ck] ∧ Em al cl ak ck := by
  obtain ⟨al, ak, cl, ck, V, hx, hf, _⟩ := h
  exact ⟨al, cl, ak, ck, hx, fun e => (hf.nl e).2, fun e => (hf.nk e).2⟩
theorem em_is {al ak : Option Addr} {cl ck : Nat} (h : Em al cl ak ck) (w : World) (P : Nat → Prop) : IsP w P vlT (.agg #[.int .i64 2, .int .i64 2, .string ⟨#[]⟩, .slice al 0 cl, .slice ak 0 ck]) :=
  IsP.of (V := fun _ => []) ⟨by omega, by omega, by decide, fun e => ⟨rfl, h.1 e⟩, fun e => ⟨rfl, h.2 e⟩, Nat.zero_le _, Nat.zero_le _, by simp, by simp, by simp, (fun a ha i hi => by simp at hi), (fun i hi => by simp at hi), (fun a ha i t ht => by simp at ht), by simp⟩ (fun i y hy => by simp at hy)
theorem copy_two (al ak : Option Addr) (cl ck : Nat) (w : World) (h : Em al cl ak ck) : Calls Tryz.prog 22 #[.agg #[.int .i64 2, .int .i64 2, .string ⟨#[]⟩, .slice al 0 cl, .slice ak 0 ck]] w fun e w' => ∃ al cl ak ck, e = .returned (.agg #[.int .i64 2, .int .i64 2, .string ⟨#[]⟩, .slice al 0 cl, .slice ak 0 ck]) ∧ Em al cl ak ck ∧ Below w.heap.size w w' := by
  refine (copy_any vlT _ w.heap.size w (em_is h w _) (Nat.le_refl _)).mono ?_
  rintro e w' ⟨x', rfl, hb, hr, -⟩
  obtain ⟨al, cl, ak, ck, rfl, hem⟩ := em_of (hr vlT_right).1
  exact ⟨al, cl, ak, ck, rfl, hem, hb⟩
theorem below_grown' {w w' : World} (h : w.grownBy w' none) : Below w.heap.size w w' := ⟨h.os, h.tape, h.output, h.size, fun k hk => h.block k hk (by simp)⟩
/-- what an owner's row of one element is -/
theorem own_one {w : World} {base size : Nat} {e : TypeId} {v : Value} {xs : List Value} (h : w.ownsRow base e size v 1 xs) : ∃ g cap z, v = .slice (some ⟨g, 0, none⟩) 1 cap ∧ 1 ≤ cap ∧ base ≤ g ∧ w.heap[g]? = some (.cells (xs ++ z).toArray e (0, 0)) := by
  rcases h.2 with ⟨_, e0⟩ | ⟨g, cap, cur, e1, hbg, hg, hnc, hcm, hsz, hpre⟩
  · omega
  · exact ⟨g, cap, cur.toList.drop (1 * size), e1, hnc, hbg, by rw [hg, ← hpre, List.take_append_drop, Array.toArray_toList]⟩
set_option maxRecDepth 100000 in
set_option maxHeartbeats 8000000 in
theorem copies_one {w : World} {c0 : Nat} (h : w.heap[c0]? = some (.cells #[.int .i64 2, .int .i64 2, .string ⟨#[]⟩, .slice none 0 0, .slice none 0 0] 29 (0, 0))) : Calls Tryz.prog 21 #[.slice (some ⟨c0, 0, none⟩) 1 1] w fun e w' => ∃ o al cl ak ck, e = .returned o ∧ Em al cl ak ck ∧ w'.ownsRow w.heap.size 29 5 o 1 [.int .i64 2, .int .i64 2, .string ⟨#[]⟩, .slice al 0 cl, .slice ak 0 ck] ∧ Below w.heap.size w w' := by
  obtain ⟨iv, hiv, hz0, hz1, hz2⟩ := info_parts infoV5
  have HI := hide (And.intro hiv (And.intro hz0 (And.intro hz1 hz2)))
  have HC : Hid (∀ u, Below w.heap.size w u → u.cell? ⟨c0, 0, none⟩ = some (.int .i64 2) ∧ u.cell? ⟨c0, 1, none⟩ = some (.int .i64 2) ∧ u.cell? ⟨c0, 2, none⟩ = some (.string ⟨#[]⟩) ∧ u.cell? ⟨c0, 3, none⟩ = some (.slice none 0 0) ∧ u.cell? ⟨c0, 4, none⟩ = some (.slice none 0 0)) := hide (fun u hu => five_cells (z := []) ((hu.block c0 (lt_of_row h)).trans h))
  clear h hiv hz0 hz1 hz2
  go_enter Tryz.func21, Tryz.ntmps21
  go_wp2_with fail
  go_loopw [3, 8] (fun o d wr => Hid (Below w.heap.size w wr) ∧ (d = .int .i64 0 ∧ o = .slice none 0 0 ∨ d = .int .i64 1 ∧ Hid (∃ al cl ak ck, Em al cl ak ck ∧ wr.ownsRow w.heap.size 29 5 o 1 [.int .i64 2, .int .i64 2, .string ⟨#[]⟩, .slice al 0 cl, .slice ak 0 ck]))) (fun _ d _ => (1 - intOf d).toNat)
  case atStart => exact ⟨hide (Below.refl _ _), Or.inl ⟨rfl, rfl⟩⟩
  case round =>
    obtain ⟨HB, ⟨rfl, rfl⟩ | ⟨rfl, HO⟩⟩ := hrel
    · obtain ⟨c1, c2, c3, c4, c5⟩ := unhide HC wr (unhide HB)
      go_upto_region 5 with fail
      obtain ⟨w1, hw1⟩ : ∃ u, wr.alloc (.cells #[.int .i64 2, .int .i64 2, .string ⟨#[]⟩, .slice none 0 0, .slice none 0 0] 29) = u := ⟨_, rfl⟩
      have B1 : Hid (Below w.heap.size w w1) := hide (by rw [← hw1]; exact (unhide HB).alloc (unhide HB).size _)
      have CC := hide (copy_two none none 0 0 w1 ⟨fun _ => rfl, fun _ => rfl⟩)
      rw [hw1]
      have q1 : w1.heap[wr.heap.size]? = some (.cells #[.int .i64 2, .int .i64 2, .string ⟨#[]⟩, .slice none 0 0, .slice none 0 0] 29 (0, 0)) := by rw [← hw1]; exact heap_alloc_new _ _
      obtain ⟨y0, y1, y2, y3, y4⟩ := five_cells (z := []) q1
      clear q1 hw1
      go_wp2_with fail
      refine (unhide CC).mono ?_
      rintro e w2 ⟨al, cl, ak, ck, rfl, hem, b2⟩
      have HEm := hide hem
      clear hem
      have B2 := hide ((unhide B1).trans (b2.mono (unhide B1).size))
      clear b2 y0 y1 y2 y3 y4 CC c1 c2 c3 c4 c5
      have hz2 := (unhide B2).size
      go_wp2_with (at_builtin; refine wpl_oneG rfl (.tmp 12) (.tmp 15) 26 29 iv _ 5 80 Tryz.underlying26 (unhide HI).1 (unhide HI).2.1 (unhide HI).2.2.1 (unhide HI).2.2.2 rfl (by omega) rfl w.heap.size 0 (.slice none 0 0) [] [.int .i64 2, .int .i64 2, .string ⟨#[]⟩, .slice al 0 cl, .slice ak 0 ck] rfl (by simp [Value.oneCell']) rfl (World.ownsRow_nil _ _ _ _) rfl (by unfold maxLen; omega) (by omega) (by omega) ?_; intro v4 w4 H4)
      have HO : Hid (∃ al cl ak ck, Em al cl ak ck ∧ w4.ownsRow w.heap.size 29 5 v4 1 [.int .i64 2, .int .i64 2, .string ⟨#[]⟩, .slice al 0 cl, .slice ak 0 ck]) := hide ⟨al, cl, ak, ck, unhide HEm, (unhide H4).1⟩
      have B4 : Hid (Below w.heap.size w w4) := hide ((unhide B2).trans ((below_grown' (unhide H4).2.1).mono hz2))
      go_roundw
      case rel => exact ⟨B4, Or.inr ⟨rfl, HO⟩⟩
      case measure => simp [intOf]
    · go_wp2_with fail
      go_ret
      obtain ⟨al, cl, ak, ck, hem, ho⟩ := unhide HO
      exact ⟨_, al, cl, ak, ck, rfl, hem, ho, unhide HB⟩
theorem infoU4 : (Tryz.prog.info? 92).map (fun i => (i.zero, i.size, i.bytes)) = some (some (.agg #[.int .i64 0, .int .i64 0, .int .i64 0, .slice none 0 0]), 4, 48) := by kernel_rfl
set_option maxRecDepth 100000 in
set_option maxHeartbeats 8000000 in
theorem functions_one {w : World} {f0 : Nat} {A B : Value} (h : w.heap[f0]? = some (.cells #[.int .i64 0, .int .i64 0, .int .i64 1, .string ⟨#[1, 0, 9]⟩] 41 (0, 0))) : Calls Tryz.prog 30 #[.agg #[A, .slice (some ⟨f0, 0, none⟩) 1 1, B]] w fun e w' => ∃ o b bc, e = .returned o ∧ w.heap.size ≤ b ∧ b < w'.heap.size ∧ bc ≤ 9223372036854775807 ∧ Row8 w' (some ⟨b, 0, none⟩) 3 bc [1, 0, 9] ∧ w'.ownsRow w.heap.size 92 4 o 1 [.int .i64 0, .int .i64 0, .int .i64 1, .slice (some ⟨b, 0, none⟩) 3 bc] ∧ Below w.heap.size w w' := by
  obtain ⟨iv, hiv, hz0, hz1, hz2⟩ := info_parts infoU4
  have HI := hide (And.intro hiv (And.intro hz0 (And.intro hz1 hz2)))
  clear hiv hz0 hz1 hz2
  obtain ⟨G, hG⟩ : ∃ G, w.heap.size = G := ⟨_, rfl⟩
  go_enter Tryz.func30, Tryz.ntmps30
  go_upto_region 2 with fail
  obtain ⟨w1, hw1⟩ : ∃ u, w.alloc (.cells #[A, .slice (some ⟨f0, 0, none⟩) 1 1, B] 47) = u := ⟨_, rfl⟩
  have b1 : Below w.heap.size w w1 := by rw [← hw1]; exact (Below.refl _ _).alloc (Nat.le_refl _) _
  have q1 : w1.heap[G]? = some (.cells #[A, .slice (some ⟨f0, 0, none⟩) 1 1, B] 47 (0, 0)) := by rw [← hw1, ← hG]; exact heap_alloc_new _ _
  rw [hw1]
  have m1 : w1.cell? ⟨G, 1, none⟩ = some (.slice (some ⟨f0, 0, none⟩) 1 1) := by rw [cell_of_row w1 _ 1 _ _ (0, 0) q1]; rfl
  have HC : Hid (∀ u, Below w.heap.size w u → u.cell? ⟨f0, 0, none⟩ = some (.int .i64 0) ∧ u.cell? ⟨f0, 1, none⟩ = some (.int .i64 0) ∧ u.cell? ⟨f0, 2, none⟩ = some (.int .i64 1) ∧ u.cell? ⟨f0, 3, none⟩ = some (.string ⟨#[1, 0, 9]⟩)) := hide (fun u hu => four_cells (z := []) ((hu.block f0 (lt_of_row h)).trans h))
  have HB1 := hide b1
  clear h hw1 b1 q1
  go_wp2_with fail
  go_loopw [3, 9] (fun o d wr => Hid (Below w.heap.size w wr) ∧ (d = .int .i64 0 ∧ o = .slice none 0 0 ∨ d = .int .i64 1 ∧ Hid (∃ b bc, w.heap.size ≤ b ∧ b < wr.heap.size ∧ bc ≤ 9223372036854775807 ∧ Row8 wr (some ⟨b, 0, none⟩) 3 bc [1, 0, 9] ∧ wr.ownsRow w.heap.size 92 4 o 1 [.int .i64 0, .int .i64 0, .int .i64 1, .slice (some ⟨b, 0, none⟩) 3 bc]))) (fun _ d _ => (1 - intOf d).toNat)
  case atStart => exact ⟨HB1, Or.inl ⟨rfl, rfl⟩⟩
  case round =>
    obtain ⟨HB, ⟨rfl, rfl⟩ | ⟨rfl, HO⟩⟩ := hrel
    · obtain ⟨c1, c2, c3, c4⟩ := unhide HC wr (unhide HB)
      go_upto_region 5 with fail
      obtain ⟨w2, hw2⟩ : ∃ u, wr.alloc (.cells #[.int .i64 0, .int .i64 0, .int .i64 1, .string ⟨#[1, 0, 9]⟩] 41) = u := ⟨_, rfl⟩
      have B2 : Hid (Below w.heap.size w w2) := hide (by rw [← hw2]; exact (unhide HB).alloc (unhide HB).size _)
      have q2 : w2.heap[wr.heap.size]? = some (.cells #[.int .i64 0, .int .i64 0, .int .i64 1, .string ⟨#[1, 0, 9]⟩] 41 (0, 0)) := by rw [← hw2]; exact heap_alloc_new _ _
      rw [hw2]
      obtain ⟨y0, y1, y2, y3⟩ := four_cells (z := []) q2
      have tok1 : True := trivial
      clear q2 hw2 c1 c2 c3 c4
      go_wp2_with (first | (have _t := tok1; refine wpl_bytesT rfl 9 90 5 (.tmp 21) rfl ⟨#[1, 0, 9]⟩ rfl (by decide) Tryz.underlying9 Tryz.underlying90 Tryz.underlying5 ?_; clear tok1; intro w3 cap H3) | (at_builtin; refine wpl_oneG rfl (.tmp 13) (.tmp 24) 59 92 iv _ 4 48 Tryz.underlying59 (unhide HI).1 (unhide HI).2.1 (unhide HI).2.2.1 (unhide HI).2.2.2 rfl (by omega) rfl w.heap.size 0 (.slice none 0 0) [] [.int .i64 0, .int .i64 0, .int .i64 1, .slice (some ⟨w2.heap.size, 0, none⟩) 3 cap] rfl (by simp [Value.oneCell']) rfl (World.ownsRow_nil _ _ _ _) rfl (by unfold maxLen; omega) (by omega) (by have := (unhide H3).size; have := (unhide B2).size; omega) ?_; intro v4 w4 H4))
      have B3 := hide ((unhide B2).trans ((unhide H3).below.mono (unhide B2).size))
      have hz3 := (unhide B3).size
      have HR := hide (And.intro (unhide H3).row (And.intro (unhide H3).cap (And.intro (unhide B2).size (unhide H3).size)))
      obtain ⟨b, hb⟩ : ∃ b, w2.heap.size = b := ⟨_, rfl⟩
      rw [hb] at HR H4
      clear y0 y1 y2 y3 H3
      have g4 := below_grown' (unhide H4).2.1
      have B4 : Hid (Below w.heap.size w w4) := hide ((unhide B3).trans (g4.mono hz3))
      have HO : Hid (∃ b bc, w.heap.size ≤ b ∧ b < w4.heap.size ∧ bc ≤ 9223372036854775807 ∧ Row8 w4 (some ⟨b, 0, none⟩) 3 bc [1, 0, 9] ∧ w4.ownsRow w.heap.size 92 4 v4 1 [.int .i64 0, .int .i64 0, .int .i64 1, .slice (some ⟨b, 0, none⟩) 3 bc]) := hide ⟨b, cap, (unhide HR).2.2.1, by have := (unhide HR).2.2.2; have := g4.size; omega, (unhide HR).2.1, Row8.later (zs := [1, 0, 9]) (unhide HR).1 g4, (unhide H4).1⟩
      clear g4
      go_roundw
      case rel => exact ⟨B4, Or.inr ⟨rfl, HO⟩⟩
      case measure => simp [intOf]
    · go_wp2_with fail
      go_ret
      obtain ⟨b, bc, h1, h2, h3, h4, h5⟩ := unhide HO
      exact ⟨_, b, bc, rfl, h1, h2, h3, h4, h5, unhide HB⟩
end Go.Proofs.YtmnbfcpkaglniaaGreatDoor
