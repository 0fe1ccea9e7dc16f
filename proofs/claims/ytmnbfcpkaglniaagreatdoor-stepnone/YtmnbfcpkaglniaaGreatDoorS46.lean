/-
  Layer 15 (step): New at the example's module; conditions: the package's variables.
  Layer 15 (step): Run and View at the example's machine, once it has returned; conditions: the package's variables.
-/
import Derived.Test.YtmnbfcpkaglniaaGreatDoorS45
import Derived.Test.YtmnbfcpkaglniaaGreatDoorS39
import Derived.Test.YtmnbfcpkaglniaaGreatDoorS40
set_option linter.unusedVariables false
set_option linter.unusedSimpArgs false
namespace Go.Proofs.YtmnbfcpkaglniaaGreatDoor
open Go.RowKit
set_option linter.unusedVariables false
set_option linter.unusedSimpArgs false
/-- the example's module -/
def shS : Md := ⟨[vlT], [(0, 0, 1, ⟨#[1, 0, 9]⟩)], [(⟨#[102]⟩, 0)]⟩
theorem flt_zero (w : World) : (Instr.field 83 (.agg #[.int .i64 0, .int .i64 0, .int .i64 0]) 0).run Tryz.prog w = .ok (.int .i64 0) w := by kernel_rfl
theorem shS_right : rightM shS = true := by
  unfold rightM formedB shS
  simp only [List.all_cons, List.all_nil, vlT_right]
  decide +kernel
theorem shS_mod : modF shS = (0, 0, 0) := by
  unfold modF
  rw [if_pos shS_right]
  decide +kernel
theorem shS_exp : expOf shS ⟨#[102]⟩ = (0, true) := by
  unfold expOf
  rw [if_pos shS_right]
  decide +kernel
theorem row8_block {w w' : World} {b n c : Nat} {zs : List Int} (h : Row8 w (some ⟨b, 0, none⟩) n c zs) (e : w'.heap[b]? = w.heap[b]?) : Row8 w' (some ⟨b, 0, none⟩) n c zs :=
  ⟨h.length, h.none, fun ad had j u hu => by
    have h1 := h.cells ad had j u hu
    cases had
    rw [add_offR] at h1 ⊢
    exact (cell_block e).trans h1, h.small, h.le⟩
/-- it lies in memory -/
theorem shS_is {w : World} {c0 f0 e0 B : Nat} (hc : c0 < B) (hf : f0 < B) (he : e0 < B) (h0 : w.heap[c0]? = some (.cells #[.int .i64 2, .int .i64 2, .string ⟨#[]⟩, .slice none 0 0, .slice none 0 0] 29 (0, 0)))
    (h1 : w.heap[f0]? = some (.cells #[.int .i64 0, .int .i64 0, .int .i64 1, .string ⟨#[1, 0, 9]⟩] 41 (0, 0))) (h2 : w.heap[e0]? = some (.cells #[.string ⟨#[102]⟩, .int .i64 0] 44 (0, 0))) : IsM w (fun b => b < B) shS (some ⟨c0, 0, none⟩) 1 (some ⟨f0, 0, none⟩) 1 (some ⟨e0, 0, none⟩) 1 where
  hc := by
    unfold IsC shS
    refine IsP.of (V := fun _ => [.int .i64 2, .int .i64 2, .string ⟨#[]⟩, .slice none 0 0, .slice none 0 0]) ⟨by omega, by omega, by decide, (fun e => by cases e), fun _ => ⟨rfl, rfl⟩, by simp, Nat.le_refl _, by simp, by simp, by simp, ?_, (fun _ _ => rfl), (fun a h => by cases h), by simp⟩ ?_
    · intro a ha i hi
      cases ha
      refine ⟨hc, fun j v hv => ?_⟩
      have hi0 : i = 0 := by simp at hi; exact hi
      subst hi0
      rw [add_offR, add_offR, cell_of_row w c0 _ _ _ (0, 0) h0]
      simpa using hv
    · intro i y hy
      match i with
      | 0 =>
        simp at hy
        subst hy
        exact vlT_is w _
      | i + 1 => simp at hy
  hf := ⟨(fun e => by cases e), by simp [shS], by simp [shS], fun a ha i r hr => by
    cases ha
    refine ⟨hf, fun j v hv => ?_⟩
    simp only [shS, List.map_cons, List.map_nil] at hr
    match i with
    | 0 =>
      simp at hr
      subst hr
      rw [add_offR, add_offR, cell_of_row w f0 _ _ _ (0, 0) h1]
      simpa [fnV] using hv
    | i + 1 => simp at hr⟩
  hx := ⟨(fun e => by cases e), by simp [shS], by simp [shS], fun a ha i r hr => by
    cases ha
    refine ⟨he, fun j v hv => ?_⟩
    simp only [shS, List.map_cons, List.map_nil] at hr
    match i with
    | 0 =>
      simp at hr
      subst hr
      rw [add_offR, add_offR, cell_of_row w e0 _ _ _ (0, 0) h2]
      simpa [exV] using hv
    | i + 1 => simp at hr⟩
  bf := by simp [shS]; decide
  bx := by simp [shS]; decide
set_option maxRecDepth 100000 in
set_option maxHeartbeats 16000000 in
theorem new_shown {w : World} {c0 f0 e0 sb : Nat} (hT : Tab2 w) (hM : IsM w (fun b => b < w.heap.size) shS (some ⟨c0, 0, none⟩) 1 (some ⟨f0, 0, none⟩) 1 (some ⟨e0, 0, none⟩) 1)
    (hc0 : w.heap[c0]? = some (.cells #[.int .i64 2, .int .i64 2, .string ⟨#[]⟩, .slice none 0 0, .slice none 0 0] 29 (0, 0))) (hf0 : w.heap[f0]? = some (.cells #[.int .i64 0, .int .i64 0, .int .i64 1, .string ⟨#[1, 0, 9]⟩] 41 (0, 0))) :
    Calls Tryz.prog 10 #[.agg #[.slice (some ⟨c0, 0, none⟩) 1 1, .slice (some ⟨f0, 0, none⟩) 1 1, .slice (some ⟨e0, 0, none⟩) 1 1], .string ⟨#[102]⟩, .slice none 0 0, .pointer (some ⟨sb, 0, none⟩), .int .i64 2] w fun e w' => ∃ q, e = .returned (.tuple #[.pointer (some ⟨q, 0, none⟩), .int .i64 0]) ∧ (∃ m : Mc, ∃ (al ak : Option Addr) (cl ck : Nat) (zc : List Value), m.q = q ∧ m.lo = w.heap.size ∧ Em al cl ak ck ∧ m.cv = .int .i64 2 :: .int .i64 2 :: .string ⟨#[]⟩ :: .slice al 0 cl :: .slice ak 0 ck :: zc ∧ RnS w' m 0 0 2 0 #[.int .i64 0, .int .i64 0, .string ⟨#[]⟩, .slice none 0 0, .slice none 0 0] true) ∧ Below w.heap.size w w' := by
  obtain ⟨M, hMz⟩ : ∃ M, w.heap.size = M := ⟨_, rfl⟩
  have HM : Hid (∀ u, Below w.heap.size w u → IsM u (fun b => b < w.heap.size) shS (some ⟨c0, 0, none⟩) 1 (some ⟨f0, 0, none⟩) 1 (some ⟨e0, 0, none⟩) 1 ∧ u.heap[c0]? = some (.cells #[.int .i64 2, .int .i64 2, .string ⟨#[]⟩, .slice none 0 0, .slice none 0 0] 29 (0, 0)) ∧ u.heap[f0]? = some (.cells #[.int .i64 0, .int .i64 0, .int .i64 1, .string ⟨#[1, 0, 9]⟩] 41 (0, 0))) :=
    hide (fun u hu => ⟨hM.later hu, (hu.block c0 (lt_of_row hc0)).trans hc0, (hu.block f0 (lt_of_row hf0)).trans hf0⟩)
  have HT := hide hT
  clear hM hc0 hf0 hT
  go_enter Tryz.func10, Tryz.ntmps10
  go_upto_region 1 with fail
  obtain ⟨w0, hw0⟩ : ∃ u, w.alloc (.cells #[.slice (some ⟨c0, 0, none⟩) 1 1, .slice (some ⟨f0, 0, none⟩) 1 1, .slice (some ⟨e0, 0, none⟩) 1 1] 47) = u := ⟨_, rfl⟩
  have b0 : Below w.heap.size w w0 := by rw [← hw0]; exact (Below.refl _ _).alloc (Nat.le_refl _) _
  have q0 : w0.heap[M]? = some (.cells #[.slice (some ⟨c0, 0, none⟩) 1 1, .slice (some ⟨f0, 0, none⟩) 1 1, .slice (some ⟨e0, 0, none⟩) 1 1] 47 (0, 0)) := by rw [← hw0, ← hMz]; exact heap_alloc_new _ _
  try rw [hw0]
  try rw [hMz]
  clear hw0
  obtain ⟨g, hg⟩ : ∃ g, w0.heap.size = g := ⟨_, rfl⟩
  have CN := hide (new_ok 2 w0 (by decide))
  go_wp2_with fail
  refine (unhide CN).mono ?_
  rintro e w1 ⟨rfl, e1⟩
  have b1 : Below w0.heap.size w0 w1 := by rw [e1]; exact (Below.refl _ _).alloc (Nat.le_refl _) _
  have g1 : Mt w1 g 2 2 false none := by unfold Mt; rw [e1, ← hg]; exact heap_alloc_new _ _
  try rw [hg]
  have B1 := hide (b0.trans (b1.mono b0.size))
  have q1 := (b1.block M (lt_of_row q0)).trans q0
  have gw : Hid (w.heap.size ≤ g) := hide (by rw [← hg]; exact b0.size)
  clear e1 b1 b0 q0 CN hg
  have CV0 := module_any shS (some ⟨c0, 0, none⟩) 1 1 (some ⟨f0, 0, none⟩) 1 1 (some ⟨e0, 0, none⟩) 1 1 w.heap.size w1 ((unhide HM) w1 (unhide B1)).1 (unhide B1).size (unhide HT).big ((unhide HT).below (unhide B1)) rfl rfl rfl
  rw [shS_mod] at CV0
  simp only [fltV] at CV0
  have CV := hide CV0
  obtain ⟨m0, m1, m2⟩ := row_cell3 q1
  clear CV0
  go_wp2_with fail
  refine (unhide CV).mono ?_
  rintro e w2 ⟨rfl, b2⟩
  have B2 := hide ((unhide B1).trans (b2.mono (unhide B1).size))
  have q2 := (b2.block M (lt_of_row q1)).trans q1
  have g2 := g1.below b2
  clear b2 q1 g1 B1 CV m0 m1 m2
  have CX0 := export_any shS (some ⟨c0, 0, none⟩) (some ⟨f0, 0, none⟩) (some ⟨e0, 0, none⟩) 1 1 1 1 1 1 w.heap.size ⟨#[102]⟩ w2 rfl rfl rfl ((unhide HM) w2 (unhide B2)).1 (unhide B2).size
  rw [shS_exp] at CX0
  have CX := hide CX0
  clear CX0
  obtain ⟨m0, m1, m2⟩ := row_cell3 q2
  have hfl := flt_zero
  go_wp2_with fail
  refine (unhide CX).mono ?_
  rintro e w3 ⟨rfl, b3⟩
  have B3 := hide ((unhide B2).trans (b3.mono (unhide B2).size))
  have q3 := (b3.block M (lt_of_row q2)).trans q2
  have g3 := g2.below b3
  clear b3 q2 g2 B2 CX m0 m1 m2 hfl
  have CK : Hid (∀ F, Calls Tryz.prog 28 #[.slice none 0 0, F] w3 fun e w' => e = .returned (.bool false) ∧ w' = w3) := hide (fun F => contains_none F w3)
  go_wp2_with fail
  refine ((unhide CK) _).mono ?_
  rintro e w4 ⟨rfl, e4⟩
  rw [e4]
  clear e4 w4 CK
  go_upto_region 13 with fail
  have HF : Hid (∀ u, Below w3.heap.size w3 u → u.cell? ⟨M, 0, none⟩ = some (.slice (some ⟨c0, 0, none⟩) 1 1) ∧ u.cell? ⟨M, 1, none⟩ = some (.slice (some ⟨f0, 0, none⟩) 1 1) ∧ u.cell? ⟨M, 2, none⟩ = some (.slice (some ⟨e0, 0, none⟩) 1 1)) := hide (fun u hu => row_cell3 ((hu.block M (lt_of_row q3)).trans q3))
  have HS0 : Hid (Below w3.heap.size w3 w3.drew) := hide ((Below.refl _ _).drew)
  refine till_begin (S := fun w' => Below w3.heap.size w3 w') 9 (by kernel_rfl) ?_
  obtain ⟨W0, hW0⟩ : ∃ W0, w3.drew = W0 := ⟨_, rfl⟩
  try rw [hW0]
  rw [hW0] at HS0
  clear hW0
  refine till_take 0 (v := .pointer (some ⟨M, 0, none⟩)) (some 40) rfl rfl rfl (by kernel_rfl) (by kernel_rfl) (by kernel_rfl) (by kernel_rfl) (fun _ _ _ h => h) (Or.inl ⟨by rfl, fun u hu => by obtain ⟨m0, m1, m2⟩ := unhide HF u hu; go_simp⟩) (unhide HS0) ?_
  try simp only [Act.put, List.setIfInBounds_toArray, List.set_cons_zero, List.set_cons_succ]
  refine till_take 1 (v := .slice (some ⟨c0, 0, none⟩) 1 1) (some 41) rfl rfl rfl (by kernel_rfl) (by kernel_rfl) (by kernel_rfl) (by kernel_rfl) (fun _ _ _ h => h) (Or.inl ⟨by rfl, fun u hu => by obtain ⟨m0, m1, m2⟩ := unhide HF u hu; go_simp⟩) (unhide HS0) ?_
  try simp only [Act.put, List.setIfInBounds_toArray, List.set_cons_zero, List.set_cons_succ]
  refine till_take 3 (v := .agg #[.slice (some ⟨c0, 0, none⟩) 1 1, .slice (some ⟨f0, 0, none⟩) 1 1, .slice (some ⟨e0, 0, none⟩) 1 1]) (some 43) rfl rfl rfl (by kernel_rfl) (by kernel_rfl) (by kernel_rfl) (by kernel_rfl) (fun _ _ _ h => h) (Or.inl ⟨by rfl, fun u hu => by obtain ⟨m0, m1, m2⟩ := unhide HF u hu; go_simp⟩) (unhide HS0) ?_
  try simp only [Act.put, List.setIfInBounds_toArray, List.set_cons_zero, List.set_cons_succ]
  refine till_take 5 (v := .pointer (some ⟨sb, 0, none⟩)) (some 45) rfl rfl rfl (by kernel_rfl) (by kernel_rfl) (by kernel_rfl) (by kernel_rfl) (fun _ _ _ h => h) (Or.inl ⟨by rfl, fun u hu => by obtain ⟨m0, m1, m2⟩ := unhide HF u hu; go_simp⟩) (unhide HS0) ?_
  try simp only [Act.put, List.setIfInBounds_toArray, List.set_cons_zero, List.set_cons_succ]
  refine till_take 6 (v := .pointer (some ⟨g, 0, none⟩)) (some 46) rfl rfl rfl (by kernel_rfl) (by kernel_rfl) (by kernel_rfl) (by kernel_rfl) (fun _ _ _ h => h) (Or.inl ⟨by rfl, fun u hu => by obtain ⟨m0, m1, m2⟩ := unhide HF u hu; go_simp⟩) (unhide HS0) ?_
  try simp only [Act.put, List.setIfInBounds_toArray, List.set_cons_zero, List.set_cons_succ]
  have CW := hide (copies_one ((unhide HM) W0 ((unhide B3).trans ((unhide HS0).mono (unhide B3).size))).2.1)
  refine till_one 2 (by kernel_rfl) rfl (fun K hK => ?_)
  go_simp
  refine (unhide CW).mono ?_
  rintro e W1 ⟨o, al, cl, ak, ck, rfl, hem, ho, bb⟩
  have HEm := hide hem
  clear hem
  obtain ⟨c, cc, zc, rfl, hcc, hcb, hch⟩ := own_one ho
  have hcc3 : w3.heap.size ≤ c := Nat.le_trans (unhide HS0).size hcb
  have HS1 : Hid (Below w3.heap.size w3 W1) := hide ((unhide HS0).trans (bb.mono (unhide HS0).size))
  clear CW bb ho hcb
  go_wp2_with fail
  refine hK.out _ _ (Or.inr (unhide HS1)) ?_
  clear hK K HS0
  try simp only [Act.put, List.setIfInBounds_toArray, List.set_cons_zero, List.set_cons_succ]
  have CW := hide (functions_one (A := .slice (some ⟨c0, 0, none⟩) 1 1) (B := .slice (some ⟨e0, 0, none⟩) 1 1) ((unhide HM) W1 ((unhide B3).trans ((unhide HS1).mono (unhide B3).size))).2.2)
  refine till_one 4 (by kernel_rfl) rfl (fun K hK => ?_)
  go_simp
  refine (unhide CW).mono ?_
  rintro e W2 ⟨o, b, bc, rfl, hb1, hb2, hb3, hb8, ho, bb⟩
  obtain ⟨f, fc, zf, rfl, hfc, hfb, hfh⟩ := own_one ho
  have hch2 := (bb.block c (lt_of_row hch)).trans hch
  have hb3w : w3.heap.size ≤ b := Nat.le_trans (unhide HS1).size hb1
  have HS2 : Hid (Below w3.heap.size w3 W2) := hide ((unhide HS1).trans (bb.mono (unhide HS1).size))
  clear CW bb ho hch hb1
  go_wp2_with fail
  refine hK.out _ _ (Or.inr (unhide HS2)) ?_
  clear hK K HS1
  try simp only [Act.put, List.setIfInBounds_toArray, List.set_cons_zero, List.set_cons_succ]
  refine till_one 7 (by kernel_rfl) rfl (fun K hK => ?_)
  go_simp
  refine hK.out _ _ (Or.inr (unhide HS2)) ?_
  clear hK K
  try simp only [Act.put, List.setIfInBounds_toArray, List.set_cons_zero, List.set_cons_succ]
  refine till_one 8 (by kernel_rfl) rfl (fun K hK => ?_)
  go_simp
  obtain ⟨q, hqq⟩ : ∃ q, W2.heap.size = q := ⟨_, rfl⟩
  obtain ⟨W3, hW3⟩ : ∃ u, W2.alloc (.cells (rnC (.slice (some ⟨c, 0, none⟩) 1 cc) (.slice (some ⟨f, 0, none⟩) 1 fc) (.pointer (some ⟨sb, 0, none⟩)) (.slice none 0 0) g 0) 62) = u := ⟨_, rfl⟩
  have hq3 : W3.heap[q]? = some (.cells (rnC (.slice (some ⟨c, 0, none⟩) 1 cc) (.slice (some ⟨f, 0, none⟩) 1 fc) (.pointer (some ⟨sb, 0, none⟩)) (.slice none 0 0) g 0) 62 (0, 0)) := by rw [← hW3, ← hqq]; exact heap_alloc_new _ _
  have b23 : Below W2.heap.size W2 W3 := by rw [← hW3]; exact (Below.refl _ _).alloc (Nat.le_refl _) _
  have HS3 : Hid (Below w3.heap.size w3 W3) := hide ((unhide HS2).trans (b23.mono (unhide HS2).size))
  have hq3z : w3.heap.size ≤ q := by rw [← hqq]; exact (unhide HS2).size
  have hc3 := (b23.block c (lt_of_row hch2)).trans hch2
  have hf3 := (b23.block f (lt_of_row hfh)).trans hfh
  have h83 := hb8.later b23
  have hbq : b < q := by rw [← hqq]; exact hb2
  unfold rnC at hW3
  rw [hW3]
  rw [hqq]
  clear hW3 b23 hch2 hfh hb8 hb2
  refine hK.out _ _ (Or.inr (unhide HS3)) ?_
  clear hK K HS2 hqq
  try simp only [Act.put, List.setIfInBounds_toArray, List.set_cons_zero, List.set_cons_succ]
  refine till_one 9 (by kernel_rfl) rfl (fun K hK => ?_)
  go_simp
  refine hK.out _ _ (Or.inl (by first | rfl | trivial)) ?_
  clear hK K HF
  try simp only [Act.put, List.setIfInBounds_toArray, List.set_cons_zero, List.set_cons_succ]
  refine till_done (by kernel_rfl) ?_ _
  have g4 := g3.below (unhide HS3)
  have B4 := hide ((unhide B3).trans ((unhide HS3).mono (unhide B3).size))
  have LOC : Hid (w3.heap.size ≤ c ∧ w3.heap.size ≤ b ∧ g < w3.heap.size) := hide ⟨hcc3, hb3w, g3.lt⟩
  have B3z := hide (unhide B3).size
  clear g3 B3 q3
  obtain ⟨x0, x1, x2, x3⟩ := four_cells hf3
  obtain ⟨p0, p1, p2, p3, p4, p5⟩ := rn_cells hq3
  have CP := hide (copies_none W3)
  go_wp2_with fail
  refine (unhide CP).mono ?_
  rintro e w4 ⟨rfl, e4⟩
  rw [e4]
  clear e4 w4 CP x0 x1 x2 x3 p0 p1 p2 p3 p4 p5
  have CE := hide (enter_one hfc hq3 hf3)
  go_wp2_with fail
  refine (unhide CE).mono ?_
  rintro e w5 ⟨rfl, r, rc, t, Lv, z, hr1, ht1, hrc, hq5, hr5, ht5, hb5⟩
  have HB : Hid (Below w.heap.size w w5) := hide ((unhide B4).trans (hb5.low (fun k e => by rw [e]; exact Nat.le_trans (unhide B3z) hq3z) (unhide B4).size))
  have HE : Hid (∃ m : Mc, ∃ (al ak : Option Addr) (cl ck : Nat) (zc : List Value), m.q = q ∧ m.lo = w.heap.size ∧ Em al cl ak ck ∧ m.cv = .int .i64 2 :: .int .i64 2 :: .string ⟨#[]⟩ :: .slice al 0 cl :: .slice ak 0 ck :: zc ∧ RnS w5 m 0 0 2 0 #[.int .i64 0, .int .i64 0, .string ⟨#[]⟩, .slice none 0 0, .slice none 0 0] true) := hide (by
    have hgq := ne_of_types g4 hq3 (by rfl)
    have hfq := ne_of_types hf3 hq3 (by rfl)
    have hcq := ne_of_types hc3 hq3 (by rfl)
    have hbl := unhide HB
    have hs := (unhide HS3).size
    have hl1 := (unhide LOC).1
    have hl2 := (unhide LOC).2.1
    have hl3 := (unhide LOC).2.2
    have hwg := unhide gw
    have hqlt := lt_of_row hq3
    refine ⟨⟨w.heap.size, q, g, r, t, f, b, c, rc, fc, bc, cc, .pointer (some ⟨sb, 0, none⟩), Lv, z, zf, _⟩, al, ak, cl, ck, zc, rfl, rfl, unhide HEm, rfl, ?_⟩
    exact ⟨hq5, hr5, ht5, (hb5.block f (lt_of_row hf3) hfq).trans hf3, ⟨by show b ≠ q; omega, by show b ≠ g; omega, by show b ≠ r; omega, by show b ≠ t; omega, by show b < w5.heap.size; have := hb5.size; omega⟩, row8_block h83 (hb5.block b (by omega) (by omega)), g4.later (hb5.block g g4.lt hgq), (unhide HT).below hbl, fun _ => (hb5.block c (lt_of_row hc3) hcq).trans hc3, ⟨(unhide HT).big, by show w.heap.size ≤ q; omega, by show w.heap.size ≤ g; omega, by show w.heap.size ≤ r; omega, by show w.heap.size ≤ t; omega, hbl.size⟩, ⟨hrc, hfc, hb3, hcc⟩⟩)
  clear hb5 hq5 hr5 ht5 hc3 hf3 h83 g4 CE B4
  go_wp2_with fail
  go_ret2
  exact ⟨q, rfl, unhide HE, unhide HB⟩
theorem goes_ended {w : World} {q g : Nat} {n x0 x1 left : Int} {x2 : ByteArray} {al ak : Option Addr} {ll cl lk ck : Nat} (h : w.heap[q]? = some (.cells (enC g n x0 x1 x2 al ll cl ak lk ck left) 62 (0, 0))) : Calls Tryz.prog 11 #[.pointer (some ⟨q, 0, none⟩)] w fun e w' => e = .returned (.bool false) ∧ w' = w := by
  have c4 : w.cell? ⟨q, 4, none⟩ = some (.slice none 0 0) := by rw [cell_of_row w _ 4 _ _ (0, 0) h]; rfl
  clear h
  go_enter Tryz.func11, Tryz.ntmps11
  go_wp2_with fail
  go_ret
  exact ⟨rfl, rfl⟩
theorem step_ended {w : World} {q g : Nat} {n x0 x1 left : Int} {x2 : ByteArray} {al ak : Option Addr} {ll cl lk ck : Nat} (h : w.heap[q]? = some (.cells (enC g n x0 x1 x2 al ll cl ak lk ck left) 62 (0, 0))) : Calls Tryz.prog 5 #[.pointer (some ⟨q, 0, none⟩)] w fun e w' => e = .returned (.bool false) ∧ w' = w := by
  have C := hide (goes_ended h)
  clear h
  go_enter Tryz.func5, Tryz.ntmps5
  go_wp2_with fail
  refine (unhide C).mono ?_
  rintro e w1 ⟨rfl, e1⟩
  rw [e1]
  clear e1
  go_wp2_with fail
  go_ret
  exact ⟨rfl, rfl⟩
set_option maxRecDepth 100000 in
set_option maxHeartbeats 8000000 in
theorem run_shown {w : World} {m : Mc} {al ak : Option Addr} {cl ck : Nat} {zc : List Value} (hcv : m.cv = .int .i64 2 :: .int .i64 2 :: .string ⟨#[]⟩ :: .slice al 0 cl :: .slice ak 0 ck :: zc) (h : RnS w m 0 0 2 0 #[.int .i64 0, .int .i64 0, .string ⟨#[]⟩, .slice none 0 0, .slice none 0 0] true) : Calls Tryz.prog 6 #[.pointer (some ⟨m.q, 0, none⟩), .int .i64 5] w fun e w' => e = .returned (.int .i64 2) ∧ w'.heap[m.q]? = some (.cells (enC m.g 2 2 2 ⟨#[]⟩ al 0 cl ak 0 ck 0) 62 (0, 0)) ∧ Mt w' m.g 2 0 false none ∧ Below m.lo w w' := by
  have hlo := h.lo.2.2.2.2.2
  have C1 := hide (step_one hcv h)
  clear h hcv
  go_enter Tryz.func6, Tryz.ntmps6
  go_wp2_with fail
  go_loopw [5] (fun d wr => d = .int .i64 0 ∧ wr = w ∨ d = .int .i64 1 ∧ Hid (RnS wr m 1 2 1 1 #[.int .i64 2, .int .i64 2, .string ⟨#[]⟩, .slice al 0 cl, .slice ak 0 ck] false ∧ Below m.lo w wr) ∨ d = .int .i64 2 ∧ Hid (wr.heap[m.q]? = some (.cells (enC m.g 2 2 2 ⟨#[]⟩ al 0 cl ak 0 ck 0) 62 (0, 0)) ∧ Mt wr m.g 2 0 false none ∧ Below m.lo w wr)) (fun d _ => (2 - intOf d).toNat)
  case atStart => exact Or.inl ⟨rfl, rfl⟩
  case round =>
    rcases hrel with ⟨rfl, rfl⟩ | ⟨rfl, HR⟩ | ⟨rfl, HR⟩
    · go_wp2_with fail
      refine (unhide C1).mono ?_
      rintro e w1 ⟨rfl, h1, b1⟩
      have HR := hide (And.intro h1 b1)
      clear h1 b1
      go_wp2_with fail
      go_roundw
      case rel => exact Or.inr (Or.inl ⟨rfl, HR⟩)
      case measure => simp [intOf]
    · have C2 := hide (step_two (unhide HR).1)
      go_wp2_with fail
      refine (unhide C2).mono ?_
      rintro e w1 ⟨rfl, h1, h2, b1⟩
      have HQ := hide (And.intro h1 (And.intro h2 ((unhide HR).2.trans b1)))
      clear h1 h2 b1 C2
      go_wp2_with fail
      go_roundw
      case rel => exact Or.inr (Or.inr ⟨rfl, HQ⟩)
      case measure => simp [intOf]
    · have C3 := hide (step_ended (unhide HR).1)
      go_wp2_with fail
      refine (unhide C3).mono ?_
      rintro e w1 ⟨rfl, e1⟩
      rw [e1]
      clear e1 C3
      go_wp2_with fail
      go_ret
      exact ⟨rfl, unhide HR⟩
end Go.Proofs.YtmnbfcpkaglniaaGreatDoor
