/-
  Layer 12, the walk of VerifyMore: what stands behind in a module changes no fault of a function; conditions: the package's variables, the form's own reach.
-/
import Derived.Test.YtdlgehnplkeoiaaGreatDoorB40
import Derived.Test.YtdlgehnplkeoiaaGreatDoorB45
import Derived.Test.YtdlgehnplkeoiaaGreatDoorB46
import Derived.Test.YtdlgehnplkeoiaaGreatDoorB50
import Derived.BigQuiet
import Derived.Deep.QuietTactic
set_option linter.unusedVariables false
set_option linter.unusedSimpArgs false
namespace Go.Proofs.YtdlgehnplkeoiaaGreatDoor
open Go.RowKit
set_option linter.unusedVariables false
set_option linter.unusedSimpArgs false

theorem right_few {m : Md} (h : rightM m = true) : m.cs.length ≤ 100 ∧ m.fs.length ≤ 24 ∧ m.xs.length ≤ 24 := by
  unfold rightM formedB at h
  simp only [Bool.and_eq_true, decide_eq_true_eq] at h
  exact ⟨h.1.1.1.1.1.1, h.1.1.1.1.1.2, h.1.1.1.1.2⟩

set_option maxRecDepth 100000 in
set_option maxHeartbeats 8000000 in
theorem more_any (m : Md) (b1 : Option Addr) (n1 d1 : Nat) (b2 : Option Addr) (n2 d2 : Nat) (b3 : Option Addr) (n3 d3 : Nat) (v : Vl) (k0 n0 : Int) (s0 : ByteArray) (al ak : Option Addr) (ll cl mm ck : Nat) (p l s : Int) (tt : ByteArray) (w : World)
    (hM : IsM w (fun b => b < w.heap.size) m b1 d1 b2 d2 b3 d3) (hT : Tab2 w) (hn1 : m.cs.length = n1) (hn2 : m.fs.length = n2) (hn3 : m.xs.length = n3) (hb1 : 80 * n1 ≤ 140737488351232) (hb2 : 40 * n2 ≤ 140737488351232) (hb3 : 24 * n3 ≤ 140737488351232)
    (hv : IsV w w.heap.size v (.agg #[.int .i64 k0, .int .i64 n0, .string s0, .slice al ll cl, .slice ak mm ck])) (htz : tt.size ≤ 140737488351232) :
    Calls Tryz.prog 6 #[.agg #[.slice b1 n1 d1, .slice b2 n2 d2, .slice b3 n3 d3], .agg #[.int .i64 k0, .int .i64 n0, .string s0, .slice al ll cl, .slice ak mm ck], .agg #[.int .i64 p, .int .i64 l, .int .i64 s, .string tt]] w fun e w' => e = .returned (.bool true) ∧ Below w.heap.size w w' := by
  obtain ⟨G, hG⟩ : ∃ G, w.heap.size = G := ⟨_, rfl⟩
  have hbig := hT.big
  obtain ⟨w1, hw1⟩ : ∃ w1, w.alloc (.cells #[.slice b1 n1 d1, .slice b2 n2 d2, .slice b3 n3 d3] 27) = w1 := ⟨_, rfl⟩
  have z1 : w1.heap.size = G + 1 := by rw [← hw1, ← hG]; simp
  have A1 : w1.heap[G]? = some (.cells #[.slice b1 n1 d1, .slice b2 n2 d2, .slice b3 n3 d3] 27 (0, 0)) := by rw [← hw1, ← hG]; exact heap_alloc_new _ _
  have B1 : Below w.heap.size w w1 := by rw [← hw1]; exact (Below.refl _ _).alloc (Nat.le_refl _) _
  obtain ⟨w2, hw2⟩ : ∃ w2, w1.alloc (.cells #[.int .i64 k0, .int .i64 n0, .string s0, .slice al ll cl, .slice ak mm ck] 45) = w2 := ⟨_, rfl⟩
  have z2 : w2.heap.size = G + 2 := by rw [← hw2]; simp; omega
  have A2 : w2.heap[G + 1]? = some (.cells #[.int .i64 k0, .int .i64 n0, .string s0, .slice al ll cl, .slice ak mm ck] 45 (0, 0)) := by rw [← hw2, ← z1]; exact heap_alloc_new _ _
  have B2 : Below w1.heap.size w1 w2 := by rw [← hw2]; exact (Below.refl _ _).alloc (Nat.le_refl _) _
  obtain ⟨w3, hw3⟩ : ∃ w3, w2.alloc (.cells #[.int .i64 p, .int .i64 l, .int .i64 s, .string tt] 42) = w3 := ⟨_, rfl⟩
  have z3 : w3.heap.size = G + 3 := by rw [← hw3]; simp; omega
  have A3 : w3.heap[G + 2]? = some (.cells #[.int .i64 p, .int .i64 l, .int .i64 s, .string tt] 42 (0, 0)) := by rw [← hw3, ← z2]; exact heap_alloc_new _ _
  have B3 : Below w2.heap.size w2 w3 := by rw [← hw3]; exact (Below.refl _ _).alloc (Nat.le_refl _) _
  have BW : Below w.heap.size w w3 := B1.trans ((B2.trans (B3.mono B2.size)).mono B1.size)
  have KEEP : Hid (∀ u, Below w3.heap.size w3 u → u.heap[G]? = some (.cells #[.slice b1 n1 d1, .slice b2 n2 d2, .slice b3 n3 d3] 27 (0, 0)) ∧ u.heap[G + 1]? = some (.cells #[.int .i64 k0, .int .i64 n0, .string s0, .slice al ll cl, .slice ak mm ck] 45 (0, 0)) ∧ u.heap[G + 2]? = some (.cells #[.int .i64 p, .int .i64 l, .int .i64 s, .string tt] 42 (0, 0)) ∧ IsM u (fun b => b < w.heap.size) m b1 d1 b2 d2 b3 d3 ∧ IsV u w.heap.size v (.agg #[.int .i64 k0, .int .i64 n0, .string s0, .slice al ll cl, .slice ak mm ck]) ∧ Tab2 u ∧ Below w.heap.size w u ∧ w.heap.size ≤ u.heap.size) := hide (fun u hu => by
    have bu : Below w.heap.size w u := BW.trans (hu.mono BW.size)
    exact ⟨((hu.block G (by omega)).trans (B3.block G (by omega))).trans ((B2.block G (by omega)).trans A1), ((hu.block (G + 1) (by omega)).trans (B3.block (G + 1) (by omega))).trans A2, (hu.block (G + 2) (by omega)).trans A3, hM.later bu, hv.mono bu, hT.below bu, bu, bu.size⟩)
  have HCB := hide hM.cbl
  have HBF := hide (And.intro hM.bf hM.bx)
  have CS := hide (shown_any w3 (unhide KEEP w3 (Below.refl _ _)).2.2.2.2.2.1)
  have HN := hide (And.intro hn1 (And.intro hn2 hn3))
  have hn2b : n2 ≤ 140737488351232 := by omega
  obtain ⟨iv, hiv, hv0, hv1, hv2⟩ := info_parts infoV
  obtain ⟨if_, hif, hf0, hf1, hf2⟩ := info_parts infoFn
  have HIV := hide (And.intro hiv (And.intro hv0 (And.intro hv1 hv2)))
  have HIF := hide (And.intro hif (And.intro hf0 (And.intro hf1 hf2)))
  clear hM hT A1 B1 A2 B2 A3 B3 BW hn1 hn2 hn3 hv hiv hv0 hv1 hv2 hif hf0 hf1 hf2
  go_enter Tryz.func6, Tryz.ntmps6
  go_wp2_with fail
  refine (unhide CS).mono ?_
  rintro e w4 ⟨rfl, x4⟩
  have H4 := hide x4
  have hs4 := (unhide H4).size
  clear x4 CS hw1 hw2 hw3
  obtain ⟨c0, c1, c2⟩ := row_cell3 (unhide KEEP w4 (unhide H4)).1
  have CO := hide (moduleOf_own m b1 n1 d1 b2 n2 d2 b3 n3 d3 w.heap.size w4 (unhide KEEP w4 (unhide H4)).2.2.2.1 (unhide KEEP w4 (unhide H4)).2.2.2.2.2.2.2 (unhide HN).1 (unhide HN).2.1 (unhide HN).2.2 hb1 hb2 hb3)
  go_wp2_with fail
  refine (unhide CO).mono ?_
  rintro e w5 ⟨a1, e1, a2, e2, a3, e3, rfl, hO, x5⟩
  have H5 : Hid (Below w3.heap.size w3 w5) := hide ((unhide H4).trans (x5.mono (unhide H4).size))
  have hs5 := x5.size
  clear c0 c1 c2 CO
  go_upto_region 5 with fail
  obtain ⟨w6, hw6⟩ : ∃ w6, w5.alloc (.cells #[.slice a1 n1 e1, .slice a2 n2 e2, .slice a3 n3 e3] 27) = w6 := ⟨_, rfl⟩
  obtain ⟨Q, hQ⟩ : ∃ Q, w5.heap.size = Q := ⟨_, rfl⟩
  have od6 : w6.heap[Q]? = some (.cells #[.slice a1 n1 e1, .slice a2 n2 e2, .slice a3 n3 e3] 27 (0, 0)) := by rw [← hw6, ← hQ]; exact heap_alloc_new _ _
  have z6 : w6.heap.size = Q + 1 := by rw [← hw6, ← hQ]; simp
  have x6 : Below w5.heap.size w5 w6 := by rw [← hw6]; exact (Below.refl _ _).alloc (Nat.le_refl _) _
  have H6 : Hid (Below w3.heap.size w3 w6) := hide ((unhide H5).trans (x6.mono (unhide H5).size))
  rw [hw6, hQ]
  obtain ⟨V, hGr⟩ : ∃ V, Gr w4 w6 Q (.slice a1 n1 e1) (.slice a2 n2 e2) (.slice a3 n3 e3) m.cs m.fs m.xs V n1 n2 n3 := by
    obtain ⟨V, v1, v2, v3⟩ := hO.oL
    refine ⟨V, x5.trans (x6.mono x5.size), own_base (own_below v1 x6) (by omega), own_base (own_below hO.ob x6) (by omega), own_base (own_below hO.oc x6) (by omega), od6, by omega, v2, fun c y hc hy => ?_⟩
    exact ((v3 c y hc hy).move (fun b hb => x6.block b hb.1)).weak (fun b hb => ⟨by have := hb.1; omega, hb.2.1, hb.2.2, by have := hb.1; omega⟩)
  have HGR := hide hGr
  obtain ⟨L1, hL1⟩ : ∃ L1 : Value, Value.slice a1 n1 e1 = L1 := ⟨_, rfl⟩
  obtain ⟨L2, hL2⟩ : ∃ L2 : Value, Value.slice a2 n2 e2 = L2 := ⟨_, rfl⟩
  obtain ⟨L3, hL3⟩ : ∃ L3 : Value, Value.slice a3 n3 e3 = L3 := ⟨_, rfl⟩
  rw [hL1, hL2, hL3] at HGR
  have t0 : w6.cell? ⟨Q, 0, none⟩ = some L1 := by rw [← hL1]; exact (row_cell3 od6).1
  obtain ⟨e0, e1', e2', e3', e4⟩ : w6.cell? ⟨G + 1, 0, none⟩ = some (.int .i64 k0) ∧ w6.cell? ⟨G + 1, 1, none⟩ = some (.int .i64 n0) ∧ w6.cell? ⟨G + 1, 2, none⟩ = some (.string s0) ∧ w6.cell? ⟨G + 1, 3, none⟩ = some (.slice al ll cl) ∧ w6.cell? ⟨G + 1, 4, none⟩ = some (.slice ak mm ck) := by
    have h := (unhide KEEP w6 (unhide H6)).2.1
    exact ⟨by rw [cell_of_row w6 _ 0 _ _ (0, 0) h]; rfl, by rw [cell_of_row w6 _ 1 _ _ (0, 0) h]; rfl, by rw [cell_of_row w6 _ 2 _ _ (0, 0) h]; rfl, by rw [cell_of_row w6 _ 3 _ _ (0, 0) h]; rfl, by rw [cell_of_row w6 _ 4 _ _ (0, 0) h]; rfl⟩
  have hdr : Below w6.heap.size w6 w6.drew := (Below.refl _ _).drew
  have hwB : w.heap.size ≤ w6.heap.size := (unhide KEEP w6 (unhide H6)).2.2.2.2.2.2.2
  have CR := hide (copied_two v _ w.heap.size w6.drew ((unhide KEEP w6 (unhide H6)).2.2.2.2.1.mono (hdr.mono hwB)) (by have := hdr.size; omega))
  have hLb : ∀ q, L1.ownBlock = some q → w4.heap.size ≤ q ∧ q < w6.heap.size := (unhide HGR).oL.lt
  have hLb2 : ∀ q, L2.ownBlock = some q → w4.heap.size ≤ q ∧ q < w6.heap.size := (unhide HGR).ob.lt
  have HLb := hide (And.intro hLb hLb2)
  have hQl : Q < w6.heap.size := by omega
  have hQG : w4.heap.size ≤ Q := by omega
  clear hw6 hQ od6 x6 hGr hO x5 hL1 hL2 hL3 hdr hLb hLb2 hs5
  refine till_begin (S := fun w' => w'.cell? ⟨Q, 0, none⟩ = some L1 ∧ w'.cell? ⟨G + 1, 0, none⟩ = some (.int .i64 k0) ∧ w'.cell? ⟨G + 1, 1, none⟩ = some (.int .i64 n0) ∧ w'.cell? ⟨G + 1, 2, none⟩ = some (.string s0) ∧ w'.cell? ⟨G + 1, 3, none⟩ = some (.slice al ll cl) ∧ w'.cell? ⟨G + 1, 4, none⟩ = some (.slice ak mm ck)) 7 (by kernel_rfl) ?_
  have HS0 := And.intro t0 (And.intro e0 (And.intro e1' (And.intro e2' (And.intro e3' e4))))
  refine till_take 0 (v := .pointer (some ⟨Q, 0, none⟩)) (some 22) rfl rfl rfl (by kernel_rfl) (by kernel_rfl) (by kernel_rfl) (by kernel_rfl) (fun _ _ _ h => h) (Or.inl ⟨by rfl, fun u hu => by obtain ⟨s0, s1, s2, s3, s4, s5⟩ := hu; go_simp⟩) HS0 ?_
  try simp only [Act.put, List.setIfInBounds_toArray, List.set_cons_zero, List.set_cons_succ]
  refine till_take 1 (v := L1) (some 23) rfl rfl rfl (by kernel_rfl) (by kernel_rfl) (by kernel_rfl) (by kernel_rfl) (fun _ _ _ h => h) (Or.inl ⟨by rfl, fun u hu => by obtain ⟨s0, s1, s2, s3, s4, s5⟩ := hu; go_simp⟩) HS0 ?_
  try simp only [Act.put, List.setIfInBounds_toArray, List.set_cons_zero, List.set_cons_succ]
  refine till_take 2 (v := .agg #[.int .i64 k0, .int .i64 n0, .string s0, .slice al ll cl, .slice ak mm ck]) (some 24) rfl rfl rfl (by kernel_rfl) (by kernel_rfl) (by kernel_rfl) (by kernel_rfl) (fun _ _ _ h => h) (Or.inl ⟨by rfl, fun u hu => by obtain ⟨s0, s1, s2, s3, s4, s5⟩ := hu; go_simp⟩) HS0 ?_
  try simp only [Act.put, List.setIfInBounds_toArray, List.set_cons_zero, List.set_cons_succ]
  refine till_one 3 (by kernel_rfl) rfl (fun K hK => ?_)
  go_simp
  refine (unhide CR).mono ?_
  rintro e w7 ⟨x5, rfl, h5, b5, hfew, hnf⟩
  have b6 := below_drew_of' b5
  have hz5 := b6.size
  obtain ⟨k5, n5, s5, l5, ks5, al5, ak5, cl5, ck5, hy5, rfl⟩ := h5.shape
  obtain ⟨lc5, hlc5⟩ : ∃ lc5, l5.length = lc5 := ⟨_, rfl⟩
  obtain ⟨mc5, hmc5⟩ : ∃ mc5, ks5.length = mc5 := ⟨_, rfl⟩
  rw [hlc5, hmc5] at h5 hfew hnf ⊢
  have HEl : Hid (IsP w7 (fun b => b < w7.heap.size ∧ some b ≠ L1.ownBlock ∧ some b ≠ L2.ownBlock ∧ b ≠ Q) v (.agg [.int .i64 k5, .int .i64 n5, .string s5, .slice al5 lc5 cl5, .slice ak5 mc5 ck5].toArray) ∧ Below w6.heap.size w6 w7) := hide (by
    refine ⟨?_, b6⟩
    cases hF : fewB v with
    | true =>
      have hq := (hfew hF).1
      refine hq.weak (fun b hb => ?_)
      have hb1 : w6.heap.size ≤ b := hb.1
      exact ⟨hb.2, fun e => by have := ((unhide HLb).1 b e.symm).2; omega, fun e => by have := ((unhide HLb).2 b e.symm).2; omega, by omega⟩
    | false =>
      have hx := hnf hF
      rw [hx]
      have hv5 := (unhide KEEP w6 (unhide H6)).2.2.2.2.1.mono (b6.mono hwB)
      refine hv5.weak (fun b hb => ?_)
      have hbB : b < w.heap.size := hb
      exact ⟨by omega, fun e => by have := ((unhide HLb).1 b e.symm).1; omega, fun e => by have := ((unhide HLb).2 b e.symm).1; omega, by omega⟩)
  have HS5 := And.intro (cell_later b6 t0) (And.intro (cell_later b6 e0) (And.intro (cell_later b6 e1') (And.intro (cell_later b6 e2') (And.intro (cell_later b6 e3') (cell_later b6 e4)))))
  clear b5 b6 h5 hy5 hlc5 hmc5 CR hfew hnf
  go_wp2_with fail
  refine hK.out _ _ (Or.inr HS5) ?_
  clear hK K HS0 t0 e0 e1' e2' e3' e4
  try simp only [Act.put, List.setIfInBounds_toArray, List.set_cons_zero, List.set_cons_succ]
  refine till_one 4 (by kernel_rfl) rfl (fun K hK => ?_)
  go_simp
  obtain ⟨w8, hw8⟩ : ∃ w8, w7.alloc (.cells #[.int .i64 k5, .int .i64 n5, .string s5, .slice al5 lc5 cl5, .slice ak5 mc5 ck5] 45) = w8 := ⟨_, rfl⟩
  have X8 : Below w7.heap.size w7 w8 := by rw [← hw8]; exact (Below.refl _ _).alloc (Nat.le_refl _) _
  have at8 : w8.heap[w7.heap.size]? = some (.cells #[.int .i64 k5, .int .i64 n5, .string s5, .slice al5 lc5 cl5, .slice ak5 mc5 ck5] 45 (0, 0)) := by rw [← hw8]; exact heap_alloc_new w7 _
  have sz8 : w8.heap.size = w7.heap.size + 1 := by rw [← hw8]; simp
  rw [hw8]
  have HS6 := And.intro (cell_later X8 HS5.1) (And.intro (cell_later X8 HS5.2.1) (And.intro (cell_later X8 HS5.2.2.1) (And.intro (cell_later X8 HS5.2.2.2.1) (And.intro (cell_later X8 HS5.2.2.2.2.1) (cell_later X8 HS5.2.2.2.2.2)))))
  have OL6 : Hid (w8.ownsRow w4.heap.size 45 5 L1 n1 (flat V n1)) := hide (own_below (own_below (unhide HGR).oL (unhide HEl).2) X8)
  have OD6 : Hid (w8.heap[Q]? = some (.cells #[L1, L2, L3] 27 (0, 0))) := hide ((X8.block Q (by omega)).trans (((unhide HEl).2.block Q hQl).trans (unhide HGR).od))
  have H8 := hide (And.intro X8 (And.intro at8 sz8))
  obtain ⟨h5s, hh5s⟩ : ∃ h5s, w7.heap.size = h5s := ⟨_, rfl⟩
  rw [hh5s] at at8 sz8 ⊢
  refine hK.out _ _ (Or.inr HS6) ?_
  clear hK K hw8 X8 HS5
  try simp only [Act.put, List.setIfInBounds_toArray, List.set_cons_zero, List.set_cons_succ]
  refine till_one 5 (by kernel_rfl) rfl (fun K hK => ?_)
  refine step_append_lies _ (by rfl) _ _ 23 (by rfl) w4.heap.size 45 iv (.agg #[.int .i64 0, .int .i64 0, .string ⟨#[]⟩, .slice none 0 0, .slice none 0 0]) 5 80 Tryz.underlying23 (unhide HIV).1 (unhide HIV).2.1 (unhide HIV).2.2.1 (unhide HIV).2.2.2 rfl (by omega) L1 n1 (flat V n1) (by rfl) (unhide OL6) ⟨h5s, 0, none⟩ 1 1 [.int .i64 k5, .int .i64 n5, .string s5, .slice al5 lc5 cl5, .slice ak5 mc5 ck5] (by rfl) (by rfl) (fun j u hu => World.news_of_block at8 j u (by simpa using hu)) (by simp [Value.oneCell']) (by omega) (by unfold maxLen; omega) (by omega) (by omega) w8.heap.size rfl ?_
  intro g7 cap7 w9 hown7 hgrow7 hat7 hlt7
  change K (Act.put _ (some 27) _) w9
  have hLQ := own_off (unhide OL6) (unhide OD6) (by decide)
  have od7 : w9.heap[Q]? = some (.cells #[L1, L2, L3] 27 (0, 0)) := (hgrow7.block Q (by omega) (fun e => hLQ e.symm)).trans (unhide OD6)
  have kp7 : ∀ (p : Addr) (x : Value), p.block < w4.heap.size → w8.cell? p = some x → w9.cell? p = some x := fun p x hp hx => (hgrow7.cell_far p (World.block_lt_of_cell? _ _ (by rw [hx])) (fun e => by have := ((unhide HLb).1 _ e.symm).1; omega)).trans hx
  have HS7 := And.intro (show w9.cell? ⟨Q, 0, none⟩ = some L1 by rw [cell_of_row w9 Q 0 _ _ (0, 0) od7]; rfl) (And.intro (kp7 _ _ (by show G + 1 < _; omega) HS6.2.1) (And.intro (kp7 _ _ (by show G + 1 < _; omega) HS6.2.2.1) (And.intro (kp7 _ _ (by show G + 1 < _; omega) HS6.2.2.2.1) (And.intro (kp7 _ _ (by show G + 1 < _; omega) HS6.2.2.2.2.1) (kp7 _ _ (by show G + 1 < _; omega) HS6.2.2.2.2.2)))))
  have H9 := hide (And.intro hown7 (And.intro hgrow7 (And.intro hat7 hlt7)))
  have f7 := frozen_of_row w9 Q 0 _ _ od7
  refine hK.out _ _ (Or.inr HS7) ?_
  clear hK K kp7 hown7 hgrow7 hat7 hlt7 HS6 od7
  try simp only [Act.put, List.setIfInBounds_toArray, List.set_cons_zero, List.set_cons_succ]
  refine till_take 6 (v := .pointer (some ⟨Q, 0, none⟩)) (some 28) rfl rfl rfl (by kernel_rfl) (by kernel_rfl) (by kernel_rfl) (by kernel_rfl) (fun _ _ _ h => h) (Or.inl ⟨by rfl, fun u hu => by obtain ⟨s0, s1, s2, s3, s4, s5⟩ := hu; go_simp⟩) HS7 ?_
  try simp only [Act.put, List.setIfInBounds_toArray, List.set_cons_zero, List.set_cons_succ]
  refine till_one 7 (by kernel_rfl) rfl (fun K hK => ?_)
  obtain ⟨c7, _⟩ := HS7
  go_simp
  refine hK.out _ _ (Or.inl rfl) ?_
  clear hK K
  try simp only [Act.put, List.setIfInBounds_toArray, List.set_cons_zero, List.set_cons_succ]
  refine till_done (by kernel_rfl) ?_ _
  obtain ⟨wA, hwA⟩ : ∃ wA, w9.setCell ⟨Q, 0, none⟩ (.slice (some ⟨g7, 0, none⟩) (n1 + 1) cap7) = wA := ⟨_, rfl⟩
  have HGA : Hid (Gr w4 wA Q (.slice (some ⟨g7, 0, none⟩) (n1 + 1) cap7) L2 L3 (m.cs ++ [v]) m.fs m.xs (setV V n1 [.int .i64 k5, .int .i64 n5, .string s5, .slice al5 lc5 cl5, .slice ak5 mc5 ck5]) (n1 + 1) n2 n3) := hide (by
    rw [← hwA]
    obtain ⟨hown7, hgrow7, hat7, hlt7⟩ := unhide H9
    exact (unhide HGR).pushC (unhide HN).1 (unhide HEl).2 (unhide H8).1 hown7 hgrow7 hat7 hlt7 rfl (unhide HEl).1)
  rw [hwA]
  clear hwA f7 c7 H9 H8 HEl OL6 OD6 HLb
  generalize setV V n1 [.int .i64 k5, .int .i64 n5, .string s5, .slice al5 lc5 cl5, .slice ak5 mc5 ck5] = VA at HGA
  have HA : Hid (Below w3.heap.size w3 wA) := hide ((unhide H4).trans ((unhide HGA).below.mono (unhide H4).size))
  obtain ⟨wB, hwB'⟩ : ∃ wB, wA.alloc (.cells #[.int .i64 p, .int .i64 l, .int .i64 s, .string tt] 42) = wB := ⟨_, rfl⟩
  have xB : Below wA.heap.size wA wB := by rw [← hwB']; exact (Below.refl _ _).alloc (Nat.le_refl _) _
  have atB : wB.heap[wA.heap.size]? = some (.cells #[.int .i64 p, .int .i64 l, .int .i64 s, .string tt] 42 (0, 0)) := by rw [← hwB']; exact heap_alloc_new wA _
  have HXB := hide (And.intro xB atB)
  have hQA : Q < wA.heap.size := (Array.getElem?_eq_some_iff.1 (unhide HGA).od).1
  have odB : Hid (wB.heap[Q]? = some (.cells #[.slice (some ⟨g7, 0, none⟩) (n1 + 1) cap7, L2, L3] 27 (0, 0))) := hide ((xB.block Q hQA).trans (unhide HGA).od)
  have hsB := xB.size
  have hsA := (unhide HGA).below.size
  obtain ⟨u0, u1, u2⟩ := row_cell3 (unhide HGA).od
  obtain ⟨q0, q1, q2, q3⟩ : wA.cell? ⟨G + 2, 0, none⟩ = some (.int .i64 p) ∧ wA.cell? ⟨G + 2, 1, none⟩ = some (.int .i64 l) ∧ wA.cell? ⟨G + 2, 2, none⟩ = some (.int .i64 s) ∧ wA.cell? ⟨G + 2, 3, none⟩ = some (.string tt) := by
    have h := (unhide KEEP wA (unhide HA)).2.2.1
    exact ⟨by rw [cell_of_row wA _ 0 _ _ (0, 0) h]; rfl, by rw [cell_of_row wA _ 1 _ _ (0, 0) h]; rfl, by rw [cell_of_row wA _ 2 _ _ (0, 0) h]; rfl, by rw [cell_of_row wA _ 3 _ _ (0, 0) h]; rfl⟩
  clear xB atB
  have tokA : True := trivial
  go_upto_region 7 with (first | (at_builtin; have _t := tokA; refine wpl_appO1 rfl (.tmp 30) (.tmp 32) 24 42 if_ _ 4 40 Tryz.underlying24 (unhide HIF).1 (unhide HIF).2.1 (unhide HIF).2.2.1 (unhide HIF).2.2.2 rfl (by omega) rfl w4.heap.size L2 n2 (m.fs.map fnV).flatten rfl (own_below (unhide HGA).ob (unhide HXB).1) ⟨wA.heap.size, 0, none⟩ 1 (fnV (p, l, s, tt)) rfl rfl (fun j u hu => World.news_of_block (unhide HXB).2 j u (by simpa [fnV] using hu)) (by simp [fnV, Value.oneCell']) (by unfold maxLen; omega) (by omega) (by omega) ?_; clear tokA; intro v6 wC HC; obtain ⟨af, cf, ef, _⟩ := slice_form (unhide HC).1; subst ef; have odC := ((unhide HC).2.grown.block Q (by omega) (fun e => own_off (own_below (unhide HGA).ob (unhide HXB).1) (unhide odB) (by decide) e.symm)).trans (unhide odB); obtain ⟨t0', t1', t2'⟩ := row_cell3 odC; have fzC := frozen_of_row wC Q 1 _ _ odC))
  obtain ⟨wD, hwD⟩ : ∃ wD, wC.setCell ⟨Q, 1, none⟩ (.slice af (n2 + 1) cf) = wD := ⟨_, rfl⟩
  first | rw [hwD] | skip
  have HGD : Hid (Gr w4 wD Q (.slice (some ⟨g7, 0, none⟩) (n1 + 1) cap7) (.slice af (n2 + 1) cf) L3 (m.cs ++ [v]) (m.fs ++ [(p, l, s, tt)]) m.xs VA (n1 + 1) (n2 + 1) n3) := hide (by
    rw [← hwD]
    exact (unhide HGA).pushF (unhide HXB).1 (unhide HC).1 (unhide HC).2)
  obtain ⟨ax, cx, ex, _⟩ := slice_form (unhide HGD).oc
  subst ex
  have HD : Hid (Below w3.heap.size w3 wD) := hide ((unhide H4).trans ((unhide HGD).below.mono (unhide H4).size))
  have isM2 : IsM wD (fun b => b < wD.heap.size) (moreM m v (p, l, s, tt)) (some ⟨g7, 0, none⟩) cap7 af cf ax cx := (unhide HGD).isM (by rw [List.length_append, (unhide HN).1]; rfl) (by rw [List.length_append, (unhide HN).2.1]; rfl) (unhide HN).2.2 (by omega) (by omega) (by omega) (fun f hf => by
    rcases List.mem_append.1 hf with h | h
    · exact (unhide HBF).1 f h
    · rw [List.mem_singleton.1 h]
      exact htz) (unhide HBF).2
  have HM2n : Hid ((moreM m v (p, l, s, tt)).cs.length = n1 + 1 ∧ (moreM m v (p, l, s, tt)).fs.length = n2 + 1 ∧ (moreM m v (p, l, s, tt)).xs.length = n3) := hide ⟨by unfold moreM; rw [List.length_append, (unhide HN).1]; rfl, by unfold moreM; rw [List.length_append, (unhide HN).2.1]; rfl, (unhide HN).2.2⟩
  have KM : Hid (∀ u, Below wD.heap.size wD u → u.heap[Q]? = some (.cells #[.slice (some ⟨g7, 0, none⟩) (n1 + 1) cap7, .slice af (n2 + 1) cf, .slice ax n3 cx] 27 (0, 0)) ∧ IsM u (fun b => b < wD.heap.size) (moreM m v (p, l, s, tt)) (some ⟨g7, 0, none⟩) cap7 af cf ax cx ∧ Below w3.heap.size w3 u ∧ wD.heap.size ≤ u.heap.size) := hide (fun u hu =>
    ⟨(hu.block Q (Array.getElem?_eq_some_iff.1 (unhide HGD).od).1).trans (unhide HGD).od, isM2.later hu, (unhide HD).trans (hu.mono (unhide HD).size), hu.size⟩)
  have hsD := (unhide HD).size
  clear hwD HGD HC odC fzC t0' t1' t2' isM2 HGA HA HXB odB u0 u1 u2 q0 q1 q2 q3 hwB' hQA hsB hsA
  obtain ⟨c0, c1, c2⟩ := row_cell3 (unhide KEEP wD (unhide HD)).1
  have CR1 := hide (rightR_any m b1 b2 b3 n1 d1 n2 d2 n3 d3 w.heap.size wD (unhide HN).1 (unhide HN).2.1 (unhide HN).2.2 (unhide KEEP wD (unhide HD)).2.2.2.1 (unhide KEEP wD (unhide HD)).2.2.2.2.2.2.2)
  obtain ⟨r1, hr1⟩ : ∃ r1, rightM m = r1 := ⟨_, rfl⟩
  obtain ⟨r2, hr2⟩ : ∃ r2, rightM (moreM m v (p, l, s, tt)) = r2 := ⟨_, rfl⟩
  rw [hr1] at CR1
  have HR := hide (And.intro hr1 hr2)
  go_wp2_with fail
  refine (unhide CR1).mono ?_
  rintro e wE ⟨rfl, xE⟩
  have FE := hide xE
  clear xE CR1 c0 c1 c2
  obtain ⟨m0, m1, m2⟩ := row_cell3 (unhide KM wE (unhide FE)).1
  have CR2 := hide (rightR_any (moreM m v (p, l, s, tt)) (some ⟨g7, 0, none⟩) af ax (n1 + 1) cap7 (n2 + 1) cf n3 cx wD.heap.size wE (unhide HM2n).1 (unhide HM2n).2.1 (unhide HM2n).2.2 (unhide KM wE (unhide FE)).2.1 (unhide KM wE (unhide FE)).2.2.2)
  rw [hr2] at CR2
  clear hr1 hr2
  go_wp2_with fail
  refine (unhide CR2).mono ?_
  rintro e wF ⟨rfl, xF⟩
  have FF : Hid (Below wD.heap.size wD wF) := hide ((unhide FE).trans (xF.mono (unhide FE).size))
  clear xF CR2 m0 m1 m2
  have HB : Hid (∀ u, Below wD.heap.size wD u → Below w.heap.size w u) := hide (fun u hu => (unhide KEEP u (unhide KM u hu).2.2.1).2.2.2.2.2.2.1)
  cases r1 with
  | false =>
    go_wp2_with fail
    go_ret
    exact ⟨rfl, by first | exact unhide HB _ (unhide FF) | (rw [← hG]; exact unhide HB _ (unhide FF))⟩
  | true =>
    cases r2 with
    | false =>
      go_wp2_with fail
      go_ret
      exact ⟨rfl, by first | exact unhide HB _ (unhide FF) | (rw [← hG]; exact unhide HB _ (unhide FF))⟩
    | true =>
      obtain ⟨g1, g2, g3⟩ := right_few (unhide HR).2
      rw [(unhide HM2n).1] at g1
      rw [(unhide HM2n).2.1] at g2
      rw [(unhide HM2n).2.2] at g3
      have HFS := hide (right_fs (unhide HR).1)
      go_upto_region 11 with fail
      go_wp2_with fail
      go_loopw [11] (fun v11 wr => ∃ k : Nat, v11 = .int .i64 (k : Int) ∧ Hid (k ≤ n2) ∧ Hid (Below wD.heap.size wD wr)) (fun v11 _ => n2 - (intOf v11).toNat)
      case atStart => exact ⟨0, rfl, hide (Nat.zero_le _), FF⟩
      case round =>
        obtain ⟨k, rfl, HK, FB⟩ := hrel
        have KR := unhide KEEP wr (unhide KM wr (unhide FB)).2.2.1
        obtain ⟨c0, c1, c2⟩ := row_cell3 KR.1
        by_cases hk : k < n2
        · have hk1 : (k : Int) < (n2 : Int) := by omega
          have hkm : k < m.fs.length := by rw [(unhide HN).2.1]; exact hk
          have CM := hide (moduleOf_any m b1 n1 d1 b2 n2 d2 b3 n3 d3 w.heap.size wr KR.2.2.2.1 KR.2.2.2.2.2.2.2 (unhide HN).1 (unhide HN).2.1 (unhide HN).2.2 hb1 hb2 hb3)
          clear KR
          go_wp2_with fail
          refine (unhide CM).mono ?_
          rintro e wG ⟨a1', e1', a2', e2', a3', e3', rfl, hMG, xG⟩
          have FG : Hid (Below wD.heap.size wD wG) := hide ((unhide FB).trans (xG.mono (unhide FB).size))
          have hsG := (unhide FG).size
          have CH := hide (heights_any m a1' n1 e1' a2' n2 e2' a3' n3 e3' wG.heap.size (k : Int) wG hMG (Nat.le_refl _) (by omega) (unhide KEEP wG (unhide KM wG (unhide FG)).2.2.1).2.2.2.2.2.1 (unhide HN).1 (unhide HN).2.1 (unhide HN).2.2)
          unfold HgtR at CH
          obtain ⟨⟨hl, ⟨fa, fb, fc⟩⟩, hhg⟩ : ∃ x, hgtF m (k : Int) = x := ⟨_, rfl⟩
          rw [hhg] at CH
          simp only [fltV] at CH
          obtain ⟨nl, hnl⟩ : ∃ nl, hl.length = nl := ⟨_, rfl⟩
          rw [hnl] at CH
          have HHG := hide (And.intro hhg hnl)
          clear hMG xG CM c0 c1 c2 hhg hnl
          go_wp2_with fail
          refine (unhide CH).mono ?_
          rintro e wH ⟨ah, ⟨ch, rfl, hoH⟩, xH⟩
          have FH : Hid (Below wD.heap.size wD wH) := hide ((unhide FG).trans (xH.mono (unhide FG).size))
          have RH := hide (own_rdI hoH)
          have hnm : nl ≤ 9223372036854775807 := by
            obtain ⟨_, _, q1, q2, q3, q4, q5⟩ := slice_form hoH
            unfold maxLen at *
            omega
          clear xH CH hoH
          go_upto_region 15 with fail
          obtain ⟨wI, hwI⟩ : ∃ wI, wH.alloc (.cells #[.int .i64 fa, .int .i64 fb, .int .i64 fc] 31) = wI := ⟨_, rfl⟩
          obtain ⟨RI, hRI⟩ : ∃ RI, wH.heap.size = RI := ⟨_, rfl⟩
          have dI : wI.heap[RI]? = some (.cells #[.int .i64 fa, .int .i64 fb, .int .i64 fc] 31 (0, 0)) := by rw [← hwI, ← hRI]; exact heap_alloc_new _ _
          have xI : Below wH.heap.size wH wI := by rw [← hwI]; exact (Below.refl _ _).alloc (Nat.le_refl _) _
          have FI : Hid (Below wD.heap.size wD wI) := hide ((unhide FH).trans (xI.mono (unhide FH).size))
          have RI' := hide ((unhide RH).later xI)
          have HDI := hide dI
          rw [hwI, hRI]
          obtain ⟨m0, m1, m2⟩ := row_cell3 (unhide KM wI (unhide FI)).1
          have CM2 := hide (moduleOf_any (moreM m v (p, l, s, tt)) (some ⟨g7, 0, none⟩) (n1 + 1) cap7 af (n2 + 1) cf ax n3 cx wD.heap.size wI (unhide KM wI (unhide FI)).2.1 (unhide KM wI (unhide FI)).2.2.2 (unhide HM2n).1 (unhide HM2n).2.1 (unhide HM2n).2.2 (by omega) (by omega) (by omega))
          clear hwI dI xI hRI
          go_wp2_with fail
          refine (unhide CM2).mono ?_
          rintro e wJ ⟨a1', e1', a2', e2', a3', e3', rfl, hMJ, xJ⟩
          have FJ : Hid (Below wD.heap.size wD wJ) := hide ((unhide FI).trans (xJ.mono (unhide FI).size))
          have XJ : Hid (Below wI.heap.size wI wJ) := hide xJ
          have hsJ := (unhide FJ).size
          have CH2 := hide (heights_any (moreM m v (p, l, s, tt)) a1' (n1 + 1) e1' a2' (n2 + 1) e2' a3' n3 e3' wJ.heap.size (k : Int) wJ hMJ (Nat.le_refl _) (by omega) (unhide KEEP wJ (unhide KM wJ (unhide FJ)).2.2.1).2.2.2.2.2.1 (unhide HM2n).1 (unhide HM2n).2.1 (unhide HM2n).2.2)
          unfold HgtR at CH2
          obtain ⟨⟨hl2, ⟨ga, gb, gc⟩⟩, hhg2⟩ : ∃ x, hgtF (moreM m v (p, l, s, tt)) (k : Int) = x := ⟨_, rfl⟩
          rw [hhg2] at CH2
          simp only [fltV] at CH2
          obtain ⟨nl2, hnl2⟩ : ∃ nl2, hl2.length = nl2 := ⟨_, rfl⟩
          rw [hnl2] at CH2
          have HHG2 := hide (And.intro hhg2 hnl2)
          clear hMJ xJ CM2 m0 m1 m2 hhg2 hnl2
          go_wp2_with fail
          refine (unhide CH2).mono ?_
          rintro e wK ⟨ah2, ⟨ch2, rfl, hoK⟩, xK⟩
          have FK : Hid (Below wD.heap.size wD wK) := hide ((unhide FJ).trans (xK.mono (unhide FJ).size))
          have RK := hide (own_rdI hoK)
          have XK : Hid (Below wI.heap.size wI wK) := hide ((unhide XJ).trans (xK.mono (unhide XJ).size))
          clear xK CH2 hoK
          go_upto_region 16 with fail
          obtain ⟨wL, hwL⟩ : ∃ wL, wK.alloc (.cells #[.int .i64 ga, .int .i64 gb, .int .i64 gc] 31) = wL := ⟨_, rfl⟩
          obtain ⟨RL, hRL⟩ : ∃ RL, wK.heap.size = RL := ⟨_, rfl⟩
          have dL : wL.heap[RL]? = some (.cells #[.int .i64 ga, .int .i64 gb, .int .i64 gc] 31 (0, 0)) := by rw [← hwL, ← hRL]; exact heap_alloc_new _ _
          have xL : Below wK.heap.size wK wL := by rw [← hwL]; exact (Below.refl _ _).alloc (Nat.le_refl _) _
          have FL' : Hid (Below wD.heap.size wD wL) := hide ((unhide FK).trans (xL.mono (unhide FK).size))
          have RK' := hide ((unhide RK).later xL)
          have XL : Below wI.heap.size wI wL := (unhide XK).trans (xL.mono (unhide XK).size)
          have dI2 := (XL.block RI (Array.getElem?_eq_some_iff.1 (unhide HDI)).1).trans (unhide HDI)
          have RI2 := hide ((unhide RI').later XL)
          rw [hwL, hRL]
          obtain ⟨y0, y1, y2⟩ := row_cell3 dI2
          obtain ⟨g0, g1', g2'⟩ := row_cell3 dL
          clear hwL dL xL hRL XL dI2
          by_cases hfa : fa = 122
          · subst hfa
            go_wp2_with fail
            go_roundw
            case rel => exact ⟨k + 1, by go_num, hide (by omega), FL'⟩
            case measure => simp [intOf]; omega
          · have qfa : (fa == 122) = false := by simpa using hfa
            have hsame := hgt_more (v := v) (x := (p, l, s, tt)) (unhide HR).1 (unhide HR).2 (unhide HFS) (unhide HCB) hkm (by rw [(unhide HHG).1]; exact hfa)
            rw [(unhide HHG).1, (unhide HHG2).1] at hsame
            simp only [Prod.mk.injEq] at hsame
            obtain ⟨rfl, rfl, rfl, rfl⟩ := hsame
            obtain rfl : nl = nl2 := by rw [← (unhide HHG).2, ← (unhide HHG2).2]
            go_wp2_with fail
            go_loopw [16] (fun v16 wx => ∃ j : Nat, v16 = .int .i64 (j : Int) ∧ Hid (j ≤ nl) ∧ Hid (Below wL.heap.size wL wx)) (fun v16 _ => nl - (intOf v16).toNat)
            case atStart => exact ⟨0, rfl, hide (Nat.zero_le _), hide (Below.refl _ _)⟩
            case round =>
              obtain ⟨j, rfl, HJ, HQ⟩ := hrel
              by_cases hj : j < nl
              · have hj1 : (j : Int) < (nl : Int) := by omega
                have hj0 : (0 : Int) ≤ (j : Int) := by omega
                obtain ⟨z, hz⟩ : ∃ z, hl2[j]? = some z := ⟨_, List.getElem?_eq_getElem (by rw [(unhide HHG2).2]; exact hj)⟩
                obtain ⟨x1, rfl, k1⟩ := (unhide RI2).later (unhide HQ) j z hz
                obtain ⟨x2, rfl, k2⟩ := (unhide RK').later (unhide HQ) j z hz
                have HQ2 : Hid (∀ q, Below wL.heap.size wL (wr.drewN q)) := hide (fun q => below_drewN (unhide HQ) q)
                go_upto_region 22 with fail
                go_quiet (fail)
                go_wp2_with fail
                go_roundw
                case rel => exact ⟨j + 1, by go_num, hide (by omega), hide (unhide HQ2 _)⟩
                case measure => simp [intOf]; omega
              · have hj1 : ¬ (j : Int) < (nl : Int) := by omega
                have FX : Hid (Below wD.heap.size wD wr) := hide ((unhide FL').trans ((unhide HQ).mono (unhide FL').size))
                go_wp2_with fail
                go_roundw
                case rel => exact ⟨k + 1, by go_num, hide (by omega), FX⟩
                case measure => simp [intOf]; omega
        · have hk1 : ¬ (k : Int) < (n2 : Int) := by omega
          clear KR
          go_wp2_with fail
          go_ret
          exact ⟨rfl, by first | exact unhide HB _ (unhide FB) | (rw [← hG]; exact unhide HB _ (unhide FB))⟩
end Go.Proofs.YtdlgehnplkeoiaaGreatDoor
