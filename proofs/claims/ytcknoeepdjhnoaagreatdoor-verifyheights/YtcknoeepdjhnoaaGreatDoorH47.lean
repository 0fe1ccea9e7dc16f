/-
  Layer 12, the statements' own moduleOf: a module in new memory; conditions: the form's own reach.
-/
import Derived.Test.YtcknoeepdjhnoaaGreatDoorH35
set_option linter.unusedVariables false
set_option linter.unusedSimpArgs false
namespace Go.Proofs.YtcknoeepdjhnoaaGreatDoor
open Go.RowKit
set_option linter.unusedVariables false
set_option linter.unusedSimpArgs false

set_option maxRecDepth 100000 in
set_option maxHeartbeats 8000000 in
theorem moduleOf_any (m : Md) (b1 : Option Addr) (n1 d1 : Nat) (b2 : Option Addr) (n2 d2 : Nat) (b3 : Option Addr) (n3 d3 : Nat) (B : Nat) (w : World)
    (hM : IsM w (fun b => b < B) m b1 d1 b2 d2 b3 d3) (hB : B ≤ w.heap.size) (hn1 : m.cs.length = n1) (hn2 : m.fs.length = n2) (hn3 : m.xs.length = n3) (hb1 : 80 * n1 ≤ 140737488351232) (hb2 : 40 * n2 ≤ 140737488351232) (hb3 : 24 * n3 ≤ 140737488351232) :
    Calls Tryz.prog 5 #[.agg #[.slice b1 n1 d1, .slice b2 n2 d2, .slice b3 n3 d3]] w fun e w' => ∃ a1 c1 a2 c2 a3 c3, e = .returned (.agg #[.slice a1 n1 c1, .slice a2 n2 c2, .slice a3 n3 c3]) ∧ IsM w' (fun b => b < w'.heap.size) m a1 c1 a2 c2 a3 c3 ∧ Below w.heap.size w w' := by
  obtain ⟨G, hG⟩ : ∃ G, w.heap.size = G := ⟨_, rfl⟩
  obtain ⟨w1, hw1⟩ : ∃ w1, w.alloc (.cells #[.slice b1 n1 d1, .slice b2 n2 d2, .slice b3 n3 d3] 27) = w1 := ⟨_, rfl⟩
  have z1 : w1.heap.size = G + 1 := by rw [← hw1, ← hG]; simp
  have A1 : w1.heap[G]? = some (.cells #[.slice b1 n1 d1, .slice b2 n2 d2, .slice b3 n3 d3] 27 (0, 0)) := by rw [← hw1, ← hG]; exact heap_alloc_new _ _
  have B1 : Below w.heap.size w w1 := by rw [← hw1]; exact (Below.refl _ _).alloc (Nat.le_refl _) _
  obtain ⟨w2, hw2⟩ : ∃ w2, (w1.alloc (.cells #[.slice none 0 0, .slice none 0 0, .slice none 0 0] 27)).drew = w2 := ⟨_, rfl⟩
  have z2 : w2.heap.size = G + 2 := by rw [← hw2]; simp; omega
  have A2 : w2.heap[G + 1]? = some (.cells #[.slice none 0 0, .slice none 0 0, .slice none 0 0] 27 (0, 0)) := by rw [← hw2, ← z1]; exact heap_alloc_new w1 _
  have B2 : Below w1.heap.size w1 w2 := by rw [← hw2]; exact ((Below.refl _ _).alloc (Nat.le_refl _) _).drew
  have BW : Below w.heap.size w w2 := B1.trans (B2.mono B1.size)
  have A1' : w2.heap[G]? = some (.cells #[.slice b1 n1 d1, .slice b2 n2 d2, .slice b3 n3 d3] 27 (0, 0)) := (B2.block G (by omega)).trans A1
  obtain ⟨c0, c1, c2⟩ := row_cell3 A1'
  obtain ⟨N1, hN1⟩ : ∃ N1 : Nat, N1 = n1 + 2 := ⟨_, rfl⟩
  obtain ⟨N2, hN2⟩ : ∃ N2 : Nat, N2 = n2 + 2 := ⟨_, rfl⟩
  obtain ⟨N3, hN3⟩ : ∃ N3 : Nat, N3 = n3 + 2 := ⟨_, rfl⟩
  have k1 : IntKind.i64.wrap ((n1 : Int) + 2) = (N1 : Int) := by rw [IntKind.wrap_i64]; omega
  have k2 : IntKind.i64.wrap ((n2 : Int) + 2) = (N2 : Int) := by rw [IntKind.wrap_i64]; omega
  have k3 : IntKind.i64.wrap ((n3 : Int) + 2) = (N3 : Int) := by rw [IntKind.wrap_i64]; omega
  obtain ⟨iv, hiv, hv0, hv1, hv2⟩ := info_parts infoV
  obtain ⟨if_, hif, hf0, hf1, hf2⟩ := info_parts infoFn
  obtain ⟨ix, hix, hx0, hx1, hx2⟩ := info_parts infoEx
  have HIV := hide (And.intro hiv (And.intro hv0 (And.intro hv1 hv2)))
  have HIF := hide (And.intro hif (And.intro hf0 (And.intro hf1 hf2)))
  have HIX := hide (And.intro hix (And.intro hx0 (And.intro hx1 hx2)))
  have HM := hide (And.intro hM (And.intro hB (And.intro hn1 (And.intro hn2 hn3))))
  have HNN := hide (And.intro hN1 (And.intro hN2 hN3))
  have HW2 := hide (And.intro BW (And.intro A1' (And.intro A2 z2)))
  clear hM hn1 hn2 hn3 hiv hv0 hv1 hv2 hif hf0 hf1 hf2 hix hx0 hx1 hx2 A1 A2 B1 B2 BW A1' hN1 hN2 hN3
  go_enter Tryz.func5, Tryz.ntmps5
  go_upto_region 1 with fail
  rename_i Q0 K0 hK0
  have HCONT : ∀ (qa qb qc qd : Nat) (w5 : World), Hid (Four w w5 G qa qb qc qd N1 N2 N3 #[.slice b1 n1 d1, .slice b2 n2 d2, .slice b3 n3 d3]) → Exit.then K0 Q0 Exit.normal { tmps := #[.agg #[.slice b1 n1 d1, .slice b2 n2 d2, .slice b3 n3 d3], .pointer (some ⟨G, 0, none⟩), .pointer (some ⟨G + 1, 0, none⟩), .pointer (some ⟨qd, 0, none⟩), undef, .pointer (some ⟨G, 0, none⟩), .slice b1 n1 d1, .int .i64 (n1 : Int), .int .i64 (N1 : Int), .slice (some ⟨qa, 0, none⟩) 0 N1, .pointer (some ⟨G, 1, none⟩), .slice b2 n2 d2, .int .i64 (n2 : Int), .int .i64 (N2 : Int), .slice (some ⟨qb, 0, none⟩) 0 N2, .pointer (some ⟨G, 2, none⟩), .slice b3 n3 d3, .int .i64 (n3 : Int), .int .i64 (N3 : Int), .slice (some ⟨qc, 0, none⟩) 0 N3, .agg #[.slice (some ⟨qa, 0, none⟩) 0 N1, .slice (some ⟨qb, 0, none⟩) 0 N2, .slice (some ⟨qc, 0, none⟩) 0 N3], undef, undef, undef, undef, undef, undef, undef, undef, undef, undef, undef, undef, undef, undef, undef, undef, undef, undef, undef, undef, undef, undef, undef, undef, undef, undef, undef, undef, undef, undef, undef], defers := [] } w5 := by
    intro qa qb qc qd w5 HFo
    have hM0 : Hid (Mo w w5 G qd (.slice (some ⟨qa, 0, none⟩) 0 N1) qb qc N2 N3 #[.slice b1 n1 d1, .slice b2 n2 d2, .slice b3 n3 d3] m.cs (fun _ => []) 0) := hide ⟨(unhide HFo).below, (unhide HFo).oa, (unhide HFo).ob, (unhide HFo).oc, (unhide HFo).od, (unhide HFo).qd, (unhide HFo).arg, (unhide HFo).res, fun c hc => by omega, fun c y hc => by omega⟩
    clear HFo
    clear c0 c1 c2
    go_wp2_with fail
    go_loopw [4] (fun v wr => ∃ (i : Nat) (Lv : Value) (V : Nat → List Value), v = .int .i64 (i : Int) ∧ Hid (i ≤ n1) ∧ Hid (Mo w wr G qd Lv qb qc N2 N3 #[.slice b1 n1 d1, .slice b2 n2 d2, .slice b3 n3 d3] m.cs V i)) (fun v _ => n1 - (intOf v).toNat)
    case atStart => exact ⟨0, _, _, rfl, hide (by omega), hM0⟩
    case round =>
      clear hM0
      obtain ⟨i, Lv, V, rfl, Hi, HMo⟩ := hrel
      obtain ⟨a0, a1, a2⟩ := row_cell3 (unhide HMo).arg
      obtain ⟨t0, t1, t2⟩ := row_cell3 (unhide HMo).od
      by_cases hlt : i < n1
      · have i1 : (i : Int) < (n1 : Int) := by omega
        have i0 : (0 : Int) ≤ (i : Int) := by omega
        obtain ⟨y, hy⟩ : ∃ y, m.cs[i]? = some y := ⟨_, List.getElem?_eq_getElem (by have := (unhide HM).2.2.1; omega)⟩
        have hMr := (unhide HM).1.later ((unhide HMo).below.mono (unhide HM).2.1)
        obtain ⟨a, y0, y1, y2, al', ak', ll', m', cl', ck', rfl, hab, hce, hve⟩ := hMr.const i y hy
        have e0 : wr.cell? (a.add (i * 5)) = some (.int .i64 y0) := hce 0 _ rfl
        have e1 : wr.cell? ⟨(a.add (i * 5)).block, (a.add (i * 5)).off + 1, none⟩ = some (.int .i64 y1) := hce 1 _ rfl
        have e2 : wr.cell? ⟨(a.add (i * 5)).block, (a.add (i * 5)).off + 2, none⟩ = some (.string y2) := hce 2 _ rfl
        have e3 : wr.cell? ⟨(a.add (i * 5)).block, (a.add (i * 5)).off + 3, none⟩ = some (.slice al' ll' cl') := hce 3 _ rfl
        have e4 : wr.cell? ⟨(a.add (i * 5)).block, (a.add (i * 5)).off + 4, none⟩ = some (.slice ak' m' ck') := hce 4 _ rfl
        have hdr : Below wr.heap.size wr wr.drew := (Below.refl _ _).drew
        have hwrs := (unhide HMo).below.size
        have hBr : B ≤ wr.heap.size := by have := (unhide HM).2.1; omega
        have CR := hide (copied_two y _ B wr.drew (hve.mono (hdr.mono hBr)) (by have := hdr.size; omega))
        have HVE := hide (And.intro hve hy)
        have hLb : ∀ q, Lv.ownBlock = some q → G + 2 ≤ q ∧ q < wr.heap.size := (unhide HMo).oL.lt
        have HLb := hide hLb
        have hqdl : qd < wr.heap.size := (Array.getElem?_eq_some_iff.1 (unhide HMo).od).1
        have f3 : wr.frozen? ⟨qd, 0, none⟩ = false := frozen_of_row wr qd 0 _ _ (unhide HMo).od
        have hgq := (unhide HMo).gq
        clear hy hce hve hdr hLb hMr a1 a2 t1 t2
        go_upto_region 5 with fail
        refine till_begin (S := fun w' => w'.cell? ⟨qd, 0, none⟩ = some Lv ∧ w'.cell? ⟨G, 0, none⟩ = some (.slice (some a) n1 d1) ∧ w'.cell? (a.add (i * 5)) = some (.int .i64 y0) ∧ w'.cell? ⟨(a.add (i * 5)).block, (a.add (i * 5)).off + 1, none⟩ = some (.int .i64 y1) ∧ w'.cell? ⟨(a.add (i * 5)).block, (a.add (i * 5)).off + 2, none⟩ = some (.string y2) ∧ w'.cell? ⟨(a.add (i * 5)).block, (a.add (i * 5)).off + 3, none⟩ = some (.slice al' ll' cl') ∧ w'.cell? ⟨(a.add (i * 5)).block, (a.add (i * 5)).off + 4, none⟩ = some (.slice ak' m' ck')) 11 (by kernel_rfl) ?_
        have HS0 := And.intro t0 (And.intro a0 (And.intro e0 (And.intro e1 (And.intro e2 (And.intro e3 e4)))))
        refine till_take 0 (v := .pointer (some ⟨qd, 0, none⟩)) (some 28) rfl rfl rfl (by kernel_rfl) (by kernel_rfl) (by kernel_rfl) (by kernel_rfl) (fun _ _ _ h => h) (Or.inl ⟨by rfl, fun u hu => by obtain ⟨s0, s1, s2, s3, s4, s5, s6⟩ := hu; go_simp⟩) HS0 ?_
        try simp only [Act.put, List.setIfInBounds_toArray, List.set_cons_zero, List.set_cons_succ]
        refine till_take 1 (v := Lv) (some 29) rfl rfl rfl (by kernel_rfl) (by kernel_rfl) (by kernel_rfl) (by kernel_rfl) (fun _ _ _ h => h) (Or.inl ⟨by rfl, fun u hu => by obtain ⟨s0, s1, s2, s3, s4, s5, s6⟩ := hu; go_simp⟩) HS0 ?_
        try simp only [Act.put, List.setIfInBounds_toArray, List.set_cons_zero, List.set_cons_succ]
        refine till_take 2 (v := .pointer (some ⟨G, 0, none⟩)) (some 30) rfl rfl rfl (by kernel_rfl) (by kernel_rfl) (by kernel_rfl) (by kernel_rfl) (fun _ _ _ h => h) (Or.inl ⟨by rfl, fun u hu => by obtain ⟨s0, s1, s2, s3, s4, s5, s6⟩ := hu; go_simp⟩) HS0 ?_
        try simp only [Act.put, List.setIfInBounds_toArray, List.set_cons_zero, List.set_cons_succ]
        refine till_take 3 (v := .slice (some a) n1 d1) (some 31) rfl rfl rfl (by kernel_rfl) (by kernel_rfl) (by kernel_rfl) (by kernel_rfl) (fun _ _ _ h => h) (Or.inl ⟨by rfl, fun u hu => by obtain ⟨s0, s1, s2, s3, s4, s5, s6⟩ := hu; go_simp⟩) HS0 ?_
        try simp only [Act.put, List.setIfInBounds_toArray, List.set_cons_zero, List.set_cons_succ]
        refine till_take 4 (v := .int .i64 (i : Int)) (some 32) rfl rfl rfl (by kernel_rfl) (by kernel_rfl) (by kernel_rfl) (by kernel_rfl) (fun _ _ _ h => h) (Or.inl ⟨by rfl, fun u hu => by obtain ⟨s0, s1, s2, s3, s4, s5, s6⟩ := hu; go_simp⟩) HS0 ?_
        try simp only [Act.put, List.setIfInBounds_toArray, List.set_cons_zero, List.set_cons_succ]
        refine till_take 5 (v := .pointer (some (a.add (i * 5)))) (some 33) rfl rfl rfl (by kernel_rfl) (by kernel_rfl) (by kernel_rfl) (by kernel_rfl) (fun _ _ _ h => h) (Or.inl ⟨by rfl, fun u hu => by obtain ⟨s0, s1, s2, s3, s4, s5, s6⟩ := hu; go_simp⟩) HS0 ?_
        try simp only [Act.put, List.setIfInBounds_toArray, List.set_cons_zero, List.set_cons_succ]
        refine till_take 6 (v := .agg #[.int .i64 y0, .int .i64 y1, .string y2, .slice al' ll' cl', .slice ak' m' ck']) (some 34) rfl rfl rfl (by kernel_rfl) (by kernel_rfl) (by kernel_rfl) (by kernel_rfl) (fun _ _ _ h => h) (Or.inl ⟨by rfl, fun u hu => by obtain ⟨s0, s1, s2, s3, s4, s5, s6⟩ := hu; go_simp⟩) HS0 ?_
        try simp only [Act.put, List.setIfInBounds_toArray, List.set_cons_zero, List.set_cons_succ]
        refine till_one 7 (by kernel_rfl) rfl (fun K hK => ?_)
        go_simp
        refine (unhide CR).mono ?_
        rintro e w5' ⟨x5, rfl, h5, b5, hfew, hnf⟩
        have b6 := below_drew_of' b5
        have hz5 := b6.size
        obtain ⟨k5, n5, s5, l5, ks5, al5, ak5, cl5, ck5, hy5, rfl⟩ := h5.shape
        obtain ⟨lc5, hlc5⟩ : ∃ lc5, l5.length = lc5 := ⟨_, rfl⟩
        obtain ⟨mc5, hmc5⟩ : ∃ mc5, ks5.length = mc5 := ⟨_, rfl⟩
        rw [hlc5, hmc5] at h5 hfew hnf ⊢
        have HEl : Hid (IsP w5' (fun b => b < w5'.heap.size ∧ some b ≠ Lv.ownBlock ∧ b ≠ qd ∧ b ≠ qb ∧ b ≠ qc ∧ b ≠ G + 1) y (.agg [.int .i64 k5, .int .i64 n5, .string s5, .slice al5 lc5 cl5, .slice ak5 mc5 ck5].toArray) ∧ Below wr.heap.size wr w5') := hide (by
          refine ⟨?_, b6⟩
          have hqb := (unhide HMo).ob.lt qb rfl
          have hqc := (unhide HMo).oc.lt qc rfl
          cases hF : fewB y with
          | true =>
            have hq := (hfew hF).1
            refine hq.weak (fun b hb => ?_)
            have hb1 : wr.heap.size ≤ b := hb.1
            exact ⟨hb.2, fun e => by have := (unhide HLb b e.symm).2; omega, by omega, by omega, by omega, by omega⟩
          | false =>
            have hx := hnf hF
            rw [hx]
            have hv5 := (unhide HVE).1.mono (b6.mono hBr)
            refine hv5.weak (fun b hb => ?_)
            have hbB : b < B := hb
            have := (unhide HM).2.1
            have := (unhide HMo).gq
            exact ⟨by omega, fun e => by have := (unhide HLb b e.symm).1; omega, by omega, by omega, by omega, by omega⟩)
        have HS5 := And.intro (cell_later b6 t0) (And.intro (cell_later b6 a0) (And.intro (cell_later b6 e0) (And.intro (cell_later b6 e1) (And.intro (cell_later b6 e2) (And.intro (cell_later b6 e3) (cell_later b6 e4))))))
        clear b5 b6 h5 hy5 hlc5 hmc5 CR hfew hnf
        go_wp2_with fail
        refine hK.out _ _ (Or.inr HS5) ?_
        clear hK K HS0 t0 a0 e0 e1 e2 e3 e4 f3
        try simp only [Act.put, List.setIfInBounds_toArray, List.set_cons_zero, List.set_cons_succ]
        refine till_one 8 (by kernel_rfl) rfl (fun K hK => ?_)
        go_simp
        obtain ⟨w6, hw6⟩ : ∃ w6, w5'.alloc (.cells #[.int .i64 k5, .int .i64 n5, .string s5, .slice al5 lc5 cl5, .slice ak5 mc5 ck5] 42) = w6 := ⟨_, rfl⟩
        have X6 : Below w5'.heap.size w5' w6 := by rw [← hw6]; exact (Below.refl _ _).alloc (Nat.le_refl _) _
        have at6 : w6.heap[w5'.heap.size]? = some (.cells #[.int .i64 k5, .int .i64 n5, .string s5, .slice al5 lc5 cl5, .slice ak5 mc5 ck5] 42 (0, 0)) := by rw [← hw6]; exact heap_alloc_new w5' _
        have sz6 : w6.heap.size = w5'.heap.size + 1 := by rw [← hw6]; simp
        rw [hw6]
        have HS6 := And.intro (cell_later X6 HS5.1) (And.intro (cell_later X6 HS5.2.1) (And.intro (cell_later X6 HS5.2.2.1) (And.intro (cell_later X6 HS5.2.2.2.1) (And.intro (cell_later X6 HS5.2.2.2.2.1) (And.intro (cell_later X6 HS5.2.2.2.2.2.1) (cell_later X6 HS5.2.2.2.2.2.2))))))
        have OL6 : Hid (w6.ownsRow (G + 2) 42 5 Lv i (flat V i)) := hide (own_below (own_below (unhide HMo).oL (unhide HEl).2) X6)
        have OD6 : Hid (w6.heap[qd]? = some (.cells #[Lv, .slice (some ⟨qb, 0, none⟩) 0 N2, .slice (some ⟨qc, 0, none⟩) 0 N3] 27 (0, 0))) := hide ((X6.block qd (by omega)).trans (((unhide HEl).2.block qd hqdl).trans (unhide HMo).od))
        have H6 := hide (And.intro X6 (And.intro at6 sz6))
        obtain ⟨h5s, hh5s⟩ : ∃ h5s, w5'.heap.size = h5s := ⟨_, rfl⟩
        rw [hh5s] at at6 sz6 ⊢
        have HH5 := hide hh5s
        refine hK.out _ _ (Or.inr HS6) ?_
        clear hK K hw6 X6 HS5
        try simp only [Act.put, List.setIfInBounds_toArray, List.set_cons_zero, List.set_cons_succ]
        refine till_one 9 (by kernel_rfl) rfl (fun K hK => ?_)
        refine step_append_lies _ (by rfl) _ _ 23 (by rfl) (G + 2) 42 iv (.agg #[.int .i64 0, .int .i64 0, .string ⟨#[]⟩, .slice none 0 0, .slice none 0 0]) 5 80 Tryz.underlying23 (unhide HIV).1 (unhide HIV).2.1 (unhide HIV).2.2.1 (unhide HIV).2.2.2 rfl (by omega) Lv i (flat V i) (by rfl) (unhide OL6) ⟨h5s, 0, none⟩ 1 1 [.int .i64 k5, .int .i64 n5, .string s5, .slice al5 lc5 cl5, .slice ak5 mc5 ck5] (by rfl) (by rfl) (fun j u hu => World.news_of_block at6 j u (by simpa using hu)) (by simp [Value.oneCell']) (by omega) (by unfold maxLen; omega) (by omega) (by omega) w6.heap.size rfl ?_
        intro g7 cap7 w7 hown7 hgrow7 hat7 hlt7
        change K (Act.put _ (some 37) _) w7
        have hLqd := own_off (unhide OL6) (unhide OD6) (by decide)
        have od7 : w7.heap[qd]? = some (.cells #[Lv, .slice (some ⟨qb, 0, none⟩) 0 N2, .slice (some ⟨qc, 0, none⟩) 0 N3] 27 (0, 0)) := (hgrow7.block qd (by omega) (fun e => hLqd e.symm)).trans (unhide OD6)
        have kp7 : ∀ (p : Addr) (x : Value), p.block < G + 2 → w6.cell? p = some x → w7.cell? p = some x := fun p x hp hx => (hgrow7.cell_far p (World.block_lt_of_cell? _ _ (by rw [hx])) (fun e => by have := (unhide HLb _ e.symm).1; omega)).trans hx
        have hab3 : (a.add (i * 5)).block < G + 2 := by rw [add_block]; have := (unhide HM).2.1; omega
        have HS7 := And.intro (show w7.cell? ⟨qd, 0, none⟩ = some Lv by rw [cell_of_row w7 qd 0 _ _ (0, 0) od7]; rfl) (And.intro (kp7 _ _ (by show G < G + 2; omega) HS6.2.1) (And.intro (kp7 _ _ (by exact hab3) HS6.2.2.1) (And.intro (kp7 _ _ (by exact hab3) HS6.2.2.2.1) (And.intro (kp7 _ _ (by exact hab3) HS6.2.2.2.2.1) (And.intro (kp7 _ _ (by exact hab3) HS6.2.2.2.2.2.1) (kp7 _ _ (by exact hab3) HS6.2.2.2.2.2.2))))))
        have H7 := hide (And.intro hown7 (And.intro hgrow7 (And.intro hat7 hlt7)))
        have f7 := frozen_of_row w7 qd 0 _ _ od7
        refine hK.out _ _ (Or.inr HS7) ?_
        clear hK K kp7 hown7 hgrow7 hat7 hlt7 HS6 od7
        try simp only [Act.put, List.setIfInBounds_toArray, List.set_cons_zero, List.set_cons_succ]
        refine till_take 10 (v := .pointer (some ⟨qd, 0, none⟩)) (some 38) rfl rfl rfl (by kernel_rfl) (by kernel_rfl) (by kernel_rfl) (by kernel_rfl) (fun _ _ _ h => h) (Or.inl ⟨by rfl, fun u hu => by obtain ⟨s0, s1, s2, s3, s4, s5, s6⟩ := hu; go_simp⟩) HS7 ?_
        try simp only [Act.put, List.setIfInBounds_toArray, List.set_cons_zero, List.set_cons_succ]
        refine till_one 11 (by kernel_rfl) rfl (fun K hK => ?_)
        obtain ⟨c7, _⟩ := HS7
        go_simp
        refine hK.out _ _ (Or.inl rfl) ?_
        clear hK K
        try simp only [Act.put, List.setIfInBounds_toArray, List.set_cons_zero, List.set_cons_succ]
        refine till_done (by kernel_rfl) ?_ _
        obtain ⟨w8, hw8⟩ : ∃ w8, w7.setCell ⟨qd, 0, none⟩ (.slice (some ⟨g7, 0, none⟩) (i + 1) cap7) = w8 := ⟨_, rfl⟩
        have HM8 : Hid (Mo w w8 G qd (.slice (some ⟨g7, 0, none⟩) (i + 1) cap7) qb qc N2 N3 #[.slice (some a) n1 d1, .slice b2 n2 d2, .slice b3 n3 d3] m.cs (setV V i [.int .i64 k5, .int .i64 n5, .string s5, .slice al5 lc5 cl5, .slice ak5 mc5 ck5]) (i + 1)) := hide (by
          rw [← hw8]
          obtain ⟨hown7, hgrow7, hat7, hlt7⟩ := unhide H7
          exact (unhide HMo).push hG (unhide HEl).2 (unhide H6).1 hown7 hgrow7 hat7 hlt7 (unhide HVE).2 rfl (unhide HEl).1)
        rw [hw8]
        have HI1 : Hid (i + 1 ≤ n1) := hide (by omega)
        clear hw8 f7 c7
        go_wp2_with fail
        go_roundw
        case rel => exact ⟨i + 1, _, _, by go_num, HI1, HM8⟩
        case measure => have := unhide HI1; simp [intOf]; omega
      · have i1 : ¬ (i : Int) < (n1 : Int) := by omega
        obtain rfl : n1 = i := by have := unhide Hi; omega
        have hMo := unhide HMo
        have hM0 := (unhide HM).1
        have hmr := hM0.later (hMo.below.mono (unhide HM).2.1)
        have hqdl : qd < wr.heap.size := (Array.getElem?_eq_some_iff.1 hMo.od).1
        have hwrs := hMo.below.size
        have hgq := hMo.gq
        have fl4 : ∀ r ∈ m.fs.map fnV, r.length = 4 := fun r hr => by obtain ⟨f, _, rfl⟩ := List.mem_map.1 hr; rfl
        have fl2 : ∀ r ∈ m.xs.map exV, r.length = 2 := fun r hr => by obtain ⟨f, _, rfl⟩ := List.mem_map.1 hr; rfl
        have hl4 : (m.fs.map fnV).flatten.length = n2 * 4 := by rw [flat_lenk _ fl4, List.length_map, (unhide HM).2.2.2.1]
        have hl2 : (m.xs.map exV).flatten.length = n3 * 2 := by rw [flat_lenk _ fl2, List.length_map, (unhide HM).2.2.2.2]
        have fz1 := frozen_of_row wr qd 1 _ _ hMo.od
        have HFl := hide (And.intro fl4 (And.intro fl2 (And.intro hl4 hl2)))
        have HMr := hide hmr
        have hnn2 : b2 = none → n2 = 0 := fun e => by have := (hmr.hf.nl e).1; rw [List.length_map, (unhide HM).2.2.2.1] at this; exact this
        have hnn3 : b3 = none → n3 = 0 := fun e => by have := (hmr.hx.nl e).1; rw [List.length_map, (unhide HM).2.2.2.2] at this; exact this
        have HN23 := hide (And.intro hnn2 hnn3)
        clear hMo hM0 hmr fl4 fl2 hl4 hl2 hnn2 hnn3 a2 t0 t2
        have tokA : True := trivial
        go_upto_region 7 with (first | (at_builtin; have _t := tokA; refine wpl_appS rfl (.tmp 40) (.tmp 42) 24 50 if_ _ 4 40 Tryz.underlying24 (unhide HIF).1 (unhide HIF).2.1 (unhide HIF).2.2.1 (unhide HIF).2.2.2 rfl (by omega) rfl (G + 2) qb N2 rfl (unhide HMo).ob b2 n2 d2 (m.fs.map fnV).flatten rfl (unhide HN23).1 (unhide HFl).2.2.1 ((unhide HMr).hf.flat (by omega) (unhide HFl).1) (fnV_one m.fs) (by unfold maxLen; omega) (by omega) (by omega) ?_; clear tokA; intro v6 w6 H6; obtain ⟨af, cf, ef, _⟩ := slice_form (unhide H6).1; subst ef; have od6 := ((unhide H6).2.grown.block qd hqdl (fun e => own_off (unhide HMo).ob (unhide HMo).od (by decide) e.symm)).trans (unhide HMo).od; obtain ⟨t0', t1', t2'⟩ := row_cell3 od6; have fz6 := frozen_of_row w6 qd 1 _ _ od6))
        obtain ⟨w7, hw7⟩ : ∃ w7, w6.setCell ⟨qd, 1, none⟩ (.slice af n2 cf) = w7 := ⟨_, rfl⟩
        first | rw [hw7] | skip
        have K7 : ∀ b, b < wr.heap.size → some b ≠ (Value.slice (some ⟨qb, 0, none⟩) 0 N2).ownBlock → b ≠ qd → w7.heap[b]? = wr.heap[b]? := fun b h1 h2 h3 => by rw [← hw7]; exact keep_row (unhide H6).2 b h1 h2 h3
        have s67 : wr.heap.size ≤ w7.heap.size := by rw [← hw7]; simpa using (unhide H6).2.grown.size
        have od7 : w7.heap[qd]? = some (.cells #[Lv, .slice af n2 cf, .slice (some ⟨qc, 0, none⟩) 0 N3] 27 (0, 0)) := by rw [← hw7]; exact set3_1 od6 _
        have of7 : w7.ownsRow (G + 2) 50 4 (.slice af n2 cf) n2 (m.fs.map fnV).flatten := by rw [← hw7]; exact own_later (unhide H6).1 (fun b hl hb => heap_setCell_other _ _ _ _ (fun e => own_off (unhide H6).1 od6 (by decide) (by rw [hb]; exact congrArg some e)))
        have oL7 : w7.ownsRow (G + 2) 42 5 Lv n1 (flat V n1) := own_later (unhide HMo).oL (fun b hl hb => K7 b hl (apart_at (unhide HMo).oL (unhide HMo).ob (by decide) b hb) (fun e => own_off (unhide HMo).oL (unhide HMo).od (by decide) (by rw [hb, e])))
        have oc7 : w7.ownsRow (G + 2) 52 2 (.slice (some ⟨qc, 0, none⟩) 0 N3) 0 [] := own_later (unhide HMo).oc (fun b hl hb => K7 b hl (apart_at (unhide HMo).oc (unhide HMo).ob (by decide) b hb) (fun e => own_off (unhide HMo).oc (unhide HMo).od (by decide) (by rw [hb, e])))
        have hobl : ∀ b, (Value.slice (some ⟨qb, 0, none⟩) 0 N2).ownBlock = some b → G + 2 ≤ b := fun b hb => ((unhide HMo).ob.lt b hb).1
        have BW7 : Below w.heap.size w w7 := by
          rw [← hw7]
          exact ((unhide HMo).below.grown (unhide H6).2.grown hwrs (fun k hk => by have := hobl k hk; omega)).setCell (p := ⟨qd, 1, none⟩) (by show w.heap.size ≤ qd; omega) _
        have arg7 : w7.heap[G]? = some (.cells #[.slice b1 n1 d1, .slice b2 n2 d2, .slice b3 n3 d3] 27 (0, 0)) := (K7 G (by omega) (fun e => by have := hobl G e.symm; omega) (by omega)).trans (unhide HMo).arg
        have res7 : w7.heap[G + 1]? = some (.cells #[.slice none 0 0, .slice none 0 0, .slice none 0 0] 27 (0, 0)) := (K7 (G + 1) (by omega) (fun e => by have := hobl (G + 1) e.symm; omega) (by omega)).trans (unhide HMo).res
        have el7 : ∀ c y, c < n1 → m.cs[c]? = some y → IsP w7 (fun b => b < wr.heap.size ∧ some b ≠ Lv.ownBlock ∧ b ≠ qd ∧ b ≠ qb ∧ b ≠ qc ∧ b ≠ G + 1) y (.agg (V c).toArray) := fun c y hc hy => ((unhide HMo).el c y hc hy).move (fun b hb => K7 b hb.1 (fun e => hb.2.2.2.1 (Option.some.inj e)) hb.2.2.1)
        have X7 := hide (And.intro K7 (And.intro s67 (And.intro od7 (And.intro of7 (And.intro oL7 (And.intro oc7 (And.intro BW7 (And.intro arg7 (And.intro res7 el7)))))))))
        have hx7 : IsT w7 (fun b => b < B) 2 (m.xs.map exV) b3 d3 := ((unhide HM).1.later (BW7.mono (unhide HM).2.1)).hx
        have HX7 := hide hx7
        obtain ⟨a0', a1', a2'⟩ := row_cell3 arg7
        obtain ⟨t0'', t1'', t2''⟩ := row_cell3 od7
        clear K7 od7 of7 oL7 oc7 BW7 arg7 res7 el7 hx7 hw7 od6 fz6 t0' t1' t2' fz1 a0 a1 t1 a0' a1' t0'' t1'' hobl
        have tokB : True := trivial
        go_upto_region 8 with (first | (at_builtin; have _t := tokB; refine wpl_appS rfl (.tmp 46) (.tmp 48) 25 52 ix _ 2 24 Tryz.underlying25 (unhide HIX).1 (unhide HIX).2.1 (unhide HIX).2.2.1 (unhide HIX).2.2.2 rfl (by omega) rfl (G + 2) qc N3 rfl (unhide X7).2.2.2.2.2.1 b3 n3 d3 (m.xs.map exV).flatten rfl (unhide HN23).2 (unhide HFl).2.2.2 ((unhide HX7).flat (by omega) (unhide HFl).2.1) (exV_one m.xs) (by unfold maxLen; omega) (by omega) (by omega) ?_; clear tokB; intro v8 w8 H8; obtain ⟨ax, cx, ex, _⟩ := slice_form (unhide H8).1; subst ex; have od8 := ((unhide H8).2.grown.block qd (by omega) (fun e => own_off (unhide X7).2.2.2.2.2.1 (unhide X7).2.2.1 (by decide) e.symm)).trans (unhide X7).2.2.1; obtain ⟨t0', t1', t2'⟩ := row_cell3 od8; have fz8 := frozen_of_row w8 qd 2 _ _ od8))
        obtain ⟨w9, hw9⟩ : ∃ w9, w8.setCell ⟨qd, 2, none⟩ (.slice ax n3 cx) = w9 := ⟨_, rfl⟩
        first | rw [hw9] | skip
        obtain ⟨K7, s67', od7, of7, oL7, oc7, BW7, arg7, res7, el7⟩ := unhide X7
        have K9 : ∀ b, b < w7.heap.size → some b ≠ (Value.slice (some ⟨qc, 0, none⟩) 0 N3).ownBlock → b ≠ qd → w9.heap[b]? = w7.heap[b]? := fun b h1 h2 h3 => by rw [← hw9]; exact keep_row (unhide H8).2 b h1 h2 h3
        have s79 : w7.heap.size ≤ w9.heap.size := by rw [← hw9]; simpa using (unhide H8).2.grown.size
        have hocl : ∀ b, (Value.slice (some ⟨qc, 0, none⟩) 0 N3).ownBlock = some b → G + 2 ≤ b := fun b hb => (oc7.lt b hb).1
        have od9 : w9.heap[qd]? = some (.cells #[Lv, .slice af n2 cf, .slice ax n3 cx] 27 (0, 0)) := by rw [← hw9]; exact set3_2 od8 _
        have ox9 : w9.ownsRow (G + 2) 52 2 (.slice ax n3 cx) n3 (m.xs.map exV).flatten := by rw [← hw9]; exact own_later (unhide H8).1 (fun b hl hb => heap_setCell_other _ _ _ _ (fun e => own_off (unhide H8).1 od8 (by decide) (by rw [hb]; exact congrArg some e)))
        have oL9 : w9.ownsRow (G + 2) 42 5 Lv n1 (flat V n1) := own_later oL7 (fun b hl hb => K9 b hl (apart_at oL7 oc7 (by decide) b hb) (fun e => own_off oL7 od7 (by decide) (by rw [hb, e])))
        have of9 : w9.ownsRow (G + 2) 50 4 (.slice af n2 cf) n2 (m.fs.map fnV).flatten := own_later of7 (fun b hl hb => K9 b hl (apart_at of7 oc7 (by decide) b hb) (fun e => own_off of7 od7 (by decide) (by rw [hb, e])))
        have BW9 : Below w.heap.size w w9 := by
          rw [← hw9]
          exact (BW7.grown (unhide H8).2.grown BW7.size (fun k hk => by have := hocl k hk; omega)).setCell (p := ⟨qd, 2, none⟩) (by show w.heap.size ≤ qd; omega) _
        have res9 : w9.heap[G + 1]? = some (.cells #[.slice none 0 0, .slice none 0 0, .slice none 0 0] 27 (0, 0)) := (K9 (G + 1) (by omega) (fun e => by have := hocl (G + 1) e.symm; omega) (by omega)).trans res7
        have el9 : ∀ c y, c < n1 → m.cs[c]? = some y → IsP w9 (fun b => b < wr.heap.size ∧ some b ≠ Lv.ownBlock ∧ b ≠ qd ∧ b ≠ qb ∧ b ≠ qc ∧ b ≠ G + 1) y (.agg (V c).toArray) := fun c y hc hy => (el7 c y hc hy).move (fun b hb => K9 b (by have := hb.1; omega) (fun e => hb.2.2.2.2.1 (Option.some.inj e)) hb.2.2.1)
        obtain ⟨aL, cL, eL, _⟩ := slice_form oL9
        subst eL
        obtain ⟨q0, q1, q2⟩ := row_cell3 od9
        obtain ⟨p0, p1, p2⟩ := row_cell3 res9
        have y0 := frozen_of_row w9 (G + 1) 0 _ _ res9
        have y1 := frozen_of_row w9 (G + 1) 1 _ _ res9
        have y2 := frozen_of_row w9 (G + 1) 2 _ _ res9
        have X9 := hide (And.intro oL9 (And.intro of9 (And.intro ox9 (And.intro BW9 (And.intro res9 (And.intro el9 (And.intro s79 od9)))))))
        clear K7 s67' od7 of7 oL7 oc7 BW7 arg7 res7 el7 K9 hocl od9 ox9 oL9 of9 BW9 res9 el9 hw9 od8 fz8 t0' t1' t2' t2'' a2'
        go_wp2_with fail
        obtain ⟨oL9, of9, ox9, BW9, res9, el9, s79', od9⟩ := unhide X9
        have hG9 : ∀ b, b ≠ G + 1 → (((w9.setCell ⟨G + 1, 0, none⟩ (.slice aL n1 cL)).setCell ⟨G + 1, 1, none⟩ (.slice af n2 cf)).setCell ⟨G + 1, 2, none⟩ (.slice ax n3 cx)).heap[b]? = w9.heap[b]? := fun b hb => by
          rw [heap_setCell_other _ _ _ _ hb, heap_setCell_other _ _ _ _ hb, heap_setCell_other _ _ _ _ hb]
        have hsz : (((w9.setCell ⟨G + 1, 0, none⟩ (.slice aL n1 cL)).setCell ⟨G + 1, 1, none⟩ (.slice af n2 cf)).setCell ⟨G + 1, 2, none⟩ (.slice ax n3 cx)).heap.size = w9.heap.size := by simp
        have hn : ∀ {e : TypeId} {size : Nat} {v : Value} {n : Nat} {xs : List Value}, w9.ownsRow (G + 2) e size v n xs → ∀ b, v.ownBlock = some b → b ≠ G + 1 := fun h b hb => by have := (h.lt b hb).1; omega
        refine bodyPost_ret (ret_c1 (p := 2) (T := 27) rfl _ _ (G + 1) _ _ _ rfl (set3 res9 _ _ _) Tryz.underlying27 rfl size_mod) rfl ⟨aL, cL, af, cf, ax, cx, rfl, ⟨?_, ?_, ?_, (unhide HM).1.bf, (unhide HM).1.bx⟩, by first | exact set3_below BW9 (by omega) _ _ _ | (rw [← hG]; exact set3_below BW9 (by omega) _ _ _)⟩
        · refine own_isC (unhide HM).2.2.1 (by omega) (unhide HMo).row (own_later oL9 (fun b _ hb => hG9 b (hn oL9 b hb))) (fun a ha => ?_) (fun c y hc hy => ?_)
          · rw [hsz]
            exact (oL9.lt a.block (by rw [ha]; rfl)).2
          · have hgg := (unhide HMo).gq
            exact ((el9 c y hc hy).move (fun b hb => hG9 b hb.2.2.2.2.2)).weak (fun b hb => by rw [hsz]; have := hb.1; omega)
        · exact own_isT (by omega) (unhide HFl).1 (by rw [List.length_map, (unhide HM).2.2.2.1]) (by omega) (own_later of9 (fun b _ hb => hG9 b (hn of9 b hb)))
        · exact own_isT (by omega) (unhide HFl).2.1 (by rw [List.length_map, (unhide HM).2.2.2.2]) (by omega) (own_later ox9 (fun b _ hb => hG9 b (hn ox9 b hb)))
    
  have HCC := hide HCONT
  clear HCONT
  have HS0 : Hid (w2.cell? ⟨G, 0, none⟩ = some (.slice b1 n1 d1) ∧ w2.cell? ⟨G, 1, none⟩ = some (.slice b2 n2 d2) ∧ w2.cell? ⟨G, 2, none⟩ = some (.slice b3 n3 d3)) := hide ⟨c0, c1, c2⟩
  have HSK : Hid (∀ u, Below w2.heap.size w2 u → u.cell? ⟨G, 0, none⟩ = some (.slice b1 n1 d1) ∧ u.cell? ⟨G, 1, none⟩ = some (.slice b2 n2 d2) ∧ u.cell? ⟨G, 2, none⟩ = some (.slice b3 n3 d3)) := hide (fun u hu => ⟨cell_ne c0 (hu.block _ (cell_lt c0)), cell_ne c1 (hu.block _ (cell_lt c1)), cell_ne c2 (hu.block _ (cell_lt c2))⟩)
  clear c0 c1 c2
  refine till_begin (S := fun w' => w'.cell? ⟨G, 0, none⟩ = some (.slice b1 n1 d1) ∧ w'.cell? ⟨G, 1, none⟩ = some (.slice b2 n2 d2) ∧ w'.cell? ⟨G, 2, none⟩ = some (.slice b3 n3 d3)) 17 (by kernel_rfl) ?_
  first | rw [hw2] | skip
  refine till_take 0 (v := .pointer (some ⟨G, 0, none⟩)) (some 5) rfl rfl rfl (by kernel_rfl) (by kernel_rfl) (by kernel_rfl) (by kernel_rfl) (fun _ _ _ h => h) (Or.inl ⟨by rfl, fun u hu => by obtain ⟨s0, s1, s2⟩ := hu; go_simp⟩) (unhide HS0) ?_
  try simp only [Act.put, List.setIfInBounds_toArray, List.set_cons_zero, List.set_cons_succ]
  refine till_take 1 (v := .slice b1 n1 d1) (some 6) rfl rfl rfl (by kernel_rfl) (by kernel_rfl) (by kernel_rfl) (by kernel_rfl) (fun _ _ _ h => h) (Or.inl ⟨by rfl, fun u hu => by obtain ⟨s0, s1, s2⟩ := hu; go_simp⟩) (unhide HS0) ?_
  try simp only [Act.put, List.setIfInBounds_toArray, List.set_cons_zero, List.set_cons_succ]
  refine till_take 2 (v := .int .i64 (n1 : Int)) (some 7) rfl rfl rfl (by kernel_rfl) (by kernel_rfl) (by kernel_rfl) (by kernel_rfl) (fun _ _ _ h => h) (Or.inl ⟨by rfl, fun u hu => by obtain ⟨s0, s1, s2⟩ := hu; go_simp⟩) (unhide HS0) ?_
  try simp only [Act.put, List.setIfInBounds_toArray, List.set_cons_zero, List.set_cons_succ]
  refine till_take 3 (v := .int .i64 (N1 : Int)) (some 8) rfl rfl rfl (by kernel_rfl) (by kernel_rfl) (by kernel_rfl) (by kernel_rfl) (fun _ _ _ h => h) (Or.inl ⟨by rfl, fun u hu => by obtain ⟨s0, s1, s2⟩ := hu; go_simp⟩) (unhide HS0) ?_
  try simp only [Act.put, List.setIfInBounds_toArray, List.set_cons_zero, List.set_cons_succ]
  refine till_take 5 (v := .pointer (some ⟨G, 1, none⟩)) (some 10) rfl rfl rfl (by kernel_rfl) (by kernel_rfl) (by kernel_rfl) (by kernel_rfl) (fun _ _ _ h => h) (Or.inl ⟨by rfl, fun u hu => by obtain ⟨s0, s1, s2⟩ := hu; go_simp⟩) (unhide HS0) ?_
  try simp only [Act.put, List.setIfInBounds_toArray, List.set_cons_zero, List.set_cons_succ]
  refine till_take 6 (v := .slice b2 n2 d2) (some 11) rfl rfl rfl (by kernel_rfl) (by kernel_rfl) (by kernel_rfl) (by kernel_rfl) (fun _ _ _ h => h) (Or.inl ⟨by rfl, fun u hu => by obtain ⟨s0, s1, s2⟩ := hu; go_simp⟩) (unhide HS0) ?_
  try simp only [Act.put, List.setIfInBounds_toArray, List.set_cons_zero, List.set_cons_succ]
  refine till_take 7 (v := .int .i64 (n2 : Int)) (some 12) rfl rfl rfl (by kernel_rfl) (by kernel_rfl) (by kernel_rfl) (by kernel_rfl) (fun _ _ _ h => h) (Or.inl ⟨by rfl, fun u hu => by obtain ⟨s0, s1, s2⟩ := hu; go_simp⟩) (unhide HS0) ?_
  try simp only [Act.put, List.setIfInBounds_toArray, List.set_cons_zero, List.set_cons_succ]
  refine till_take 8 (v := .int .i64 (N2 : Int)) (some 13) rfl rfl rfl (by kernel_rfl) (by kernel_rfl) (by kernel_rfl) (by kernel_rfl) (fun _ _ _ h => h) (Or.inl ⟨by rfl, fun u hu => by obtain ⟨s0, s1, s2⟩ := hu; go_simp⟩) (unhide HS0) ?_
  try simp only [Act.put, List.setIfInBounds_toArray, List.set_cons_zero, List.set_cons_succ]
  refine till_take 10 (v := .pointer (some ⟨G, 2, none⟩)) (some 15) rfl rfl rfl (by kernel_rfl) (by kernel_rfl) (by kernel_rfl) (by kernel_rfl) (fun _ _ _ h => h) (Or.inl ⟨by rfl, fun u hu => by obtain ⟨s0, s1, s2⟩ := hu; go_simp⟩) (unhide HS0) ?_
  try simp only [Act.put, List.setIfInBounds_toArray, List.set_cons_zero, List.set_cons_succ]
  refine till_take 11 (v := .slice b3 n3 d3) (some 16) rfl rfl rfl (by kernel_rfl) (by kernel_rfl) (by kernel_rfl) (by kernel_rfl) (fun _ _ _ h => h) (Or.inl ⟨by rfl, fun u hu => by obtain ⟨s0, s1, s2⟩ := hu; go_simp⟩) (unhide HS0) ?_
  try simp only [Act.put, List.setIfInBounds_toArray, List.set_cons_zero, List.set_cons_succ]
  refine till_take 12 (v := .int .i64 (n3 : Int)) (some 17) rfl rfl rfl (by kernel_rfl) (by kernel_rfl) (by kernel_rfl) (by kernel_rfl) (fun _ _ _ h => h) (Or.inl ⟨by rfl, fun u hu => by obtain ⟨s0, s1, s2⟩ := hu; go_simp⟩) (unhide HS0) ?_
  try simp only [Act.put, List.setIfInBounds_toArray, List.set_cons_zero, List.set_cons_succ]
  refine till_take 13 (v := .int .i64 (N3 : Int)) (some 18) rfl rfl rfl (by kernel_rfl) (by kernel_rfl) (by kernel_rfl) (by kernel_rfl) (fun _ _ _ h => h) (Or.inl ⟨by rfl, fun u hu => by obtain ⟨s0, s1, s2⟩ := hu; go_simp⟩) (unhide HS0) ?_
  try simp only [Act.put, List.setIfInBounds_toArray, List.set_cons_zero, List.set_cons_succ]
  clear hw2 hK0 k1 k2 k3 z1 z2 hw1
  refine till_each [4, 9, 14, 16] (by kernel_rfl) rfl (fun i hi => ?_)
  simp only [List.mem_cons, List.not_mem_nil, or_false] at hi
  rcases hi with rfl | rfl | rfl | rfl
  · refine ⟨_, rfl, fun K hK => ?_⟩
    refine step_make_own rfl _ _ 23 rfl (G + 2) 42 iv _ 5 Tryz.underlying23 (unhide HIV).1 (unhide HIV).2.1 (unhide HIV).2.2.1 .i64 .i64 _ N1 rfl rfl rfl (by rw [(unhide HIV).2.2.2]; have := unhide HNN; omega) (by have := unhide HNN; unfold maxLen; omega) (by have := (unhide HW2).2.2.2; omega) (fun w104 o4 g4 => ?_)
    have B1 : Below w2.heap.size w2 w104 := below_grown g4
    refine hK.out _ _ (Or.inr (unhide HSK _ B1)) ?_
    clear hK K
    try simp only [Act.put, List.setIfInBounds_toArray, List.set_cons_zero, List.set_cons_succ]
    refine till_each [9, 14, 16] (by kernel_rfl) rfl (fun i hi => ?_)
    simp only [List.mem_cons, List.not_mem_nil, or_false] at hi
    rcases hi with rfl | rfl | rfl
    · refine ⟨_, rfl, fun K hK => ?_⟩
      refine step_make_own rfl _ _ 24 rfl (G + 2) 50 if_ _ 4 Tryz.underlying24 (unhide HIF).1 (unhide HIF).2.1 (unhide HIF).2.2.1 .i64 .i64 _ N2 rfl rfl rfl (by rw [(unhide HIF).2.2.2]; have := unhide HNN; omega) (by have := unhide HNN; unfold maxLen; omega) (by have := (unhide HW2).2.2.2; have := B1.size; omega) (fun w9_4 o9 g9 => ?_)
      have B2 : Below w2.heap.size w2 w9_4 := B1.trans ((below_grown g9).mono B1.size)
      refine hK.out _ _ (Or.inr (unhide HSK _ B2)) ?_
      clear hK K
      try simp only [Act.put, List.setIfInBounds_toArray, List.set_cons_zero, List.set_cons_succ]
      refine till_each [14, 16] (by kernel_rfl) rfl (fun i hi => ?_)
      simp only [List.mem_cons, List.not_mem_nil, or_false] at hi
      rcases hi with rfl | rfl
      · refine ⟨_, rfl, fun K hK => ?_⟩
        refine step_make_own rfl _ _ 25 rfl (G + 2) 52 ix _ 2 Tryz.underlying25 (unhide HIX).1 (unhide HIX).2.1 (unhide HIX).2.2.1 .i64 .i64 _ N3 rfl rfl rfl (by rw [(unhide HIX).2.2.2]; have := unhide HNN; omega) (by have := unhide HNN; unfold maxLen; omega) (by have := (unhide HW2).2.2.2; have := B2.size; omega) (fun w14_4_9 o14 g14 => ?_)
        have B3 : Below w2.heap.size w2 w14_4_9 := B2.trans ((below_grown g14).mono B2.size)
        refine hK.out _ _ (Or.inr (unhide HSK _ B3)) ?_
        clear hK K
        try simp only [Act.put, List.setIfInBounds_toArray, List.set_cons_zero, List.set_cons_succ]
        refine till_take 15 (v := .agg #[.slice (some ⟨w2.heap.size, 0, none⟩) 0 N1, .slice (some ⟨w104.heap.size, 0, none⟩) 0 N2, .slice (some ⟨w9_4.heap.size, 0, none⟩) 0 N3]) (some 20) rfl rfl rfl (by kernel_rfl) (by kernel_rfl) (by kernel_rfl) (by kernel_rfl) (fun _ _ _ h => h) (Or.inl ⟨by rfl, fun u hu => by go_simp⟩) (unhide HSK _ B3) ?_
        try simp only [Act.put, List.setIfInBounds_toArray, List.set_cons_zero, List.set_cons_succ]
        refine till_each [16] (by kernel_rfl) rfl (fun i hi => ?_)
        simp only [List.mem_cons, List.not_mem_nil, or_false] at hi
        subst hi
        refine ⟨_, rfl, fun K hK => ?_⟩
        go_simp
        obtain ⟨w16_4_9_14, hw16_4_9_14⟩ : ∃ u, w14_4_9.alloc (.cells #[.slice none 0 0, .slice none 0 0, .slice none 0 0] 27) = u := ⟨_, rfl⟩
        rw [hw16_4_9_14]
        have g16 : w14_4_9.grownBy w16_4_9_14 none := by rw [← hw16_4_9_14]; exact World.grownBy_alloc _ _ _
        have o16 : w16_4_9_14.heap[w14_4_9.heap.size]? = some (.cells #[.slice none 0 0, .slice none 0 0, .slice none 0 0] 27 (0, 0)) := by rw [← hw16_4_9_14]; exact heap_alloc_new _ _
        clear hw16_4_9_14
        have B4 : Below w2.heap.size w2 w16_4_9_14 := B3.trans ((below_grown g16).mono B3.size)
        refine hK.out _ _ (Or.inr (unhide HSK _ B4)) ?_
        clear hK K
        try simp only [Act.put, List.setIfInBounds_toArray, List.set_cons_zero, List.set_cons_succ]
        have fo := four_of hG (unhide HW2).2.2.2 (unhide HW2).1 B4 (unhide HW2).2.1 (unhide HW2).2.2.1 (((o4.kept g9 (Or.inr (by simp [Value.ownBlock]))).kept g14 (Or.inr (by simp [Value.ownBlock]))).kept g16 (Or.inr (by simp [Value.ownBlock]))) ((o9.kept g14 (Or.inr (by simp [Value.ownBlock]))).kept g16 (Or.inr (by simp [Value.ownBlock]))) (o14.kept g16 (Or.inr (by simp [Value.ownBlock]))) o16 (by have := (unhide HW2).2.2.2; have := B3.size; omega)
        have od : w16_4_9_14.heap[w14_4_9.heap.size]? = some (.cells #[.slice none 0 0, .slice none 0 0, .slice none 0 0] 27 (0, 0)) := o16
        refine till_one 17 (by kernel_rfl) rfl (fun K hK => ?_)
        obtain ⟨t0, t1, t2⟩ := row_cell3 od
        have y0 := frozen_of_row _ _ 0 _ _ od
        have y1 := frozen_of_row _ _ 1 _ _ od
        have y2 := frozen_of_row _ _ 2 _ _ od
        go_simp
        refine hK.out _ _ (Or.inl (by first | rfl | trivial)) ?_
        clear hK K
        try simp only [Act.put, List.setIfInBounds_toArray, List.set_cons_zero, List.set_cons_succ]
        refine till_done (by kernel_rfl) ?_ _
        exact unhide HCC _ _ _ _ _ (hide fo)
      · refine ⟨_, rfl, fun K hK => ?_⟩
        go_simp
        obtain ⟨w16_4_9, hw16_4_9⟩ : ∃ u, w9_4.alloc (.cells #[.slice none 0 0, .slice none 0 0, .slice none 0 0] 27) = u := ⟨_, rfl⟩
        rw [hw16_4_9]
        have g16 : w9_4.grownBy w16_4_9 none := by rw [← hw16_4_9]; exact World.grownBy_alloc _ _ _
        have o16 : w16_4_9.heap[w9_4.heap.size]? = some (.cells #[.slice none 0 0, .slice none 0 0, .slice none 0 0] 27 (0, 0)) := by rw [← hw16_4_9]; exact heap_alloc_new _ _
        clear hw16_4_9
        have B3 : Below w2.heap.size w2 w16_4_9 := B2.trans ((below_grown g16).mono B2.size)
        refine hK.out _ _ (Or.inr (unhide HSK _ B3)) ?_
        clear hK K
        try simp only [Act.put, List.setIfInBounds_toArray, List.set_cons_zero, List.set_cons_succ]
        refine till_each [14] (by kernel_rfl) rfl (fun i hi => ?_)
        simp only [List.mem_cons, List.not_mem_nil, or_false] at hi
        subst hi
        refine ⟨_, rfl, fun K hK => ?_⟩
        refine step_make_own rfl _ _ 25 rfl (G + 2) 52 ix _ 2 Tryz.underlying25 (unhide HIX).1 (unhide HIX).2.1 (unhide HIX).2.2.1 .i64 .i64 _ N3 rfl rfl rfl (by rw [(unhide HIX).2.2.2]; have := unhide HNN; omega) (by have := unhide HNN; unfold maxLen; omega) (by have := (unhide HW2).2.2.2; have := B3.size; omega) (fun w14_4_9_16 o14 g14 => ?_)
        have B4 : Below w2.heap.size w2 w14_4_9_16 := B3.trans ((below_grown g14).mono B3.size)
        refine hK.out _ _ (Or.inr (unhide HSK _ B4)) ?_
        clear hK K
        try simp only [Act.put, List.setIfInBounds_toArray, List.set_cons_zero, List.set_cons_succ]
        have fo := four_of hG (unhide HW2).2.2.2 (unhide HW2).1 B4 (unhide HW2).2.1 (unhide HW2).2.2.1 (((o4.kept g9 (Or.inr (by simp [Value.ownBlock]))).kept g16 (Or.inr (by simp [Value.ownBlock]))).kept g14 (Or.inr (by simp [Value.ownBlock]))) ((o9.kept g16 (Or.inr (by simp [Value.ownBlock]))).kept g14 (Or.inr (by simp [Value.ownBlock]))) o14 (((below_grown g14).block _ (Array.getElem?_eq_some_iff.1 o16).1).trans o16) (by have := (unhide HW2).2.2.2; have := B2.size; omega)
        have od : w14_4_9_16.heap[w9_4.heap.size]? = some (.cells #[.slice none 0 0, .slice none 0 0, .slice none 0 0] 27 (0, 0)) := (((below_grown g14).block _ (Array.getElem?_eq_some_iff.1 o16).1).trans o16)
        refine till_one 15 (by kernel_rfl) rfl (fun K hK => ?_)
        go_simp
        refine hK.out _ _ (Or.inr (unhide HSK _ B4)) ?_
        clear hK K
        try simp only [Act.put, List.setIfInBounds_toArray, List.set_cons_zero, List.set_cons_succ]
        refine till_one 17 (by kernel_rfl) rfl (fun K hK => ?_)
        obtain ⟨t0, t1, t2⟩ := row_cell3 od
        have y0 := frozen_of_row _ _ 0 _ _ od
        have y1 := frozen_of_row _ _ 1 _ _ od
        have y2 := frozen_of_row _ _ 2 _ _ od
        go_simp
        refine hK.out _ _ (Or.inl (by first | rfl | trivial)) ?_
        clear hK K
        try simp only [Act.put, List.setIfInBounds_toArray, List.set_cons_zero, List.set_cons_succ]
        refine till_done (by kernel_rfl) ?_ _
        exact unhide HCC _ _ _ _ _ (hide fo)
    · refine ⟨_, rfl, fun K hK => ?_⟩
      refine step_make_own rfl _ _ 25 rfl (G + 2) 52 ix _ 2 Tryz.underlying25 (unhide HIX).1 (unhide HIX).2.1 (unhide HIX).2.2.1 .i64 .i64 _ N3 rfl rfl rfl (by rw [(unhide HIX).2.2.2]; have := unhide HNN; omega) (by have := unhide HNN; unfold maxLen; omega) (by have := (unhide HW2).2.2.2; have := B1.size; omega) (fun w14_4 o14 g14 => ?_)
      have B2 : Below w2.heap.size w2 w14_4 := B1.trans ((below_grown g14).mono B1.size)
      refine hK.out _ _ (Or.inr (unhide HSK _ B2)) ?_
      clear hK K
      try simp only [Act.put, List.setIfInBounds_toArray, List.set_cons_zero, List.set_cons_succ]
      refine till_each [9, 16] (by kernel_rfl) rfl (fun i hi => ?_)
      simp only [List.mem_cons, List.not_mem_nil, or_false] at hi
      rcases hi with rfl | rfl
      · refine ⟨_, rfl, fun K hK => ?_⟩
        refine step_make_own rfl _ _ 24 rfl (G + 2) 50 if_ _ 4 Tryz.underlying24 (unhide HIF).1 (unhide HIF).2.1 (unhide HIF).2.2.1 .i64 .i64 _ N2 rfl rfl rfl (by rw [(unhide HIF).2.2.2]; have := unhide HNN; omega) (by have := unhide HNN; unfold maxLen; omega) (by have := (unhide HW2).2.2.2; have := B2.size; omega) (fun w9_4_14 o9 g9 => ?_)
        have B3 : Below w2.heap.size w2 w9_4_14 := B2.trans ((below_grown g9).mono B2.size)
        refine hK.out _ _ (Or.inr (unhide HSK _ B3)) ?_
        clear hK K
        try simp only [Act.put, List.setIfInBounds_toArray, List.set_cons_zero, List.set_cons_succ]
        refine till_take 15 (v := .agg #[.slice (some ⟨w2.heap.size, 0, none⟩) 0 N1, .slice (some ⟨w14_4.heap.size, 0, none⟩) 0 N2, .slice (some ⟨w104.heap.size, 0, none⟩) 0 N3]) (some 20) rfl rfl rfl (by kernel_rfl) (by kernel_rfl) (by kernel_rfl) (by kernel_rfl) (fun _ _ _ h => h) (Or.inl ⟨by rfl, fun u hu => by go_simp⟩) (unhide HSK _ B3) ?_
        try simp only [Act.put, List.setIfInBounds_toArray, List.set_cons_zero, List.set_cons_succ]
        refine till_each [16] (by kernel_rfl) rfl (fun i hi => ?_)
        simp only [List.mem_cons, List.not_mem_nil, or_false] at hi
        subst hi
        refine ⟨_, rfl, fun K hK => ?_⟩
        go_simp
        obtain ⟨w16_4_14_9, hw16_4_14_9⟩ : ∃ u, w9_4_14.alloc (.cells #[.slice none 0 0, .slice none 0 0, .slice none 0 0] 27) = u := ⟨_, rfl⟩
        rw [hw16_4_14_9]
        have g16 : w9_4_14.grownBy w16_4_14_9 none := by rw [← hw16_4_14_9]; exact World.grownBy_alloc _ _ _
        have o16 : w16_4_14_9.heap[w9_4_14.heap.size]? = some (.cells #[.slice none 0 0, .slice none 0 0, .slice none 0 0] 27 (0, 0)) := by rw [← hw16_4_14_9]; exact heap_alloc_new _ _
        clear hw16_4_14_9
        have B4 : Below w2.heap.size w2 w16_4_14_9 := B3.trans ((below_grown g16).mono B3.size)
        refine hK.out _ _ (Or.inr (unhide HSK _ B4)) ?_
        clear hK K
        try simp only [Act.put, List.setIfInBounds_toArray, List.set_cons_zero, List.set_cons_succ]
        have fo := four_of hG (unhide HW2).2.2.2 (unhide HW2).1 B4 (unhide HW2).2.1 (unhide HW2).2.2.1 (((o4.kept g14 (Or.inr (by simp [Value.ownBlock]))).kept g9 (Or.inr (by simp [Value.ownBlock]))).kept g16 (Or.inr (by simp [Value.ownBlock]))) (o9.kept g16 (Or.inr (by simp [Value.ownBlock]))) ((o14.kept g9 (Or.inr (by simp [Value.ownBlock]))).kept g16 (Or.inr (by simp [Value.ownBlock]))) o16 (by have := (unhide HW2).2.2.2; have := B3.size; omega)
        have od : w16_4_14_9.heap[w9_4_14.heap.size]? = some (.cells #[.slice none 0 0, .slice none 0 0, .slice none 0 0] 27 (0, 0)) := o16
        refine till_one 17 (by kernel_rfl) rfl (fun K hK => ?_)
        obtain ⟨t0, t1, t2⟩ := row_cell3 od
        have y0 := frozen_of_row _ _ 0 _ _ od
        have y1 := frozen_of_row _ _ 1 _ _ od
        have y2 := frozen_of_row _ _ 2 _ _ od
        go_simp
        refine hK.out _ _ (Or.inl (by first | rfl | trivial)) ?_
        clear hK K
        try simp only [Act.put, List.setIfInBounds_toArray, List.set_cons_zero, List.set_cons_succ]
        refine till_done (by kernel_rfl) ?_ _
        exact unhide HCC _ _ _ _ _ (hide fo)
      · refine ⟨_, rfl, fun K hK => ?_⟩
        go_simp
        obtain ⟨w16_4_14, hw16_4_14⟩ : ∃ u, w14_4.alloc (.cells #[.slice none 0 0, .slice none 0 0, .slice none 0 0] 27) = u := ⟨_, rfl⟩
        rw [hw16_4_14]
        have g16 : w14_4.grownBy w16_4_14 none := by rw [← hw16_4_14]; exact World.grownBy_alloc _ _ _
        have o16 : w16_4_14.heap[w14_4.heap.size]? = some (.cells #[.slice none 0 0, .slice none 0 0, .slice none 0 0] 27 (0, 0)) := by rw [← hw16_4_14]; exact heap_alloc_new _ _
        clear hw16_4_14
        have B3 : Below w2.heap.size w2 w16_4_14 := B2.trans ((below_grown g16).mono B2.size)
        refine hK.out _ _ (Or.inr (unhide HSK _ B3)) ?_
        clear hK K
        try simp only [Act.put, List.setIfInBounds_toArray, List.set_cons_zero, List.set_cons_succ]
        refine till_each [9] (by kernel_rfl) rfl (fun i hi => ?_)
        simp only [List.mem_cons, List.not_mem_nil, or_false] at hi
        subst hi
        refine ⟨_, rfl, fun K hK => ?_⟩
        refine step_make_own rfl _ _ 24 rfl (G + 2) 50 if_ _ 4 Tryz.underlying24 (unhide HIF).1 (unhide HIF).2.1 (unhide HIF).2.2.1 .i64 .i64 _ N2 rfl rfl rfl (by rw [(unhide HIF).2.2.2]; have := unhide HNN; omega) (by have := unhide HNN; unfold maxLen; omega) (by have := (unhide HW2).2.2.2; have := B3.size; omega) (fun w9_4_14_16 o9 g9 => ?_)
        have B4 : Below w2.heap.size w2 w9_4_14_16 := B3.trans ((below_grown g9).mono B3.size)
        refine hK.out _ _ (Or.inr (unhide HSK _ B4)) ?_
        clear hK K
        try simp only [Act.put, List.setIfInBounds_toArray, List.set_cons_zero, List.set_cons_succ]
        have fo := four_of hG (unhide HW2).2.2.2 (unhide HW2).1 B4 (unhide HW2).2.1 (unhide HW2).2.2.1 (((o4.kept g14 (Or.inr (by simp [Value.ownBlock]))).kept g16 (Or.inr (by simp [Value.ownBlock]))).kept g9 (Or.inr (by simp [Value.ownBlock]))) o9 ((o14.kept g16 (Or.inr (by simp [Value.ownBlock]))).kept g9 (Or.inr (by simp [Value.ownBlock]))) (((below_grown g9).block _ (Array.getElem?_eq_some_iff.1 o16).1).trans o16) (by have := (unhide HW2).2.2.2; have := B2.size; omega)
        have od : w9_4_14_16.heap[w14_4.heap.size]? = some (.cells #[.slice none 0 0, .slice none 0 0, .slice none 0 0] 27 (0, 0)) := (((below_grown g9).block _ (Array.getElem?_eq_some_iff.1 o16).1).trans o16)
        refine till_one 15 (by kernel_rfl) rfl (fun K hK => ?_)
        go_simp
        refine hK.out _ _ (Or.inr (unhide HSK _ B4)) ?_
        clear hK K
        try simp only [Act.put, List.setIfInBounds_toArray, List.set_cons_zero, List.set_cons_succ]
        refine till_one 17 (by kernel_rfl) rfl (fun K hK => ?_)
        obtain ⟨t0, t1, t2⟩ := row_cell3 od
        have y0 := frozen_of_row _ _ 0 _ _ od
        have y1 := frozen_of_row _ _ 1 _ _ od
        have y2 := frozen_of_row _ _ 2 _ _ od
        go_simp
        refine hK.out _ _ (Or.inl (by first | rfl | trivial)) ?_
        clear hK K
        try simp only [Act.put, List.setIfInBounds_toArray, List.set_cons_zero, List.set_cons_succ]
        refine till_done (by kernel_rfl) ?_ _
        exact unhide HCC _ _ _ _ _ (hide fo)
    · refine ⟨_, rfl, fun K hK => ?_⟩
      go_simp
      obtain ⟨w16_4, hw16_4⟩ : ∃ u, w104.alloc (.cells #[.slice none 0 0, .slice none 0 0, .slice none 0 0] 27) = u := ⟨_, rfl⟩
      rw [hw16_4]
      have g16 : w104.grownBy w16_4 none := by rw [← hw16_4]; exact World.grownBy_alloc _ _ _
      have o16 : w16_4.heap[w104.heap.size]? = some (.cells #[.slice none 0 0, .slice none 0 0, .slice none 0 0] 27 (0, 0)) := by rw [← hw16_4]; exact heap_alloc_new _ _
      clear hw16_4
      have B2 : Below w2.heap.size w2 w16_4 := B1.trans ((below_grown g16).mono B1.size)
      refine hK.out _ _ (Or.inr (unhide HSK _ B2)) ?_
      clear hK K
      try simp only [Act.put, List.setIfInBounds_toArray, List.set_cons_zero, List.set_cons_succ]
      refine till_each [9, 14] (by kernel_rfl) rfl (fun i hi => ?_)
      simp only [List.mem_cons, List.not_mem_nil, or_false] at hi
      rcases hi with rfl | rfl
      · refine ⟨_, rfl, fun K hK => ?_⟩
        refine step_make_own rfl _ _ 24 rfl (G + 2) 50 if_ _ 4 Tryz.underlying24 (unhide HIF).1 (unhide HIF).2.1 (unhide HIF).2.2.1 .i64 .i64 _ N2 rfl rfl rfl (by rw [(unhide HIF).2.2.2]; have := unhide HNN; omega) (by have := unhide HNN; unfold maxLen; omega) (by have := (unhide HW2).2.2.2; have := B2.size; omega) (fun w9_4_16 o9 g9 => ?_)
        have B3 : Below w2.heap.size w2 w9_4_16 := B2.trans ((below_grown g9).mono B2.size)
        refine hK.out _ _ (Or.inr (unhide HSK _ B3)) ?_
        clear hK K
        try simp only [Act.put, List.setIfInBounds_toArray, List.set_cons_zero, List.set_cons_succ]
        refine till_each [14] (by kernel_rfl) rfl (fun i hi => ?_)
        simp only [List.mem_cons, List.not_mem_nil, or_false] at hi
        subst hi
        refine ⟨_, rfl, fun K hK => ?_⟩
        refine step_make_own rfl _ _ 25 rfl (G + 2) 52 ix _ 2 Tryz.underlying25 (unhide HIX).1 (unhide HIX).2.1 (unhide HIX).2.2.1 .i64 .i64 _ N3 rfl rfl rfl (by rw [(unhide HIX).2.2.2]; have := unhide HNN; omega) (by have := unhide HNN; unfold maxLen; omega) (by have := (unhide HW2).2.2.2; have := B3.size; omega) (fun w14_4_16_9 o14 g14 => ?_)
        have B4 : Below w2.heap.size w2 w14_4_16_9 := B3.trans ((below_grown g14).mono B3.size)
        refine hK.out _ _ (Or.inr (unhide HSK _ B4)) ?_
        clear hK K
        try simp only [Act.put, List.setIfInBounds_toArray, List.set_cons_zero, List.set_cons_succ]
        have fo := four_of hG (unhide HW2).2.2.2 (unhide HW2).1 B4 (unhide HW2).2.1 (unhide HW2).2.2.1 (((o4.kept g16 (Or.inr (by simp [Value.ownBlock]))).kept g9 (Or.inr (by simp [Value.ownBlock]))).kept g14 (Or.inr (by simp [Value.ownBlock]))) (o9.kept g14 (Or.inr (by simp [Value.ownBlock]))) o14 (((below_grown g14).block _ (Array.getElem?_eq_some_iff.1 (((below_grown g9).block _ (Array.getElem?_eq_some_iff.1 o16).1).trans o16)).1).trans (((below_grown g9).block _ (Array.getElem?_eq_some_iff.1 o16).1).trans o16)) (by have := (unhide HW2).2.2.2; have := B1.size; omega)
        have od : w14_4_16_9.heap[w104.heap.size]? = some (.cells #[.slice none 0 0, .slice none 0 0, .slice none 0 0] 27 (0, 0)) := (((below_grown g14).block _ (Array.getElem?_eq_some_iff.1 (((below_grown g9).block _ (Array.getElem?_eq_some_iff.1 o16).1).trans o16)).1).trans (((below_grown g9).block _ (Array.getElem?_eq_some_iff.1 o16).1).trans o16))
        refine till_one 15 (by kernel_rfl) rfl (fun K hK => ?_)
        go_simp
        refine hK.out _ _ (Or.inr (unhide HSK _ B4)) ?_
        clear hK K
        try simp only [Act.put, List.setIfInBounds_toArray, List.set_cons_zero, List.set_cons_succ]
        refine till_one 17 (by kernel_rfl) rfl (fun K hK => ?_)
        obtain ⟨t0, t1, t2⟩ := row_cell3 od
        have y0 := frozen_of_row _ _ 0 _ _ od
        have y1 := frozen_of_row _ _ 1 _ _ od
        have y2 := frozen_of_row _ _ 2 _ _ od
        go_simp
        refine hK.out _ _ (Or.inl (by first | rfl | trivial)) ?_
        clear hK K
        try simp only [Act.put, List.setIfInBounds_toArray, List.set_cons_zero, List.set_cons_succ]
        refine till_done (by kernel_rfl) ?_ _
        exact unhide HCC _ _ _ _ _ (hide fo)
      · refine ⟨_, rfl, fun K hK => ?_⟩
        refine step_make_own rfl _ _ 25 rfl (G + 2) 52 ix _ 2 Tryz.underlying25 (unhide HIX).1 (unhide HIX).2.1 (unhide HIX).2.2.1 .i64 .i64 _ N3 rfl rfl rfl (by rw [(unhide HIX).2.2.2]; have := unhide HNN; omega) (by have := unhide HNN; unfold maxLen; omega) (by have := (unhide HW2).2.2.2; have := B2.size; omega) (fun w14_4_16 o14 g14 => ?_)
        have B3 : Below w2.heap.size w2 w14_4_16 := B2.trans ((below_grown g14).mono B2.size)
        refine hK.out _ _ (Or.inr (unhide HSK _ B3)) ?_
        clear hK K
        try simp only [Act.put, List.setIfInBounds_toArray, List.set_cons_zero, List.set_cons_succ]
        refine till_each [9] (by kernel_rfl) rfl (fun i hi => ?_)
        simp only [List.mem_cons, List.not_mem_nil, or_false] at hi
        subst hi
        refine ⟨_, rfl, fun K hK => ?_⟩
        refine step_make_own rfl _ _ 24 rfl (G + 2) 50 if_ _ 4 Tryz.underlying24 (unhide HIF).1 (unhide HIF).2.1 (unhide HIF).2.2.1 .i64 .i64 _ N2 rfl rfl rfl (by rw [(unhide HIF).2.2.2]; have := unhide HNN; omega) (by have := unhide HNN; unfold maxLen; omega) (by have := (unhide HW2).2.2.2; have := B3.size; omega) (fun w9_4_16_14 o9 g9 => ?_)
        have B4 : Below w2.heap.size w2 w9_4_16_14 := B3.trans ((below_grown g9).mono B3.size)
        refine hK.out _ _ (Or.inr (unhide HSK _ B4)) ?_
        clear hK K
        try simp only [Act.put, List.setIfInBounds_toArray, List.set_cons_zero, List.set_cons_succ]
        have fo := four_of hG (unhide HW2).2.2.2 (unhide HW2).1 B4 (unhide HW2).2.1 (unhide HW2).2.2.1 (((o4.kept g16 (Or.inr (by simp [Value.ownBlock]))).kept g14 (Or.inr (by simp [Value.ownBlock]))).kept g9 (Or.inr (by simp [Value.ownBlock]))) o9 (o14.kept g9 (Or.inr (by simp [Value.ownBlock]))) (((below_grown g9).block _ (Array.getElem?_eq_some_iff.1 (((below_grown g14).block _ (Array.getElem?_eq_some_iff.1 o16).1).trans o16)).1).trans (((below_grown g14).block _ (Array.getElem?_eq_some_iff.1 o16).1).trans o16)) (by have := (unhide HW2).2.2.2; have := B1.size; omega)
        have od : w9_4_16_14.heap[w104.heap.size]? = some (.cells #[.slice none 0 0, .slice none 0 0, .slice none 0 0] 27 (0, 0)) := (((below_grown g9).block _ (Array.getElem?_eq_some_iff.1 (((below_grown g14).block _ (Array.getElem?_eq_some_iff.1 o16).1).trans o16)).1).trans (((below_grown g14).block _ (Array.getElem?_eq_some_iff.1 o16).1).trans o16))
        refine till_one 15 (by kernel_rfl) rfl (fun K hK => ?_)
        go_simp
        refine hK.out _ _ (Or.inr (unhide HSK _ B4)) ?_
        clear hK K
        try simp only [Act.put, List.setIfInBounds_toArray, List.set_cons_zero, List.set_cons_succ]
        refine till_one 17 (by kernel_rfl) rfl (fun K hK => ?_)
        obtain ⟨t0, t1, t2⟩ := row_cell3 od
        have y0 := frozen_of_row _ _ 0 _ _ od
        have y1 := frozen_of_row _ _ 1 _ _ od
        have y2 := frozen_of_row _ _ 2 _ _ od
        go_simp
        refine hK.out _ _ (Or.inl (by first | rfl | trivial)) ?_
        clear hK K
        try simp only [Act.put, List.setIfInBounds_toArray, List.set_cons_zero, List.set_cons_succ]
        refine till_done (by kernel_rfl) ?_ _
        exact unhide HCC _ _ _ _ _ (hide fo)
  · refine ⟨_, rfl, fun K hK => ?_⟩
    refine step_make_own rfl _ _ 24 rfl (G + 2) 50 if_ _ 4 Tryz.underlying24 (unhide HIF).1 (unhide HIF).2.1 (unhide HIF).2.2.1 .i64 .i64 _ N2 rfl rfl rfl (by rw [(unhide HIF).2.2.2]; have := unhide HNN; omega) (by have := unhide HNN; unfold maxLen; omega) (by have := (unhide HW2).2.2.2; omega) (fun w109 o9 g9 => ?_)
    have B1 : Below w2.heap.size w2 w109 := below_grown g9
    refine hK.out _ _ (Or.inr (unhide HSK _ B1)) ?_
    clear hK K
    try simp only [Act.put, List.setIfInBounds_toArray, List.set_cons_zero, List.set_cons_succ]
    refine till_each [4, 14, 16] (by kernel_rfl) rfl (fun i hi => ?_)
    simp only [List.mem_cons, List.not_mem_nil, or_false] at hi
    rcases hi with rfl | rfl | rfl
    · refine ⟨_, rfl, fun K hK => ?_⟩
      refine step_make_own rfl _ _ 23 rfl (G + 2) 42 iv _ 5 Tryz.underlying23 (unhide HIV).1 (unhide HIV).2.1 (unhide HIV).2.2.1 .i64 .i64 _ N1 rfl rfl rfl (by rw [(unhide HIV).2.2.2]; have := unhide HNN; omega) (by have := unhide HNN; unfold maxLen; omega) (by have := (unhide HW2).2.2.2; have := B1.size; omega) (fun w4_9 o4 g4 => ?_)
      have B2 : Below w2.heap.size w2 w4_9 := B1.trans ((below_grown g4).mono B1.size)
      refine hK.out _ _ (Or.inr (unhide HSK _ B2)) ?_
      clear hK K
      try simp only [Act.put, List.setIfInBounds_toArray, List.set_cons_zero, List.set_cons_succ]
      refine till_each [14, 16] (by kernel_rfl) rfl (fun i hi => ?_)
      simp only [List.mem_cons, List.not_mem_nil, or_false] at hi
      rcases hi with rfl | rfl
      · refine ⟨_, rfl, fun K hK => ?_⟩
        refine step_make_own rfl _ _ 25 rfl (G + 2) 52 ix _ 2 Tryz.underlying25 (unhide HIX).1 (unhide HIX).2.1 (unhide HIX).2.2.1 .i64 .i64 _ N3 rfl rfl rfl (by rw [(unhide HIX).2.2.2]; have := unhide HNN; omega) (by have := unhide HNN; unfold maxLen; omega) (by have := (unhide HW2).2.2.2; have := B2.size; omega) (fun w14_9_4 o14 g14 => ?_)
        have B3 : Below w2.heap.size w2 w14_9_4 := B2.trans ((below_grown g14).mono B2.size)
        refine hK.out _ _ (Or.inr (unhide HSK _ B3)) ?_
        clear hK K
        try simp only [Act.put, List.setIfInBounds_toArray, List.set_cons_zero, List.set_cons_succ]
        refine till_take 15 (v := .agg #[.slice (some ⟨w109.heap.size, 0, none⟩) 0 N1, .slice (some ⟨w2.heap.size, 0, none⟩) 0 N2, .slice (some ⟨w4_9.heap.size, 0, none⟩) 0 N3]) (some 20) rfl rfl rfl (by kernel_rfl) (by kernel_rfl) (by kernel_rfl) (by kernel_rfl) (fun _ _ _ h => h) (Or.inl ⟨by rfl, fun u hu => by go_simp⟩) (unhide HSK _ B3) ?_
        try simp only [Act.put, List.setIfInBounds_toArray, List.set_cons_zero, List.set_cons_succ]
        refine till_each [16] (by kernel_rfl) rfl (fun i hi => ?_)
        simp only [List.mem_cons, List.not_mem_nil, or_false] at hi
        subst hi
        refine ⟨_, rfl, fun K hK => ?_⟩
        go_simp
        obtain ⟨w16_9_4_14, hw16_9_4_14⟩ : ∃ u, w14_9_4.alloc (.cells #[.slice none 0 0, .slice none 0 0, .slice none 0 0] 27) = u := ⟨_, rfl⟩
        rw [hw16_9_4_14]
        have g16 : w14_9_4.grownBy w16_9_4_14 none := by rw [← hw16_9_4_14]; exact World.grownBy_alloc _ _ _
        have o16 : w16_9_4_14.heap[w14_9_4.heap.size]? = some (.cells #[.slice none 0 0, .slice none 0 0, .slice none 0 0] 27 (0, 0)) := by rw [← hw16_9_4_14]; exact heap_alloc_new _ _
        clear hw16_9_4_14
        have B4 : Below w2.heap.size w2 w16_9_4_14 := B3.trans ((below_grown g16).mono B3.size)
        refine hK.out _ _ (Or.inr (unhide HSK _ B4)) ?_
        clear hK K
        try simp only [Act.put, List.setIfInBounds_toArray, List.set_cons_zero, List.set_cons_succ]
        have fo := four_of hG (unhide HW2).2.2.2 (unhide HW2).1 B4 (unhide HW2).2.1 (unhide HW2).2.2.1 ((o4.kept g14 (Or.inr (by simp [Value.ownBlock]))).kept g16 (Or.inr (by simp [Value.ownBlock]))) (((o9.kept g4 (Or.inr (by simp [Value.ownBlock]))).kept g14 (Or.inr (by simp [Value.ownBlock]))).kept g16 (Or.inr (by simp [Value.ownBlock]))) (o14.kept g16 (Or.inr (by simp [Value.ownBlock]))) o16 (by have := (unhide HW2).2.2.2; have := B3.size; omega)
        have od : w16_9_4_14.heap[w14_9_4.heap.size]? = some (.cells #[.slice none 0 0, .slice none 0 0, .slice none 0 0] 27 (0, 0)) := o16
        refine till_one 17 (by kernel_rfl) rfl (fun K hK => ?_)
        obtain ⟨t0, t1, t2⟩ := row_cell3 od
        have y0 := frozen_of_row _ _ 0 _ _ od
        have y1 := frozen_of_row _ _ 1 _ _ od
        have y2 := frozen_of_row _ _ 2 _ _ od
        go_simp
        refine hK.out _ _ (Or.inl (by first | rfl | trivial)) ?_
        clear hK K
        try simp only [Act.put, List.setIfInBounds_toArray, List.set_cons_zero, List.set_cons_succ]
        refine till_done (by kernel_rfl) ?_ _
        exact unhide HCC _ _ _ _ _ (hide fo)
      · refine ⟨_, rfl, fun K hK => ?_⟩
        go_simp
        obtain ⟨w16_9_4, hw16_9_4⟩ : ∃ u, w4_9.alloc (.cells #[.slice none 0 0, .slice none 0 0, .slice none 0 0] 27) = u := ⟨_, rfl⟩
        rw [hw16_9_4]
        have g16 : w4_9.grownBy w16_9_4 none := by rw [← hw16_9_4]; exact World.grownBy_alloc _ _ _
        have o16 : w16_9_4.heap[w4_9.heap.size]? = some (.cells #[.slice none 0 0, .slice none 0 0, .slice none 0 0] 27 (0, 0)) := by rw [← hw16_9_4]; exact heap_alloc_new _ _
        clear hw16_9_4
        have B3 : Below w2.heap.size w2 w16_9_4 := B2.trans ((below_grown g16).mono B2.size)
        refine hK.out _ _ (Or.inr (unhide HSK _ B3)) ?_
        clear hK K
        try simp only [Act.put, List.setIfInBounds_toArray, List.set_cons_zero, List.set_cons_succ]
        refine till_each [14] (by kernel_rfl) rfl (fun i hi => ?_)
        simp only [List.mem_cons, List.not_mem_nil, or_false] at hi
        subst hi
        refine ⟨_, rfl, fun K hK => ?_⟩
        refine step_make_own rfl _ _ 25 rfl (G + 2) 52 ix _ 2 Tryz.underlying25 (unhide HIX).1 (unhide HIX).2.1 (unhide HIX).2.2.1 .i64 .i64 _ N3 rfl rfl rfl (by rw [(unhide HIX).2.2.2]; have := unhide HNN; omega) (by have := unhide HNN; unfold maxLen; omega) (by have := (unhide HW2).2.2.2; have := B3.size; omega) (fun w14_9_4_16 o14 g14 => ?_)
        have B4 : Below w2.heap.size w2 w14_9_4_16 := B3.trans ((below_grown g14).mono B3.size)
        refine hK.out _ _ (Or.inr (unhide HSK _ B4)) ?_
        clear hK K
        try simp only [Act.put, List.setIfInBounds_toArray, List.set_cons_zero, List.set_cons_succ]
        have fo := four_of hG (unhide HW2).2.2.2 (unhide HW2).1 B4 (unhide HW2).2.1 (unhide HW2).2.2.1 ((o4.kept g16 (Or.inr (by simp [Value.ownBlock]))).kept g14 (Or.inr (by simp [Value.ownBlock]))) (((o9.kept g4 (Or.inr (by simp [Value.ownBlock]))).kept g16 (Or.inr (by simp [Value.ownBlock]))).kept g14 (Or.inr (by simp [Value.ownBlock]))) o14 (((below_grown g14).block _ (Array.getElem?_eq_some_iff.1 o16).1).trans o16) (by have := (unhide HW2).2.2.2; have := B2.size; omega)
        have od : w14_9_4_16.heap[w4_9.heap.size]? = some (.cells #[.slice none 0 0, .slice none 0 0, .slice none 0 0] 27 (0, 0)) := (((below_grown g14).block _ (Array.getElem?_eq_some_iff.1 o16).1).trans o16)
        refine till_one 15 (by kernel_rfl) rfl (fun K hK => ?_)
        go_simp
        refine hK.out _ _ (Or.inr (unhide HSK _ B4)) ?_
        clear hK K
        try simp only [Act.put, List.setIfInBounds_toArray, List.set_cons_zero, List.set_cons_succ]
        refine till_one 17 (by kernel_rfl) rfl (fun K hK => ?_)
        obtain ⟨t0, t1, t2⟩ := row_cell3 od
        have y0 := frozen_of_row _ _ 0 _ _ od
        have y1 := frozen_of_row _ _ 1 _ _ od
        have y2 := frozen_of_row _ _ 2 _ _ od
        go_simp
        refine hK.out _ _ (Or.inl (by first | rfl | trivial)) ?_
        clear hK K
        try simp only [Act.put, List.setIfInBounds_toArray, List.set_cons_zero, List.set_cons_succ]
        refine till_done (by kernel_rfl) ?_ _
        exact unhide HCC _ _ _ _ _ (hide fo)
    · refine ⟨_, rfl, fun K hK => ?_⟩
      refine step_make_own rfl _ _ 25 rfl (G + 2) 52 ix _ 2 Tryz.underlying25 (unhide HIX).1 (unhide HIX).2.1 (unhide HIX).2.2.1 .i64 .i64 _ N3 rfl rfl rfl (by rw [(unhide HIX).2.2.2]; have := unhide HNN; omega) (by have := unhide HNN; unfold maxLen; omega) (by have := (unhide HW2).2.2.2; have := B1.size; omega) (fun w14_9 o14 g14 => ?_)
      have B2 : Below w2.heap.size w2 w14_9 := B1.trans ((below_grown g14).mono B1.size)
      refine hK.out _ _ (Or.inr (unhide HSK _ B2)) ?_
      clear hK K
      try simp only [Act.put, List.setIfInBounds_toArray, List.set_cons_zero, List.set_cons_succ]
      refine till_each [4, 16] (by kernel_rfl) rfl (fun i hi => ?_)
      simp only [List.mem_cons, List.not_mem_nil, or_false] at hi
      rcases hi with rfl | rfl
      · refine ⟨_, rfl, fun K hK => ?_⟩
        refine step_make_own rfl _ _ 23 rfl (G + 2) 42 iv _ 5 Tryz.underlying23 (unhide HIV).1 (unhide HIV).2.1 (unhide HIV).2.2.1 .i64 .i64 _ N1 rfl rfl rfl (by rw [(unhide HIV).2.2.2]; have := unhide HNN; omega) (by have := unhide HNN; unfold maxLen; omega) (by have := (unhide HW2).2.2.2; have := B2.size; omega) (fun w4_9_14 o4 g4 => ?_)
        have B3 : Below w2.heap.size w2 w4_9_14 := B2.trans ((below_grown g4).mono B2.size)
        refine hK.out _ _ (Or.inr (unhide HSK _ B3)) ?_
        clear hK K
        try simp only [Act.put, List.setIfInBounds_toArray, List.set_cons_zero, List.set_cons_succ]
        refine till_take 15 (v := .agg #[.slice (some ⟨w14_9.heap.size, 0, none⟩) 0 N1, .slice (some ⟨w2.heap.size, 0, none⟩) 0 N2, .slice (some ⟨w109.heap.size, 0, none⟩) 0 N3]) (some 20) rfl rfl rfl (by kernel_rfl) (by kernel_rfl) (by kernel_rfl) (by kernel_rfl) (fun _ _ _ h => h) (Or.inl ⟨by rfl, fun u hu => by go_simp⟩) (unhide HSK _ B3) ?_
        try simp only [Act.put, List.setIfInBounds_toArray, List.set_cons_zero, List.set_cons_succ]
        refine till_each [16] (by kernel_rfl) rfl (fun i hi => ?_)
        simp only [List.mem_cons, List.not_mem_nil, or_false] at hi
        subst hi
        refine ⟨_, rfl, fun K hK => ?_⟩
        go_simp
        obtain ⟨w16_9_14_4, hw16_9_14_4⟩ : ∃ u, w4_9_14.alloc (.cells #[.slice none 0 0, .slice none 0 0, .slice none 0 0] 27) = u := ⟨_, rfl⟩
        rw [hw16_9_14_4]
        have g16 : w4_9_14.grownBy w16_9_14_4 none := by rw [← hw16_9_14_4]; exact World.grownBy_alloc _ _ _
        have o16 : w16_9_14_4.heap[w4_9_14.heap.size]? = some (.cells #[.slice none 0 0, .slice none 0 0, .slice none 0 0] 27 (0, 0)) := by rw [← hw16_9_14_4]; exact heap_alloc_new _ _
        clear hw16_9_14_4
        have B4 : Below w2.heap.size w2 w16_9_14_4 := B3.trans ((below_grown g16).mono B3.size)
        refine hK.out _ _ (Or.inr (unhide HSK _ B4)) ?_
        clear hK K
        try simp only [Act.put, List.setIfInBounds_toArray, List.set_cons_zero, List.set_cons_succ]
        have fo := four_of hG (unhide HW2).2.2.2 (unhide HW2).1 B4 (unhide HW2).2.1 (unhide HW2).2.2.1 (o4.kept g16 (Or.inr (by simp [Value.ownBlock]))) (((o9.kept g14 (Or.inr (by simp [Value.ownBlock]))).kept g4 (Or.inr (by simp [Value.ownBlock]))).kept g16 (Or.inr (by simp [Value.ownBlock]))) ((o14.kept g4 (Or.inr (by simp [Value.ownBlock]))).kept g16 (Or.inr (by simp [Value.ownBlock]))) o16 (by have := (unhide HW2).2.2.2; have := B3.size; omega)
        have od : w16_9_14_4.heap[w4_9_14.heap.size]? = some (.cells #[.slice none 0 0, .slice none 0 0, .slice none 0 0] 27 (0, 0)) := o16
        refine till_one 17 (by kernel_rfl) rfl (fun K hK => ?_)
        obtain ⟨t0, t1, t2⟩ := row_cell3 od
        have y0 := frozen_of_row _ _ 0 _ _ od
        have y1 := frozen_of_row _ _ 1 _ _ od
        have y2 := frozen_of_row _ _ 2 _ _ od
        go_simp
        refine hK.out _ _ (Or.inl (by first | rfl | trivial)) ?_
        clear hK K
        try simp only [Act.put, List.setIfInBounds_toArray, List.set_cons_zero, List.set_cons_succ]
        refine till_done (by kernel_rfl) ?_ _
        exact unhide HCC _ _ _ _ _ (hide fo)
      · refine ⟨_, rfl, fun K hK => ?_⟩
        go_simp
        obtain ⟨w16_9_14, hw16_9_14⟩ : ∃ u, w14_9.alloc (.cells #[.slice none 0 0, .slice none 0 0, .slice none 0 0] 27) = u := ⟨_, rfl⟩
        rw [hw16_9_14]
        have g16 : w14_9.grownBy w16_9_14 none := by rw [← hw16_9_14]; exact World.grownBy_alloc _ _ _
        have o16 : w16_9_14.heap[w14_9.heap.size]? = some (.cells #[.slice none 0 0, .slice none 0 0, .slice none 0 0] 27 (0, 0)) := by rw [← hw16_9_14]; exact heap_alloc_new _ _
        clear hw16_9_14
        have B3 : Below w2.heap.size w2 w16_9_14 := B2.trans ((below_grown g16).mono B2.size)
        refine hK.out _ _ (Or.inr (unhide HSK _ B3)) ?_
        clear hK K
        try simp only [Act.put, List.setIfInBounds_toArray, List.set_cons_zero, List.set_cons_succ]
        refine till_each [4] (by kernel_rfl) rfl (fun i hi => ?_)
        simp only [List.mem_cons, List.not_mem_nil, or_false] at hi
        subst hi
        refine ⟨_, rfl, fun K hK => ?_⟩
        refine step_make_own rfl _ _ 23 rfl (G + 2) 42 iv _ 5 Tryz.underlying23 (unhide HIV).1 (unhide HIV).2.1 (unhide HIV).2.2.1 .i64 .i64 _ N1 rfl rfl rfl (by rw [(unhide HIV).2.2.2]; have := unhide HNN; omega) (by have := unhide HNN; unfold maxLen; omega) (by have := (unhide HW2).2.2.2; have := B3.size; omega) (fun w4_9_14_16 o4 g4 => ?_)
        have B4 : Below w2.heap.size w2 w4_9_14_16 := B3.trans ((below_grown g4).mono B3.size)
        refine hK.out _ _ (Or.inr (unhide HSK _ B4)) ?_
        clear hK K
        try simp only [Act.put, List.setIfInBounds_toArray, List.set_cons_zero, List.set_cons_succ]
        have fo := four_of hG (unhide HW2).2.2.2 (unhide HW2).1 B4 (unhide HW2).2.1 (unhide HW2).2.2.1 o4 (((o9.kept g14 (Or.inr (by simp [Value.ownBlock]))).kept g16 (Or.inr (by simp [Value.ownBlock]))).kept g4 (Or.inr (by simp [Value.ownBlock]))) ((o14.kept g16 (Or.inr (by simp [Value.ownBlock]))).kept g4 (Or.inr (by simp [Value.ownBlock]))) (((below_grown g4).block _ (Array.getElem?_eq_some_iff.1 o16).1).trans o16) (by have := (unhide HW2).2.2.2; have := B2.size; omega)
        have od : w4_9_14_16.heap[w14_9.heap.size]? = some (.cells #[.slice none 0 0, .slice none 0 0, .slice none 0 0] 27 (0, 0)) := (((below_grown g4).block _ (Array.getElem?_eq_some_iff.1 o16).1).trans o16)
        refine till_one 15 (by kernel_rfl) rfl (fun K hK => ?_)
        go_simp
        refine hK.out _ _ (Or.inr (unhide HSK _ B4)) ?_
        clear hK K
        try simp only [Act.put, List.setIfInBounds_toArray, List.set_cons_zero, List.set_cons_succ]
        refine till_one 17 (by kernel_rfl) rfl (fun K hK => ?_)
        obtain ⟨t0, t1, t2⟩ := row_cell3 od
        have y0 := frozen_of_row _ _ 0 _ _ od
        have y1 := frozen_of_row _ _ 1 _ _ od
        have y2 := frozen_of_row _ _ 2 _ _ od
        go_simp
        refine hK.out _ _ (Or.inl (by first | rfl | trivial)) ?_
        clear hK K
        try simp only [Act.put, List.setIfInBounds_toArray, List.set_cons_zero, List.set_cons_succ]
        refine till_done (by kernel_rfl) ?_ _
        exact unhide HCC _ _ _ _ _ (hide fo)
    · refine ⟨_, rfl, fun K hK => ?_⟩
      go_simp
      obtain ⟨w16_9, hw16_9⟩ : ∃ u, w109.alloc (.cells #[.slice none 0 0, .slice none 0 0, .slice none 0 0] 27) = u := ⟨_, rfl⟩
      rw [hw16_9]
      have g16 : w109.grownBy w16_9 none := by rw [← hw16_9]; exact World.grownBy_alloc _ _ _
      have o16 : w16_9.heap[w109.heap.size]? = some (.cells #[.slice none 0 0, .slice none 0 0, .slice none 0 0] 27 (0, 0)) := by rw [← hw16_9]; exact heap_alloc_new _ _
      clear hw16_9
      have B2 : Below w2.heap.size w2 w16_9 := B1.trans ((below_grown g16).mono B1.size)
      refine hK.out _ _ (Or.inr (unhide HSK _ B2)) ?_
      clear hK K
      try simp only [Act.put, List.setIfInBounds_toArray, List.set_cons_zero, List.set_cons_succ]
      refine till_each [4, 14] (by kernel_rfl) rfl (fun i hi => ?_)
      simp only [List.mem_cons, List.not_mem_nil, or_false] at hi
      rcases hi with rfl | rfl
      · refine ⟨_, rfl, fun K hK => ?_⟩
        refine step_make_own rfl _ _ 23 rfl (G + 2) 42 iv _ 5 Tryz.underlying23 (unhide HIV).1 (unhide HIV).2.1 (unhide HIV).2.2.1 .i64 .i64 _ N1 rfl rfl rfl (by rw [(unhide HIV).2.2.2]; have := unhide HNN; omega) (by have := unhide HNN; unfold maxLen; omega) (by have := (unhide HW2).2.2.2; have := B2.size; omega) (fun w4_9_16 o4 g4 => ?_)
        have B3 : Below w2.heap.size w2 w4_9_16 := B2.trans ((below_grown g4).mono B2.size)
        refine hK.out _ _ (Or.inr (unhide HSK _ B3)) ?_
        clear hK K
        try simp only [Act.put, List.setIfInBounds_toArray, List.set_cons_zero, List.set_cons_succ]
        refine till_each [14] (by kernel_rfl) rfl (fun i hi => ?_)
        simp only [List.mem_cons, List.not_mem_nil, or_false] at hi
        subst hi
        refine ⟨_, rfl, fun K hK => ?_⟩
        refine step_make_own rfl _ _ 25 rfl (G + 2) 52 ix _ 2 Tryz.underlying25 (unhide HIX).1 (unhide HIX).2.1 (unhide HIX).2.2.1 .i64 .i64 _ N3 rfl rfl rfl (by rw [(unhide HIX).2.2.2]; have := unhide HNN; omega) (by have := unhide HNN; unfold maxLen; omega) (by have := (unhide HW2).2.2.2; have := B3.size; omega) (fun w14_9_16_4 o14 g14 => ?_)
        have B4 : Below w2.heap.size w2 w14_9_16_4 := B3.trans ((below_grown g14).mono B3.size)
        refine hK.out _ _ (Or.inr (unhide HSK _ B4)) ?_
        clear hK K
        try simp only [Act.put, List.setIfInBounds_toArray, List.set_cons_zero, List.set_cons_succ]
        have fo := four_of hG (unhide HW2).2.2.2 (unhide HW2).1 B4 (unhide HW2).2.1 (unhide HW2).2.2.1 (o4.kept g14 (Or.inr (by simp [Value.ownBlock]))) (((o9.kept g16 (Or.inr (by simp [Value.ownBlock]))).kept g4 (Or.inr (by simp [Value.ownBlock]))).kept g14 (Or.inr (by simp [Value.ownBlock]))) o14 (((below_grown g14).block _ (Array.getElem?_eq_some_iff.1 (((below_grown g4).block _ (Array.getElem?_eq_some_iff.1 o16).1).trans o16)).1).trans (((below_grown g4).block _ (Array.getElem?_eq_some_iff.1 o16).1).trans o16)) (by have := (unhide HW2).2.2.2; have := B1.size; omega)
        have od : w14_9_16_4.heap[w109.heap.size]? = some (.cells #[.slice none 0 0, .slice none 0 0, .slice none 0 0] 27 (0, 0)) := (((below_grown g14).block _ (Array.getElem?_eq_some_iff.1 (((below_grown g4).block _ (Array.getElem?_eq_some_iff.1 o16).1).trans o16)).1).trans (((below_grown g4).block _ (Array.getElem?_eq_some_iff.1 o16).1).trans o16))
        refine till_one 15 (by kernel_rfl) rfl (fun K hK => ?_)
        go_simp
        refine hK.out _ _ (Or.inr (unhide HSK _ B4)) ?_
        clear hK K
        try simp only [Act.put, List.setIfInBounds_toArray, List.set_cons_zero, List.set_cons_succ]
        refine till_one 17 (by kernel_rfl) rfl (fun K hK => ?_)
        obtain ⟨t0, t1, t2⟩ := row_cell3 od
        have y0 := frozen_of_row _ _ 0 _ _ od
        have y1 := frozen_of_row _ _ 1 _ _ od
        have y2 := frozen_of_row _ _ 2 _ _ od
        go_simp
        refine hK.out _ _ (Or.inl (by first | rfl | trivial)) ?_
        clear hK K
        try simp only [Act.put, List.setIfInBounds_toArray, List.set_cons_zero, List.set_cons_succ]
        refine till_done (by kernel_rfl) ?_ _
        exact unhide HCC _ _ _ _ _ (hide fo)
      · refine ⟨_, rfl, fun K hK => ?_⟩
        refine step_make_own rfl _ _ 25 rfl (G + 2) 52 ix _ 2 Tryz.underlying25 (unhide HIX).1 (unhide HIX).2.1 (unhide HIX).2.2.1 .i64 .i64 _ N3 rfl rfl rfl (by rw [(unhide HIX).2.2.2]; have := unhide HNN; omega) (by have := unhide HNN; unfold maxLen; omega) (by have := (unhide HW2).2.2.2; have := B2.size; omega) (fun w14_9_16 o14 g14 => ?_)
        have B3 : Below w2.heap.size w2 w14_9_16 := B2.trans ((below_grown g14).mono B2.size)
        refine hK.out _ _ (Or.inr (unhide HSK _ B3)) ?_
        clear hK K
        try simp only [Act.put, List.setIfInBounds_toArray, List.set_cons_zero, List.set_cons_succ]
        refine till_each [4] (by kernel_rfl) rfl (fun i hi => ?_)
        simp only [List.mem_cons, List.not_mem_nil, or_false] at hi
        subst hi
        refine ⟨_, rfl, fun K hK => ?_⟩
        refine step_make_own rfl _ _ 23 rfl (G + 2) 42 iv _ 5 Tryz.underlying23 (unhide HIV).1 (unhide HIV).2.1 (unhide HIV).2.2.1 .i64 .i64 _ N1 rfl rfl rfl (by rw [(unhide HIV).2.2.2]; have := unhide HNN; omega) (by have := unhide HNN; unfold maxLen; omega) (by have := (unhide HW2).2.2.2; have := B3.size; omega) (fun w4_9_16_14 o4 g4 => ?_)
        have B4 : Below w2.heap.size w2 w4_9_16_14 := B3.trans ((below_grown g4).mono B3.size)
        refine hK.out _ _ (Or.inr (unhide HSK _ B4)) ?_
        clear hK K
        try simp only [Act.put, List.setIfInBounds_toArray, List.set_cons_zero, List.set_cons_succ]
        have fo := four_of hG (unhide HW2).2.2.2 (unhide HW2).1 B4 (unhide HW2).2.1 (unhide HW2).2.2.1 o4 (((o9.kept g16 (Or.inr (by simp [Value.ownBlock]))).kept g14 (Or.inr (by simp [Value.ownBlock]))).kept g4 (Or.inr (by simp [Value.ownBlock]))) (o14.kept g4 (Or.inr (by simp [Value.ownBlock]))) (((below_grown g4).block _ (Array.getElem?_eq_some_iff.1 (((below_grown g14).block _ (Array.getElem?_eq_some_iff.1 o16).1).trans o16)).1).trans (((below_grown g14).block _ (Array.getElem?_eq_some_iff.1 o16).1).trans o16)) (by have := (unhide HW2).2.2.2; have := B1.size; omega)
        have od : w4_9_16_14.heap[w109.heap.size]? = some (.cells #[.slice none 0 0, .slice none 0 0, .slice none 0 0] 27 (0, 0)) := (((below_grown g4).block _ (Array.getElem?_eq_some_iff.1 (((below_grown g14).block _ (Array.getElem?_eq_some_iff.1 o16).1).trans o16)).1).trans (((below_grown g14).block _ (Array.getElem?_eq_some_iff.1 o16).1).trans o16))
        refine till_one 15 (by kernel_rfl) rfl (fun K hK => ?_)
        go_simp
        refine hK.out _ _ (Or.inr (unhide HSK _ B4)) ?_
        clear hK K
        try simp only [Act.put, List.setIfInBounds_toArray, List.set_cons_zero, List.set_cons_succ]
        refine till_one 17 (by kernel_rfl) rfl (fun K hK => ?_)
        obtain ⟨t0, t1, t2⟩ := row_cell3 od
        have y0 := frozen_of_row _ _ 0 _ _ od
        have y1 := frozen_of_row _ _ 1 _ _ od
        have y2 := frozen_of_row _ _ 2 _ _ od
        go_simp
        refine hK.out _ _ (Or.inl (by first | rfl | trivial)) ?_
        clear hK K
        try simp only [Act.put, List.setIfInBounds_toArray, List.set_cons_zero, List.set_cons_succ]
        refine till_done (by kernel_rfl) ?_ _
        exact unhide HCC _ _ _ _ _ (hide fo)
  · refine ⟨_, rfl, fun K hK => ?_⟩
    refine step_make_own rfl _ _ 25 rfl (G + 2) 52 ix _ 2 Tryz.underlying25 (unhide HIX).1 (unhide HIX).2.1 (unhide HIX).2.2.1 .i64 .i64 _ N3 rfl rfl rfl (by rw [(unhide HIX).2.2.2]; have := unhide HNN; omega) (by have := unhide HNN; unfold maxLen; omega) (by have := (unhide HW2).2.2.2; omega) (fun w114 o14 g14 => ?_)
    have B1 : Below w2.heap.size w2 w114 := below_grown g14
    refine hK.out _ _ (Or.inr (unhide HSK _ B1)) ?_
    clear hK K
    try simp only [Act.put, List.setIfInBounds_toArray, List.set_cons_zero, List.set_cons_succ]
    refine till_each [4, 9, 16] (by kernel_rfl) rfl (fun i hi => ?_)
    simp only [List.mem_cons, List.not_mem_nil, or_false] at hi
    rcases hi with rfl | rfl | rfl
    · refine ⟨_, rfl, fun K hK => ?_⟩
      refine step_make_own rfl _ _ 23 rfl (G + 2) 42 iv _ 5 Tryz.underlying23 (unhide HIV).1 (unhide HIV).2.1 (unhide HIV).2.2.1 .i64 .i64 _ N1 rfl rfl rfl (by rw [(unhide HIV).2.2.2]; have := unhide HNN; omega) (by have := unhide HNN; unfold maxLen; omega) (by have := (unhide HW2).2.2.2; have := B1.size; omega) (fun w4_14 o4 g4 => ?_)
      have B2 : Below w2.heap.size w2 w4_14 := B1.trans ((below_grown g4).mono B1.size)
      refine hK.out _ _ (Or.inr (unhide HSK _ B2)) ?_
      clear hK K
      try simp only [Act.put, List.setIfInBounds_toArray, List.set_cons_zero, List.set_cons_succ]
      refine till_each [9, 16] (by kernel_rfl) rfl (fun i hi => ?_)
      simp only [List.mem_cons, List.not_mem_nil, or_false] at hi
      rcases hi with rfl | rfl
      · refine ⟨_, rfl, fun K hK => ?_⟩
        refine step_make_own rfl _ _ 24 rfl (G + 2) 50 if_ _ 4 Tryz.underlying24 (unhide HIF).1 (unhide HIF).2.1 (unhide HIF).2.2.1 .i64 .i64 _ N2 rfl rfl rfl (by rw [(unhide HIF).2.2.2]; have := unhide HNN; omega) (by have := unhide HNN; unfold maxLen; omega) (by have := (unhide HW2).2.2.2; have := B2.size; omega) (fun w9_14_4 o9 g9 => ?_)
        have B3 : Below w2.heap.size w2 w9_14_4 := B2.trans ((below_grown g9).mono B2.size)
        refine hK.out _ _ (Or.inr (unhide HSK _ B3)) ?_
        clear hK K
        try simp only [Act.put, List.setIfInBounds_toArray, List.set_cons_zero, List.set_cons_succ]
        refine till_take 15 (v := .agg #[.slice (some ⟨w114.heap.size, 0, none⟩) 0 N1, .slice (some ⟨w4_14.heap.size, 0, none⟩) 0 N2, .slice (some ⟨w2.heap.size, 0, none⟩) 0 N3]) (some 20) rfl rfl rfl (by kernel_rfl) (by kernel_rfl) (by kernel_rfl) (by kernel_rfl) (fun _ _ _ h => h) (Or.inl ⟨by rfl, fun u hu => by go_simp⟩) (unhide HSK _ B3) ?_
        try simp only [Act.put, List.setIfInBounds_toArray, List.set_cons_zero, List.set_cons_succ]
        refine till_each [16] (by kernel_rfl) rfl (fun i hi => ?_)
        simp only [List.mem_cons, List.not_mem_nil, or_false] at hi
        subst hi
        refine ⟨_, rfl, fun K hK => ?_⟩
        go_simp
        obtain ⟨w16_14_4_9, hw16_14_4_9⟩ : ∃ u, w9_14_4.alloc (.cells #[.slice none 0 0, .slice none 0 0, .slice none 0 0] 27) = u := ⟨_, rfl⟩
        rw [hw16_14_4_9]
        have g16 : w9_14_4.grownBy w16_14_4_9 none := by rw [← hw16_14_4_9]; exact World.grownBy_alloc _ _ _
        have o16 : w16_14_4_9.heap[w9_14_4.heap.size]? = some (.cells #[.slice none 0 0, .slice none 0 0, .slice none 0 0] 27 (0, 0)) := by rw [← hw16_14_4_9]; exact heap_alloc_new _ _
        clear hw16_14_4_9
        have B4 : Below w2.heap.size w2 w16_14_4_9 := B3.trans ((below_grown g16).mono B3.size)
        refine hK.out _ _ (Or.inr (unhide HSK _ B4)) ?_
        clear hK K
        try simp only [Act.put, List.setIfInBounds_toArray, List.set_cons_zero, List.set_cons_succ]
        have fo := four_of hG (unhide HW2).2.2.2 (unhide HW2).1 B4 (unhide HW2).2.1 (unhide HW2).2.2.1 ((o4.kept g9 (Or.inr (by simp [Value.ownBlock]))).kept g16 (Or.inr (by simp [Value.ownBlock]))) (o9.kept g16 (Or.inr (by simp [Value.ownBlock]))) (((o14.kept g4 (Or.inr (by simp [Value.ownBlock]))).kept g9 (Or.inr (by simp [Value.ownBlock]))).kept g16 (Or.inr (by simp [Value.ownBlock]))) o16 (by have := (unhide HW2).2.2.2; have := B3.size; omega)
        have od : w16_14_4_9.heap[w9_14_4.heap.size]? = some (.cells #[.slice none 0 0, .slice none 0 0, .slice none 0 0] 27 (0, 0)) := o16
        refine till_one 17 (by kernel_rfl) rfl (fun K hK => ?_)
        obtain ⟨t0, t1, t2⟩ := row_cell3 od
        have y0 := frozen_of_row _ _ 0 _ _ od
        have y1 := frozen_of_row _ _ 1 _ _ od
        have y2 := frozen_of_row _ _ 2 _ _ od
        go_simp
        refine hK.out _ _ (Or.inl (by first | rfl | trivial)) ?_
        clear hK K
        try simp only [Act.put, List.setIfInBounds_toArray, List.set_cons_zero, List.set_cons_succ]
        refine till_done (by kernel_rfl) ?_ _
        exact unhide HCC _ _ _ _ _ (hide fo)
      · refine ⟨_, rfl, fun K hK => ?_⟩
        go_simp
        obtain ⟨w16_14_4, hw16_14_4⟩ : ∃ u, w4_14.alloc (.cells #[.slice none 0 0, .slice none 0 0, .slice none 0 0] 27) = u := ⟨_, rfl⟩
        rw [hw16_14_4]
        have g16 : w4_14.grownBy w16_14_4 none := by rw [← hw16_14_4]; exact World.grownBy_alloc _ _ _
        have o16 : w16_14_4.heap[w4_14.heap.size]? = some (.cells #[.slice none 0 0, .slice none 0 0, .slice none 0 0] 27 (0, 0)) := by rw [← hw16_14_4]; exact heap_alloc_new _ _
        clear hw16_14_4
        have B3 : Below w2.heap.size w2 w16_14_4 := B2.trans ((below_grown g16).mono B2.size)
        refine hK.out _ _ (Or.inr (unhide HSK _ B3)) ?_
        clear hK K
        try simp only [Act.put, List.setIfInBounds_toArray, List.set_cons_zero, List.set_cons_succ]
        refine till_each [9] (by kernel_rfl) rfl (fun i hi => ?_)
        simp only [List.mem_cons, List.not_mem_nil, or_false] at hi
        subst hi
        refine ⟨_, rfl, fun K hK => ?_⟩
        refine step_make_own rfl _ _ 24 rfl (G + 2) 50 if_ _ 4 Tryz.underlying24 (unhide HIF).1 (unhide HIF).2.1 (unhide HIF).2.2.1 .i64 .i64 _ N2 rfl rfl rfl (by rw [(unhide HIF).2.2.2]; have := unhide HNN; omega) (by have := unhide HNN; unfold maxLen; omega) (by have := (unhide HW2).2.2.2; have := B3.size; omega) (fun w9_14_4_16 o9 g9 => ?_)
        have B4 : Below w2.heap.size w2 w9_14_4_16 := B3.trans ((below_grown g9).mono B3.size)
        refine hK.out _ _ (Or.inr (unhide HSK _ B4)) ?_
        clear hK K
        try simp only [Act.put, List.setIfInBounds_toArray, List.set_cons_zero, List.set_cons_succ]
        have fo := four_of hG (unhide HW2).2.2.2 (unhide HW2).1 B4 (unhide HW2).2.1 (unhide HW2).2.2.1 ((o4.kept g16 (Or.inr (by simp [Value.ownBlock]))).kept g9 (Or.inr (by simp [Value.ownBlock]))) o9 (((o14.kept g4 (Or.inr (by simp [Value.ownBlock]))).kept g16 (Or.inr (by simp [Value.ownBlock]))).kept g9 (Or.inr (by simp [Value.ownBlock]))) (((below_grown g9).block _ (Array.getElem?_eq_some_iff.1 o16).1).trans o16) (by have := (unhide HW2).2.2.2; have := B2.size; omega)
        have od : w9_14_4_16.heap[w4_14.heap.size]? = some (.cells #[.slice none 0 0, .slice none 0 0, .slice none 0 0] 27 (0, 0)) := (((below_grown g9).block _ (Array.getElem?_eq_some_iff.1 o16).1).trans o16)
        refine till_one 15 (by kernel_rfl) rfl (fun K hK => ?_)
        go_simp
        refine hK.out _ _ (Or.inr (unhide HSK _ B4)) ?_
        clear hK K
        try simp only [Act.put, List.setIfInBounds_toArray, List.set_cons_zero, List.set_cons_succ]
        refine till_one 17 (by kernel_rfl) rfl (fun K hK => ?_)
        obtain ⟨t0, t1, t2⟩ := row_cell3 od
        have y0 := frozen_of_row _ _ 0 _ _ od
        have y1 := frozen_of_row _ _ 1 _ _ od
        have y2 := frozen_of_row _ _ 2 _ _ od
        go_simp
        refine hK.out _ _ (Or.inl (by first | rfl | trivial)) ?_
        clear hK K
        try simp only [Act.put, List.setIfInBounds_toArray, List.set_cons_zero, List.set_cons_succ]
        refine till_done (by kernel_rfl) ?_ _
        exact unhide HCC _ _ _ _ _ (hide fo)
    · refine ⟨_, rfl, fun K hK => ?_⟩
      refine step_make_own rfl _ _ 24 rfl (G + 2) 50 if_ _ 4 Tryz.underlying24 (unhide HIF).1 (unhide HIF).2.1 (unhide HIF).2.2.1 .i64 .i64 _ N2 rfl rfl rfl (by rw [(unhide HIF).2.2.2]; have := unhide HNN; omega) (by have := unhide HNN; unfold maxLen; omega) (by have := (unhide HW2).2.2.2; have := B1.size; omega) (fun w9_14 o9 g9 => ?_)
      have B2 : Below w2.heap.size w2 w9_14 := B1.trans ((below_grown g9).mono B1.size)
      refine hK.out _ _ (Or.inr (unhide HSK _ B2)) ?_
      clear hK K
      try simp only [Act.put, List.setIfInBounds_toArray, List.set_cons_zero, List.set_cons_succ]
      refine till_each [4, 16] (by kernel_rfl) rfl (fun i hi => ?_)
      simp only [List.mem_cons, List.not_mem_nil, or_false] at hi
      rcases hi with rfl | rfl
      · refine ⟨_, rfl, fun K hK => ?_⟩
        refine step_make_own rfl _ _ 23 rfl (G + 2) 42 iv _ 5 Tryz.underlying23 (unhide HIV).1 (unhide HIV).2.1 (unhide HIV).2.2.1 .i64 .i64 _ N1 rfl rfl rfl (by rw [(unhide HIV).2.2.2]; have := unhide HNN; omega) (by have := unhide HNN; unfold maxLen; omega) (by have := (unhide HW2).2.2.2; have := B2.size; omega) (fun w4_14_9 o4 g4 => ?_)
        have B3 : Below w2.heap.size w2 w4_14_9 := B2.trans ((below_grown g4).mono B2.size)
        refine hK.out _ _ (Or.inr (unhide HSK _ B3)) ?_
        clear hK K
        try simp only [Act.put, List.setIfInBounds_toArray, List.set_cons_zero, List.set_cons_succ]
        refine till_take 15 (v := .agg #[.slice (some ⟨w9_14.heap.size, 0, none⟩) 0 N1, .slice (some ⟨w114.heap.size, 0, none⟩) 0 N2, .slice (some ⟨w2.heap.size, 0, none⟩) 0 N3]) (some 20) rfl rfl rfl (by kernel_rfl) (by kernel_rfl) (by kernel_rfl) (by kernel_rfl) (fun _ _ _ h => h) (Or.inl ⟨by rfl, fun u hu => by go_simp⟩) (unhide HSK _ B3) ?_
        try simp only [Act.put, List.setIfInBounds_toArray, List.set_cons_zero, List.set_cons_succ]
        refine till_each [16] (by kernel_rfl) rfl (fun i hi => ?_)
        simp only [List.mem_cons, List.not_mem_nil, or_false] at hi
        subst hi
        refine ⟨_, rfl, fun K hK => ?_⟩
        go_simp
        obtain ⟨w16_14_9_4, hw16_14_9_4⟩ : ∃ u, w4_14_9.alloc (.cells #[.slice none 0 0, .slice none 0 0, .slice none 0 0] 27) = u := ⟨_, rfl⟩
        rw [hw16_14_9_4]
        have g16 : w4_14_9.grownBy w16_14_9_4 none := by rw [← hw16_14_9_4]; exact World.grownBy_alloc _ _ _
        have o16 : w16_14_9_4.heap[w4_14_9.heap.size]? = some (.cells #[.slice none 0 0, .slice none 0 0, .slice none 0 0] 27 (0, 0)) := by rw [← hw16_14_9_4]; exact heap_alloc_new _ _
        clear hw16_14_9_4
        have B4 : Below w2.heap.size w2 w16_14_9_4 := B3.trans ((below_grown g16).mono B3.size)
        refine hK.out _ _ (Or.inr (unhide HSK _ B4)) ?_
        clear hK K
        try simp only [Act.put, List.setIfInBounds_toArray, List.set_cons_zero, List.set_cons_succ]
        have fo := four_of hG (unhide HW2).2.2.2 (unhide HW2).1 B4 (unhide HW2).2.1 (unhide HW2).2.2.1 (o4.kept g16 (Or.inr (by simp [Value.ownBlock]))) ((o9.kept g4 (Or.inr (by simp [Value.ownBlock]))).kept g16 (Or.inr (by simp [Value.ownBlock]))) (((o14.kept g9 (Or.inr (by simp [Value.ownBlock]))).kept g4 (Or.inr (by simp [Value.ownBlock]))).kept g16 (Or.inr (by simp [Value.ownBlock]))) o16 (by have := (unhide HW2).2.2.2; have := B3.size; omega)
        have od : w16_14_9_4.heap[w4_14_9.heap.size]? = some (.cells #[.slice none 0 0, .slice none 0 0, .slice none 0 0] 27 (0, 0)) := o16
        refine till_one 17 (by kernel_rfl) rfl (fun K hK => ?_)
        obtain ⟨t0, t1, t2⟩ := row_cell3 od
        have y0 := frozen_of_row _ _ 0 _ _ od
        have y1 := frozen_of_row _ _ 1 _ _ od
        have y2 := frozen_of_row _ _ 2 _ _ od
        go_simp
        refine hK.out _ _ (Or.inl (by first | rfl | trivial)) ?_
        clear hK K
        try simp only [Act.put, List.setIfInBounds_toArray, List.set_cons_zero, List.set_cons_succ]
        refine till_done (by kernel_rfl) ?_ _
        exact unhide HCC _ _ _ _ _ (hide fo)
      · refine ⟨_, rfl, fun K hK => ?_⟩
        go_simp
        obtain ⟨w16_14_9, hw16_14_9⟩ : ∃ u, w9_14.alloc (.cells #[.slice none 0 0, .slice none 0 0, .slice none 0 0] 27) = u := ⟨_, rfl⟩
        rw [hw16_14_9]
        have g16 : w9_14.grownBy w16_14_9 none := by rw [← hw16_14_9]; exact World.grownBy_alloc _ _ _
        have o16 : w16_14_9.heap[w9_14.heap.size]? = some (.cells #[.slice none 0 0, .slice none 0 0, .slice none 0 0] 27 (0, 0)) := by rw [← hw16_14_9]; exact heap_alloc_new _ _
        clear hw16_14_9
        have B3 : Below w2.heap.size w2 w16_14_9 := B2.trans ((below_grown g16).mono B2.size)
        refine hK.out _ _ (Or.inr (unhide HSK _ B3)) ?_
        clear hK K
        try simp only [Act.put, List.setIfInBounds_toArray, List.set_cons_zero, List.set_cons_succ]
        refine till_each [4] (by kernel_rfl) rfl (fun i hi => ?_)
        simp only [List.mem_cons, List.not_mem_nil, or_false] at hi
        subst hi
        refine ⟨_, rfl, fun K hK => ?_⟩
        refine step_make_own rfl _ _ 23 rfl (G + 2) 42 iv _ 5 Tryz.underlying23 (unhide HIV).1 (unhide HIV).2.1 (unhide HIV).2.2.1 .i64 .i64 _ N1 rfl rfl rfl (by rw [(unhide HIV).2.2.2]; have := unhide HNN; omega) (by have := unhide HNN; unfold maxLen; omega) (by have := (unhide HW2).2.2.2; have := B3.size; omega) (fun w4_14_9_16 o4 g4 => ?_)
        have B4 : Below w2.heap.size w2 w4_14_9_16 := B3.trans ((below_grown g4).mono B3.size)
        refine hK.out _ _ (Or.inr (unhide HSK _ B4)) ?_
        clear hK K
        try simp only [Act.put, List.setIfInBounds_toArray, List.set_cons_zero, List.set_cons_succ]
        have fo := four_of hG (unhide HW2).2.2.2 (unhide HW2).1 B4 (unhide HW2).2.1 (unhide HW2).2.2.1 o4 ((o9.kept g16 (Or.inr (by simp [Value.ownBlock]))).kept g4 (Or.inr (by simp [Value.ownBlock]))) (((o14.kept g9 (Or.inr (by simp [Value.ownBlock]))).kept g16 (Or.inr (by simp [Value.ownBlock]))).kept g4 (Or.inr (by simp [Value.ownBlock]))) (((below_grown g4).block _ (Array.getElem?_eq_some_iff.1 o16).1).trans o16) (by have := (unhide HW2).2.2.2; have := B2.size; omega)
        have od : w4_14_9_16.heap[w9_14.heap.size]? = some (.cells #[.slice none 0 0, .slice none 0 0, .slice none 0 0] 27 (0, 0)) := (((below_grown g4).block _ (Array.getElem?_eq_some_iff.1 o16).1).trans o16)
        refine till_one 15 (by kernel_rfl) rfl (fun K hK => ?_)
        go_simp
        refine hK.out _ _ (Or.inr (unhide HSK _ B4)) ?_
        clear hK K
        try simp only [Act.put, List.setIfInBounds_toArray, List.set_cons_zero, List.set_cons_succ]
        refine till_one 17 (by kernel_rfl) rfl (fun K hK => ?_)
        obtain ⟨t0, t1, t2⟩ := row_cell3 od
        have y0 := frozen_of_row _ _ 0 _ _ od
        have y1 := frozen_of_row _ _ 1 _ _ od
        have y2 := frozen_of_row _ _ 2 _ _ od
        go_simp
        refine hK.out _ _ (Or.inl (by first | rfl | trivial)) ?_
        clear hK K
        try simp only [Act.put, List.setIfInBounds_toArray, List.set_cons_zero, List.set_cons_succ]
        refine till_done (by kernel_rfl) ?_ _
        exact unhide HCC _ _ _ _ _ (hide fo)
    · refine ⟨_, rfl, fun K hK => ?_⟩
      go_simp
      obtain ⟨w16_14, hw16_14⟩ : ∃ u, w114.alloc (.cells #[.slice none 0 0, .slice none 0 0, .slice none 0 0] 27) = u := ⟨_, rfl⟩
      rw [hw16_14]
      have g16 : w114.grownBy w16_14 none := by rw [← hw16_14]; exact World.grownBy_alloc _ _ _
      have o16 : w16_14.heap[w114.heap.size]? = some (.cells #[.slice none 0 0, .slice none 0 0, .slice none 0 0] 27 (0, 0)) := by rw [← hw16_14]; exact heap_alloc_new _ _
      clear hw16_14
      have B2 : Below w2.heap.size w2 w16_14 := B1.trans ((below_grown g16).mono B1.size)
      refine hK.out _ _ (Or.inr (unhide HSK _ B2)) ?_
      clear hK K
      try simp only [Act.put, List.setIfInBounds_toArray, List.set_cons_zero, List.set_cons_succ]
      refine till_each [4, 9] (by kernel_rfl) rfl (fun i hi => ?_)
      simp only [List.mem_cons, List.not_mem_nil, or_false] at hi
      rcases hi with rfl | rfl
      · refine ⟨_, rfl, fun K hK => ?_⟩
        refine step_make_own rfl _ _ 23 rfl (G + 2) 42 iv _ 5 Tryz.underlying23 (unhide HIV).1 (unhide HIV).2.1 (unhide HIV).2.2.1 .i64 .i64 _ N1 rfl rfl rfl (by rw [(unhide HIV).2.2.2]; have := unhide HNN; omega) (by have := unhide HNN; unfold maxLen; omega) (by have := (unhide HW2).2.2.2; have := B2.size; omega) (fun w4_14_16 o4 g4 => ?_)
        have B3 : Below w2.heap.size w2 w4_14_16 := B2.trans ((below_grown g4).mono B2.size)
        refine hK.out _ _ (Or.inr (unhide HSK _ B3)) ?_
        clear hK K
        try simp only [Act.put, List.setIfInBounds_toArray, List.set_cons_zero, List.set_cons_succ]
        refine till_each [9] (by kernel_rfl) rfl (fun i hi => ?_)
        simp only [List.mem_cons, List.not_mem_nil, or_false] at hi
        subst hi
        refine ⟨_, rfl, fun K hK => ?_⟩
        refine step_make_own rfl _ _ 24 rfl (G + 2) 50 if_ _ 4 Tryz.underlying24 (unhide HIF).1 (unhide HIF).2.1 (unhide HIF).2.2.1 .i64 .i64 _ N2 rfl rfl rfl (by rw [(unhide HIF).2.2.2]; have := unhide HNN; omega) (by have := unhide HNN; unfold maxLen; omega) (by have := (unhide HW2).2.2.2; have := B3.size; omega) (fun w9_14_16_4 o9 g9 => ?_)
        have B4 : Below w2.heap.size w2 w9_14_16_4 := B3.trans ((below_grown g9).mono B3.size)
        refine hK.out _ _ (Or.inr (unhide HSK _ B4)) ?_
        clear hK K
        try simp only [Act.put, List.setIfInBounds_toArray, List.set_cons_zero, List.set_cons_succ]
        have fo := four_of hG (unhide HW2).2.2.2 (unhide HW2).1 B4 (unhide HW2).2.1 (unhide HW2).2.2.1 (o4.kept g9 (Or.inr (by simp [Value.ownBlock]))) o9 (((o14.kept g16 (Or.inr (by simp [Value.ownBlock]))).kept g4 (Or.inr (by simp [Value.ownBlock]))).kept g9 (Or.inr (by simp [Value.ownBlock]))) (((below_grown g9).block _ (Array.getElem?_eq_some_iff.1 (((below_grown g4).block _ (Array.getElem?_eq_some_iff.1 o16).1).trans o16)).1).trans (((below_grown g4).block _ (Array.getElem?_eq_some_iff.1 o16).1).trans o16)) (by have := (unhide HW2).2.2.2; have := B1.size; omega)
        have od : w9_14_16_4.heap[w114.heap.size]? = some (.cells #[.slice none 0 0, .slice none 0 0, .slice none 0 0] 27 (0, 0)) := (((below_grown g9).block _ (Array.getElem?_eq_some_iff.1 (((below_grown g4).block _ (Array.getElem?_eq_some_iff.1 o16).1).trans o16)).1).trans (((below_grown g4).block _ (Array.getElem?_eq_some_iff.1 o16).1).trans o16))
        refine till_one 15 (by kernel_rfl) rfl (fun K hK => ?_)
        go_simp
        refine hK.out _ _ (Or.inr (unhide HSK _ B4)) ?_
        clear hK K
        try simp only [Act.put, List.setIfInBounds_toArray, List.set_cons_zero, List.set_cons_succ]
        refine till_one 17 (by kernel_rfl) rfl (fun K hK => ?_)
        obtain ⟨t0, t1, t2⟩ := row_cell3 od
        have y0 := frozen_of_row _ _ 0 _ _ od
        have y1 := frozen_of_row _ _ 1 _ _ od
        have y2 := frozen_of_row _ _ 2 _ _ od
        go_simp
        refine hK.out _ _ (Or.inl (by first | rfl | trivial)) ?_
        clear hK K
        try simp only [Act.put, List.setIfInBounds_toArray, List.set_cons_zero, List.set_cons_succ]
        refine till_done (by kernel_rfl) ?_ _
        exact unhide HCC _ _ _ _ _ (hide fo)
      · refine ⟨_, rfl, fun K hK => ?_⟩
        refine step_make_own rfl _ _ 24 rfl (G + 2) 50 if_ _ 4 Tryz.underlying24 (unhide HIF).1 (unhide HIF).2.1 (unhide HIF).2.2.1 .i64 .i64 _ N2 rfl rfl rfl (by rw [(unhide HIF).2.2.2]; have := unhide HNN; omega) (by have := unhide HNN; unfold maxLen; omega) (by have := (unhide HW2).2.2.2; have := B2.size; omega) (fun w9_14_16 o9 g9 => ?_)
        have B3 : Below w2.heap.size w2 w9_14_16 := B2.trans ((below_grown g9).mono B2.size)
        refine hK.out _ _ (Or.inr (unhide HSK _ B3)) ?_
        clear hK K
        try simp only [Act.put, List.setIfInBounds_toArray, List.set_cons_zero, List.set_cons_succ]
        refine till_each [4] (by kernel_rfl) rfl (fun i hi => ?_)
        simp only [List.mem_cons, List.not_mem_nil, or_false] at hi
        subst hi
        refine ⟨_, rfl, fun K hK => ?_⟩
        refine step_make_own rfl _ _ 23 rfl (G + 2) 42 iv _ 5 Tryz.underlying23 (unhide HIV).1 (unhide HIV).2.1 (unhide HIV).2.2.1 .i64 .i64 _ N1 rfl rfl rfl (by rw [(unhide HIV).2.2.2]; have := unhide HNN; omega) (by have := unhide HNN; unfold maxLen; omega) (by have := (unhide HW2).2.2.2; have := B3.size; omega) (fun w4_14_16_9 o4 g4 => ?_)
        have B4 : Below w2.heap.size w2 w4_14_16_9 := B3.trans ((below_grown g4).mono B3.size)
        refine hK.out _ _ (Or.inr (unhide HSK _ B4)) ?_
        clear hK K
        try simp only [Act.put, List.setIfInBounds_toArray, List.set_cons_zero, List.set_cons_succ]
        have fo := four_of hG (unhide HW2).2.2.2 (unhide HW2).1 B4 (unhide HW2).2.1 (unhide HW2).2.2.1 o4 (o9.kept g4 (Or.inr (by simp [Value.ownBlock]))) (((o14.kept g16 (Or.inr (by simp [Value.ownBlock]))).kept g9 (Or.inr (by simp [Value.ownBlock]))).kept g4 (Or.inr (by simp [Value.ownBlock]))) (((below_grown g4).block _ (Array.getElem?_eq_some_iff.1 (((below_grown g9).block _ (Array.getElem?_eq_some_iff.1 o16).1).trans o16)).1).trans (((below_grown g9).block _ (Array.getElem?_eq_some_iff.1 o16).1).trans o16)) (by have := (unhide HW2).2.2.2; have := B1.size; omega)
        have od : w4_14_16_9.heap[w114.heap.size]? = some (.cells #[.slice none 0 0, .slice none 0 0, .slice none 0 0] 27 (0, 0)) := (((below_grown g4).block _ (Array.getElem?_eq_some_iff.1 (((below_grown g9).block _ (Array.getElem?_eq_some_iff.1 o16).1).trans o16)).1).trans (((below_grown g9).block _ (Array.getElem?_eq_some_iff.1 o16).1).trans o16))
        refine till_one 15 (by kernel_rfl) rfl (fun K hK => ?_)
        go_simp
        refine hK.out _ _ (Or.inr (unhide HSK _ B4)) ?_
        clear hK K
        try simp only [Act.put, List.setIfInBounds_toArray, List.set_cons_zero, List.set_cons_succ]
        refine till_one 17 (by kernel_rfl) rfl (fun K hK => ?_)
        obtain ⟨t0, t1, t2⟩ := row_cell3 od
        have y0 := frozen_of_row _ _ 0 _ _ od
        have y1 := frozen_of_row _ _ 1 _ _ od
        have y2 := frozen_of_row _ _ 2 _ _ od
        go_simp
        refine hK.out _ _ (Or.inl (by first | rfl | trivial)) ?_
        clear hK K
        try simp only [Act.put, List.setIfInBounds_toArray, List.set_cons_zero, List.set_cons_succ]
        refine till_done (by kernel_rfl) ?_ _
        exact unhide HCC _ _ _ _ _ (hide fo)
  · refine ⟨_, rfl, fun K hK => ?_⟩
    go_simp
    obtain ⟨w116, hw116⟩ : ∃ u, w2.alloc (.cells #[.slice none 0 0, .slice none 0 0, .slice none 0 0] 27) = u := ⟨_, rfl⟩
    rw [hw116]
    have g16 : w2.grownBy w116 none := by rw [← hw116]; exact World.grownBy_alloc _ _ _
    have o16 : w116.heap[w2.heap.size]? = some (.cells #[.slice none 0 0, .slice none 0 0, .slice none 0 0] 27 (0, 0)) := by rw [← hw116]; exact heap_alloc_new _ _
    clear hw116
    have B1 : Below w2.heap.size w2 w116 := below_grown g16
    refine hK.out _ _ (Or.inr (unhide HSK _ B1)) ?_
    clear hK K
    try simp only [Act.put, List.setIfInBounds_toArray, List.set_cons_zero, List.set_cons_succ]
    refine till_each [4, 9, 14] (by kernel_rfl) rfl (fun i hi => ?_)
    simp only [List.mem_cons, List.not_mem_nil, or_false] at hi
    rcases hi with rfl | rfl | rfl
    · refine ⟨_, rfl, fun K hK => ?_⟩
      refine step_make_own rfl _ _ 23 rfl (G + 2) 42 iv _ 5 Tryz.underlying23 (unhide HIV).1 (unhide HIV).2.1 (unhide HIV).2.2.1 .i64 .i64 _ N1 rfl rfl rfl (by rw [(unhide HIV).2.2.2]; have := unhide HNN; omega) (by have := unhide HNN; unfold maxLen; omega) (by have := (unhide HW2).2.2.2; have := B1.size; omega) (fun w4_16 o4 g4 => ?_)
      have B2 : Below w2.heap.size w2 w4_16 := B1.trans ((below_grown g4).mono B1.size)
      refine hK.out _ _ (Or.inr (unhide HSK _ B2)) ?_
      clear hK K
      try simp only [Act.put, List.setIfInBounds_toArray, List.set_cons_zero, List.set_cons_succ]
      refine till_each [9, 14] (by kernel_rfl) rfl (fun i hi => ?_)
      simp only [List.mem_cons, List.not_mem_nil, or_false] at hi
      rcases hi with rfl | rfl
      · refine ⟨_, rfl, fun K hK => ?_⟩
        refine step_make_own rfl _ _ 24 rfl (G + 2) 50 if_ _ 4 Tryz.underlying24 (unhide HIF).1 (unhide HIF).2.1 (unhide HIF).2.2.1 .i64 .i64 _ N2 rfl rfl rfl (by rw [(unhide HIF).2.2.2]; have := unhide HNN; omega) (by have := unhide HNN; unfold maxLen; omega) (by have := (unhide HW2).2.2.2; have := B2.size; omega) (fun w9_16_4 o9 g9 => ?_)
        have B3 : Below w2.heap.size w2 w9_16_4 := B2.trans ((below_grown g9).mono B2.size)
        refine hK.out _ _ (Or.inr (unhide HSK _ B3)) ?_
        clear hK K
        try simp only [Act.put, List.setIfInBounds_toArray, List.set_cons_zero, List.set_cons_succ]
        refine till_each [14] (by kernel_rfl) rfl (fun i hi => ?_)
        simp only [List.mem_cons, List.not_mem_nil, or_false] at hi
        subst hi
        refine ⟨_, rfl, fun K hK => ?_⟩
        refine step_make_own rfl _ _ 25 rfl (G + 2) 52 ix _ 2 Tryz.underlying25 (unhide HIX).1 (unhide HIX).2.1 (unhide HIX).2.2.1 .i64 .i64 _ N3 rfl rfl rfl (by rw [(unhide HIX).2.2.2]; have := unhide HNN; omega) (by have := unhide HNN; unfold maxLen; omega) (by have := (unhide HW2).2.2.2; have := B3.size; omega) (fun w14_16_4_9 o14 g14 => ?_)
        have B4 : Below w2.heap.size w2 w14_16_4_9 := B3.trans ((below_grown g14).mono B3.size)
        refine hK.out _ _ (Or.inr (unhide HSK _ B4)) ?_
        clear hK K
        try simp only [Act.put, List.setIfInBounds_toArray, List.set_cons_zero, List.set_cons_succ]
        have fo := four_of hG (unhide HW2).2.2.2 (unhide HW2).1 B4 (unhide HW2).2.1 (unhide HW2).2.2.1 ((o4.kept g9 (Or.inr (by simp [Value.ownBlock]))).kept g14 (Or.inr (by simp [Value.ownBlock]))) (o9.kept g14 (Or.inr (by simp [Value.ownBlock]))) o14 (((below_grown g14).block _ (Array.getElem?_eq_some_iff.1 (((below_grown g9).block _ (Array.getElem?_eq_some_iff.1 (((below_grown g4).block _ (Array.getElem?_eq_some_iff.1 o16).1).trans o16)).1).trans (((below_grown g4).block _ (Array.getElem?_eq_some_iff.1 o16).1).trans o16))).1).trans (((below_grown g9).block _ (Array.getElem?_eq_some_iff.1 (((below_grown g4).block _ (Array.getElem?_eq_some_iff.1 o16).1).trans o16)).1).trans (((below_grown g4).block _ (Array.getElem?_eq_some_iff.1 o16).1).trans o16))) (by have := (unhide HW2).2.2.2; omega)
        have od : w14_16_4_9.heap[w2.heap.size]? = some (.cells #[.slice none 0 0, .slice none 0 0, .slice none 0 0] 27 (0, 0)) := (((below_grown g14).block _ (Array.getElem?_eq_some_iff.1 (((below_grown g9).block _ (Array.getElem?_eq_some_iff.1 (((below_grown g4).block _ (Array.getElem?_eq_some_iff.1 o16).1).trans o16)).1).trans (((below_grown g4).block _ (Array.getElem?_eq_some_iff.1 o16).1).trans o16))).1).trans (((below_grown g9).block _ (Array.getElem?_eq_some_iff.1 (((below_grown g4).block _ (Array.getElem?_eq_some_iff.1 o16).1).trans o16)).1).trans (((below_grown g4).block _ (Array.getElem?_eq_some_iff.1 o16).1).trans o16)))
        refine till_one 15 (by kernel_rfl) rfl (fun K hK => ?_)
        go_simp
        refine hK.out _ _ (Or.inr (unhide HSK _ B4)) ?_
        clear hK K
        try simp only [Act.put, List.setIfInBounds_toArray, List.set_cons_zero, List.set_cons_succ]
        refine till_one 17 (by kernel_rfl) rfl (fun K hK => ?_)
        obtain ⟨t0, t1, t2⟩ := row_cell3 od
        have y0 := frozen_of_row _ _ 0 _ _ od
        have y1 := frozen_of_row _ _ 1 _ _ od
        have y2 := frozen_of_row _ _ 2 _ _ od
        go_simp
        refine hK.out _ _ (Or.inl (by first | rfl | trivial)) ?_
        clear hK K
        try simp only [Act.put, List.setIfInBounds_toArray, List.set_cons_zero, List.set_cons_succ]
        refine till_done (by kernel_rfl) ?_ _
        exact unhide HCC _ _ _ _ _ (hide fo)
      · refine ⟨_, rfl, fun K hK => ?_⟩
        refine step_make_own rfl _ _ 25 rfl (G + 2) 52 ix _ 2 Tryz.underlying25 (unhide HIX).1 (unhide HIX).2.1 (unhide HIX).2.2.1 .i64 .i64 _ N3 rfl rfl rfl (by rw [(unhide HIX).2.2.2]; have := unhide HNN; omega) (by have := unhide HNN; unfold maxLen; omega) (by have := (unhide HW2).2.2.2; have := B2.size; omega) (fun w14_16_4 o14 g14 => ?_)
        have B3 : Below w2.heap.size w2 w14_16_4 := B2.trans ((below_grown g14).mono B2.size)
        refine hK.out _ _ (Or.inr (unhide HSK _ B3)) ?_
        clear hK K
        try simp only [Act.put, List.setIfInBounds_toArray, List.set_cons_zero, List.set_cons_succ]
        refine till_each [9] (by kernel_rfl) rfl (fun i hi => ?_)
        simp only [List.mem_cons, List.not_mem_nil, or_false] at hi
        subst hi
        refine ⟨_, rfl, fun K hK => ?_⟩
        refine step_make_own rfl _ _ 24 rfl (G + 2) 50 if_ _ 4 Tryz.underlying24 (unhide HIF).1 (unhide HIF).2.1 (unhide HIF).2.2.1 .i64 .i64 _ N2 rfl rfl rfl (by rw [(unhide HIF).2.2.2]; have := unhide HNN; omega) (by have := unhide HNN; unfold maxLen; omega) (by have := (unhide HW2).2.2.2; have := B3.size; omega) (fun w9_16_4_14 o9 g9 => ?_)
        have B4 : Below w2.heap.size w2 w9_16_4_14 := B3.trans ((below_grown g9).mono B3.size)
        refine hK.out _ _ (Or.inr (unhide HSK _ B4)) ?_
        clear hK K
        try simp only [Act.put, List.setIfInBounds_toArray, List.set_cons_zero, List.set_cons_succ]
        have fo := four_of hG (unhide HW2).2.2.2 (unhide HW2).1 B4 (unhide HW2).2.1 (unhide HW2).2.2.1 ((o4.kept g14 (Or.inr (by simp [Value.ownBlock]))).kept g9 (Or.inr (by simp [Value.ownBlock]))) o9 (o14.kept g9 (Or.inr (by simp [Value.ownBlock]))) (((below_grown g9).block _ (Array.getElem?_eq_some_iff.1 (((below_grown g14).block _ (Array.getElem?_eq_some_iff.1 (((below_grown g4).block _ (Array.getElem?_eq_some_iff.1 o16).1).trans o16)).1).trans (((below_grown g4).block _ (Array.getElem?_eq_some_iff.1 o16).1).trans o16))).1).trans (((below_grown g14).block _ (Array.getElem?_eq_some_iff.1 (((below_grown g4).block _ (Array.getElem?_eq_some_iff.1 o16).1).trans o16)).1).trans (((below_grown g4).block _ (Array.getElem?_eq_some_iff.1 o16).1).trans o16))) (by have := (unhide HW2).2.2.2; omega)
        have od : w9_16_4_14.heap[w2.heap.size]? = some (.cells #[.slice none 0 0, .slice none 0 0, .slice none 0 0] 27 (0, 0)) := (((below_grown g9).block _ (Array.getElem?_eq_some_iff.1 (((below_grown g14).block _ (Array.getElem?_eq_some_iff.1 (((below_grown g4).block _ (Array.getElem?_eq_some_iff.1 o16).1).trans o16)).1).trans (((below_grown g4).block _ (Array.getElem?_eq_some_iff.1 o16).1).trans o16))).1).trans (((below_grown g14).block _ (Array.getElem?_eq_some_iff.1 (((below_grown g4).block _ (Array.getElem?_eq_some_iff.1 o16).1).trans o16)).1).trans (((below_grown g4).block _ (Array.getElem?_eq_some_iff.1 o16).1).trans o16)))
        refine till_one 15 (by kernel_rfl) rfl (fun K hK => ?_)
        go_simp
        refine hK.out _ _ (Or.inr (unhide HSK _ B4)) ?_
        clear hK K
        try simp only [Act.put, List.setIfInBounds_toArray, List.set_cons_zero, List.set_cons_succ]
        refine till_one 17 (by kernel_rfl) rfl (fun K hK => ?_)
        obtain ⟨t0, t1, t2⟩ := row_cell3 od
        have y0 := frozen_of_row _ _ 0 _ _ od
        have y1 := frozen_of_row _ _ 1 _ _ od
        have y2 := frozen_of_row _ _ 2 _ _ od
        go_simp
        refine hK.out _ _ (Or.inl (by first | rfl | trivial)) ?_
        clear hK K
        try simp only [Act.put, List.setIfInBounds_toArray, List.set_cons_zero, List.set_cons_succ]
        refine till_done (by kernel_rfl) ?_ _
        exact unhide HCC _ _ _ _ _ (hide fo)
    · refine ⟨_, rfl, fun K hK => ?_⟩
      refine step_make_own rfl _ _ 24 rfl (G + 2) 50 if_ _ 4 Tryz.underlying24 (unhide HIF).1 (unhide HIF).2.1 (unhide HIF).2.2.1 .i64 .i64 _ N2 rfl rfl rfl (by rw [(unhide HIF).2.2.2]; have := unhide HNN; omega) (by have := unhide HNN; unfold maxLen; omega) (by have := (unhide HW2).2.2.2; have := B1.size; omega) (fun w9_16 o9 g9 => ?_)
      have B2 : Below w2.heap.size w2 w9_16 := B1.trans ((below_grown g9).mono B1.size)
      refine hK.out _ _ (Or.inr (unhide HSK _ B2)) ?_
      clear hK K
      try simp only [Act.put, List.setIfInBounds_toArray, List.set_cons_zero, List.set_cons_succ]
      refine till_each [4, 14] (by kernel_rfl) rfl (fun i hi => ?_)
      simp only [List.mem_cons, List.not_mem_nil, or_false] at hi
      rcases hi with rfl | rfl
      · refine ⟨_, rfl, fun K hK => ?_⟩
        refine step_make_own rfl _ _ 23 rfl (G + 2) 42 iv _ 5 Tryz.underlying23 (unhide HIV).1 (unhide HIV).2.1 (unhide HIV).2.2.1 .i64 .i64 _ N1 rfl rfl rfl (by rw [(unhide HIV).2.2.2]; have := unhide HNN; omega) (by have := unhide HNN; unfold maxLen; omega) (by have := (unhide HW2).2.2.2; have := B2.size; omega) (fun w4_16_9 o4 g4 => ?_)
        have B3 : Below w2.heap.size w2 w4_16_9 := B2.trans ((below_grown g4).mono B2.size)
        refine hK.out _ _ (Or.inr (unhide HSK _ B3)) ?_
        clear hK K
        try simp only [Act.put, List.setIfInBounds_toArray, List.set_cons_zero, List.set_cons_succ]
        refine till_each [14] (by kernel_rfl) rfl (fun i hi => ?_)
        simp only [List.mem_cons, List.not_mem_nil, or_false] at hi
        subst hi
        refine ⟨_, rfl, fun K hK => ?_⟩
        refine step_make_own rfl _ _ 25 rfl (G + 2) 52 ix _ 2 Tryz.underlying25 (unhide HIX).1 (unhide HIX).2.1 (unhide HIX).2.2.1 .i64 .i64 _ N3 rfl rfl rfl (by rw [(unhide HIX).2.2.2]; have := unhide HNN; omega) (by have := unhide HNN; unfold maxLen; omega) (by have := (unhide HW2).2.2.2; have := B3.size; omega) (fun w14_16_9_4 o14 g14 => ?_)
        have B4 : Below w2.heap.size w2 w14_16_9_4 := B3.trans ((below_grown g14).mono B3.size)
        refine hK.out _ _ (Or.inr (unhide HSK _ B4)) ?_
        clear hK K
        try simp only [Act.put, List.setIfInBounds_toArray, List.set_cons_zero, List.set_cons_succ]
        have fo := four_of hG (unhide HW2).2.2.2 (unhide HW2).1 B4 (unhide HW2).2.1 (unhide HW2).2.2.1 (o4.kept g14 (Or.inr (by simp [Value.ownBlock]))) ((o9.kept g4 (Or.inr (by simp [Value.ownBlock]))).kept g14 (Or.inr (by simp [Value.ownBlock]))) o14 (((below_grown g14).block _ (Array.getElem?_eq_some_iff.1 (((below_grown g4).block _ (Array.getElem?_eq_some_iff.1 (((below_grown g9).block _ (Array.getElem?_eq_some_iff.1 o16).1).trans o16)).1).trans (((below_grown g9).block _ (Array.getElem?_eq_some_iff.1 o16).1).trans o16))).1).trans (((below_grown g4).block _ (Array.getElem?_eq_some_iff.1 (((below_grown g9).block _ (Array.getElem?_eq_some_iff.1 o16).1).trans o16)).1).trans (((below_grown g9).block _ (Array.getElem?_eq_some_iff.1 o16).1).trans o16))) (by have := (unhide HW2).2.2.2; omega)
        have od : w14_16_9_4.heap[w2.heap.size]? = some (.cells #[.slice none 0 0, .slice none 0 0, .slice none 0 0] 27 (0, 0)) := (((below_grown g14).block _ (Array.getElem?_eq_some_iff.1 (((below_grown g4).block _ (Array.getElem?_eq_some_iff.1 (((below_grown g9).block _ (Array.getElem?_eq_some_iff.1 o16).1).trans o16)).1).trans (((below_grown g9).block _ (Array.getElem?_eq_some_iff.1 o16).1).trans o16))).1).trans (((below_grown g4).block _ (Array.getElem?_eq_some_iff.1 (((below_grown g9).block _ (Array.getElem?_eq_some_iff.1 o16).1).trans o16)).1).trans (((below_grown g9).block _ (Array.getElem?_eq_some_iff.1 o16).1).trans o16)))
        refine till_one 15 (by kernel_rfl) rfl (fun K hK => ?_)
        go_simp
        refine hK.out _ _ (Or.inr (unhide HSK _ B4)) ?_
        clear hK K
        try simp only [Act.put, List.setIfInBounds_toArray, List.set_cons_zero, List.set_cons_succ]
        refine till_one 17 (by kernel_rfl) rfl (fun K hK => ?_)
        obtain ⟨t0, t1, t2⟩ := row_cell3 od
        have y0 := frozen_of_row _ _ 0 _ _ od
        have y1 := frozen_of_row _ _ 1 _ _ od
        have y2 := frozen_of_row _ _ 2 _ _ od
        go_simp
        refine hK.out _ _ (Or.inl (by first | rfl | trivial)) ?_
        clear hK K
        try simp only [Act.put, List.setIfInBounds_toArray, List.set_cons_zero, List.set_cons_succ]
        refine till_done (by kernel_rfl) ?_ _
        exact unhide HCC _ _ _ _ _ (hide fo)
      · refine ⟨_, rfl, fun K hK => ?_⟩
        refine step_make_own rfl _ _ 25 rfl (G + 2) 52 ix _ 2 Tryz.underlying25 (unhide HIX).1 (unhide HIX).2.1 (unhide HIX).2.2.1 .i64 .i64 _ N3 rfl rfl rfl (by rw [(unhide HIX).2.2.2]; have := unhide HNN; omega) (by have := unhide HNN; unfold maxLen; omega) (by have := (unhide HW2).2.2.2; have := B2.size; omega) (fun w14_16_9 o14 g14 => ?_)
        have B3 : Below w2.heap.size w2 w14_16_9 := B2.trans ((below_grown g14).mono B2.size)
        refine hK.out _ _ (Or.inr (unhide HSK _ B3)) ?_
        clear hK K
        try simp only [Act.put, List.setIfInBounds_toArray, List.set_cons_zero, List.set_cons_succ]
        refine till_each [4] (by kernel_rfl) rfl (fun i hi => ?_)
        simp only [List.mem_cons, List.not_mem_nil, or_false] at hi
        subst hi
        refine ⟨_, rfl, fun K hK => ?_⟩
        refine step_make_own rfl _ _ 23 rfl (G + 2) 42 iv _ 5 Tryz.underlying23 (unhide HIV).1 (unhide HIV).2.1 (unhide HIV).2.2.1 .i64 .i64 _ N1 rfl rfl rfl (by rw [(unhide HIV).2.2.2]; have := unhide HNN; omega) (by have := unhide HNN; unfold maxLen; omega) (by have := (unhide HW2).2.2.2; have := B3.size; omega) (fun w4_16_9_14 o4 g4 => ?_)
        have B4 : Below w2.heap.size w2 w4_16_9_14 := B3.trans ((below_grown g4).mono B3.size)
        refine hK.out _ _ (Or.inr (unhide HSK _ B4)) ?_
        clear hK K
        try simp only [Act.put, List.setIfInBounds_toArray, List.set_cons_zero, List.set_cons_succ]
        have fo := four_of hG (unhide HW2).2.2.2 (unhide HW2).1 B4 (unhide HW2).2.1 (unhide HW2).2.2.1 o4 ((o9.kept g14 (Or.inr (by simp [Value.ownBlock]))).kept g4 (Or.inr (by simp [Value.ownBlock]))) (o14.kept g4 (Or.inr (by simp [Value.ownBlock]))) (((below_grown g4).block _ (Array.getElem?_eq_some_iff.1 (((below_grown g14).block _ (Array.getElem?_eq_some_iff.1 (((below_grown g9).block _ (Array.getElem?_eq_some_iff.1 o16).1).trans o16)).1).trans (((below_grown g9).block _ (Array.getElem?_eq_some_iff.1 o16).1).trans o16))).1).trans (((below_grown g14).block _ (Array.getElem?_eq_some_iff.1 (((below_grown g9).block _ (Array.getElem?_eq_some_iff.1 o16).1).trans o16)).1).trans (((below_grown g9).block _ (Array.getElem?_eq_some_iff.1 o16).1).trans o16))) (by have := (unhide HW2).2.2.2; omega)
        have od : w4_16_9_14.heap[w2.heap.size]? = some (.cells #[.slice none 0 0, .slice none 0 0, .slice none 0 0] 27 (0, 0)) := (((below_grown g4).block _ (Array.getElem?_eq_some_iff.1 (((below_grown g14).block _ (Array.getElem?_eq_some_iff.1 (((below_grown g9).block _ (Array.getElem?_eq_some_iff.1 o16).1).trans o16)).1).trans (((below_grown g9).block _ (Array.getElem?_eq_some_iff.1 o16).1).trans o16))).1).trans (((below_grown g14).block _ (Array.getElem?_eq_some_iff.1 (((below_grown g9).block _ (Array.getElem?_eq_some_iff.1 o16).1).trans o16)).1).trans (((below_grown g9).block _ (Array.getElem?_eq_some_iff.1 o16).1).trans o16)))
        refine till_one 15 (by kernel_rfl) rfl (fun K hK => ?_)
        go_simp
        refine hK.out _ _ (Or.inr (unhide HSK _ B4)) ?_
        clear hK K
        try simp only [Act.put, List.setIfInBounds_toArray, List.set_cons_zero, List.set_cons_succ]
        refine till_one 17 (by kernel_rfl) rfl (fun K hK => ?_)
        obtain ⟨t0, t1, t2⟩ := row_cell3 od
        have y0 := frozen_of_row _ _ 0 _ _ od
        have y1 := frozen_of_row _ _ 1 _ _ od
        have y2 := frozen_of_row _ _ 2 _ _ od
        go_simp
        refine hK.out _ _ (Or.inl (by first | rfl | trivial)) ?_
        clear hK K
        try simp only [Act.put, List.setIfInBounds_toArray, List.set_cons_zero, List.set_cons_succ]
        refine till_done (by kernel_rfl) ?_ _
        exact unhide HCC _ _ _ _ _ (hide fo)
    · refine ⟨_, rfl, fun K hK => ?_⟩
      refine step_make_own rfl _ _ 25 rfl (G + 2) 52 ix _ 2 Tryz.underlying25 (unhide HIX).1 (unhide HIX).2.1 (unhide HIX).2.2.1 .i64 .i64 _ N3 rfl rfl rfl (by rw [(unhide HIX).2.2.2]; have := unhide HNN; omega) (by have := unhide HNN; unfold maxLen; omega) (by have := (unhide HW2).2.2.2; have := B1.size; omega) (fun w14_16 o14 g14 => ?_)
      have B2 : Below w2.heap.size w2 w14_16 := B1.trans ((below_grown g14).mono B1.size)
      refine hK.out _ _ (Or.inr (unhide HSK _ B2)) ?_
      clear hK K
      try simp only [Act.put, List.setIfInBounds_toArray, List.set_cons_zero, List.set_cons_succ]
      refine till_each [4, 9] (by kernel_rfl) rfl (fun i hi => ?_)
      simp only [List.mem_cons, List.not_mem_nil, or_false] at hi
      rcases hi with rfl | rfl
      · refine ⟨_, rfl, fun K hK => ?_⟩
        refine step_make_own rfl _ _ 23 rfl (G + 2) 42 iv _ 5 Tryz.underlying23 (unhide HIV).1 (unhide HIV).2.1 (unhide HIV).2.2.1 .i64 .i64 _ N1 rfl rfl rfl (by rw [(unhide HIV).2.2.2]; have := unhide HNN; omega) (by have := unhide HNN; unfold maxLen; omega) (by have := (unhide HW2).2.2.2; have := B2.size; omega) (fun w4_16_14 o4 g4 => ?_)
        have B3 : Below w2.heap.size w2 w4_16_14 := B2.trans ((below_grown g4).mono B2.size)
        refine hK.out _ _ (Or.inr (unhide HSK _ B3)) ?_
        clear hK K
        try simp only [Act.put, List.setIfInBounds_toArray, List.set_cons_zero, List.set_cons_succ]
        refine till_each [9] (by kernel_rfl) rfl (fun i hi => ?_)
        simp only [List.mem_cons, List.not_mem_nil, or_false] at hi
        subst hi
        refine ⟨_, rfl, fun K hK => ?_⟩
        refine step_make_own rfl _ _ 24 rfl (G + 2) 50 if_ _ 4 Tryz.underlying24 (unhide HIF).1 (unhide HIF).2.1 (unhide HIF).2.2.1 .i64 .i64 _ N2 rfl rfl rfl (by rw [(unhide HIF).2.2.2]; have := unhide HNN; omega) (by have := unhide HNN; unfold maxLen; omega) (by have := (unhide HW2).2.2.2; have := B3.size; omega) (fun w9_16_14_4 o9 g9 => ?_)
        have B4 : Below w2.heap.size w2 w9_16_14_4 := B3.trans ((below_grown g9).mono B3.size)
        refine hK.out _ _ (Or.inr (unhide HSK _ B4)) ?_
        clear hK K
        try simp only [Act.put, List.setIfInBounds_toArray, List.set_cons_zero, List.set_cons_succ]
        have fo := four_of hG (unhide HW2).2.2.2 (unhide HW2).1 B4 (unhide HW2).2.1 (unhide HW2).2.2.1 (o4.kept g9 (Or.inr (by simp [Value.ownBlock]))) o9 ((o14.kept g4 (Or.inr (by simp [Value.ownBlock]))).kept g9 (Or.inr (by simp [Value.ownBlock]))) (((below_grown g9).block _ (Array.getElem?_eq_some_iff.1 (((below_grown g4).block _ (Array.getElem?_eq_some_iff.1 (((below_grown g14).block _ (Array.getElem?_eq_some_iff.1 o16).1).trans o16)).1).trans (((below_grown g14).block _ (Array.getElem?_eq_some_iff.1 o16).1).trans o16))).1).trans (((below_grown g4).block _ (Array.getElem?_eq_some_iff.1 (((below_grown g14).block _ (Array.getElem?_eq_some_iff.1 o16).1).trans o16)).1).trans (((below_grown g14).block _ (Array.getElem?_eq_some_iff.1 o16).1).trans o16))) (by have := (unhide HW2).2.2.2; omega)
        have od : w9_16_14_4.heap[w2.heap.size]? = some (.cells #[.slice none 0 0, .slice none 0 0, .slice none 0 0] 27 (0, 0)) := (((below_grown g9).block _ (Array.getElem?_eq_some_iff.1 (((below_grown g4).block _ (Array.getElem?_eq_some_iff.1 (((below_grown g14).block _ (Array.getElem?_eq_some_iff.1 o16).1).trans o16)).1).trans (((below_grown g14).block _ (Array.getElem?_eq_some_iff.1 o16).1).trans o16))).1).trans (((below_grown g4).block _ (Array.getElem?_eq_some_iff.1 (((below_grown g14).block _ (Array.getElem?_eq_some_iff.1 o16).1).trans o16)).1).trans (((below_grown g14).block _ (Array.getElem?_eq_some_iff.1 o16).1).trans o16)))
        refine till_one 15 (by kernel_rfl) rfl (fun K hK => ?_)
        go_simp
        refine hK.out _ _ (Or.inr (unhide HSK _ B4)) ?_
        clear hK K
        try simp only [Act.put, List.setIfInBounds_toArray, List.set_cons_zero, List.set_cons_succ]
        refine till_one 17 (by kernel_rfl) rfl (fun K hK => ?_)
        obtain ⟨t0, t1, t2⟩ := row_cell3 od
        have y0 := frozen_of_row _ _ 0 _ _ od
        have y1 := frozen_of_row _ _ 1 _ _ od
        have y2 := frozen_of_row _ _ 2 _ _ od
        go_simp
        refine hK.out _ _ (Or.inl (by first | rfl | trivial)) ?_
        clear hK K
        try simp only [Act.put, List.setIfInBounds_toArray, List.set_cons_zero, List.set_cons_succ]
        refine till_done (by kernel_rfl) ?_ _
        exact unhide HCC _ _ _ _ _ (hide fo)
      · refine ⟨_, rfl, fun K hK => ?_⟩
        refine step_make_own rfl _ _ 24 rfl (G + 2) 50 if_ _ 4 Tryz.underlying24 (unhide HIF).1 (unhide HIF).2.1 (unhide HIF).2.2.1 .i64 .i64 _ N2 rfl rfl rfl (by rw [(unhide HIF).2.2.2]; have := unhide HNN; omega) (by have := unhide HNN; unfold maxLen; omega) (by have := (unhide HW2).2.2.2; have := B2.size; omega) (fun w9_16_14 o9 g9 => ?_)
        have B3 : Below w2.heap.size w2 w9_16_14 := B2.trans ((below_grown g9).mono B2.size)
        refine hK.out _ _ (Or.inr (unhide HSK _ B3)) ?_
        clear hK K
        try simp only [Act.put, List.setIfInBounds_toArray, List.set_cons_zero, List.set_cons_succ]
        refine till_each [4] (by kernel_rfl) rfl (fun i hi => ?_)
        simp only [List.mem_cons, List.not_mem_nil, or_false] at hi
        subst hi
        refine ⟨_, rfl, fun K hK => ?_⟩
        refine step_make_own rfl _ _ 23 rfl (G + 2) 42 iv _ 5 Tryz.underlying23 (unhide HIV).1 (unhide HIV).2.1 (unhide HIV).2.2.1 .i64 .i64 _ N1 rfl rfl rfl (by rw [(unhide HIV).2.2.2]; have := unhide HNN; omega) (by have := unhide HNN; unfold maxLen; omega) (by have := (unhide HW2).2.2.2; have := B3.size; omega) (fun w4_16_14_9 o4 g4 => ?_)
        have B4 : Below w2.heap.size w2 w4_16_14_9 := B3.trans ((below_grown g4).mono B3.size)
        refine hK.out _ _ (Or.inr (unhide HSK _ B4)) ?_
        clear hK K
        try simp only [Act.put, List.setIfInBounds_toArray, List.set_cons_zero, List.set_cons_succ]
        have fo := four_of hG (unhide HW2).2.2.2 (unhide HW2).1 B4 (unhide HW2).2.1 (unhide HW2).2.2.1 o4 (o9.kept g4 (Or.inr (by simp [Value.ownBlock]))) ((o14.kept g9 (Or.inr (by simp [Value.ownBlock]))).kept g4 (Or.inr (by simp [Value.ownBlock]))) (((below_grown g4).block _ (Array.getElem?_eq_some_iff.1 (((below_grown g9).block _ (Array.getElem?_eq_some_iff.1 (((below_grown g14).block _ (Array.getElem?_eq_some_iff.1 o16).1).trans o16)).1).trans (((below_grown g14).block _ (Array.getElem?_eq_some_iff.1 o16).1).trans o16))).1).trans (((below_grown g9).block _ (Array.getElem?_eq_some_iff.1 (((below_grown g14).block _ (Array.getElem?_eq_some_iff.1 o16).1).trans o16)).1).trans (((below_grown g14).block _ (Array.getElem?_eq_some_iff.1 o16).1).trans o16))) (by have := (unhide HW2).2.2.2; omega)
        have od : w4_16_14_9.heap[w2.heap.size]? = some (.cells #[.slice none 0 0, .slice none 0 0, .slice none 0 0] 27 (0, 0)) := (((below_grown g4).block _ (Array.getElem?_eq_some_iff.1 (((below_grown g9).block _ (Array.getElem?_eq_some_iff.1 (((below_grown g14).block _ (Array.getElem?_eq_some_iff.1 o16).1).trans o16)).1).trans (((below_grown g14).block _ (Array.getElem?_eq_some_iff.1 o16).1).trans o16))).1).trans (((below_grown g9).block _ (Array.getElem?_eq_some_iff.1 (((below_grown g14).block _ (Array.getElem?_eq_some_iff.1 o16).1).trans o16)).1).trans (((below_grown g14).block _ (Array.getElem?_eq_some_iff.1 o16).1).trans o16)))
        refine till_one 15 (by kernel_rfl) rfl (fun K hK => ?_)
        go_simp
        refine hK.out _ _ (Or.inr (unhide HSK _ B4)) ?_
        clear hK K
        try simp only [Act.put, List.setIfInBounds_toArray, List.set_cons_zero, List.set_cons_succ]
        refine till_one 17 (by kernel_rfl) rfl (fun K hK => ?_)
        obtain ⟨t0, t1, t2⟩ := row_cell3 od
        have y0 := frozen_of_row _ _ 0 _ _ od
        have y1 := frozen_of_row _ _ 1 _ _ od
        have y2 := frozen_of_row _ _ 2 _ _ od
        go_simp
        refine hK.out _ _ (Or.inl (by first | rfl | trivial)) ?_
        clear hK K
        try simp only [Act.put, List.setIfInBounds_toArray, List.set_cons_zero, List.set_cons_succ]
        refine till_done (by kernel_rfl) ?_ _
        exact unhide HCC _ _ _ _ _ (hide fo)
end Go.Proofs.YtcknoeepdjhnoaaGreatDoor
