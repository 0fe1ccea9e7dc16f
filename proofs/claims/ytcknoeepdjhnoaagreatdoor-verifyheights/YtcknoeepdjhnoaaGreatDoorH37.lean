/-
  Layer 12, the document's own look: operand; conditions: the form's own reach.
-/
import Derived.Test.YtcknoeepdjhnoaaGreatDoorH36
set_option linter.unusedVariables false
set_option linter.unusedSimpArgs false
namespace Go.Proofs.YtcknoeepdjhnoaaGreatDoor
open Go.RowKit
set_option linter.unusedVariables false
set_option linter.unusedSimpArgs false

theorem serves_rec (y : Vl) : servesB 24 y = textsB y := by
  unfold servesB textsB
  rw [if_pos rfl]
  rfl
theorem serves_field (y : Vl) : servesB 26 y = decide (y.kind = 3) := by
  unfold servesB
  rw [if_neg (show ¬ (26 : Int) = 24 by decide), if_pos rfl]
theorem serves_else {op : Int} (h1 : ¬ op = 24) (h2 : ¬ op = 26) (y : Vl) : servesB op y = true := by
  unfold servesB
  rw [if_neg h1, if_neg h2]

set_option maxRecDepth 100000 in
set_option maxHeartbeats 8000000 in
theorem operandK_any {w : World} {B g : Nat} {x : Kv} {m : Md} {fn : Fn} {ps : List Int} {hv wv : Value} {lw : Int} (h : SeeK w B g x m fn ps hv wv lw) (op a : Int) (hfl : faultI op a = 0) :
    Calls Tryz.prog 27 #[.pointer (some ⟨g, 0, none⟩), .agg #[.int .i64 op, .int .i64 a]] w fun e w' => e = .returned (.int .i64 (opE m fn.2.1 ps (op, a))) ∧ Below w.heap.size w w' := by
  obtain ⟨G, hG⟩ : ∃ G, w.heap.size = G := ⟨_, rfl⟩
  obtain ⟨w1, hw1⟩ : ∃ w1, w.alloc (.cells #[.int .i64 op, .int .i64 a] 75) = w1 := ⟨_, rfl⟩
  have z1 : w1.heap.size = G + 1 := by rw [← hw1, ← hG]; simp
  have A1 : w1.heap[G]? = some (.cells #[.int .i64 op, .int .i64 a] 75 (0, 0)) := by rw [← hw1, ← hG]; exact heap_alloc_new _ _
  have BW : Below w.heap.size w w1 := by rw [← hw1]; exact (Below.refl _ _).alloc (Nat.le_refl _) _
  have C1 := hide (rinfo_any op w1)
  obtain ⟨p, l, s, tt⟩ := fn
  have hfo := fault_ok hfl
  have hmo := (opd_at (srt op) (srt_is op hfo.1).2).2.2.2.1
  have a0 : 0 ≤ a := hfo.2.1
  have a1 : a ≤ 3999 := by have := hfo.2.2; omega
  obtain ⟨i, rfl⟩ : ∃ i : Nat, a = (i : Int) := ⟨a.toNat, by omega⟩
  obtain ⟨E, hE⟩ : ∃ E, opE m l ps (op, (i : Int)) = E := ⟨_, rfl⟩
  have hE' := hE
  unfold opE srt at hE'
  simp only [Int.toNat_natCast] at hE'
  show Calls _ _ _ _ fun e w' => e = .returned (.int .i64 (opE m l ps (op, (i : Int)))) ∧ _
  rw [hE]
  generalize infoA op = y0 at *
  obtain ⟨⟨xn, xa, xb, xc, xd, xf⟩, xe⟩ := y0
  simp only [infV] at C1 hE'
  have c0 : w1.cell? ⟨G, 0, none⟩ = some (.int .i64 op) := by rw [cell_of_row w1 _ 0 _ _ (0, 0) A1]; rfl
  have H1 := hide (And.intro BW (And.intro A1 z1))
  have HK := hide h
  have LAST : ∀ w2, Hid (Below w1.heap.size w1 w2) → ∃ w3, w3 = w2.alloc (.cells #[.string xn, .int .i64 xa, .int .i64 xb, .int .i64 xc, .int .i64 xd, .int .i64 xf] 97) ∧ Hid (Below w.heap.size w w3) ∧ (w3.cell? ⟨w2.heap.size, 1, none⟩ = some (.int .i64 xa) ∧ w3.cell? ⟨w2.heap.size, 2, none⟩ = some (.int .i64 xb) ∧ w3.cell? ⟨w2.heap.size, 3, none⟩ = some (.int .i64 xc)) ∧ w3.cell? ⟨G, 0, none⟩ = some (.int .i64 op) ∧ w3.cell? ⟨G, 1, none⟩ = some (.int .i64 (i : Int)) := fun w2 H2 => by
    have hb3 := (unhide H2).alloc (unhide H2).size (.cells #[.string xn, .int .i64 xa, .int .i64 xb, .int .i64 xc, .int .i64 xd, .int .i64 xf] 97)
    have hb := hb3.block G (by have := (unhide H1).2.2; omega)
    refine ⟨_, rfl, ?_, ⟨?_, ?_, ?_⟩, ?_, ?_⟩
    · exact hide ((unhide H1).1.trans (((unhide H2).mono (unhide H1).1.size).alloc (Nat.le_trans (unhide H1).1.size (unhide H2).size) _))
    · rw [cell_of_row _ _ 1 _ _ (0, 0) (heap_alloc_new w2 _)]; rfl
    · rw [cell_of_row _ _ 2 _ _ (0, 0) (heap_alloc_new w2 _)]; rfl
    · rw [cell_of_row _ _ 3 _ _ (0, 0) (heap_alloc_new w2 _)]; rfl
    · rw [cell_of_row _ _ 0 _ _ (0, 0) (hb.trans (unhide H1).2.1)]; rfl
    · rw [cell_of_row _ _ 1 _ _ (0, 0) (hb.trans (unhide H1).2.1)]; rfl
  have HLA := hide LAST
  clear LAST
  have HT := hide hE'
  clear h A1 BW hfo hmo hE hE' hfl
  go_enter Tryz.func27, Tryz.ntmps27
  go_wp2_with fail
  refine (unhide C1).mono ?_
  rintro e w2 ⟨rfl, B2⟩
  have H2 := hide B2
  clear B2 C1 c0
  go_upto_region 2 with fail
  obtain ⟨w3, hw3, H3, ⟨k1, k2, k3⟩, c0, c1⟩ := unhide HLA w2 H2
  rw [← hw3]
  clear hw3 HLA
  have hK3 := (unhide HK).later (unhide H3)
  obtain ⟨j0, j1, j3, j5, j6, j7, j8⟩ := hK3.at
  have hNb : x.n1 ≤ 140737488351232 ∧ x.n2 ≤ 140737488351232 := by have := hK3.mod.len; have := hK3.l1; have := hK3.l2; omega
  have HK3 := hide hK3
  clear hK3
  have hf0 : (0 : Int) ≤ (x.f : Int) := by omega
  have hff : (x.f : Int) < (x.n2 : Int) := by have := (List.getElem?_eq_some_iff.1 (unhide HK3).lf).1; have := (unhide HK3).l2; omega
  by_cases o1 : xa = 1
  · subst o1
    by_cases hlt : i < x.n1
    · have hl1 : (i : Int) < (x.n1 : Int) := by omega
      have hl2 : ¬ (x.n1 : Int) ≤ (i : Int) := by omega
      obtain ⟨y, hy⟩ : ∃ y, m.cs[i]? = some y := ⟨_, List.getElem?_eq_getElem (by have := (unhide HK3).l1; omega)⟩
      have HE0 : Hid (E = if servesB op y = true then 0 else 122) := hide (by
        have hh := unhide HT
        rw [if_pos (by omega)] at hh
        have g1 : m.cs.getD i vl0 = y := getD_of hy
        by_cases q : servesB op y = true
        · rw [if_pos q]
          rw [if_pos ⟨by rw [(unhide HK3).l1]; exact hl1, by rw [← g1] at q; exact q⟩] at hh
          exact hh.symm
        · rw [if_neg q]
          rw [if_neg (fun z => q (by rw [← g1]; exact z.2))] at hh
          exact hh.symm)
      have HY := hide hy
      clear HT hy
      go_upto_region 4 with fail
      go_quiet (fail)
      obtain ⟨w4, hw4⟩ : ∃ w4, w4 = w3.drewN nq := ⟨_, rfl⟩
      rw [← hw4]
      have x4 : Below w3.heap.size w3 w4 := by rw [hw4]; exact below_drewN (Below.refl _ _) _
      have H4 : Hid (Below w.heap.size w w4) := hide (by rw [hw4]; exact below_drewN (unhide H3) _)
      have c0' := cell_later x4 c0
      have c1' := cell_later x4 c1
      have hK4 := (unhide HK3).later x4
      have j0' := hK4.at.1
      obtain ⟨ad, y0, y1, y2, al', ak', ll', m', cl', ck', hae, hab, hcc, hvv⟩ := hK4.mod.const i y (unhide HY)
      rw [hae] at j0'
      have e0 : w4.cell? (ad.add (i * 5)) = some (.int .i64 y0) := hcc 0 _ rfl
      have e1 : w4.cell? ⟨(ad.add (i * 5)).block, (ad.add (i * 5)).off + 1, none⟩ = some (.int .i64 y1) := hcc 1 _ rfl
      have e2 : w4.cell? ⟨(ad.add (i * 5)).block, (ad.add (i * 5)).off + 2, none⟩ = some (.string y2) := hcc 2 _ rfl
      have e3 : w4.cell? ⟨(ad.add (i * 5)).block, (ad.add (i * 5)).off + 3, none⟩ = some (.slice al' ll' cl') := hcc 3 _ rfl
      have e4 : w4.cell? ⟨(ad.add (i * 5)).block, (ad.add (i * 5)).off + 4, none⟩ = some (.slice ak' m' ck') := hcc 4 _ rfl
      have hyk : y.kind = y0 := by
        obtain ⟨kd, n, s, l, ks, al, ak, cl, ck, V, rfl, hx, hf, el⟩ := hvv.inv
        have h1 := congrArg Array.toList (Value.agg.inj hx)
        simp at h1
        exact h1.1.symm
      have HYK := hide hyk
      have hdr : Below w4.heap.size w4 w4.drew := (Below.refl _ _).drew
      have CT := hide (texts_any y _ B w4.drew (hvv.mono (hdr.mono hK4.big)) (by have := hdr.size; have := hK4.big; omega))
      obtain ⟨T, hT⟩ : ∃ T, textsB y = T := ⟨_, rfl⟩
      rw [hT] at CT
      have HTB := hide hT
      clear hw4 x4 hK4 hcc hvv hyk hdr hae hab hT c0 c1 j0 j1 j3 j5 j6 j7 j8 k1 k2 k3
      go_upto_region 6 with fail
      refine till_begin (S := fun w' => w'.cell? ⟨g, 0, none⟩ = some (.slice (some ad) x.n1 x.c1) ∧ w'.cell? ⟨G, 1, none⟩ = some (.int .i64 (i : Int)) ∧ w'.cell? (ad.add (i * 5)) = some (.int .i64 y0) ∧ w'.cell? ⟨(ad.add (i * 5)).block, (ad.add (i * 5)).off + 1, none⟩ = some (.int .i64 y1) ∧ w'.cell? ⟨(ad.add (i * 5)).block, (ad.add (i * 5)).off + 2, none⟩ = some (.string y2) ∧ w'.cell? ⟨(ad.add (i * 5)).block, (ad.add (i * 5)).off + 3, none⟩ = some (.slice al' ll' cl') ∧ w'.cell? ⟨(ad.add (i * 5)).block, (ad.add (i * 5)).off + 4, none⟩ = some (.slice ak' m' ck')) 10 (by kernel_rfl) ?_
      have HS0 := And.intro j0' (And.intro c1' (And.intro e0 (And.intro e1 (And.intro e2 (And.intro e3 e4)))))
      refine till_take 0 (v := .pointer (some ⟨g, 0, none⟩)) (some 28) rfl rfl rfl (by kernel_rfl) (by kernel_rfl) (by kernel_rfl) (by kernel_rfl) (fun _ _ _ h => h) (Or.inl ⟨by rfl, fun u hu => by obtain ⟨s0, s1, s2, s3, s4, s5, s6⟩ := hu; go_simp⟩) HS0 ?_
      try simp only [Act.put, List.setIfInBounds_toArray, List.set_cons_zero, List.set_cons_succ]
      refine till_take 1 (v := .pointer (some ⟨g, 0, none⟩)) (some 29) rfl rfl rfl (by kernel_rfl) (by kernel_rfl) (by kernel_rfl) (by kernel_rfl) (fun _ _ _ h => h) (Or.inl ⟨by rfl, fun u hu => by obtain ⟨s0, s1, s2, s3, s4, s5, s6⟩ := hu; go_simp⟩) HS0 ?_
      try simp only [Act.put, List.setIfInBounds_toArray, List.set_cons_zero, List.set_cons_succ]
      refine till_take 2 (v := .pointer (some ⟨g, 0, none⟩)) (some 30) rfl rfl rfl (by kernel_rfl) (by kernel_rfl) (by kernel_rfl) (by kernel_rfl) (fun _ _ _ h => h) (Or.inl ⟨by rfl, fun u hu => by obtain ⟨s0, s1, s2, s3, s4, s5, s6⟩ := hu; go_simp⟩) HS0 ?_
      try simp only [Act.put, List.setIfInBounds_toArray, List.set_cons_zero, List.set_cons_succ]
      refine till_take 3 (v := .pointer (some ⟨g, 0, none⟩)) (some 31) rfl rfl rfl (by kernel_rfl) (by kernel_rfl) (by kernel_rfl) (by kernel_rfl) (fun _ _ _ h => h) (Or.inl ⟨by rfl, fun u hu => by obtain ⟨s0, s1, s2, s3, s4, s5, s6⟩ := hu; go_simp⟩) HS0 ?_
      try simp only [Act.put, List.setIfInBounds_toArray, List.set_cons_zero, List.set_cons_succ]
      refine till_take 4 (v := .slice (some ad) x.n1 x.c1) (some 32) rfl rfl rfl (by kernel_rfl) (by kernel_rfl) (by kernel_rfl) (by kernel_rfl) (fun _ _ _ h => h) (Or.inl ⟨by rfl, fun u hu => by obtain ⟨s0, s1, s2, s3, s4, s5, s6⟩ := hu; go_simp⟩) HS0 ?_
      try simp only [Act.put, List.setIfInBounds_toArray, List.set_cons_zero, List.set_cons_succ]
      refine till_take 5 (v := .pointer (some ⟨G, 1, none⟩)) (some 33) rfl rfl rfl (by kernel_rfl) (by kernel_rfl) (by kernel_rfl) (by kernel_rfl) (fun _ _ _ h => h) (Or.inl ⟨by rfl, fun u hu => by obtain ⟨s0, s1, s2, s3, s4, s5, s6⟩ := hu; go_simp⟩) HS0 ?_
      try simp only [Act.put, List.setIfInBounds_toArray, List.set_cons_zero, List.set_cons_succ]
      refine till_take 6 (v := .int .i64 (i : Int)) (some 34) rfl rfl rfl (by kernel_rfl) (by kernel_rfl) (by kernel_rfl) (by kernel_rfl) (fun _ _ _ h => h) (Or.inl ⟨by rfl, fun u hu => by obtain ⟨s0, s1, s2, s3, s4, s5, s6⟩ := hu; go_simp⟩) HS0 ?_
      try simp only [Act.put, List.setIfInBounds_toArray, List.set_cons_zero, List.set_cons_succ]
      refine till_take 7 (v := .pointer (some (ad.add (i * 5)))) (some 35) rfl rfl rfl (by kernel_rfl) (by kernel_rfl) (by kernel_rfl) (by kernel_rfl) (fun _ _ _ h => h) (Or.inl ⟨by rfl, fun u hu => by obtain ⟨s0, s1, s2, s3, s4, s5, s6⟩ := hu; go_simp⟩) HS0 ?_
      try simp only [Act.put, List.setIfInBounds_toArray, List.set_cons_zero, List.set_cons_succ]
      refine till_take 8 (v := .agg #[.int .i64 y0, .int .i64 y1, .string y2, .slice al' ll' cl', .slice ak' m' ck']) (some 36) rfl rfl rfl (by kernel_rfl) (by kernel_rfl) (by kernel_rfl) (by kernel_rfl) (fun _ _ _ h => h) (Or.inl ⟨by rfl, fun u hu => by obtain ⟨s0, s1, s2, s3, s4, s5, s6⟩ := hu; go_simp⟩) HS0 ?_
      try simp only [Act.put, List.setIfInBounds_toArray, List.set_cons_zero, List.set_cons_succ]
      refine till_one 9 (by kernel_rfl) rfl (fun K hK => ?_)
      go_simp
      refine (unhide CT).mono ?_
      rintro e w6 ⟨rfl, b5⟩
      have b6 := below_drew_of' b5
      have H6 : Hid (Below w.heap.size w w6) := hide ((unhide H4).trans (b6.mono (unhide H4).size))
      have d0 := cell_later b6 c0'
      have d1 := cell_later b6 c1'
      have dj := cell_later b6 j0'
      have de := cell_later b6 e0
      have HS5 := And.intro (cell_later b6 j0') (And.intro (cell_later b6 c1') (And.intro (cell_later b6 e0) (And.intro (cell_later b6 e1) (And.intro (cell_later b6 e2) (And.intro (cell_later b6 e3) (cell_later b6 e4))))))
      clear b5 b6 CT
      go_wp2_with fail
      refine hK.out _ _ (Or.inr HS5) ?_
      clear hK K HS0 e0 e1 e2 e3 e4 j0' c0' c1'
      try simp only [Act.put, List.setIfInBounds_toArray, List.set_cons_zero, List.set_cons_succ]
      refine till_one 10 (by kernel_rfl) rfl (fun K hK => ?_)
      go_simp
      refine hK.out _ _ (Or.inl rfl) ?_
      clear hK K HS5
      try simp only [Act.put, List.setIfInBounds_toArray, List.set_cons_zero, List.set_cons_succ]
      refine till_done (by kernel_rfl) ?_ _
      by_cases o24 : op = 24
      · subst o24
        cases T with
        | true =>
          have HE : Hid (E = 0) := hide (by
            have hh := unhide HE0
            rw [hh]
            rw [serves_rec, unhide HTB, if_pos rfl])
          clear HE0
          go_upto_region 7 with fail
          go_quiet (fail)
          go_wp2_with fail
          go_ret
          exact ⟨by rw [unhide HE]; rfl, by first | exact below_drewN (unhide H6) _ | (rw [← hG]; exact below_drewN (unhide H6) _)⟩
        | false =>
          have HE : Hid (E = 122) := hide (by
            have hh := unhide HE0
            rw [hh]
            rw [serves_rec, unhide HTB, if_neg (by decide)])
          clear HE0
          go_upto_region 7 with fail
          go_quiet (fail)
          go_wp2_with fail
          go_ret
          exact ⟨by rw [unhide HE]; rfl, by first | exact below_drewN (unhide H6) _ | (rw [← hG]; exact below_drewN (unhide H6) _)⟩
      · have q24 : (op == 24) = false := by simpa using o24
        have r24 : decide (op = 24) = false := decide_eq_false o24
        by_cases o26 : op = 26
        · subst o26
          by_cases hy3 : y0 = 3
          · subst hy3
            have HE : Hid (E = 0) := hide (by
              have hh := unhide HE0
              rw [hh]
              rw [serves_field, unhide HYK]; rfl)
            clear HE0
            go_upto_region 7 with fail
            go_quiet (fail)
            go_wp2_with fail
            go_ret
            exact ⟨by rw [unhide HE]; rfl, by first | exact below_drewN (unhide H6) _ | (rw [← hG]; exact below_drewN (unhide H6) _)⟩
          · have q3 : (y0 == 3) = false := by simpa using hy3
            have r3 : decide (y0 = 3) = false := decide_eq_false hy3
            have HE : Hid (E = 122) := hide (by
              have hh := unhide HE0
              rw [hh]
              rw [serves_field, unhide HYK, if_neg (by simpa using hy3)])
            clear HE0
            go_upto_region 7 with fail
            go_quiet (fail)
            go_wp2_with fail
            go_ret
            exact ⟨by rw [unhide HE]; rfl, by first | exact below_drewN (unhide H6) _ | (rw [← hG]; exact below_drewN (unhide H6) _)⟩
        · have q26 : (op == 26) = false := by simpa using o26
          have r26 : decide (op = 26) = false := decide_eq_false o26
          have HE : Hid (E = 0) := hide (by
            have hh := unhide HE0
            rw [hh]
            rw [serves_else o24 o26, if_pos rfl])
          clear HE0
          go_upto_region 7 with fail
          go_quiet (fail)
          go_wp2_with fail
          go_ret
          exact ⟨by rw [unhide HE]; rfl, by first | exact below_drewN (unhide H6) _ | (rw [← hG]; exact below_drewN (unhide H6) _)⟩
    · have hl1 : (x.n1 : Int) ≤ (i : Int) := by omega
      have HE : Hid (E = 122) := hide (by
        have hh := unhide HT
        rw [if_pos (by omega), if_neg (fun z => by have := z.1; rw [(unhide HK3).l1] at this; omega)] at hh
        exact hh.symm)
      clear HT
      go_upto_region 4 with fail
      go_quiet (fail)
      go_wp2_with fail
      go_ret
      exact ⟨by rw [unhide HE]; rfl, by first | exact below_drewN (unhide H3) _ | (rw [← hG]; exact below_drewN (unhide H3) _)⟩
  · have q1 : (xa == 1) = false := by simpa using o1
    by_cases o2 : xa = 2
    · subst o2
      obtain ⟨ad, hae, hab, hts, f0, f1, f2, f3⟩ := (unhide HK3).mod.func x.f p l s tt (unhide HK3).lf
      rw [hae] at j1
      clear hae f0 f2 f3
      by_cases hlt : (i : Int) < l
      · have hl2 : ¬ l ≤ (i : Int) := by omega
        have HE : Hid (E = 0) := hide (by
          have hh := unhide HT
          rw [if_neg (by omega), if_pos (by omega), if_pos hlt] at hh
          exact hh.symm)
        clear HT
        go_upto_region 10 with fail
        go_quiet (fail)
        go_wp2_with fail
        go_ret
        exact ⟨by rw [unhide HE]; rfl, by first | exact below_drewN (unhide H3) _ | (rw [← hG]; exact below_drewN (unhide H3) _)⟩
      · have hl2 : l ≤ (i : Int) := by omega
        have HE : Hid (E = 122) := hide (by
          have hh := unhide HT
          rw [if_neg (by omega), if_pos (by omega), if_neg hlt] at hh
          exact hh.symm)
        clear HT
        go_upto_region 10 with fail
        go_quiet (fail)
        go_wp2_with fail
        go_ret
        exact ⟨by rw [unhide HE]; rfl, by first | exact below_drewN (unhide H3) _ | (rw [← hG]; exact below_drewN (unhide H3) _)⟩
    · have q2 : (xa == 2) = false := by simpa using o2
      by_cases o4 : xa = 4
      · subst o4
        by_cases hlt : i < x.n2
        · have hl2 : ¬ (x.n2 : Int) ≤ (i : Int) := by omega
          have HE : Hid (E = 0) := hide (by
            have hh := unhide HT
            rw [if_neg (by omega), if_neg (by omega), if_pos (by omega), if_pos (by rw [(unhide HK3).l2]; omega)] at hh
            exact hh.symm)
          clear HT
          go_upto_region 13 with fail
          go_quiet (fail)
          go_wp2_with fail
          go_ret
          exact ⟨by rw [unhide HE]; rfl, by first | exact below_drewN (unhide H3) _ | (rw [← hG]; exact below_drewN (unhide H3) _)⟩
        · have hl2 : (x.n2 : Int) ≤ (i : Int) := by omega
          have HE : Hid (E = 122) := hide (by
            have hh := unhide HT
            rw [if_neg (by omega), if_neg (by omega), if_pos (by omega), if_neg (by rw [(unhide HK3).l2]; omega)] at hh
            exact hh.symm)
          clear HT
          go_upto_region 13 with fail
          go_quiet (fail)
          go_wp2_with fail
          go_ret
          exact ⟨by rw [unhide HE]; rfl, by first | exact below_drewN (unhide H3) _ | (rw [← hG]; exact below_drewN (unhide H3) _)⟩
      · have q4 : (xa == 4) = false := by simpa using o4
        by_cases o3 : xa = 3
        · subst o3
          have CB := hide (begins_any (unhide HK3) (i : Int))
          by_cases hin : (i : Int) ∈ ps
          · have HE : Hid (E = 0) := hide (by
              have hh := unhide HT
              rw [if_neg (by omega), if_neg (by omega), if_neg (by omega), if_pos (by omega), if_pos hin] at hh
              exact hh.symm)
            rw [decide_eq_true hin] at CB
            clear HT
            go_wp2_with fail
            refine (unhide CB).mono ?_
            rintro e w4 ⟨rfl, h4⟩
            obtain rfl := h4
            clear CB
            go_wp2_with fail
            go_ret
            exact ⟨by rw [unhide HE]; rfl, by first | exact unhide H3 | (rw [← hG]; exact unhide H3)⟩
          · have HE : Hid (E = 123) := hide (by
              have hh := unhide HT
              rw [if_neg (by omega), if_neg (by omega), if_neg (by omega), if_pos (by omega), if_neg hin] at hh
              exact hh.symm)
            rw [decide_eq_false hin] at CB
            clear HT
            go_wp2_with fail
            refine (unhide CB).mono ?_
            rintro e w4 ⟨rfl, h4⟩
            obtain rfl := h4
            clear CB
            go_wp2_with fail
            go_ret
            exact ⟨by rw [unhide HE]; rfl, by first | exact unhide H3 | (rw [← hG]; exact unhide H3)⟩
        · have q3 : (xa == 3) = false := by simpa using o3
          have HE : Hid (E = 0) := hide (by
            have hh := unhide HT
            rw [if_neg (by omega), if_neg (by omega), if_neg (by omega), if_neg (by omega)] at hh
            exact hh.symm)
          clear HT
          go_wp2_with fail
          go_ret
          exact ⟨by rw [unhide HE]; rfl, by first | exact unhide H3 | (rw [← hG]; exact unhide H3)⟩
end Go.Proofs.YtcknoeepdjhnoaaGreatDoor
