/-
  Every Apply of any changes to any row, the code's and the document's; what came out is written over, what was lent stays; no conditions but the form's own reach.
-/
import Derived.Test.YtlmgiimgmjbkeaaA44
import Derived.Test.YtlmgiimgmjbkeaaA46
import Derived.Test.YtlmgiimgmjbkeaaA48
import Derived.Test.YtlmgiimgmjbkeaaA49
import Derived.Test.YtlmgiimgmjbkeaaA50
set_option linter.unusedVariables false
set_option linter.unusedSimpArgs false
namespace Go.Proofs.Ytlmgiimgmjbkeaa
open Go.RowKit Go.Shelf
set_option linter.unusedVariables false
set_option linter.unusedSimpArgs false

theorem entries_same (DL : List En) (x y : Option Addr) (dl k1 k2 : Nat) (u : World) (hl : DL.length = dl) (h1 : IsE u (fun b => b < u.heap.size) DL x k1) (h2 : IsE u (fun b => b < u.heap.size) DL y k2) :
    Calls Try.prog 16 #[.slice x dl k1, .slice y dl k2] u fun e w' => e = .returned (.bool true) ∧ Below u.heap.size u w' := by
  refine (entries_any DL DL x y dl dl k1 k2 u.heap.size u hl hl h1 h2 (Nat.le_refl _)).mono ?_
  rintro e w' ⟨r, rfl, hr, b⟩
  have h3 : r = true := hr.2 rfl
  subst h3
  exact ⟨rfl, b⟩

set_option maxRecDepth 100000 in
set_option maxHeartbeats 8000000 in
theorem applies_walk (es : List En) (cs : List Ch) (al bl : Option Addr) (n m cl ck B : Nat) (w : World) (hn : es.length = n) (hm : cs.length = m) (h : IsE w (fun b => b < B) es al cl) (h' : IsH w (fun b => b < B) cs bl ck) (hB : B ≤ w.heap.size) (hb1 : 96 * n ≤ 140737488351232) (hb2 : 104 * m ≤ 140737488351232) :
    Calls Try.prog 4 #[.slice al n cl, .slice bl m ck] w fun e w' => e = .returned (.bool true) ∧ Below w.heap.size w w' := by
  obtain ⟨V1, hV1⟩ := h.csE
  obtain ⟨V2, hV2⟩ := h'.csH
  have hAR : applyL es cs = [] ∨ rightE (applyL es cs) = true := by
    by_cases hc : codeA es cs = 0
    · right
      have : applyL es cs = apL (es.length + cs.length) es cs := by unfold applyL; rw [if_pos hc]
      rw [this]
      unfold codeA at hc
      cases hr : rightE (apL (es.length + cs.length) es cs) with
      | true => rfl
      | false =>
        rw [hr] at hc
        split at hc
        · split at hc
          · split at hc
            · rw [if_neg (by simp)] at hc
              cases hc
            · cases hc
          · cases hc
        · cases hc
    · left
      unfold applyL
      rw [if_neg hc]
  have hlen : (applyL es cs).length ≤ 256 := by
    rcases hAR with e | e
    · rw [e]; simp
    · have := (right_len e).1; omega
  have hkey : ∀ c ∈ applyL es cs, c.1.size ≤ 140737488351232 := by
    rcases hAR with e | e
    · rw [e]; intro c hc; cases hc
    · intro c hc
      have := (right_len e).2 c hc
      unfold entB at this
      simp only [Bool.and_eq_true, decide_eq_true_eq] at this
      have := this.1.2
      omega
  obtain ⟨DL, hDL⟩ : ∃ DL, applyL es cs = DL := ⟨_, rfl⟩
  obtain ⟨cd, hcd⟩ : ∃ cd, codeA es cs = cd := ⟨_, rfl⟩
  rw [hDL] at hlen hkey
  have HE : Hid (∀ u, Below w.heap.size w u → IsE u (fun b => b < B) es al cl ∧ IsH u (fun b => b < B) cs bl ck ∧ CsE u B es al V1 ∧ CsH u B cs bl V2) := hide (fun u hu => ⟨h.later (hu.mono hB), h'.later (hu.mono hB), hV1.later (hu.mono hB), hV2.later (hu.mono hB)⟩)
  have CS := hide (shown_any w)
  have HN := hide (And.intro hn (And.intro hm hB))
  have HLK := hide (And.intro hlen hkey)
  have HBB := hide hb1
  have CD : Hid (∀ u (x1 x2 : Option Addr) (c1 c2 C : Nat), IsE u (fun b => b < C) es x1 c1 → IsH u (fun b => b < C) cs x2 c2 → C ≤ u.heap.size → Calls Try.prog 14 #[.slice x1 n c1, .slice x2 m c2] u fun e w' => ∃ sv xs, e = .returned (.tuple #[sv, .int .i64 cd]) ∧ EnN w' u.heap.size sv xs ∧ xs.map enOf = DL ∧ Below u.heap.size u w') := hide (fun u x1 x2 c1 c2 C i1 i2 hC => by
    have := applyE_any es cs x1 x2 n c1 m c2 C u hn hm i1 i2 hC (by omega)
    rw [hcd, hDL] at this
    exact this)
  have CR : Hid (∀ u, Below w.heap.size w u → Calls Try.prog 15 #[.slice al n cl, .slice bl m ck] u fun e w' => ∃ sv xs, e = .returned (.tuple #[sv, .int .i64 cd]) ∧ EnN w' u.heap.size sv xs ∧ xs.map enOf = DL ∧ Below u.heap.size u w') := hide (fun u hu => by
    have := applyR_any es cs al bl n cl m ck B u hn hm (h.later (hu.mono hB)) (h'.later (hu.mono hB)) (Nat.le_trans hB hu.size)
    rw [hcd, hDL] at this
    exact this)
  have HM : Hid (IsE w (fun b => b < B) es al cl ∧ IsH w (fun b => b < B) cs bl ck) := hide ⟨h, h'⟩
  obtain ⟨iv, hiv, hz0, hz1, hz2⟩ := info_parts infoCH
  clear h h' hn hm hB hV1 hV2 hlen hkey hDL hcd hb1 hAR
  go_enter Try.func4, Try.ntmps4
  go_wp2_with fail
  refine (unhide CS).mono ?_
  rintro e u1 ⟨rfl, d1⟩
  have D1 := hide d1
  have C1 := hide (lentE_any es V1 al n cl B u1 (unhide HN).1 (unhide HE u1 d1).2.2.1 (Nat.le_trans (unhide HN).2.2 d1.size) (unhide HBB))
  clear d1 CS
  go_wp2_with fail
  refine (unhide C1).mono ?_
  rintro e u2 ⟨be1, rfl, ⟨R1, L1⟩, d2⟩
  have D2 := hide ((unhide D1).trans (d2.mono (unhide D1).size))
  have HL1 := hide (And.intro L1 (unhide D1).size)
  clear d2 C1 L1 D1
  obtain ⟨be2, hbe2⟩ : ∃ be2, u2.heap.size = be2 := ⟨_, rfl⟩
  have HB2 := hide hbe2
  have tokA : True := trivial
  go_upto_region 4 with (first | (have _t := tokA; at_make; refine wpList_make_full _ rfl _ _ 25 rfl be2 36 iv _ 7 Try.underlying25 hiv hz0 hz1 _ _ _ _ m rfl rfl (by omega) (by omega) (by rw [hz2]; omega) (by unfold maxLen; omega) (by omega) ?_; intro w4 own4 gr4; rw [hbe2] at own4 ⊢; clear tokA))
  obtain ⟨R0, hR0l, hR0k, hR0f⟩ := chunk 7 m (madeCells (.agg #[.string ⟨#[]⟩, .bool false, .int .i64 0, .int .i64 0, .string ⟨#[]⟩, .slice none 0 0, .slice none 0 0] : Value).cells (m * 7)).toList (by rw [Array.length_toList, size_madeCells])
  have hall := own_all own4
  rw [← hR0f] at hall
  have HL0 : Hid (LC u2 w4 be2 0 m cs V2 R0) := hide ⟨⟨hall, hR0k⟩, hR0l, fun j y _ hj => by omega, by
    have := (Below.refl u2.heap.size u2).grown gr4 (Nat.le_refl _) (by simp)
    rw [hbe2] at this
    exact this⟩
  clear own4 gr4 hall hR0l hR0k hR0f hbe2 hiv hz0 hz1 hz2
  go_wp2_with fail
  go_loopw [8] (fun x wr => ∃ (i : Nat) (R : List (List Value)), x = .int .i64 (i : Int) ∧ Hid (i ≤ m) ∧ Hid (LC u2 wr be2 i m cs V2 R)) (fun x _ => m - (intOf x).toNat)
  case atStart => exact ⟨0, _, rfl, hide (by omega), HL0⟩
  case round =>
    clear HL0
    obtain ⟨i, R, rfl, HI, HR⟩ := hrel
    by_cases hlt : i < m
    · have i1 : (i : Int) < (m : Int) := by omega
      have HI1 : Hid (i + 1 ≤ m) := hide (by omega)
      obtain ⟨rr, hrr⟩ : ∃ rr, R[i]? = some rr := ⟨_, List.getElem?_eq_getElem (by rw [(unhide HR).rl]; exact hlt)⟩
      match rr, (unhide HR).row.len rr (List.mem_of_getElem? hrr), hrr with
      | [z0, z1, z2, z3, z4, z5, z6], _, hrr =>
      obtain ⟨⟨ky, gg, yv⟩, hy⟩ : ∃ y, cs[i]? = some y := ⟨_, List.getElem?_eq_getElem (by have := (unhide HN).2.1; omega)⟩
      have HBr : Hid (Below w.heap.size w wr) := hide ((unhide D2).trans ((unhide HR).below.mono (by have := (unhide D2).size; have := unhide HB2; omega)))
      obtain ⟨b, x0, x1, x2, al', ak', ll', m', cl', ck', rfl, hbb, hVi, hce, hve⟩ := (unhide HE wr (unhide HBr)).2.2.2 i _ hy
      rw [hVi] at hce hve
      dsimp only at hce hve
      have CI := hide (lent_both yv _ B wr.drew (hve.mono ((Below.refl _ _).drew)) (Nat.le_trans (unhide HN).2.2 (unhide HBr).size))
      have HY := hide (And.intro hy hVi)
      have HCE : Hid (wr.drew.cell? (b.add (i * 7)) = some (.string ky) ∧ wr.drew.cell? ⟨(b.add (i * 7)).block, (b.add (i * 7)).off + 1, none⟩ = some (.bool gg) ∧ wr.drew.cell? ⟨(b.add (i * 7)).block, (b.add (i * 7)).off + 2, none⟩ = some (.int .i64 x0) ∧ wr.drew.cell? ⟨(b.add (i * 7)).block, (b.add (i * 7)).off + 3, none⟩ = some (.int .i64 x1) ∧ wr.drew.cell? ⟨(b.add (i * 7)).block, (b.add (i * 7)).off + 4, none⟩ = some (.string x2) ∧ wr.drew.cell? ⟨(b.add (i * 7)).block, (b.add (i * 7)).off + 5, none⟩ = some ((.slice al' ll' cl')) ∧ wr.drew.cell? ⟨(b.add (i * 7)).block, (b.add (i * 7)).off + 6, none⟩ = some ((.slice ak' m' ck'))) := hide ⟨hce 0 _ rfl, hce 1 _ rfl, hce 2 _ rfl, hce 3 _ rfl, hce 4 _ rfl, hce 5 _ rfl, hce 6 _ rfl⟩
      clear hce hve hy hVi hbb
      go_upto_region 7 with fail
      have HS0 : Hid (wr.drew.cell? (b.add (i * 7)) = some (.string ky) ∧ wr.drew.cell? ⟨(b.add (i * 7)).block, (b.add (i * 7)).off + 1, none⟩ = some (.bool gg) ∧ wr.drew.cell? ⟨(b.add (i * 7)).block, (b.add (i * 7)).off + 2, none⟩ = some (.int .i64 x0) ∧ wr.drew.cell? ⟨(b.add (i * 7)).block, (b.add (i * 7)).off + 3, none⟩ = some (.int .i64 x1) ∧ wr.drew.cell? ⟨(b.add (i * 7)).block, (b.add (i * 7)).off + 4, none⟩ = some (.string x2) ∧ wr.drew.cell? ⟨(b.add (i * 7)).block, (b.add (i * 7)).off + 5, none⟩ = some ((.slice al' ll' cl')) ∧ wr.drew.cell? ⟨(b.add (i * 7)).block, (b.add (i * 7)).off + 6, none⟩ = some ((.slice ak' m' ck'))) := HCE
      refine till_begin (S := fun w' => w'.cell? (b.add (i * 7)) = some (.string ky) ∧ w'.cell? ⟨(b.add (i * 7)).block, (b.add (i * 7)).off + 1, none⟩ = some (.bool gg) ∧ w'.cell? ⟨(b.add (i * 7)).block, (b.add (i * 7)).off + 2, none⟩ = some (.int .i64 x0) ∧ w'.cell? ⟨(b.add (i * 7)).block, (b.add (i * 7)).off + 3, none⟩ = some (.int .i64 x1) ∧ w'.cell? ⟨(b.add (i * 7)).block, (b.add (i * 7)).off + 4, none⟩ = some (.string x2) ∧ w'.cell? ⟨(b.add (i * 7)).block, (b.add (i * 7)).off + 5, none⟩ = some ((.slice al' ll' cl')) ∧ w'.cell? ⟨(b.add (i * 7)).block, (b.add (i * 7)).off + 6, none⟩ = some ((.slice ak' m' ck'))) 20 (by kernel_rfl) ?_
      refine till_take 0 (v := .slice (some ⟨be2, 0, none⟩) m m) (some 28) rfl rfl rfl (by kernel_rfl) (by kernel_rfl) (by kernel_rfl) (by kernel_rfl) (fun _ _ _ h => h) (Or.inl ⟨by rfl, fun u hu => by obtain ⟨b0, b1, b2, b3, b4, b5, b6⟩ := hu; go_simp⟩) (unhide HS0) ?_
      try simp only [Act.put, List.setIfInBounds_toArray, List.set_cons_zero, List.set_cons_succ]
      refine till_take 1 (v := .int .i64 (i : Int)) (some 29) rfl rfl rfl (by kernel_rfl) (by kernel_rfl) (by kernel_rfl) (by kernel_rfl) (fun _ _ _ h => h) (Or.inl ⟨by rfl, fun u hu => by obtain ⟨b0, b1, b2, b3, b4, b5, b6⟩ := hu; go_simp⟩) (unhide HS0) ?_
      try simp only [Act.put, List.setIfInBounds_toArray, List.set_cons_zero, List.set_cons_succ]
      refine till_take 2 (v := .slice (some b) m ck) (some 30) rfl rfl rfl (by kernel_rfl) (by kernel_rfl) (by kernel_rfl) (by kernel_rfl) (fun _ _ _ h => h) (Or.inl ⟨by rfl, fun u hu => by obtain ⟨b0, b1, b2, b3, b4, b5, b6⟩ := hu; go_simp⟩) (unhide HS0) ?_
      try simp only [Act.put, List.setIfInBounds_toArray, List.set_cons_zero, List.set_cons_succ]
      refine till_take 3 (v := .int .i64 (i : Int)) (some 31) rfl rfl rfl (by kernel_rfl) (by kernel_rfl) (by kernel_rfl) (by kernel_rfl) (fun _ _ _ h => h) (Or.inl ⟨by rfl, fun u hu => by obtain ⟨b0, b1, b2, b3, b4, b5, b6⟩ := hu; go_simp⟩) (unhide HS0) ?_
      try simp only [Act.put, List.setIfInBounds_toArray, List.set_cons_zero, List.set_cons_succ]
      refine till_take 4 (v := .pointer (some (b.add (i * 7)))) (some 32) rfl rfl rfl (by kernel_rfl) (by kernel_rfl) (by kernel_rfl) (by kernel_rfl) (fun _ _ _ h => h) (Or.inl ⟨by rfl, fun u hu => by obtain ⟨b0, b1, b2, b3, b4, b5, b6⟩ := hu; go_simp⟩) (unhide HS0) ?_
      try simp only [Act.put, List.setIfInBounds_toArray, List.set_cons_zero, List.set_cons_succ]
      refine till_take 5 (v := .pointer (some (b.add (i * 7)))) (some 33) rfl rfl rfl (by kernel_rfl) (by kernel_rfl) (by kernel_rfl) (by kernel_rfl) (fun _ _ _ h => h) (Or.inl ⟨by rfl, fun u hu => by obtain ⟨b0, b1, b2, b3, b4, b5, b6⟩ := hu; go_simp⟩) (unhide HS0) ?_
      try simp only [Act.put, List.setIfInBounds_toArray, List.set_cons_zero, List.set_cons_succ]
      refine till_take 6 (v := .string ky) (some 34) rfl rfl rfl (by kernel_rfl) (by kernel_rfl) (by kernel_rfl) (by kernel_rfl) (fun _ _ _ h => h) (Or.inl ⟨by rfl, fun u hu => by obtain ⟨b0, b1, b2, b3, b4, b5, b6⟩ := hu; go_simp⟩) (unhide HS0) ?_
      try simp only [Act.put, List.setIfInBounds_toArray, List.set_cons_zero, List.set_cons_succ]
      refine till_take 7 (v := .slice (some b) m ck) (some 35) rfl rfl rfl (by kernel_rfl) (by kernel_rfl) (by kernel_rfl) (by kernel_rfl) (fun _ _ _ h => h) (Or.inl ⟨by rfl, fun u hu => by obtain ⟨b0, b1, b2, b3, b4, b5, b6⟩ := hu; go_simp⟩) (unhide HS0) ?_
      try simp only [Act.put, List.setIfInBounds_toArray, List.set_cons_zero, List.set_cons_succ]
      refine till_take 8 (v := .int .i64 (i : Int)) (some 36) rfl rfl rfl (by kernel_rfl) (by kernel_rfl) (by kernel_rfl) (by kernel_rfl) (fun _ _ _ h => h) (Or.inl ⟨by rfl, fun u hu => by obtain ⟨b0, b1, b2, b3, b4, b5, b6⟩ := hu; go_simp⟩) (unhide HS0) ?_
      try simp only [Act.put, List.setIfInBounds_toArray, List.set_cons_zero, List.set_cons_succ]
      refine till_take 9 (v := .pointer (some (b.add (i * 7)))) (some 37) rfl rfl rfl (by kernel_rfl) (by kernel_rfl) (by kernel_rfl) (by kernel_rfl) (fun _ _ _ h => h) (Or.inl ⟨by rfl, fun u hu => by obtain ⟨b0, b1, b2, b3, b4, b5, b6⟩ := hu; go_simp⟩) (unhide HS0) ?_
      try simp only [Act.put, List.setIfInBounds_toArray, List.set_cons_zero, List.set_cons_succ]
      refine till_take 10 (v := .pointer (some ⟨(b.add (i * 7)).block, (b.add (i * 7)).off + 1, none⟩)) (some 38) rfl rfl rfl (by kernel_rfl) (by kernel_rfl) (by kernel_rfl) (by kernel_rfl) (fun _ _ _ h => h) (Or.inl ⟨by rfl, fun u hu => by obtain ⟨b0, b1, b2, b3, b4, b5, b6⟩ := hu; go_simp⟩) (unhide HS0) ?_
      try simp only [Act.put, List.setIfInBounds_toArray, List.set_cons_zero, List.set_cons_succ]
      refine till_take 11 (v := .bool gg) (some 39) rfl rfl rfl (by kernel_rfl) (by kernel_rfl) (by kernel_rfl) (by kernel_rfl) (fun _ _ _ h => h) (Or.inl ⟨by rfl, fun u hu => by obtain ⟨b0, b1, b2, b3, b4, b5, b6⟩ := hu; go_simp⟩) (unhide HS0) ?_
      try simp only [Act.put, List.setIfInBounds_toArray, List.set_cons_zero, List.set_cons_succ]
      refine till_take 12 (v := .slice (some b) m ck) (some 40) rfl rfl rfl (by kernel_rfl) (by kernel_rfl) (by kernel_rfl) (by kernel_rfl) (fun _ _ _ h => h) (Or.inl ⟨by rfl, fun u hu => by obtain ⟨b0, b1, b2, b3, b4, b5, b6⟩ := hu; go_simp⟩) (unhide HS0) ?_
      try simp only [Act.put, List.setIfInBounds_toArray, List.set_cons_zero, List.set_cons_succ]
      refine till_take 13 (v := .int .i64 (i : Int)) (some 41) rfl rfl rfl (by kernel_rfl) (by kernel_rfl) (by kernel_rfl) (by kernel_rfl) (fun _ _ _ h => h) (Or.inl ⟨by rfl, fun u hu => by obtain ⟨b0, b1, b2, b3, b4, b5, b6⟩ := hu; go_simp⟩) (unhide HS0) ?_
      try simp only [Act.put, List.setIfInBounds_toArray, List.set_cons_zero, List.set_cons_succ]
      refine till_take 14 (v := .pointer (some (b.add (i * 7)))) (some 42) rfl rfl rfl (by kernel_rfl) (by kernel_rfl) (by kernel_rfl) (by kernel_rfl) (fun _ _ _ h => h) (Or.inl ⟨by rfl, fun u hu => by obtain ⟨b0, b1, b2, b3, b4, b5, b6⟩ := hu; go_simp⟩) (unhide HS0) ?_
      try simp only [Act.put, List.setIfInBounds_toArray, List.set_cons_zero, List.set_cons_succ]
      refine till_take 15 (v := .pointer (some ⟨(b.add (i * 7)).block, (b.add (i * 7)).off + 2, none⟩)) (some 43) rfl rfl rfl (by kernel_rfl) (by kernel_rfl) (by kernel_rfl) (by kernel_rfl) (fun _ _ _ h => h) (Or.inl ⟨by rfl, fun u hu => by obtain ⟨b0, b1, b2, b3, b4, b5, b6⟩ := hu; go_simp⟩) (unhide HS0) ?_
      try simp only [Act.put, List.setIfInBounds_toArray, List.set_cons_zero, List.set_cons_succ]
      refine till_take 16 (v := .agg #[.int .i64 x0, .int .i64 x1, .string x2, .slice al' ll' cl', .slice ak' m' ck']) (some 44) rfl rfl rfl (by kernel_rfl) (by kernel_rfl) (by kernel_rfl) (by kernel_rfl) (fun _ _ _ h => h) (Or.inl ⟨by rfl, fun u hu => by obtain ⟨b0, b1, b2, b3, b4, b5, b6⟩ := hu; go_simp⟩) (unhide HS0) ?_
      try simp only [Act.put, List.setIfInBounds_toArray, List.set_cons_zero, List.set_cons_succ]
      refine till_one 17 (by kernel_rfl) rfl (fun K hK => ?_)
      go_simp
      refine (unhide CI).mono ?_
      rintro e u ⟨x', rfl, p2, b2⟩
      obtain ⟨k5, n5, s5, a5, a6, p5, q5, p6, q6, rfl⟩ := p2.shape
      have b6 : Below wr.heap.size wr u := below_drew_of' b2
      have hlm : be2 < wr.heap.size := (unhide HR).row.lt
      have HS5 : Hid (u.cell? (b.add (i * 7)) = some (.string ky) ∧ u.cell? ⟨(b.add (i * 7)).block, (b.add (i * 7)).off + 1, none⟩ = some (.bool gg) ∧ u.cell? ⟨(b.add (i * 7)).block, (b.add (i * 7)).off + 2, none⟩ = some (.int .i64 x0) ∧ u.cell? ⟨(b.add (i * 7)).block, (b.add (i * 7)).off + 3, none⟩ = some (.int .i64 x1) ∧ u.cell? ⟨(b.add (i * 7)).block, (b.add (i * 7)).off + 4, none⟩ = some (.string x2) ∧ u.cell? ⟨(b.add (i * 7)).block, (b.add (i * 7)).off + 5, none⟩ = some ((.slice al' ll' cl')) ∧ u.cell? ⟨(b.add (i * 7)).block, (b.add (i * 7)).off + 6, none⟩ = some ((.slice ak' m' ck'))) := hide ⟨cell_later b6 ((unhide HCE).1), cell_later b6 ((unhide HCE).2.1), cell_later b6 ((unhide HCE).2.2.1), cell_later b6 ((unhide HCE).2.2.2.1), cell_later b6 ((unhide HCE).2.2.2.2.1), cell_later b6 ((unhide HCE).2.2.2.2.2.1), cell_later b6 ((unhide HCE).2.2.2.2.2.2)⟩
      have HU : Hid (RowK u be2 36 7 R ∧ LentOk u wr.heap.size u.heap.size yv (.agg #[.int .i64 x0, .int .i64 x1, .string x2, .slice al' ll' cl', .slice ak' m' ck']) (.agg #[.int .i64 k5, .int .i64 n5, .string s5, .slice a5 p5 q5, .slice a6 p6 q6]) ∧ Below wr.heap.size wr u) := hide ⟨(unhide HR).row.later b6, p2, b6⟩
      clear p2 b2 b6 CI
      go_wp2_with fail
      refine hK.out _ _ (Or.inr (unhide HS5)) ?_
      clear hK K HS0
      try simp only [Act.put, List.setIfInBounds_toArray, List.set_cons_zero, List.set_cons_succ]
      refine till_one 18 (by kernel_rfl) rfl (fun K hK => ?_)
      go_simp
      refine hK.out _ _ (Or.inr (unhide HS5)) ?_
      clear hK K
      try simp only [Act.put, List.setIfInBounds_toArray, List.set_cons_zero, List.set_cons_succ]
      refine till_one 19 (by kernel_rfl) rfl (fun K hK => ?_)
      go_simp
      refine hK.out _ _ (Or.inr (unhide HS5)) ?_
      clear hK K
      try simp only [Act.put, List.setIfInBounds_toArray, List.set_cons_zero, List.set_cons_succ]
      refine till_one 20 (by kernel_rfl) rfl (fun K hK => ?_)
      have y0 : u.cell? ⟨be2, i * 7, none⟩ = some z0 := (unhide HU).1.cell i _ hrr 0 _ rfl
      have y1 : u.cell? ⟨be2, i * 7 + 1, none⟩ = some z1 := (unhide HU).1.cell i _ hrr 1 _ rfl
      have y2 : u.cell? ⟨be2, i * 7 + 2, none⟩ = some z2 := (unhide HU).1.cell i _ hrr 2 _ rfl
      have y3 : u.cell? ⟨be2, i * 7 + 3, none⟩ = some z3 := (unhide HU).1.cell i _ hrr 3 _ rfl
      have y4 : u.cell? ⟨be2, i * 7 + 4, none⟩ = some z4 := (unhide HU).1.cell i _ hrr 4 _ rfl
      have y5 : u.cell? ⟨be2, i * 7 + 5, none⟩ = some z5 := (unhide HU).1.cell i _ hrr 5 _ rfl
      have y6 : u.cell? ⟨be2, i * 7 + 6, none⟩ = some z6 := (unhide HU).1.cell i _ hrr 6 _ rfl
      have f0 := (unhide HU).1.fro (i * 7)
      have f1 := (unhide HU).1.fro (i * 7 + 1)
      have f2 := (unhide HU).1.fro (i * 7 + 2)
      have f3 := (unhide HU).1.fro (i * 7 + 3)
      have f4 := (unhide HU).1.fro (i * 7 + 4)
      have f5 := (unhide HU).1.fro (i * 7 + 5)
      have f6 := (unhide HU).1.fro (i * 7 + 6)
      go_simp
      refine hK.out _ _ (Or.inl (by first | rfl | trivial)) ?_
      clear hK K y0 f0 y1 f1 y2 f2 y3 f3 y4 f4 y5 f5 y6 f6
      try simp only [Act.put, List.setIfInBounds_toArray, List.set_cons_zero, List.set_cons_succ]
      refine till_done (by kernel_rfl) ?_ _
      obtain ⟨wn, hwn⟩ : ∃ wn, sevSet u be2 i (.string ky) (.bool gg) (.int .i64 k5) (.int .i64 n5) (.string s5) (.slice a5 p5 q5) (.slice a6 p6 q6) = wn := ⟨_, rfl⟩
      have hwn' := hwn
      unfold sevSet at hwn'
      rw [hwn']
      obtain ⟨t1, t2, t3⟩ := sevSet_facts u be2 i (.string ky) (.bool gg) (.int .i64 k5) (.int .i64 n5) (.string s5) (.slice a5 p5 q5) (.slice a6 p6 q6)
      rw [hwn] at t1 t2 t3
      have HL1 : Hid (LC u2 wn be2 (i + 1) m cs V2 (R.set i [.string ky, .bool gg, .int .i64 k5, .int .i64 n5, .string s5, .slice a5 p5 q5, .slice a6 p6 q6])) := hide (by
        obtain ⟨v1, v2, v3⟩ := unhide HU
        refine (unhide HR).next hlt _ (fun c h1 h2 => (t1 c (by omega)).trans (v3.block c (by omega))) (by have := v3.size; omega) ((unhide HR).below.trans ((v3.mono (by omega)).trans t3)) ?_ (fun y' hy' => ?_)
        · rw [← hwn]
          exact v1.set7 i (by rw [(unhide HR).rl]; exact hlt) _ _ _ _ _ _ _
        · obtain ⟨hy, hVi⟩ := unhide HY
          rw [hy] at hy'
          cases hy'
          refine ⟨_, rfl, ?_⟩
          rw [hVi]
          exact (v2.to (fun b hb1 hb2 => t1 b (by omega))).wide (by omega) (by omega))
      clear hwn hwn' t1 t2 t3 HCE HS5 HU
      go_wp2_with fail
      go_roundw
      case rel => exact ⟨i + 1, _, by go_num, HI1, HL1⟩
      case measure => have := unhide HI1; simp [intOf]; omega
    · have i1 : ¬ (i : Int) < (m : Int) := by omega
      obtain rfl : i = m := by have := unhide HI; omega
      have HL2 : Hid (LentC wr be2 wr.heap.size cs V2 be2 R) := hide ((unhide HR).done (unhide HN).2.1)
      have D3 : Hid (Below w.heap.size w wr) := hide ((unhide D2).trans ((unhide HR).below.mono (by have := (unhide D2).size; have := unhide HB2; omega)))
      obtain ⟨u3, hu3⟩ : ∃ u3, wr = u3 := ⟨_, rfl⟩
      have HL13 : Hid (LentE u3 u1.heap.size u2.heap.size es V1 be1 R1 ∧ w.heap.size ≤ u1.heap.size ∧ u2.heap.size ≤ u3.heap.size) := hide (by
        rw [← hu3]
        have hb := (unhide HR).below
        rw [← unhide HB2] at hb
        exact ⟨(unhide HL1).1.to (fun b _ hb' => hb.block b hb') hb.size, (unhide HL1).2, hb.size⟩)
      rw [hu3] at HL2 D3
      rw [hu3]
      clear hu3 HR HL1 D2
      have hbe2 := (unhide HL2).b1.2
      have C3 := hide (unhide CD u3 (some ⟨be1, 0, none⟩) (some ⟨be2, 0, none⟩) (n + 2) i u3.heap.size
        (by have hi := (unhide HL13).1.isE (C := u3.heap.size) (unhide HE u3 (unhide D3)).2.2.1 (unhide HM).1 (unhide HL13).2.2 (Nat.le_trans (unhide HN).2.2 (unhide D3).size); rw [(unhide HN).1] at hi; exact hi)
        (by have hi := (unhide HL2).isH (C := u3.heap.size) (unhide HE u3 (unhide D3)).2.2.2 (unhide HM).2 (Nat.le_refl _) (Nat.le_trans (unhide HN).2.2 (unhide D3).size); rw [(unhide HN).2.1] at hi; exact hi) (Nat.le_refl _))
      clear CD
      go_wp2_with fail
      refine (unhide C3).mono ?_
      rintro e u4 ⟨sv1, xs1, rfl, o1, e1, d4⟩
      have D4 := hide ((unhide D3).trans (d4.mono (unhide D3).size))
      have HO1 := hide (And.intro o1 (And.intro e1 d4))
      have C4 := hide (unhide CR u4 (unhide D4))
      have hs1 : sv1.oneCell' = true := by rcases o1.row.2 with ⟨rfl, _⟩ | ⟨b, cap, cur, rfl, _⟩ <;> rfl
      clear d4 C3 o1 e1 CR
      go_wp2_with fail
      refine (unhide C4).mono ?_
      rintro e u5 ⟨sv2, xs2, rfl, o2, e2, d5⟩
      have D5 := hide ((unhide D4).trans (d5.mono (unhide D4).size))
      have HO5 : Hid (EnN u5 u3.heap.size sv1 xs1 ∧ xs1.map enOf = DL ∧ Below u3.heap.size u3 u5) := hide ⟨(unhide HO1).1.later d5, (unhide HO1).2.1, (unhide HO1).2.2.trans (d5.mono (unhide HO1).2.2.size)⟩
      have hl1 : xs1.length ≤ 1000 := by have hh := (unhide HLK).1; rw [← (unhide HO5).2.1, List.length_map] at hh; omega
      have hl2 : xs2.length ≤ 1000 := by have hh := (unhide HLK).1; rw [← e2, List.length_map] at hh; omega
      obtain ⟨y1, k1, hx1, hH1⟩ := (unhide HO5).1.isE (fun p hp => (unhide HLK).2 (enOf p) (by rw [← (unhide HO5).2.1]; exact List.mem_map_of_mem hp)) hl1
      obtain ⟨y2, k2, hx2, hH2⟩ := o2.isE (fun p hp => (unhide HLK).2 (enOf p) (by rw [← e2]; exact List.mem_map_of_mem hp)) hl2
      have hd1 : xs1.length = DL.length := by rw [← (unhide HO5).2.1, List.length_map]
      have hd2 : xs2.length = DL.length := by rw [← e2, List.length_map]
      rw [(unhide HO5).2.1] at hH1
      rw [e2] at hH2
      rw [hd1] at hx1
      rw [hd2] at hx2
      obtain ⟨dl, hdl⟩ : ∃ dl, DL.length = dl := ⟨_, rfl⟩
      rw [hdl] at hx1 hx2 hd1
      subst hx1 hx2
      have C5 := hide (entries_same DL y1 y2 dl k1 k2 u5 hdl hH1 hH2)
      clear d5 C4 o2 e2 HO1 hl1 hl2 hH1 hH2 hd1 hd2 hs1 hdl
      go_wp2_with fail
      refine (unhide C5).mono ?_
      rintro e u6 ⟨rfl, d6⟩
      have HO6 : Hid (EnN u6 u3.heap.size (.slice y1 dl k1) xs1 ∧ Below u3.heap.size u3 u6) := hide ⟨(unhide HO5).1.later d6, (unhide HO5).2.2.trans (d6.mono (unhide HO5).2.2.size)⟩
      have C6 := hide (spoilS_any (fun b => u3.heap.size ≤ b ∧ b < u6.heap.size) u6 y1 dl k1 (unhide HO6).1.own (fun b hb => hb.2))
      clear d6 C5
      go_wp2_with fail
      refine (unhide C6).mono ?_
      rintro e u7 ⟨rfl, hSp⟩
      have H7 : Hid ((∀ b, b < u3.heap.size → u7.heap[b]? = u3.heap[b]?) ∧ u3.heap.size ≤ u7.heap.size ∧ Below w.heap.size w u7) := hide (by
        have hbl : ∀ b, b < u3.heap.size → u7.heap[b]? = u3.heap[b]? := fun b hb => (hSp.block b (Nat.lt_of_lt_of_le hb (unhide HO6).2.size) (fun e => by have := e.1; omega)).trans ((unhide HO6).2.block b hb)
        refine ⟨hbl, Nat.le_trans (unhide HO6).2.size hSp.size, ?_⟩
        have h6 := (unhide D3).trans ((unhide HO6).2.mono (unhide D3).size)
        exact ⟨hSp.os.trans h6.os, hSp.tape.trans h6.tape, hSp.output.trans h6.output, Nat.le_trans h6.size hSp.size, fun b hl => (hbl b (Nat.lt_of_lt_of_le hl (unhide D3).size)).trans ((unhide D3).block b hl)⟩)
      have HC7 : Hid (LentC u7 be2 u3.heap.size cs V2 be2 R) := hide ((unhide HL2).to (fun b _ hb => (unhide H7).1 b hb) (unhide H7).2.1)
      have HE7 : Hid (LentE u7 u1.heap.size u2.heap.size es V1 be1 R1) := hide ((unhide HL13).1.to (fun b _ hb => (unhide H7).1 b (Nat.lt_of_lt_of_le hb (unhide HL13).2.2)) (Nat.le_trans (unhide HL13).2.2 (unhide H7).2.1))
      have D7 : Hid (Below w.heap.size w u7) := hide (unhide H7).2.2
      clear hSp C6 H7 HO6 HL2 HL13 HO5 D3 D4 D5
      go_wp2_with fail
      go_loopw [14] (fun x wv => ∃ (j : Nat), x = .int .i64 (j : Int) ∧ Hid (j ≤ i) ∧ Hid (Below u7.heap.size u7 wv)) (fun x _ => i - (intOf x).toNat)
      case atStart => exact ⟨0, rfl, hide (by omega), hide (Below.refl _ _)⟩
      case round =>
        clear i1
        obtain ⟨j, rfl, HJ, HW⟩ := hrel
        by_cases hlt2 : j < i
        · have i1 : (j : Int) < (i : Int) := by omega
          have HJ1 : Hid (j + 1 ≤ i) := hide (by omega)
          have hDr := (unhide D7).trans ((unhide HW).mono (unhide D7).size)
          obtain ⟨⟨ky, gg, yv⟩, hy⟩ : ∃ y, cs[j]? = some y := ⟨_, List.getElem?_eq_getElem (by have := (unhide HN).2.1; omega)⟩
          obtain ⟨b, x0, x1, x2, al', ak', ll', m', cl', ck', rfl, hbb, hVi, hce, hve⟩ := (unhide HE wr hDr).2.2.2 j _ hy
          have hLr := (unhide HC7).later (unhide HW)
          obtain ⟨r, hr, hk⟩ := hLr.el j _ hy
          rw [hVi] at hce hve hk
          dsimp only at hce hve hk hr
          obtain ⟨k5, n5, s5, a5, a6, p5, q5, p6, q6, hrv⟩ := hk.shape
          have hre : r = [.int .i64 k5, .int .i64 n5, .string s5, .slice a5 p5 q5, .slice a6 p6 q6] := by
            have h1 := Value.agg.inj hrv
            have h2 := congrArg Array.toList h1
            simpa using h2
          subst hre
          have hic := fun q v hv => hLr.rc.cell j _ hr q v hv
          have CS := hide (still_both yv _ _ be2 u3.heap.size B wr.drew (by
            have := hk.to (u1 := wr.drew) (fun b _ _ => rfl)
            exact this) (hve.mono ((Below.refl _ _).drew)) (Nat.le_trans (unhide HN).2.2 hDr.size) hLr.top)
          obtain ⟨e0, e1, e2, e3, e4, e5, e6⟩ : wr.cell? (b.add (j * 7)) = some (.string ky) ∧ wr.cell? ⟨(b.add (j * 7)).block, (b.add (j * 7)).off + 1, none⟩ = some (.bool gg) ∧ wr.cell? ⟨(b.add (j * 7)).block, (b.add (j * 7)).off + 2, none⟩ = some (.int .i64 x0) ∧ wr.cell? ⟨(b.add (j * 7)).block, (b.add (j * 7)).off + 3, none⟩ = some (.int .i64 x1) ∧ wr.cell? ⟨(b.add (j * 7)).block, (b.add (j * 7)).off + 4, none⟩ = some (.string x2) ∧ wr.cell? ⟨(b.add (j * 7)).block, (b.add (j * 7)).off + 5, none⟩ = some ((.slice al' ll' cl')) ∧ wr.cell? ⟨(b.add (j * 7)).block, (b.add (j * 7)).off + 6, none⟩ = some ((.slice ak' m' ck')) := ⟨hce 0 _ rfl, hce 1 _ rfl, hce 2 _ rfl, hce 3 _ rfl, hce 4 _ rfl, hce 5 _ rfl, hce 6 _ rfl⟩
          obtain ⟨f0, f1, f2, f3, f4, f5, f6⟩ : wr.cell? ⟨be2, j * 7, none⟩ = some (.string ky) ∧ wr.cell? ⟨be2, j * 7 + 1, none⟩ = some (.bool gg) ∧ wr.cell? ⟨be2, j * 7 + 2, none⟩ = some (.int .i64 k5) ∧ wr.cell? ⟨be2, j * 7 + 3, none⟩ = some (.int .i64 n5) ∧ wr.cell? ⟨be2, j * 7 + 4, none⟩ = some (.string s5) ∧ wr.cell? ⟨be2, j * 7 + 5, none⟩ = some (.slice a5 p5 q5) ∧ wr.cell? ⟨be2, j * 7 + 6, none⟩ = some (.slice a6 p6 q6) := ⟨hic 0 _ rfl, hic 1 _ rfl, hic 2 _ rfl, hic 3 _ rfl, hic 4 _ rfl, hic 5 _ rfl, hic 6 _ rfl⟩
          have k6 : (!(ky.toList == ky.toList)) = false := by simp
          have k7 : (gg != gg) = false := by simp
          have hbe3 : be2 < wr.heap.size := hLr.rc.lt
          clear hce hve hk hr hy hVi hrv hic hLr hDr hbb
          go_upto_region 15 with fail
          go_cut [15] from 65 to 109 (fun z wx => z = .bool true ∧ Hid (Below wr.heap.size wr wx))
          case first =>
            go_region_held3 (fun w' => w'.cell? ⟨(b.add (j * 7)).block, (b.add (j * 7)).off + 2, none⟩ = some (.int .i64 x0) ∧ w'.cell? ⟨(b.add (j * 7)).block, (b.add (j * 7)).off + 3, none⟩ = some (.int .i64 x1) ∧ w'.cell? ⟨(b.add (j * 7)).block, (b.add (j * 7)).off + 4, none⟩ = some (.string x2) ∧ w'.cell? ⟨(b.add (j * 7)).block, (b.add (j * 7)).off + 5, none⟩ = some ((.slice al' ll' cl')) ∧ w'.cell? ⟨(b.add (j * 7)).block, (b.add (j * 7)).off + 6, none⟩ = some ((.slice ak' m' ck')) ∧ w'.cell? ⟨be2, j * 7 + 2, none⟩ = some (.int .i64 k5) ∧ w'.cell? ⟨be2, j * 7 + 3, none⟩ = some (.int .i64 n5) ∧ w'.cell? ⟨be2, j * 7 + 4, none⟩ = some (.string s5) ∧ w'.cell? ⟨be2, j * 7 + 5, none⟩ = some (.slice a5 p5 q5) ∧ w'.cell? ⟨be2, j * 7 + 6, none⟩ = some (.slice a6 p6 q6))
              (first | go_keep | (have hb6 := below_drew_of' b5; exact ⟨cell_later hb6 e2, cell_later hb6 e3, cell_later hb6 e4, cell_later hb6 e5, cell_later hb6 e6, cell_later hb6 f2, cell_later hb6 f3, cell_later hb6 f4, cell_later hb6 f5, cell_later hb6 f6⟩))
              (first | (go_at_call 18; refine (unhide CS).mono ?_; rintro e w5 ⟨rfl, b5⟩))
            have HX5 : Hid (Below wr.heap.size wr w5) := hide (below_drew_of' b5)
            clear b5 CS
            go_wp2_with fail
            go_meet
            exact ⟨rfl, HX5⟩
          case rest =>
            obtain ⟨rfl, HX5⟩ := hcut
            obtain ⟨u9, hu9⟩ : ∃ u9, wc = u9 := ⟨_, rfl⟩
            rw [hu9] at HX5 ⊢
            clear hu9
            have HW9 : Hid (Below u7.heap.size u7 u9) := hide ((unhide HW).trans ((unhide HX5).mono (unhide HW).size))
            have g0 := cell_later (unhide HX5) e0
            have g1 := cell_later (unhide HX5) e1
            have g2 := cell_later (unhide HX5) f0
            have g3 := cell_later (unhide HX5) f1
            clear e0 f0 e1 f1 e2 f2 e3 f3 e4 f4 e5 f5 e6 f6 CS
            go_upto_region 16 with fail
            go_quiet (fail)
            go_wp2_with fail
            go_roundw
            case rel => exact ⟨j + 1, by go_num, HJ1, hide (below_drewS (unhide HW9) _)⟩
            case measure => have := unhide HJ1; simp [intOf]; omega
        · have i1 : ¬ (j : Int) < (i : Int) := by omega
          have D8 : Hid (Below w.heap.size w wr) := hide ((unhide D7).trans ((unhide HW).mono (unhide D7).size))
          have C9 := hide (stillE_any es V1 al n cl B u1.heap.size u2.heap.size be1 R1 wr (unhide HN).1 (by have := unhide HBB; omega) (unhide HE wr (unhide D8)).2.2.1 (Nat.le_trans (unhide HN).2.2 (unhide D8).size) ((unhide HE7).later (unhide HW)))
          go_wp2_with fail
          refine (unhide C9).mono ?_
          rintro e u8 ⟨rfl, d8⟩
          have D9 := hide ((unhide D8).trans (d8.mono (unhide D8).size))
          clear d8 C9
          go_wp2_with fail
          go_ret
          exact ⟨by simp, unhide D9⟩
end Go.Proofs.Ytlmgiimgmjbkeaa
