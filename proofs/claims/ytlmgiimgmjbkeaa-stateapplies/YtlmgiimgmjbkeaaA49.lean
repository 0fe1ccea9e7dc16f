/-
  The walk of lent of entries (layer 7); conditions: the form's own reach.
  The walk of still of entries that were lent and are as they were (layer 7); conditions: the form's own reach.
-/
import Derived.Test.YtlmgiimgmjbkeaaA45
import Derived.Test.YtlmgiimgmjbkeaaA08
import Derived.BigQuiet
import Derived.Deep.QuietTactic
import Derived.Deep.RegionHeld3
set_option linter.unusedVariables false
set_option linter.unusedSimpArgs false
namespace Go.Proofs.Ytlmgiimgmjbkeaa
open Go.RowKit
set_option linter.unusedVariables false
set_option linter.unusedSimpArgs false

set_option maxRecDepth 100000 in
set_option maxHeartbeats 8000000 in
theorem lentE_any (es : List En) (V : Nat → List Value) (al : Option Addr) (n cl B : Nat) (w : World) (hn : es.length = n) (hV : CsE w B es al V) (hB : B ≤ w.heap.size) (hb1 : 96 * n ≤ 140737488351232) :
    Calls Try.prog 7 #[.slice al n cl] w fun e w' => ∃ (be : Nat), e = .returned (.slice (some ⟨be, 0, none⟩) n (n + 2)) ∧ (∃ R, LentE w' w.heap.size w'.heap.size es V be R) ∧ Below w.heap.size w w' := by
  obtain ⟨be, hbe⟩ : ∃ be, w.heap.size = be := ⟨_, rfl⟩
  have HV : Hid (∀ u, Below be w u → CsE u B es al V ∧ B ≤ u.heap.size) := hide (fun u hu => ⟨hV.later (hu.mono (by omega)), by have := hu.size; omega⟩)
  have HN := hide hn
  obtain ⟨iv, hiv, hz0, hz1, hz2⟩ := info_parts infoSE
  have e1 : IntKind.i64.wrap ((n : Int) + 2) = (n : Int) + 2 := by rw [IntKind.wrap_i64]; omega
  clear hV hB hn
  go_enter Try.func7, Try.ntmps7
  have tokA : True := trivial
  go_upto_region 2 with (first | (have _t := tokA; at_make; refine wpList_make_full _ rfl _ _ 22 rfl be 48 iv _ 6 Try.underlying22 hiv hz0 hz1 _ _ _ _ (n + 2) rfl rfl (by omega) (by omega) (by rw [hz2]; omega) (by unfold maxLen; omega) (by omega) ?_; intro w4 own4 gr4; rw [hbe] at own4 ⊢; clear tokA))
  obtain ⟨R0, hR0l, hR0k, hR0f⟩ := chunk 6 (n + 2) (madeCells (.agg #[.string ⟨#[]⟩, .int .i64 0, .int .i64 0, .string ⟨#[]⟩, .slice none 0 0, .slice none 0 0] : Value).cells ((n + 2) * 6)).toList (by rw [Array.length_toList, size_madeCells])
  have hall := own_all own4
  rw [← hR0f] at hall
  have HL0 : Hid (LE w w4 be 0 (n + 2) es V R0) := hide ⟨⟨hall, hR0k⟩, hR0l, fun j _ hj => by omega, fun j y _ hj => by omega, by
    have := (Below.refl w.heap.size w).grown gr4 (Nat.le_refl _) (by simp)
    rw [hbe] at this
    exact this⟩
  clear own4 gr4 hall hR0l hR0k hR0f
  go_wp2_with fail
  go_loopw [4] (fun x wr => ∃ (i : Nat) (R : List (List Value)), x = .int .i64 (i : Int) ∧ Hid (i ≤ n + 2) ∧ Hid (LE w wr be i (n + 2) es V R)) (fun x _ => n + 2 - (intOf x).toNat)
  case atStart => exact ⟨0, _, rfl, hide (by omega), HL0⟩
  case round =>
    clear HL0
    obtain ⟨i, R, rfl, HI, HR⟩ := hrel
    have hlr := (unhide HR).row.lt
    by_cases hlt : i < n + 2
    · have i1 : (i : Int) < (n : Int) + 2 := by omega
      have HI1 : Hid (i + 1 ≤ n + 2) := hide (by omega)
      obtain ⟨rr, hrr⟩ : ∃ rr, R[i]? = some rr := ⟨_, List.getElem?_eq_getElem (by rw [(unhide HR).rl]; exact hlt)⟩
      match rr, (unhide HR).row.len rr (List.mem_of_getElem? hrr), hrr with
      | [z0, z1, z2', z3, z4, z5], _, hrr =>
      have y0 : wr.cell? ⟨be, i * 6, none⟩ = some z0 := (unhide HR).row.cell i _ hrr 0 _ rfl
      have y1 : wr.cell? ⟨be, i * 6 + 1, none⟩ = some z1 := (unhide HR).row.cell i _ hrr 1 _ rfl
      have y2 : wr.cell? ⟨be, i * 6 + 2, none⟩ = some z2' := (unhide HR).row.cell i _ hrr 2 _ rfl
      have y3 : wr.cell? ⟨be, i * 6 + 3, none⟩ = some z3 := (unhide HR).row.cell i _ hrr 3 _ rfl
      have y4 : wr.cell? ⟨be, i * 6 + 4, none⟩ = some z4 := (unhide HR).row.cell i _ hrr 4 _ rfl
      have y5 : wr.cell? ⟨be, i * 6 + 5, none⟩ = some z5 := (unhide HR).row.cell i _ hrr 5 _ rfl
      have f0 := (unhide HR).row.fro (i * 6)
      have f1 := (unhide HR).row.fro (i * 6 + 1)
      have f2 := (unhide HR).row.fro (i * 6 + 2)
      have f3 := (unhide HR).row.fro (i * 6 + 3)
      have f4 := (unhide HR).row.fro (i * 6 + 4)
      have f5 := (unhide HR).row.fro (i * 6 + 5)
      go_upto_region 6 with fail
      obtain ⟨wm, hwm⟩ : ∃ wm, sixSetE wr be i (.string ⟨#[109, 97, 114, 107]⟩) (.int .i64 0) (.int .i64 0) (.string ⟨#[]⟩) (.slice none 0 0) (.slice none 0 0) = wm := ⟨_, rfl⟩
      have hwm' := hwm
      unfold sixSetE at hwm'
      rw [hwm']
      obtain ⟨q1, q2, q3⟩ := sixSetE_facts wr be i (.string ⟨#[109, 97, 114, 107]⟩) (.int .i64 0) (.int .i64 0) (.string ⟨#[]⟩) (.slice none 0 0) (.slice none 0 0)
      rw [hwm] at q1 q2 q3
      have HK : Hid (RowK wm be 48 6 (R.set i markE) ∧ Below be wr wm ∧ wm.heap.size = wr.heap.size ∧ ∀ c, c ≠ be → wm.heap[c]? = wr.heap[c]?) := hide ⟨by
        rw [← hwm]
        exact (unhide HR).row.set6 i (by rw [(unhide HR).rl]; exact hlt) _ _ _ _ _ _, q3, q2, q1⟩
      have HBM : Hid (Below be w wm) := hide ((unhide HR).below.trans q3)
      clear y0 y1 y2 y3 y4 y5 f0 f1 f2 f3 f4 f5 hrr hwm hwm' q1 q2 q3
      by_cases hil : i < n
      · have j1 : (i : Int) < (n : Int) := by omega
        obtain ⟨⟨ky, yv⟩, hy⟩ : ∃ y, es[i]? = some y := ⟨_, List.getElem?_eq_getElem (by have := unhide HN; omega)⟩
        obtain ⟨hC, hBm⟩ := unhide HV wm (unhide HBM)
        obtain ⟨a, x0, x1, x2, al', ak', ll', m', cl', ck', rfl, hab, hVi, hce, hve⟩ := hC i (ky, yv) hy
        rw [hVi] at hce hve
        dsimp only at hce hve
        have CI := hide (lent_both yv _ B wm.drew (hve.mono ((Below.refl _ _).drew)) hBm)
        have HY := hide (And.intro hy hVi)
        have HCE : Hid (wm.drew.cell? (a.add (i * 6)) = some (.string ky) ∧ wm.drew.cell? ⟨(a.add (i * 6)).block, (a.add (i * 6)).off + 1, none⟩ = some (.int .i64 x0) ∧ wm.drew.cell? ⟨(a.add (i * 6)).block, (a.add (i * 6)).off + 2, none⟩ = some (.int .i64 x1) ∧ wm.drew.cell? ⟨(a.add (i * 6)).block, (a.add (i * 6)).off + 3, none⟩ = some (.string x2) ∧ wm.drew.cell? ⟨(a.add (i * 6)).block, (a.add (i * 6)).off + 4, none⟩ = some ((.slice al' ll' cl')) ∧ wm.drew.cell? ⟨(a.add (i * 6)).block, (a.add (i * 6)).off + 5, none⟩ = some ((.slice ak' m' ck'))) := hide ⟨hce 0 _ rfl, hce 1 _ rfl, hce 2 _ rfl, hce 3 _ rfl, hce 4 _ rfl, hce 5 _ rfl⟩
        have s1 : (n : Int) ≤ (n : Int) + 2 := by omega
        clear hce hve hy hVi hC hBm
        go_upto_region 7 with fail
        refine till_begin (S := fun w' => w'.cell? (a.add (i * 6)) = some (.string ky) ∧ w'.cell? ⟨(a.add (i * 6)).block, (a.add (i * 6)).off + 1, none⟩ = some (.int .i64 x0) ∧ w'.cell? ⟨(a.add (i * 6)).block, (a.add (i * 6)).off + 2, none⟩ = some (.int .i64 x1) ∧ w'.cell? ⟨(a.add (i * 6)).block, (a.add (i * 6)).off + 3, none⟩ = some (.string x2) ∧ w'.cell? ⟨(a.add (i * 6)).block, (a.add (i * 6)).off + 4, none⟩ = some ((.slice al' ll' cl')) ∧ w'.cell? ⟨(a.add (i * 6)).block, (a.add (i * 6)).off + 5, none⟩ = some ((.slice ak' m' ck'))) 15 (by kernel_rfl) ?_
        refine till_take 0 (v := .slice (some ⟨be, 0, none⟩) (n + 2) (n + 2)) (some 23) rfl rfl rfl (by kernel_rfl) (by kernel_rfl) (by kernel_rfl) (by kernel_rfl) (fun _ _ _ h => h) (Or.inl ⟨by rfl, fun u hu => by obtain ⟨g0, g1, g2, g3, g4, g5⟩ := hu; go_simp⟩) (unhide HCE) ?_
        try simp only [Act.put, List.setIfInBounds_toArray, List.set_cons_zero, List.set_cons_succ]
        refine till_take 1 (v := .int .i64 (i : Int)) (some 24) rfl rfl rfl (by kernel_rfl) (by kernel_rfl) (by kernel_rfl) (by kernel_rfl) (fun _ _ _ h => h) (Or.inl ⟨by rfl, fun u hu => by obtain ⟨g0, g1, g2, g3, g4, g5⟩ := hu; go_simp⟩) (unhide HCE) ?_
        try simp only [Act.put, List.setIfInBounds_toArray, List.set_cons_zero, List.set_cons_succ]
        refine till_take 2 (v := .slice (some a) n cl) (some 25) rfl rfl rfl (by kernel_rfl) (by kernel_rfl) (by kernel_rfl) (by kernel_rfl) (fun _ _ _ h => h) (Or.inl ⟨by rfl, fun u hu => by obtain ⟨g0, g1, g2, g3, g4, g5⟩ := hu; go_simp⟩) (unhide HCE) ?_
        try simp only [Act.put, List.setIfInBounds_toArray, List.set_cons_zero, List.set_cons_succ]
        refine till_take 3 (v := .int .i64 (i : Int)) (some 26) rfl rfl rfl (by kernel_rfl) (by kernel_rfl) (by kernel_rfl) (by kernel_rfl) (fun _ _ _ h => h) (Or.inl ⟨by rfl, fun u hu => by obtain ⟨g0, g1, g2, g3, g4, g5⟩ := hu; go_simp⟩) (unhide HCE) ?_
        try simp only [Act.put, List.setIfInBounds_toArray, List.set_cons_zero, List.set_cons_succ]
        refine till_take 4 (v := .pointer (some (a.add (i * 6)))) (some 27) rfl rfl rfl (by kernel_rfl) (by kernel_rfl) (by kernel_rfl) (by kernel_rfl) (fun _ _ _ h => h) (Or.inl ⟨by rfl, fun u hu => by obtain ⟨g0, g1, g2, g3, g4, g5⟩ := hu; go_simp⟩) (unhide HCE) ?_
        try simp only [Act.put, List.setIfInBounds_toArray, List.set_cons_zero, List.set_cons_succ]
        refine till_take 5 (v := .pointer (some (a.add (i * 6)))) (some 28) rfl rfl rfl (by kernel_rfl) (by kernel_rfl) (by kernel_rfl) (by kernel_rfl) (fun _ _ _ h => h) (Or.inl ⟨by rfl, fun u hu => by obtain ⟨g0, g1, g2, g3, g4, g5⟩ := hu; go_simp⟩) (unhide HCE) ?_
        try simp only [Act.put, List.setIfInBounds_toArray, List.set_cons_zero, List.set_cons_succ]
        refine till_take 6 (v := .string ky) (some 29) rfl rfl rfl (by kernel_rfl) (by kernel_rfl) (by kernel_rfl) (by kernel_rfl) (fun _ _ _ h => h) (Or.inl ⟨by rfl, fun u hu => by obtain ⟨g0, g1, g2, g3, g4, g5⟩ := hu; go_simp⟩) (unhide HCE) ?_
        try simp only [Act.put, List.setIfInBounds_toArray, List.set_cons_zero, List.set_cons_succ]
        refine till_take 7 (v := .slice (some a) n cl) (some 30) rfl rfl rfl (by kernel_rfl) (by kernel_rfl) (by kernel_rfl) (by kernel_rfl) (fun _ _ _ h => h) (Or.inl ⟨by rfl, fun u hu => by obtain ⟨g0, g1, g2, g3, g4, g5⟩ := hu; go_simp⟩) (unhide HCE) ?_
        try simp only [Act.put, List.setIfInBounds_toArray, List.set_cons_zero, List.set_cons_succ]
        refine till_take 8 (v := .int .i64 (i : Int)) (some 31) rfl rfl rfl (by kernel_rfl) (by kernel_rfl) (by kernel_rfl) (by kernel_rfl) (fun _ _ _ h => h) (Or.inl ⟨by rfl, fun u hu => by obtain ⟨g0, g1, g2, g3, g4, g5⟩ := hu; go_simp⟩) (unhide HCE) ?_
        try simp only [Act.put, List.setIfInBounds_toArray, List.set_cons_zero, List.set_cons_succ]
        refine till_take 9 (v := .pointer (some (a.add (i * 6)))) (some 32) rfl rfl rfl (by kernel_rfl) (by kernel_rfl) (by kernel_rfl) (by kernel_rfl) (fun _ _ _ h => h) (Or.inl ⟨by rfl, fun u hu => by obtain ⟨g0, g1, g2, g3, g4, g5⟩ := hu; go_simp⟩) (unhide HCE) ?_
        try simp only [Act.put, List.setIfInBounds_toArray, List.set_cons_zero, List.set_cons_succ]
        refine till_take 10 (v := .pointer (some ⟨(a.add (i * 6)).block, (a.add (i * 6)).off + 1, none⟩)) (some 33) rfl rfl rfl (by kernel_rfl) (by kernel_rfl) (by kernel_rfl) (by kernel_rfl) (fun _ _ _ h => h) (Or.inl ⟨by rfl, fun u hu => by obtain ⟨g0, g1, g2, g3, g4, g5⟩ := hu; go_simp⟩) (unhide HCE) ?_
        try simp only [Act.put, List.setIfInBounds_toArray, List.set_cons_zero, List.set_cons_succ]
        refine till_take 11 (v := .agg #[.int .i64 x0, .int .i64 x1, .string x2, .slice al' ll' cl', .slice ak' m' ck']) (some 34) rfl rfl rfl (by kernel_rfl) (by kernel_rfl) (by kernel_rfl) (by kernel_rfl) (fun _ _ _ h => h) (Or.inl ⟨by rfl, fun u hu => by obtain ⟨g0, g1, g2, g3, g4, g5⟩ := hu; go_simp⟩) (unhide HCE) ?_
        try simp only [Act.put, List.setIfInBounds_toArray, List.set_cons_zero, List.set_cons_succ]
        refine till_one 12 (by kernel_rfl) rfl (fun K hK => ?_)
        go_simp
        refine (unhide CI).mono ?_
        rintro e u ⟨x', rfl, p2, b2⟩
        obtain ⟨k5, n5, s5, a5, a6, p5, q5, p6, q6, rfl⟩ := p2.shape
        have b6 : Below wm.heap.size wm u := below_drew_of' b2
        have hlm : be < wm.heap.size := (unhide HK).1.lt
        have HS5 : Hid (u.cell? (a.add (i * 6)) = some (.string ky) ∧ u.cell? ⟨(a.add (i * 6)).block, (a.add (i * 6)).off + 1, none⟩ = some (.int .i64 x0) ∧ u.cell? ⟨(a.add (i * 6)).block, (a.add (i * 6)).off + 2, none⟩ = some (.int .i64 x1) ∧ u.cell? ⟨(a.add (i * 6)).block, (a.add (i * 6)).off + 3, none⟩ = some (.string x2) ∧ u.cell? ⟨(a.add (i * 6)).block, (a.add (i * 6)).off + 4, none⟩ = some ((.slice al' ll' cl')) ∧ u.cell? ⟨(a.add (i * 6)).block, (a.add (i * 6)).off + 5, none⟩ = some ((.slice ak' m' ck'))) := hide ⟨cell_later b6 (unhide HCE).1, cell_later b6 (unhide HCE).2.1, cell_later b6 (unhide HCE).2.2.1, cell_later b6 (unhide HCE).2.2.2.1, cell_later b6 (unhide HCE).2.2.2.2.1, cell_later b6 (unhide HCE).2.2.2.2.2⟩
        have HU : Hid (RowK u be 48 6 (R.set i markE) ∧ LentOk u wm.heap.size u.heap.size yv (.agg #[.int .i64 x0, .int .i64 x1, .string x2, .slice al' ll' cl', .slice ak' m' ck']) (.agg #[.int .i64 k5, .int .i64 n5, .string s5, .slice a5 p5 q5, .slice a6 p6 q6]) ∧ Below wm.heap.size wm u) := hide ⟨(unhide HK).1.later b6, p2, b6⟩
        clear p2 b2 b6 CI
        go_wp2_with fail
        refine hK.out _ _ (Or.inr (unhide HS5)) ?_
        clear hK K
        try simp only [Act.put, List.setIfInBounds_toArray, List.set_cons_zero, List.set_cons_succ]
        refine till_one 13 (by kernel_rfl) rfl (fun K hK => ?_)
        go_simp
        refine hK.out _ _ (Or.inr (unhide HS5)) ?_
        clear hK K
        try simp only [Act.put, List.setIfInBounds_toArray, List.set_cons_zero, List.set_cons_succ]
        refine till_one 14 (by kernel_rfl) rfl (fun K hK => ?_)
        go_simp
        refine hK.out _ _ (Or.inr (unhide HS5)) ?_
        clear hK K
        try simp only [Act.put, List.setIfInBounds_toArray, List.set_cons_zero, List.set_cons_succ]
        refine till_one 15 (by kernel_rfl) rfl (fun K hK => ?_)
        have hrs : (R.set i markE)[i]? = some [.string ⟨#[109, 97, 114, 107]⟩, .int .i64 0, .int .i64 0, .string ⟨#[]⟩, .slice none 0 0, .slice none 0 0] := List.getElem?_set_self (by rw [(unhide HR).rl]; exact hlt)
        have y0 : u.cell? ⟨be, i * 6, none⟩ = some (.string ⟨#[109, 97, 114, 107]⟩) := (unhide HU).1.cell i _ hrs 0 _ rfl
        have y1 : u.cell? ⟨be, i * 6 + 1, none⟩ = some (.int .i64 0) := (unhide HU).1.cell i _ hrs 1 _ rfl
        have y2 : u.cell? ⟨be, i * 6 + 2, none⟩ = some (.int .i64 0) := (unhide HU).1.cell i _ hrs 2 _ rfl
        have y3 : u.cell? ⟨be, i * 6 + 3, none⟩ = some (.string ⟨#[]⟩) := (unhide HU).1.cell i _ hrs 3 _ rfl
        have y4 : u.cell? ⟨be, i * 6 + 4, none⟩ = some (.slice none 0 0) := (unhide HU).1.cell i _ hrs 4 _ rfl
        have y5 : u.cell? ⟨be, i * 6 + 5, none⟩ = some (.slice none 0 0) := (unhide HU).1.cell i _ hrs 5 _ rfl
        have f0 := (unhide HU).1.fro (i * 6)
        have f1 := (unhide HU).1.fro (i * 6 + 1)
        have f2 := (unhide HU).1.fro (i * 6 + 2)
        have f3 := (unhide HU).1.fro (i * 6 + 3)
        have f4 := (unhide HU).1.fro (i * 6 + 4)
        have f5 := (unhide HU).1.fro (i * 6 + 5)
        clear hrs
        go_simp
        refine hK.out _ _ (Or.inl rfl) ?_
        clear hK K y0 y1 y2 y3 y4 y5 f0 f1 f2 f3 f4 f5
        try simp only [Act.put, List.setIfInBounds_toArray, List.set_cons_zero, List.set_cons_succ]
        refine till_done (by kernel_rfl) ?_ _
        obtain ⟨wn, hwn⟩ : ∃ wn, sixSetE u be i (.string ky) (.int .i64 k5) (.int .i64 n5) (.string s5) (.slice a5 p5 q5) (.slice a6 p6 q6) = wn := ⟨_, rfl⟩
        have hwn' := hwn
        unfold sixSetE at hwn'
        rw [hwn']
        obtain ⟨t1, t2, t3⟩ := sixSetE_facts u be i (.string ky) (.int .i64 k5) (.int .i64 n5) (.string s5) (.slice a5 p5 q5) (.slice a6 p6 q6)
        rw [hwn] at t1 t2 t3
        have HL1 : Hid (LE w wn be (i + 1) (n + 2) es V (R.set i [.string ky, .int .i64 k5, .int .i64 n5, .string s5, .slice a5 p5 q5, .slice a6 p6 q6])) := hide (by
          obtain ⟨u1, u2, u3⟩ := unhide HU
          obtain ⟨k1, k2, k3, k4⟩ := unhide HK
          refine (unhide HR).next hlt _ (fun c h1 h2 => (t1 c (by omega)).trans ((u3.block c (by omega)).trans (k4 c (by omega)))) (by have := u3.size; omega) (((unhide HR).below.trans k2).trans ((u3.mono (by omega)).trans t3)) ?_ (fun h => by have := unhide HN; omega) (fun y' hy' => ?_)
          · rw [← hwn]
            have := u1.set6 i (by rw [List.length_set, (unhide HR).rl]; exact hlt) (.string ky) (.int .i64 k5) (.int .i64 n5) (.string s5) (.slice a5 p5 q5) (.slice a6 p6 q6)
            rw [set_set_same] at this
            exact this
          · obtain ⟨hy, hVi⟩ := unhide HY
            rw [hy] at hy'
            cases hy'
            refine ⟨_, rfl, ?_⟩
            rw [hVi]
            exact (u2.to (fun b hb1 hb2 => t1 b (by omega))).wide (by omega) (by omega))
        clear hwn hwn' t1 t2 t3
        go_wp2_with fail
        go_roundw
        case rel => exact ⟨i + 1, _, by go_num, HI1, HL1⟩
        case measure => have := unhide HI1; simp [intOf]; omega
      · have j1 : ¬ (i : Int) < (n : Int) := by omega
        have HL1 : Hid (LE w wm be (i + 1) (n + 2) es V (R.set i markE)) := hide (by
          obtain ⟨k1, k2, k3, k4⟩ := unhide HK
          exact (unhide HR).next hlt _ (fun c h1 h2 => k4 c (by omega)) (by omega) ((unhide HR).below.trans k2) k1 (fun _ => rfl) (fun y hy => by
            have := (List.getElem?_eq_some_iff.1 hy).1
            have := unhide HN
            omega))
        go_wp2_with fail
        go_roundw
        case rel => exact ⟨i + 1, _, by go_num, HI1, HL1⟩
        case measure => have := unhide HI1; simp [intOf]; omega
    · have hin : i = n + 2 := by have := unhide HI; omega
      subst hin
      have i1 : ¬ ((n + 2 : Nat) : Int) < (n : Int) + 2 := by omega
      have s1 : (n : Int) ≤ (n : Int) + 2 := by omega
      have s2 : n ≤ n + 2 := by omega
      have FIN : ∃ R', LentE wr be wr.heap.size es V be R' := by
        have hcl := unhide HN
        have hR2 := split2 R n markE markE (unhide HR).rl ((unhide HR).hm n (by omega) (by omega)) ((unhide HR).hm (n + 1) (by omega) (by omega))
        refine ⟨R.take n, ?_, by rw [List.length_take, (unhide HR).rl]; omega, fun j y hy => ?_, ⟨Nat.le_refl _, hlr⟩, Nat.le_refl _⟩
        · rw [← hR2]; exact (unhide HR).row
        · have hj : j < n := by have := (List.getElem?_eq_some_iff.1 hy).1; omega
          obtain ⟨r, h1, h2⟩ := (unhide HR).el j y hy (by omega)
          exact ⟨r, by rw [List.getElem?_take_of_lt hj]; exact h1, h2.wide (by omega) (Nat.le_refl _)⟩
      have HFIN := hide (And.intro FIN (unhide HR).below)
      clear FIN
      go_wp2_with fail
      go_ret
      obtain ⟨h1, h2⟩ := unhide HFIN
      exact ⟨be, rfl, by first | exact h1 | (rw [hbe]; exact h1), by first | exact h2 | (rw [hbe]; exact h2)⟩
end Go.Proofs.Ytlmgiimgmjbkeaa

namespace Go.Proofs.Ytlmgiimgmjbkeaa
open Go.RowKit
set_option linter.unusedVariables false
set_option linter.unusedSimpArgs false

theorem below_drewS {B : Nat} {w w' : World} (h : Below B w w') (q : Nat) : Below B w (w'.drewN q) := ⟨h.os, h.tape, h.output, h.size, h.block⟩

/-- what still sees -/
structure Sse (w u : World) (B lo hi : Nat) (es : List En) (V : Nat → List Value) (be : Nat) (R : List (List Value)) (al : Option Addr) : Prop where
  cs : CsE u B es al V
  low : B ≤ u.heap.size
  len : LentE u lo hi es V be R
  below : Below w.heap.size w u

theorem Sse.later {w u u' : World} {B lo hi : Nat} {es : List En} {V : Nat → List Value} {be : Nat} {R : List (List Value)} {al : Option Addr} (h : Sse w u B lo hi es V be R al) (hb : Below u.heap.size u u') : Sse w u' B lo hi es V be R al :=
  ⟨h.cs.later (hb.mono h.low), Nat.le_trans h.low hb.size, h.len.later hb, h.below.trans (hb.mono h.below.size)⟩

set_option maxRecDepth 100000 in
set_option maxHeartbeats 8000000 in
theorem stillE_any (es : List En) (V : Nat → List Value) (al : Option Addr) (n cl B lo hi be : Nat) (R : List (List Value)) (w : World) (hn : es.length = n) (hnb : n ≤ 140737488351232) (hV : CsE w B es al V) (hB : B ≤ w.heap.size) (hL : LentE w lo hi es V be R) :
    Calls Try.prog 12 #[.slice (some ⟨be, 0, none⟩) n (n + 2), .slice al n cl] w fun e w' => e = .returned (.bool true) ∧ Below w.heap.size w w' := by
  have HS0 : Hid (Sse w w B lo hi es V be R al) := hide ⟨hV, hB, hL, Below.refl _ _⟩
  have HN := hide hn
  have e1 : IntKind.i64.wrap ((n : Int) + 2) = (n : Int) + 2 := by rw [IntKind.wrap_i64]; omega
  clear hV hB hL hn
  go_enter Try.func12, Try.ntmps12
  go_wp2_with fail
  go_loopw [6] (fun x wr => ∃ (i : Nat), x = .int .i64 (i : Int) ∧ Hid (i ≤ n + 2) ∧ Hid (Sse w wr B lo hi es V be R al)) (fun x _ => n + 2 - (intOf x).toNat)
  case atStart => exact ⟨0, rfl, hide (by omega), HS0⟩
  case round =>
    clear HS0
    obtain ⟨i, rfl, HI, HS⟩ := hrel
    by_cases hlt : i < n + 2
    · have i1 : (i : Int) < (n : Int) + 2 := by omega
      have HI1 : Hid (i + 1 ≤ n + 2) := hide (by omega)
      by_cases hil : i < n
      · have j1 : (i : Int) < (n : Int) := by omega
        have j2 : ¬ (n : Int) ≤ (i : Int) := by omega
        obtain ⟨⟨ky, yv⟩, hy⟩ : ∃ y, es[i]? = some y := ⟨_, List.getElem?_eq_getElem (by have := unhide HN; omega)⟩
        obtain ⟨a, x0, x1, x2, al', ak', ll', m', cl', ck', rfl, hab, hVi, hce, hve⟩ := (unhide HS).cs i (ky, yv) hy
        obtain ⟨r, hr, hk⟩ := (unhide HS).len.el i (ky, yv) hy
        rw [hVi] at hce hve hk
        dsimp only at hce hve hk hr
        obtain ⟨k5, n5, s5, a5, a6, p5, q5, p6, q6, hrv⟩ := hk.shape
        have hre : r = [.int .i64 k5, .int .i64 n5, .string s5, .slice a5 p5 q5, .slice a6 p6 q6] := by
          have h1 := Value.agg.inj hrv
          have h2 := congrArg Array.toList h1
          simpa using h2
        subst hre
        have hRR : (R ++ [markE, markE])[i]? = some [.string ky, .int .i64 k5, .int .i64 n5, .string s5, .slice a5 p5 q5, .slice a6 p6 q6] := by rw [List.getElem?_append_left (List.getElem?_eq_some_iff.1 hr).1]; exact hr
        have hic := fun j v hv => (unhide HS).len.rc.cell i _ hRR j v hv
        have CS := hide (still_both yv _ _ lo hi B wr.drew (by
          have := hk.to (u1 := wr.drew) (fun b _ _ => rfl)
          exact this) (hve.mono ((Below.refl _ _).drew)) (unhide HS).low (unhide HS).len.top)
        obtain ⟨e0, e1', e2, e3, e4, e5⟩ : wr.cell? (a.add (i * 6)) = some (.string ky) ∧ wr.cell? ⟨(a.add (i * 6)).block, (a.add (i * 6)).off + 1, none⟩ = some (.int .i64 x0) ∧ wr.cell? ⟨(a.add (i * 6)).block, (a.add (i * 6)).off + 2, none⟩ = some (.int .i64 x1) ∧ wr.cell? ⟨(a.add (i * 6)).block, (a.add (i * 6)).off + 3, none⟩ = some (.string x2) ∧ wr.cell? ⟨(a.add (i * 6)).block, (a.add (i * 6)).off + 4, none⟩ = some ((.slice al' ll' cl')) ∧ wr.cell? ⟨(a.add (i * 6)).block, (a.add (i * 6)).off + 5, none⟩ = some ((.slice ak' m' ck')) := ⟨hce 0 _ rfl, hce 1 _ rfl, hce 2 _ rfl, hce 3 _ rfl, hce 4 _ rfl, hce 5 _ rfl⟩
        obtain ⟨f0, f1, f2, f3, f4, f5⟩ : wr.cell? ⟨be, i * 6, none⟩ = some (.string ky) ∧ wr.cell? ⟨be, i * 6 + 1, none⟩ = some (.int .i64 k5) ∧ wr.cell? ⟨be, i * 6 + 2, none⟩ = some (.int .i64 n5) ∧ wr.cell? ⟨be, i * 6 + 3, none⟩ = some (.string s5) ∧ wr.cell? ⟨be, i * 6 + 4, none⟩ = some (.slice a5 p5 q5) ∧ wr.cell? ⟨be, i * 6 + 5, none⟩ = some (.slice a6 p6 q6) := ⟨hic 0 _ rfl, hic 1 _ rfl, hic 2 _ rfl, hic 3 _ rfl, hic 4 _ rfl, hic 5 _ rfl⟩
        have k6 : (!(ky.toList == ky.toList)) = false := by simp
        clear hce hve hk hr hRR hy hVi hrv hic
        go_upto_region 8 with fail
        go_cut [7] from 13 to 54 (fun z wx => z = .bool true ∧ Hid (Below wr.heap.size wr wx))
        case first =>
          go_region_held3 (fun w' => w'.cell? (a.add (i * 6)) = some (.string ky) ∧ w'.cell? ⟨(a.add (i * 6)).block, (a.add (i * 6)).off + 1, none⟩ = some (.int .i64 x0) ∧ w'.cell? ⟨(a.add (i * 6)).block, (a.add (i * 6)).off + 2, none⟩ = some (.int .i64 x1) ∧ w'.cell? ⟨(a.add (i * 6)).block, (a.add (i * 6)).off + 3, none⟩ = some (.string x2) ∧ w'.cell? ⟨(a.add (i * 6)).block, (a.add (i * 6)).off + 4, none⟩ = some ((.slice al' ll' cl')) ∧ w'.cell? ⟨(a.add (i * 6)).block, (a.add (i * 6)).off + 5, none⟩ = some ((.slice ak' m' ck')) ∧ w'.cell? ⟨be, i * 6, none⟩ = some (.string ky) ∧ w'.cell? ⟨be, i * 6 + 1, none⟩ = some (.int .i64 k5) ∧ w'.cell? ⟨be, i * 6 + 2, none⟩ = some (.int .i64 n5) ∧ w'.cell? ⟨be, i * 6 + 3, none⟩ = some (.string s5) ∧ w'.cell? ⟨be, i * 6 + 4, none⟩ = some (.slice a5 p5 q5) ∧ w'.cell? ⟨be, i * 6 + 5, none⟩ = some (.slice a6 p6 q6))
            (first | go_keep | (have hb6 := below_drew_of' b5; exact ⟨cell_later hb6 e0, cell_later hb6 e1', cell_later hb6 e2, cell_later hb6 e3, cell_later hb6 e4, cell_later hb6 e5, cell_later hb6 f0, cell_later hb6 f1, cell_later hb6 f2, cell_later hb6 f3, cell_later hb6 f4, cell_later hb6 f5⟩))
            (first | (go_at_call 18; refine (unhide CS).mono ?_; rintro e w5 ⟨rfl, b5⟩))
          have HX5 : Hid (Below wr.heap.size wr w5) := hide (below_drew_of' b5)
          clear b5 CS
          go_wp2_with fail
          go_meet
          exact ⟨rfl, HX5⟩
        case rest =>
          obtain ⟨rfl, HX5⟩ := hcut
          obtain ⟨u9, hu9⟩ : ∃ u9, wc = u9 := ⟨_, rfl⟩
          rw [hu9] at HX5 ⊢
          clear hu9
          have HS5 := hide ((unhide HS).later (unhide HX5))
          have g0 := cell_later (unhide HX5) e0
          have g1 := cell_later (unhide HX5) f0
          clear e0 e1' e2 e3 e4 e5 f0 f1 f2 f3 f4 f5 CS
          go_upto_region 9 with fail
          go_quiet (fail)
          go_wp2_with fail
          go_roundw
          case rel => exact ⟨i + 1, by go_num, HI1, hide ((unhide HS5).later (below_drewS (Below.refl _ _) _))⟩
          case measure => have := unhide HI1; simp [intOf]; omega
      · have j1 : ¬ (i : Int) < (n : Int) := by omega
        have j2 : (n : Int) ≤ (i : Int) := by omega
        have hRR : (R ++ [markE, markE])[i]? = some markE := by
          have hrl := (unhide HS).len.rl
          have := unhide HN
          rw [List.getElem?_append_right (by omega)]
          rcases (show i = R.length ∨ i = R.length + 1 by omega) with e | e
          · rw [e, Nat.sub_self]; rfl
          · rw [e, show R.length + 1 - R.length = 1 by omega]; rfl
        have y0 : wr.cell? ⟨be, i * 6, none⟩ = some (.string ⟨#[109, 97, 114, 107]⟩) := (unhide HS).len.rc.cell i _ hRR 0 _ rfl
        clear hRR
        go_wp2_with fail
        go_roundw
        case rel => exact ⟨i + 1, by go_num, HI1, HS⟩
        case measure => have := unhide HI1; simp [intOf]; omega
    · have i1 : ¬ (i : Int) < (n : Int) + 2 := by omega
      have HBZ := hide (unhide HS).below
      go_wp2_with fail
      go_ret
      exact ⟨rfl, unhide HBZ⟩
end Go.Proofs.Ytlmgiimgmjbkeaa
