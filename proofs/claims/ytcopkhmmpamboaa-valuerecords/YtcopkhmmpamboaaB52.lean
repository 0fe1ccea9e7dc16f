/-
  The walk of ValueRecords; conditions: the form's own reach.
-/
import Derived.Test.YtcopkhmmpamboaaB51
import Derived.Deep.QuietTactic
import Derived.BigQuiet
namespace Go.Proofs.Ytcopkhmmpamboaa
open Go.RowKit
set_option linter.unusedVariables false
set_option linter.unusedSimpArgs false

theorem infoEn : (Try.prog.info? 29).map (fun i => (i.zero, i.size, i.bytes)) = some (some (.agg #[.string ⟨#[]⟩, .int .i64 0, .int .i64 0, .string ⟨#[]⟩, .slice none 0 0, .slice none 0 0]), 6, 96) := by kernel_rfl

set_option maxRecDepth 100000 in
set_option maxHeartbeats 8000000 in
theorem records_any (es : List En) (al : Option Addr) (cl B : Nat) (w : World) (h : IsE w (fun b => b < B) es al cl) (hBs : B ≤ w.heap.size) :
    Calls Try.prog 3 #[.slice al es.length cl] w fun e w' => e = .returned (.bool true) ∧ Below w.heap.size w w' := by
  obtain ⟨V0, hf⟩ := h
  obtain ⟨n, hn⟩ : ∃ n, es.length = n := ⟨_, rfl⟩
  obtain ⟨g, hg⟩ : ∃ g, w.heap.size = g := ⟨_, rfl⟩
  have hbl : 96 * n ≤ 140737488351232 := by have := hf.bl; omega
  have hncl : n ≤ cl := by have := hf.ll; omega
  have HF : Hid (∀ u, Below g w u → EsF u (fun b => b < g) es al cl V0) := hide (fun u hu => hf.to (fun b hb => hu.block b (by have hb' : b < B := hb; omega)) (fun b hb => by have hb' : b < B := hb; show b < g; omega))
  have HN := hide hn
  have HG := hide hg
  obtain ⟨E, hE⟩ : ∃ E, docC es = E := ⟨_, rfl⟩
  obtain ⟨VR, hVR⟩ : ∃ VR, rcV es = VR := ⟨_, rfl⟩
  have HEQ := hide (And.intro hE hVR)
  obtain ⟨iE, hE1, hE2, hE3, hE4⟩ := info_parts infoEn
  rw [hn]
  clear hf hn hE hVR
  go_enter Try.func3, Try.ntmps3
  go_wp2_with fail
  refine (shown_any w).mono ?_
  rintro e u0 ⟨rfl, b0⟩
  obtain ⟨bi, hbi⟩ : ∃ bi, u0.heap.size = bi := ⟨_, rfl⟩
  have HB0 : Hid (Below g w u0 ∧ g ≤ bi ∧ u0.heap.size = bi) := hide ⟨by rw [← hg]; exact b0, by have := b0.size; omega, hbi⟩
  clear b0 hbi
  have tokA : True := trivial
  go_upto_region 3 with (first | (have _t := tokA; at_make; refine wpList_make_full _ rfl _ _ 22 rfl u0.heap.size 29 iE _ 6 Try.underlying22 hE1 hE2 hE3 _ _ _ _ n rfl rfl rfl rfl (by rw [hE4]; omega) (by unfold maxLen; omega) (Nat.le_refl _) ?_; intro u1 own1 gr1; clear tokA))
  have HR0 : Hid (Er w u1 g bi u1.heap.size n 0 es V0) := hide (by
    obtain ⟨h1, h2, h3⟩ := unhide HB0
    have hr := own_all own1
    have hlt := lt_of_row hr
    rw [h3] at hr hlt
    exact ⟨⟨_, hr, by rw [List.size_toArray, Array.length_toList, size_madeCells], fun j e hj => by omega⟩, h1.trans ((Below.refl _ _).grown gr1 (by omega) (by simp)), h2, hlt, Nat.le_refl _⟩)
  rw [(unhide HB0).2.2]
  clear own1 gr1 hE1 hE2 hE3 hE4 HB0
  go_wp2_with fail
  go_loopw [5] (fun y wr => ∃ (i : Nat), i ≤ n ∧ y = .int .i64 i ∧ Hid (Er w wr g bi wr.heap.size n i es V0)) (fun y _ => n - (intOf y).toNat)
  case atStart => exact ⟨0, Nat.zero_le _, rfl, HR0⟩
  case round =>
    clear HR0
    obtain ⟨i, hi, rfl, HRr⟩ := hrel
    by_cases hlt : i < n
    · have i1 : (i : Int) < (n : Int) := by omega
      have i0 : (0 : Int) ≤ (i : Int) := by omega
      have HI1 : Hid (i + 1 ≤ n) := hide (by omega)
      obtain ⟨e, he⟩ : ∃ e, es[i]? = some e := ⟨_, List.getElem?_eq_getElem (by have := unhide HN; omega)⟩
      have hF := unhide HF wr (unhide HRr).below
      obtain ⟨a, rfl⟩ : ∃ a, al = some a := by
        cases al with
        | none => have := (hF.nl rfl).1; have := unhide HN; omega
        | some a => exact ⟨a, rfl⟩
      obtain ⟨ky, hky⟩ : ∃ ky, e.1 = ky := ⟨_, rfl⟩
      obtain ⟨x0, x1, x2, x3, x4, x5, x6, x7, x8, hVi⟩ := five_list (hF.hv i e he).2
      have hce := (hF.hl a rfl i e he).2
      rw [hVi, hky] at hce
      have hve := (hF.hv i e he).2
      rw [hVi] at hve
      have HEE : Hid (es[i]? = some e ∧ e.1 = ky ∧ V0 i = [.int .i64 x0, .int .i64 x1, .string x2, .slice x3 x4 x5, .slice x6 x7 x8]) := hide ⟨he, hky, hVi⟩
      have CL := hide (lent_both e.2 _ g wr.drew (IsP.move (w := wr) (w' := wr.drew) (fun _ _ => rfl) hve) (by show g ≤ wr.heap.size; have := (unhide HRr).low; have := (unhide HRr).lt; omega))
      have HCE : Hid (wr.drew.cell? (a.add (i * 6)) = some (.string ky) ∧ wr.drew.cell? ⟨(a.add (i * 6)).block, (a.add (i * 6)).off + 1, none⟩ = some (.int .i64 x0) ∧ wr.drew.cell? ⟨(a.add (i * 6)).block, (a.add (i * 6)).off + 2, none⟩ = some (.int .i64 x1) ∧ wr.drew.cell? ⟨(a.add (i * 6)).block, (a.add (i * 6)).off + 3, none⟩ = some (.string x2) ∧ wr.drew.cell? ⟨(a.add (i * 6)).block, (a.add (i * 6)).off + 4, none⟩ = some (.slice x3 x4 x5) ∧ wr.drew.cell? ⟨(a.add (i * 6)).block, (a.add (i * 6)).off + 5, none⟩ = some (.slice x6 x7 x8)) := hide ⟨hce 0 _ rfl, hce 1 _ rfl, hce 2 _ rfl, hce 3 _ rfl, hce 4 _ rfl, hce 5 _ rfl⟩
      obtain ⟨hc6, hfz⟩ := (unhide HRr).cells hlt
      have HCF := hide (And.intro hc6 hfz)
      obtain ⟨e0, e1, e2, e3, e4, e5⟩ : wr.cell? (a.add (i * 6)) = some (.string ky) ∧ wr.cell? ⟨(a.add (i * 6)).block, (a.add (i * 6)).off + 1, none⟩ = some (.int .i64 x0) ∧ wr.cell? ⟨(a.add (i * 6)).block, (a.add (i * 6)).off + 2, none⟩ = some (.int .i64 x1) ∧ wr.cell? ⟨(a.add (i * 6)).block, (a.add (i * 6)).off + 3, none⟩ = some (.string x2) ∧ wr.cell? ⟨(a.add (i * 6)).block, (a.add (i * 6)).off + 4, none⟩ = some (.slice x3 x4 x5) ∧ wr.cell? ⟨(a.add (i * 6)).block, (a.add (i * 6)).off + 5, none⟩ = some (.slice x6 x7 x8) := ⟨hce 0 _ rfl, hce 1 _ rfl, hce 2 _ rfl, hce 3 _ rfl, hce 4 _ rfl, hce 5 _ rfl⟩
      clear hF he hky hVi hce hve hc6 hfz
      go_upto_region 6 with fail
      clear e0 e1 e2 e3 e4 e5
      refine till_begin (S := fun w' => w'.cell? (a.add (i * 6)) = some (.string ky) ∧ w'.cell? ⟨(a.add (i * 6)).block, (a.add (i * 6)).off + 1, none⟩ = some (.int .i64 x0) ∧ w'.cell? ⟨(a.add (i * 6)).block, (a.add (i * 6)).off + 2, none⟩ = some (.int .i64 x1) ∧ w'.cell? ⟨(a.add (i * 6)).block, (a.add (i * 6)).off + 3, none⟩ = some (.string x2) ∧ w'.cell? ⟨(a.add (i * 6)).block, (a.add (i * 6)).off + 4, none⟩ = some (.slice x3 x4 x5) ∧ w'.cell? ⟨(a.add (i * 6)).block, (a.add (i * 6)).off + 5, none⟩ = some (.slice x6 x7 x8)) 15 (by kernel_rfl) ?_
      refine till_take 0 (v := .slice (some ⟨bi, 0, none⟩) n n) (some 23) rfl rfl rfl (by kernel_rfl) (by kernel_rfl) (by kernel_rfl) (by kernel_rfl) (fun _ _ _ h => h) (Or.inl ⟨by rfl, fun u hu => by obtain ⟨g0, g1, g2, g3, g4, g5⟩ := hu; go_simp⟩) (unhide HCE) ?_
      try simp only [Act.put, List.setIfInBounds_toArray, List.set_cons_zero, List.set_cons_succ]
      refine till_take 1 (v := .int .i64 (i : Int)) (some 24) rfl rfl rfl (by kernel_rfl) (by kernel_rfl) (by kernel_rfl) (by kernel_rfl) (fun _ _ _ h => h) (Or.inl ⟨by rfl, fun u hu => by obtain ⟨g0, g1, g2, g3, g4, g5⟩ := hu; go_simp⟩) (unhide HCE) ?_
      try simp only [Act.put, List.setIfInBounds_toArray, List.set_cons_zero, List.set_cons_succ]
      refine till_take 2 (v := .slice (some a) n cl) (some 25) rfl rfl rfl (by kernel_rfl) (by kernel_rfl) (by kernel_rfl) (by kernel_rfl) (fun _ _ _ h => h) (Or.inl ⟨by rfl, fun u hu => by obtain ⟨g0, g1, g2, g3, g4, g5⟩ := hu; go_simp⟩) (unhide HCE) ?_
      try simp only [Act.put, List.setIfInBounds_toArray, List.set_cons_zero, List.set_cons_succ]
      refine till_take 3 (v := .int .i64 (i : Int)) (some 26) rfl rfl rfl (by kernel_rfl) (by kernel_rfl) (by kernel_rfl) (by kernel_rfl) (fun _ _ _ h => h) (Or.inl ⟨by rfl, fun u hu => by obtain ⟨g0, g1, g2, g3, g4, g5⟩ := hu; go_simp⟩) (unhide HCE) ?_
      try simp only [Act.put, List.setIfInBounds_toArray, List.set_cons_zero, List.set_cons_succ]
      refine till_take 4 (v := .pointer (some (a.add (i * 6)))) (some 27) rfl rfl rfl (by kernel_rfl) (by kernel_rfl) (by kernel_rfl) (by kernel_rfl) (fun _ _ _ h => h) (Or.inl ⟨by rfl, fun u hu => by obtain ⟨g0, g1, g2, g3, g4, g5⟩ := hu; go_simp⟩) (unhide HCE) ?_
      try simp only [Act.put, List.setIfInBounds_toArray, List.set_cons_zero, List.set_cons_succ]
      refine till_take 5 (v := .pointer (some (a.add (i * 6)))) (some 28) rfl rfl rfl (by kernel_rfl) (by kernel_rfl) (by kernel_rfl) (by kernel_rfl) (fun _ _ _ h => h) (Or.inl ⟨by rfl, fun u hu => by obtain ⟨g0, g1, g2, g3, g4, g5⟩ := hu; go_simp⟩) (unhide HCE) ?_
      try simp only [Act.put, List.setIfInBounds_toArray, List.set_cons_zero, List.set_cons_succ]
      refine till_take 6 (v := .string ky) (some 29) rfl rfl rfl (by kernel_rfl) (by kernel_rfl) (by kernel_rfl) (by kernel_rfl) (fun _ _ _ h => h) (Or.inl ⟨by rfl, fun u hu => by obtain ⟨g0, g1, g2, g3, g4, g5⟩ := hu; go_simp⟩) (unhide HCE) ?_
      try simp only [Act.put, List.setIfInBounds_toArray, List.set_cons_zero, List.set_cons_succ]
      refine till_take 7 (v := .slice (some a) n cl) (some 30) rfl rfl rfl (by kernel_rfl) (by kernel_rfl) (by kernel_rfl) (by kernel_rfl) (fun _ _ _ h => h) (Or.inl ⟨by rfl, fun u hu => by obtain ⟨g0, g1, g2, g3, g4, g5⟩ := hu; go_simp⟩) (unhide HCE) ?_
      try simp only [Act.put, List.setIfInBounds_toArray, List.set_cons_zero, List.set_cons_succ]
      refine till_take 8 (v := .int .i64 (i : Int)) (some 31) rfl rfl rfl (by kernel_rfl) (by kernel_rfl) (by kernel_rfl) (by kernel_rfl) (fun _ _ _ h => h) (Or.inl ⟨by rfl, fun u hu => by obtain ⟨g0, g1, g2, g3, g4, g5⟩ := hu; go_simp⟩) (unhide HCE) ?_
      try simp only [Act.put, List.setIfInBounds_toArray, List.set_cons_zero, List.set_cons_succ]
      refine till_take 9 (v := .pointer (some (a.add (i * 6)))) (some 32) rfl rfl rfl (by kernel_rfl) (by kernel_rfl) (by kernel_rfl) (by kernel_rfl) (fun _ _ _ h => h) (Or.inl ⟨by rfl, fun u hu => by obtain ⟨g0, g1, g2, g3, g4, g5⟩ := hu; go_simp⟩) (unhide HCE) ?_
      try simp only [Act.put, List.setIfInBounds_toArray, List.set_cons_zero, List.set_cons_succ]
      refine till_take 10 (v := .pointer (some ⟨(a.add (i * 6)).block, (a.add (i * 6)).off + 1, none⟩)) (some 33) rfl rfl rfl (by kernel_rfl) (by kernel_rfl) (by kernel_rfl) (by kernel_rfl) (fun _ _ _ h => h) (Or.inl ⟨by rfl, fun u hu => by obtain ⟨g0, g1, g2, g3, g4, g5⟩ := hu; go_simp⟩) (unhide HCE) ?_
      try simp only [Act.put, List.setIfInBounds_toArray, List.set_cons_zero, List.set_cons_succ]
      refine till_take 11 (v := .agg #[.int .i64 x0, .int .i64 x1, .string x2, .slice x3 x4 x5, .slice x6 x7 x8]) (some 34) rfl rfl rfl (by kernel_rfl) (by kernel_rfl) (by kernel_rfl) (by kernel_rfl) (fun _ _ _ h => h) (Or.inl ⟨by rfl, fun u hu => by obtain ⟨g0, g1, g2, g3, g4, g5⟩ := hu; go_simp⟩) (unhide HCE) ?_
      try simp only [Act.put, List.setIfInBounds_toArray, List.set_cons_zero, List.set_cons_succ]
      refine till_one 12 (by kernel_rfl) rfl (fun K hK => ?_)
      go_simp
      refine (unhide CL).mono ?_
      rintro e5 u5 ⟨y5, rfl, q5, b5⟩
      have b6 : Below wr.heap.size wr u5 := below_drew_of' b5
      have HS5 : Hid (u5.cell? (a.add (i * 6)) = some (.string ky) ∧ u5.cell? ⟨(a.add (i * 6)).block, (a.add (i * 6)).off + 1, none⟩ = some (.int .i64 x0) ∧ u5.cell? ⟨(a.add (i * 6)).block, (a.add (i * 6)).off + 2, none⟩ = some (.int .i64 x1) ∧ u5.cell? ⟨(a.add (i * 6)).block, (a.add (i * 6)).off + 3, none⟩ = some (.string x2) ∧ u5.cell? ⟨(a.add (i * 6)).block, (a.add (i * 6)).off + 4, none⟩ = some (.slice x3 x4 x5) ∧ u5.cell? ⟨(a.add (i * 6)).block, (a.add (i * 6)).off + 5, none⟩ = some (.slice x6 x7 x8)) := hide ⟨cell_later b6 (unhide HCE).1, cell_later b6 (unhide HCE).2.1, cell_later b6 (unhide HCE).2.2.1, cell_later b6 (unhide HCE).2.2.2.1, cell_later b6 (unhide HCE).2.2.2.2.1, cell_later b6 (unhide HCE).2.2.2.2.2⟩
      have hI5 : IsV u5 u5.heap.size e.2 y5 := q5.isV ((by
        have hF := unhide HF u5 ((unhide HRr).below.trans (b6.mono (by have := (unhide HRr).low; have := (unhide HRr).lt; omega)))
        obtain ⟨he, hky, hVi⟩ := unhide HEE
        have := (hF.hv i e he).2
        rw [hVi] at this
        exact this : IsV u5 g e.2 (.agg #[.int .i64 x0, .int .i64 x1, .string x2, .slice x3 x4 x5, .slice x6 x7 x8]))) (Nat.le_refl _) (by have := b6.size; have := (unhide HRr).low; have := (unhide HRr).lt; omega)
      obtain ⟨p0, p1, p2, p3, p4, p5, p6, p7, p8, rfl⟩ := shape9 hI5
      have HR6 : Hid (Er w (sixSet u5 bi i (.string ky) (.int .i64 p0) (.int .i64 p1) (.string p2) (.slice p3 p4 p5) (.slice p6 p7 p8)) g bi u5.heap.size n (i + 1) es V0) := hide (by
        obtain ⟨he, hky, hVi⟩ := unhide HEE
        have := (unhide HRr).next (y0 := .int .i64 p0) (y1 := .int .i64 p1) (y2 := .string p2) (y3 := .slice p3 p4 p5) (y4 := .slice p6 p7 p8) b6 hlt he (by rw [hVi]; exact q5)
        rw [hky] at this
        exact this)
      have HR5 := hide ((unhide HRr).later b6)
      clear b5 b6 q5 hI5 CL
      go_wp2_with fail
      refine hK.out _ _ (Or.inr (unhide HS5)) ?_
      clear hK K
      try simp only [Act.put, List.setIfInBounds_toArray, List.set_cons_zero, List.set_cons_succ]
      refine till_one 13 (by kernel_rfl) rfl (fun K hK => ?_)
      go_simp
      refine hK.out _ _ (Or.inr (unhide HS5)) ?_
      clear hK K
      try simp only [Act.put, List.setIfInBounds_toArray, List.set_cons_zero, List.set_cons_succ]
      refine till_one 14 (by kernel_rfl) rfl (fun K hK => ?_)
      go_simp
      refine hK.out _ _ (Or.inr (unhide HS5)) ?_
      clear hK K
      try simp only [Act.put, List.setIfInBounds_toArray, List.set_cons_zero, List.set_cons_succ]
      refine till_one 15 (by kernel_rfl) rfl (fun K hK => ?_)
      obtain ⟨hc6, hfz⟩ := (unhide HR5).cells hlt
      obtain ⟨z0, d0⟩ := hc6 0 (by omega)
      obtain ⟨z1, d1⟩ := hc6 1 (by omega)
      obtain ⟨z2, d2⟩ := hc6 2 (by omega)
      obtain ⟨z3, d3⟩ := hc6 3 (by omega)
      obtain ⟨z4, d4⟩ := hc6 4 (by omega)
      obtain ⟨z5, d5⟩ := hc6 5 (by omega)
      rw [Nat.add_zero] at d0
      have f0 := hfz (i * 6)
      have f1 := hfz (i * 6 + 1)
      have f2 := hfz (i * 6 + 2)
      have f3 := hfz (i * 6 + 3)
      have f4 := hfz (i * 6 + 4)
      have f5 := hfz (i * 6 + 5)
      clear hc6 hfz
      go_simp
      refine hK.out _ _ (Or.inl rfl) ?_
      clear hK K d0 d1 d2 d3 d4 d5 f0 f1 f2 f3 f4 f5
      try simp only [Act.put, List.setIfInBounds_toArray, List.set_cons_zero, List.set_cons_succ]
      refine till_done (by kernel_rfl) ?_ _
      obtain ⟨u6, hu6⟩ : ∃ u6, sixSet u5 bi i (.string ky) (.int .i64 p0) (.int .i64 p1) (.string p2) (.slice p3 p4 p5) (.slice p6 p7 p8) = u6 := ⟨_, rfl⟩
      have hs6 : u6.heap.size = u5.heap.size := by rw [← hu6]; exact (sixSet_facts u5 bi i _ _ _ _ _ _).2.1
      rw [hu6, ← hs6] at HR6
      unfold sixSet at hu6
      rw [hu6]
      clear hu6 hs6 HCE HS5 HR5 HCF
      go_wp2_with fail
      go_roundw
      case rel => exact ⟨i + 1, unhide HI1, by go_num, HR6⟩
      case measure => have := unhide HI1; simp [intOf]; omega
    · have i1 : ¬ (i : Int) < (n : Int) := by omega
      have hin : i = n := by omega
      subst hin
      have CR := recQ_any es (some ⟨bi, 0, none⟩) i wr.heap.size wr ((unhide HRr).isE (unhide HN) (unhide HF wr (unhide HRr).below)) (Nat.le_refl _)
      rw [unhide HN, (unhide HEQ).1, (unhide HEQ).2] at CR
      have CR := hide CR
      obtain ⟨S, hS⟩ : ∃ S, wr.heap.size = S := ⟨_, rfl⟩
      have HRS := HRr
      rw [hS] at HRS
      have HSS := hide hS
      clear hS HRr hlt hi
      go_wp2_with fail
      refine (unhide CR).mono ?_
      rintro e1 u2 ⟨x', rfl, b2, q2⟩
      obtain ⟨x0, x1, x2, x3, x4, x5, x6, x7, x8, rfl⟩ := shape9 q2.1
      obtain ⟨n2, hn2⟩ : ∃ n2, u2.heap.size = n2 := ⟨_, rfl⟩
      rw [unhide HSS, hn2] at q2
      have HN2 : Hid (S ≤ n2) := hide (by have := b2.size; have := unhide HSS; omega)
      have HQ2 := hide (And.intro ((unhide HRS).later b2) q2)
      obtain ⟨u3, hu3⟩ : ∃ u3, u2.alloc (.cells #[.int .i64 x0, .int .i64 x1, .string x2, .slice x3 x4 x5, .slice x6 x7 x8] 27) = u3 := ⟨_, rfl⟩
      have HQ3 : Hid (Er w u3 g bi S i i es V0 ∧ IsQ u3 (fun b => S ≤ b ∧ b < n2) VR (.agg #[.int .i64 x0, .int .i64 x1, .string x2, .slice x3 x4 x5, .slice x6 x7 x8]) ∧ u3.heap[n2]? = some (.cells #[.int .i64 x0, .int .i64 x1, .string x2, .slice x3 x4 x5, .slice x6 x7 x8] 27 (0, 0)) ∧ u3.heap.size = n2 + 1) := hide (by
        obtain ⟨h1, h2⟩ := unhide HQ2
        have hb : Below u2.heap.size u2 u3 := by rw [← hu3]; exact (Below.refl _ _).alloc (Nat.le_refl _) _
        refine ⟨h1.later hb, h2.move (fun b hb' => hb.block b (by omega)), ?_, ?_⟩
        · rw [← hu3, ← hn2]; exact heap_alloc_new u2 _
        · rw [← hu3, ← hn2]; simp)
      clear b2 q2 CR HQ2 HSS HRS
      go_upto_region 8 with fail
      try rw [hn2]
      try rw [hu3]
      clear hn2 hu3
      have CD := recDQ_any es al cl g u3 ⟨V0, unhide HF u3 (unhide HQ3).1.below⟩ (by have := (unhide HQ3).1.below.size; have := unhide HG; omega)
      rw [unhide HN, (unhide HEQ).1, (unhide HEQ).2] at CD
      have CD := hide CD
      go_wp2_with fail
      refine (unhide CD).mono ?_
      rintro e2 u4 ⟨y', rfl, b4, q4⟩
      obtain ⟨y0, y1, y2, y3, y4, y5, y6, y7, y8, rfl⟩ := shape9 q4
      obtain ⟨n4, hn4⟩ : ∃ n4, u4.heap.size = n4 := ⟨_, rfl⟩
      obtain ⟨u5, hu5⟩ : ∃ u5, u4.alloc (.cells #[.int .i64 y0, .int .i64 y1, .string y2, .slice y3 y4 y5, .slice y6 y7 y8] 27) = u5 := ⟨_, rfl⟩
      have HQ5 : Hid (Er w u5 g bi S i i es V0 ∧ IsQ u5 (fun b => S ≤ b ∧ b < n2) VR (.agg #[.int .i64 x0, .int .i64 x1, .string x2, .slice x3 x4 x5, .slice x6 x7 x8]) ∧ u5.heap[n2]? = some (.cells #[.int .i64 x0, .int .i64 x1, .string x2, .slice x3 x4 x5, .slice x6 x7 x8] 27 (0, 0)) ∧ n2 < u5.heap.size ∧ IsV u5 u5.heap.size VR (.agg #[.int .i64 y0, .int .i64 y1, .string y2, .slice y3 y4 y5, .slice y6 y7 y8]) ∧ u5.heap[n4]? = some (.cells #[.int .i64 y0, .int .i64 y1, .string y2, .slice y3 y4 y5, .slice y6 y7 y8] 27 (0, 0))) := hide (by
        obtain ⟨h1, h2, h3, h4⟩ := unhide HQ3
        have hb : Below u4.heap.size u4 u5 := by rw [← hu5]; exact (Below.refl _ _).alloc (Nat.le_refl _) _
        have hb3 : Below u3.heap.size u3 u5 := b4.trans (hb.mono b4.size)
        refine ⟨h1.later hb3, h2.move (fun b hb' => hb3.block b (by omega)), (hb3.block n2 (by omega)).trans h3, by have := hb3.size; omega, IsP.to (fun b hb' => hb.block b hb') (fun b hb' => Nat.lt_of_lt_of_le hb' hb.size) q4, ?_⟩
        rw [← hu5, ← hn4]; exact heap_alloc_new u4 _)
      clear b4 q4 CD HQ3
      go_upto_region 9 with fail
      try rw [hn4]
      try rw [hu5]
      clear hn4 hu5
      have CW := same3_any (dep VR) VR VR _ _ u5.heap.size u5 (Nat.le_refl _) ((unhide HQ5).2.1.isV (B := u5.heap.size) (fun b hb => by have := (unhide HQ5).2.2.2.1; omega)) (unhide HQ5).2.2.2.2.1 (Nat.le_refl _)
      rw [(sameB_iff VR VR).2 rfl] at CW
      have CW := hide CW
      obtain ⟨c0, c1, c2, c3, c4⟩ := row_cell (unhide HQ5).2.2.1
      obtain ⟨d0, d1, d2, d3, d4⟩ := row_cell (unhide HQ5).2.2.2.2.2
      go_wp2_with fail
      refine (unhide CW).mono ?_
      rintro e3 u6 ⟨rfl, b6⟩
      have HQ6 : Hid (Er w u6 g bi S i i es V0 ∧ IsQ u6 (fun b => S ≤ b ∧ b < n2) VR (.agg #[.int .i64 x0, .int .i64 x1, .string x2, .slice x3 x4 x5, .slice x6 x7 x8]) ∧ u6.heap[n2]? = some (.cells #[.int .i64 x0, .int .i64 x1, .string x2, .slice x3 x4 x5, .slice x6 x7 x8] 27 (0, 0)) ∧ n2 < u6.heap.size) := hide (by
        obtain ⟨h1, h2, h3, h4, _⟩ := unhide HQ5
        exact ⟨h1.later b6, h2.move (fun b hb' => b6.block b (by omega)), (b6.block n2 h4).trans h3, by have := b6.size; omega⟩)
      clear b6 CW HQ5 c0 c1 c2 c3 c4 d0 d1 d2 d3 d4
      have CS := hide (spoil_any (dep VR) _ (fun b => S ≤ b ∧ b < n2) u6 (unhide HQ6).2.1.2 (fun b hb => by have := (unhide HQ6).2.2.2; omega))
      obtain ⟨c0, c1, c2, c3, c4⟩ := row_cell (unhide HQ6).2.2.1
      go_wp2_with fail
      refine (unhide CS).mono ?_
      rintro e4 u7 ⟨rfl, b7⟩
      have HR7 := hide ((unhide HQ6).1.wipe b7 (Nat.le_refl _))
      clear b7 CS HQ6 c0 c1 c2 c3 c4 i1
      go_wp2_with fail
      go_loopw [11] (fun y wr => ∃ (q : Nat), q ≤ i ∧ y = .int .i64 q ∧ Hid (Er w wr g bi S i i es V0)) (fun y _ => i - (intOf y).toNat)
      case atStart => exact ⟨0, Nat.zero_le _, rfl, HR7⟩
      case round =>
        clear HR7
        obtain ⟨q, hq, rfl, HRq⟩ := hrel
        by_cases hlt : q < i
        · have j1 : (q : Int) < (i : Int) := by omega
          have j0 : (0 : Int) ≤ (q : Int) := by omega
          have HI1 : Hid (q + 1 ≤ i) := hide (by omega)
          obtain ⟨e, he⟩ : ∃ e, es[q]? = some e := ⟨_, List.getElem?_eq_getElem (by have := unhide HN; omega)⟩
          have hF := unhide HF wr (unhide HRq).below
          obtain ⟨a, rfl⟩ : ∃ a, al = some a := by
            cases al with
            | none => have := (hF.nl rfl).1; have := unhide HN; omega
            | some a => exact ⟨a, rfl⟩
          obtain ⟨ky, hky⟩ : ∃ ky, e.1 = ky := ⟨_, rfl⟩
          obtain ⟨x0, x1, x2, x3, x4, x5, x6, x7, x8, hVi⟩ := five_list (hF.hv q e he).2
          have hce := (hF.hl a rfl q e he).2
          rw [hVi, hky] at hce
          have hve := (hF.hv q e he).2
          rw [hVi] at hve
          obtain ⟨c, hc5, hic, hlo⟩ := (unhide HRq).at hlt he
          rw [hVi] at hlo
          obtain ⟨p0, p1, p2, p3, p4, p5, p6, p7, p8, rfl⟩ := five_list (hlo.isV hve (unhide HRq).top (by have := (unhide HRq).low; have := (unhide HRq).lt; have := (unhide HRq).top; omega : g ≤ wr.heap.size))
          rw [hky] at hic
          have CS := hide (still_both e.2 (.agg #[.int .i64 x0, .int .i64 x1, .string x2, .slice x3 x4 x5, .slice x6 x7 x8]) (.agg #[.int .i64 p0, .int .i64 p1, .string p2, .slice p3 p4 p5, .slice p6 p7 p8]) (bi + 1) S g wr.drew (hlo.to (u1 := wr.drew) (fun _ _ _ => rfl)) (IsP.move (w := wr) (w' := wr.drew) (fun _ _ => rfl) hve) (by show g ≤ wr.heap.size; have := (unhide HRq).low; have := (unhide HRq).lt; have := (unhide HRq).top; omega) (unhide HRq).top)
          have k5 : (!(ky.toList == ky.toList)) = false := by simp
          obtain ⟨e0, e1, e2, e3, e4, e5⟩ : wr.cell? (a.add (q * 6)) = some (.string ky) ∧ wr.cell? ⟨(a.add (q * 6)).block, (a.add (q * 6)).off + 1, none⟩ = some (.int .i64 x0) ∧ wr.cell? ⟨(a.add (q * 6)).block, (a.add (q * 6)).off + 2, none⟩ = some (.int .i64 x1) ∧ wr.cell? ⟨(a.add (q * 6)).block, (a.add (q * 6)).off + 3, none⟩ = some (.string x2) ∧ wr.cell? ⟨(a.add (q * 6)).block, (a.add (q * 6)).off + 4, none⟩ = some (.slice x3 x4 x5) ∧ wr.cell? ⟨(a.add (q * 6)).block, (a.add (q * 6)).off + 5, none⟩ = some (.slice x6 x7 x8) := ⟨hce 0 _ rfl, hce 1 _ rfl, hce 2 _ rfl, hce 3 _ rfl, hce 4 _ rfl, hce 5 _ rfl⟩
          obtain ⟨f0, f1, f2, f3, f4, f5⟩ : wr.cell? ⟨bi, q * 6, none⟩ = some (.string ky) ∧ wr.cell? ⟨bi, q * 6 + 1, none⟩ = some (.int .i64 p0) ∧ wr.cell? ⟨bi, q * 6 + 2, none⟩ = some (.int .i64 p1) ∧ wr.cell? ⟨bi, q * 6 + 3, none⟩ = some (.string p2) ∧ wr.cell? ⟨bi, q * 6 + 4, none⟩ = some (.slice p3 p4 p5) ∧ wr.cell? ⟨bi, q * 6 + 5, none⟩ = some (.slice p6 p7 p8) := ⟨hic 0 _ rfl, hic 1 _ rfl, hic 2 _ rfl, hic 3 _ rfl, hic 4 _ rfl, hic 5 _ rfl⟩
          have HS0 : Hid (wr.drew.cell? (a.add (q * 6)) = some (.string ky) ∧ wr.drew.cell? ⟨(a.add (q * 6)).block, (a.add (q * 6)).off + 1, none⟩ = some (.int .i64 x0) ∧ wr.drew.cell? ⟨(a.add (q * 6)).block, (a.add (q * 6)).off + 2, none⟩ = some (.int .i64 x1) ∧ wr.drew.cell? ⟨(a.add (q * 6)).block, (a.add (q * 6)).off + 3, none⟩ = some (.string x2) ∧ wr.drew.cell? ⟨(a.add (q * 6)).block, (a.add (q * 6)).off + 4, none⟩ = some (.slice x3 x4 x5) ∧ wr.drew.cell? ⟨(a.add (q * 6)).block, (a.add (q * 6)).off + 5, none⟩ = some (.slice x6 x7 x8) ∧ wr.drew.cell? ⟨bi, q * 6, none⟩ = some (.string ky) ∧ wr.drew.cell? ⟨bi, q * 6 + 1, none⟩ = some (.int .i64 p0) ∧ wr.drew.cell? ⟨bi, q * 6 + 2, none⟩ = some (.int .i64 p1) ∧ wr.drew.cell? ⟨bi, q * 6 + 3, none⟩ = some (.string p2) ∧ wr.drew.cell? ⟨bi, q * 6 + 4, none⟩ = some (.slice p3 p4 p5) ∧ wr.drew.cell? ⟨bi, q * 6 + 5, none⟩ = some (.slice p6 p7 p8)) := hide ⟨e0, e1, e2, e3, e4, e5, f0, f1, f2, f3, f4, f5⟩
          clear hF he hky hVi hce hve hic hlo hc5
          go_upto_region 14 with fail
          clear e0 e1 e2 e3 e4 e5 f0 f1 f2 f3 f4 f5
          refine till_begin (S := fun w' => w'.cell? (a.add (q * 6)) = some (.string ky) ∧ w'.cell? ⟨(a.add (q * 6)).block, (a.add (q * 6)).off + 1, none⟩ = some (.int .i64 x0) ∧ w'.cell? ⟨(a.add (q * 6)).block, (a.add (q * 6)).off + 2, none⟩ = some (.int .i64 x1) ∧ w'.cell? ⟨(a.add (q * 6)).block, (a.add (q * 6)).off + 3, none⟩ = some (.string x2) ∧ w'.cell? ⟨(a.add (q * 6)).block, (a.add (q * 6)).off + 4, none⟩ = some (.slice x3 x4 x5) ∧ w'.cell? ⟨(a.add (q * 6)).block, (a.add (q * 6)).off + 5, none⟩ = some (.slice x6 x7 x8) ∧ w'.cell? ⟨bi, q * 6, none⟩ = some (.string ky) ∧ w'.cell? ⟨bi, q * 6 + 1, none⟩ = some (.int .i64 p0) ∧ w'.cell? ⟨bi, q * 6 + 2, none⟩ = some (.int .i64 p1) ∧ w'.cell? ⟨bi, q * 6 + 3, none⟩ = some (.string p2) ∧ w'.cell? ⟨bi, q * 6 + 4, none⟩ = some (.slice p3 p4 p5) ∧ w'.cell? ⟨bi, q * 6 + 5, none⟩ = some (.slice p6 p7 p8)) 11 (by kernel_rfl) ?_
          refine till_take 0 (v := .slice (some ⟨bi, 0, none⟩) i i) (some 59) rfl rfl rfl (by kernel_rfl) (by kernel_rfl) (by kernel_rfl) (by kernel_rfl) (fun _ _ _ h => h) (Or.inl ⟨by rfl, fun u hu => by obtain ⟨g0, g1, g2, g3, g4, g5, m0, m1, m2, m3, m4, m5⟩ := hu; go_simp⟩) (unhide HS0) ?_
          try simp only [Act.put, List.setIfInBounds_toArray, List.set_cons_zero, List.set_cons_succ]
          refine till_take 1 (v := .int .i64 (q : Int)) (some 60) rfl rfl rfl (by kernel_rfl) (by kernel_rfl) (by kernel_rfl) (by kernel_rfl) (fun _ _ _ h => h) (Or.inl ⟨by rfl, fun u hu => by obtain ⟨g0, g1, g2, g3, g4, g5, m0, m1, m2, m3, m4, m5⟩ := hu; go_simp⟩) (unhide HS0) ?_
          try simp only [Act.put, List.setIfInBounds_toArray, List.set_cons_zero, List.set_cons_succ]
          refine till_take 2 (v := .pointer (some ⟨bi, q * 6, none⟩)) (some 61) rfl rfl rfl (by kernel_rfl) (by kernel_rfl) (by kernel_rfl) (by kernel_rfl) (fun _ _ _ h => h) (Or.inl ⟨by rfl, fun u hu => by obtain ⟨g0, g1, g2, g3, g4, g5, m0, m1, m2, m3, m4, m5⟩ := hu; go_simp⟩) (unhide HS0) ?_
          try simp only [Act.put, List.setIfInBounds_toArray, List.set_cons_zero, List.set_cons_succ]
          refine till_take 3 (v := .pointer (some ⟨bi, q * 6 + 1, none⟩)) (some 62) rfl rfl rfl (by kernel_rfl) (by kernel_rfl) (by kernel_rfl) (by kernel_rfl) (fun _ _ _ h => h) (Or.inl ⟨by rfl, fun u hu => by obtain ⟨g0, g1, g2, g3, g4, g5, m0, m1, m2, m3, m4, m5⟩ := hu; go_simp⟩) (unhide HS0) ?_
          try simp only [Act.put, List.setIfInBounds_toArray, List.set_cons_zero, List.set_cons_succ]
          refine till_take 4 (v := .agg #[.int .i64 p0, .int .i64 p1, .string p2, .slice p3 p4 p5, .slice p6 p7 p8]) (some 63) rfl rfl rfl (by kernel_rfl) (by kernel_rfl) (by kernel_rfl) (by kernel_rfl) (fun _ _ _ h => h) (Or.inl ⟨by rfl, fun u hu => by obtain ⟨g0, g1, g2, g3, g4, g5, m0, m1, m2, m3, m4, m5⟩ := hu; go_simp⟩) (unhide HS0) ?_
          try simp only [Act.put, List.setIfInBounds_toArray, List.set_cons_zero, List.set_cons_succ]
          refine till_take 5 (v := .slice (some a) i cl) (some 64) rfl rfl rfl (by kernel_rfl) (by kernel_rfl) (by kernel_rfl) (by kernel_rfl) (fun _ _ _ h => h) (Or.inl ⟨by rfl, fun u hu => by obtain ⟨g0, g1, g2, g3, g4, g5, m0, m1, m2, m3, m4, m5⟩ := hu; go_simp⟩) (unhide HS0) ?_
          try simp only [Act.put, List.setIfInBounds_toArray, List.set_cons_zero, List.set_cons_succ]
          refine till_take 6 (v := .int .i64 (q : Int)) (some 65) rfl rfl rfl (by kernel_rfl) (by kernel_rfl) (by kernel_rfl) (by kernel_rfl) (fun _ _ _ h => h) (Or.inl ⟨by rfl, fun u hu => by obtain ⟨g0, g1, g2, g3, g4, g5, m0, m1, m2, m3, m4, m5⟩ := hu; go_simp⟩) (unhide HS0) ?_
          try simp only [Act.put, List.setIfInBounds_toArray, List.set_cons_zero, List.set_cons_succ]
          refine till_take 7 (v := .pointer (some (a.add (q * 6)))) (some 66) rfl rfl rfl (by kernel_rfl) (by kernel_rfl) (by kernel_rfl) (by kernel_rfl) (fun _ _ _ h => h) (Or.inl ⟨by rfl, fun u hu => by obtain ⟨g0, g1, g2, g3, g4, g5, m0, m1, m2, m3, m4, m5⟩ := hu; go_simp⟩) (unhide HS0) ?_
          try simp only [Act.put, List.setIfInBounds_toArray, List.set_cons_zero, List.set_cons_succ]
          refine till_take 8 (v := .pointer (some ⟨(a.add (q * 6)).block, (a.add (q * 6)).off + 1, none⟩)) (some 67) rfl rfl rfl (by kernel_rfl) (by kernel_rfl) (by kernel_rfl) (by kernel_rfl) (fun _ _ _ h => h) (Or.inl ⟨by rfl, fun u hu => by obtain ⟨g0, g1, g2, g3, g4, g5, m0, m1, m2, m3, m4, m5⟩ := hu; go_simp⟩) (unhide HS0) ?_
          try simp only [Act.put, List.setIfInBounds_toArray, List.set_cons_zero, List.set_cons_succ]
          refine till_take 9 (v := .agg #[.int .i64 x0, .int .i64 x1, .string x2, .slice x3 x4 x5, .slice x6 x7 x8]) (some 68) rfl rfl rfl (by kernel_rfl) (by kernel_rfl) (by kernel_rfl) (by kernel_rfl) (fun _ _ _ h => h) (Or.inl ⟨by rfl, fun u hu => by obtain ⟨g0, g1, g2, g3, g4, g5, m0, m1, m2, m3, m4, m5⟩ := hu; go_simp⟩) (unhide HS0) ?_
          try simp only [Act.put, List.setIfInBounds_toArray, List.set_cons_zero, List.set_cons_succ]
          refine till_one 10 (by kernel_rfl) rfl (fun K hK => ?_)
          go_simp
          refine (unhide CS).mono ?_
          rintro e6 u8 ⟨rfl, b8⟩
          have b9 : Below wr.heap.size wr u8 := below_drew_of' b8
          have HS8 : Hid (u8.cell? (a.add (q * 6)) = some (.string ky) ∧ u8.cell? ⟨(a.add (q * 6)).block, (a.add (q * 6)).off + 1, none⟩ = some (.int .i64 x0) ∧ u8.cell? ⟨(a.add (q * 6)).block, (a.add (q * 6)).off + 2, none⟩ = some (.int .i64 x1) ∧ u8.cell? ⟨(a.add (q * 6)).block, (a.add (q * 6)).off + 3, none⟩ = some (.string x2) ∧ u8.cell? ⟨(a.add (q * 6)).block, (a.add (q * 6)).off + 4, none⟩ = some (.slice x3 x4 x5) ∧ u8.cell? ⟨(a.add (q * 6)).block, (a.add (q * 6)).off + 5, none⟩ = some (.slice x6 x7 x8) ∧ u8.cell? ⟨bi, q * 6, none⟩ = some (.string ky) ∧ u8.cell? ⟨bi, q * 6 + 1, none⟩ = some (.int .i64 p0) ∧ u8.cell? ⟨bi, q * 6 + 2, none⟩ = some (.int .i64 p1) ∧ u8.cell? ⟨bi, q * 6 + 3, none⟩ = some (.string p2) ∧ u8.cell? ⟨bi, q * 6 + 4, none⟩ = some (.slice p3 p4 p5) ∧ u8.cell? ⟨bi, q * 6 + 5, none⟩ = some (.slice p6 p7 p8)) := hide ⟨cell_later b9 (unhide HS0).1, cell_later b9 (unhide HS0).2.1, cell_later b9 (unhide HS0).2.2.1, cell_later b9 (unhide HS0).2.2.2.1, cell_later b9 (unhide HS0).2.2.2.2.1, cell_later b9 (unhide HS0).2.2.2.2.2.1, cell_later b9 (unhide HS0).2.2.2.2.2.2.1, cell_later b9 (unhide HS0).2.2.2.2.2.2.2.1, cell_later b9 (unhide HS0).2.2.2.2.2.2.2.2.1, cell_later b9 (unhide HS0).2.2.2.2.2.2.2.2.2.1, cell_later b9 (unhide HS0).2.2.2.2.2.2.2.2.2.2.1, cell_later b9 (unhide HS0).2.2.2.2.2.2.2.2.2.2.2⟩
          have HR8 := hide ((unhide HRq).later b9)
          clear b8 b9 CS
          go_wp2_with fail
          refine hK.out _ _ (Or.inr (unhide HS8)) ?_
          clear hK K
          try simp only [Act.put, List.setIfInBounds_toArray, List.set_cons_zero, List.set_cons_succ]
          refine till_one 11 (by kernel_rfl) rfl (fun K hK => ?_)
          go_simp
          refine hK.out _ _ (Or.inl rfl) ?_
          clear hK K
          try simp only [Act.put, List.setIfInBounds_toArray, List.set_cons_zero, List.set_cons_succ]
          refine till_done (by kernel_rfl) ?_ _
          obtain ⟨e0, e1, e2, e3, e4, e5, f0, f1, f2, f3, f4, f5⟩ := unhide HS8
          clear HS0 HS8 HRq
          go_upto_region 15 with fail
          go_quiet (fail)
          go_wp2_with fail
          go_roundw
          case rel => exact ⟨q + 1, unhide HI1, by go_num, hide ((unhide HR8).later (below_drewN (Below.refl _ _) _))⟩
          case measure => have := unhide HI1; simp [intOf]; omega
        · have j1 : ¬ (q : Int) < (i : Int) := by omega
          have HFN := hide (unhide HRq).below
          clear HRq
          go_wp2_with fail
          go_ret
          exact ⟨by simp, by first | exact unhide HFN | (rw [unhide HG]; exact unhide HFN)⟩
end Go.Proofs.Ytcopkhmmpamboaa
