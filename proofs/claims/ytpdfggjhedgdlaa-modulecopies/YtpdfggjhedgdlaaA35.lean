/-
  The walk of Lent of a module (layer 9); conditions: the form's own reach.
-/
import Derived.Test.YtpdfggjhedgdlaaA34
import Derived.BigRegion
namespace Go.Proofs.Ytpdfggjhedgdlaa
open Go.RowKit
set_option linter.unusedVariables false
set_option linter.unusedSimpArgs false

set_option maxRecDepth 100000 in
set_option maxHeartbeats 8000000 in
theorem lentM_any (m : Md) (V : Nat → List Value) (a1 a2 a3 : Option Addr) (n1 c1 n2 c2 n3 c3 B : Nat) (w : World) (hn1 : m.cs.length = n1) (hn2 : m.fs.length = n2) (hn3 : m.xs.length = n3) (h : IsM w (fun b => b < B) m a1 c1 a2 c2 a3 c3) (hV : CsV w B m.cs a1 V) (hB : B ≤ w.heap.size) (hb1 : 80 * n1 ≤ 140737488351232) (hb2 : 40 * n2 ≤ 140737488351232) (hb3 : 24 * n3 ≤ 140737488351232) :
    Calls Try.prog 5 #[.agg #[.slice a1 n1 c1, .slice a2 n2 c2, .slice a3 n3 c3]] w fun e w' => ∃ (bc bf bx : Nat), e = .returned (.agg #[.slice (some ⟨bc, 0, none⟩) n1 (n1 + 2), .slice (some ⟨bf, 0, none⟩) n2 (n2 + 2), .slice (some ⟨bx, 0, none⟩) n3 (n3 + 2)]) ∧ (∃ R, LentM w' w.heap.size w'.heap.size m V bc bf bx R) ∧ Below w.heap.size w w' := by
  obtain ⟨g, hg⟩ : ∃ g, w.heap.size = g := ⟨_, rfl⟩
  have TW := Two.mk' w 26 #[.slice a1 n1 c1, .slice a2 n2 c2, .slice a3 n3 c3] #[.slice none 0 0, .slice none 0 0, .slice none 0 0]
  obtain ⟨w2, hw2⟩ : ∃ w2, (w.alloc (.cells #[.slice a1 n1 c1, .slice a2 n2 c2, .slice a3 n3 c3] 26)).alloc (.cells #[.slice none 0 0, .slice none 0 0, .slice none 0 0] 26) = w2 := ⟨_, rfl⟩
  rw [hw2, hg] at TW
  have z2 := TW.size
  have HT := hide TW
  have HTB : Hid (Below g w w2) := hide (by rw [← hg]; exact TW.below)
  have HM : Hid (∀ u, Below g w u → IsM u (fun b => b < B) m a1 c1 a2 c2 a3 c3 ∧ CsV u B m.cs a1 V ∧ B ≤ u.heap.size) := hide (fun u hu => by
    have hb : Below B w u := hu.mono (by omega)
    exact ⟨h.later hb, hV.later hb, by have := hu.size; omega⟩)
  have HN := hide (And.intro hn1 (And.intro hn2 hn3))
  have HBb : Hid (B ≤ g) := hide (by omega)
  obtain ⟨iv, hiv, hz0, hz1, hz2⟩ := info_parts infoLV
  obtain ⟨if_, hif, hf0, hf1, hf2⟩ := info_parts infoMF
  obtain ⟨ix, hix, hx0, hx1, hx2⟩ := info_parts infoMX
  have e1 : IntKind.i64.wrap ((n1 : Int) + 2) = (n1 : Int) + 2 := by rw [IntKind.wrap_i64]; omega
  have e2 : IntKind.i64.wrap ((n2 : Int) + 2) = (n2 : Int) + 2 := by rw [IntKind.wrap_i64]; omega
  have e3 : IntKind.i64.wrap ((n3 : Int) + 2) = (n3 : Int) + 2 := by rw [IntKind.wrap_i64]; omega
  obtain ⟨m0, m1, m2⟩ := row_cell3 TW.at0
  clear h hV hB hn1 hn2 hn3 TW
  go_enter Try.func5, Try.ntmps5
  go_upto_region 1 with fail
  try rw [hw2]
  clear hw2
  have tokA : True := trivial
  go_upto_region 2 with (first | (have _t := tokA; at_make; refine wpList_make_full _ rfl _ _ 22 rfl w2.heap.size 40 iv _ 5 Try.underlying22 hiv hz0 hz1 _ _ _ _ (n1 + 2) rfl rfl (by omega) (by omega) (by rw [hz2]; omega) (by unfold maxLen; omega) (Nat.le_refl _) ?_; intro w4 own4 gr4; clear tokA))
  obtain ⟨R0, hR0l, hR0k, hR0f⟩ := chunk 5 (n1 + 2) (madeCells (.agg #[.int .i64 0, .int .i64 0, .string ⟨#[]⟩, .slice none 0 0, .slice none 0 0] : Value).cells ((n1 + 2) * 5)).toList (by rw [Array.length_toList, size_madeCells])
  have hall := own_all own4
  rw [← hR0f] at hall
  have HL0 : Hid (LC w2 w4 w2.heap.size 0 (n1 + 2) m.cs V R0) := hide ⟨⟨hall, hR0k⟩, hR0l, fun j _ hj => by omega, fun j y _ hj => by omega, (Below.refl _ _).grown gr4 (Nat.le_refl _) (by simp)⟩
  obtain ⟨bc, hbc⟩ : ∃ bc, g + 2 = bc := ⟨_, rfl⟩
  rw [z2, hbc] at HL0
  rw [hbc]
  clear own4 gr4 hall hR0l hR0k hR0f m0 m1 m2
  go_wp2_with fail
  go_loopw [4] (fun x wr => ∃ (i : Nat) (R : List (List Value)), x = .int .i64 (i : Int) ∧ Hid (i ≤ n1 + 2) ∧ Hid (LC w2 wr bc i (n1 + 2) m.cs V R)) (fun x _ => n1 + 2 - (intOf x).toNat)
  case atStart => exact ⟨0, _, rfl, hide (by omega), HL0⟩
  case round =>
    clear HL0
    obtain ⟨i, R, rfl, HI, HR⟩ := hrel
    have hlr := (unhide HR).row.lt
    have r0 : wr.heap[g]? = some (.cells #[.slice a1 n1 c1, .slice a2 n2 c2, .slice a3 n3 c3] 26 (0, 0)) := ((unhide HR).below.block g (by omega)).trans (unhide HT).at0
    obtain ⟨m0, m1, m2⟩ := row_cell3 r0
    by_cases hlt : i < n1 + 2
    · have i1 : (i : Int) < (n1 : Int) + 2 := by omega
      have HI1 : Hid (i + 1 ≤ n1 + 2) := hide (by omega)
      obtain ⟨rr, hrr⟩ : ∃ rr, R[i]? = some rr := ⟨_, List.getElem?_eq_getElem (by rw [(unhide HR).rl]; exact hlt)⟩
      match rr, (unhide HR).row.len rr (List.mem_of_getElem? hrr), hrr with
      | [z0, z1, z2', z3, z4], _, hrr =>
      have y0 : wr.cell? ⟨bc, i * 5, none⟩ = some z0 := (unhide HR).row.cell i _ hrr 0 _ rfl
      have y1 : wr.cell? ⟨bc, i * 5 + 1, none⟩ = some z1 := (unhide HR).row.cell i _ hrr 1 _ rfl
      have y2 : wr.cell? ⟨bc, i * 5 + 2, none⟩ = some z2' := (unhide HR).row.cell i _ hrr 2 _ rfl
      have y3 : wr.cell? ⟨bc, i * 5 + 3, none⟩ = some z3 := (unhide HR).row.cell i _ hrr 3 _ rfl
      have y4 : wr.cell? ⟨bc, i * 5 + 4, none⟩ = some z4 := (unhide HR).row.cell i _ hrr 4 _ rfl
      have f0 := (unhide HR).row.fro (i * 5)
      have f1 := (unhide HR).row.fro (i * 5 + 1)
      have f2 := (unhide HR).row.fro (i * 5 + 2)
      have f3 := (unhide HR).row.fro (i * 5 + 3)
      have f4 := (unhide HR).row.fro (i * 5 + 4)
      go_upto_region 6 with fail
      obtain ⟨wm, hwm⟩ : ∃ wm, fiveSet wr bc i (.int .i64 2) (.int .i64 77) (.string ⟨#[]⟩) (.slice none 0 0) (.slice none 0 0) = wm := ⟨_, rfl⟩
      have hwm' := hwm
      unfold fiveSet at hwm'
      rw [hwm']
      obtain ⟨q1, q2, q3⟩ := fiveSet_facts wr bc i (.int .i64 2) (.int .i64 77) (.string ⟨#[]⟩) (.slice none 0 0) (.slice none 0 0)
      rw [hwm] at q1 q2 q3
      have HK : Hid (RowK wm bc 40 5 (R.set i markV) ∧ Below bc wr wm ∧ wm.heap.size = wr.heap.size ∧ ∀ c, c ≠ bc → wm.heap[c]? = wr.heap[c]?) := hide ⟨by
        rw [← hwm]
        exact (unhide HR).row.set5 i (by rw [(unhide HR).rl]; exact hlt) _ _ _ _ _, q3, q2, q1⟩
      have rm : wm.heap[g]? = some (.cells #[.slice a1 n1 c1, .slice a2 n2 c2, .slice a3 n3 c3] 26 (0, 0)) := (q1 g (by omega)).trans r0
      have hbm : Below g w wm := (unhide HTB).trans (((unhide HR).below.trans q3).mono (by omega))
      have HBM := hide hbm
      clear y0 y1 y2 y3 y4 f0 f1 f2 f3 f4 m0 m1 m2 hrr hwm hwm' q1 q2 q3 r0 hbm
      obtain ⟨m0, m1, m2⟩ := row_cell3 rm
      by_cases hil : i < n1
      · have j1 : (i : Int) < (n1 : Int) := by omega
        obtain ⟨y, hy⟩ : ∃ y, m.cs[i]? = some y := ⟨_, List.getElem?_eq_getElem (by have := (unhide HN).1; omega)⟩
        obtain ⟨hM, hC, hBm⟩ := unhide HM wm (unhide HBM)
        obtain ⟨av, q0, q1, q2, al', ak', ll', m', cl', ck', rfl, hab, hVi, hce, hve⟩ := hC i y hy
        rw [hVi] at hce hve
        have d0 : wm.cell? (av.add (i * 5)) = some (.int .i64 q0) := hce 0 _ rfl
        have d1 : wm.cell? ⟨(av.add (i * 5)).block, (av.add (i * 5)).off + 1, none⟩ = some (.int .i64 q1) := hce 1 _ rfl
        have d2 : wm.cell? ⟨(av.add (i * 5)).block, (av.add (i * 5)).off + 2, none⟩ = some (.string q2) := hce 2 _ rfl
        have d3 : wm.cell? ⟨(av.add (i * 5)).block, (av.add (i * 5)).off + 3, none⟩ = some (.slice al' ll' cl') := hce 3 _ rfl
        have d4 : wm.cell? ⟨(av.add (i * 5)).block, (av.add (i * 5)).off + 4, none⟩ = some (.slice ak' m' ck') := hce 4 _ rfl
        have CI := hide (lent_both y _ B wm hve hBm)
        have HY := hide (And.intro hy hVi)
        clear hce hve hy hVi hM hC hBm
        go_wp2_with fail
        refine (unhide CI).mono ?_
        rintro e u ⟨x', rfl, p2, b2⟩
        obtain ⟨k5, n5, s5, a5, a6, p5, q5, p6, q6, rfl⟩ := p2.shape
        have hlm : bc < wm.heap.size := (unhide HK).1.lt
        have HU : Hid (RowK u bc 40 5 (R.set i markV) ∧ LentOk u wm.heap.size u.heap.size y (.agg #[.int .i64 q0, .int .i64 q1, .string q2, .slice al' ll' cl', .slice ak' m' ck']) (.agg #[.int .i64 k5, .int .i64 n5, .string s5, .slice a5 p5 q5, .slice a6 p6 q6]) ∧ Below wm.heap.size wm u) := hide ⟨(unhide HK).1.later b2, p2, b2⟩
        clear p2 b2 CI d0 d1 d2 d3 d4 m0 m1 m2
        have hrs : (R.set i markV)[i]? = some [.int .i64 2, .int .i64 77, .string ⟨#[]⟩, .slice none 0 0, .slice none 0 0] := List.getElem?_set_self (by rw [(unhide HR).rl]; exact hlt)
        have y0 : u.cell? ⟨bc, i * 5, none⟩ = some (.int .i64 2) := (unhide HU).1.cell i _ hrs 0 _ rfl
        have y1 : u.cell? ⟨bc, i * 5 + 1, none⟩ = some (.int .i64 77) := (unhide HU).1.cell i _ hrs 1 _ rfl
        have y2 : u.cell? ⟨bc, i * 5 + 2, none⟩ = some (.string ⟨#[]⟩) := (unhide HU).1.cell i _ hrs 2 _ rfl
        have y3 : u.cell? ⟨bc, i * 5 + 3, none⟩ = some (.slice none 0 0) := (unhide HU).1.cell i _ hrs 3 _ rfl
        have y4 : u.cell? ⟨bc, i * 5 + 4, none⟩ = some (.slice none 0 0) := (unhide HU).1.cell i _ hrs 4 _ rfl
        have f0 := (unhide HU).1.fro (i * 5)
        have f1 := (unhide HU).1.fro (i * 5 + 1)
        have f2 := (unhide HU).1.fro (i * 5 + 2)
        have f3 := (unhide HU).1.fro (i * 5 + 3)
        have f4 := (unhide HU).1.fro (i * 5 + 4)
        clear hrs
        go_upto_region 4 with fail
        obtain ⟨wn, hwn⟩ : ∃ wn, fiveSet u bc i (.int .i64 k5) (.int .i64 n5) (.string s5) (.slice a5 p5 q5) (.slice a6 p6 q6) = wn := ⟨_, rfl⟩
        have hwn' := hwn
        unfold fiveSet at hwn'
        rw [hwn']
        obtain ⟨t1, t2, t3⟩ := fiveSet_facts u bc i (.int .i64 k5) (.int .i64 n5) (.string s5) (.slice a5 p5 q5) (.slice a6 p6 q6)
        rw [hwn] at t1 t2 t3
        have HL1 : Hid (LC w2 wn bc (i + 1) (n1 + 2) m.cs V (R.set i [.int .i64 k5, .int .i64 n5, .string s5, .slice a5 p5 q5, .slice a6 p6 q6])) := hide (by
          obtain ⟨u1, u2, u3⟩ := unhide HU
          obtain ⟨k1, k2, k3, k4⟩ := unhide HK
          refine (unhide HR).next hlt _ (fun c h1 h2 => (t1 c (by omega)).trans ((u3.block c (by omega)).trans (k4 c (by omega)))) (by have := u3.size; omega) (((unhide HR).below.trans k2).trans ((u3.mono (by omega)).trans t3)) ?_ (fun h => by have := (unhide HN).1; omega) (fun y' hy' => ?_)
          · rw [← hwn]
            have := u1.set5 i (by rw [List.length_set, (unhide HR).rl]; exact hlt) (.int .i64 k5) (.int .i64 n5) (.string s5) (.slice a5 p5 q5) (.slice a6 p6 q6)
            rw [set_set_same] at this
            exact this
          · obtain ⟨hy, hVi⟩ := unhide HY
            rw [hy] at hy'
            cases hy'
            rw [hVi]
            exact (u2.to (fun b hb1 hb2 => t1 b (by omega))).wide (by omega) (by omega))
        clear y0 y1 y2 y3 y4 f0 f1 f2 f3 f4 hwn hwn' t1 t2 t3
        go_wp2_with fail
        go_roundw
        case rel => exact ⟨i + 1, _, by go_num, HI1, HL1⟩
        case measure => have := unhide HI1; simp [intOf]; omega
      · have j1 : ¬ (i : Int) < (n1 : Int) := by omega
        have HL1 : Hid (LC w2 wm bc (i + 1) (n1 + 2) m.cs V (R.set i markV)) := hide (by
          obtain ⟨k1, k2, k3, k4⟩ := unhide HK
          exact (unhide HR).next hlt _ (fun c h1 h2 => k4 c (by omega)) (by omega) ((unhide HR).below.trans k2) k1 (fun _ => rfl) (fun y hy => by
            have := (List.getElem?_eq_some_iff.1 hy).1
            have := (unhide HN).1
            omega))
        go_wp2_with fail
        go_roundw
        case rel => exact ⟨i + 1, _, by go_num, HI1, HL1⟩
        case measure => have := unhide HI1; simp [intOf]; omega
    · have hin : i = n1 + 2 := by have := unhide HI; omega
      subst hin
      have i1 : ¬ ((n1 + 2 : Nat) : Int) < (n1 : Int) + 2 := by omega
      obtain ⟨wo, hwo⟩ : ∃ wo, wo = wr := ⟨_, rfl⟩
      subst hwo
      obtain ⟨bf, hbf⟩ : ∃ bf, wo.heap.size = bf := ⟨_, rfl⟩
      have tokB : True := trivial
      go_upto_region 9 with (first | (have _t := tokB; at_make; refine wpList_make_full _ rfl _ _ 23 rfl bf 43 if_ _ 4 Try.underlying23 hif hf0 hf1 _ _ _ _ (n2 + 2) rfl rfl (by omega) (by omega) (by rw [hf2]; omega) (by unfold maxLen; omega) (by omega) ?_; intro w6 own6 gr6; rw [hbf] at own6 ⊢; clear tokB))
      obtain ⟨F0, hF0l, hF0k, hF0f⟩ := chunk 4 (n2 + 2) (madeCells (.agg #[.int .i64 0, .int .i64 0, .int .i64 0, .string ⟨#[]⟩] : Value).cells ((n2 + 2) * 4)).toList (by rw [Array.length_toList, size_madeCells])
      have hall := own_all own6
      rw [← hF0f] at hall
      have H6 : Hid (RowK w6 bf 43 4 F0 ∧ F0.length = n2 + 2 ∧ Below bf wo w6) := hide ⟨⟨hall, hF0k⟩, hF0l, by
        have := (Below.refl wo.heap.size wo).grown gr6 (Nat.le_refl _) (by simp)
        rw [hbf] at this
        exact this⟩
      have hbwo : Below g w wo := (unhide HTB).trans ((unhide HR).below.mono (by omega))
      have HBO := hide hbwo
      have hgf : bc < bf := by have := hlr; omega
      have r6 : w6.heap[g]? = some (.cells #[.slice a1 n1 c1, .slice a2 n2 c2, .slice a3 n3 c3] 26 (0, 0)) := ((unhide H6).2.2.block g (by omega)).trans r0
      have HT6 : Hid (IsT w6 (fun b => b < B) 4 (m.fs.map fnV) a2 c2) := hide ((unhide HM w6 (hbwo.trans ((unhide H6).2.2.mono (by omega)))).1.hf)
      clear m0 m1 m2 own6 gr6 hall hF0l hF0k hF0f hbwo
      obtain ⟨m0, m1, m2⟩ := row_cell3 r6
      go_upto_region 10 with (first | (refine wpl_copyK rfl (.tmp 42) (.tmp 44) 23 43 if_ 4 (by rfl) Try.underlying23 hif hf1 bf n2 (n2 + 2) (n2 + 2) c2 a2 (m.fs.map fnV) F0 (by rfl) (by rfl) _ (unhide HT6) (fnV_rows m.fs) (by have := (unhide HN).2.1; simpa using this) (by omega) (unhide H6).1 (by have := (unhide H6).2.1; omega) ?_; intro w7 H7))
      have HF7 : Hid (∃ t1 t2, RowK w7 bf 43 4 (m.fs.map fnV ++ t1 :: t2 :: [])) := hide (by
        have h1 := (unhide H7).1
        have h2 : (F0.drop n2).length = 2 := by rw [List.length_drop, (unhide H6).2.1]; omega
        match hD : F0.drop n2, h2 with
        | [t1, t2], _ => rw [hD] at h1; exact ⟨t1, t2, h1⟩)
      have HB7 : Hid (Below bf wo w7 ∧ w7.heap.size = w6.heap.size ∧ bf < w6.heap.size) := hide ⟨(unhide H7).2.2.1 _ _ (unhide H6).2.2 (Nat.le_refl _), (unhide H7).2.1, (unhide H6).1.lt⟩
      have r7 : w7.heap[g]? = some (.cells #[.slice a1 n1 c1, .slice a2 n2 c2, .slice a3 n3 c3] 26 (0, 0)) := ((unhide HB7).1.block g (by omega)).trans r0
      clear m0 m1 m2 r6 H7 HT6 H6
      obtain ⟨m0, m1, m2⟩ := row_cell3 r7
      obtain ⟨bx, hbx⟩ : ∃ bx, w7.heap.size = bx := ⟨_, rfl⟩
      have tokC : True := trivial
      go_upto_region 11 with (first | (have _t := tokC; at_make; refine wpList_make_full _ rfl _ _ 24 rfl bx 45 ix _ 2 Try.underlying24 hix hx0 hx1 _ _ _ _ (n3 + 2) rfl rfl (by omega) (by omega) (by rw [hx2]; omega) (by unfold maxLen; omega) (by omega) ?_; intro w8 own8 gr8; rw [hbx] at own8 ⊢; clear tokC))
      obtain ⟨X0, hX0l, hX0k, hX0f⟩ := chunk 2 (n3 + 2) (madeCells (.agg #[.string ⟨#[]⟩, .int .i64 0] : Value).cells ((n3 + 2) * 2)).toList (by rw [Array.length_toList, size_madeCells])
      have hall := own_all own8
      rw [← hX0f] at hall
      have H8 : Hid (RowK w8 bx 45 2 X0 ∧ X0.length = n3 + 2 ∧ Below bx w7 w8) := hide ⟨⟨hall, hX0k⟩, hX0l, by
        have := (Below.refl w7.heap.size w7).grown gr8 (Nat.le_refl _) (by simp)
        rw [hbx] at this
        exact this⟩
      have hfx : bf < bx := by have := (unhide HB7).2; omega
      have HB8 : Hid (Below bf wo w8) := hide ((unhide HB7).1.trans ((unhide H8).2.2.mono (by omega)))
      have r8 : w8.heap[g]? = some (.cells #[.slice a1 n1 c1, .slice a2 n2 c2, .slice a3 n3 c3] 26 (0, 0)) := ((unhide HB8).block g (by omega)).trans r0
      have HT8 : Hid (IsT w8 (fun b => b < B) 2 (m.xs.map exV) a3 c3) := hide ((unhide HM w8 ((unhide HBO).trans ((unhide HB8).mono (by omega)))).1.hx)
      clear m0 m1 m2 own8 gr8 hall hX0l hX0k hX0f r7
      obtain ⟨m0, m1, m2⟩ := row_cell3 r8
      go_upto_region 12 with (first | (refine wpl_copyK rfl (.tmp 51) (.tmp 53) 24 45 ix 2 (by rfl) Try.underlying24 hix hx1 bx n3 (n3 + 2) (n3 + 2) c3 a3 (m.xs.map exV) X0 (by rfl) (by rfl) _ (unhide HT8) (exV_rows m.xs) (by have := (unhide HN).2.2; simpa using this) (by omega) (unhide H8).1 (by have := (unhide H8).2.1; omega) ?_; intro w9 H9))
      have HX9 : Hid (∃ t1 t2, RowK w9 bx 45 2 (m.xs.map exV ++ t1 :: t2 :: [])) := hide (by
        have h1 := (unhide H9).1
        have h2 : (X0.drop n3).length = 2 := by rw [List.length_drop, (unhide H8).2.1]; omega
        match hD : X0.drop n3, h2 with
        | [t1, t2], _ => rw [hD] at h1; exact ⟨t1, t2, h1⟩)
      have HI9 : Hid (∃ Tf Tx, RowK w9 bf 43 4 (m.fs.map fnV ++ List.replicate 0 markF ++ Tf) ∧ Tf.length = 2 - 0 ∧ RowK w9 bx 45 2 (m.xs.map exV ++ List.replicate 0 markX ++ Tx) ∧ Tx.length = 2 - 0 ∧ Below bf wo w9) := hide (by
        obtain ⟨t1, t2, h1⟩ := unhide HF7
        obtain ⟨s1, s2, h2⟩ := unhide HX9
        refine ⟨[t1, t2], [s1, s2], ?_, rfl, ?_, rfl, (unhide H9).2.2.1 _ _ (unhide HB8) (by omega)⟩
        · have h3 : RowK w9 bf 43 4 (m.fs.map fnV ++ [t1, t2]) := h1.to (((unhide H9).2.2.2 bf (by omega)).trans ((unhide H8).2.2.block bf (by omega)))
          simpa using h3
        · simpa using h2)
      clear m0 m1 m2 r8 H9 HT8 H8 HX9 HF7 HB8 HB7
      go_wp2_with fail
      go_loopw [7] (fun x wr => ∃ (i : Nat), x = .int .i64 (i : Int) ∧ Hid (i ≤ 2) ∧ Hid (∃ Tf Tx, RowK wr bf 43 4 (m.fs.map fnV ++ List.replicate i markF ++ Tf) ∧ Tf.length = 2 - i ∧ RowK wr bx 45 2 (m.xs.map exV ++ List.replicate i markX ++ Tx) ∧ Tx.length = 2 - i ∧ Below bf wo wr)) (fun x _ => 2 - (intOf x).toNat)
      case atStart => exact ⟨0, rfl, hide (by omega), HI9⟩
      case round =>
        clear HI9
        obtain ⟨i, rfl, HJ, HX⟩ := hrel
        obtain ⟨Tf, Tx, x1, x2, x3, x4, x5⟩ := unhide HX
        have rx : wr.heap[g]? = some (.cells #[.slice a1 n1 c1, .slice a2 n2 c2, .slice a3 n3 c3] 26 (0, 0)) := (x5.block g (by omega)).trans r0
        obtain ⟨m0, m1, m2⟩ := row_cell3 rx
        by_cases hlt2 : i < 2
        · have i2 : (i : Int) < 2 := by omega
          have HJ1 : Hid (i + 1 ≤ 2) := hide (by omega)
          obtain ⟨tf, Tf', rfl⟩ : ∃ t T, Tf = t :: T := by
            cases Tf with
            | nil => simp at x2; omega
            | cons t T => exact ⟨t, T, rfl⟩
          obtain ⟨tx, Tx', rfl⟩ : ∃ t T, Tx = t :: T := by
            cases Tx with
            | nil => simp at x4; omega
            | cons t T => exact ⟨t, T, rfl⟩
          obtain ⟨qf, hqf⟩ : ∃ q, n2 + i = q := ⟨_, rfl⟩
          obtain ⟨qx, hqx⟩ : ∃ q, n3 + i = q := ⟨_, rfl⟩
          have o1 : IntKind.i64.wrap ((n2 : Int) + (i : Int)) = (qf : Int) := by rw [IntKind.wrap_i64]; omega
          have o2 : IntKind.i64.wrap ((n3 : Int) + (i : Int)) = (qx : Int) := by rw [IntKind.wrap_i64]; omega
          have o3 : (qf : Int) < (n2 : Int) + 2 := by omega
          have o4 : (qx : Int) < (n3 : Int) + 2 := by omega
          have hlf : (m.fs.map fnV ++ List.replicate i markF).length = qf := by have := (unhide HN).2.1; simp; omega
          have hlx : (m.xs.map exV ++ List.replicate i markX).length = qx := by have := (unhide HN).2.2; simp; omega
          have hrf : (m.fs.map fnV ++ List.replicate i markF ++ tf :: Tf')[qf]? = some tf := by rw [List.getElem?_append_right (by omega), hlf, Nat.sub_self]; rfl
          have hrx : (m.xs.map exV ++ List.replicate i markX ++ tx :: Tx')[qx]? = some tx := by rw [List.getElem?_append_right (by omega), hlx, Nat.sub_self]; rfl
          match tf, x1.len tf (List.mem_of_getElem? hrf), tx, x3.len tx (List.mem_of_getElem? hrx), x1, x2, x3, x4, hrf, hrx, HX with
          | [z0, z1, z2', z3], _, [v0, v1], _, x1, x2, x3, x4, hrf, hrx, HX =>
          have y0 : wr.cell? ⟨bf, qf * 4, none⟩ = some z0 := x1.cell qf _ hrf 0 _ rfl
          have y1 : wr.cell? ⟨bf, qf * 4 + 1, none⟩ = some z1 := x1.cell qf _ hrf 1 _ rfl
          have y2 : wr.cell? ⟨bf, qf * 4 + 2, none⟩ = some z2' := x1.cell qf _ hrf 2 _ rfl
          have y3 : wr.cell? ⟨bf, qf * 4 + 3, none⟩ = some z3 := x1.cell qf _ hrf 3 _ rfl
          have f0 := x1.fro (qf * 4)
          have f1 := x1.fro (qf * 4 + 1)
          have f2 := x1.fro (qf * 4 + 2)
          have f3 := x1.fro (qf * 4 + 3)
          have HL := hide (And.intro hlf (And.intro hlx (And.intro hqf hqx)))
          clear hrf hlf hlx hqf hqx
          go_upto_region 16 with fail
          obtain ⟨wa, hwa⟩ : ∃ wa, (((wr.setCell ⟨bf, qf * 4, none⟩ (.int .i64 77)).setCell ⟨bf, qf * 4 + 1, none⟩ (.int .i64 0)).setCell ⟨bf, qf * 4 + 2, none⟩ (.int .i64 0)).setCell ⟨bf, qf * 4 + 3, none⟩ (.string ⟨#[]⟩) = wa := ⟨_, rfl⟩
          rw [hwa]
          have HA : Hid (RowK wa bf 43 4 (m.fs.map fnV ++ List.replicate (i + 1) markF ++ Tf') ∧ (∀ c, c ≠ bf → wa.heap[c]? = wr.heap[c]?) ∧ Below bf wo wa) := hide (by
            refine ⟨?_, fun c hc => ?_, ?_⟩
            · rw [← hwa]
              have h1 := x1.set4 qf (by have := (unhide HL).1; rw [List.length_append, this]; simp) (.int .i64 77) (.int .i64 0) (.int .i64 0) (.string ⟨#[]⟩)
              have h2 := set_mid (m.fs.map fnV ++ List.replicate i markF) [z0, z1, z2', z3] markF Tf'
              rw [(unhide HL).1] at h2
              have h3 : m.fs.map fnV ++ List.replicate (i + 1) markF ++ Tf' = m.fs.map fnV ++ List.replicate i markF ++ markF :: Tf' := by simp [List.replicate_succ']
              rw [h3, ← h2]
              exact h1
            · rw [← hwa, heap_setCell_other _ _ _ _ hc, heap_setCell_other _ _ _ _ hc, heap_setCell_other _ _ _ _ hc, heap_setCell_other _ _ _ _ hc]
            · rw [← hwa]
              exact (((x5.setCell (p := ⟨bf, qf * 4, none⟩) (Nat.le_refl _) _).setCell (p := ⟨bf, qf * 4 + 1, none⟩) (Nat.le_refl _) _).setCell (p := ⟨bf, qf * 4 + 2, none⟩) (Nat.le_refl _) _).setCell (p := ⟨bf, qf * 4 + 3, none⟩) (Nat.le_refl _) _)
          have ra : wa.heap[g]? = some (.cells #[.slice a1 n1 c1, .slice a2 n2 c2, .slice a3 n3 c3] 26 (0, 0)) := ((unhide HA).2.1 g (by omega)).trans rx
          have xa : RowK wa bx 45 2 (m.xs.map exV ++ List.replicate i markX ++ [v0, v1] :: Tx') := x3.to ((unhide HA).2.1 bx (by omega))
          clear y0 y1 y2 y3 f0 f1 f2 f3 m0 m1 m2 hwa
          obtain ⟨m0, m1, m2⟩ := row_cell3 ra
          have y0 : wa.cell? ⟨bx, qx * 2, none⟩ = some v0 := xa.cell qx _ hrx 0 _ rfl
          have y1 : wa.cell? ⟨bx, qx * 2 + 1, none⟩ = some v1 := xa.cell qx _ hrx 1 _ rfl
          have f0 := xa.fro (qx * 2)
          have f1 := xa.fro (qx * 2 + 1)
          clear hrx
          go_upto_region 14 with fail
          obtain ⟨wb, hwb⟩ : ∃ wb, (wa.setCell ⟨bx, qx * 2, none⟩ (.string ⟨#[]⟩)).setCell ⟨bx, qx * 2 + 1, none⟩ (.int .i64 77) = wb := ⟨_, rfl⟩
          rw [hwb]
          have HX2 : Hid (∃ Tf Tx, RowK wb bf 43 4 (m.fs.map fnV ++ List.replicate (i + 1) markF ++ Tf) ∧ Tf.length = 2 - (i + 1) ∧ RowK wb bx 45 2 (m.xs.map exV ++ List.replicate (i + 1) markX ++ Tx) ∧ Tx.length = 2 - (i + 1) ∧ Below bf wo wb) := hide (by
            refine ⟨Tf', Tx', ?_, by simp at x2; omega, ?_, by simp at x4; omega, ?_⟩
            · exact (unhide HA).1.to (by rw [← hwb, heap_setCell_other _ _ _ _ (show bf ≠ bx by omega), heap_setCell_other _ _ _ _ (show bf ≠ bx by omega)])
            · rw [← hwb]
              have h1 := xa.set2 qx (by have := (unhide HL).2.1; rw [List.length_append, this]; simp) (.string ⟨#[]⟩) (.int .i64 77)
              have h2 := set_mid (m.xs.map exV ++ List.replicate i markX) [v0, v1] markX Tx'
              rw [(unhide HL).2.1] at h2
              have h3 : m.xs.map exV ++ List.replicate (i + 1) markX ++ Tx' = m.xs.map exV ++ List.replicate i markX ++ markX :: Tx' := by simp [List.replicate_succ']
              rw [h3, ← h2]
              exact h1
            · rw [← hwb]
              exact ((unhide HA).2.2.setCell (p := ⟨bx, qx * 2, none⟩) (by show bf ≤ bx; omega) _).setCell (p := ⟨bx, qx * 2 + 1, none⟩) (by show bf ≤ bx; omega) _)
          clear y0 y1 f0 f1 hwb xa x1 x2 x3 x4 HA
          go_wp2_with fail
          go_roundw
          case rel => exact ⟨i + 1, by go_num, HJ1, HX2⟩
          case measure => have := unhide HJ1; simp [intOf]; omega
        · have hi2 : i = 2 := by have := unhide HJ; omega
          subst hi2
          have i2 : ¬ ((2 : Nat) : Int) < 2 := by omega
          have s1 : (n1 : Int) ≤ (n1 : Int) + 2 := by omega
          have s2 : (n2 : Int) ≤ (n2 : Int) + 2 := by omega
          have s3 : (n3 : Int) ≤ (n3 : Int) + 2 := by omega
          have s4 : n1 ≤ n1 + 2 := by omega
          have s5 : n2 ≤ n2 + 2 := by omega
          have s6 : n3 ≤ n3 + 2 := by omega
          have rr : wr.heap[g + 1]? = some (.cells #[.slice none 0 0, .slice none 0 0, .slice none 0 0] 26 (0, 0)) := (x5.block (g + 1) (by omega)).trans (((unhide HR).below.block (g + 1) (by omega)).trans (unhide HT).at1)
          obtain ⟨p0, p1, p2⟩ := row_cell3 rr
          have pf0 := frozen_of_row wr (g + 1) 0 _ _ rr
          have pf1 := frozen_of_row wr (g + 1) 1 _ _ rr
          have pf2 := frozen_of_row wr (g + 1) 2 _ _ rr
          have HR9 := hide rr
          have HX5 := hide (And.intro x1 (And.intro x2 (And.intro x3 (And.intro x4 x5))))
          clear x1 x2 x3 x4 x5 rr HX
          go_upto_region 17 with fail
          go_region
          obtain ⟨wz, hwz⟩ : ∃ wz, (((wr.setCell ⟨g + 1, 0, none⟩ (.slice (some ⟨bc, 0, none⟩) n1 (n1 + 2))).setCell ⟨g + 1, 1, none⟩ (.slice (some ⟨bf, 0, none⟩) n2 (n2 + 2))).setCell ⟨g + 1, 2, none⟩ (.slice (some ⟨bx, 0, none⟩) n3 (n3 + 2))).drew = wz := ⟨_, rfl⟩
          have F9 : wz.heap[g + 1]? = some (.cells #[.slice (some ⟨bc, 0, none⟩) n1 (n1 + 2), .slice (some ⟨bf, 0, none⟩) n2 (n2 + 2), .slice (some ⟨bx, 0, none⟩) n3 (n3 + 2)] 26 (0, 0)) := by rw [← hwz]; exact three_set wr (g + 1) _ _ _ _ _ _ _ (unhide HR9)
          have G9 : Hid (∀ c, c ≠ g + 1 → wz.heap[c]? = wr.heap[c]?) := hide (fun c hc => by
            rw [← hwz]
            show (((wr.setCell ⟨g + 1, 0, none⟩ _).setCell ⟨g + 1, 1, none⟩ _).setCell ⟨g + 1, 2, none⟩ _).heap[c]? = _
            rw [heap_setCell_other _ _ _ _ hc, heap_setCell_other _ _ _ _ hc, heap_setCell_other _ _ _ _ hc])
          have S9 : Hid (wz.heap.size = wr.heap.size ∧ Below g w wz) := hide (by
            have hx := (unhide HX5).2.2.2.2
            have hb : Below g w wr := (unhide HBO).trans (hx.mono (by omega))
            rw [← hwz]
            exact ⟨by simp, (((hb.setCell (p := ⟨g + 1, 0, none⟩) (by show g ≤ g + 1; omega) _).setCell (p := ⟨g + 1, 1, none⟩) (by show g ≤ g + 1; omega) _).setCell (p := ⟨g + 1, 2, none⟩) (by show g ≤ g + 1; omega) _).drew⟩)
          rw [hwz]
          clear hwz m0 m1 m2 p0 p1 p2 pf0 pf1 pf2
          obtain ⟨t0, t1, t2⟩ := row_cell3 F9
          clear F9
          go_wp2_with fail
          refine bodyPost_ret (v := .agg #[.slice (some ⟨bc, 0, none⟩) n1 (n1 + 2), .slice (some ⟨bf, 0, none⟩) n2 (n2 + 2), .slice (some ⟨bx, 0, none⟩) n3 (n3 + 2)]) (by simp [results, Try.results5, go_sem, t0, t1, t2]) rfl ?_
          obtain ⟨x1, x2, x3, x4, x5⟩ := unhide HX5
          obtain ⟨s9, b9⟩ := unhide S9
          have hTf : Tf = [] := List.eq_nil_of_length_eq_zero (by omega)
          have hTx : Tx = [] := List.eq_nil_of_length_eq_zero (by omega)
          rw [hTf, List.append_nil] at x1
          rw [hTx, List.append_nil] at x3
          have hcl := (unhide HN).1
          have hR2 := split2 R n1 markV markV (unhide HR).rl ((unhide HR).hm n1 (by omega) (by omega)) ((unhide HR).hm (n1 + 1) (by omega) (by omega))
          have hkeep : ∀ b, g + 1 < b → b < bf → wz.heap[b]? = wo.heap[b]? := fun b h1 h2 => (unhide G9 b (by omega)).trans (x5.block b h2)
          have hxs : bx < wr.heap.size := x3.lt
          have hL : LentM wz g wz.heap.size m V bc bf bx (R.take n1) := by
            refine ⟨?_, by rw [List.length_take, (unhide HR).rl]; omega, fun j y hy => ?_, ?_, ?_, ⟨by omega, by omega⟩, ⟨by omega, by omega⟩, ⟨by omega, by omega⟩, Nat.le_refl _⟩
            · rw [← hR2]
              exact (unhide HR).row.to (hkeep bc (by omega) hgf)
            · have hj : j < n1 := by have := (List.getElem?_eq_some_iff.1 hy).1; omega
              obtain ⟨r, h1, h2⟩ := (unhide HR).el j y hy (by omega)
              exact ⟨r, by rw [List.getElem?_take_of_lt hj]; exact h1, (h2.to (fun b hb1 hb2 => hkeep b (by omega) (by omega))).wide (by omega) (by omega)⟩
            · exact x1.to (unhide G9 bf (by omega))
            · exact x3.to (unhide G9 bx (by omega))
          refine ⟨bc, bf, bx, rfl, ⟨R.take n1, ?_⟩, ?_⟩
          · first | exact hL | (rw [hg]; exact hL)
          · first | exact b9 | (rw [hg]; exact b9)
end Go.Proofs.Ytpdfggjhedgdlaa
