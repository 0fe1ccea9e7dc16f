/-
  What leads from some entries to others leads there, and nothing leads from a row to itself (StateLeadsSaid); no condition but the form's own reach.
-/
import Derived.Test.YtjhnbopejnpbeaaRows
import Derived.Test.YtjhnbopejnpbeaaA31
import Derived.Test.YtjhnbopejnpbeaaA49
import Derived.Test.YtjhnbopejnpbeaaA50
import Derived.Test.YtjhnbopejnpbeaaA51
import Derived.Test.YtjhnbopejnpbeaaA52
import Derived.ShutString
import Derived.ChangeOld
import Derived.Deep.RegionHeld3
import Derived.BigQuiet
set_option linter.unusedVariables false
set_option linter.unusedSimpArgs false
namespace Go.Proofs.Ytjhnbopejnpbeaa.stateLeads
open Go.ChangeShapes Go.WideShapes Go.ChangeAt Go.RowKit
set_option linter.unusedVariables false

theorem own : ownKnob Try.prog.godebug = none := by kernel_rfl
theorem laidOut : laidOutB Try.prog = true := by kernel_rfl

theorem chI_key (es fs : List En) (x : Option Nat × Option Nat) : ∀ c ∈ chI es fs x, (∃ e ∈ es, c.1 = e.1) ∨ ∃ e ∈ fs, c.1 = e.1 := by
  obtain ⟨a, b⟩ := x
  intro c hc
  cases a with
  | none =>
    cases b with
    | none => cases hc
    | some j =>
      cases hj : fs[j]? with
      | none => simp [chI, hj] at hc
      | some f => simp [chI, hj] at hc; subst hc; exact Or.inr ⟨f, List.mem_of_getElem? hj, rfl⟩
  | some i =>
    cases b with
    | none =>
      cases hi : es[i]? with
      | none => simp [chI, hi] at hc
      | some f => simp [chI, hi] at hc; subst hc; exact Or.inl ⟨f, List.mem_of_getElem? hi, rfl⟩
    | some j =>
      cases hj : fs[j]? with
      | none => simp [chI, hj] at hc
      | some f =>
        unfold chI at hc
        dsimp only at hc
        split at hc
        · cases hc
        · rw [hj] at hc
          simp at hc
          subst hc
          exact Or.inr ⟨f, List.mem_of_getElem? hj, rfl⟩

theorem diffL_key {es fs : List En} (h : rightE es = true) (h' : rightE fs = true) : ∀ c ∈ diffL es fs, c.1.size ≤ 140737488351232 := by
  intro c hc
  unfold diffL diffB at hc
  rw [h, h'] at hc
  simp only [Bool.and_self, if_pos, List.mem_flatMap] at hc
  obtain ⟨x, _, hx⟩ := hc
  have hk : ∀ l : List En, rightE l = true → ∀ e ∈ l, e.1.size ≤ 140737488351232 := fun l hl e he => by
    have := (right_len hl).2 e he
    unfold entB at this
    simp only [Bool.and_eq_true, decide_eq_true_eq] at this
    have := this.1.2
    omega
  rcases chI_key es fs x c hx with ⟨e, he, hce⟩ | ⟨e, he, hce⟩
  · rw [hce]; exact hk es h e he
  · rw [hce]; exact hk fs h' e he

set_option maxRecDepth 100000 in
set_option maxHeartbeats 1000000 in
theorem walk_no (es fs : List En) (al bl : Option Addr) (n m ca cb B : Nat) (w : World) (hn : es.length = n) (hm : fs.length = m) (h : IsE w (fun b => b < B) es al ca) (h' : IsE w (fun b => b < B) fs bl cb) (hB : B ≤ w.heap.size) (hno : diffB es fs = false) :
    Calls Try.prog 5 #[.slice al n ca, .slice bl m cb] w fun e w' => e = .returned (.bool true) ∧ Below w.heap.size w w' := by
  have CS := hide (shown_any w)
  have e1 : codeD es fs = 70 := by unfold codeD; rw [hno]; rfl
  have e2 : diffL es fs = [] := by unfold diffL; rw [hno]; rfl
  have CE : Hid (∀ u, Below w.heap.size w u → Calls Try.prog 8 #[.slice al n ca, .slice bl m cb] u fun e w' => ∃ o k, e = .returned (.tuple #[.slice o 0 k, .int .i64 70]) ∧ Below u.heap.size u w') := hide (fun u hu => by
    have := diffE_any es fs al bl n ca m cb B u hn hm (h.later (hu.mono hB)) (h'.later (hu.mono hB)) (Nat.le_trans hB hu.size)
    rw [e1, e2] at this
    refine this.mono ?_
    rintro e w' ⟨sv, cs, rfl, hC, hc, hb⟩
    have : cs = [] := List.map_eq_nil_iff.1 hc
    subst this
    rcases hC.row.2 with ⟨e, e2⟩ | ⟨g, cap, cur, e, _⟩
    · exact ⟨none, 0, by rw [e], hb⟩
    · exact ⟨_, _, by rw [e]; rfl, hb⟩)
  clear h h' hn hm hno e1 e2
  go_enter Try.func5, Try.ntmps5
  go_wp2_with fail
  refine (unhide CS).mono ?_
  rintro e u ⟨rfl, b1⟩
  have B1 := hide b1
  have C2 := hide (unhide CE u b1)
  clear b1 CE CS
  go_wp2_with fail
  refine (unhide C2).mono ?_
  rintro e u2 ⟨o, k, rfl, b2⟩
  have B2 := hide ((unhide B1).trans (b2.mono (unhide B1).size))
  clear b2 C2
  go_wp2_with fail
  go_ret
  exact ⟨by simp, unhide B2⟩

set_option maxRecDepth 100000 in
set_option maxHeartbeats 2000000 in
theorem walk_yes (es fs : List En) (al bl : Option Addr) (n m ca cb B : Nat) (w : World) (hn : es.length = n) (hm : fs.length = m) (h : IsE w (fun b => b < B) es al ca) (h' : IsE w (fun b => b < B) fs bl cb) (hB : B ≤ w.heap.size) (hr : rightE es = true) (hr' : rightE fs = true) :
    Calls Try.prog 5 #[.slice al n ca, .slice bl m cb] w fun e w' => e = .returned (.bool true) ∧ Below w.heap.size w w' := by
  have CS := hide (shown_any w)
  have hd : diffB es fs = true := by unfold diffB; rw [hr, hr']; rfl
  have hd0 : diffB es es = true := by unfold diffB; rw [hr]; rfl
  have e1 : codeD es fs = 0 := by unfold codeD; rw [hd]; rfl
  have e0 : codeD es es = 0 := by unfold codeD; rw [hd0]; rfl
  obtain ⟨L1, L2, L3⟩ := leads_right es fs hr hr'
  have hlen : (diffL es fs).length ≤ 256 := by
    rw [diffL_df es fs hd]
    have := dfL_len (es.length + fs.length) es fs
    have := (right_len hr).1
    have := (right_len hr').1
    omega
  have hst : stepsE (keysH (diffL es fs)) = true := by
    rw [diffL_df es fs hd]
    exact dfL_steps _ _ _ (rightE_up hr).1 (rightE_up hr').1
  obtain ⟨DL, hDL⟩ : ∃ DL, diffL es fs = DL := ⟨_, rfl⟩
  have hkey := diffL_key hr hr'
  rw [hDL] at hkey hst hlen L1 L3
  obtain ⟨L1a, L1b⟩ := L1 (n + DL.length) (by rw [hn]; exact Nat.le_refl _)
  have CE : Hid (∀ u, Below w.heap.size w u → Calls Try.prog 8 #[.slice al n ca, .slice bl m cb] u fun e w' => ∃ o k, e = .returned (.tuple #[.slice o DL.length k, .int .i64 0]) ∧ IsH w' (fun b => b < w'.heap.size) DL o k ∧ Below u.heap.size u w') := hide (fun u hu => by
    have := diffE_any es fs al bl n ca m cb B u hn hm (h.later (hu.mono hB)) (h'.later (hu.mono hB)) (Nat.le_trans hB hu.size)
    rw [e1, hDL] at this
    refine this.mono ?_
    rintro e w' ⟨sv, cs, rfl, hC, hc, hb⟩
    obtain ⟨o, k, rfl, hH⟩ := hC.isH (fun p hp => hkey (chOf p) (by rw [← hc]; exact List.mem_map_of_mem hp)) (by rw [← hc, List.length_map] at hlen; omega)
    rw [hc] at hH
    exact ⟨o, k, by rw [← hc, List.length_map], hH, hb⟩)
  have C0 : Hid (∀ u, Below w.heap.size w u → Calls Try.prog 8 #[.slice al n ca, .slice al n ca] u fun e w' => ∃ o k, e = .returned (.tuple #[.slice o 0 k, .int .i64 0]) ∧ Below u.heap.size u w') := hide (fun u hu => by
    have := diffE_any es es al al n ca n ca B u hn hn (h.later (hu.mono hB)) (h.later (hu.mono hB)) (Nat.le_trans hB hu.size)
    rw [e0, L2] at this
    refine this.mono ?_
    rintro e w' ⟨sv, cs, rfl, hC, hc, hb⟩
    have : cs = [] := List.map_eq_nil_iff.1 hc
    subst this
    rcases hC.row.2 with ⟨e, e2⟩ | ⟨g, cap, cur, e, _⟩
    · exact ⟨none, 0, by rw [e], hb⟩
    · exact ⟨_, _, by rw [e]; rfl, hb⟩)
  have hfk : ∀ e ∈ fs, e.1.size ≤ 140737488351232 := fun e he => by
    have := (right_len hr').2 e he
    unfold entB at this
    simp only [Bool.and_eq_true, decide_eq_true_eq] at this
    have := this.1.2
    omega
  have CA : Hid (∀ u o k, Below w.heap.size w u → IsH u (fun b => b < u.heap.size) DL o k → Calls Try.prog 14 #[.slice al n ca, .slice o DL.length k] u fun e w' => ∃ o' k', e = .returned (.tuple #[.slice o' m k', .int .i64 0]) ∧ IsE w' (fun b => b < w'.heap.size) fs o' k' ∧ Below u.heap.size u w') := hide (fun u o k hu hH => by
    refine (applyE_right es DL al o n ca DL.length k u.heap.size u hn rfl ((h.later (hu.mono hB)).weak (fun b hb => Nat.lt_of_lt_of_le hb (Nat.le_trans hB hu.size))) hH (Nat.le_refl _) (by omega) hr hst).mono ?_
    rintro e w' ⟨sv, xs, c, rfl, hN, hb, ha⟩
    unfold ApAns at ha
    rw [L1a, L1b, hr'] at ha
    obtain ⟨rfl, hx⟩ := ha
    have hl : xs.length = m := by rw [← hm, ← hx, List.length_map]
    obtain ⟨o', k', rfl, hE⟩ := hN.isE (fun p hp => hfk (enOf p) (by rw [← hx]; exact List.mem_map_of_mem hp)) (by have := (right_len hr').1; omega)
    rw [hx] at hE
    exact ⟨o', k', by rw [hl], hE, hb⟩)
  have CQ : Hid (∀ u, Below w.heap.size w u → Calls Try.prog 16 #[.slice al n ca, .slice bl m cb] u fun e w' => ResEq es fs u e w') := hide (fun u hu => entries_any es fs al bl n m ca cb B u hn hm (h.later (hu.mono hB)) (h'.later (hu.mono hB)) (Nat.le_trans hB hu.size))
  have CB : Hid (∀ u o k, Below w.heap.size w u → IsE u (fun b => b < u.heap.size) fs o k → Calls Try.prog 16 #[.slice o m k, .slice bl m cb] u fun e w' => ResEq fs fs u e w') := hide (fun u o k hu hE => entries_any fs fs o bl m m k cb u.heap.size u hm hm hE ((h'.later (hu.mono hB)).weak (fun b hb => Nat.lt_of_lt_of_le hb (Nat.le_trans hB hu.size))) (Nat.le_refl _))
  obtain ⟨d, hdd⟩ : ∃ d, DL.length = d := ⟨_, rfl⟩
  have HL3 : Hid (d = 0 ↔ es = fs) := hide (by rw [← L3, ← hdd]; exact List.length_eq_zero_iff)
  rw [hdd] at CE CA
  clear h h' hn hm hr hr' hd hd0 e1 e0 L1 L2 L3 L1a L1b hlen hst hkey hDL hfk hdd
  go_enter Try.func5, Try.ntmps5
  go_wp2_with fail
  refine (unhide CS).mono ?_
  rintro e u ⟨rfl, b1⟩
  have B1 := hide b1
  have C2 := hide (unhide CE u b1)
  clear b1 CE CS
  go_wp2_with fail
  refine (unhide C2).mono ?_
  rintro e u2 ⟨o, k, rfl, hH, b2⟩
  have B2 := hide ((unhide B1).trans (b2.mono (unhide B1).size))
  have C3 := hide (unhide CA u2 o k (unhide B2) hH)
  clear b2 C2 hH CA
  go_wp2_with fail
  refine (unhide C3).mono ?_
  rintro e u3 ⟨o', k', rfl, hE, b3⟩
  have B3 := hide ((unhide B2).trans (b3.mono (unhide B2).size))
  have C4 := hide (unhide C0 u3 (unhide B3))
  have HE := hide hE
  clear b3 C3 hE C0
  go_wp2_with fail
  refine (unhide C4).mono ?_
  rintro e u4 ⟨o4, k4, rfl, b4⟩
  have B4 := hide ((unhide B3).trans (b4.mono (unhide B3).size))
  have C5 := hide (unhide CB u4 o' k' (unhide B4) ((unhide HE).to (fun b hb => b4.block b hb) (fun b hb => Nat.lt_of_lt_of_le hb b4.size)))
  clear b4 C4 HE CB
  go_wp2_with fail
  refine (unhide C5).mono ?_
  rintro e u5 ⟨r5, rfl, h5, b5⟩
  obtain rfl : r5 = true := h5.2 rfl
  have B5 := hide ((unhide B4).trans (b5.mono (unhide B4).size))
  have C6 := hide (unhide CQ u5 (unhide B5))
  clear b5 C5 h5 CQ
  by_cases hab : es = fs
  · have hd : d = 0 := (unhide HL3).2 hab
    subst hd
    have HAB := hide hab
    clear hab
    go_wp2_with fail
    refine (unhide C6).mono ?_
    rintro e u6 ⟨r6, rfl, h6, b6⟩
    obtain rfl : r6 = true := h6.2 (unhide HAB)
    have B6 := hide ((unhide B5).trans (b6.mono (unhide B5).size))
    clear b6 h6
    go_wp2_with fail
    go_ret
    exact ⟨by simp, unhide B6⟩
  · have hd : ¬ (d : Int) = 0 := fun e => hab ((unhide HL3).1 (by omega))
    have hd1 : ((d : Int) == 0) = false := beq_eq_false_iff_ne.2 hd
    have HAB := hide hab
    clear hab
    go_wp2_with fail
    refine (unhide C6).mono ?_
    rintro e u6 ⟨r6, rfl, h6, b6⟩
    obtain rfl : r6 = false := by
      cases r6 with
      | false => rfl
      | true => exact absurd (h6.1 rfl) (unhide HAB)
    have B6 := hide ((unhide B5).trans (b6.mono (unhide B5).size))
    clear b6 h6
    go_wp2_with fail
    go_ret
    exact ⟨by simp, unhide B6⟩

theorem walk (es fs : List En) (al bl : Option Addr) (n m ca cb B : Nat) (w : World) (hn : es.length = n) (hm : fs.length = m) (h : IsE w (fun b => b < B) es al ca) (h' : IsE w (fun b => b < B) fs bl cb) (hB : B ≤ w.heap.size) :
    Calls Try.prog 5 #[.slice al n ca, .slice bl m cb] w fun e w' => e = .returned (.bool true) ∧ Below w.heap.size w w' := by
  cases hd : diffB es fs with
  | false => exact walk_no es fs al bl n m ca cb B w hn hm h h' hB hd
  | true =>
    unfold diffB at hd
    rw [Bool.and_eq_true] at hd
    exact walk_yes es fs al bl n m ca cb B w hn hm h h' hB hd.1 hd.2

set_option maxRecDepth 100000 in
theorem lifted (os : Os) (started : os.Started) (H : Type) (enc : TypeId × Value → H) :
    ReturnsInHanded {} Try.checked os 5 .any (Rows.stateLeadsSpec.pre6 enc Try.prog Try.f5 Rows.stateLeadsRow.domain false) (Rows.stateLeadsSpec.post enc Try.prog Try.f5 false true false false) := by
  refine returnsInHanded_of_change_sized (C := Try.checked) own started (by kernel_rfl) Try.func5
    (ChangeSpec.witness6 (enc := enc) (C := Try.checked) false ⟨#[], #[.slice none 0 0, .slice none 0 0], []⟩ 8 (by kernel_rfl) (by kernel_rfl) (by kernel_rfl) (by kernel_rfl)) ?_
  intro W base args ds gs before hval0 hW _ hsz0 _
  have hsz : (DataW.weightsEach Try.prog (Try.f5.params.toList ++ Rows.stateLeadsSpec.plain.varTypes Try.prog) (ds ++ gs)).all (· ≤ reachBytes) = true := hsz0
  clear hsz0
  have hval : ∀ (j : Nat) t v, Try.f5.params[j]? = some t → args[j]? = some v → Value.okWide Try.prog W .any base t v := hval0
  have hW' := hW
  obtain ⟨p, q, hA0, hV, rfl, hfz, hnd⟩ := hW
  have hA : DataW.TrodAll enc Try.prog W 0 (fun _ => true) true Try.f5.params.toList args.toList ds p := hA0
  rw [Try.params5] at hA hval hsz
  obtain ⟨v0, vs0, d0, ds0, p0, q0, hargs, rfl, rfl, h0, r0⟩ := trodAll_cons hA
  obtain ⟨v1, vs1, d1, ds1, p1, q1, hargs1, rfl, rfl, h1, r1⟩ := trodAll_cons r0
  obtain ⟨rfl, rfl, rfl⟩ := trodAll_nil r1
  subst hargs1
  obtain rfl : args = #[v0, v1] := by cases args; simp_all
  obtain ⟨rfl, rfl⟩ := trodVars_none hV
  have k0 := h0
  have lt0 : ∀ x ∈ p0, x.block < W.heap.size := by obtain ⟨m, hm⟩ := k0; exact DataW.trod_lt m _ _ _ hm
  have k1 := h1
  have lt1 : ∀ x ∈ p1, x.block < W.heap.size := by obtain ⟨m, hm⟩ := k1; exact DataW.trod_lt m _ _ _ hm
  obtain ⟨a0, len0, cap0, rfl⟩ := okWide_slice Try.underlying22 (hval 0 22 v0 rfl rfl)
  obtain ⟨es, hn0, hv0⟩ : ∃ es : List En, es.length = len0 ∧ IsE W (fun b => b < W.heap.size) es a0 cap0 := by
    obtain ⟨fuel, hf⟩ := h0
    obtain ⟨es, al, cl, e1, e2⟩ := open_entries hf (reach_arg hsz (j := 0) rfl rfl)
    cases e1
    exact ⟨es, rfl, e2⟩
  obtain ⟨a1, len1, cap1, rfl⟩ := okWide_slice Try.underlying22 (hval 1 22 v1 rfl rfl)
  obtain ⟨fs, hn1, hv1⟩ : ∃ es : List En, es.length = len1 ∧ IsE W (fun b => b < W.heap.size) es a1 cap1 := by
    obtain ⟨fuel, hf⟩ := h1
    obtain ⟨es, al, cl, e1, e2⟩ := open_entries hf (reach_arg hsz (j := 1) rfl rfl)
    cases e1
    exact ⟨es, rfl, e2⟩
  clear hA0 hval0
  refine (walk es fs a0 a1 len0 len1 cap0 cap1 W.heap.size W hn0 hn1 hv0 hv1 (Nat.le_refl _)).mono fun e W' ⟨he, bel⟩ => ?_
  subst he
  exact ⟨_, rfl, _, _, _, [], _, [], hW', trodAll_mk1 (shut_bool Try.underlying4 _), (trodAll_cons_mk (Below.trod laidOut (by kernel_rfl) (of_decide_eq_true (by kernel_rfl)) k0 bel lt0) (trodAll_cons_mk (Below.trod laidOut (by kernel_rfl) (of_decide_eq_true (by kernel_rfl)) k1 bel lt1) trodAll_mk0)), rfl, bel.frame _, fun h => by cases h⟩

theorem over : Rows.stateLeadsRow.holds Try.pinned (OpenSpec.ofChange Rows.stateLeadsSpec) :=
  OpenClaim.holds_of_wide 5 Try.f5 rfl rfl rfl rfl rfl rfl rfl ⟨rfl, rfl, rfl, rfl, rfl⟩ rfl rfl rfl rfl rfl (by kernel_rfl) Try.func5 (by kernel_rfl)
    (of_decide_eq_true (by kernel_rfl)) (by unfold Func.isWrapper; first | (rw [if_pos (by decide +kernel)]; kernel_rfl) | (rw [if_neg (by decide +kernel)]; exact ⟨rfl, rfl⟩))
    (fun os started H enc _ => lifted os started H enc)

end Go.Proofs.Ytjhnbopejnpbeaa.stateLeads

namespace Go.Proofs.Ytjhnbopejnpbeaa
theorem stateLeads_holds : Rows.StateLeadsSaid := stateLeads.over
#print axioms stateLeads_holds
end Go.Proofs.Ytjhnbopejnpbeaa
