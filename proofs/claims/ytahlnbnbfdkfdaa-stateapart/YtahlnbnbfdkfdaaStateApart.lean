/-
  Two states' bytes are the same just if the entries are, and none begins the other (StateApartSaid); no condition but the form's own reach.
-/
import Derived.Test.YtahlnbnbfdkfdaaRows
import Derived.Test.YtahlnbnbfdkfdaaS3
import Derived.Test.YtahlnbnbfdkfdaaSBack
import Derived.Test.YtahlnbnbfdkfdaaSEqs
import Derived.Test.YtahlnbnbfdkfdaaSOpen
import Derived.ShutString
import Derived.ChangeOld
import Derived.Deep.RegionHeld3
import Derived.BigQuiet
namespace Go.Proofs.Ytahlnbnbfdkfdaa.stateApart
open Go.ChangeShapes Go.WideShapes Go.ChangeAt Go.RowKit
set_option linter.unusedVariables false

theorem own : ownKnob Try.prog.godebug = none := by kernel_rfl
theorem laidOut : laidOutB Try.prog = true := by kernel_rfl

theorem encS_pos (es : List En) : 0 < (encS es).length := by simp [encS, headE]

theorem conv_q {v w' : World} {b off : Nat} {len : Nat} {zs : List Int} (hz : zs.length = len) (hc : ∀ j, j < len → v.cell? ⟨b, off + j, none⟩ = some (.int .u8 (zs.getD j 0))) (n cap : Nat) (hi : n ≤ len) (hb : Below v.heap.size v w') :
    ∀ q, Sem.run Try.prog (convert 22 9 (.slice (some ⟨b, off, none⟩) n cap)) (w'.drewN q) = .ok (.string (strOfNums (zs.take n))) (w'.drewN q) := by
  intro q
  have := conv_row (w := w') hz (fun j hj => cell_later hb (hc j hj)) 0 n cap (by omega) q
  rw [Nat.add_zero, List.drop_zero] at this
  exact this

theorem codeS_no {es : List En} (h : rightE es = false) : codeS es = 70 := by unfold codeS; rw [h]; rfl
theorem codeS_yes {es : List En} (h : rightE es = true) : codeS es = 0 ∧ bytesS es = encS es := by unfold codeS bytesS; rw [h]; exact ⟨rfl, rfl⟩

/-- the text test -/
theorem text_test {a b : List En} (ha : rightE a = true) (hb : rightE b = true) (fa : ∀ e ∈ a, fitB e.2 = true) (fb : ∀ e ∈ b, fitB e.2 = true) (hne : ¬ a = b) :
    ((strOfNums ((encS b).take (encS a).length)).toList == (strOfNums (encS a)).toList) = false := by
  cases h : ((strOfNums ((encS b).take (encS a).length)).toList == (strOfNums (encS a)).toList) with
  | false => rfl
  | true =>
    have h1 := (bytes_beq _ _).1 h
    obtain ⟨a1, _, a3, _⟩ := right_parts ha
    obtain ⟨b1, _, b3, _⟩ := right_parts hb
    have h2 := str_inj _ _ (fun c hc => encS_small b3 fb b1 c (List.mem_of_mem_take hc)) (encS_small a3 fa a1) h1
    exact absurd (encS_begins ha hb h2) hne

set_option maxRecDepth 100000 in
set_option maxHeartbeats 1000000 in
theorem walk_no (es fs : List En) (al bl : Option Addr) (n m ca cb B : Nat) (w : World) (hn : es.length = n) (hm : fs.length = m) (h : IsE w (fun b => b < B) es al ca) (h' : IsE w (fun b => b < B) fs bl cb) (hB : B ≤ w.heap.size) (hno : rightE es = false ∨ rightE fs = false) :
    Calls Try.prog 7 #[.slice al n ca, .slice bl m cb] w fun e w' => e = .returned (.bool true) ∧ Below w.heap.size w w' := by
  have CS := hide (shown_any w)
  have CE := fun u (hu : Below w.heap.size w u) => hide (encodeS_any es al n ca B u hn (h.later (hu.mono hB)) (Nat.le_trans hB hu.size))
  have CF := fun u (hu : Below w.heap.size w u) => hide (encodeS_any fs bl m cb B u hm (h'.later (hu.mono hB)) (Nat.le_trans hB hu.size))
  obtain ⟨c1, hc1⟩ : ∃ c, codeS es = c := ⟨_, rfl⟩
  obtain ⟨c2, hc2⟩ : ∃ c, codeS fs = c := ⟨_, rfl⟩
  have hcc : ¬ c1 = 0 ∨ (c1 = 0 ∧ ¬ c2 = 0) := by
    rcases hno with h | h
    · left; rw [← hc1, codeS_no h]; omega
    · by_cases h0 : c1 = 0
      · right; exact ⟨h0, by rw [← hc2, codeS_no h]; omega⟩
      · exact Or.inl h0
  simp only [hc1] at CE
  simp only [hc2] at CF
  clear h h' hn hm hno hc1 hc2
  go_enter Try.func7, Try.ntmps7
  go_wp2_with fail
  refine (unhide CS).mono ?_
  rintro e u ⟨rfl, b1⟩
  have B1 := hide b1
  clear b1
  go_wp2_with fail
  refine (unhide (CE u (unhide B1))).mono ?_
  rintro e u2 ⟨ao, len, cap, rfl, _, b2, _, _⟩
  have B2 := hide ((unhide B1).trans (b2.mono (unhide B1).size))
  clear b2
  go_wp2_with fail
  refine (unhide (CF u2 (unhide B2))).mono ?_
  rintro e u3 ⟨ao3, len3, cap3, rfl, _, b3, _, _⟩
  have B3 := hide ((unhide B2).trans (b3.mono (unhide B2).size))
  clear b3
  rcases hcc with k1 | ⟨k0, k1⟩
  · go_wp2_with fail
    go_ret
    exact ⟨rfl, unhide B3⟩
  · subst k0
    go_wp2_with fail
    go_ret
    exact ⟨rfl, unhide B3⟩

set_option maxRecDepth 100000 in
set_option maxHeartbeats 1000000 in
theorem walk_yes (es fs : List En) (al bl : Option Addr) (n m ca cb B : Nat) (w : World) (hn : es.length = n) (hm : fs.length = m) (h : IsE w (fun b => b < B) es al ca) (h' : IsE w (fun b => b < B) fs bl cb) (hB : B ≤ w.heap.size) (hr : rightE es = true) (hr' : rightE fs = true) :
    Calls Try.prog 7 #[.slice al n ca, .slice bl m cb] w fun e w' => e = .returned (.bool true) ∧ Below w.heap.size w w' := by
  have CS := hide (shown_any w)
  have CE := fun u (hu : Below w.heap.size w u) => hide (encodeS_any es al n ca B u hn (h.later (hu.mono hB)) (Nat.le_trans hB hu.size))
  have CF := fun u (hu : Below w.heap.size w u) => hide (encodeS_any fs bl m cb B u hm (h'.later (hu.mono hB)) (Nat.le_trans hB hu.size))
  obtain ⟨k1, k2⟩ := codeS_yes hr
  obtain ⟨k3, k4⟩ := codeS_yes hr'
  simp only [k1, k2] at CE
  simp only [k3, k4] at CF
  have HDB := hide (decS_back hr h.fit)
  have hT := text_test hr hr' h.fit h'.fit
  have CQ := fun u (hu : Below w.heap.size w u) => hide (entries_any es fs al bl n m ca cb B u hn hm (h.later (hu.mono hB)) (h'.later (hu.mono hB)) (Nat.le_trans hB hu.size))
  have HV : Hid (∀ u, Below w.heap.size w u → IsE u (fun b => b < w.heap.size) es al ca) := hide (fun u hu => (h.weak (fun b hb => Nat.lt_of_lt_of_le hb hB)).later hu)
  have HT := hide hT
  have HN := hide hn
  have p1 := encS_pos es
  have p2 := encS_pos fs
  clear h h' hr hr' k1 k2 k3 k4 hT hm hn
  go_enter Try.func7, Try.ntmps7
  go_wp2_with fail
  refine (unhide CS).mono ?_
  rintro e u ⟨rfl, b1⟩
  have B1 := hide b1
  clear b1
  go_wp2_with fail
  refine (unhide (CE u (unhide B1))).mono ?_
  rintro e u2 ⟨ao, lx, cx, rfl, q2, b2, _, m2⟩
  have B2 := hide ((unhide B1).trans (b2.mono (unhide B1).size))
  have Q2 := hide q2
  have e2 := q2.length
  have le2 := q2.le
  clear b2 q2
  go_wp2_with fail
  refine (unhide (CF u2 (unhide B2))).mono ?_
  rintro e u3 ⟨ao3, ly, cy, rfl, q3, b3, _, m3⟩
  have B3 := hide ((unhide B2).trans (b3.mono (unhide B2).size))
  have Q2' := hide ((unhide Q2).later b3)
  have Q3 := hide q3
  have e3 := q3.length
  have le3 := q3.le
  have CD := hide (decodeS_any ao lx cx (encS es) u3 (unhide Q2') m2)
  rw [unhide HDB] at CD
  clear b3 q3 Q2 B2 B1 CE CF CS
  go_wp2_with fail
  refine (unhide CD).mono ?_
  rintro e u4 ⟨ad, cd, rfl, q4, b4⟩
  have B4 := hide ((unhide B3).trans (b4.mono (unhide B3).size))
  obtain ⟨b, off, rfl, hc⟩ := (unhide Q2').at (by omega)
  obtain ⟨b', off', rfl, hc'⟩ := (unhide Q3).at (by omega)
  have CV1 := conv_q e2 hc lx cx (Nat.le_refl _) b4
  rw [List.take_of_length_le (by omega)] at CV1
  have CB := fun v (hv : Below u4.heap.size u4 v) => hide (entries_any es es ad al n n cd ca v.heap.size v (unhide HN) (unhide HN) (q4.to (fun c hc => hv.block c hc.2) (fun c hc => Nat.lt_of_lt_of_le hc.2 hv.size)) ((unhide HV v ((unhide B4).trans (hv.mono (unhide B4).size))).weak (fun c hc => Nat.lt_of_lt_of_le hc ((unhide B4).trans (hv.mono (unhide B4).size)).size)) (Nat.le_refl _))
  rw [unhide HN]
  have hmx2 : cx ≤ 9223372036854775807 := by unfold maxLen at m2; omega
  have hmx3 : cy ≤ 9223372036854775807 := by unfold maxLen at m3; omega
  by_cases hab : es = fs
  · have hly : ly = lx := by rw [← e2, ← e3, hab]
    have CV2 := conv_q e3 hc' lx cy (by omega) b4
    have hT2 : (encS fs).take lx = encS es := by rw [hab, List.take_of_length_le (by omega)]
    rw [hT2] at CV2
    have i1 : (lx : Int) ≤ (ly : Int) := by omega
    have i2 : (lx : Int) ≤ (cy : Int) := by omega
    have HAB := hide hab
    clear hab hT2 hly CD q4 b4 hc hc'
    obtain ⟨T, hTT⟩ : ∃ T, strOfNums (encS es) = T := ⟨_, rfl⟩
    rw [hTT] at CV1 CV2
    clear hTT
    go_upto_region 7 with fail
    go_cut [13] from 38 to 53 (fun r wx => r = .bool true ∧ ∃ q, wx = u4.drewN q)
    case first =>
      go_quiet (fail)
      go_wp2_with fail
      go_meet
      exact ⟨by simp, _, rfl⟩
    case rest =>
      obtain ⟨rfl, q, hwc⟩ := hcut
      have X5 : Hid (Below u4.heap.size u4 wc) := hide (by rw [hwc]; exact below_drewN (Below.refl _ _) _)
      clear hwc CV1 CV2
      have CB' := CB wc (unhide X5)
      have CQ' := fun v (hv : Below wc.heap.size wc v) => CQ v ((unhide B4).trans (((unhide X5).trans (hv.mono (unhide X5).size)).mono (unhide B4).size))
      have X0 : Hid (∀ v, Below wc.heap.size wc v → Below w.heap.size w v) := hide (fun v hv => (unhide B4).trans (((unhide X5).trans (hv.mono (unhide X5).size)).mono (unhide B4).size))
      clear CB CQ
      go_wp2_with fail
      refine (unhide CB').mono ?_
      rintro e u6 ⟨r6, rfl, h6, b6⟩
      obtain rfl : r6 = true := h6.2 rfl
      have B6 := hide b6
      clear b6 h6
      go_wp2_with fail
      refine (unhide (CQ' u6 (unhide B6))).mono ?_
      rintro e u7 ⟨r7, rfl, h7, b7⟩
      obtain rfl : r7 = true := h7.2 (unhide HAB)
      have B7 := hide ((unhide B6).trans (b7.mono (unhide B6).size))
      clear b7 h7
      go_wp2_with fail
      go_ret
      exact ⟨by simp, unhide X0 u7 (unhide B7)⟩
  · have HAB := hide hab
    have hT1 := unhide HT hab
    rw [e2] at hT1
    have CV2' := fun (hle : lx ≤ ly) => conv_q e3 hc' lx cy hle b4
    obtain ⟨T1, hTT1⟩ : ∃ T, strOfNums ((encS fs).take lx) = T := ⟨_, rfl⟩
    obtain ⟨T, hTT⟩ : ∃ T, strOfNums (encS es) = T := ⟨_, rfl⟩
    rw [hTT] at CV1 hT1
    rw [hTT1] at hT1 CV2'
    clear hTT hTT1 hab CD q4 b4 hc hc'
    by_cases hlt : lx ≤ ly
    · have CV2 := CV2' hlt
      have i1 : (lx : Int) ≤ (ly : Int) := by omega
      have i2 : (lx : Int) ≤ (cy : Int) := by omega
      clear CV2'
      go_upto_region 7 with fail
      go_cut [13] from 38 to 53 (fun r wx => r = .bool false ∧ ∃ q, wx = u4.drewN q)
      case first =>
        go_quiet (fail)
        go_wp2_with fail
        go_meet
        exact ⟨by simp, _, rfl⟩
      case rest =>
        obtain ⟨rfl, q, hwc⟩ := hcut
        have X5 : Hid (Below u4.heap.size u4 wc) := hide (by rw [hwc]; exact below_drewN (Below.refl _ _) _)
        clear hwc CV1 CV2
        have CB' := CB wc (unhide X5)
        have CQ' := fun v (hv : Below wc.heap.size wc v) => CQ v ((unhide B4).trans (((unhide X5).trans (hv.mono (unhide X5).size)).mono (unhide B4).size))
        have X0 : Hid (∀ v, Below wc.heap.size wc v → Below w.heap.size w v) := hide (fun v hv => (unhide B4).trans (((unhide X5).trans (hv.mono (unhide X5).size)).mono (unhide B4).size))
        clear CB CQ
        go_wp2_with fail
        refine (unhide CB').mono ?_
        rintro e u6 ⟨r6, rfl, h6, b6⟩
        obtain rfl : r6 = true := h6.2 rfl
        have B6 := hide b6
        clear b6 h6
        go_wp2_with fail
        refine (unhide (CQ' u6 (unhide B6))).mono ?_
        rintro e u7 ⟨r7, rfl, h7, b7⟩
        obtain rfl : r7 = false := by cases r7 with | false => rfl | true => exact absurd (h7.1 rfl) (unhide HAB)
        have B7 := hide ((unhide B6).trans (b7.mono (unhide B6).size))
        clear b7 h7
        go_wp2_with fail
        go_ret
        exact ⟨by simp, unhide X0 u7 (unhide B7)⟩
    · have i1 : ¬ (lx : Int) ≤ (ly : Int) := by omega
      have i2 : decide ((lx : Int) ≤ (ly : Int)) = false := decide_eq_false i1
      have i3 : decide (lx ≤ ly) = false := decide_eq_false hlt
      clear CV2' CV1
      go_upto_region 7 with fail
      go_cut [13] from 38 to 53 (fun r wx => r = .bool false ∧ ∃ q, wx = u4.drewN q)
      case first =>
        go_quiet (fail)
        go_wp2_with fail
        go_meet
        exact ⟨by simp, _, rfl⟩
      case rest =>
        obtain ⟨rfl, q, hwc⟩ := hcut
        have X5 : Hid (Below u4.heap.size u4 wc) := hide (by rw [hwc]; exact below_drewN (Below.refl _ _) _)
        clear hwc
        have CB' := CB wc (unhide X5)
        have CQ' := fun v (hv : Below wc.heap.size wc v) => CQ v ((unhide B4).trans (((unhide X5).trans (hv.mono (unhide X5).size)).mono (unhide B4).size))
        have X0 : Hid (∀ v, Below wc.heap.size wc v → Below w.heap.size w v) := hide (fun v hv => (unhide B4).trans (((unhide X5).trans (hv.mono (unhide X5).size)).mono (unhide B4).size))
        clear CB CQ
        go_wp2_with fail
        refine (unhide CB').mono ?_
        rintro e u6 ⟨r6, rfl, h6, b6⟩
        obtain rfl : r6 = true := h6.2 rfl
        have B6 := hide b6
        clear b6 h6
        go_wp2_with fail
        refine (unhide (CQ' u6 (unhide B6))).mono ?_
        rintro e u7 ⟨r7, rfl, h7, b7⟩
        obtain rfl : r7 = false := by cases r7 with | false => rfl | true => exact absurd (h7.1 rfl) (unhide HAB)
        have B7 := hide ((unhide B6).trans (b7.mono (unhide B6).size))
        clear b7 h7
        go_wp2_with fail
        go_ret
        exact ⟨by simp, unhide X0 u7 (unhide B7)⟩

theorem walk (es fs : List En) (al bl : Option Addr) (n m ca cb B : Nat) (w : World) (hn : es.length = n) (hm : fs.length = m) (h : IsE w (fun b => b < B) es al ca) (h' : IsE w (fun b => b < B) fs bl cb) (hB : B ≤ w.heap.size) :
    Calls Try.prog 7 #[.slice al n ca, .slice bl m cb] w fun e w' => e = .returned (.bool true) ∧ Below w.heap.size w w' := by
  cases hr : rightE es with
  | false => exact walk_no es fs al bl n m ca cb B w hn hm h h' hB (Or.inl hr)
  | true =>
    cases hr' : rightE fs with
    | false => exact walk_no es fs al bl n m ca cb B w hn hm h h' hB (Or.inr hr')
    | true => exact walk_yes es fs al bl n m ca cb B w hn hm h h' hB hr hr'

set_option maxRecDepth 100000 in
theorem lifted (os : Os) (started : os.Started) (H : Type) (enc : TypeId × Value → H) :
    ReturnsInHanded {} Try.checked os 7 .any (Rows.stateApartSpec.pre6 enc Try.prog Try.f7 Rows.stateApartRow.domain false) (Rows.stateApartSpec.post enc Try.prog Try.f7 false true false false) := by
  refine returnsInHanded_of_change_sized (C := Try.checked) own started (by kernel_rfl) Try.func7
    (ChangeSpec.witness6 (enc := enc) (C := Try.checked) false ⟨#[], #[.slice none 0 0, .slice none 0 0], []⟩ 8 (by kernel_rfl) (by kernel_rfl) (by kernel_rfl) (by kernel_rfl)) ?_
  intro W base args ds gs before hval0 hW _ hsz0 _
  have hsz : (DataW.weightsEach Try.prog (Try.f7.params.toList ++ Rows.stateApartSpec.plain.varTypes Try.prog) (ds ++ gs)).all (· ≤ reachBytes) = true := hsz0
  clear hsz0
  have hval : ∀ (j : Nat) t v, Try.f7.params[j]? = some t → args[j]? = some v → Value.okWide Try.prog W .any base t v := hval0
  have hW' := hW
  obtain ⟨p, q, hA0, hV, rfl, hfz, hnd⟩ := hW
  have hA : DataW.TrodAll enc Try.prog W 0 (fun _ => true) true Try.f7.params.toList args.toList ds p := hA0
  rw [Try.params7] at hA hval hsz
  obtain ⟨v0, vs0, d0, ds0, p0, q0, hargs, rfl, rfl, h0, r0⟩ := trodAll_cons hA
  obtain ⟨v1, vs1, d1, ds1, p1, q1, hargs1, rfl, rfl, h1, r1⟩ := trodAll_cons r0
  obtain ⟨rfl, rfl, rfl⟩ := trodAll_nil r1
  subst hargs1
  obtain rfl : args = #[v0, v1] := by cases args; simp_all
  obtain ⟨rfl, rfl⟩ := trodVars_none hV
  have k0 := h0
  have lt0 : ∀ x ∈ p0, x.block < W.heap.size := by obtain ⟨m, hm⟩ := k0; exact DataW.trod_lt m _ _ _ hm
  have k1 := h1
  have lt1 : ∀ x ∈ p1, x.block < W.heap.size := by obtain ⟨m, hm⟩ := k1; exact DataW.trod_lt m _ _ _ hm
  obtain ⟨a0, len0, cap0, rfl⟩ := okWide_slice Try.underlying24 (hval 0 24 v0 rfl rfl)
  obtain ⟨es, hn0, hv0⟩ : ∃ es : List En, es.length = len0 ∧ IsE W (fun b => b < W.heap.size) es a0 cap0 := by
    obtain ⟨fuel, hf⟩ := h0
    obtain ⟨es, al, cl, e1, e2⟩ := open_entries hf (reach_arg hsz (j := 0) rfl rfl)
    cases e1
    exact ⟨es, rfl, e2⟩
  obtain ⟨a1, len1, cap1, rfl⟩ := okWide_slice Try.underlying24 (hval 1 24 v1 rfl rfl)
  obtain ⟨fs, hn1, hv1⟩ : ∃ es : List En, es.length = len1 ∧ IsE W (fun b => b < W.heap.size) es a1 cap1 := by
    obtain ⟨fuel, hf⟩ := h1
    obtain ⟨es, al, cl, e1, e2⟩ := open_entries hf (reach_arg hsz (j := 1) rfl rfl)
    cases e1
    exact ⟨es, rfl, e2⟩
  clear hA0 hval0
  refine (walk es fs a0 a1 len0 len1 cap0 cap1 W.heap.size W hn0 hn1 hv0 hv1 (Nat.le_refl _)).mono fun e W' ⟨he, bel⟩ => ?_
  subst he
  exact ⟨_, rfl, _, _, _, [], _, [], hW', trodAll_mk1 (shut_bool Try.underlying4 _), (trodAll_cons_mk (Below.trod laidOut (by kernel_rfl) (of_decide_eq_true (by kernel_rfl)) k0 bel lt0) (trodAll_cons_mk (Below.trod laidOut (by kernel_rfl) (of_decide_eq_true (by kernel_rfl)) k1 bel lt1) trodAll_mk0)), rfl, bel.frame _, fun h => by cases h⟩

theorem over : Rows.stateApartRow.holds Try.pinned (OpenSpec.ofChange Rows.stateApartSpec) :=
  OpenClaim.holds_of_wide 7 Try.f7 rfl rfl rfl rfl rfl rfl rfl ⟨rfl, rfl, rfl, rfl, rfl⟩ rfl rfl rfl rfl rfl (by kernel_rfl) Try.func7 (by kernel_rfl)
    (of_decide_eq_true (by kernel_rfl)) (by unfold Func.isWrapper; first | (rw [if_pos (by decide +kernel)]; kernel_rfl) | (rw [if_neg (by decide +kernel)]; exact ⟨rfl, rfl⟩))
    (fun os started H enc _ => lifted os started H enc)

end Go.Proofs.Ytahlnbnbfdkfdaa.stateApart

namespace Go.Proofs.Ytahlnbnbfdkfdaa
theorem stateApart_holds : Rows.StateApartSaid := stateApart.over
#print axioms stateApart_holds
end Go.Proofs.Ytahlnbnbfdkfdaa
