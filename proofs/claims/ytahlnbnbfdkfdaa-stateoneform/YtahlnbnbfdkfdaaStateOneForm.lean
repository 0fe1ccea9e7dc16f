/-
  What is read as a state is written as the same bytes (StateOneFormSaid); no condition but the form's own reach.
-/
import Derived.Test.YtahlnbnbfdkfdaaRows
import Derived.Test.YtahlnbnbfdkfdaaS3
import Derived.Test.YtahlnbnbfdkfdaaOpen8
import Derived.ShutString
import Derived.ChangeOld
import Derived.Deep.RegionHeld3
namespace Go.Proofs.Ytahlnbnbfdkfdaa.stateOneForm
open Go.ChangeShapes Go.WideShapes Go.ChangeAt Go.RowKit
set_option linter.unusedVariables false

theorem own : ownKnob Try.prog.godebug = none := by kernel_rfl
theorem laidOut : laidOutB Try.prog = true := by kernel_rfl

theorem conv_later {v w' : World} {b off : Nat} {len : Nat} {zs : List Int} (hz : zs.length = len) (hc : ∀ j, j < len → v.cell? ⟨b, off + j, none⟩ = some (.int .u8 (zs.getD j 0))) (i n cap : Nat) (hi : i + n ≤ len) (hb : Below v.heap.size v w') :
    Sem.run Try.prog (convert 22 9 (.slice (some ⟨b, off + i, none⟩) n cap)) w' = .ok (.string (strOfNums ((zs.drop i).take n))) w' :=
  conv_row (w := w') hz (fun j hj => cell_later hb (hc j hj)) i n cap hi 0

theorem conv_all {v w' : World} {ao : Option Addr} {len cap : Nat} {zs : List Int} (h : Row8 v ao len cap zs) (hp : 0 < len) (hb : Below v.heap.size v w') :
    Sem.run Try.prog (convert 22 9 (.slice ao len cap)) w' = .ok (.string (strOfNums zs)) w' := by
  obtain ⟨b, off, rfl, hc⟩ := h.at hp
  have := conv_later h.length hc 0 len cap (by omega) hb
  rw [Nat.add_zero, List.drop_zero, List.take_of_length_le (by rw [h.length]; omega)] at this
  exact this

theorem decS_code {zs : List Int} {q : Int × Int} (h : decS zs = .error q) : q.1 = 70 ∨ q.1 = 71 ∨ q.1 = 72 := by
  unfold decS at h
  cases hs : startE zs with
  | error e => rw [hs] at h; cases h; have := startE_code hs; omega
  | ok e =>
    obtain ⟨n, a⟩ := e
    rw [hs] at h
    dsimp only at h
    cases hr : rdE zs n [] a ⟨#[]⟩ 0 with
    | error e => rw [hr] at h; cases h; have := rdE_code n _ _ _ _ _ hr; omega
    | ok e =>
      obtain ⟨es, a'⟩ := e
      rw [hr] at h
      dsimp only at h
      split at h
      · cases h; exact Or.inr (Or.inr rfl)
      · cases h

set_option maxRecDepth 100000 in
set_option maxHeartbeats 1000000 in
theorem walk (ao : Option Addr) (len cap : Nat) (zs : List Int) (w : World) (hz : Row8 w ao len cap zs) (hm : cap ≤ maxLen) :
    Calls Try.prog 6 #[.slice ao len cap] w fun e w' => e = .returned (.bool true) ∧ Below w.heap.size w w' := by
  have CS := hide (shown_any w)
  have hlen := hz.length
  have hle := hz.le
  have hm' : cap ≤ 9223372036854775807 := by unfold maxLen at hm; omega
  cases hD : decS zs with
  | error q =>
    obtain ⟨p1, p2⟩ := decS_place hz.small hD
    have hc := decS_code hD
    obtain ⟨qc, qp⟩ := q
    dsimp only at p1 p2 hc
    rw [hlen] at p2
    have hne : ¬ qc = 0 := by omega
    have HZ := hide hz
    clear hz
    go_enter Try.func6, Try.ntmps6
    go_wp2_with fail
    refine (unhide CS).mono ?_
    rintro e u ⟨rfl, b1⟩
    have CD := hide (decodeS_any ao len cap zs u ((unhide HZ).later b1) hm)
    rw [hD] at CD
    have B1 := hide b1
    clear b1
    go_wp2_with fail
    refine (unhide CD).mono ?_
    rintro e u2 ⟨rfl, b2⟩
    have B2 := hide ((unhide B1).trans (b2.mono (unhide B1).size))
    clear b2 CD
    go_wp2_with fail
    go_ret
    exact ⟨by simp, unhide B2⟩
  | ok es =>
    obtain ⟨hR, hE, hF⟩ := decS_sound hz.small hD
    have hpos : 0 < len := by
      rw [← hlen, ← hE]
      simp [encS, headE]
    have HZ := hide hz
    have hcs : codeS es = 0 := by unfold codeS; rw [hR]; rfl
    have hbs : bytesS es = zs := by unfold bytesS; rw [hR, ← hE]; rfl
    have hsz := hz.small
    clear hz hF hR hE
    go_enter Try.func6, Try.ntmps6
    go_wp2_with fail
    refine (unhide CS).mono ?_
    rintro e u ⟨rfl, b1⟩
    have CD := hide (decodeS_any ao len cap zs u ((unhide HZ).later b1) hm)
    rw [hD] at CD
    have B1 := hide b1
    clear b1
    go_wp2_with fail
    refine (unhide CD).mono ?_
    rintro e u2 ⟨al, cl, rfl, e2, b2⟩
    obtain ⟨n, hn⟩ : ∃ n, es.length = n := ⟨_, rfl⟩
    rw [hn]
    have CE := hide (encodeS_any es al n cl u2.heap.size u2 hn (e2.weak (fun b hb => hb.2)) (Nat.le_refl _))
    rw [hcs, hbs] at CE
    have B2 := hide ((unhide B1).trans (b2.mono (unhide B1).size))
    clear b2 CD e2 hn
    go_wp2_with fail
    refine (unhide CE).mono ?_
    rintro e u3 ⟨ao3, l3, c3, rfl, r3, b3, _, _⟩
    have B3 := hide ((unhide B2).trans (b3.mono (unhide B2).size))
    have h3 := r3.length
    have k1 := conv_all r3 (by omega) (Below.refl _ _)
    have k2 := conv_all (unhide HZ) hpos (unhide B3)
    clear r3 b3 CE B2 B1
    go_wp2_with fail
    go_ret
    exact ⟨by simp, unhide B3⟩

set_option maxRecDepth 100000 in
theorem lifted (os : Os) (started : os.Started) (H : Type) (enc : TypeId × Value → H) :
    ReturnsInHanded {} Try.checked os 6 .any (Rows.stateOneFormSpec.pre6 enc Try.prog Try.f6 Rows.stateOneFormRow.domain false) (Rows.stateOneFormSpec.post enc Try.prog Try.f6 false true false false) := by
  refine returnsInHanded_of_change (C := Try.checked) own started (by kernel_rfl) Try.func6
    (ChangeSpec.witness6 (enc := enc) (C := Try.checked) false ⟨#[], #[.slice none 0 0], []⟩ 8 (by kernel_rfl) (by kernel_rfl) (by kernel_rfl) (by kernel_rfl)) ?_
  intro W base args ds gs before hval0 hW hcnd _
  have hval : ∀ (j : Nat) t v, Try.f6.params[j]? = some t → args[j]? = some v → Value.okWide Try.prog W .any base t v := hval0
  have hW' := hW
  obtain ⟨p, q, hA0, hV, rfl, hfz, hnd⟩ := hW
  have hA : DataW.TrodAll enc Try.prog W 0 (fun _ => true) true Try.f6.params.toList args.toList ds p := hA0
  rw [Try.params6] at hA hval
  obtain ⟨v0, vs0, d0, ds0, p0, q0, hargs, rfl, rfl, h0, r0⟩ := trodAll_cons hA
  obtain ⟨rfl, rfl, rfl⟩ := trodAll_nil r0
  obtain rfl : args = #[v0] := by cases args; simp_all
  obtain ⟨rfl, rfl⟩ := trodVars_none hV
  obtain ⟨a0, len0, cap0, rfl⟩ := okWide_slice Try.underlying22 (hval 0 22 v0 rfl rfl)
  have k0 := h0
  have lt0 : ∀ x ∈ p0, x.block < W.heap.size := by obtain ⟨m, hm⟩ := k0; exact DataW.trod_lt m _ _ _ hm
  obtain ⟨z0, w0, hcap, _⟩ := open_row8 h0
  clear hA0 hval0
  refine (walk a0 len0 cap0 z0 W w0 hcap).mono fun e W' ⟨he, bel⟩ => ?_
  subst he
  exact ⟨_, rfl, _, _, _, [], _, [], hW', trodAll_mk1 (shut_bool Try.underlying4 _), (trodAll_cons_mk (Below.trod laidOut (by kernel_rfl) (of_decide_eq_true (by kernel_rfl)) k0 bel lt0) trodAll_mk0), rfl, bel.frame _, fun h => by cases h⟩

theorem over : Rows.stateOneFormRow.holds Try.pinned (OpenSpec.ofChange Rows.stateOneFormSpec) :=
  OpenClaim.holds_of_wide 6 Try.f6 rfl rfl rfl rfl rfl rfl rfl ⟨rfl, rfl, rfl, rfl, rfl⟩ rfl rfl rfl rfl rfl (by kernel_rfl) Try.func6 (by kernel_rfl)
    (of_decide_eq_true (by kernel_rfl)) (by unfold Func.isWrapper; first | (rw [if_pos (by decide +kernel)]; kernel_rfl) | (rw [if_neg (by decide +kernel)]; exact ⟨rfl, rfl⟩))
    (fun os started H enc _ => lifted os started H enc)

end Go.Proofs.Ytahlnbnbfdkfdaa.stateOneForm

namespace Go.Proofs.Ytahlnbnbfdkfdaa
theorem stateOneForm_holds : Rows.StateOneFormSaid := stateOneForm.over
#print axioms stateOneForm_holds
end Go.Proofs.Ytahlnbnbfdkfdaa
