/-
  What is read as a module is written as the same bytes (ModuleOneFormSaid); no condition but the form's own reach.
-/
import Derived.Test.YtfdnhpmldnmncaaRows
import Derived.Test.YtfdnhpmldnmncaaDC
import Derived.Test.YtfdnhpmldnmncaaMR
import Derived.Test.YtfdnhpmldnmncaaOpen8
import Derived.ShutString
import Derived.ChangeOld
import Derived.Deep.RegionHeld3
namespace Go.Proofs.Ytfdnhpmldnmncaa.moduleOneForm
open Go.ChangeShapes Go.WideShapes Go.ChangeAt Go.RowKit
set_option linter.unusedVariables false

theorem own : ownKnob Try.prog.godebug = none := by kernel_rfl
theorem laidOut : laidOutB Try.prog = true := by kernel_rfl

theorem conv_later {v w' : World} {b off : Nat} {len : Nat} {zs : List Int} (hz : zs.length = len) (hc : ∀ j, j < len → v.cell? ⟨b, off + j, none⟩ = some (.int .u8 (zs.getD j 0))) (i n cap : Nat) (hi : i + n ≤ len) (hb : Below v.heap.size v w') :
    Sem.run Try.prog (convert 22 9 (.slice (some ⟨b, off + i, none⟩) n cap)) w' = .ok (.string (strOfNums ((zs.drop i).take n))) w' :=
  conv_row (w := w') hz (fun j hj => cell_later hb (hc j hj)) i n cap hi 0

theorem conv_all {v w' : World} {ao : Option Addr} {len cap : Nat} {zs : List Int} (h : Row8 v ao len cap zs) (hp : 0 < len) (hb : Below v.heap.size v w') :
    Sem.run Try.prog (convert 22 9 (.slice ao len cap)) w' = .ok (.string (strOfNums zs)) w' := by
  obtain ⟨b, off, rfl, hc⟩ := h.at hp
  have := conv_later h.length hc 0 len cap (by omega) hb
  rw [Nat.add_zero, List.drop_zero, List.take_of_length_le (by rw [h.length]; omega)] at this
  exact this

theorem codeM_yes {m : Md} (h : rightM m = true) : codeM m = 0 ∧ bytesM m = encM m := by unfold codeM bytesM; rw [h]; exact ⟨rfl, rfl⟩

theorem encM_pos (m : Md) : 0 < (encM m).length := by
  have h1 := outM_le m 0 3
  have h2 : (outM m 0).length = 4 := rfl
  unfold encM
  rw [Nat.zero_add] at h1
  omega

set_option maxRecDepth 100000 in
set_option maxHeartbeats 1000000 in
theorem walk (ao : Option Addr) (len cap : Nat) (zs : List Int) (w : World) (hz : Row8 w ao len cap zs) (hm : cap ≤ maxLen) :
    Calls Try.prog 4 #[.slice ao len cap] w fun e w' => e = .returned (.bool true) ∧ Below w.heap.size w w' := by
  have CS := hide (shown_any w)
  have hlen := hz.length
  have hle := hz.le
  have hm' : cap ≤ 9223372036854775807 := by unfold maxLen at hm; omega
  cases hD : decM zs with
  | error q =>
    obtain ⟨⟨p1, p2⟩, hne⟩ := decM_bad hz.small hD
    obtain ⟨qc, qp⟩ := q
    dsimp only at p1 p2 hne
    rw [hlen] at p2
    have HZ := hide hz
    clear hz
    go_enter Try.func4, Try.ntmps4
    go_wp2_with fail
    refine (unhide CS).mono ?_
    rintro e u ⟨rfl, b1⟩
    have CD := hide (decodeM_any ao len cap zs u ((unhide HZ).later b1) hm)
    rw [hD] at CD
    have B1 := hide b1
    clear b1
    go_wp2_with fail
    refine (unhide CD).mono ?_
    rintro e u2 ⟨rfl, b2⟩
    have B2 := hide ((unhide B1).trans (b2.mono (unhide B1).size))
    clear b2 CD
    go_wp2_with fail
    refine (sameM_any md0 md0 none none none none none none 0 0 0 0 0 0 0 0 0 0 0 0 0 _ rfl rfl rfl rfl rfl rfl (md0_is _ _) (md0_is _ _) (Nat.zero_le _)).mono ?_
    rintro e u3 ⟨r, rfl, hr, b3⟩
    obtain rfl : r = true := hr.2 rfl
    have BX := BoxN.mk' u2 #[.slice none 0 0, .slice none 0 0, .slice none 0 0] 28
    have B3 := hide ((below_box (unhide B2) BX).trans (b3.mono (below_box (unhide B2) BX).size))
    clear b3 hr BX
    go_wp2_with fail
    go_ret
    exact ⟨by simp, unhide B3⟩
  | ok m =>
    obtain ⟨hR, hE, hF⟩ := decM_sound hz.small hD
    have hpos : 0 < len := by
      rw [← hlen, ← hE]
      exact encM_pos m
    have HZ := hide hz
    obtain ⟨hcs, hbs⟩ := codeM_yes hR
    rw [hE] at hbs
    clear hz hF hE
    go_enter Try.func4, Try.ntmps4
    go_wp2_with fail
    refine (unhide CS).mono ?_
    rintro e u ⟨rfl, b1⟩
    have CD := hide (decodeM_any ao len cap zs u ((unhide HZ).later b1) hm)
    rw [hD] at CD
    have B1 := hide b1
    clear b1
    go_wp2_with fail
    refine (unhide CD).mono ?_
    rintro e u2 ⟨a1, a2, a3, c1, c2, c3, rfl, i2, b2⟩
    obtain ⟨n1, hn1⟩ : ∃ n, m.cs.length = n := ⟨_, rfl⟩
    obtain ⟨n2, hn2⟩ : ∃ n, m.fs.length = n := ⟨_, rfl⟩
    obtain ⟨n3, hn3⟩ : ∃ n, m.xs.length = n := ⟨_, rfl⟩
    rw [hn1, hn2, hn3]
    have BX := BoxN.mk' u2 #[.slice a1 n1 c1, .slice a2 n2 c2, .slice a3 n3 c3] 28
    have I2 := hide (i2.weak (Q := fun b => b < u2.heap.size) (fun b hb => hb.2))
    have B2 := hide ((unhide B1).trans (b2.mono (unhide B1).size))
    have HBX := hide BX
    have CE := hide (encodeM_any m a1 a2 a3 n1 c1 n2 c2 n3 c3 u2.heap.size _ hn1 hn2 hn3 ((unhide I2).later BX.below) (by have := BX.size; omega))
    have CR := fun u (hu : Below u2.heap.size u2 u) => hide (rightM_any m a1 a2 a3 n1 c1 n2 c2 n3 c3 u2.heap.size u hn1 hn2 hn3 ((unhide I2).later hu) hu.size)
    simp only [hR] at CR
    rw [hcs, hbs] at CE
    have HN := hide (And.intro hn1 (And.intro hn2 hn3))
    have HR := hide hR
    clear b2 CD i2 hn1 hn2 hn3 BX hR hcs hbs
    go_wp2_with fail
    refine (unhide CE).mono ?_
    rintro e u3 ⟨ao3, l3, c3', rfl, r3, b3, _, _, _⟩
    have hx := (b3.block u2.heap.size (by have := (unhide HBX).size; omega)).trans (unhide HBX).row
    obtain ⟨m0, m1, m2⟩ := row_cell3 hx
    have B3 := hide (And.intro ((unhide HBX).below.trans (b3.mono (unhide HBX).below.size)) b3)
    have R3 := hide r3
    clear r3 b3 CE hx
    go_wp2_with fail
    refine (unhide (CR u3 (unhide B3).1)).mono ?_
    rintro e u4 ⟨rfl, b4⟩
    have B4 := hide ((unhide B2).trans (((unhide B3).1.trans (b4.mono (unhide B3).1.size)).mono (unhide B2).size))
    have h3 := (unhide R3).length
    have k1 := conv_all (unhide R3) (by omega) b4
    have k2 := conv_all (unhide HZ) hpos (unhide B4)
    clear b4
    go_wp2_with fail
    go_ret
    exact ⟨by simp, unhide B4⟩

set_option maxRecDepth 100000 in
theorem lifted (os : Os) (started : os.Started) (H : Type) (enc : TypeId × Value → H) :
    ReturnsInHanded {} Try.checked os 4 .any (Rows.moduleOneFormSpec.pre6 enc Try.prog Try.f4 Rows.moduleOneFormRow.domain false) (Rows.moduleOneFormSpec.post enc Try.prog Try.f4 false true false false) := by
  refine returnsInHanded_of_change (C := Try.checked) own started (by kernel_rfl) Try.func4
    (ChangeSpec.witness6 (enc := enc) (C := Try.checked) false ⟨#[], #[.slice none 0 0], []⟩ 8 (by kernel_rfl) (by kernel_rfl) (by kernel_rfl) (by kernel_rfl)) ?_
  intro W base args ds gs before hval0 hW hcnd _
  have hval : ∀ (j : Nat) t v, Try.f4.params[j]? = some t → args[j]? = some v → Value.okWide Try.prog W .any base t v := hval0
  have hW' := hW
  obtain ⟨p, q, hA0, hV, rfl, hfz, hnd⟩ := hW
  have hA : DataW.TrodAll enc Try.prog W 0 (fun _ => true) true Try.f4.params.toList args.toList ds p := hA0
  rw [Try.params4] at hA hval
  obtain ⟨v0, vs0, d0, ds0, p0, q0, hargs, rfl, rfl, h0, r0⟩ := trodAll_cons hA
  obtain ⟨rfl, rfl, rfl⟩ := trodAll_nil r0
  obtain rfl : args = #[v0] := by cases args; simp_all
  obtain ⟨rfl, rfl⟩ := trodVars_none hV
  obtain ⟨a0, len0, cap0, rfl⟩ := okWide_slice Try.underlying22 (hval 0 22 v0 rfl rfl)
  have k0 := h0
  have lt0 : ∀ x ∈ p0, x.block < W.heap.size := by obtain ⟨m, hm⟩ := k0; exact DataW.trod_lt m _ _ _ hm
  obtain ⟨z0, w0, hcap, _⟩ := open_row8 h0
  clear hA0 hval0
  refine (walk a0 len0 cap0 z0 W w0 hcap).mono fun e W' ⟨he, bel⟩ => ?_
  subst he
  exact ⟨_, rfl, _, _, _, [], _, [], hW', trodAll_mk1 (shut_bool Try.underlying4 _), (trodAll_cons_mk (Below.trod laidOut (by kernel_rfl) (of_decide_eq_true (by kernel_rfl)) k0 bel lt0) trodAll_mk0), rfl, bel.frame _, fun h => by cases h⟩

theorem over : Rows.moduleOneFormRow.holds Try.pinned (OpenSpec.ofChange Rows.moduleOneFormSpec) :=
  OpenClaim.holds_of_wide 4 Try.f4 rfl rfl rfl rfl rfl rfl rfl ⟨rfl, rfl, rfl, rfl, rfl⟩ rfl rfl rfl rfl rfl (by kernel_rfl) Try.func4 (by kernel_rfl)
    (of_decide_eq_true (by kernel_rfl)) (by unfold Func.isWrapper; first | (rw [if_pos (by decide +kernel)]; kernel_rfl) | (rw [if_neg (by decide +kernel)]; exact ⟨rfl, rfl⟩))
    (fun os started H enc _ => lifted os started H enc)

end Go.Proofs.Ytfdnhpmldnmncaa.moduleOneForm

namespace Go.Proofs.Ytfdnhpmldnmncaa
theorem moduleOneForm_holds : Rows.ModuleOneFormSaid := moduleOneForm.over
#print axioms moduleOneForm_holds
end Go.Proofs.Ytfdnhpmldnmncaa
