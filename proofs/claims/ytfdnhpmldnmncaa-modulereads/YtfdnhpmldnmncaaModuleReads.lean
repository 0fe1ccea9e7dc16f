/-
  Every Decode of any bytes is the document's: the module, or the error and its place; what came out is its owner's (ModuleReadsSaid); no condition but the form's own reach.
-/
import Derived.Test.YtfdnhpmldnmncaaRows
import Derived.Test.YtfdnhpmldnmncaaR54
import Derived.Test.YtfdnhpmldnmncaaR29
import Derived.ShutString
import Derived.ChangeOld
namespace Go.Proofs.Ytfdnhpmldnmncaa.moduleReads
open Go.ChangeShapes Go.WideShapes Go.ChangeAt Go.RowKit
set_option linter.unusedVariables false

theorem own : ownKnob Try.prog.godebug = none := by kernel_rfl
theorem laidOut : laidOutB Try.prog = true := by kernel_rfl

set_option maxRecDepth 100000 in
theorem lifted (os : Os) (started : os.Started) (H : Type) (enc : TypeId × Value → H) :
    ReturnsInHanded {} Try.checked os 3 .any (Rows.moduleReadsSpec.pre6 enc Try.prog Try.f3 Rows.moduleReadsRow.domain false) (Rows.moduleReadsSpec.post enc Try.prog Try.f3 false true false false) := by
  refine returnsInHanded_of_change_sized (C := Try.checked) own started (by kernel_rfl) Try.func3
    (ChangeSpec.witness6 (enc := enc) (C := Try.checked) false ⟨#[], #[.slice none 0 0], []⟩ 8 (by kernel_rfl) (by kernel_rfl) (by kernel_rfl) (by kernel_rfl)) ?_
  intro W base args ds gs before hval0 hW _ hsz0 _
  have hsz : (DataW.weightsEach Try.prog (Try.f3.params.toList ++ Rows.moduleReadsSpec.plain.varTypes Try.prog) (ds ++ gs)).all (· ≤ reachBytes) = true := hsz0
  clear hsz0
  have hval : ∀ (j : Nat) t v, Try.f3.params[j]? = some t → args[j]? = some v → Value.okWide Try.prog W .any base t v := hval0
  have hW' := hW
  obtain ⟨p, q, hA0, hV, rfl, hfz, hnd⟩ := hW
  have hA : DataW.TrodAll enc Try.prog W 0 (fun _ => true) true Try.f3.params.toList args.toList ds p := hA0
  rw [Try.params3] at hA hval hsz
  obtain ⟨v0, vs0, d0, ds0, p0, q0, hargs, rfl, rfl, h0, r0⟩ := trodAll_cons hA
  obtain ⟨rfl, rfl, rfl⟩ := trodAll_nil r0
  obtain rfl : args = #[v0] := by cases args; simp_all
  obtain ⟨rfl, rfl⟩ := trodVars_none hV
  obtain ⟨a0, len0, cap0, rfl⟩ := okWide_slice Try.underlying22 (hval 0 22 v0 rfl rfl)
  have k0 := h0
  have lt0 : ∀ x ∈ p0, x.block < W.heap.size := by obtain ⟨m, hm⟩ := k0; exact DataW.trod_lt m _ _ _ hm
  have re0 := reach_arg hsz (j := 0) (t := 22) rfl rfl
  obtain ⟨z0, w0, hcap, hd0⟩ := open_row8 h0
  have hl0 : len0 ≤ 140737488351232 := by
    rcases hd0 with h | ⟨el, sp, rfl, he⟩
    · have := w0.le; omega
    · have h := re0.slice Try.underlying22
      rw [show Try.prog.bytesOf 5 = 1 by kernel_rfl] at h
      have := w0.le
      unfold reachBytes at h
      simp at h
      omega
  clear hA0 hval0
  refine (reads_any a0 len0 cap0 z0 W w0 hcap hl0).mono fun e W' ⟨he, bel⟩ => ?_
  subst he
  exact ⟨_, rfl, _, _, _, [], _, [], hW', trodAll_mk1 (shut_bool Try.underlying4 _), (trodAll_cons_mk (Below.trod laidOut (by kernel_rfl) (of_decide_eq_true (by kernel_rfl)) k0 bel lt0) trodAll_mk0), rfl, bel.frame _, fun h => by cases h⟩

theorem over : Rows.moduleReadsRow.holds Try.pinned (OpenSpec.ofChange Rows.moduleReadsSpec) :=
  OpenClaim.holds_of_wide 3 Try.f3 rfl rfl rfl rfl rfl rfl rfl ⟨rfl, rfl, rfl, rfl, rfl⟩ rfl rfl rfl rfl rfl (by kernel_rfl) Try.func3 (by kernel_rfl)
    (of_decide_eq_true (by kernel_rfl)) (by unfold Func.isWrapper; first | (rw [if_pos (by decide +kernel)]; kernel_rfl) | (rw [if_neg (by decide +kernel)]; exact ⟨rfl, rfl⟩))
    (fun os started H enc _ => lifted os started H enc)

end Go.Proofs.Ytfdnhpmldnmncaa.moduleReads

namespace Go.Proofs.Ytfdnhpmldnmncaa
theorem moduleReads_holds : Rows.ModuleReadsSaid := moduleReads.over
#print axioms moduleReads_holds
end Go.Proofs.Ytfdnhpmldnmncaa
