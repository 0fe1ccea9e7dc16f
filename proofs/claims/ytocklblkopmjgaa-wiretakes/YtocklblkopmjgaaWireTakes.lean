/-
  Every Take, of any bytes at any places, answers what the document's own does, and what it answers is its owner's (WireTakesSaid); no condition but the form's own reach.
-/
import Derived.Test.YtocklblkopmjgaaRows
import Derived.Test.YtocklblkopmjgaaXTakesW
import Derived.Test.YtocklblkopmjgaaOpen8
import Derived.Test.YtocklblkopmjgaaSized2
import Derived.ShutString
import Derived.ChangeOld
namespace Go.Proofs.Ytocklblkopmjgaa.wireTakes
open Go.ChangeShapes Go.WideShapes Go.ChangeAt Go.RowKit
set_option linter.unusedVariables false
set_option linter.unusedSimpArgs false

theorem own : ownKnob Try.prog.godebug = none := by kernel_rfl
theorem laidOut : laidOutB Try.prog = true := by kernel_rfl
theorem cellsI : Try.prog.cellsOf 3 = 1 := by kernel_rfl

theorem open_row64 {H : Type} {enc : TypeId × Value → H} {W : World} {a0 : Option Addr} {len cap : Nat} {d0 : DataW H} {p0 : List MemPlace} (h0 : DataW.Trod enc Try.prog W 0 (fun _ => true) true 55 (.slice a0 len cap) d0 p0) (hre : len ≤ 140737488351232) :
    ∃ ps, Row64 W a0 len cap ps := by
  obtain ⟨fuel, hf⟩ := h0
  rcases open_ints Try.underlying55 Try.underlying3 cellsI hf with ⟨hcs, _⟩ | ⟨x, l, c, zs, hcs, _, hl, hm, hz, hx, hcell, hwz⟩
  · simp [Value.cells] at hcs
    obtain ⟨rfl, rfl, rfl⟩ := hcs
    exact ⟨[], ⟨rfl, (fun i h => by omega), Nat.le_refl _, by unfold maxLen; omega, by omega, fun n h => by cases h⟩⟩
  · simp [Value.cells] at hcs
    obtain ⟨rfl, rfl, rfl⟩ := hcs
    simp only [if_true] at hz
    refine ⟨zs.take len, ⟨by simp; omega, fun i hi => ?_, hl, hm, hre, fun p hp => bounds_i64 (hwz p (List.mem_of_mem_take hp))⟩⟩
    have hc := hcell i (by omega)
    refine ⟨x, rfl, ?_, ?_⟩
    · have := World.block_lt_of_cell? _ _ (by rw [hc])
      rw [block_add] at this
      exact this
    · rw [hc]
      have h1 : i < zs.length := by omega
      simp [List.getD, hi, h1]

set_option maxRecDepth 100000 in
theorem lifted (os : Os) (started : os.Started) (H : Type) (enc : TypeId × Value → H) :
    ReturnsInHanded {} Try.checked os 7 .any (Rows.wireTakesSpec.pre6 enc Try.prog Try.f7 Rows.wireTakesRow.domain false) (Rows.wireTakesSpec.post enc Try.prog Try.f7 false true false false) := by
  refine returnsInHanded_of_change_sized (C := Try.checked) own started (by kernel_rfl) Try.func7
    (ChangeSpec.witness6 (enc := enc) (C := Try.checked) false ⟨#[], #[.slice none 0 0, .slice none 0 0], []⟩ 8 (by kernel_rfl) (by kernel_rfl) (by kernel_rfl) (by kernel_rfl)) ?_
  intro W base args ds gs before hval0 hW _ hsz0 _
  have hsz : (DataW.weightsEach Try.prog (Try.f7.params.toList ++ Rows.wireTakesSpec.plain.varTypes Try.prog) (ds ++ gs)).all (· ≤ reachBytes) = true := hsz0
  clear hsz0
  have hval : ∀ (j : Nat) t v, Try.f7.params[j]? = some t → args[j]? = some v → Value.okWide Try.prog W .any base t v := hval0
  have hW' := hW
  obtain ⟨p, q, hA0, hV, rfl, hfz, hnd⟩ := hW
  have hA : DataW.TrodAll enc Try.prog W 0 (fun _ => true) true Try.f7.params.toList args.toList ds p := hA0
  rw [Try.params7] at hA hval hsz
  obtain ⟨v0, vs0, d0, ds0, p0, q0, hargs, rfl, rfl, h0, r0⟩ := trodAll_cons hA
  obtain ⟨v1, vs1, d1, ds1, p1, q1, hargs1, rfl, rfl, h1, r1⟩ := trodAll_cons r0
  obtain ⟨rfl, rfl, rfl⟩ := trodAll_nil r1
  subst hargs1
  obtain rfl : args = #[v0, v1] := by cases args; simp_all
  obtain ⟨rfl, rfl⟩ := trodVars_none hV
  have k0 := h0
  have lt0 : ∀ x ∈ p0, x.block < W.heap.size := by obtain ⟨m, hm⟩ := k0; exact DataW.trod_lt m _ _ _ hm
  have k1 := h1
  have lt1 : ∀ x ∈ p1, x.block < W.heap.size := by obtain ⟨m, hm⟩ := k1; exact DataW.trod_lt m _ _ _ hm
  obtain ⟨a0, len0, cap0, rfl⟩ := okWide_slice Try.underlying44 (hval 0 44 v0 rfl rfl)
  obtain ⟨a1, len1, cap1, rfl⟩ := okWide_slice Try.underlying55 (hval 1 55 v1 rfl rfl)
  have re0 := reach_arg hsz (j := 0) (t := 44) rfl rfl
  have re1 := reach_arg hsz (j := 1) (t := 55) rfl rfl
  obtain ⟨z0, w0, hcap, hd0⟩ := open_row8 h0
  have hl0 : len0 ≤ 140737488351232 := by
    rcases hd0 with h | ⟨el, sp, rfl, he⟩
    · have := w0.le; omega
    · have h := re0.slice Try.underlying44
      rw [show Try.prog.bytesOf 5 = 1 by kernel_rfl] at h
      have := w0.le
      unfold reachBytes at h
      simp at h
      omega
  have hl1 : len1 ≤ 140737488351232 := by
    obtain ⟨fuel, hf⟩ := h1
    rcases open_ints Try.underlying55 Try.underlying3 cellsI hf with ⟨hcs, _⟩ | ⟨x, l, c, zs, hcs, _, hl, hm, hz, hx, hcell, hwz⟩
    · simp [Value.cells] at hcs
      omega
    · simp [Value.cells] at hcs
      obtain ⟨rfl, rfl, rfl⟩ := hcs
      simp only [if_true] at hz
      simp only [Prod.mk.injEq] at hx
      have hd := hx.1
      subst hd
      have h := re1.slice Try.underlying55
      rw [show Try.prog.bytesOf 3 = 8 by kernel_rfl] at h
      unfold reachBytes at h
      simp [lits] at h
      omega
  obtain ⟨z1, w1⟩ := open_row64 h1 hl1
  clear hA0 hval0
  refine (takes_walk a0 len0 cap0 z0 a1 len1 cap1 z1 W w0 hcap hl0 w1).mono fun e W' ⟨he, bel⟩ => ?_
  subst he
  exact ⟨_, rfl, _, _, _, [], _, [], hW', trodAll_mk1 (shut_bool Try.underlying4 _), (trodAll_cons_mk (Below.trod laidOut (by kernel_rfl) (of_decide_eq_true (by kernel_rfl)) k0 bel lt0) (trodAll_cons_mk (Below.trod laidOut (by kernel_rfl) (of_decide_eq_true (by kernel_rfl)) k1 bel lt1) trodAll_mk0)), rfl, bel.frame _, fun h => by cases h⟩

theorem over : Rows.wireTakesRow.holds Try.pinned (OpenSpec.ofChange Rows.wireTakesSpec) :=
  OpenClaim.holds_of_wide 7 Try.f7 rfl rfl rfl rfl rfl rfl rfl ⟨rfl, rfl, rfl, rfl, rfl⟩ rfl rfl rfl rfl rfl (by kernel_rfl) Try.func7 (by kernel_rfl)
    (of_decide_eq_true (by kernel_rfl)) (by unfold Func.isWrapper; first | (rw [if_pos (by decide +kernel)]; kernel_rfl) | (rw [if_neg (by decide +kernel)]; exact ⟨rfl, rfl⟩))
    (fun os started H enc _ => lifted os started H enc)

end Go.Proofs.Ytocklblkopmjgaa.wireTakes

namespace Go.Proofs.Ytocklblkopmjgaa
theorem wireTakes_holds : Rows.WireTakesSaid := wireTakes.over
#print axioms wireTakes_holds
end Go.Proofs.Ytocklblkopmjgaa
