/-
  Right values that are put one behind the other are taken off one by one, and nothing else stands there (WireRowUptoSaid); condition: the argument is of bulk at most 1048576.
-/
import Derived.Test.YtjphldolmahemabRows
import Derived.Test.YtjphldolmahemabWRowW
import Derived.Test.YtjphldolmahemabVOpen
import Derived.Test.YtjphldolmahemabOpenUpto
import Derived.ShutString
import Derived.ChangeOld
namespace Go.Proofs.Ytjphldolmahemab.wireRow
open Go.ChangeShapes Go.WideShapes Go.ChangeAt Go.RowKit
set_option linter.unusedVariables false

theorem own : ownKnob Try.prog.godebug = none := by kernel_rfl
theorem laidOut : laidOutB Try.prog = true := by kernel_rfl

def S (t : TypeId) : Prop := t = 26 ∨ t = 3 ∨ t = 2 ∨ t = 9 ∨ t = 23 ∨ t = 24

set_option maxRecDepth 100000 in
theorem plains : Plains Try.prog S := by
  intro t ht
  rcases ht with rfl | rfl | rfl | rfl | rfl | rfl
  · refine .inr (.inl ⟨_, Try.underlying26, ?_⟩)
    intro u hu
    have h : u ∈ [3, 2, 9, 23, 24] := hu
    simp only [List.mem_cons, List.mem_nil_iff, or_false] at h
    rcases h with rfl | rfl | rfl | rfl | rfl <;> simp [S]
  · exact .inr (.inr (.inl ⟨_, Try.underlying3⟩))
  · exact .inr (.inr (.inl ⟨_, Try.underlying2⟩))
  · exact .inr (.inr (.inr Try.underlying9))
  · exact .inl ⟨_, Try.underlying23, .inl rfl, by rw [show Try.prog.bytesOf 26 = 80 by kernel_rfl]; omega⟩
  · exact .inl ⟨_, Try.underlying24, .inr (.inr (.inr (.inl rfl))), by rw [show Try.prog.bytesOf 9 = 16 by kernel_rfl]; omega⟩

set_option maxRecDepth 100000 in
theorem contract (H : Type) (enc : TypeId × Value → H) (W : World) (base : Nat) (args : Array Value) (ds gs : List (DataW H)) (before : List MemPlace)
    (hval : ∀ (j : Nat) t v, Try.f7.params[j]? = some t → args[j]? = some v → Value.okWide Try.prog W .any base t v)
    (hW : DataW.Whole enc Try.prog Try.f7.params.toList Rows.wireRowSpec.vars false W args.toList ds gs before) (hk : Rows.uptoSmall H (ds ++ gs) = true) :
    Calls Try.prog 7 args W fun e W' => ∃ v, e = .returned v ∧ Rows.wireRowSpec.post enc Try.prog Try.f7 false true false false W args v W' := by
  have hW' := hW
  obtain ⟨p, q, hA0, hV, rfl, hfz, hnd⟩ := hW
  have hA : DataW.TrodAll enc Try.prog W 0 (fun _ => true) true Try.f7.params.toList args.toList ds p := hA0
  rw [Try.params7] at hA hval
  obtain ⟨v0, vs0, d0, ds0, p0, q0, hargs, rfl, rfl, h0, r0⟩ := trodAll_cons hA
  obtain ⟨rfl, rfl, rfl⟩ := trodAll_nil r0
  obtain rfl : args = #[v0] := by cases args; simp_all
  obtain ⟨rfl, rfl⟩ := trodVars_none hV
  have hk' := of_decide_eq_true hk
  simp only [List.append_nil, Rows.uptoBulkAll] at hk'
  obtain ⟨a0, len0, cap0, rfl⟩ := okWide_slice Try.underlying23 (hval 0 23 v0 rfl rfl)
  have k0 := h0
  have lt0 : ∀ x ∈ p0, x.block < W.heap.size := by obtain ⟨m, hm⟩ := k0; exact DataW.trod_lt m _ _ _ hm
  obtain ⟨l, hl, hv, hs⟩ : ∃ l : List Vl, l.length = len0 ∧ IsV W W.heap.size (.mk 5 0 ⟨#[]⟩ l []) (lst (.slice a0 len0 cap0)) ∧ len0 ≤ 1048576 := by
    obtain ⟨fuel, hf⟩ := h0
    have hf' : DataW.trod enc Try.prog W 0 (fun _ => true) true fuel 23 [.slice a0 len0 cap0] = some (d0, p0) := hf
    obtain ⟨l, al, cl, he, hv, hb⟩ := open_list hf' (reach_bulk plains (.inr (.inr (.inr (.inr (.inl rfl))))) (by dsimp only; omega))
    simp only [Value.slice.injEq] at he
    obtain ⟨rfl, he2, rfl⟩ := he
    refine ⟨l, he2.symm, by rw [he2]; exact hv, ?_⟩
    rcases hb with h0 | ⟨elems, spare, hx, hle⟩
    · obtain ⟨_, _, _, _, _, _, _, _, _, _, e1, e2, vf, _⟩ := hv.inv
      cases e1
      have := vf.ll
      simp only [lst, Value.agg.injEq, Array.mk.injEq, List.cons.injEq, Value.slice.injEq, and_true, true_and] at e2
      omega
    · have h1 := bulk_len elems
      have h2 : d0 = .slice elems spare := hx
      rw [h2, Rows.uptoBulk] at hk'
      omega
  clear hA0
  refine (walk a0 len0 cap0 l W hl hv hs).mono fun e W' ⟨he, bel⟩ => ?_
  subst he
  exact ⟨_, rfl, _, _, _, [], _, [], hW', trodAll_mk1 (shut_bool Try.underlying4 _), (trodAll_cons_mk (Below.trod laidOut (by kernel_rfl) (of_decide_eq_true (by kernel_rfl)) k0 bel lt0) trodAll_mk0), rfl, bel.frame _, fun h => by cases h⟩

set_option maxRecDepth 100000 in
theorem lifted (os : Os) (started : os.Started) (H : Type) (enc : TypeId × Value → H) (F : Stop.Interp) :
    ReturnsInHanded {} Try.checked os 7 .any ((Rows.OpenSpec.upto Rows.wireRowSpec).pre6 enc Try.prog Try.f7 Rows.wireRowUptoRow.domain false) (((Rows.OpenSpec.upto Rows.wireRowSpec).at F).post enc Try.prog Try.f7 false true false false) := by
  refine returnsInHanded_of_cond (C := Try.checked) (s := Rows.OpenSpec.upto Rows.wireRowSpec) (k := Rows.uptoSmall) rfl own started (by kernel_rfl) Try.func7
    (OpenSpec.witness (enc := enc) (C := Try.checked) (s := Rows.OpenSpec.upto Rows.wireRowSpec) (k := Rows.uptoSmall) rfl false ⟨#[], #[.slice none 0 0], []⟩ 8 (by kernel_rfl) (by kernel_rfl) (by kernel_rfl)
      (x := ([.nil], [], [])) (by kernel_rfl) rfl (by kernel_rfl)) ?_
  intro W base args ds gs before hval hW _ hk _
  exact contract H enc W base args ds gs before hval hW hk

theorem over : Rows.WireRowUptoSaid :=
  OpenClaim.holds_of_cond 7 Try.f7 rfl rfl rfl rfl rfl rfl rfl ⟨rfl, rfl, rfl, rfl, rfl⟩ rfl rfl rfl rfl rfl (by kernel_rfl) Try.func7 (by kernel_rfl)
    (of_decide_eq_true (by kernel_rfl)) (by unfold Func.isWrapper; first | (rw [if_pos (by decide +kernel)]; kernel_rfl) | (rw [if_neg (by decide +kernel)]; exact ⟨rfl, rfl⟩))
    (fun os started H enc _ F => lifted os started H enc F)
end Go.Proofs.Ytjphldolmahemab.wireRow

namespace Go.Proofs.Ytjphldolmahemab
theorem wireRowUpto_holds : Rows.WireRowUptoSaid := wireRow.over
#print axioms wireRowUpto_holds
end Go.Proofs.Ytjphldolmahemab
