/-
  A right value, put behind any bytes and ahead of any others, is taken and decoded as itself, and one that is not right has no bytes (WireBackUptoSaid); condition: the arguments are together of bulk at most 1048576.
-/
import Derived.Test.YtjphldolmahemabRows
import Derived.Test.YtjphldolmahemabWBackW
import Derived.Test.YtjphldolmahemabVOpen
import Derived.Test.YtjphldolmahemabOpenUpto
import Derived.ShutString
import Derived.ChangeOld
namespace Go.Proofs.Ytjphldolmahemab.wireBack
open Go.ChangeShapes Go.WideShapes Go.ChangeAt Go.RowKit
set_option linter.unusedVariables false

theorem own : ownKnob Try.prog.godebug = none := by kernel_rfl
theorem laidOut : laidOutB Try.prog = true := by kernel_rfl

def S (t : TypeId) : Prop := t = 26 ∨ t = 3 ∨ t = 2 ∨ t = 9 ∨ t = 23 ∨ t = 24

set_option maxRecDepth 100000 in
theorem plains : Plains Try.prog S := by
  intro t ht
  rcases ht with rfl | rfl | rfl | rfl | rfl | rfl
  · refine .inr (.inl ⟨_, Try.underlying26, ?_⟩)
    intro u hu
    have h : u ∈ [3, 2, 9, 23, 24] := hu
    simp only [List.mem_cons, List.mem_nil_iff, or_false] at h
    rcases h with rfl | rfl | rfl | rfl | rfl <;> simp [S]
  · exact .inr (.inr (.inl ⟨_, Try.underlying3⟩))
  · exact .inr (.inr (.inl ⟨_, Try.underlying2⟩))
  · exact .inr (.inr (.inr Try.underlying9))
  · exact .inl ⟨_, Try.underlying23, .inl rfl, by rw [show Try.prog.bytesOf 26 = 80 by kernel_rfl]; omega⟩
  · exact .inl ⟨_, Try.underlying24, .inr (.inr (.inr (.inl rfl))), by rw [show Try.prog.bytesOf 9 = 16 by kernel_rfl]; omega⟩

theorem walk (ab : Option Addr) (lb cb : Nat) (zs : List Int) (v : Vl) (x : Value) (ar : Option Addr) (lr cr : Nat) (rs : List Int) (w : World) (hz : Row8 w ab lb cb zs) (hv : IsV w w.heap.size v x) (hrs : Row8 w ar lr cr rs) (hs : lb + lr ≤ 2097152) :
    Calls Try.prog 6 #[.slice ab lb cb, x, .slice ar lr cr] w fun e w' => e = .returned (.bool true) ∧ Below w.heap.size w w' := by
  cases hR : rightB v with
  | false => exact walk_no ab lb cb zs v x ar lr cr rs w hz hv hrs hs hR
  | true => exact walk_ok ab lb cb zs v x ar lr cr rs w hz hv hrs hs hR

set_option maxRecDepth 100000 in
theorem contract (H : Type) (enc : TypeId × Value → H) (W : World) (base : Nat) (args : Array Value) (ds gs : List (DataW H)) (before : List MemPlace)
    (hval : ∀ (j : Nat) t v, Try.f6.params[j]? = some t → args[j]? = some v → Value.okWide Try.prog W .any base t v)
    (hW : DataW.Whole enc Try.prog Try.f6.params.toList Rows.wireBackSpec.vars false W args.toList ds gs before) (hk : Rows.uptoSmall H (ds ++ gs) = true) :
    Calls Try.prog 6 args W fun e W' => ∃ v, e = .returned v ∧ Rows.wireBackSpec.post enc Try.prog Try.f6 false true false false W args v W' := by
  have hW' := hW
  obtain ⟨p, q, hA0, hV, rfl, hfz, hnd⟩ := hW
  have hA : DataW.TrodAll enc Try.prog W 0 (fun _ => true) true Try.f6.params.toList args.toList ds p := hA0
  rw [Try.params6] at hA hval
  obtain ⟨v0, vs0, d0, ds0, p0, q0, hargs, rfl, rfl, h0, r0⟩ := trodAll_cons hA
  obtain ⟨v1, vs1, d1, ds1, p1, q1, rfl, rfl, rfl, h1, r1⟩ := trodAll_cons r0
  obtain ⟨v2, vs2, d2, ds2, p2, q2, rfl, rfl, rfl, h2, r2⟩ := trodAll_cons r1
  obtain ⟨rfl, rfl, rfl⟩ := trodAll_nil r2
  obtain rfl : args = #[v0, v1, v2] := by cases args; simp_all
  obtain ⟨rfl, rfl⟩ := trodVars_none hV
  have hk' := of_decide_eq_true hk
  simp only [List.append_nil, Rows.uptoBulkAll] at hk'
  obtain ⟨a0, len0, cap0, rfl⟩ := okWide_slice Try.underlying22 (hval 0 22 v0 rfl rfl)
  have k0 := h0
  have lt0 : ∀ x ∈ p0, x.block < W.heap.size := by obtain ⟨m, hm⟩ := k0; exact DataW.trod_lt m _ _ _ hm
  obtain ⟨z0, w0, _, hc0⟩ := open_row8 h0
  have k1 := h1
  have lt1 : ∀ x ∈ p1, x.block < W.heap.size := by obtain ⟨m, hm⟩ := k1; exact DataW.trod_lt m _ _ _ hm
  obtain ⟨cs1, rfl, _⟩ := okWide_struct Try.underlying26 (hval 1 26 v1 rfl rfl)
  obtain ⟨vl1, hv1⟩ : ∃ v, IsV W W.heap.size v (.agg cs1) := by
    obtain ⟨fuel, hf⟩ := h1
    obtain ⟨v, hv⟩ := open_value fuel _ _ hf (reach_bulk plains (.inl rfl) (by dsimp only; omega))
    exact ⟨v, by simpa [Value.cells] using hv⟩
  obtain ⟨a2, len2, cap2, rfl⟩ := okWide_slice Try.underlying22 (hval 2 22 v2 rfl rfl)
  have k2 := h2
  have lt2 : ∀ x ∈ p2, x.block < W.heap.size := by obtain ⟨m, hm⟩ := k2; exact DataW.trod_lt m _ _ _ hm
  obtain ⟨z2, w2, _, hc2⟩ := open_row8 h2
  clear hA0
  have c0 := bulk_row hc0
  have c2 := bulk_row hc2
  have hle0 := w0.le
  have hle2 := w2.le
  refine (walk a0 len0 cap0 z0 vl1 _ a2 len2 cap2 z2 W w0 hv1 w2 (by omega)).mono fun e W' ⟨he, bel⟩ => ?_
  subst he
  exact ⟨_, rfl, _, _, _, [], _, [], hW', trodAll_mk1 (shut_bool Try.underlying4 _), (trodAll_cons_mk (Below.trod laidOut (by kernel_rfl) (of_decide_eq_true (by kernel_rfl)) k0 bel lt0) (trodAll_cons_mk (Below.trod laidOut (by kernel_rfl) (of_decide_eq_true (by kernel_rfl)) k1 bel lt1) (trodAll_cons_mk (Below.trod laidOut (by kernel_rfl) (of_decide_eq_true (by kernel_rfl)) k2 bel lt2) trodAll_mk0))), rfl, bel.frame _, fun h => by cases h⟩

set_option maxRecDepth 100000 in
theorem lifted (os : Os) (started : os.Started) (H : Type) (enc : TypeId × Value → H) (F : Stop.Interp) :
    ReturnsInHanded {} Try.checked os 6 .any ((Rows.OpenSpec.upto Rows.wireBackSpec).pre6 enc Try.prog Try.f6 Rows.wireBackUptoRow.domain false) (((Rows.OpenSpec.upto Rows.wireBackSpec).at F).post enc Try.prog Try.f6 false true false false) := by
  refine returnsInHanded_of_cond (C := Try.checked) (s := Rows.OpenSpec.upto Rows.wireBackSpec) (k := Rows.uptoSmall) rfl own started (by kernel_rfl) Try.func6
    (OpenSpec.witness (enc := enc) (C := Try.checked) (s := Rows.OpenSpec.upto Rows.wireBackSpec) (k := Rows.uptoSmall) rfl false ⟨#[], #[.slice none 0 0, .agg #[.int .i64 0, .int .i64 0, .string .empty, .slice none 0 0, .slice none 0 0], .slice none 0 0], []⟩ 8 (by kernel_rfl) (by kernel_rfl) (by kernel_rfl)
      (x := ([.nil, .agg [.lit (.int .i64 0), .lit (.int .i64 0), .lit (.string []), .nil, .nil], .nil], [], [])) (by kernel_rfl) rfl (by kernel_rfl)) ?_
  intro W base args ds gs before hval hW _ hk _
  exact contract H enc W base args ds gs before hval hW hk

theorem over : Rows.WireBackUptoSaid :=
  OpenClaim.holds_of_cond 6 Try.f6 rfl rfl rfl rfl rfl rfl rfl ⟨rfl, rfl, rfl, rfl, rfl⟩ rfl rfl rfl rfl rfl (by kernel_rfl) Try.func6 (by kernel_rfl)
    (of_decide_eq_true (by kernel_rfl)) (by unfold Func.isWrapper; first | (rw [if_pos (by decide +kernel)]; kernel_rfl) | (rw [if_neg (by decide +kernel)]; exact ⟨rfl, rfl⟩))
    (fun os started H enc _ F => lifted os started H enc F)
end Go.Proofs.Ytjphldolmahemab.wireBack

namespace Go.Proofs.Ytjphldolmahemab
theorem wireBackUpto_holds : Rows.WireBackUptoSaid := wireBack.over
#print axioms wireBackUpto_holds
end Go.Proofs.Ytjphldolmahemab
