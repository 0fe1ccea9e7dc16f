/-
  Every Right, Weight, Depth of any value is as the document says (ValueIsSaid); no condition but the form's own reach.
-/
import Derived.Test.YtiflnkoghdapnaaRows
import Derived.Test.YtiflnkoghdapnaaVShown
import Derived.Test.YtiflnkoghdapnaaVCodeD
import Derived.Test.YtiflnkoghdapnaaVRef
import Derived.Test.YtiflnkoghdapnaaVOpen
import Derived.ShutString
import Derived.ChangeOld
namespace Go.Proofs.Ytiflnkoghdapnaa.valueIs
open Go.ChangeShapes Go.WideShapes Go.ChangeAt Go.RowKit
set_option linter.unusedVariables false

theorem own : ownKnob Try.prog.godebug = none := by kernel_rfl
theorem laidOut : laidOutB Try.prog = true := by kernel_rfl

set_option maxRecDepth 100000 in
set_option maxHeartbeats 400000 in
theorem walk (v : Vl) (x : Value) (B : Nat) (w : World) (hv : IsV w B v x) (hBs : B ≤ w.heap.size) :
    Calls Try.prog 3 #[x] w fun e w' => e = .returned (.bool true) ∧ Below w.heap.size w w' := by
  obtain ⟨k', n', s', l', ks', al', ak', cl', ck', hy', hx⟩ := hv.shape
  obtain ⟨ll, hll⟩ : ∃ ll, l'.length = ll := ⟨_, rfl⟩
  obtain ⟨m, hm⟩ : ∃ m, ks'.length = m := ⟨_, rfl⟩
  rw [hll, hm] at hx
  subst hx
  obtain ⟨w1, hw1⟩ : ∃ w1, w.alloc (.cells #[.int .i64 k', .int .i64 n', .string s', .slice al' ll cl', .slice ak' m ck'] 25) = w1 := ⟨_, rfl⟩
  have BX := Box.mk' w (.int .i64 k') (.int .i64 n') (.string s') (.slice al' ll cl') (.slice ak' m ck')
  rw [hw1] at BX
  have z1 := BX.size
  have HB := hide BX.below
  have HRW : Hid (∀ u, Below w1.heap.size w1 u → u.heap[w.heap.size]? = some (.cells #[.int .i64 k', .int .i64 n', .string s', .slice al' ll cl', .slice ak' m ck'] 25 (0, 0))) := hide (fun u hu => (hu.block _ (by omega)).trans BX.row)
  have hv1 : ∀ u, Below w1.heap.size w1 u → IsV u B v (.agg #[.int .i64 k', .int .i64 n', .string s', .slice al' ll cl', .slice ak' m ck']) := fun u hu => (hv.mono (BX.below.mono hBs)).mono (hu.mono (by omega))
  have hB1 : ∀ u, Below w1.heap.size w1 u → B ≤ u.heap.size := fun u hu => by have := hu.size; omega
  obtain ⟨R, hR⟩ : ∃ R, rightB v = R := ⟨_, rfl⟩
  obtain ⟨W, hW⟩ : ∃ W, wt0 v = W := ⟨_, rfl⟩
  obtain ⟨D, hD⟩ : ∃ D, dep0 v = D := ⟨_, rfl⟩
  have C0 := hide (shown_any w1)
  have CRc := fun u hu => hide (right_code v _ B u (hv1 u hu) (hB1 u hu))
  have CWc := fun u hu => hide (weight_code v _ B u (hv1 u hu) (hB1 u hu))
  have CDc := fun u hu => hide (depth_code v _ B u (hv1 u hu) (hB1 u hu))
  have CRr := fun u hu => hide (right_ref v _ B u (hv1 u hu) (hB1 u hu))
  have CWr := fun u hu => hide (weight_ref v _ B u (hv1 u hu) (hB1 u hu))
  have CDr := fun u hu => hide (depth_ref v _ B u (hv1 u hu) (hB1 u hu))
  rw [hR] at CRc CRr
  rw [hW] at CWc CWr
  rw [hD] at CDc CDr
  clear BX hv hy' hv1 hB1 hR hW hD
  go_enter Try.func3, Try.ntmps3
  go_wp2_with fail
  refine (unhide C0).mono ?_
  rintro e v1 ⟨rfl, b1⟩
  have X1 := hide b1
  obtain ⟨c0, c1, c2, c3, c4⟩ := row_cell (unhide HRW v1 b1)
  clear b1 C0
  go_wp2_with fail
  refine (unhide (CRc v1 (unhide X1))).mono ?_
  rintro e v2 ⟨rfl, b2⟩
  have X2 : Hid (Below w1.heap.size w1 v2) := hide ((unhide X1).trans (b2.mono (unhide X1).size))
  clear c0 c1 c2 c3 c4
  obtain ⟨c0, c1, c2, c3, c4⟩ := row_cell (unhide HRW v2 (unhide X2))
  clear b2 CRc X1
  go_wp2_with fail
  refine (unhide (CWc v2 (unhide X2))).mono ?_
  rintro e v3 ⟨rfl, b3⟩
  have X3 : Hid (Below w1.heap.size w1 v3) := hide ((unhide X2).trans (b3.mono (unhide X2).size))
  clear c0 c1 c2 c3 c4
  obtain ⟨c0, c1, c2, c3, c4⟩ := row_cell (unhide HRW v3 (unhide X3))
  clear b3 CWc X2
  go_wp2_with fail
  refine (unhide (CDc v3 (unhide X3))).mono ?_
  rintro e v4 ⟨rfl, b4⟩
  have X4 : Hid (Below w1.heap.size w1 v4) := hide ((unhide X3).trans (b4.mono (unhide X3).size))
  clear c0 c1 c2 c3 c4
  obtain ⟨c0, c1, c2, c3, c4⟩ := row_cell (unhide HRW v4 (unhide X4))
  clear b4 CDc X3
  go_wp2_with fail
  refine (unhide (CRr v4 (unhide X4))).mono ?_
  rintro e v5 ⟨rfl, b5⟩
  have X5 : Hid (Below w1.heap.size w1 v5) := hide ((unhide X4).trans (b5.mono (unhide X4).size))
  clear c0 c1 c2 c3 c4
  obtain ⟨c0, c1, c2, c3, c4⟩ := row_cell (unhide HRW v5 (unhide X5))
  clear b5 CRr X4
  go_wp2_with fail
  refine (unhide (CWr v5 (unhide X5))).mono ?_
  rintro e v6 ⟨rfl, b6⟩
  have X6 : Hid (Below w1.heap.size w1 v6) := hide ((unhide X5).trans (b6.mono (unhide X5).size))
  clear c0 c1 c2 c3 c4
  obtain ⟨c0, c1, c2, c3, c4⟩ := row_cell (unhide HRW v6 (unhide X6))
  clear b6 CWr X5
  go_wp2_with fail
  refine (unhide (CDr v6 (unhide X6))).mono ?_
  rintro e v7 ⟨rfl, b7⟩
  have X7 : Hid (Below w1.heap.size w1 v7) := hide ((unhide X6).trans (b7.mono (unhide X6).size))
  clear c0 c1 c2 c3 c4
  obtain ⟨c0, c1, c2, c3, c4⟩ := row_cell (unhide HRW v7 (unhide X7))
  clear b7 CDr X6
  go_wp2_with fail
  go_ret
  exact ⟨by simp, (unhide HB).trans ((unhide X7).mono (by omega))⟩

set_option maxRecDepth 100000 in
theorem lifted (os : Os) (started : os.Started) (H : Type) (enc : TypeId × Value → H) :
    ReturnsInHanded {} Try.checked os 3 .any (Rows.valueIsSpec.pre6 enc Try.prog Try.f3 Rows.valueIsRow.domain false) (Rows.valueIsSpec.post enc Try.prog Try.f3 false true false false) := by
  refine returnsInHanded_of_change_sized (C := Try.checked) own started (by kernel_rfl) Try.func3
    (ChangeSpec.witness6 (enc := enc) (C := Try.checked) false ⟨#[], #[.agg #[.int .i64 0, .int .i64 0, .string ⟨#[]⟩, .slice none 0 0, .slice none 0 0]], []⟩ 8 (by kernel_rfl) (by kernel_rfl) (by kernel_rfl) (by kernel_rfl)) ?_
  intro W base args ds gs before hval0 hW _ hsz0 _
  have hsz : (DataW.weightsEach Try.prog (Try.f3.params.toList ++ Rows.valueIsSpec.plain.varTypes Try.prog) (ds ++ gs)).all (· ≤ reachBytes) = true := hsz0
  clear hsz0
  have hval : ∀ (j : Nat) t v, Try.f3.params[j]? = some t → args[j]? = some v → Value.okWide Try.prog W .any base t v := hval0
  have hW' := hW
  obtain ⟨p, q, hA0, hV, rfl, hfz, hnd⟩ := hW
  have hA : DataW.TrodAll enc Try.prog W 0 (fun _ => true) true Try.f3.params.toList args.toList ds p := hA0
  rw [Try.params3] at hA hval hsz
  obtain ⟨v0, vs0, d0, ds0, p0, q0, hargs, rfl, rfl, h0, r0⟩ := trodAll_cons hA
  obtain ⟨rfl, rfl, rfl⟩ := trodAll_nil r0
  obtain rfl : args = #[v0] := by cases args; simp_all
  obtain ⟨rfl, rfl⟩ := trodVars_none hV
  have k0 := h0
  have lt0 : ∀ x ∈ p0, x.block < W.heap.size := by obtain ⟨m, hm⟩ := k0; exact DataW.trod_lt m _ _ _ hm
  obtain ⟨cs0, rfl, _⟩ := okWide_struct Try.underlying25 (hval 0 25 v0 rfl rfl)
  obtain ⟨vl0, hv0⟩ : ∃ v, IsV W W.heap.size v (.agg cs0) := by
    obtain ⟨fuel, hf⟩ := h0
    obtain ⟨v, hv⟩ := open_value fuel _ _ hf (reach_arg hsz (j := 0) rfl rfl)
    exact ⟨v, by simpa [Value.cells] using hv⟩
  clear hA0 hval0
  refine (walk vl0 _ W.heap.size W hv0 (Nat.le_refl _)).mono fun e W' ⟨he, bel⟩ => ?_
  subst he
  exact ⟨_, rfl, _, _, _, [], _, [], hW', trodAll_mk1 (shut_bool Try.underlying4 _), (trodAll_cons_mk (Below.trod laidOut (by kernel_rfl) (of_decide_eq_true (by kernel_rfl)) k0 bel lt0) trodAll_mk0), rfl, bel.frame _, fun h => by cases h⟩

theorem over : Rows.valueIsRow.holds Try.pinned (OpenSpec.ofChange Rows.valueIsSpec) :=
  OpenClaim.holds_of_wide 3 Try.f3 rfl rfl rfl rfl rfl rfl rfl ⟨rfl, rfl, rfl, rfl, rfl⟩ rfl rfl rfl rfl rfl (by kernel_rfl) Try.func3 (by kernel_rfl)
    (of_decide_eq_true (by kernel_rfl)) (by unfold Func.isWrapper; first | (rw [if_pos (by decide +kernel)]; kernel_rfl) | (rw [if_neg (by decide +kernel)]; exact ⟨rfl, rfl⟩))
    (fun os started H enc _ => lifted os started H enc)

end Go.Proofs.Ytiflnkoghdapnaa.valueIs

namespace Go.Proofs.Ytiflnkoghdapnaa
theorem valueIs_holds : Rows.ValueIsSaid := valueIs.over
#print axioms valueIs_holds
end Go.Proofs.Ytiflnkoghdapnaa
