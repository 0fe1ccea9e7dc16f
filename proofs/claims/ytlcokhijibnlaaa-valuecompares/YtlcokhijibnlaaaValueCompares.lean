/-
  Every Compare of any two values is as the document says (ValueComparesSaid); no condition but the form's own reach.
-/
import Derived.Test.YtlcokhijibnlaaaRows
import Derived.Test.YtlcokhijibnlaaaVShown
import Derived.Test.YtlcokhijibnlaaaVCompare
import Derived.Test.YtlcokhijibnlaaaVOpen
import Derived.ShutString
import Derived.ChangeOld
namespace Go.Proofs.Ytlcokhijibnlaaa.valueCompares
open Go.ChangeShapes Go.WideShapes Go.ChangeAt Go.RowKit
set_option linter.unusedVariables false

theorem own : ownKnob Try.prog.godebug = none := by kernel_rfl
theorem laidOut : laidOutB Try.prog = true := by kernel_rfl

set_option maxRecDepth 100000 in
set_option maxHeartbeats 400000 in
theorem walk (v v' : Vl) (x x' : Value) (B : Nat) (w : World) (hv : IsV w B v x) (hv' : IsV w B v' x') (hBs : B ≤ w.heap.size) :
    Calls Try.prog 3 #[x, x'] w fun e w' => e = .returned (.bool true) ∧ Below w.heap.size w w' := by
  obtain ⟨k, n, s, l, ks, al, ak, cl, ck, _, hx⟩ := hv.shape
  obtain ⟨k', n', s', l', ks', al', ak', cl', ck', _, hx'⟩ := hv'.shape
  obtain ⟨m, hm⟩ : ∃ m, ks.length = m := ⟨_, rfl⟩
  obtain ⟨ln, hln⟩ : ∃ ln, l.length = ln := ⟨_, rfl⟩
  obtain ⟨m', hm'⟩ : ∃ m', ks'.length = m' := ⟨_, rfl⟩
  obtain ⟨ln', hln'⟩ : ∃ ln', l'.length = ln' := ⟨_, rfl⟩
  rw [hm, hln] at hx
  rw [hm', hln'] at hx'
  subst hx
  subst hx'
  have TW := Two.mk' w 25 #[.int .i64 k, .int .i64 n, .string s, .slice al ln cl, .slice ak m ck] #[.int .i64 k', .int .i64 n', .string s', .slice al' ln' cl', .slice ak' m' ck']
  obtain ⟨w2, hw2⟩ : ∃ w2, (w.alloc (.cells #[.int .i64 k, .int .i64 n, .string s, .slice al ln cl, .slice ak m ck] 25)).alloc (.cells #[.int .i64 k', .int .i64 n', .string s', .slice al' ln' cl', .slice ak' m' ck'] 25) = w2 := ⟨_, rfl⟩
  rw [hw2] at TW
  obtain ⟨g, hg⟩ : ∃ g, w.heap.size = g := ⟨_, rfl⟩
  rw [hg] at TW
  have HT := hide TW
  have HV : Hid (∀ u, Below w2.heap.size w2 u → IsV u B v (.agg #[.int .i64 k, .int .i64 n, .string s, .slice al ln cl, .slice ak m ck]) ∧ IsV u B v' (.agg #[.int .i64 k', .int .i64 n', .string s', .slice al' ln' cl', .slice ak' m' ck']) ∧ B ≤ u.heap.size) :=
    hide (fun u hu => by
      have h1 : Below B w u := (TW.below.mono (by omega)).trans (hu.mono (by have := TW.size; omega))
      exact ⟨hv.mono h1, hv'.mono h1, by have := hu.size; have := TW.size; omega⟩)
  have HB : Hid (∀ u, Below w2.heap.size w2 u → Below w.heap.size w u) := hide (fun u hu => TW.below.trans (hu.mono (by have := TW.size; omega)))
  clear TW hv hv' hm hln hm' hln'
  have C1 := fun u hu => hide (compare_code v v' _ _ B u (unhide HV u hu).1 (unhide HV u hu).2.1 (unhide HV u hu).2.2)
  have C2 := fun u hu => hide (compare_code v' v _ _ B u (unhide HV u hu).2.1 (unhide HV u hu).1 (unhide HV u hu).2.2)
  have C3 := fun u hu => hide (compare_code v v _ _ B u (unhide HV u hu).1 (unhide HV u hu).1 (unhide HV u hu).2.2)
  have D1 := fun u hu => hide (compare_ref v v' _ _ B u (unhide HV u hu).1 (unhide HV u hu).2.1 (unhide HV u hu).2.2)
  have D2 := fun u hu => hide (compare_ref v' v _ _ B u (unhide HV u hu).2.1 (unhide HV u hu).1 (unhide HV u hu).2.2)
  rw [ord0_self] at C3
  obtain ⟨P, hP⟩ : ∃ P, ord0 v v' = P := ⟨_, rfl⟩
  obtain ⟨Q, hQ⟩ : ∃ Q, ord0 v' v = Q := ⟨_, rfl⟩
  rw [hP] at C1 D1
  rw [hQ] at C2 D2
  have C0 := fun u => hide (shown_any u)
  have X0 : Hid (Below w2.heap.size w2 w2) := hide (Below.refl _ _)
  clear hP hQ
  obtain ⟨r0, r1⟩ := (unhide HT).later (unhide X0)
  obtain ⟨c0, c1, c2, c3, c4⟩ := row_cell r0
  obtain ⟨d0, d1, d2, d3, d4⟩ := row_cell r1
  clear r0 r1
  go_enter Try.func3, Try.ntmps3
  go_wp2_with fail
  refine (unhide (C0 w2)).mono ?_
  rintro e u1 ⟨rfl, b1⟩
  have X1 : Hid (Below w2.heap.size w2 u1) := hide ((unhide X0).trans (b1.mono (unhide X0).size))
  clear c0 c1 c2 c3 c4 d0 d1 d2 d3 d4
  obtain ⟨r0, r1⟩ := (unhide HT).later (unhide X1)
  obtain ⟨c0, c1, c2, c3, c4⟩ := row_cell r0
  obtain ⟨d0, d1, d2, d3, d4⟩ := row_cell r1
  clear r0 r1
  clear b1
  go_wp2_with fail
  refine (unhide (C1 u1 (unhide X1))).mono ?_
  rintro e u2 ⟨rfl, b2⟩
  have X2 : Hid (Below w2.heap.size w2 u2) := hide ((unhide X1).trans (b2.mono (unhide X1).size))
  clear c0 c1 c2 c3 c4 d0 d1 d2 d3 d4
  obtain ⟨r0, r1⟩ := (unhide HT).later (unhide X2)
  obtain ⟨c0, c1, c2, c3, c4⟩ := row_cell r0
  obtain ⟨d0, d1, d2, d3, d4⟩ := row_cell r1
  clear r0 r1
  clear b2
  go_wp2_with fail
  refine (unhide (C2 u2 (unhide X2))).mono ?_
  rintro e u3 ⟨rfl, b3⟩
  have X3 : Hid (Below w2.heap.size w2 u3) := hide ((unhide X2).trans (b3.mono (unhide X2).size))
  clear c0 c1 c2 c3 c4 d0 d1 d2 d3 d4
  obtain ⟨r0, r1⟩ := (unhide HT).later (unhide X3)
  obtain ⟨c0, c1, c2, c3, c4⟩ := row_cell r0
  obtain ⟨d0, d1, d2, d3, d4⟩ := row_cell r1
  clear r0 r1
  clear b3
  go_wp2_with fail
  refine (unhide (C3 u3 (unhide X3))).mono ?_
  rintro e u4 ⟨rfl, b4⟩
  have X4 : Hid (Below w2.heap.size w2 u4) := hide ((unhide X3).trans (b4.mono (unhide X3).size))
  clear c0 c1 c2 c3 c4 d0 d1 d2 d3 d4
  obtain ⟨r0, r1⟩ := (unhide HT).later (unhide X4)
  obtain ⟨c0, c1, c2, c3, c4⟩ := row_cell r0
  obtain ⟨d0, d1, d2, d3, d4⟩ := row_cell r1
  clear r0 r1
  clear b4
  go_wp2_with fail
  refine (unhide (D1 u4 (unhide X4))).mono ?_
  rintro e u5 ⟨rfl, b5⟩
  have X5 : Hid (Below w2.heap.size w2 u5) := hide ((unhide X4).trans (b5.mono (unhide X4).size))
  clear c0 c1 c2 c3 c4 d0 d1 d2 d3 d4
  obtain ⟨r0, r1⟩ := (unhide HT).later (unhide X5)
  obtain ⟨c0, c1, c2, c3, c4⟩ := row_cell r0
  obtain ⟨d0, d1, d2, d3, d4⟩ := row_cell r1
  clear r0 r1
  clear b5
  go_wp2_with fail
  refine (unhide (D2 u5 (unhide X5))).mono ?_
  rintro e u6 ⟨rfl, b6⟩
  have X6 : Hid (Below w2.heap.size w2 u6) := hide ((unhide X5).trans (b6.mono (unhide X5).size))
  clear c0 c1 c2 c3 c4 d0 d1 d2 d3 d4
  obtain ⟨r0, r1⟩ := (unhide HT).later (unhide X6)
  obtain ⟨c0, c1, c2, c3, c4⟩ := row_cell r0
  obtain ⟨d0, d1, d2, d3, d4⟩ := row_cell r1
  clear r0 r1
  clear b6
  go_wp2_with fail
  go_ret
  exact ⟨by simp, by first | exact unhide HB _ (unhide X6) | (rw [← hg]; exact unhide HB _ (unhide X6))⟩

set_option maxRecDepth 100000 in
theorem lifted (os : Os) (started : os.Started) (H : Type) (enc : TypeId × Value → H) :
    ReturnsInHanded {} Try.checked os 3 .any (Rows.valueComparesSpec.pre6 enc Try.prog Try.f3 Rows.valueComparesRow.domain false) (Rows.valueComparesSpec.post enc Try.prog Try.f3 false true false false) := by
  refine returnsInHanded_of_change_sized (C := Try.checked) own started (by kernel_rfl) Try.func3
    (ChangeSpec.witness6 (enc := enc) (C := Try.checked) false ⟨#[], #[.agg #[.int .i64 0, .int .i64 0, .string ⟨#[]⟩, .slice none 0 0, .slice none 0 0], .agg #[.int .i64 0, .int .i64 0, .string ⟨#[]⟩, .slice none 0 0, .slice none 0 0]], []⟩ 8 (by kernel_rfl) (by kernel_rfl) (by kernel_rfl) (by kernel_rfl)) ?_
  intro W base args ds gs before hval0 hW _ hsz0 _
  have hsz : (DataW.weightsEach Try.prog (Try.f3.params.toList ++ Rows.valueComparesSpec.plain.varTypes Try.prog) (ds ++ gs)).all (· ≤ reachBytes) = true := hsz0
  clear hsz0
  have hval : ∀ (j : Nat) t v, Try.f3.params[j]? = some t → args[j]? = some v → Value.okWide Try.prog W .any base t v := hval0
  have hW' := hW
  obtain ⟨p, q, hA0, hV, rfl, hfz, hnd⟩ := hW
  have hA : DataW.TrodAll enc Try.prog W 0 (fun _ => true) true Try.f3.params.toList args.toList ds p := hA0
  rw [Try.params3] at hA hval hsz
  obtain ⟨v0, vs0, d0, ds0, p0, q0, hargs, rfl, rfl, h0, r0⟩ := trodAll_cons hA
  obtain ⟨v1, vs1, d1, ds1, p1, q1, hargs1, rfl, rfl, h1, r1⟩ := trodAll_cons r0
  obtain ⟨rfl, rfl, rfl⟩ := trodAll_nil r1
  subst hargs1
  obtain rfl : args = #[v0, v1] := by cases args; simp_all
  obtain ⟨rfl, rfl⟩ := trodVars_none hV
  have k0 := h0
  have lt0 : ∀ x ∈ p0, x.block < W.heap.size := by obtain ⟨m, hm⟩ := k0; exact DataW.trod_lt m _ _ _ hm
  have k1 := h1
  have lt1 : ∀ x ∈ p1, x.block < W.heap.size := by obtain ⟨m, hm⟩ := k1; exact DataW.trod_lt m _ _ _ hm
  obtain ⟨cs0, rfl, _⟩ := okWide_struct Try.underlying25 (hval 0 25 v0 rfl rfl)
  obtain ⟨vl0, hv0⟩ : ∃ v, IsV W W.heap.size v (.agg cs0) := by
    obtain ⟨fuel, hf⟩ := h0
    obtain ⟨v, hv⟩ := open_value fuel _ _ hf (reach_arg hsz (j := 0) rfl rfl)
    exact ⟨v, by simpa [Value.cells] using hv⟩
  obtain ⟨cs1, rfl, _⟩ := okWide_struct Try.underlying25 (hval 1 25 v1 rfl rfl)
  obtain ⟨vl1, hv1⟩ : ∃ v, IsV W W.heap.size v (.agg cs1) := by
    obtain ⟨fuel, hf⟩ := h1
    obtain ⟨v, hv⟩ := open_value fuel _ _ hf (reach_arg hsz (j := 1) rfl rfl)
    exact ⟨v, by simpa [Value.cells] using hv⟩
  clear hA0 hval0
  refine (walk vl0 vl1 _ _ W.heap.size W hv0 hv1 (Nat.le_refl _)).mono fun e W' ⟨he, bel⟩ => ?_
  subst he
  exact ⟨_, rfl, _, _, _, [], _, [], hW', trodAll_mk1 (shut_bool Try.underlying4 _), (trodAll_cons_mk (Below.trod laidOut (by kernel_rfl) (of_decide_eq_true (by kernel_rfl)) k0 bel lt0) (trodAll_cons_mk (Below.trod laidOut (by kernel_rfl) (of_decide_eq_true (by kernel_rfl)) k1 bel lt1) trodAll_mk0)), rfl, bel.frame _, fun h => by cases h⟩

theorem over : Rows.valueComparesRow.holds Try.pinned (OpenSpec.ofChange Rows.valueComparesSpec) :=
  OpenClaim.holds_of_wide 3 Try.f3 rfl rfl rfl rfl rfl rfl rfl ⟨rfl, rfl, rfl, rfl, rfl⟩ rfl rfl rfl rfl rfl (by kernel_rfl) Try.func3 (by kernel_rfl)
    (of_decide_eq_true (by kernel_rfl)) (by unfold Func.isWrapper; first | (rw [if_pos (by decide +kernel)]; kernel_rfl) | (rw [if_neg (by decide +kernel)]; exact ⟨rfl, rfl⟩))
    (fun os started H enc _ => lifted os started H enc)

end Go.Proofs.Ytlcokhijibnlaaa.valueCompares

namespace Go.Proofs.Ytlcokhijibnlaaa
theorem valueCompares_holds : Rows.ValueComparesSaid := valueCompares.over
#print axioms valueCompares_holds
end Go.Proofs.Ytlcokhijibnlaaa
