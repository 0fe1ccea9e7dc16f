/-
  For any bytes, any place and any bound: num.Uint, Int and Text answer what the document's do, and leave the bytes and their spare room as they were (the statement NumReadsSaid); no conditions.
-/
import Derived.Test.YtojhfoojodmmaaaRefs
import Derived.Test.YtojhfoojodmmaaaMem
import Derived.Test.YtojhfoojodmmaaaOpen8
namespace Go.Proofs.Ytojhfoojodmmaaa.numReads
open Go.ChangeShapes Go.WideShapes Go.ChangeAt Go.RowKit
open Go.ChangeMaps (open_string shut_string)
set_option linter.unusedVariables false

set_option maxRecDepth 100000 in
set_option maxHeartbeats 2000000 in
theorem walk (a0 : Option Addr) (len0 cap0 : Nat) (z0 : List Int) (a1 : Int) (a2 : Int) (w : World) (w0 : Row8 w a0 len0 cap0 z0) (hcap : cap0 ≤ 140737488351232) (w2 : a2 ≤ 9223372036854775807) :
    Calls Try.prog 4 #[.slice a0 len0 cap0, .int .i64 a1, .int .i64 a2] w fun e w' => e = .returned (.bool true) ∧ Below w.heap.size w w' := by
  have hle := w0.le
  go_enter Try.func4, Try.ntmps4
  go_wp2_with fail
  refine (shown_any _).mono ?_
  rintro e v1 ⟨rfl, hb1⟩
  have r1 := w0.later hb1
  go_wp2_with fail
  refine (lent_any a0 len0 cap0 z0 v1 r1 (by omega)).mono ?_
  rintro e v2 ⟨rfl, ho2, hb2⟩
  have r2 := r1.later hb2
  have l2 := Row8.own ho2 (by
    intro n hn
    rcases List.mem_append.1 hn with h | h
    · exact w0.small n h
    · have := List.eq_of_mem_replicate h; omega)
  have HB : Hid (Below w.heap.size w v2) := hide (hb1.trans (hb2.mono hb1.size))
  have q2 : Row8 v2 (some ⟨v1.heap.size, 0, none⟩) len0 (len0 + 8) z0 := by
    refine ⟨w0.length, (fun e => by cases e), ?_, w0.small, by omega⟩
    intro ad ha j u hj
    refine l2.cells ad ha j u ?_
    rw [List.map_append, List.getElem?_append_left (by
      have := (List.getElem?_eq_some_iff.1 hj).1
      exact this)]
    exact hj
  have C1 := hide (uint_any _ _ _ a1 z0 v2 q2 (by unfold maxLen; omega))
  have C2 := hide (refUint_any _ _ _ a1 z0 v2 r2 (by unfold maxLen; omega))
  have C3 := hide (int_any _ _ _ a1 z0 v2 q2 (by unfold maxLen; omega))
  have C4 := hide (refInt_any _ _ _ a1 z0 v2 r2 (by unfold maxLen; omega))
  have C5 := hide (text_any _ _ _ a1 a2 z0 v2 q2 (by omega) w2)
  have C6 := hide (refText_any _ _ _ a1 a2 z0 v2 r2 (by omega) w2)
  have C7 := hide (still_any _ _ _ _ z0 v2 l2 r2 (by omega))
  have hi1 : (len0 : Int) ≤ (len0 : Int) + 8 := by omega
  clear r1 r2 l2 q2 ho2 hb1 hb2 w0
  generalize textOfU z0 a2 (uintAt z0 a1) = T at *
  generalize intOfU (uintAt z0 a1) = I at *
  generalize uintAt z0 a1 = U at *
  obtain ⟨t1, t2, t3⟩ := T
  obtain ⟨i1, i2, i3⟩ := I
  obtain ⟨u1, u2, u3⟩ := U
  dsimp only at *
  go_wp2_with fail
  refine (unhide C1).mono ?_
  rintro e v3 ⟨rfl, rfl⟩
  go_wp2_with fail
  refine (unhide C2).mono ?_
  rintro e v4 ⟨rfl, rfl⟩
  go_wp2_with fail
  refine (unhide C3).mono ?_
  rintro e v5 ⟨rfl, rfl⟩
  go_wp2_with fail
  refine (unhide C4).mono ?_
  rintro e v6 ⟨rfl, rfl⟩
  go_wp2_with fail
  refine (unhide C5).mono ?_
  rintro e v7 ⟨rfl, rfl⟩
  go_wp2_with fail
  refine (unhide C6).mono ?_
  rintro e v8 ⟨rfl, rfl⟩
  go_wp2_with fail
  refine (unhide C7).mono ?_
  rintro e v9 ⟨rfl, q, rfl⟩
  go_wp2_with fail
  go_ret
  exact ⟨by simp, below_drewN (unhide HB) _⟩

/-! ### THE ROW's STEP: WRITTEN OUT: LEAVE IT -/
set_option maxRecDepth 100000 in
theorem lifted (os : Os) (started : os.Started) (H : Type) (enc : TypeId × Value → H) :
    ReturnsInHanded {} Try.checked os 4 .any (Rows.numReadsSpec.pre6 enc Try.prog Try.f4 Rows.numReadsRow.domain false) (Rows.numReadsSpec.post enc Try.prog Try.f4 false true false false) := by
  refine returnsInHanded_of_change_sized (C := Try.checked) own started (by kernel_rfl) Try.func4
    (ChangeSpec.witness6 (enc := enc) (C := Try.checked) false ⟨#[], #[.slice none 0 0, .int .i64 0, .int .i64 0], []⟩ 8 (by kernel_rfl) (by kernel_rfl) (by kernel_rfl) (by kernel_rfl)) ?_
  intro W base args ds gs before hval0 hW _ hsz0 _
  have hsz : (DataW.weightsEach Try.prog (Try.f4.params.toList ++ Rows.numReadsSpec.plain.varTypes Try.prog) (ds ++ gs)).all (· ≤ reachBytes) = true := hsz0
  clear hsz0
  have hval : ∀ (j : Nat) t v, Try.f4.params[j]? = some t → args[j]? = some v → Value.okWide Try.prog W .any base t v := hval0
  have hW' := hW
  obtain ⟨p, q, hA0, hV, rfl, hfz, hnd⟩ := hW
  have hA : DataW.TrodAll enc Try.prog W 0 (fun _ => true) true Try.f4.params.toList args.toList ds p := hA0
  rw [Try.params4] at hA hval hsz
  obtain ⟨v0, vs0, d0, ds0, p0, q0, hargs, rfl, rfl, h0, r0⟩ := trodAll_cons hA
  obtain ⟨v1, vs1, d1, ds1, p1, q1, rfl, rfl, rfl, h1, r1⟩ := trodAll_cons r0
  obtain ⟨v2, vs2, d2, ds2, p2, q2, rfl, rfl, rfl, h2, r2⟩ := trodAll_cons r1
  obtain ⟨rfl, rfl, rfl⟩ := trodAll_nil r2
  obtain rfl : args = #[v0, v1, v2] := by cases args; simp_all
  obtain ⟨rfl, rfl⟩ := trodVars_none hV
  obtain ⟨a0, len0, cap0, rfl⟩ := okWide_slice Try.underlying22 (hval 0 22 v0 rfl rfl)
  have k0 := h0
  have lt0 : ∀ x ∈ p0, x.block < W.heap.size := by obtain ⟨m, hm⟩ := k0; exact DataW.trod_lt m _ _ _ hm
  obtain ⟨z0, w0, _, hcs⟩ := open_row8 h0
  have hcap : cap0 ≤ 140737488351232 := by
    rcases hcs with rfl | ⟨elems, spare, rfl, hc⟩
    · omega
    · have := sized_slice hsz (j := 0) (t := 22) (e := 5) rfl rfl Try.underlying22
      rw [bytes5] at this
      unfold reachBytes at this
      omega
  obtain ⟨a1, rfl, rfl, rfl, w1⟩ := open_int Try.underlying3 (hval 1 3 v1 rfl rfl) h1
  obtain ⟨a2, rfl, rfl, rfl, w2⟩ := open_int Try.underlying3 (hval 2 3 v2 rfl rfl) h2
  clear hA0 hval0
  refine (walk a0 len0 cap0 z0 a1 a2 W w0 hcap (bounds_i64 w2).2).mono fun e W' ⟨he, bel⟩ => ?_
  subst he
  exact ⟨_, rfl, _, _, _, [], _, [], hW', trodAll_mk1 (shut_bool Try.underlying4 _), (trodAll_cons_mk (Below.trod laidOut (by kernel_rfl) (of_decide_eq_true (by kernel_rfl)) k0 bel lt0) (trodAll_cons_mk (shut_int Try.underlying3 w1) (trodAll_cons_mk (shut_int Try.underlying3 w2) trodAll_mk0))), rfl, bel.frame _, fun h => by cases h⟩

theorem over : Rows.numReadsRow.holds Try.pinned (OpenSpec.ofChange Rows.numReadsSpec) :=
  OpenClaim.holds_of_wide 4 Try.f4 rfl rfl rfl rfl rfl rfl rfl ⟨rfl, rfl, rfl, rfl, rfl⟩ rfl rfl rfl rfl rfl (by kernel_rfl) Try.func4 (by kernel_rfl)
    (of_decide_eq_true (by kernel_rfl)) (by unfold Func.isWrapper; first | (rw [if_pos (by decide +kernel)]; kernel_rfl) | (rw [if_neg (by decide +kernel)]; exact ⟨rfl, rfl⟩))
    (fun os started H enc _ => lifted os started H enc)

end Go.Proofs.Ytojhfoojodmmaaa.numReads

namespace Go.Proofs.Ytojhfoojodmmaaa
theorem numReads_holds : Rows.NumReadsSaid := numReads.over
#print axioms numReads_holds
end Go.Proofs.Ytojhfoojodmmaaa
