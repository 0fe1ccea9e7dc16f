/-
  Of a nil table of whole numbers every function answers as the document says, for any key and thing (TableNoneSaid); no conditions.
-/
import Derived.Test.YtflopmhjgamcfaaRows
import Derived.Test.YtflopmhjgamcfaaTNone
import Derived.ProofKit
import Derived.ShutString
import Derived.ChangeOld
namespace Go.Proofs.Ytflopmhjgamcfaa.tableNone
open Go.ChangeShapes Go.WideShapes Go.ChangeAt Go.RowKit
set_option linter.unusedVariables false

theorem own : ownKnob Try.prog.godebug = none := by kernel_rfl
theorem laidOut : laidOutB Try.prog = true := by kernel_rfl

set_option maxRecDepth 100000 in
set_option maxHeartbeats 800000 in
theorem walk (k v : Int) (w : World) : Calls Try.prog 7 #[.int .i64 k, .int .i64 v] w fun e w' => e = .returned (.bool true) ∧ Below w.heap.size w w' := by
  go_enter Try.func7, Try.ntmps7
  go_wp2_with fail
  refine (get_nilI _ _).mono ?_
  rintro e w1 ⟨rfl, b1⟩
  have H := hide b1
  clear b1
  go_wp2_with fail
  refine (at_nilI _ _).mono ?_
  rintro e w2 ⟨rfl, b2⟩
  have H := hide ((unhide H).trans (b2.mono (unhide H).size))
  clear b2
  go_wp2_with fail
  refine (find_nilI _ _).mono ?_
  rintro e w3 ⟨rfl, q, rfl⟩
  have H := hide (below_drewN (unhide H) q)
  obtain ⟨u3, hu3⟩ : ∃ u3, w2.drewN q = u3 := ⟨_, rfl⟩
  rw [hu3] at H ⊢
  clear hu3
  go_wp2_with fail
  refine (put_nilI _ _ _).mono ?_
  rintro e w4 ⟨rfl, rfl⟩
  go_wp2_with fail
  refine (delete_nilI _ _).mono ?_
  rintro e w5 ⟨rfl, b5⟩
  have H := hide ((unhide H).trans (b5.mono (unhide H).size))
  clear b5
  go_wp2_with fail
  refine (len_nilI _).mono ?_
  rintro e w6 ⟨rfl, rfl⟩
  go_wp2_with fail
  refine (new_I _).mono ?_
  rintro e w7 ⟨rfl, hw7⟩
  obtain ⟨G, hG⟩ : ∃ G, w6.heap.size = G := ⟨_, rfl⟩
  have N7 := heap_alloc_new w6 (.cells #[.slice none 0 0] 73)
  have B7 : Below w6.heap.size w6 w7 := by rw [hw7]; exact (Below.refl _ _).alloc (Nat.le_refl _) _
  have Z7 : w7.heap.size = w6.heap.size + 1 := by rw [hw7]; simp
  rw [← hw7, hG] at N7
  rw [hG] at B7 Z7 ⊢
  have T7 : TabI w7 0 G (.slice none 0 0) [] := ⟨N7, World.ownsRow_nil _ _ _ _⟩
  have CP := hide (put_endI T7 (by simp [Value.ownBlock]) (fun i j p q _ h => by simp at h) k v (fun p h => by cases h) (by simp) (Nat.zero_le _))
  have HZ := hide (And.intro hG (And.intro B7 Z7))
  clear hw7 N7 B7 Z7 T7 hG
  go_wp2_with fail
  refine (unhide CP).mono ?_
  rintro e w8 ⟨v8, rfl, t8, n8, r8, u8⟩
  have b8 := u8.below (B := G) (by have := (unhide HZ).2.2; omega) (Nat.le_refl _) (fun b h => by cases h)
  have H8 : Hid (Below w.heap.size w w8) := hide (by
    have h1 := unhide H
    have h2 := (unhide HZ).2.1
    have h3 := (unhide HZ).1
    have hs := h1.size
    exact (h1.trans (h2.mono (by omega))).trans (b8.mono (by omega)))
  have CL := hide (len_I t8)
  clear t8 n8 r8 u8 b8 CP H HZ
  go_wp2_with fail
  refine (unhide CL).mono ?_
  rintro e w9 ⟨rfl, rfl⟩
  go_wp2_with fail
  refine (copy_nilI _).mono ?_
  rintro e w10 ⟨rfl, rfl⟩
  go_wp2_with fail
  go_ret
  exact ⟨rfl, unhide H8⟩

set_option maxRecDepth 100000 in
theorem lifted (os : Os) (started : os.Started) (H : Type) (enc : TypeId × Value → H) :
    ReturnsInHanded {} Try.checked os 7 .any (Rows.tableNoneSpec.pre6 enc Try.prog Try.f7 Rows.tableNoneRow.domain false) (Rows.tableNoneSpec.post enc Try.prog Try.f7 false true false false) := by
  refine returnsInHanded_of_change_sized (C := Try.checked) own started (by kernel_rfl) Try.func7
    (ChangeSpec.witness6 (enc := enc) (C := Try.checked) false ⟨#[], #[.int .i64 0, .int .i64 0], []⟩ 8 (by kernel_rfl) (by kernel_rfl) (by kernel_rfl) (by kernel_rfl)) ?_
  intro W base args ds gs before hval0 hW _ _ _
  have hval : ∀ (j : Nat) t v, Try.f7.params[j]? = some t → args[j]? = some v → Value.okWide Try.prog W .any base t v := hval0
  have hW' := hW
  obtain ⟨p, q, hA0, hV, rfl, hfz, hnd⟩ := hW
  have hA : DataW.TrodAll enc Try.prog W 0 (fun _ => true) true Try.f7.params.toList args.toList ds p := hA0
  rw [Try.params7] at hA hval
  obtain ⟨v0, vs0, d0, ds0, p0, q0, hargs, rfl, rfl, h0, r0⟩ := trodAll_cons hA
  obtain ⟨v1, vs1, d1, ds1, p1, q1, hargs1, rfl, rfl, h1, r1⟩ := trodAll_cons r0
  obtain ⟨rfl, rfl, rfl⟩ := trodAll_nil r1
  subst hargs1
  obtain rfl : args = #[v0, v1] := by cases args; simp_all
  obtain ⟨rfl, rfl⟩ := trodVars_none hV
  obtain ⟨a0, rfl, rfl, rfl, w0⟩ := open_int Try.underlying3 (hval 0 3 v0 rfl rfl) h0
  obtain ⟨a1, rfl, rfl, rfl, w1⟩ := open_int Try.underlying3 (hval 1 3 v1 rfl rfl) h1
  clear hA0 hval0
  refine (walk a0 a1 W).mono fun e W' ⟨he, bel⟩ => ?_
  subst he
  exact ⟨_, rfl, _, _, _, [], _, [], hW', trodAll_mk1 (shut_bool Try.underlying4 _), (trodAll_cons_mk (shut_int Try.underlying3 w0) (trodAll_cons_mk (shut_int Try.underlying3 w1) trodAll_mk0)), rfl, bel.frame _, fun h => by cases h⟩

theorem over : Rows.tableNoneRow.holds Try.pinned (OpenSpec.ofChange Rows.tableNoneSpec) :=
  OpenClaim.holds_of_wide 7 Try.f7 rfl rfl rfl rfl rfl rfl rfl ⟨rfl, rfl, rfl, rfl, rfl⟩ rfl rfl rfl rfl rfl (by kernel_rfl) Try.func7 (by kernel_rfl)
    (of_decide_eq_true (by kernel_rfl)) (by unfold Func.isWrapper; first | (rw [if_pos (by decide +kernel)]; kernel_rfl) | (rw [if_neg (by decide +kernel)]; exact ⟨rfl, rfl⟩))
    (fun os started H enc _ => lifted os started H enc)
end Go.Proofs.Ytflopmhjgamcfaa.tableNone

namespace Go.Proofs.Ytflopmhjgamcfaa
theorem tableNone_holds : Rows.TableNoneSaid := tableNone.over
#print axioms tableNone_holds
end Go.Proofs.Ytflopmhjgamcfaa
