/-
  For every two numbers of 64 bits: the bytes that num.PutUint lays of the one are no beginning of the other's, unless the two are the same (the statement NumApartSaid); no conditions.
-/
import Derived.Test.YtojhfoojodmmaaaLaw1
import Derived.WalkKit
import Derived.ProofKit
import Derived.OpenShut
import Derived.ShutString
import Derived.ChangeOld
import Derived.Below
namespace Go.Proofs.Ytojhfoojodmmaaa.numApart
open Go.ChangeShapes Go.WideShapes Go.ChangeAt Go.RowKit
open Go.ChangeMaps (open_string shut_string)
set_option linter.unusedVariables false      -- a walk need not use every 'w<i>' (that an integer argument fits its kind)

theorem own : ownKnob Try.prog.godebug = none := by kernel_rfl


set_option maxHeartbeats 1000000 in
theorem walk (a0 : Int) (a1 : Int) (w0 : (Lit.int .u64 a0).wf = true) (w1 : (Lit.int .u64 a1).wf = true) (w : World) :
    Calls Try.prog 7 #[.int .u64 a0, .int .u64 a1] w fun e w' => e = .returned (.bool true) ∧ Below w.heap.size w w' := by
  have b0 := bounds_u64 w0
  have b1 := bounds_u64 w1
  obtain ⟨p0, p1⟩ := b0
  obtain ⟨q0, q1⟩ := b1
  clear w0 w1
  go_enter Try.func7, Try.ntmps7
  go_wp2_with fail
  refine (shown_any _).mono ?_
  rintro e v1 ⟨rfl, hb1⟩
  go_wp2_with fail
  refine (putUint_nil a0 _ p0 p1).mono ?_
  rintro e v2 ⟨rfl, r2, hb2⟩
  go_wp2_with fail
  refine (putUint_nil a1 _ q0 q1).mono ?_
  rintro e v3 ⟨rfl, r3, hb3⟩
  have r2' := r2.later hb3
  have l2 := encF_len 9 a0
  have l3 := encF_len 9 a1
  obtain ⟨b2, o2, e2, c2⟩ := r2'.at (by omega)
  obtain ⟨b3, o3, e3, c3⟩ := r3.at (by omega)
  cases e2
  cases e3
  have k2 := conv_row r2'.length c2 0 (encF 9 a0).length 10 (by omega)
  have k3 : (encF 9 a0).length ≤ (encF 9 a1).length → _ := fun h => conv_row r3.length c3 0 (encF 9 a0).length 10 (by omega)
  simp only [Nat.add_zero, List.drop_zero, List.take_length] at k2 k3
  have HB : Hid (Below w.heap.size w v3) := hide (hb1.trans ((hb2.mono hb1.size).trans (hb3.mono (Nat.le_trans hb1.size hb2.size))))
  have s2 := r2'.small
  have s3 := r3.small
  have iff : (encF 9 a0).length ≤ (encF 9 a1).length → (strOfNums ((encF 9 a1).take (encF 9 a0).length) = strOfNums (encF 9 a0) ↔ a0 = a1) := by
    intro h
    constructor
    · intro he
      exact encF_prefix 9 a0 a1 (str_inj _ _ (fun n hn => s3 n (List.mem_of_mem_take hn)) s2 he)
    · rintro rfl
      rw [List.take_length]
  have apart : ¬ (encF 9 a0).length ≤ (encF 9 a1).length → a0 ≠ a1 := by
    rintro h rfl
    exact h (Nat.le_refl _)
  have IFF := hide iff
  have AP := hide apart
  clear r2 r2' r3 hb1 hb2 hb3 c2 c3 s2 s3 iff apart
  generalize strOfNums ((encF 9 a1).take (encF 9 a0).length) = S3 at *
  generalize strOfNums (encF 9 a0) = S2 at *
  generalize (encF 9 a0).length = lx at *
  generalize (encF 9 a1).length = ly at *
  by_cases hle : lx ≤ ly
  · have k3' := k3 hle
    have hle' : (lx : Int) ≤ (ly : Int) := by omega
    have hd : decide ((lx : Int) ≤ (ly : Int)) = true := by simpa using hle
    clear k3
    go_wp2_with fail
    go_quiet (fail)
    go_wp2_with fail
    go_ret
    refine ⟨ret_bool ?_, below_drewN (unhide HB) _⟩
    rw [beq_iff_eq, Bool.eq_iff_iff, str_beq, beq_iff_eq]
    exact (unhide IFF) hle
  · clear k3
    have hd : decide ((lx : Int) ≤ (ly : Int)) = false := by simpa using hle
    have hne := (unhide AP) hle
    have hne' : (a0 == a1) = false := by simpa using hne
    go_wp2_with fail
    go_quiet (fail)
    go_wp2_with fail
    go_ret
    exact ⟨rfl, below_drewN (unhide HB) _⟩

/-! ### THE ROW's STEP: WRITTEN OUT: LEAVE IT -/
set_option maxRecDepth 100000 in
theorem lifted (os : Os) (started : os.Started) (H : Type) (enc : TypeId × Value → H) :
    ReturnsInHanded {} Try.checked os 7 .any (Rows.numApartSpec.pre6 enc Try.prog Try.f7 Rows.numApartRow.domain false) (Rows.numApartSpec.post enc Try.prog Try.f7 false true false false) := by
  refine returnsInHanded_of_change (C := Try.checked) own started (by kernel_rfl) Try.func7
    (ChangeSpec.witness6 (enc := enc) (C := Try.checked) false ⟨#[], #[.int .u64 0, .int .u64 0], []⟩ 8 (by kernel_rfl) (by kernel_rfl) (by kernel_rfl) (by kernel_rfl)) ?_
  intro W base args ds gs before hval0 hW hcnd _
  have hval : ∀ (j : Nat) t v, Try.f7.params[j]? = some t → args[j]? = some v → Value.okWide Try.prog W .any base t v := hval0
  have hW' := hW
  obtain ⟨p, q, hA0, hV, rfl, hfz, hnd⟩ := hW
  have hA : DataW.TrodAll enc Try.prog W 0 (fun _ => true) true Try.f7.params.toList args.toList ds p := hA0
  rw [Try.params7] at hA hval
  obtain ⟨v0, vs0, d0, ds0, p0, q0, hargs, rfl, rfl, h0, r0⟩ := trodAll_cons hA
  obtain ⟨v1, vs1, d1, ds1, p1, q1, rfl, rfl, rfl, h1, r1⟩ := trodAll_cons r0
  obtain ⟨rfl, rfl, rfl⟩ := trodAll_nil r1
  obtain rfl : args = #[v0, v1] := by cases args; simp_all
  obtain ⟨rfl, rfl⟩ := trodVars_none hV
  obtain ⟨a0, rfl, rfl, rfl, w0⟩ := open_int Try.underlying23 (hval 0 23 v0 rfl rfl) h0
  obtain ⟨a1, rfl, rfl, rfl, w1⟩ := open_int Try.underlying23 (hval 1 23 v1 rfl rfl) h1
  clear hA0 hval0
  refine (walk a0 a1 w0 w1 W).mono fun e W' ⟨he, bel⟩ => ?_
  subst he
  exact ⟨_, rfl, _, _, _, [], _, [], hW', trodAll_mk1 (shut_bool Try.underlying4 _), (trodAll_cons_mk (shut_int Try.underlying23 w0) (trodAll_cons_mk (shut_int Try.underlying23 w1) trodAll_mk0)), rfl, bel.frame _, fun h => by cases h⟩

theorem over : Rows.numApartRow.holds Try.pinned (OpenSpec.ofChange Rows.numApartSpec) :=
  OpenClaim.holds_of_wide 7 Try.f7 rfl rfl rfl rfl rfl rfl rfl ⟨rfl, rfl, rfl, rfl, rfl⟩ rfl rfl rfl rfl rfl (by kernel_rfl) Try.func7 (by kernel_rfl)
    (of_decide_eq_true (by kernel_rfl)) (by unfold Func.isWrapper; first | (rw [if_pos (by decide +kernel)]; kernel_rfl) | (rw [if_neg (by decide +kernel)]; exact ⟨rfl, rfl⟩))
    (fun os started H enc _ => lifted os started H enc)

end Go.Proofs.Ytojhfoojodmmaaa.numApart

namespace Go.Proofs.Ytojhfoojodmmaaa
theorem numApart_holds : Rows.NumApartSaid := numApart.over
#print axioms numApart_holds
end Go.Proofs.Ytojhfoojodmmaaa
