/-
  What Do gives is right, a trap gives nothing (the card PrimRightCardSaid); the listed variables as the program's text lays them; no other condition.
-/
import Derived.Test.YtgkmdjmigehmeaaGreatDoorR52
import Derived.Test.YtgkmdjmigehmeaaGreatDoorTie
import Derived.Test.YtgkmdjmigehmeaaGreatDoorCards
import Derived.ShutString
import Derived.ChangeOld
import Derived.Below
import Derived.SizedLaws
import Derived.SevenTiedAt
namespace Go.Proofs.YtgkmdjmigehmeaaGreatDoor.primRight
set_option linter.unusedVariables false
set_option linter.unusedSimpArgs false
set_option maxRecDepth 100000
set_option maxHeartbeats 16000000
open Go.ChangeShapes Go.WideShapes Go.ChangeAt Go.RowKit
theorem lifted (os : Os) (started : os.Started) (H : Type) (enc : TypeId × Value → H) :
  ReturnsInHanded {} Tryz.checked os 5 .any (fun w args => (Rows.primRightSpec.pre enc Tryz.prog Tryz.f5 [] false w args ∧ laidMetH Tryz.prog seatLaid3 w) ∧ sizedMet enc Tryz.prog Tryz.f5 (OpenSpec.ofChange Rows.primRightSpec) false w args)
   (Rows.primRightSpec.post enc Tryz.prog Tryz.f5 false true false false) := by
 refine returnsInHanded_of_change_and (C := Tryz.checked) (X := fun w _ => laidMetH Tryz.prog seatLaid3 w) (fun _ _ _ hh h => h.of_heap hh) own started (by kernel_rfl) Tryz.func5
  (ChangeSpec.witness_shaped (enc := enc) (C := Tryz.checked) (os := os) (X := fun w _ => laidMetH Tryz.prog seatLaid3 w) false (World.doorLaid Tryz.prog 400 os) #[.int .i64 0, .agg #[.int .i64 0, .int .i64 0, .string ⟨#[]⟩, .slice none 0 0, .slice none 0 0], .slice none 0 0] 8 rfl (World.shaped_of_RefB (by kernel_rfl) (by kernel_rfl)) (by kernel_rfl) (by kernel_rfl) (by kernel_rfl) (door_met3 os _)) ?_
 intro W base args ds gs before hval0 hW _ hsz0 hL _
 have hsz : (DataW.weightsEach Tryz.prog (Tryz.f5.params.toList ++ Rows.primRightSpec.plain.varTypes Tryz.prog) (ds ++ gs)).all (· ≤ reachBytes) = true := hsz0
 clear hsz0
 have hval : ∀ (j : Nat) t v, Tryz.f5.params[j]? = some t → args[j]? = some v → Value.okWide Tryz.prog W .any base t v := hval0
 have hW' := hW
 obtain ⟨p, q, hA0, hV, rfl, hfz, hnd⟩ := hW
 have hA : DataW.TrodAll enc Tryz.prog W 0 (fun _ => true) true Tryz.f5.params.toList args.toList ds p := hA0
 rw [Tryz.params5] at hA hval hsz
 obtain ⟨v0, vs0, d0, ds0, p0, q0, hargs, rfl, rfl, h0, r0⟩ := trodAll_cons hA
 obtain ⟨v1, vs1, d1, ds1, p1, q1, rfl, rfl, rfl, h1, r1⟩ := trodAll_cons r0
 obtain ⟨v2, vs2, d2, ds2, p2, q2, rfl, rfl, rfl, h2, r2⟩ := trodAll_cons r1
 obtain ⟨rfl, rfl, rfl⟩ := trodAll_nil r2
 obtain rfl : args = #[v0, v1, v2] := by cases args; simp_all
 obtain ⟨rfl, rfl⟩ := trodVars_none hV
 obtain ⟨i0, rfl⟩ := okWide_int Tryz.underlying3 (hval 0 3 v0 rfl rfl)
 obtain ⟨cs1, rfl, _⟩ := okWide_struct Tryz.underlying25 (hval 1 25 v1 rfl rfl)
 obtain ⟨sal, sn, scl, rfl⟩ := okWide_slice Tryz.underlying22 (hval 2 22 v2 rfl rfl)
 have lt0 : ∀ x ∈ p0, x.block < W.heap.size := by obtain ⟨m, hm⟩ := h0; exact DataW.trod_lt m _ _ _ hm
 have lt1 : ∀ x ∈ p1, x.block < W.heap.size := by obtain ⟨m, hm⟩ := h1; exact DataW.trod_lt m _ _ _ hm
 have lt2 : ∀ x ∈ p2, x.block < W.heap.size := by obtain ⟨m, hm⟩ := h2; exact DataW.trod_lt m _ _ _ hm
 have k1 := h1
 have k2 := h2
 obtain ⟨ex, hx⟩ : ∃ v, IsV W W.heap.size v (.agg cs1) := by
  obtain ⟨fuel, hf⟩ := h1
  obtain ⟨v, hv⟩ := open_value fuel _ _ hf (reach_arg hsz (j := 1) rfl rfl)
  exact ⟨v, by simpa [Value.cells] using hv⟩
 obtain ⟨vs, hvs⟩ : ∃ vs, ArV W W.heap.size vs sal sn scl := by
  obtain ⟨fuel, hf⟩ := h2
  obtain ⟨l9, al9, cl9, he9, hv9⟩ := open_valuesP hf (reach_arg hsz (j := 2) rfl rfl)
  obtain ⟨rfl, rfl, rfl⟩ : sal = al9 ∧ sn = l9.length ∧ scl = cl9 := by simpa using he9
  exact ⟨l9, hv9⟩
 have ht := of_laid3 hL
 have hk := pk_laid hL
 obtain ⟨kd, kn, s, l, ks, hal, hak, hcl, hck, rfl, hxe⟩ := hx.shape
 obtain rfl := Value.agg.inj hxe
 clear hA0 hval0
 refine (right_walk i0 _ _ _ _ _ _ _ _ _ _ vs _ _ _ W.heap.size W ht hx hvs (Nat.le_refl _) KS hk).mono fun e W' ⟨he, bel⟩ => ?_
 subst he
 exact ⟨_, rfl, _, _, _, [], _, [], hW', trodAll_mk1 (shut_bool Tryz.underlying4 _), (trodAll_cons_mk (Below.trod laidOut (by kernel_rfl) (of_decide_eq_true (by kernel_rfl)) h0 bel lt0) (trodAll_cons_mk (Below.trod laidOut (by kernel_rfl) (of_decide_eq_true (by kernel_rfl)) k1 bel lt1) (trodAll_cons_mk (Below.trod laidOut (by kernel_rfl) (of_decide_eq_true (by kernel_rfl)) k2 bel lt2) trodAll_mk0))), rfl, bel.frame _, fun h => by cases h⟩
theorem over : Rows.PrimRightSaid :=
 OpenClaim.holds_of_wide 5 Tryz.f5 rfl rfl rfl rfl rfl rfl rfl ⟨rfl, rfl, rfl, rfl, rfl⟩ rfl rfl rfl rfl rfl (by kernel_rfl) Tryz.func5 (by kernel_rfl)
  (of_decide_eq_true (by kernel_rfl)) (by unfold Func.isWrapper; first | (rw [if_pos (by decide +kernel)]; kernel_rfl) | (rw [if_neg (by decide +kernel)]; exact ⟨rfl, rfl⟩))
  (fun os started H enc _ => lifted os started H enc)
theorem card : Rows.PrimRightCardSaid :=
 Claim7.holds_tied_plain_at .later [] [.data, .data, .data] true (true, "c503c7b8ffa2fe06413ba1f3b0c21fe95d6f9857cf5b9b5607dea9ceffe3e29d") false
  over (fun _ h => by cases h) (by kernel_rfl) (fun _ h => by cases h) primRight_row_tie rfl ⟨rfl, rfl⟩ (by kernel_rfl) rfl
  (fun f fn hf hfn => by
   obtain rfl : f = 5 := Option.some.inj ((show Tryz.prog.funcNamed "scruple/scruplelaw13.PrimRight" = some 5 by kernel_rfl).symm.trans hf) |>.symm
   obtain rfl : fn = Tryz.f5 := (Option.some.inj (Tryz.func5.symm.trans hfn)).symm
   exact ⟨by kernel_rfl, fun j t ht => by
    rw [Tryz.params5] at ht
    rcases j with _ | _ | _ | j
    ·have h3 : t = 3 := by simpa using ht.symm
     subst h3
     exact (show Tryz.prog.wantsStandIn 3 = false by kernel_rfl)
    ·have h3 : t = 25 := by simpa using ht.symm
     subst h3
     exact (show Tryz.prog.wantsStandIn 25 = false by kernel_rfl)
    ·have h3 : t = 22 := by simpa using ht.symm
     subst h3
     exact (show Tryz.prog.wantsStandIn 22 = false by kernel_rfl)
    ·simp at ht⟩)
  (by kernel_rfl)
end Go.Proofs.YtgkmdjmigehmeaaGreatDoor.primRight
namespace Go.Proofs.YtgkmdjmigehmeaaGreatDoor
theorem primRight_card : Rows.PrimRightCardSaid := primRight.card
#print axioms primRight_card
end Go.Proofs.YtgkmdjmigehmeaaGreatDoor
