/-
  Every Cost is the document's, for any operation and weight (the card GasCostsCardSaid); the listed variable operations as the program's text lays it; no other condition.
-/
import Derived.Test.YtmigfhigekfeeaaDoorGCost
import Derived.Test.YtmigfhigekfeeaaDoorCLaid
import Derived.Test.YtmigfhigekfeeaaDoorTie
import Derived.Test.YtmigfhigekfeeaaDoorCards
import Derived.ShutString
import Derived.ChangeOld
import Derived.Below
import Derived.SizedLaws
import Derived.SevenTiedAt
namespace Go.Proofs.YtmigfhigekfeeaaDoor.gasCosts
open Go.ChangeShapes Go.WideShapes Go.ChangeAt Go.RowKit
set_option linter.unusedVariables false

theorem cost_shown : costA 10 7 = (9, 0) := by decide +kernel

set_option maxRecDepth 100000 in
theorem walk (n m : Int) (w : World) (h : Tab w) : Calls Tryd.prog 3 #[.int .i64 n, .int .i64 m] w fun e w' => e = .returned (.bool true) ∧ Below w.heap.size w w' := by
  have HT := hide h
  have C1 : Hid _ := hide (cost_any 10 7 w h)
  rw [cost_shown] at C1
  obtain ⟨R, hR⟩ : ∃ R, costA n m = R := ⟨_, rfl⟩
  have C2 : Hid (∀ u, Tab u → _) := hide (fun u hu => cost_any n m u hu)
  have C3 : Hid (∀ u, _) := hide (fun u => rcost_any n m u)
  rw [hR] at C2 C3
  clear hR h
  obtain ⟨r, s⟩ := R
  go_enter Tryd.func3, Tryd.ntmps3
  go_wp2_with fail
  refine (unhide C1).mono ?_
  rintro e w1 ⟨rfl, B1⟩
  have H1 := hide B1
  clear B1
  go_wp2_with fail
  refine (unhide C2 w1 ((unhide HT).below (unhide H1))).mono ?_
  rintro e w2 ⟨rfl, B2⟩
  have H2 := hide ((unhide H1).trans (B2.mono (unhide H1).size))
  clear B2
  go_wp2_with fail
  refine (unhide C3 w2).mono ?_
  rintro e w3 ⟨rfl, B3⟩
  have H3 := hide ((unhide H2).trans (B3.mono (unhide H2).size))
  clear B3
  go_wp2_with fail
  go_ret
  exact ⟨rfl, unhide H3⟩

set_option maxRecDepth 100000 in
theorem lifted (os : Os) (started : os.Started) (H : Type) (enc : TypeId × Value → H) :
    ReturnsInHanded {} Tryd.checked os 3 .any (fun w args => (Rows.gasCostsSpec.pre enc Tryd.prog Tryd.f3 [] false w args ∧ laidMetH Tryd.prog seatLaid1 w) ∧ sizedMet enc Tryd.prog Tryd.f3 (OpenSpec.ofChange Rows.gasCostsSpec) false w args)
      (Rows.gasCostsSpec.post enc Tryd.prog Tryd.f3 false true false false) := by
  refine returnsInHanded_of_change_and (C := Tryd.checked) (X := fun w _ => laidMetH Tryd.prog seatLaid1 w) (fun _ _ _ hh h => h.of_heap hh) own started (by kernel_rfl) Tryd.func3
    (ChangeSpec.witness_shaped (enc := enc) (C := Tryd.checked) (os := os) (X := fun w _ => laidMetH Tryd.prog seatLaid1 w) false (World.doorLaid Tryd.prog 400 os) #[.int .i64 0, .int .i64 0] 8 rfl (World.shaped_of_RefB (by kernel_rfl) (by kernel_rfl)) (by kernel_rfl) (by kernel_rfl) (by kernel_rfl) (door_met1 os _)) ?_
  intro W base args ds gs before hval0 hW _ hsz0 hL _
  have hsz : (DataW.weightsEach Tryd.prog (Tryd.f3.params.toList ++ Rows.gasCostsSpec.plain.varTypes Tryd.prog) (ds ++ gs)).all (· ≤ reachBytes) = true := hsz0
  clear hsz0
  have hval : ∀ (j : Nat) t v, Tryd.f3.params[j]? = some t → args[j]? = some v → Value.okWide Tryd.prog W .any base t v := hval0
  have hW' := hW
  obtain ⟨p, q, hA0, hV, rfl, hfz, hnd⟩ := hW
  have hA : DataW.TrodAll enc Tryd.prog W 0 (fun _ => true) true Tryd.f3.params.toList args.toList ds p := hA0
  rw [Tryd.params3] at hA hval hsz
  obtain ⟨v0, vs0, d0, ds0, p0, q0, hargs, rfl, rfl, h0, r0⟩ := trodAll_cons hA
  obtain ⟨v1, vs1, d1, ds1, p1, q1, hargs1, rfl, rfl, h1, r1⟩ := trodAll_cons r0
  obtain ⟨rfl, rfl, rfl⟩ := trodAll_nil r1
  subst hargs1
  obtain rfl : args = #[v0, v1] := by cases args; simp_all
  obtain ⟨rfl, rfl⟩ := trodVars_none hV
  obtain ⟨n0, rfl, rfl, rfl, hn0⟩ := open_int Tryd.underlying3 (hval 0 3 v0 rfl rfl) h0
  obtain ⟨n1, rfl, rfl, rfl, hn1⟩ := open_int Tryd.underlying3 (hval 1 3 v1 rfl rfl) h1
  have ht := of_laid1 hL
  clear hA0 hval0
  refine (walk n0 n1 W ht).mono fun e W' ⟨he, bel⟩ => ?_
  subst he
  exact ⟨_, rfl, _, _, _, [], _, [], hW', trodAll_mk1 (shut_bool Tryd.underlying4 _), (trodAll_cons_mk (shut_int Tryd.underlying3 hn0) (trodAll_cons_mk (shut_int Tryd.underlying3 hn1) trodAll_mk0)), rfl, bel.frame _, fun h => by cases h⟩

theorem over : Rows.GasCostsSaid :=
  OpenClaim.holds_of_wide 3 Tryd.f3 rfl rfl rfl rfl rfl rfl rfl ⟨rfl, rfl, rfl, rfl, rfl⟩ rfl rfl rfl rfl rfl (by kernel_rfl) Tryd.func3 (by kernel_rfl)
    (of_decide_eq_true (by kernel_rfl)) (by unfold Func.isWrapper; first | (rw [if_pos (by decide +kernel)]; kernel_rfl) | (rw [if_neg (by decide +kernel)]; exact ⟨rfl, rfl⟩))
    (fun os started H enc _ => lifted os started H enc)

theorem card : Rows.GasCostsCardSaid :=
  Claim7.holds_tied_plain_at .later [] [.data] true (true, "1c6301808132bf88b556de3cb4258d098d2f98567578c0f34647a428c859596d") false
    over (fun _ h => by cases h) (by kernel_rfl) (fun _ h => by cases h) gasCosts_row_tie rfl ⟨rfl, rfl⟩ (by kernel_rfl) rfl
    (fun f fn hf hfn => by
      obtain rfl : f = 3 := Option.some.inj ((show Tryd.prog.funcNamed "scruple/scruplelaw11.GasCosts" = some 3 by kernel_rfl).symm.trans hf) |>.symm
      obtain rfl : fn = Tryd.f3 := (Option.some.inj (Tryd.func3.symm.trans hfn)).symm
      exact ⟨by kernel_rfl, fun j t ht => by
        rw [Tryd.params3] at ht
        have h3 : t = 3 := by
          rcases j with _ | _ | j
          · simpa using ht.symm
          · simpa using ht.symm
          · simp at ht
        subst h3
        exact (show Tryd.prog.wantsStandIn 3 = false by kernel_rfl)⟩)
    (by kernel_rfl)
end Go.Proofs.YtmigfhigekfeeaaDoor.gasCosts

namespace Go.Proofs.YtmigfhigekfeeaaDoor
theorem gasCosts_card : Rows.GasCostsCardSaid := gasCosts.card
#print axioms gasCosts_card
end Go.Proofs.YtmigfhigekfeeaaDoor
