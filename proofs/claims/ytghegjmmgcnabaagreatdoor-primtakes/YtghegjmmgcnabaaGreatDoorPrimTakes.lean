/-
  Every Pure and Takes answers what the document says (the card PrimTakesCardSaid); the listed variables as the program's text lays them; no other condition.
-/
import Derived.Test.YtghegjmmgcnabaaGreatDoorPM8
import Derived.Test.YtghegjmmgcnabaaGreatDoorPLaid
import Derived.Test.YtghegjmmgcnabaaGreatDoorVOpen
import Derived.Test.YtghegjmmgcnabaaGreatDoorTie
import Derived.Test.YtghegjmmgcnabaaGreatDoorCards
import Derived.ShutString
import Derived.ChangeOld
import Derived.Below
import Derived.SizedLaws
import Derived.SevenTiedAt
namespace Go.Proofs.YtghegjmmgcnabaaGreatDoor.primTakes
open Go.ChangeShapes Go.WideShapes Go.ChangeAt Go.RowKit
set_option linter.unusedVariables false

set_option maxRecDepth 100000 in
set_option maxHeartbeats 1000000 in
theorem walk (op k : Int) (ex : Vl) (e0 e1 : Int) (e2 : ByteArray) (e3 : Option Addr) (e4 e5 : Nat) (e6 : Option Addr) (e7 e8 : Nat) (B : Nat) (w : World) (ht : Tab w) (hx : IsV w B ex (.agg #[.int .i64 e0, .int .i64 e1, .string e2, .slice e3 e4 e5, .slice e6 e7 e8])) (hBs : B ≤ w.heap.size) :
    Calls Tryz.prog 4 #[.int .i64 op, .int .i64 k, .agg #[.int .i64 e0, .int .i64 e1, .string e2, .slice e3 e4 e5, .slice e6 e7 e8]] w fun e w' => e = .returned (.bool true) ∧ Below w.heap.size w w' := by
  obtain ⟨gb, hgb⟩ : ∃ gb, w.heap.size = gb := ⟨_, rfl⟩
  obtain ⟨w1, hw1⟩ : ∃ w1, w.alloc (.cells #[.int .i64 e0, .int .i64 e1, .string e2, .slice e3 e4 e5, .slice e6 e7 e8] 25) = w1 := ⟨_, rfl⟩
  have n1 : w1.heap[gb]? = some (.cells #[.int .i64 e0, .int .i64 e1, .string e2, .slice e3 e4 e5, .slice e6 e7 e8] 25 (0, 0)) := by rw [← hw1, ← hgb]; exact heap_alloc_new w _
  have b1 : Below w.heap.size w w1 := by rw [← hw1]; exact (Below.refl _ _).alloc (Nat.le_refl _) _
  have HB := hide (And.intro b1 n1)
  have HW : Hid (∀ u, Below w1.heap.size w1 u → Below w.heap.size w u) := hide (fun u hu => b1.trans (hu.mono b1.size))
  have CS := hide (shown_any w1 (ht.later b1 ht.big b1.size))
  have CT : Hid (∀ u, Below w.heap.size w u → Calls Tryz.prog 19 #[.int .i64 op, .int .i64 k, .agg #[.int .i64 e0, .int .i64 e1, .string e2, .slice e3 e4 e5, .slice e6 e7 e8]] u fun e w' => e = .returned (.int .i64 (takesR op k ex)) ∧ Below u.heap.size u w') := hide (fun u hu => by
    have := takes_any op k ex e0 e1 e2 e3 e4 e5 e6 e7 e8 B u (ht.later hu ht.big hu.size) (IsV.mono (hu.mono hBs) hx) (Nat.le_trans hBs hu.size)
    rw [takes_same] at this
    exact this)
  have CR : Hid (∀ u, Below w.heap.size w u → Calls Tryz.prog 21 #[.int .i64 op, .int .i64 k, .agg #[.int .i64 e0, .int .i64 e1, .string e2, .slice e3 e4 e5, .slice e6 e7 e8]] u fun e w' => e = .returned (.int .i64 (takesR op k ex)) ∧ Below u.heap.size u w') := hide (fun u hu => rtakes_any op k ex e0 e1 e2 e3 e4 e5 e6 e7 e8 B u (IsV.mono (hu.mono hBs) hx) (Nat.le_trans hBs hu.size))
  obtain ⟨P, hP⟩ : ∃ P, decide (10 ≤ op ∧ op ≤ 37) = P := ⟨_, rfl⟩
  have CP : Hid (∀ u, Calls Tryz.prog 18 #[.int .i64 op] u fun e w' => e = .returned (.bool P) ∧ Below u.heap.size u w') := hide (fun u => by have := pure_any op u; rw [hP] at this; exact this)
  have CQ : Hid (∀ u, Calls Tryz.prog 20 #[.int .i64 op] u fun e w' => e = .returned (.bool P) ∧ Below u.heap.size u w') := hide (fun u => by have := rpure_any op u; rw [hP] at this; exact this)
  obtain ⟨A, hA⟩ : ∃ A, takesR op k ex = A := ⟨_, rfl⟩
  rw [hA] at CT CR
  clear n1 b1 hx ht hP hA
  go_enter Tryz.func4, Tryz.ntmps4
  go_wp2_with fail
  refine (unhide CS).mono ?_
  rintro e u1 ⟨rfl, d1⟩
  have D1 := hide d1
  have C1 := hide (unhide CP u1)
  clear d1 CS
  go_wp2_with fail
  refine (unhide C1).mono ?_
  rintro e u2 ⟨rfl, d2⟩
  have D2 : Hid (Below w1.heap.size w1 u2) := hide ((unhide D1).trans (d2.mono (unhide D1).size))
  have C2 := hide (unhide CT u2 (unhide HW u2 (unhide D2)))
  obtain ⟨z0, z1, z2, z3, z4⟩ := block5 (((unhide D2).block gb (Array.getElem?_eq_some_iff.1 (unhide HB).2).1).trans (unhide HB).2)
  clear d2 C1 D1
  go_wp2_with fail
  refine (unhide C2).mono ?_
  rintro e u3 ⟨rfl, d3⟩
  have D3 : Hid (Below w1.heap.size w1 u3) := hide ((unhide D2).trans (d3.mono (unhide D2).size))
  have C3 := hide (unhide CQ u3)
  clear d3 C2 D2 z0 z1 z2 z3 z4
  go_wp2_with fail
  refine (unhide C3).mono ?_
  rintro e u4 ⟨rfl, d4⟩
  have D4 : Hid (Below w1.heap.size w1 u4) := hide ((unhide D3).trans (d4.mono (unhide D3).size))
  have C4 := hide (unhide CR u4 (unhide HW u4 (unhide D4)))
  obtain ⟨z0, z1, z2, z3, z4⟩ := block5 (((unhide D4).block gb (Array.getElem?_eq_some_iff.1 (unhide HB).2).1).trans (unhide HB).2)
  clear d4 C3 D3
  cases P with
  | false =>
    go_wp2_with fail
    refine (unhide C4).mono ?_
    rintro e u5 ⟨rfl, d5⟩
    have D5 := hide (unhide HW u5 ((unhide D4).trans (d5.mono (unhide D4).size)))
    clear d5 C4
    go_wp2_with fail
    go_ret
    exact ⟨by simp, by first | exact unhide D5 | (rw [← hgb]; exact unhide D5)⟩
  | true =>
    go_wp2_with fail
    refine (unhide C4).mono ?_
    rintro e u5 ⟨rfl, d5⟩
    have D5 := hide (unhide HW u5 ((unhide D4).trans (d5.mono (unhide D4).size)))
    clear d5 C4
    go_wp2_with fail
    go_ret
    exact ⟨by simp, by first | exact unhide D5 | (rw [← hgb]; exact unhide D5)⟩

set_option maxRecDepth 100000 in
theorem lifted (os : Os) (started : os.Started) (H : Type) (enc : TypeId × Value → H) :
    ReturnsInHanded {} Tryz.checked os 4 .any (fun w args => (Rows.primTakesSpec.pre enc Tryz.prog Tryz.f4 [] false w args ∧ laidMetH Tryz.prog seatLaid3 w) ∧ sizedMet enc Tryz.prog Tryz.f4 (OpenSpec.ofChange Rows.primTakesSpec) false w args)
      (Rows.primTakesSpec.post enc Tryz.prog Tryz.f4 false true false false) := by
  refine returnsInHanded_of_change_and (C := Tryz.checked) (X := fun w _ => laidMetH Tryz.prog seatLaid3 w) (fun _ _ _ hh h => h.of_heap hh) own started (by kernel_rfl) Tryz.func4
    (ChangeSpec.witness_shaped (enc := enc) (C := Tryz.checked) (os := os) (X := fun w _ => laidMetH Tryz.prog seatLaid3 w) false (World.doorLaid Tryz.prog 400 os) #[.int .i64 0, .int .i64 0, .agg #[.int .i64 0, .int .i64 0, .string ⟨#[]⟩, .slice none 0 0, .slice none 0 0]] 8 rfl (World.shaped_of_RefB (by kernel_rfl) (by kernel_rfl)) (by kernel_rfl) (by kernel_rfl) (by kernel_rfl) (door_met3 os _)) ?_
  intro W base args ds gs before hval0 hW _ hsz0 hL _
  have hsz : (DataW.weightsEach Tryz.prog (Tryz.f4.params.toList ++ Rows.primTakesSpec.plain.varTypes Tryz.prog) (ds ++ gs)).all (· ≤ reachBytes) = true := hsz0
  clear hsz0
  have hval : ∀ (j : Nat) t v, Tryz.f4.params[j]? = some t → args[j]? = some v → Value.okWide Tryz.prog W .any base t v := hval0
  have hW' := hW
  obtain ⟨p, q, hA0, hV, rfl, hfz, hnd⟩ := hW
  have hA : DataW.TrodAll enc Tryz.prog W 0 (fun _ => true) true Tryz.f4.params.toList args.toList ds p := hA0
  rw [Tryz.params4] at hA hval hsz
  obtain ⟨v0, vs0, d0, ds0, p0, q0, hargs, rfl, rfl, h0, r0⟩ := trodAll_cons hA
  obtain ⟨v1, vs1, d1, ds1, p1, q1, rfl, rfl, rfl, h1, r1⟩ := trodAll_cons r0
  obtain ⟨v2, vs2, d2, ds2, p2, q2, rfl, rfl, rfl, h2, r2⟩ := trodAll_cons r1
  obtain ⟨rfl, rfl, rfl⟩ := trodAll_nil r2
  obtain rfl : args = #[v0, v1, v2] := by cases args; simp_all
  obtain ⟨rfl, rfl⟩ := trodVars_none hV
  obtain ⟨i0, rfl⟩ := okWide_int Tryz.underlying3 (hval 0 3 v0 rfl rfl)
  obtain ⟨i1, rfl⟩ := okWide_int Tryz.underlying3 (hval 1 3 v1 rfl rfl)
  obtain ⟨cs2, rfl, _⟩ := okWide_struct Tryz.underlying25 (hval 2 25 v2 rfl rfl)
  have lt0 : ∀ x ∈ p0, x.block < W.heap.size := by obtain ⟨m, hm⟩ := h0; exact DataW.trod_lt m _ _ _ hm
  have lt1 : ∀ x ∈ p1, x.block < W.heap.size := by obtain ⟨m, hm⟩ := h1; exact DataW.trod_lt m _ _ _ hm
  have lt2 : ∀ x ∈ p2, x.block < W.heap.size := by obtain ⟨m, hm⟩ := h2; exact DataW.trod_lt m _ _ _ hm
  have k2 := h2
  obtain ⟨ex, hv2⟩ : ∃ v, IsV W W.heap.size v (.agg cs2) := by
    obtain ⟨fuel, hf⟩ := h2
    obtain ⟨v, hv⟩ := open_value fuel _ _ hf (reach_arg hsz (j := 2) rfl rfl)
    exact ⟨v, by simpa [Value.cells] using hv⟩
  have ht := of_laid3 hL
  obtain ⟨kd, kn, s, l, ks, hal, hak, hcl, hck, rfl, hxe⟩ := hv2.shape
  obtain rfl := Value.agg.inj hxe
  clear hA0 hval0
  refine (walk i0 i1 _ _ _ _ _ _ _ _ _ _ W.heap.size W ht hv2 (Nat.le_refl _)).mono fun e W' ⟨he, bel⟩ => ?_
  subst he
  exact ⟨_, rfl, _, _, _, [], _, [], hW', trodAll_mk1 (shut_bool Tryz.underlying4 _), (trodAll_cons_mk (Below.trod laidOut (by kernel_rfl) (of_decide_eq_true (by kernel_rfl)) h0 bel lt0) (trodAll_cons_mk (Below.trod laidOut (by kernel_rfl) (of_decide_eq_true (by kernel_rfl)) h1 bel lt1) (trodAll_cons_mk (Below.trod laidOut (by kernel_rfl) (of_decide_eq_true (by kernel_rfl)) k2 bel lt2) trodAll_mk0))), rfl, bel.frame _, fun h => by cases h⟩

theorem over : Rows.PrimTakesSaid :=
  OpenClaim.holds_of_wide 4 Tryz.f4 rfl rfl rfl rfl rfl rfl rfl ⟨rfl, rfl, rfl, rfl, rfl⟩ rfl rfl rfl rfl rfl (by kernel_rfl) Tryz.func4 (by kernel_rfl)
    (of_decide_eq_true (by kernel_rfl)) (by unfold Func.isWrapper; first | (rw [if_pos (by decide +kernel)]; kernel_rfl) | (rw [if_neg (by decide +kernel)]; exact ⟨rfl, rfl⟩))
    (fun os started H enc _ => lifted os started H enc)

theorem card : Rows.PrimTakesCardSaid :=
  Claim7.holds_tied_plain_at .later [] [.data, .data, .data] true (true, "c503c7b8ffa2fe06413ba1f3b0c21fe95d6f9857cf5b9b5607dea9ceffe3e29d") false
    over (fun _ h => by cases h) (by kernel_rfl) (fun _ h => by cases h) primTakes_row_tie rfl ⟨rfl, rfl⟩ (by kernel_rfl) rfl
    (fun f fn hf hfn => by
      obtain rfl : f = 4 := Option.some.inj ((show Tryz.prog.funcNamed "scruple/scruplelaw13.PrimTakes" = some 4 by kernel_rfl).symm.trans hf) |>.symm
      obtain rfl : fn = Tryz.f4 := (Option.some.inj (Tryz.func4.symm.trans hfn)).symm
      exact ⟨by kernel_rfl, fun j t ht => by
        rw [Tryz.params4] at ht
        rcases j with _ | _ | _ | j
        · have h3 : t = 3 := by simpa using ht.symm
          subst h3
          exact (show Tryz.prog.wantsStandIn 3 = false by kernel_rfl)
        · have h3 : t = 3 := by simpa using ht.symm
          subst h3
          exact (show Tryz.prog.wantsStandIn 3 = false by kernel_rfl)
        · have h3 : t = 25 := by simpa using ht.symm
          subst h3
          exact (show Tryz.prog.wantsStandIn 25 = false by kernel_rfl)
        · simp at ht⟩)
    (by kernel_rfl)
end Go.Proofs.YtghegjmmgcnabaaGreatDoor.primTakes

namespace Go.Proofs.YtghegjmmgcnabaaGreatDoor
theorem primTakes_card : Rows.PrimTakesCardSaid := primTakes.card
#print axioms primTakes_card
end Go.Proofs.YtghegjmmgcnabaaGreatDoor
