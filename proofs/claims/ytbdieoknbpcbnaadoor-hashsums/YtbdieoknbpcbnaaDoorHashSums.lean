/-
  Every Sum is the document's digest, of messages one behind the other, and what was handed in is neither changed nor kept (the card HashSumsCardSaid); the listed variables start and roundWords as the program's text lays them; no other condition.
-/
import Derived.Test.YtbdieoknbpcbnaaDoorSumsWalk
import Derived.Test.YtbdieoknbpcbnaaDoorDoorLaid
import Derived.Test.YtbdieoknbpcbnaaDoorSized2
import Derived.Test.YtbdieoknbpcbnaaDoorTie
import Derived.Test.YtbdieoknbpcbnaaDoorCards
import Derived.ShutString
import Derived.ChangeOld
import Derived.Below
import Derived.SizedLaws
import Derived.SevenTiedAt
namespace Go.Proofs.YtbdieoknbpcbnaaDoor.hashSums
open Go.ChangeShapes Go.WideShapes Go.ChangeAt Go.RowKit
open Go.ChangeMaps (open_string shut_string)
set_option linter.unusedVariables false

set_option maxRecDepth 100000 in
theorem lifted (os : Os) (started : os.Started) (H : Type) (enc : TypeId × Value → H) :
    ReturnsInHanded {} Tryd.checked os 3 .any (fun w args => (Rows.hashSumsSpec.pre enc Tryd.prog Tryd.f3 [] false w args ∧ laidMetH Tryd.prog seatLaid w) ∧ sizedMet enc Tryd.prog Tryd.f3 (OpenSpec.ofChange Rows.hashSumsSpec) false w args)
      (Rows.hashSumsSpec.post enc Tryd.prog Tryd.f3 false true false false) := by
  refine returnsInHanded_of_change_and (C := Tryd.checked) (X := fun w _ => laidMetH Tryd.prog seatLaid w) (fun _ _ _ hh h => h.of_heap hh) own started (by kernel_rfl) Tryd.func3
    (ChangeSpec.witness_shaped (enc := enc) (C := Tryd.checked) (os := os) (X := fun w _ => laidMetH Tryd.prog seatLaid w) false (World.doorLaid Tryd.prog 400 os) #[.slice none 0 0] 8 rfl (World.shaped_of_RefB (by kernel_rfl) (by kernel_rfl)) (by kernel_rfl) (by kernel_rfl) (by kernel_rfl) (door_met os _)) ?_
  intro W base args ds gs before hval0 hW _ hsz0 hL _
  have hsz : (DataW.weightsEach Tryd.prog (Tryd.f3.params.toList ++ Rows.hashSumsSpec.plain.varTypes Tryd.prog) (ds ++ gs)).all (· ≤ reachBytes) = true := hsz0
  clear hsz0
  have hval : ∀ (j : Nat) t v, Tryd.f3.params[j]? = some t → args[j]? = some v → Value.okWide Tryd.prog W .any base t v := hval0
  have hW' := hW
  obtain ⟨p, q, hA0, hV, rfl, hfz, hnd⟩ := hW
  have hA : DataW.TrodAll enc Tryd.prog W 0 (fun _ => true) true Tryd.f3.params.toList args.toList ds p := hA0
  rw [Tryd.params3] at hA hval hsz
  obtain ⟨v0, vs0, d0, ds0, p0, q0, hargs, rfl, rfl, h0, r0⟩ := trodAll_cons hA
  obtain ⟨rfl, rfl, rfl⟩ := trodAll_nil r0
  obtain rfl : args = #[v0] := by cases args; simp_all
  obtain ⟨rfl, rfl⟩ := trodVars_none hV
  obtain ⟨a0, len0, cap0, rfl⟩ := okWide_slice Tryd.underlying22 (hval 0 22 v0 rfl rfl)
  have k0 := h0
  have lt0 : ∀ x ∈ p0, x.block < W.heap.size := by obtain ⟨m, hm⟩ := k0; exact DataW.trod_lt m _ _ _ hm
  have hre := reach_arg hsz (j := 0) (t := 22) rfl rfl
  obtain ⟨ts, hl, hLC, hC, hn, hc, hs⟩ : ∃ ts : List ByteArray, ts.length = len0 ∧ len0 ≤ cap0 ∧ cap0 ≤ 140737488351232 ∧ (a0 = Option.none → len0 = 0) ∧ (∀ a, a0 = some a → ∀ i t, ts[i]? = some t → W.cell? (a.add i) = some (.string t)) ∧ ∀ t ∈ ts, t.size ≤ 140737488351232 := by
    obtain ⟨fuel, hf⟩ := h0
    rcases Go.Deep.open_strs Tryd.underlying22 Tryd.underlying9 (by kernel_rfl) hf with ⟨hcs, _⟩ | ⟨a, l, c, m, Sx, hcs, _, hl, hm, hmm, hx, hcell⟩
    · simp [Value.cells] at hcs
      obtain ⟨rfl, rfl, rfl⟩ := hcs
      exact ⟨[], rfl, Nat.le_refl _, by omega, fun _ => rfl, (fun a h => by cases h), fun t h => by cases h⟩
    · simp [Value.cells] at hcs
      obtain ⟨rfl, rfl, rfl⟩ := hcs
      simp only [if_true] at hmm
      subst hmm
      simp only [Prod.mk.injEq] at hx
      have hd := hx.1
      subst hd
      refine ⟨(List.range len0).map Sx, by simp, hl, ?_, (fun e => by cases e), ?_, ?_⟩
      · have h := hre.slice Tryd.underlying22
        rw [show Tryd.prog.bytesOf 9 = 16 by kernel_rfl] at h
        unfold reachBytes at h
        simp at h
        omega
      · intro b hb i t ht
        cases hb
        have hi : i < len0 := by
          have := (List.getElem?_eq_some_iff.1 ht).1
          simpa using this
        rw [List.getElem?_map, List.getElem?_range hi] at ht
        simp only [Option.map_some, Option.some.injEq] at ht
        subst ht
        exact (hcell i (by omega)).1
      · intro t ht
        obtain ⟨i, hi, rfl⟩ := List.mem_map.1 ht
        exact reach_size (hre.elem Tryd.underlying22 (List.mem_map.2 ⟨i, hi, rfl⟩))
  obtain ⟨t0, tK, hw0, hwK⟩ := of_laid hL
  clear hA0 hval0
  refine (sums_walk a0 len0 cap0 ts W ⟨KS_len, hw0, hwK⟩ hl hLC hC hn hc hs).mono fun e W' ⟨he, bel⟩ => ?_
  subst he
  exact ⟨_, rfl, _, _, _, [], _, [], hW', trodAll_mk1 (shut_bool Tryd.underlying4 _), (trodAll_cons_mk (Below.trod laidOut (by kernel_rfl) (of_decide_eq_true (by kernel_rfl)) k0 bel lt0) trodAll_mk0), rfl, bel.frame _, fun h => by cases h⟩

theorem over : Rows.HashSumsSaid :=
  OpenClaim.holds_of_wide 3 Tryd.f3 rfl rfl rfl rfl rfl rfl rfl ⟨rfl, rfl, rfl, rfl, rfl⟩ rfl rfl rfl rfl rfl (by kernel_rfl) Tryd.func3 (by kernel_rfl)
    (of_decide_eq_true (by kernel_rfl)) (by unfold Func.isWrapper; first | (rw [if_pos (by decide +kernel)]; kernel_rfl) | (rw [if_neg (by decide +kernel)]; exact ⟨rfl, rfl⟩))
    (fun os started H enc _ => lifted os started H enc)

theorem card : Rows.HashSumsCardSaid :=
  Claim7.holds_tied_plain_at .later [] [.data, .data] true (true, "5cb55d568555d7af834ae7c91eab8964e1180691e050a489c2a9acb8fd6889ac") false
    over (fun _ h => by cases h) (by kernel_rfl) (fun _ h => by cases h) hashSums_row_tie rfl ⟨rfl, rfl⟩ (by kernel_rfl) rfl
    (fun f fn hf hfn => by
      obtain rfl : f = 3 := Option.some.inj ((show Tryd.prog.funcNamed "scruple/scruplelaw02.HashSums" = some 3 by kernel_rfl).symm.trans hf) |>.symm
      obtain rfl : fn = Tryd.f3 := (Option.some.inj (Tryd.func3.symm.trans hfn)).symm
      exact ⟨by kernel_rfl, fun j t ht => by
        rw [Tryd.params3] at ht
        have h3 : t = 22 := by
          rcases j with _ | j
          · simpa using ht.symm
          · simp at ht
        subst h3
        exact (show Tryd.prog.wantsStandIn 22 = false by kernel_rfl)⟩)
    (by kernel_rfl)
end Go.Proofs.YtbdieoknbpcbnaaDoor.hashSums

namespace Go.Proofs.YtbdieoknbpcbnaaDoor
theorem hashSums_card : Rows.HashSumsCardSaid := hashSums.card
#print axioms hashSums_card
end Go.Proofs.YtbdieoknbpcbnaaDoor
