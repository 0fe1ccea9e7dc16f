/-
  Every Put and Length, of values one behind the other, answers what the document's own does; what is handed in stays, what came out is its owner's (WirePutsSaid); no condition but the form's own reach.
-/
import Derived.Test.YtocklblkopmjgaaRows
import Derived.Test.YtocklblkopmjgaaXPutsW
import Derived.Test.YtocklblkopmjgaaVOpen
import Derived.Test.YtocklblkopmjgaaOpen8
import Derived.Test.YtocklblkopmjgaaSized2
import Derived.ShutString
import Derived.ChangeOld
namespace Go.Proofs.Ytocklblkopmjgaa.wirePuts
open Go.ChangeShapes Go.WideShapes Go.ChangeAt Go.RowKit
set_option linter.unusedVariables false
set_option linter.unusedSimpArgs false

theorem own : ownKnob Try.prog.godebug = none := by kernel_rfl
theorem laidOut : laidOutB Try.prog = true := by kernel_rfl

section
variable {H : Type} {enc : TypeId × Value → H} {W : World}

set_option maxRecDepth 100000 in
theorem open_list {fuel : Nat} {c3 : Value} {x : DataW H × List MemPlace} (h3 : DataW.trod enc Try.prog W 0 (fun _ => true) true fuel 24 [c3] = some x) (r3 : Go.Proofs.Ytocklblkopmjgaa.Reach Try.prog 24 x.1) :
    ∃ (l : List Vl) (al : Option Addr) (cl : Nat), c3 = .slice al l.length cl ∧ IsV W W.heap.size (.mk 5 0 ⟨#[]⟩ l []) (lst5 (.slice al l.length cl)) ∧ (cl = 0 ∨ ∃ elems spare, x.1 = .slice elems spare ∧ elems.length = l.length) := by
  rcases DataW.trod_slice Try.underlying24 h3 with ⟨hcs, _⟩ | ⟨a, len, cap, elems, rest, n', hn', hcs, hx3, _, hlc, hcm, hlen, hel, hsp, _⟩
  · simp only [List.cons.injEq, and_true] at hcs
    refine ⟨[], none, 0, hcs, IsP.of (V := fun _ => []) ⟨by omega, by omega, by rw [e0p]; omega, (fun _ => ⟨rfl, rfl⟩), (fun _ => ⟨rfl, rfl⟩), Nat.le_refl _, Nat.le_refl _, by simp, by simp, by simp, (fun a h => by cases h), (fun i h => absurd h (by simp)), (fun a h => by cases h), (fun t h => by cases h)⟩ (fun i y h => by simp at h), .inl rfl⟩
  · simp only [List.cons.injEq, and_true] at hcs
    rw [hx3] at r3
    rw [cells5v] at hel
    have hall : ∀ i, i < len → ∃ p : List Value × Vl, p.1.length = 5 ∧ (a.block < W.heap.size ∧ ∀ j v, p.1[j]? = some v → W.cell? ((a.add (i * 5)).add j) = some v) ∧ IsV W W.heap.size p.2 (.agg p.1.toArray) := by
      intro i hi
      have he := hel i hi
      rw [List.getElem?_eq_getElem (by omega)] at he
      obtain ⟨cs', hc1, hc2⟩ := Option.bind_eq_some_iff.1 he
      obtain ⟨_, hl5, hcell⟩ := World.cells?_some hc1
      obtain ⟨v, hv⟩ := open_value n' cs' _ hc2 (r3.elem Try.underlying24 (List.mem_map.2 ⟨_, List.getElem_mem _, rfl⟩))
      refine ⟨(cs', v), hl5, ⟨?_, fun j u hu => ?_⟩, hv⟩
      · have h0 := hcell 0 (by omega)
        have := World.block_lt_of_cell? W ((a.add (i * 5)).add 0) (by rw [h0, List.getElem?_eq_getElem (by omega)])
        rw [block_add, block_add] at this
        exact this
      · have hj : j < 5 := by
          have h5 : j < cs'.length := (List.getElem?_eq_some_iff.1 hu).1
          omega
        rw [hcell j hj]
        exact hu
    haveI : Inhabited (List Value × Vl) := ⟨([], .mk 0 0 ⟨#[]⟩ [] [])⟩
    obtain ⟨f, hf⟩ := Go.Deep.choose_lt hall
    have hl : ((List.range len).map (fun i => (f i).2)).length = len := by simp
    have hb := r3.slice Try.underlying24
    rw [show Try.prog.bytesOf 27 = 80 by kernel_rfl] at hb
    have hs := (hsp rfl).1
    unfold reachBytes at hb
    simp at hb
    refine ⟨(List.range len).map (fun i => (f i).2), some a, cap, by rw [hl]; exact hcs, IsP.of (V := fun i => (f i).1) ⟨by omega, by omega, by rw [e0p]; omega, (fun e => by cases e), (fun _ => ⟨rfl, rfl⟩), by rw [hl]; exact hlc, Nat.le_refl _, by rw [hl]; omega, by simp, by simp, ?_, ?_, (fun a h => by cases h), (fun t h => by cases h)⟩ ?_, .inr ⟨_, _, by rw [hx3], by rw [List.length_map, hl]; exact hlen⟩⟩
    · intro b hb i hi
      cases hb
      exact (hf i (by simpa using hi)).2.1
    · intro i hi
      exact (hf i (by simpa using hi)).1
    · intro i x hx
      have hi : i < len := by
        have := (List.getElem?_eq_some_iff.1 hx).1
        simpa using this
      rw [List.getElem?_map, List.getElem?_range hi] at hx
      simp only [Option.map_some, Option.some.injEq] at hx
      subst hx
      exact (hf i hi).2.2
end

set_option maxRecDepth 100000 in
theorem lifted (os : Os) (started : os.Started) (H : Type) (enc : TypeId × Value → H) :
    ReturnsInHanded {} Try.checked os 6 .any (Rows.wirePutsSpec.pre6 enc Try.prog Try.f6 Rows.wirePutsRow.domain false) (Rows.wirePutsSpec.post enc Try.prog Try.f6 false true false false) := by
  refine returnsInHanded_of_change_sized (C := Try.checked) own started (by kernel_rfl) Try.func6
    (ChangeSpec.witness6 (enc := enc) (C := Try.checked) false ⟨#[], #[.slice none 0 0, .slice none 0 0], []⟩ 8 (by kernel_rfl) (by kernel_rfl) (by kernel_rfl) (by kernel_rfl)) ?_
  intro W base args ds gs before hval0 hW _ hsz0 _
  have hsz : (DataW.weightsEach Try.prog (Try.f6.params.toList ++ Rows.wirePutsSpec.plain.varTypes Try.prog) (ds ++ gs)).all (· ≤ reachBytes) = true := hsz0
  clear hsz0
  have hval : ∀ (j : Nat) t v, Try.f6.params[j]? = some t → args[j]? = some v → Value.okWide Try.prog W .any base t v := hval0
  have hW' := hW
  obtain ⟨p, q, hA0, hV, rfl, hfz, hnd⟩ := hW
  have hA : DataW.TrodAll enc Try.prog W 0 (fun _ => true) true Try.f6.params.toList args.toList ds p := hA0
  rw [Try.params6] at hA hval hsz
  obtain ⟨v0, vs0, d0, ds0, p0, q0, hargs, rfl, rfl, h0, r0⟩ := trodAll_cons hA
  obtain ⟨v1, vs1, d1, ds1, p1, q1, hargs1, rfl, rfl, h1, r1⟩ := trodAll_cons r0
  obtain ⟨rfl, rfl, rfl⟩ := trodAll_nil r1
  subst hargs1
  obtain rfl : args = #[v0, v1] := by cases args; simp_all
  obtain ⟨rfl, rfl⟩ := trodVars_none hV
  have k0 := h0
  have lt0 : ∀ x ∈ p0, x.block < W.heap.size := by obtain ⟨m, hm⟩ := k0; exact DataW.trod_lt m _ _ _ hm
  have k1 := h1
  have lt1 : ∀ x ∈ p1, x.block < W.heap.size := by obtain ⟨m, hm⟩ := k1; exact DataW.trod_lt m _ _ _ hm
  obtain ⟨a0, len0, cap0, rfl⟩ := okWide_slice Try.underlying44 (hval 0 44 v0 rfl rfl)
  obtain ⟨a1, len1, cap1, rfl⟩ := okWide_slice Try.underlying24 (hval 1 24 v1 rfl rfl)
  have re0 := reach_arg hsz (j := 0) (t := 44) rfl rfl
  have re1 := reach_arg hsz (j := 1) (t := 24) rfl rfl
  obtain ⟨z0, w0, hcap, hd0⟩ := open_row8 h0
  have hl0 : len0 ≤ 140737488351232 := by
    rcases hd0 with h | ⟨el, sp, rfl, he⟩
    · have := w0.le; omega
    · have h := re0.slice Try.underlying44
      rw [show Try.prog.bytesOf 5 = 1 by kernel_rfl] at h
      have := w0.le
      unfold reachBytes at h
      simp at h
      omega
  obtain ⟨l, hl, hv, hs⟩ : ∃ l : List Vl, l.length = len1 ∧ IsV W W.heap.size (.mk 5 0 ⟨#[]⟩ l []) (lst5 (.slice a1 len1 cap1)) ∧ len1 ≤ 140737488351232 := by
    obtain ⟨fuel, hf⟩ := h1
    have hf' : DataW.trod enc Try.prog W 0 (fun _ => true) true fuel 24 [.slice a1 len1 cap1] = some (d1, p1) := hf
    obtain ⟨l, al, cl, he, hv, _⟩ := open_list hf' re1
    simp only [Value.slice.injEq] at he
    obtain ⟨rfl, he2, rfl⟩ := he
    refine ⟨l, he2.symm, by rw [he2]; exact hv, ?_⟩
    obtain ⟨_, _, _, _, _, _, _, _, _, _, e1, e2, vf, _⟩ := hv.inv
    cases e1
    have := vf.bl
    omega
  clear hA0 hval0
  refine (puts_walk a0 len0 cap0 z0 a1 len1 cap1 l W w0 hcap hl0 hl hv hs).mono fun e W' ⟨he, bel⟩ => ?_
  subst he
  exact ⟨_, rfl, _, _, _, [], _, [], hW', trodAll_mk1 (shut_bool Try.underlying4 _), (trodAll_cons_mk (Below.trod laidOut (by kernel_rfl) (of_decide_eq_true (by kernel_rfl)) k0 bel lt0) (trodAll_cons_mk (Below.trod laidOut (by kernel_rfl) (of_decide_eq_true (by kernel_rfl)) k1 bel lt1) trodAll_mk0)), rfl, bel.frame _, fun h => by cases h⟩

theorem over : Rows.wirePutsRow.holds Try.pinned (OpenSpec.ofChange Rows.wirePutsSpec) :=
  OpenClaim.holds_of_wide 6 Try.f6 rfl rfl rfl rfl rfl rfl rfl ⟨rfl, rfl, rfl, rfl, rfl⟩ rfl rfl rfl rfl rfl (by kernel_rfl) Try.func6 (by kernel_rfl)
    (of_decide_eq_true (by kernel_rfl)) (by unfold Func.isWrapper; first | (rw [if_pos (by decide +kernel)]; kernel_rfl) | (rw [if_neg (by decide +kernel)]; exact ⟨rfl, rfl⟩))
    (fun os started H enc _ => lifted os started H enc)

end Go.Proofs.Ytocklblkopmjgaa.wirePuts

namespace Go.Proofs.Ytocklblkopmjgaa
theorem wirePuts_holds : Rows.WirePutsSaid := wirePuts.over
#print axioms wirePuts_holds
end Go.Proofs.Ytocklblkopmjgaa
