/-
  Every Put and Length, of values one behind the other, answers what the document's own does; what is handed in stays, what came out is its owner's (WirePutsUptoSaid); condition: the arguments are together of bulk at most 1048576.
-/
import Derived.Test.YtocklblkopmjgaaRows
import Derived.Test.YtocklblkopmjgaaXPutsW
import Derived.Test.YtocklblkopmjgaaVOpen
import Derived.Test.YtocklblkopmjgaaOpenUpto
import Derived.ShutString
import Derived.ChangeOld
namespace Go.Proofs.Ytocklblkopmjgaa.wirePuts
open Go.ChangeShapes Go.WideShapes Go.ChangeAt Go.RowKit
set_option linter.unusedVariables false
set_option linter.unusedSimpArgs false

theorem own : ownKnob Try.prog.godebug = none := by kernel_rfl
theorem laidOut : laidOutB Try.prog = true := by kernel_rfl

def S (t : TypeId) : Prop := t = 27 ∨ t = 3 ∨ t = 2 ∨ t = 9 ∨ t = 24 ∨ t = 25

set_option maxRecDepth 100000 in
theorem plains : Plains Try.prog S := by
  intro t ht
  rcases ht with rfl | rfl | rfl | rfl | rfl | rfl
  · refine .inr (.inl ⟨_, Try.underlying27, ?_⟩)
    intro u hu
    have h : u ∈ [3, 2, 9, 24, 25] := hu
    simp only [List.mem_cons, List.mem_nil_iff, or_false] at h
    rcases h with rfl | rfl | rfl | rfl | rfl <;> simp [S]
  · exact .inr (.inr (.inl ⟨_, Try.underlying3⟩))
  · exact .inr (.inr (.inl ⟨_, Try.underlying2⟩))
  · exact .inr (.inr (.inr Try.underlying9))
  · exact .inl ⟨_, Try.underlying24, .inl rfl, by rw [show Try.prog.bytesOf 27 = 80 by kernel_rfl]; omega⟩
  · exact .inl ⟨_, Try.underlying25, .inr (.inr (.inr (.inl rfl))), by rw [show Try.prog.bytesOf 9 = 16 by kernel_rfl]; omega⟩

section
variable {H : Type} {enc : TypeId × Value → H} {W : World}

set_option maxRecDepth 100000 in
theorem open_list {fuel : Nat} {c3 : Value} {x : DataW H × List MemPlace} (h3 : DataW.trod enc Try.prog W 0 (fun _ => true) true fuel 24 [c3] = some x) (r3 : Go.Proofs.Ytocklblkopmjgaa.Reach Try.prog 24 x.1) :
    ∃ (l : List Vl) (al : Option Addr) (cl : Nat), c3 = .slice al l.length cl ∧ IsV W W.heap.size (.mk 5 0 ⟨#[]⟩ l []) (lst5 (.slice al l.length cl)) ∧ (cl = 0 ∨ ∃ elems spare, x.1 = .slice elems spare ∧ elems.length = l.length) := by
  rcases DataW.trod_slice Try.underlying24 h3 with ⟨hcs, _⟩ | ⟨a, len, cap, elems, rest, n', hn', hcs, hx3, _, hlc, hcm, hlen, hel, hsp, _⟩
  · simp only [List.cons.injEq, and_true] at hcs
    refine ⟨[], none, 0, hcs, IsP.of (V := fun _ => []) ⟨by omega, by omega, by rw [e0p]; omega, (fun _ => ⟨rfl, rfl⟩), (fun _ => ⟨rfl, rfl⟩), Nat.le_refl _, Nat.le_refl _, by simp, by simp, by simp, (fun a h => by cases h), (fun i h => absurd h (by simp)), (fun a h => by cases h), (fun t h => by cases h)⟩ (fun i y h => by simp at h), .inl rfl⟩
  · simp only [List.cons.injEq, and_true] at hcs
    rw [hx3] at r3
    rw [cells5v] at hel
    have hall : ∀ i, i < len → ∃ p : List Value × Vl, p.1.length = 5 ∧ (a.block < W.heap.size ∧ ∀ j v, p.1[j]? = some v → W.cell? ((a.add (i * 5)).add j) = some v) ∧ IsV W W.heap.size p.2 (.agg p.1.toArray) := by
      intro i hi
      have he := hel i hi
      rw [List.getElem?_eq_getElem (by omega)] at he
      obtain ⟨cs', hc1, hc2⟩ := Option.bind_eq_some_iff.1 he
      obtain ⟨_, hl5, hcell⟩ := World.cells?_some hc1
      obtain ⟨v, hv⟩ := open_value n' cs' _ hc2 (r3.elem Try.underlying24 (List.mem_map.2 ⟨_, List.getElem_mem _, rfl⟩))
      refine ⟨(cs', v), hl5, ⟨?_, fun j u hu => ?_⟩, hv⟩
      · have h0 := hcell 0 (by omega)
        have := World.block_lt_of_cell? W ((a.add (i * 5)).add 0) (by rw [h0, List.getElem?_eq_getElem (by omega)])
        rw [block_add, block_add] at this
        exact this
      · have hj : j < 5 := by
          have h5 : j < cs'.length := (List.getElem?_eq_some_iff.1 hu).1
          omega
        rw [hcell j hj]
        exact hu
    haveI : Inhabited (List Value × Vl) := ⟨([], .mk 0 0 ⟨#[]⟩ [] [])⟩
    obtain ⟨f, hf⟩ := Go.Deep.choose_lt hall
    have hl : ((List.range len).map (fun i => (f i).2)).length = len := by simp
    have hb := r3.slice Try.underlying24
    rw [show Try.prog.bytesOf 27 = 80 by kernel_rfl] at hb
    have hs := (hsp rfl).1
    unfold reachBytes at hb
    simp at hb
    refine ⟨(List.range len).map (fun i => (f i).2), some a, cap, by rw [hl]; exact hcs, IsP.of (V := fun i => (f i).1) ⟨by omega, by omega, by rw [e0p]; omega, (fun e => by cases e), (fun _ => ⟨rfl, rfl⟩), by rw [hl]; exact hlc, Nat.le_refl _, by rw [hl]; omega, by simp, by simp, ?_, ?_, (fun a h => by cases h), (fun t h => by cases h)⟩ ?_, .inr ⟨_, _, by rw [hx3], by rw [List.length_map, hl]; exact hlen⟩⟩
    · intro b hb i hi
      cases hb
      exact (hf i (by simpa using hi)).2.1
    · intro i hi
      exact (hf i (by simpa using hi)).1
    · intro i x hx
      have hi : i < len := by
        have := (List.getElem?_eq_some_iff.1 hx).1
        simpa using this
      rw [List.getElem?_map, List.getElem?_range hi] at hx
      simp only [Option.map_some, Option.some.injEq] at hx
      subst hx
      exact (hf i hi).2.2
end

set_option maxRecDepth 100000 in
theorem contract (H : Type) (enc : TypeId × Value → H) (W : World) (base : Nat) (args : Array Value) (ds gs : List (DataW H)) (before : List MemPlace)
    (hval : ∀ (j : Nat) t v, Try.f6.params[j]? = some t → args[j]? = some v → Value.okWide Try.prog W .any base t v)
    (hW : DataW.Whole enc Try.prog Try.f6.params.toList Rows.wirePutsSpec.vars false W args.toList ds gs before) (hk : Rows.uptoSmall H (ds ++ gs) = true) :
    Calls Try.prog 6 args W fun e W' => ∃ v, e = .returned v ∧ Rows.wirePutsSpec.post enc Try.prog Try.f6 false true false false W args v W' := by
  have hW' := hW
  obtain ⟨p, q, hA0, hV, rfl, hfz, hnd⟩ := hW
  have hA : DataW.TrodAll enc Try.prog W 0 (fun _ => true) true Try.f6.params.toList args.toList ds p := hA0
  rw [Try.params6] at hA hval
  obtain ⟨v0, vs0, d0, ds0, p0, q0, hargs, rfl, rfl, h0, r0⟩ := trodAll_cons hA
  obtain ⟨v1, vs1, d1, ds1, p1, q1, rfl, rfl, rfl, h1, r1⟩ := trodAll_cons r0
  obtain ⟨rfl, rfl, rfl⟩ := trodAll_nil r1
  obtain rfl : args = #[v0, v1] := by cases args; simp_all
  obtain ⟨rfl, rfl⟩ := trodVars_none hV
  have hk' := of_decide_eq_true hk
  simp only [List.append_nil, Rows.uptoBulkAll] at hk'
  obtain ⟨a0, len0, cap0, rfl⟩ := okWide_slice Try.underlying44 (hval 0 44 v0 rfl rfl)
  have k0 := h0
  have lt0 : ∀ x ∈ p0, x.block < W.heap.size := by obtain ⟨m, hm⟩ := k0; exact DataW.trod_lt m _ _ _ hm
  obtain ⟨z0, w0, hcap, hc0⟩ := open_row8 h0
  have c0 := bulk_row hc0
  have hle0 := w0.le
  obtain ⟨a1, len1, cap1, rfl⟩ := okWide_slice Try.underlying24 (hval 1 24 v1 rfl rfl)
  have k1 := h1
  have lt1 : ∀ x ∈ p1, x.block < W.heap.size := by obtain ⟨m, hm⟩ := k1; exact DataW.trod_lt m _ _ _ hm
  obtain ⟨l, hl, hv, hs⟩ : ∃ l : List Vl, l.length = len1 ∧ IsV W W.heap.size (.mk 5 0 ⟨#[]⟩ l []) (lst5 (.slice a1 len1 cap1)) ∧ len1 ≤ 1048576 := by
    obtain ⟨fuel, hf⟩ := h1
    have hf' : DataW.trod enc Try.prog W 0 (fun _ => true) true fuel 24 [.slice a1 len1 cap1] = some (d1, p1) := hf
    obtain ⟨l, al, cl, he, hv, hb⟩ := open_list hf' (reach_bulk plains (.inr (.inr (.inr (.inr (.inl rfl))))) (by dsimp only; omega))
    simp only [Value.slice.injEq] at he
    obtain ⟨rfl, he2, rfl⟩ := he
    refine ⟨l, he2.symm, by rw [he2]; exact hv, ?_⟩
    rcases hb with h0 | ⟨elems, spare, hx, hle⟩
    · obtain ⟨_, _, _, _, _, _, _, _, _, _, e1, e2, vf, _⟩ := hv.inv
      cases e1
      have := vf.ll
      simp only [lst5, Value.agg.injEq, Array.mk.injEq, List.cons.injEq, Value.slice.injEq, and_true, true_and] at e2
      omega
    · have h1 := bulk_len elems
      have h2 : d1 = .slice elems spare := hx
      rw [h2, Rows.uptoBulk] at hk'
      omega
  clear hA0
  refine (puts_walk a0 len0 cap0 z0 a1 len1 cap1 l W w0 hcap (by omega) hl hv (by omega)).mono fun e W' ⟨he, bel⟩ => ?_
  subst he
  exact ⟨_, rfl, _, _, _, [], _, [], hW', trodAll_mk1 (shut_bool Try.underlying4 _), (trodAll_cons_mk (Below.trod laidOut (by kernel_rfl) (of_decide_eq_true (by kernel_rfl)) k0 bel lt0) (trodAll_cons_mk (Below.trod laidOut (by kernel_rfl) (of_decide_eq_true (by kernel_rfl)) k1 bel lt1) trodAll_mk0)), rfl, bel.frame _, fun h => by cases h⟩

set_option maxRecDepth 100000 in
theorem lifted (os : Os) (started : os.Started) (H : Type) (enc : TypeId × Value → H) (F : Stop.Interp) :
    ReturnsInHanded {} Try.checked os 6 .any ((Rows.OpenSpec.upto Rows.wirePutsSpec).pre6 enc Try.prog Try.f6 Rows.wirePutsUptoRow.domain false) (((Rows.OpenSpec.upto Rows.wirePutsSpec).at F).post enc Try.prog Try.f6 false true false false) := by
  refine returnsInHanded_of_cond (C := Try.checked) (s := Rows.OpenSpec.upto Rows.wirePutsSpec) (k := Rows.uptoSmall) rfl own started (by kernel_rfl) Try.func6
    (OpenSpec.witness (enc := enc) (C := Try.checked) (s := Rows.OpenSpec.upto Rows.wirePutsSpec) (k := Rows.uptoSmall) rfl false ⟨#[], #[.slice none 0 0, .slice none 0 0], []⟩ 8 (by kernel_rfl) (by kernel_rfl) (by kernel_rfl)
      (x := ([.nil, .nil], [], [])) (by kernel_rfl) rfl (by kernel_rfl)) ?_
  intro W base args ds gs before hval hW _ hk _
  exact contract H enc W base args ds gs before hval hW hk

theorem over : Rows.WirePutsUptoSaid :=
  OpenClaim.holds_of_cond 6 Try.f6 rfl rfl rfl rfl rfl rfl rfl ⟨rfl, rfl, rfl, rfl, rfl⟩ rfl rfl rfl rfl rfl (by kernel_rfl) Try.func6 (by kernel_rfl)
    (of_decide_eq_true (by kernel_rfl)) (by unfold Func.isWrapper; first | (rw [if_pos (by decide +kernel)]; kernel_rfl) | (rw [if_neg (by decide +kernel)]; exact ⟨rfl, rfl⟩))
    (fun os started H enc _ F => lifted os started H enc F)
end Go.Proofs.Ytocklblkopmjgaa.wirePuts

namespace Go.Proofs.Ytocklblkopmjgaa
theorem wirePutsUpto_holds : Rows.WirePutsUptoSaid := wirePuts.over
#print axioms wirePutsUpto_holds
end Go.Proofs.Ytocklblkopmjgaa
