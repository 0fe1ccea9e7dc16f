/-
  How a row of entries (and how many bytes it takes) among the arguments is opened; no conditions.
  How a row of changes (and how many bytes it takes) among the arguments is opened; no conditions.
-/
import Derived.Test.YtlmgiimgmjbkeaaA28
import Derived.Test.YtlmgiimgmjbkeaaA29
import Derived.Test.YtlmgiimgmjbkeaaA35
set_option linter.unusedVariables false
set_option linter.unusedSimpArgs false
namespace Go.Proofs.Ytlmgiimgmjbkeaa
open Go.ChangeShapes Go.WideShapes Go.ChangeAt Go.RowKit

theorem cells6e : Try.prog.cellsOf 48 = 6 := by kernel_rfl

section
variable {H : Type} {enc : TypeId × Value → H} {W : World}

set_option maxRecDepth 100000 in
theorem open_entry {fuel : Nat} {cs : List Value} {x : DataW H × List MemPlace} (h : DataW.trod enc Try.prog W 0 (fun _ => true) true fuel 48 cs = some x) (hre : Go.Proofs.Ytlmgiimgmjbkeaa.Reach Try.prog 48 x.1) :
    ∃ (s : ByteArray) (ds : List Value) (v : Vl), cs = .string s :: ds ∧ ds.length = 5 ∧ s.size ≤ 140737488351232 ∧ IsV W W.heap.size v (.agg ds.toArray) := by
  obtain ⟨xs, n, rfl, hx, hl, hlen, hf⟩ := DataW.trod_struct Try.underlying48 h
  rw [cells6e] at hl
  have hlen' : xs.length = 2 := hlen
  match cs, hl, xs, hlen', hx, hf with
  | [c0, c1, c2, c3, c4, c5], _, [y0, y1], _, hx, hf =>
    have h0 : DataW.trod enc Try.prog W 0 (fun _ => true) true n 9 (([c0, c1, c2, c3, c4, c5].drop 0).take (Try.prog.cellsOf 9)) = some y0 := hf 0 _ rfl
    rw [cells1s] at h0
    have h1 : DataW.trod enc Try.prog W 0 (fun _ => true) true n 34 (([c0, c1, c2, c3, c4, c5].drop 1).take (Try.prog.cellsOf 34)) = some y1 := hf 1 _ rfl
    rw [cells5v] at h1
    have hx' : x.1 = .agg [y0.1, y1.1] := by rw [hx]; rfl
    rw [hx'] at hre
    obtain ⟨s, e0, hy0, _⟩ := DataW.trod_string Try.underlying9 h0
    simp only [List.drop_zero, List.take_succ_cons, List.take_zero, List.cons.injEq, and_true] at e0
    have r0 : s.size ≤ 140737488351232 := by
      have := hre.field (j := 0) (u := 9) (d := y0.1) Try.underlying48 rfl rfl
      rw [hy0] at this
      exact reach_size this
    have r1 := hre.field (j := 1) (u := 34) (d := y1.1) Try.underlying48 rfl rfl
    obtain ⟨v, hv⟩ := open_value n _ _ h1 r1
    exact ⟨s, [c1, c2, c3, c4, c5], v, by rw [e0], rfl, r0, hv⟩

set_option maxRecDepth 100000 in
theorem open_entries {fuel : Nat} {c3 : Value} {x : DataW H × List MemPlace} (h3 : DataW.trod enc Try.prog W 0 (fun _ => true) true fuel 22 [c3] = some x) (r3 : Go.Proofs.Ytlmgiimgmjbkeaa.Reach Try.prog 22 x.1) :
    ∃ (es : List En) (al : Option Addr) (cl : Nat), c3 = .slice al es.length cl ∧ IsE W (fun b => b < W.heap.size) es al cl ∧ 96 * es.length ≤ 140737488351232 := by
  rcases DataW.trod_slice Try.underlying22 h3 with ⟨hcs, _⟩ | ⟨a, len, cap, elems, rest, n', hn', hcs, hx3, _, hlc, hcm, hlen, hel, hsp, _⟩
  · simp only [List.cons.injEq, and_true] at hcs
    exact ⟨[], none, 0, hcs, ⟨fun _ => [], (fun _ => ⟨rfl, rfl⟩), Nat.le_refl _, by simp, (fun a h => by cases h), (fun t h => by cases h), (fun i e h => by simp at h)⟩, by simp⟩
  · simp only [List.cons.injEq, and_true] at hcs
    rw [hx3] at r3
    rw [cells6e] at hel
    have hall : ∀ i, i < len → ∃ p : List Value × En, p.1.length = 5 ∧ p.2.1.size ≤ 140737488351232 ∧ (a.block < W.heap.size ∧ ∀ j v, (Value.string p.2.1 :: p.1)[j]? = some v → W.cell? ((a.add (i * 6)).add j) = some v) ∧ IsV W W.heap.size p.2.2 (.agg p.1.toArray) := by
      intro i hi
      have he := hel i hi
      rw [List.getElem?_eq_getElem (by omega)] at he
      obtain ⟨cs', hc1, hc2⟩ := Option.bind_eq_some_iff.1 he
      obtain ⟨_, hl6, hcell⟩ := World.cells?_some hc1
      obtain ⟨s, ds, v, hcs', hd5, hs, hv⟩ := open_entry hc2 (r3.elem Try.underlying22 (List.mem_map.2 ⟨_, List.getElem_mem _, rfl⟩))
      refine ⟨(ds, (s, v)), hd5, hs, ⟨?_, fun j u hu => ?_⟩, hv⟩
      · have h0 := hcell 0 (by omega)
        have := World.block_lt_of_cell? W ((a.add (i * 6)).add 0) (by rw [h0, List.getElem?_eq_getElem (by omega)])
        rw [block_add, block_add] at this
        exact this
      · dsimp only at hu
        rw [← hcs'] at hu
        have hj : j < 6 := by
          have h5 : j < cs'.length := (List.getElem?_eq_some_iff.1 hu).1
          omega
        rw [hcell j hj]
        exact hu
    haveI : Inhabited (List Value × En) := ⟨([], (⟨#[]⟩, .mk 0 0 ⟨#[]⟩ [] []))⟩
    obtain ⟨f, hf⟩ := Go.Deep.choose_lt hall
    have hl : ((List.range len).map (fun i => (f i).2)).length = len := by simp
    have hb := r3.slice Try.underlying22
    rw [show Try.prog.bytesOf 48 = 96 by kernel_rfl] at hb
    have hs := (hsp rfl).1
    unfold reachBytes at hb
    simp at hb
    have hget : ∀ (i : Nat) (e : En), ((List.range len).map (fun i => (f i).2))[i]? = some e → i < len ∧ e = (f i).2 := by
      intro i e he
      have hi : i < len := by
        have := (List.getElem?_eq_some_iff.1 he).1
        simpa using this
      rw [List.getElem?_map, List.getElem?_range hi] at he
      simp only [Option.map_some, Option.some.injEq] at he
      exact ⟨hi, he.symm⟩
    refine ⟨(List.range len).map (fun i => (f i).2), some a, cap, by rw [hl]; exact hcs, ⟨fun i => (f i).1, (fun e => by cases e), by rw [hl]; exact hlc, by rw [hl]; omega, ?_, ?_, ?_⟩, by rw [hl]; omega⟩
    · intro b hb i e he
      cases hb
      obtain ⟨hi, rfl⟩ := hget i e he
      exact (hf i hi).2.2.1
    · intro e he
      obtain ⟨i, hi⟩ := List.getElem?_of_mem he
      obtain ⟨hi', rfl⟩ := hget i e hi
      exact (hf i hi').2.1
    · intro i e he
      obtain ⟨hi, rfl⟩ := hget i e he
      exact ⟨(hf i hi).1, (hf i hi).2.2.2⟩
end
end Go.Proofs.Ytlmgiimgmjbkeaa

namespace Go.Proofs.Ytlmgiimgmjbkeaa
open Go.ChangeShapes Go.WideShapes Go.ChangeAt Go.RowKit

theorem cells7c : Try.prog.cellsOf 36 = 7 := by kernel_rfl
theorem cells1b : Try.prog.cellsOf 4 = 1 := by kernel_rfl

section
variable {H : Type} {enc : TypeId × Value → H} {W : World}

set_option maxRecDepth 100000 in
theorem open_change {fuel : Nat} {cs : List Value} {x : DataW H × List MemPlace} (h : DataW.trod enc Try.prog W 0 (fun _ => true) true fuel 36 cs = some x) (hre : Go.Proofs.Ytlmgiimgmjbkeaa.Reach Try.prog 36 x.1) :
    ∃ (s : ByteArray) (g : Bool) (ds : List Value) (v : Vl), cs = .string s :: .bool g :: ds ∧ ds.length = 5 ∧ s.size ≤ 140737488351232 ∧ IsV W W.heap.size v (.agg ds.toArray) := by
  obtain ⟨xs, n, rfl, hx, hl, hlen, hf⟩ := DataW.trod_struct Try.underlying36 h
  rw [cells7c] at hl
  have hlen' : xs.length = 3 := hlen
  match cs, hl, xs, hlen', hx, hf with
  | [c0, c6, c1, c2, c3, c4, c5], _, [y0, y2, y1], _, hx, hf =>
    have h0 : DataW.trod enc Try.prog W 0 (fun _ => true) true n 9 (([c0, c6, c1, c2, c3, c4, c5].drop 0).take (Try.prog.cellsOf 9)) = some y0 := hf 0 _ rfl
    rw [cells1s] at h0
    have h2 : DataW.trod enc Try.prog W 0 (fun _ => true) true n 4 (([c0, c6, c1, c2, c3, c4, c5].drop 1).take (Try.prog.cellsOf 4)) = some y2 := hf 1 _ rfl
    rw [cells1b] at h2
    have h1 : DataW.trod enc Try.prog W 0 (fun _ => true) true n 34 (([c0, c6, c1, c2, c3, c4, c5].drop 2).take (Try.prog.cellsOf 34)) = some y1 := hf 2 _ rfl
    rw [cells5v] at h1
    have hx' : x.1 = .agg [y0.1, y2.1, y1.1] := by rw [hx]; rfl
    rw [hx'] at hre
    obtain ⟨s, e0, hy0, _⟩ := DataW.trod_string Try.underlying9 h0
    simp only [List.drop_zero, List.take_succ_cons, List.take_zero, List.cons.injEq, and_true] at e0
    obtain ⟨g, e2, _⟩ := DataW.trod_bool Try.underlying4 h2
    simp only [List.drop_succ_cons, List.drop_zero, List.take_succ_cons, List.take_zero, List.cons.injEq, and_true] at e2
    have r0 : s.size ≤ 140737488351232 := by
      have := hre.field (j := 0) (u := 9) (d := y0.1) Try.underlying36 rfl rfl
      rw [hy0] at this
      exact reach_size this
    have r1 := hre.field (j := 2) (u := 34) (d := y1.1) Try.underlying36 rfl rfl
    obtain ⟨v, hv⟩ := open_value n _ _ h1 r1
    exact ⟨s, g, [c1, c2, c3, c4, c5], v, by rw [e0, e2], rfl, r0, hv⟩

set_option maxRecDepth 100000 in
theorem open_changes {fuel : Nat} {c3 : Value} {x : DataW H × List MemPlace} (h3 : DataW.trod enc Try.prog W 0 (fun _ => true) true fuel 25 [c3] = some x) (r3 : Go.Proofs.Ytlmgiimgmjbkeaa.Reach Try.prog 25 x.1) :
    ∃ (es : List Ch) (al : Option Addr) (cl : Nat), c3 = .slice al es.length cl ∧ IsH W (fun b => b < W.heap.size) es al cl ∧ 104 * es.length ≤ 140737488351232 := by
  rcases DataW.trod_slice Try.underlying25 h3 with ⟨hcs, _⟩ | ⟨a, len, cap, elems, rest, n', hn', hcs, hx3, _, hlc, hcm, hlen, hel, hsp, _⟩
  · simp only [List.cons.injEq, and_true] at hcs
    exact ⟨[], none, 0, hcs, ⟨fun _ => [], (fun _ => ⟨rfl, rfl⟩), Nat.le_refl _, by simp, (fun a h => by cases h), (fun t h => by cases h), (fun i e h => by simp at h)⟩, by simp⟩
  · simp only [List.cons.injEq, and_true] at hcs
    rw [hx3] at r3
    rw [cells7c] at hel
    have hall : ∀ i, i < len → ∃ p : List Value × Ch, p.1.length = 5 ∧ p.2.1.size ≤ 140737488351232 ∧ (a.block < W.heap.size ∧ ∀ j v, (Value.string p.2.1 :: Value.bool p.2.2.1 :: p.1)[j]? = some v → W.cell? ((a.add (i * 7)).add j) = some v) ∧ IsV W W.heap.size p.2.2.2 (.agg p.1.toArray) := by
      intro i hi
      have he := hel i hi
      rw [List.getElem?_eq_getElem (by omega)] at he
      obtain ⟨cs', hc1, hc2⟩ := Option.bind_eq_some_iff.1 he
      obtain ⟨_, hl7, hcell⟩ := World.cells?_some hc1
      obtain ⟨s, g, ds, v, hcs', hd5, hs, hv⟩ := open_change hc2 (r3.elem Try.underlying25 (List.mem_map.2 ⟨_, List.getElem_mem _, rfl⟩))
      refine ⟨(ds, (s, g, v)), hd5, hs, ⟨?_, fun j u hu => ?_⟩, hv⟩
      · have h0 := hcell 0 (by omega)
        have := World.block_lt_of_cell? W ((a.add (i * 7)).add 0) (by rw [h0, List.getElem?_eq_getElem (by omega)])
        rw [block_add, block_add] at this
        exact this
      · dsimp only at hu
        rw [← hcs'] at hu
        have hj : j < 7 := by
          have h5 : j < cs'.length := (List.getElem?_eq_some_iff.1 hu).1
          omega
        rw [hcell j hj]
        exact hu
    haveI : Inhabited (List Value × Ch) := ⟨([], (⟨#[]⟩, false, .mk 0 0 ⟨#[]⟩ [] []))⟩
    obtain ⟨f, hf⟩ := Go.Deep.choose_lt hall
    have hl : ((List.range len).map (fun i => (f i).2)).length = len := by simp
    have hb := r3.slice Try.underlying25
    rw [show Try.prog.bytesOf 36 = 104 by kernel_rfl] at hb
    have hs := (hsp rfl).1
    unfold reachBytes at hb
    simp at hb
    have hget : ∀ (i : Nat) (e : Ch), ((List.range len).map (fun i => (f i).2))[i]? = some e → i < len ∧ e = (f i).2 := by
      intro i e he
      have hi : i < len := by
        have := (List.getElem?_eq_some_iff.1 he).1
        simpa using this
      rw [List.getElem?_map, List.getElem?_range hi] at he
      simp only [Option.map_some, Option.some.injEq] at he
      exact ⟨hi, he.symm⟩
    refine ⟨(List.range len).map (fun i => (f i).2), some a, cap, by rw [hl]; exact hcs, ⟨fun i => (f i).1, (fun e => by cases e), by rw [hl]; exact hlc, by rw [hl]; omega, ?_, ?_, ?_⟩, by rw [hl]; omega⟩
    · intro b hb i e he
      cases hb
      obtain ⟨hi, rfl⟩ := hget i e he
      exact (hf i hi).2.2.1
    · intro e he
      obtain ⟨i, hi⟩ := List.getElem?_of_mem he
      obtain ⟨hi', rfl⟩ := hget i e hi
      exact (hf i hi').2.1
    · intro i e he
      obtain ⟨hi, rfl⟩ := hget i e he
      exact ⟨(hf i hi).1, (hf i hi).2.2.2⟩
end
end Go.Proofs.Ytlmgiimgmjbkeaa
