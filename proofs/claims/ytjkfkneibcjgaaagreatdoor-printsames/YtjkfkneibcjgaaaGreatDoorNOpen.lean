/-
  How a node among the arguments is opened: a tree of nodes that lies in memory; no conditions.
-/
import Derived.Test.YtjkfkneibcjgaaaGreatDoorVOpen
import Derived.Test.YtjkfkneibcjgaaaGreatDoorPTd
set_option linter.unusedVariables false
set_option linter.unusedSimpArgs false
namespace Go.Proofs.YtjkfkneibcjgaaaGreatDoor
open Go.ChangeShapes Go.WideShapes Go.ChangeAt Go.RowKit
set_option linter.unusedVariables false
set_option linter.unusedSimpArgs false

theorem cells1b : Tryz.prog.cellsOf 4 = 1 := by kernel_rfl
theorem cells1n : Tryz.prog.cellsOf 22 = 1 := by kernel_rfl
theorem cells10n : Tryz.prog.cellsOf 28 = 10 := by kernel_rfl

section
variable {H : Type} {enc : TypeId × Value → H} {W : World}

set_option maxRecDepth 100000 in
theorem open_nfields {fuel : Nat} {cs : List Value} {x : DataW H × List MemPlace} (h : DataW.trod enc Tryz.prog W 0 (fun _ => true) true fuel 28 cs = some x) :
    ∃ (n : Nat) (c0 c1 c2 c3 c4 c5 c6 c7 c8 c9 : Value) (y0 y1 y2 y3 y4 y5 : DataW H × List MemPlace), fuel = n + 1 ∧ cs = [c0, c1, c2, c3, c4, c5, c6, c7, c8, c9] ∧ x.1 = .agg [y0.1, y1.1, y2.1, y3.1, y4.1, y5.1] ∧
      DataW.trod enc Tryz.prog W 0 (fun _ => true) true n 3 [c0] = some y0 ∧ DataW.trod enc Tryz.prog W 0 (fun _ => true) true n 9 [c1] = some y1 ∧ DataW.trod enc Tryz.prog W 0 (fun _ => true) true n 26 [c2, c3, c4, c5, c6] = some y2 ∧ DataW.trod enc Tryz.prog W 0 (fun _ => true) true n 4 [c7] = some y3 ∧ DataW.trod enc Tryz.prog W 0 (fun _ => true) true n 22 [c8] = some y4 ∧ DataW.trod enc Tryz.prog W 0 (fun _ => true) true n 3 [c9] = some y5 := by
  obtain ⟨xs, n, rfl, rfl, hl, hlen, hf⟩ := DataW.trod_struct Tryz.underlying28 h
  rw [cells10n] at hl
  have hlen' : xs.length = 6 := hlen
  match cs, hl, xs, hlen' with
  | [c0, c1, c2, c3, c4, c5, c6, c7, c8, c9], _, [y0, y1, y2, y3, y4, y5], _ =>
    have h0 : DataW.trod enc Tryz.prog W 0 (fun _ => true) true n 3 (([c0, c1, c2, c3, c4, c5, c6, c7, c8, c9].drop 0).take (Tryz.prog.cellsOf 3)) = some y0 := hf 0 _ rfl
    rw [cells1i] at h0
    have h1 : DataW.trod enc Tryz.prog W 0 (fun _ => true) true n 9 (([c0, c1, c2, c3, c4, c5, c6, c7, c8, c9].drop 1).take (Tryz.prog.cellsOf 9)) = some y1 := hf 1 _ rfl
    rw [cells1s] at h1
    have h2 : DataW.trod enc Tryz.prog W 0 (fun _ => true) true n 26 (([c0, c1, c2, c3, c4, c5, c6, c7, c8, c9].drop 2).take (Tryz.prog.cellsOf 26)) = some y2 := hf 2 _ rfl
    rw [cells5v] at h2
    have h3 : DataW.trod enc Tryz.prog W 0 (fun _ => true) true n 4 (([c0, c1, c2, c3, c4, c5, c6, c7, c8, c9].drop 7).take (Tryz.prog.cellsOf 4)) = some y3 := hf 3 _ rfl
    rw [cells1b] at h3
    have h4 : DataW.trod enc Tryz.prog W 0 (fun _ => true) true n 22 (([c0, c1, c2, c3, c4, c5, c6, c7, c8, c9].drop 8).take (Tryz.prog.cellsOf 22)) = some y4 := hf 4 _ rfl
    rw [cells1n] at h4
    have h5 : DataW.trod enc Tryz.prog W 0 (fun _ => true) true n 3 (([c0, c1, c2, c3, c4, c5, c6, c7, c8, c9].drop 9).take (Tryz.prog.cellsOf 3)) = some y5 := hf 5 _ rfl
    rw [cells1i] at h5
    exact ⟨n, c0, c1, c2, c3, c4, c5, c6, c7, c8, c9, y0, y1, y2, y3, y4, y5, rfl, rfl, rfl, h0, h1, h2, h3, h4, h5⟩

set_option maxRecDepth 100000 in
theorem open_node : ∀ (fuel : Nat) (cs : List Value) (x : DataW H × List MemPlace), DataW.trod enc Tryz.prog W 0 (fun _ => true) true fuel 28 cs = some x → Go.Proofs.YtjkfkneibcjgaaaGreatDoor.Reach Tryz.prog 28 x.1 → ∃ y, IsN W (fun b => b < W.heap.size) y cs := by
  intro fuel
  induction fuel using Nat.strongRecOn with
  | ind fuel ih =>
    intro cs x h hre
    obtain ⟨n, c0, c1, c2, c3, c4, c5, c6, c7, c8, c9, y0, y1, y2, y3, y4, y5, rfl, rfl, hx, h0, h1, h2, h3, h4, h5⟩ := open_nfields h
    rw [hx] at hre
    obtain ⟨k, e0, _, w0⟩ := DataW.trod_int Tryz.underlying3 h0
    obtain ⟨p, e5, _, w5⟩ := DataW.trod_int Tryz.underlying3 h5
    obtain ⟨s, e1, hy1, _⟩ := DataW.trod_string Tryz.underlying9 h1
    obtain ⟨f, e3, _⟩ := DataW.trod_bool Tryz.underlying4 h3
    simp only [List.cons.injEq, and_true] at e0 e1 e3 e5
    subst e0
    subst e1
    subst e3
    subst e5
    have r1 : s.size ≤ 140737488351232 := by
      have := hre.field (j := 1) (u := 9) (d := y1.1) Tryz.underlying28 rfl rfl
      rw [hy1] at this
      exact reach_size this
    have r2 := hre.field (j := 2) (u := 26) (d := y2.1) Tryz.underlying28 rfl rfl
    have r4 := hre.field (j := 4) (u := 22) (d := y4.1) Tryz.underlying28 rfl rfl
    obtain ⟨v, hv⟩ := open_value n _ _ h2 r2
    obtain ⟨l, al, cl, V, hc8, nl, ll, bl, hl, hvl, el⟩ : ∃ (l : List Tn) (al : Option Addr) (cl : Nat) (V : Nat → List Value), c8 = .slice al l.length cl ∧ (al = none → l.length = 0 ∧ cl = 0) ∧ l.length ≤ cl ∧ l.length ≤ 140737488351232 ∧
        (∀ a, al = some a → ∀ i, i < l.length → a.block < W.heap.size ∧ ∀ j v, (V i)[j]? = some v → W.cell? ((a.add (i * 10)).add j) = some v) ∧ (∀ i, i < l.length → (V i).length = 10) ∧ ∀ i x, l[i]? = some x → IsN W (fun b => b < W.heap.size) x (V i) := by
      rcases DataW.trod_slice Tryz.underlying22 h4 with ⟨hcs, _⟩ | ⟨a, len, cap, elems, rest, n', hn', hcs, hx3, _, hlc, hcm, hlen, hel, hsp, _⟩
      · simp only [List.cons.injEq, and_true] at hcs
        exact ⟨[], none, 0, fun _ => [], hcs, fun _ => ⟨rfl, rfl⟩, Nat.le_refl _, by simp, (fun a h => by cases h), (fun i h => absurd h (by simp)), fun i x h => by simp at h⟩
      · simp only [List.cons.injEq, and_true] at hcs
        rw [hx3] at r4
        rw [cells10n] at hel
        have hall : ∀ i, i < len → ∃ p : List Value × Tn, p.1.length = 10 ∧ (a.block < W.heap.size ∧ ∀ j v, p.1[j]? = some v → W.cell? ((a.add (i * 10)).add j) = some v) ∧ IsN W (fun b => b < W.heap.size) p.2 p.1 := by
          intro i hi
          have he := hel i hi
          rw [List.getElem?_eq_getElem (by omega)] at he
          obtain ⟨cs', hc1, hc2⟩ := Option.bind_eq_some_iff.1 he
          obtain ⟨_, hl5, hcell⟩ := World.cells?_some hc1
          obtain ⟨y, hy⟩ := ih n' (by omega) cs' _ hc2 (r4.elem Tryz.underlying22 (List.mem_map.2 ⟨_, List.getElem_mem _, rfl⟩))
          refine ⟨(cs', y), hl5, ⟨?_, fun j u hu => ?_⟩, hy⟩
          · have h0 := hcell 0 (by omega)
            have := World.block_lt_of_cell? W ((a.add (i * 10)).add 0) (by rw [h0, List.getElem?_eq_getElem (by omega)])
            rw [block_add, block_add] at this
            exact this
          · have hj : j < 10 := by
              have h5 : j < cs'.length := (List.getElem?_eq_some_iff.1 hu).1
              omega
            rw [hcell j hj]
            exact hu
        haveI : Inhabited (List Value × Tn) := ⟨([], .mk 0 ⟨#[]⟩ (.mk 0 0 ⟨#[]⟩ [] []) false [] 0)⟩
        obtain ⟨f, hf⟩ := Go.Deep.choose_lt hall
        refine ⟨(List.range len).map (fun i => (f i).2), some a, cap, fun i => (f i).1, by simpa using hcs, (fun e => by cases e), by simpa using hlc, ?_, ?_, ?_, ?_⟩
        · have h := r4.slice Tryz.underlying22
          rw [show Tryz.prog.bytesOf 28 = 144 by kernel_rfl] at h
          have hs := (hsp rfl).1
          unfold reachBytes at h
          simp at h
          rw [List.length_map, List.length_range]
          omega
        · intro b hb i hi
          cases hb
          exact (hf i (by simpa using hi)).2.1
        · intro i hi
          exact (hf i (by simpa using hi)).1
        · intro i x hx
          have hi : i < len := by
            have := (List.getElem?_eq_some_iff.1 hx).1
            simpa using this
          rw [List.getElem?_map, List.getElem?_range hi] at hx
          simp only [Option.map_some, Option.some.injEq] at hx
          subst hx
          exact (hf i hi).2.2
    subst hc8
    exact ⟨⟨k, s, v, f, l, p⟩, [c2, c3, c4, c5, c6], al, cl, V, rfl, rfl, hv, ⟨bounds_i64 w0, bounds_i64 w5, r1, nl, ll, bl, hl, hvl⟩, (IsNs_iff W _ _ _).2 el⟩
end
end Go.Proofs.YtjkfkneibcjgaaaGreatDoor
