/-
  How a slice of whole numbers among the arguments is opened; no conditions.
  How a module among the arguments is opened; no conditions.
-/
import Derived.Test.YtcknoeepdjhnoaaGreatDoorH19
import Derived.Test.YtcknoeepdjhnoaaGreatDoorH18
import Derived.ShutString
import Derived.ChangeOld
import Derived.Deep.Slices
import Derived.ChangeSame
import Derived.SizedLaws
set_option linter.unusedVariables false
set_option linter.unusedSimpArgs false
namespace Go.Proofs.YtcknoeepdjhnoaaGreatDoor
open Go.ChangeShapes Go.WideShapes Go.ChangeAt Go.RowKit
set_option linter.unusedVariables false
set_option linter.unusedSimpArgs false

theorem open_rowI {H : Type} {enc : TypeId × Value → H} {W : World} {a0 : Option Addr} {len cap : Nat} {d0 : DataW H} {p0 : List MemPlace} (h0 : DataW.Trod enc Tryz.prog W 0 (fun _ => true) true 36 (.slice a0 len cap) d0 p0) :
    ∃ zs, RowI W a0 len zs ∧ (∀ z ∈ zs, i64B z) ∧ len ≤ 9223372036854775807 := by
  obtain ⟨fuel, hf⟩ := h0
  rcases open_ints Tryz.underlying36 Tryz.underlying3 cells_int hf with ⟨hcs, _⟩ | ⟨x, l, c, zs, hcs, _, hl, hm, hz, hx, hcell, hwz⟩
  · simp [Value.cells] at hcs
    obtain ⟨rfl, rfl, rfl⟩ := hcs
    exact ⟨[], ⟨rfl, fun j z h => by simp at h⟩, (fun z h => by cases h), by omega⟩
  · simp [Value.cells] at hcs
    obtain ⟨rfl, rfl, rfl⟩ := hcs
    simp only [if_true] at hz
    refine ⟨zs.take len, ⟨by simp; omega, fun j z hj => ?_⟩, fun z hm' => bounds_i64 (hwz z (List.mem_of_mem_take hm')), by unfold maxLen at hm; omega⟩
    have hjl : j < len := by
      have := (List.getElem?_eq_some_iff.1 hj).1
      simp at this
      omega
    obtain ⟨b, off, rfl, hc⟩ := ints_at hcell (by omega)
    have h1 := hc j (by omega)
    rw [List.getElem?_take_of_lt hjl, List.getElem?_eq_getElem (by omega)] at hj
    have e : zs.getD j 0 = z := by rw [← Option.some.inj hj]; simp [List.getD, (by omega : j < zs.length)]
    rw [e] at h1
    exact ⟨b, off, rfl, h1⟩
end Go.Proofs.YtcknoeepdjhnoaaGreatDoor

namespace Go.Proofs.YtcknoeepdjhnoaaGreatDoor
open Go.ChangeShapes Go.WideShapes Go.ChangeAt Go.RowKit

theorem cells3m : Tryz.prog.cellsOf 27 = 3 := by kernel_rfl
theorem cells4f : Tryz.prog.cellsOf 50 = 4 := by kernel_rfl
theorem cells2x : Tryz.prog.cellsOf 52 = 2 := by kernel_rfl
theorem cells1f : Tryz.prog.cellsOf 24 = 1 := by kernel_rfl
theorem cells1x : Tryz.prog.cellsOf 25 = 1 := by kernel_rfl

section
variable {H : Type} {enc : TypeId × Value → H} {W : World}

set_option maxRecDepth 100000 in
theorem open_vals {fuel : Nat} {c3 : Value} {x : DataW H × List MemPlace} (h3 : DataW.trod enc Tryz.prog W 0 (fun _ => true) true fuel 23 [c3] = some x) (r3 : Go.Proofs.YtcknoeepdjhnoaaGreatDoor.Reach Tryz.prog 23 x.1) :
    ∃ (l : List Vl) (al : Option Addr) (cl : Nat), c3 = .slice al l.length cl ∧ IsC W (fun b => b < W.heap.size) l al cl ∧ 80 * l.length ≤ 140737488351232 := by
  rcases DataW.trod_slice Tryz.underlying23 h3 with ⟨hcs, _⟩ | ⟨a, len, cap, elems, rest, n', hn', hcs, hx3, _, hlc, hcm, hlen, hel, hsp, _⟩
  · simp only [List.cons.injEq, and_true] at hcs
    exact ⟨[], none, 0, hcs, IsP.of (V := fun _ => []) ⟨by omega, by omega, by decide, fun _ => ⟨rfl, rfl⟩, fun _ => ⟨rfl, rfl⟩, Nat.le_refl _, Nat.le_refl _, by simp, by simp, by simp, (fun a h => by cases h), (fun i h => by simp at h), (fun a h => by cases h), (fun t h => by cases h)⟩ (fun i y h => by simp at h), by simp⟩
  · simp only [List.cons.injEq, and_true] at hcs
    rw [hx3] at r3
    rw [cells5v] at hel
    have hall : ∀ i, i < len → ∃ p : List Value × Vl, p.1.length = 5 ∧ (a.block < W.heap.size ∧ ∀ j v, p.1[j]? = some v → W.cell? ((a.add (i * 5)).add j) = some v) ∧ IsV W W.heap.size p.2 (.agg p.1.toArray) := by
      intro i hi
      have he := hel i hi
      rw [List.getElem?_eq_getElem (by omega)] at he
      obtain ⟨cs', hc1, hc2⟩ := Option.bind_eq_some_iff.1 he
      obtain ⟨_, hl5, hcell⟩ := World.cells?_some hc1
      obtain ⟨v, hv⟩ := open_value n' cs' _ hc2 (r3.elem Tryz.underlying23 (List.mem_map.2 ⟨_, List.getElem_mem _, rfl⟩))
      refine ⟨(cs', v), hl5, ⟨?_, fun j u hu => ?_⟩, hv⟩
      · have h0 := hcell 0 (by omega)
        have := World.block_lt_of_cell? W ((a.add (i * 5)).add 0) (by rw [h0, List.getElem?_eq_getElem (by omega)])
        rw [block_add, block_add] at this
        exact this
      · have hj : j < 5 := by
          have h5 : j < cs'.length := (List.getElem?_eq_some_iff.1 hu).1
          omega
        rw [hcell j hj]
        exact hu
    haveI : Inhabited (List Value × Vl) := ⟨([], .mk 0 0 ⟨#[]⟩ [] [])⟩
    obtain ⟨f, hf⟩ := Go.Deep.choose_lt hall
    have hl : ((List.range len).map (fun i => (f i).2)).length = len := by simp
    have hb := r3.slice Tryz.underlying23
    rw [show Tryz.prog.bytesOf 42 = 80 by kernel_rfl] at hb
    have hs := (hsp rfl).1
    unfold reachBytes at hb
    simp at hb
    refine ⟨(List.range len).map (fun i => (f i).2), some a, cap, by rw [hl]; exact hcs, IsP.of (V := fun i => (f i).1) ⟨by omega, by omega, by decide, (fun e => by cases e), fun _ => ⟨rfl, rfl⟩, by rw [hl]; exact hlc, Nat.le_refl _, by rw [hl]; omega, by simp, by simp, ?_, ?_, (fun a h => by cases h), (fun t h => by cases h)⟩ ?_, by rw [hl]; omega⟩
    · intro b hb i hi
      cases hb
      exact (hf i (by simpa using hi)).2.1
    · intro i hi
      exact (hf i (by simpa using hi)).1
    · intro i x hx
      have hi : i < len := by
        have := (List.getElem?_eq_some_iff.1 hx).1
        simpa using this
      rw [List.getElem?_map, List.getElem?_range hi] at hx
      simp only [Option.map_some, Option.some.injEq] at hx
      subst hx
      exact (hf i hi).2.2

set_option maxRecDepth 100000 in
theorem open_func {fuel : Nat} {cs : List Value} {x : DataW H × List MemPlace} (h : DataW.trod enc Tryz.prog W 0 (fun _ => true) true fuel 50 cs = some x) (hre : Go.Proofs.YtcknoeepdjhnoaaGreatDoor.Reach Tryz.prog 50 x.1) :
    ∃ f : Fn, cs = fnV f ∧ f.2.2.2.size ≤ 140737488351232 := by
  obtain ⟨xs, n, rfl, hx, hl, hlen, hf⟩ := DataW.trod_struct Tryz.underlying50 h
  rw [cells4f] at hl
  have hlen' : xs.length = 4 := hlen
  match cs, hl, xs, hlen', hx, hf with
  | [c0, c1, c2, c3], _, [y0, y1, y2, y3], _, hx, hf =>
    have h0 : DataW.trod enc Tryz.prog W 0 (fun _ => true) true n 3 (([c0, c1, c2, c3].drop 0).take (Tryz.prog.cellsOf 3)) = some y0 := hf 0 _ rfl
    rw [cells1i] at h0
    have h1 : DataW.trod enc Tryz.prog W 0 (fun _ => true) true n 3 (([c0, c1, c2, c3].drop 1).take (Tryz.prog.cellsOf 3)) = some y1 := hf 1 _ rfl
    rw [cells1i] at h1
    have h2 : DataW.trod enc Tryz.prog W 0 (fun _ => true) true n 3 (([c0, c1, c2, c3].drop 2).take (Tryz.prog.cellsOf 3)) = some y2 := hf 2 _ rfl
    rw [cells1i] at h2
    have h3 : DataW.trod enc Tryz.prog W 0 (fun _ => true) true n 9 (([c0, c1, c2, c3].drop 3).take (Tryz.prog.cellsOf 9)) = some y3 := hf 3 _ rfl
    rw [cells1s] at h3
    have hx' : x.1 = .agg [y0.1, y1.1, y2.1, y3.1] := by rw [hx]; rfl
    rw [hx'] at hre
    obtain ⟨p, e0, _, _⟩ := DataW.trod_int Tryz.underlying3 h0
    obtain ⟨l, e1, _, _⟩ := DataW.trod_int Tryz.underlying3 h1
    obtain ⟨k, e2, _, _⟩ := DataW.trod_int Tryz.underlying3 h2
    obtain ⟨s, e3, hy3, _⟩ := DataW.trod_string Tryz.underlying9 h3
    simp only [List.drop_zero, List.drop_succ_cons, List.take_succ_cons, List.take_zero, List.cons.injEq, and_true] at e0 e1 e2 e3
    have r3 : s.size ≤ 140737488351232 := by
      have := hre.field (j := 3) (u := 9) (d := y3.1) Tryz.underlying50 rfl rfl
      rw [hy3] at this
      exact reach_size this
    exact ⟨(p, l, k, s), by rw [e0, e1, e2, e3]; rfl, r3⟩

set_option maxRecDepth 100000 in
theorem open_exp {fuel : Nat} {cs : List Value} {x : DataW H × List MemPlace} (h : DataW.trod enc Tryz.prog W 0 (fun _ => true) true fuel 52 cs = some x) (hre : Go.Proofs.YtcknoeepdjhnoaaGreatDoor.Reach Tryz.prog 52 x.1) :
    ∃ f : Ex, cs = exV f ∧ f.1.size ≤ 140737488351232 := by
  obtain ⟨xs, n, rfl, hx, hl, hlen, hf⟩ := DataW.trod_struct Tryz.underlying52 h
  rw [cells2x] at hl
  have hlen' : xs.length = 2 := hlen
  match cs, hl, xs, hlen', hx, hf with
  | [c0, c1], _, [y0, y1], _, hx, hf =>
    have h0 : DataW.trod enc Tryz.prog W 0 (fun _ => true) true n 9 (([c0, c1].drop 0).take (Tryz.prog.cellsOf 9)) = some y0 := hf 0 _ rfl
    rw [cells1s] at h0
    have h1 : DataW.trod enc Tryz.prog W 0 (fun _ => true) true n 3 (([c0, c1].drop 1).take (Tryz.prog.cellsOf 3)) = some y1 := hf 1 _ rfl
    rw [cells1i] at h1
    have hx' : x.1 = .agg [y0.1, y1.1] := by rw [hx]; rfl
    rw [hx'] at hre
    obtain ⟨s, e0, hy0, _⟩ := DataW.trod_string Tryz.underlying9 h0
    obtain ⟨p, e1, _, _⟩ := DataW.trod_int Tryz.underlying3 h1
    simp only [List.drop_zero, List.drop_succ_cons, List.take_succ_cons, List.take_zero, List.cons.injEq, and_true] at e0 e1
    have r0 : s.size ≤ 140737488351232 := by
      have := hre.field (j := 0) (u := 9) (d := y0.1) Tryz.underlying52 rfl rfl
      rw [hy0] at this
      exact reach_size this
    exact ⟨(s, p), by rw [e0, e1]; rfl, r0⟩

/-- rows of k cells among the arguments -/
theorem open_rows {α : Type} [Inhabited α] (f : α → List Value) (k : Nat) (hk0 : 0 < k) (hk : ∀ x, (f x).length = k) (Pb : α → Prop) {len cap : Nat} {a : Addr} (hlc : len ≤ cap) (hb : len ≤ 140737488351232)
    (hall : ∀ i, i < len → ∃ (cs : List Value) (x : α), W.cells? 0 (a.add (i * k)) k = some cs ∧ cs = f x ∧ Pb x) :
    ∃ l : List α, l.length = len ∧ IsT W (fun b => b < W.heap.size) k (l.map f) (some a) cap ∧ ∀ x ∈ l, Pb x := by
  have hall' : ∀ i, i < len → ∃ x : α, W.cells? 0 (a.add (i * k)) k = some (f x) ∧ Pb x := fun i hi => by
    obtain ⟨cs, x, h1, rfl, h3⟩ := hall i hi
    exact ⟨x, h1, h3⟩
  obtain ⟨g, hg⟩ := Go.Deep.choose_lt hall'
  refine ⟨(List.range len).map g, by simp, ⟨(fun e => by cases e), by simpa using hlc, by simpa using hb, ?_⟩, ?_⟩
  · intro b hb i r hr
    cases hb
    have hi : i < len := by
      have := (List.getElem?_eq_some_iff.1 hr).1
      simpa using this
    rw [List.map_map, List.getElem?_map, List.getElem?_range hi] at hr
    simp only [Option.map_some, Option.some.injEq, Function.comp_def] at hr
    subst hr
    obtain ⟨_, hl5, hcell⟩ := World.cells?_some (hg i hi).1
    refine ⟨?_, fun j u hu => ?_⟩
    · have h0 := hcell 0 (by have := hk (g i); omega)
      have := World.block_lt_of_cell? W ((a.add (i * k)).add 0) (by rw [h0, List.getElem?_eq_getElem (by have := hk (g i); omega)])
      rw [block_add, block_add] at this
      exact this
    · have hj : j < k := by
        have h5 := (List.getElem?_eq_some_iff.1 hu).1
        rw [hk] at h5
        exact h5
      rw [hcell j hj]
      exact hu
  · intro x hx
    obtain ⟨i, hi, rfl⟩ := List.mem_map.1 hx
    exact (hg i (List.mem_range.1 hi)).2

set_option maxRecDepth 100000 in
theorem open_funcs {fuel : Nat} {c3 : Value} {x : DataW H × List MemPlace} (h3 : DataW.trod enc Tryz.prog W 0 (fun _ => true) true fuel 24 [c3] = some x) (r3 : Go.Proofs.YtcknoeepdjhnoaaGreatDoor.Reach Tryz.prog 24 x.1) :
    ∃ (l : List Fn) (al : Option Addr) (cl : Nat), c3 = .slice al l.length cl ∧ IsT W (fun b => b < W.heap.size) 4 (l.map fnV) al cl ∧ (∀ f ∈ l, f.2.2.2.size ≤ 140737488351232) ∧ 40 * l.length ≤ 140737488351232 := by
  rcases DataW.trod_slice Tryz.underlying24 h3 with ⟨hcs, _⟩ | ⟨a, len, cap, elems, rest, n', hn', hcs, hx3, _, hlc, hcm, hlen, hel, hsp, _⟩
  · simp only [List.cons.injEq, and_true] at hcs
    exact ⟨[], none, 0, hcs, ⟨fun _ => ⟨rfl, rfl⟩, Nat.le_refl _, by simp, (fun a h => by cases h)⟩, (fun f h => by cases h), by simp⟩
  · simp only [List.cons.injEq, and_true] at hcs
    rw [hx3] at r3
    rw [cells4f] at hel
    have hb := r3.slice Tryz.underlying24
    rw [show Tryz.prog.bytesOf 50 = 40 by kernel_rfl] at hb
    have hs := (hsp rfl).1
    unfold reachBytes at hb
    simp at hb
    haveI : Inhabited Fn := ⟨(0, 0, 0, ⟨#[]⟩)⟩
    obtain ⟨l, hl, hT, hP⟩ := open_rows (W := W) fnV 4 (by omega) (fun _ => rfl) (fun f => f.2.2.2.size ≤ 140737488351232) (a := a) hlc (by omega) (fun i hi => by
      have he := hel i hi
      rw [List.getElem?_eq_getElem (by omega)] at he
      obtain ⟨cs', hc1, hc2⟩ := Option.bind_eq_some_iff.1 he
      obtain ⟨f, hf, hs⟩ := open_func hc2 (r3.elem Tryz.underlying24 (List.mem_map.2 ⟨_, List.getElem_mem _, rfl⟩))
      exact ⟨cs', f, hc1, hf, hs⟩)
    exact ⟨l, some a, cap, by rw [hl]; exact hcs, hT, hP, by rw [hl]; omega⟩

set_option maxRecDepth 100000 in
theorem open_exps {fuel : Nat} {c3 : Value} {x : DataW H × List MemPlace} (h3 : DataW.trod enc Tryz.prog W 0 (fun _ => true) true fuel 25 [c3] = some x) (r3 : Go.Proofs.YtcknoeepdjhnoaaGreatDoor.Reach Tryz.prog 25 x.1) :
    ∃ (l : List Ex) (al : Option Addr) (cl : Nat), c3 = .slice al l.length cl ∧ IsT W (fun b => b < W.heap.size) 2 (l.map exV) al cl ∧ (∀ f ∈ l, f.1.size ≤ 140737488351232) ∧ 24 * l.length ≤ 140737488351232 := by
  rcases DataW.trod_slice Tryz.underlying25 h3 with ⟨hcs, _⟩ | ⟨a, len, cap, elems, rest, n', hn', hcs, hx3, _, hlc, hcm, hlen, hel, hsp, _⟩
  · simp only [List.cons.injEq, and_true] at hcs
    exact ⟨[], none, 0, hcs, ⟨fun _ => ⟨rfl, rfl⟩, Nat.le_refl _, by simp, (fun a h => by cases h)⟩, (fun f h => by cases h), by simp⟩
  · simp only [List.cons.injEq, and_true] at hcs
    rw [hx3] at r3
    rw [cells2x] at hel
    have hb := r3.slice Tryz.underlying25
    rw [show Tryz.prog.bytesOf 52 = 24 by kernel_rfl] at hb
    have hs := (hsp rfl).1
    unfold reachBytes at hb
    simp at hb
    haveI : Inhabited Ex := ⟨(⟨#[]⟩, 0)⟩
    obtain ⟨l, hl, hT, hP⟩ := open_rows (W := W) exV 2 (by omega) (fun _ => rfl) (fun f => f.1.size ≤ 140737488351232) (a := a) hlc (by omega) (fun i hi => by
      have he := hel i hi
      rw [List.getElem?_eq_getElem (by omega)] at he
      obtain ⟨cs', hc1, hc2⟩ := Option.bind_eq_some_iff.1 he
      obtain ⟨f, hf, hs⟩ := open_exp hc2 (r3.elem Tryz.underlying25 (List.mem_map.2 ⟨_, List.getElem_mem _, rfl⟩))
      exact ⟨cs', f, hc1, hf, hs⟩)
    exact ⟨l, some a, cap, by rw [hl]; exact hcs, hT, hP, by rw [hl]; omega⟩

set_option maxRecDepth 100000 in
theorem open_module {fuel : Nat} {cs : List Value} {x : DataW H × List MemPlace} (h : DataW.trod enc Tryz.prog W 0 (fun _ => true) true fuel 27 cs = some x) (hre : Go.Proofs.YtcknoeepdjhnoaaGreatDoor.Reach Tryz.prog 27 x.1) :
    ∃ (m : Md) (a1 a2 a3 : Option Addr) (c1 c2 c3 : Nat), cs = [.slice a1 m.cs.length c1, .slice a2 m.fs.length c2, .slice a3 m.xs.length c3] ∧ IsM W (fun b => b < W.heap.size) m a1 c1 a2 c2 a3 c3 ∧ 80 * m.cs.length ≤ 140737488351232 ∧ 40 * m.fs.length ≤ 140737488351232 ∧ 24 * m.xs.length ≤ 140737488351232 := by
  obtain ⟨xs, n, rfl, hx, hl, hlen, hf⟩ := DataW.trod_struct Tryz.underlying27 h
  rw [cells3m] at hl
  have hlen' : xs.length = 3 := hlen
  match cs, hl, xs, hlen', hx, hf with
  | [v0, v1, v2], _, [y0, y1, y2], _, hx, hf =>
    have h0 : DataW.trod enc Tryz.prog W 0 (fun _ => true) true n 23 (([v0, v1, v2].drop 0).take (Tryz.prog.cellsOf 23)) = some y0 := hf 0 _ rfl
    rw [cells1l] at h0
    have h1 : DataW.trod enc Tryz.prog W 0 (fun _ => true) true n 24 (([v0, v1, v2].drop 1).take (Tryz.prog.cellsOf 24)) = some y1 := hf 1 _ rfl
    rw [cells1f] at h1
    have h2 : DataW.trod enc Tryz.prog W 0 (fun _ => true) true n 25 (([v0, v1, v2].drop 2).take (Tryz.prog.cellsOf 25)) = some y2 := hf 2 _ rfl
    rw [cells1x] at h2
    have hx' : x.1 = .agg [y0.1, y1.1, y2.1] := by rw [hx]; rfl
    rw [hx'] at hre
    obtain ⟨l1, a1, c1, e1, i1, z1⟩ := open_vals h0 (hre.field (j := 0) (u := 23) (d := y0.1) Tryz.underlying27 rfl rfl)
    obtain ⟨l2, a2, c2, e2, i2, b2, z2⟩ := open_funcs h1 (hre.field (j := 1) (u := 24) (d := y1.1) Tryz.underlying27 rfl rfl)
    obtain ⟨l3, a3, c3, e3, i3, b3, z3⟩ := open_exps h2 (hre.field (j := 2) (u := 25) (d := y2.1) Tryz.underlying27 rfl rfl)
    exact ⟨⟨l1, l2, l3⟩, a1, a2, a3, c1, c2, c3, by rw [e1, e2, e3], ⟨i1, i2, i3, b2, b3⟩, z1, z2, z3⟩

set_option maxRecDepth 100000 in
theorem arg_module {base : Nat} {v : Value} {d : DataW H} {p : List MemPlace} (hv : Value.okWide Tryz.prog W .any base 27 v) (h : DataW.Trod enc Tryz.prog W 0 (fun _ => true) true 27 v d p) (hre : Go.Proofs.YtcknoeepdjhnoaaGreatDoor.Reach Tryz.prog 27 d) :
    ∃ (m : Md) (a1 a2 a3 : Option Addr) (c1 c2 c3 : Nat), v = .agg #[.slice a1 m.cs.length c1, .slice a2 m.fs.length c2, .slice a3 m.xs.length c3] ∧ IsM W (fun b => b < W.heap.size) m a1 c1 a2 c2 a3 c3 ∧ 80 * m.cs.length ≤ 140737488351232 ∧ 40 * m.fs.length ≤ 140737488351232 ∧ 24 * m.xs.length ≤ 140737488351232 := by
  obtain ⟨cs, rfl⟩ : ∃ cs : Array Value, v = .agg cs := by
    simp only [Value.okWide, Tryz.underlying27] at hv
    obtain ⟨cs, h1, _⟩ := hv
    exact ⟨cs, h1⟩
  obtain ⟨fuel, hf⟩ := h
  obtain ⟨m, a1, a2, a3, c1, c2, c3, e, hm⟩ := open_module hf hre
  refine ⟨m, a1, a2, a3, c1, c2, c3, ?_, hm⟩
  have e' : cs.toList = [.slice a1 m.cs.length c1, .slice a2 m.fs.length c2, .slice a3 m.xs.length c3] := by simpa [Value.cells] using e
  rw [show cs = cs.toList.toArray by simp, e']
end
end Go.Proofs.YtcknoeepdjhnoaaGreatDoor
