/-
  What the form's own reach says of what lies within an argument: elements of slices, fields of structs; no conditions.
  How a value among the arguments is opened: a tree of values that lies in memory; no conditions.
  How a module among the arguments is opened; no conditions.
  How a slice of bytes among the arguments is opened: its elements as a list of numbers, its capacity within the form's own reach; no conditions.
-/
import Derived.Test.YtfdnhpmldnmncaaChecked
import Derived.SizedLaws
import Derived.Deep.Strs
import Derived.Test.YtfdnhpmldnmncaaVBase
import Derived.ProofKit
import Derived.OpenShut
import Derived.Test.YtfdnhpmldnmncaaM1
import Derived.Test.YtfdnhpmldnmncaaBase
import Derived.Test.YtfdnhpmldnmncaaRows
import Derived.ShutString
import Derived.ChangeOld
namespace Go.Proofs.Ytfdnhpmldnmncaa
open Go

theorem weightsAll_mem {H : Type} {P : Program} {e : TypeId} : ∀ {ds : List (DataW H)} {d : DataW H}, d ∈ ds → ∀ n ∈ d.weights P e, n ∈ DataW.weightsAll P e ds
  | d0 :: ds, d, hd, n, hn => by
    simp only [DataW.weightsAll, List.mem_append]
    rcases List.mem_cons.1 hd with rfl | hd
    · exact Or.inl hn
    · exact Or.inr (weightsAll_mem hd n hn)

/-- within reach -/
def Reach {H : Type} (P : Program) (t : TypeId) (d : DataW H) : Prop := ∀ n ∈ d.weights P t, n ≤ reachBytes

theorem reach_arg {H : Type} {P : Program} {ts : List TypeId} {ds : List (DataW H)} (h : (DataW.weightsEach P ts ds).all (· ≤ reachBytes) = true) {j : Nat} {t : TypeId} {d : DataW H} (ht : ts[j]? = some t) (hd : ds[j]? = some d) : Reach P t d := fun n hn => by
  have := List.all_eq_true.1 h _ (DataW.weights_mem_each ht hd n hn)
  simpa using this

theorem Reach.slice {H : Type} {P : Program} {t e : TypeId} {elems spare : List (DataW H)} (h : Reach P t (.slice elems spare)) (hu : P.underlying t = some (.slice e)) : (elems.length + spare.length) * P.bytesOf e ≤ reachBytes :=
  h _ (by simp [DataW.weights, hu])

theorem Reach.elem {H : Type} {P : Program} {t e : TypeId} {elems spare : List (DataW H)} (h : Reach P t (.slice elems spare)) (hu : P.underlying t = some (.slice e)) {d : DataW H} (hd : d ∈ elems) : Reach P e d := fun n hn =>
  h n (by
    simp only [DataW.weights, hu, List.mem_cons, List.mem_append]
    exact Or.inr (Or.inl (weightsAll_mem hd n hn)))

theorem Reach.string {H : Type} {P : Program} {t : TypeId} {bytes : List UInt8} (h : Reach (H := H) P t (.lit (.string bytes))) : bytes.length ≤ reachBytes :=
  h _ (by simp [DataW.weights])

theorem Reach.field {H : Type} {P : Program} {t : TypeId} {fs : Array Field} {parts : List (DataW H)} (h : Reach P t (.agg parts)) (hu : P.underlying t = some (.struct fs)) {j : Nat} {u : TypeId} {d : DataW H} (ht : (fs.toList.map (·.type))[j]? = some u) (hd : parts[j]? = some d) : Reach P u d := fun n hn =>
  h n (by
    simp only [DataW.weights, hu]
    exact DataW.weights_mem_each ht hd n hn)

theorem reach_size {H : Type} {P : Program} {t : TypeId} {s : ByteArray} (h : Reach (H := H) P t (.lit (.string s.data.toList))) : s.size ≤ 140737488351232 := by
  have := h.string
  unfold reachBytes at this
  simpa using this
end Go.Proofs.Ytfdnhpmldnmncaa

namespace Go.Proofs.Ytfdnhpmldnmncaa
open Go.ChangeShapes Go.WideShapes Go.ChangeAt Go.RowKit

theorem cells1i : Try.prog.cellsOf 3 = 1 := by kernel_rfl
theorem cells1j : Try.prog.cellsOf 2 = 1 := by kernel_rfl
theorem cells1s : Try.prog.cellsOf 9 = 1 := by kernel_rfl
theorem cells1l : Try.prog.cellsOf 24 = 1 := by kernel_rfl
theorem cells1k : Try.prog.cellsOf 49 = 1 := by kernel_rfl
theorem cells5v : Try.prog.cellsOf 51 = 5 := by kernel_rfl

section
variable {H : Type} {enc : TypeId × Value → H} {W : World}

set_option maxRecDepth 100000 in
theorem open_fields {fuel : Nat} {cs : List Value} {x : DataW H × List MemPlace} (h : DataW.trod enc Try.prog W 0 (fun _ => true) true fuel 51 cs = some x) :
    ∃ (n : Nat) (c0 c1 c2 c3 c4 : Value) (y0 y1 y2 y3 y4 : DataW H × List MemPlace), fuel = n + 1 ∧ cs = [c0, c1, c2, c3, c4] ∧ x.1 = .agg [y0.1, y1.1, y2.1, y3.1, y4.1] ∧
      DataW.trod enc Try.prog W 0 (fun _ => true) true n 3 [c0] = some y0 ∧ DataW.trod enc Try.prog W 0 (fun _ => true) true n 2 [c1] = some y1 ∧ DataW.trod enc Try.prog W 0 (fun _ => true) true n 9 [c2] = some y2 ∧
      DataW.trod enc Try.prog W 0 (fun _ => true) true n 24 [c3] = some y3 ∧ DataW.trod enc Try.prog W 0 (fun _ => true) true n 49 [c4] = some y4 := by
  obtain ⟨xs, n, rfl, rfl, hl, hlen, hf⟩ := DataW.trod_struct Try.underlying51 h
  rw [cells5v] at hl
  have hlen' : xs.length = 5 := hlen
  match cs, hl, xs, hlen' with
  | [c0, c1, c2, c3, c4], _, [y0, y1, y2, y3, y4], _ =>
    have h0 : DataW.trod enc Try.prog W 0 (fun _ => true) true n 3 (([c0, c1, c2, c3, c4].drop 0).take (Try.prog.cellsOf 3)) = some y0 := hf 0 _ rfl
    rw [cells1i] at h0
    have h1 : DataW.trod enc Try.prog W 0 (fun _ => true) true n 2 (([c0, c1, c2, c3, c4].drop 1).take (Try.prog.cellsOf 2)) = some y1 := hf 1 _ rfl
    rw [cells1j] at h1
    have h2 : DataW.trod enc Try.prog W 0 (fun _ => true) true n 9 (([c0, c1, c2, c3, c4].drop 2).take (Try.prog.cellsOf 9)) = some y2 := hf 2 _ rfl
    rw [cells1s] at h2
    have h3 : DataW.trod enc Try.prog W 0 (fun _ => true) true n 24 (([c0, c1, c2, c3, c4].drop 3).take (Try.prog.cellsOf 24)) = some y3 := hf 3 _ rfl
    rw [cells1l] at h3
    have h4 : DataW.trod enc Try.prog W 0 (fun _ => true) true n 49 (([c0, c1, c2, c3, c4].drop 4).take (Try.prog.cellsOf 49)) = some y4 := hf 4 _ rfl
    rw [cells1k] at h4
    exact ⟨n, c0, c1, c2, c3, c4, y0, y1, y2, y3, y4, rfl, rfl, rfl, h0, h1, h2, h3, h4⟩

set_option maxRecDepth 100000 in
theorem open_value : ∀ (fuel : Nat) (cs : List Value) (x : DataW H × List MemPlace), DataW.trod enc Try.prog W 0 (fun _ => true) true fuel 51 cs = some x → Go.Proofs.Ytfdnhpmldnmncaa.Reach Try.prog 51 x.1 → ∃ v, IsV W W.heap.size v (.agg cs.toArray) := by
  intro fuel
  induction fuel using Nat.strongRecOn with
  | ind fuel ih =>
    intro cs x h hre
    obtain ⟨n, c0, c1, c2, c3, c4, y0, y1, y2, y3, y4, rfl, rfl, hx, h0, h1, h2, h3, h4⟩ := open_fields h
    rw [hx] at hre
    obtain ⟨k, e0, _, w0⟩ := DataW.trod_int Try.underlying3 h0
    obtain ⟨m, e1, _, w1⟩ := DataW.trod_int Try.underlying2 h1
    obtain ⟨s, e2, hy2, _⟩ := DataW.trod_string Try.underlying9 h2
    simp only [List.cons.injEq, and_true] at e0 e1 e2
    subst e0
    subst e1
    subst e2
    have r2 : s.size ≤ 140737488351232 := by
      have := hre.field (j := 2) (u := 9) (d := y2.1) Try.underlying51 rfl rfl
      rw [hy2] at this
      exact reach_size this
    have r3 := hre.field (j := 3) (u := 24) (d := y3.1) Try.underlying51 rfl rfl
    have r4 := hre.field (j := 4) (u := 49) (d := y4.1) Try.underlying51 rfl rfl
    obtain ⟨ks, ak, ck, hc4, nk, lk, ⟨bc, bq⟩, hk, bt⟩ : ∃ (ks : List ByteArray) (ak : Option Addr) (ck : Nat), c4 = .slice ak ks.length ck ∧ (ak = none → ks.length = 0 ∧ ck = 0) ∧ ks.length ≤ ck ∧ (ck ≤ 140737488351232 ∧ 16 * ks.length ≤ 140737488351232) ∧ (∀ a, ak = some a → ∀ i t, ks[i]? = some t → a.block < W.heap.size ∧ W.cell? (a.add i) = some (.string t)) ∧ ∀ t ∈ ks, t.size ≤ 140737488351232 := by
      rcases Go.Deep.open_strs Try.underlying49 Try.underlying9 cells1s h4 with ⟨hcs, _⟩ | ⟨a, l, c, m', Sx, hcs, _, hl, hm, hmm, hx4, hcell⟩
      · simp only [List.cons.injEq, and_true] at hcs
        exact ⟨[], none, 0, hcs, fun _ => ⟨rfl, rfl⟩, Nat.le_refl _, ⟨by omega, by simp⟩, (fun a h => by cases h), fun t h => by cases h⟩
      · simp only [List.cons.injEq, and_true] at hcs
        simp only [if_true] at hmm
        subst hmm
        rw [hx4] at r4
        refine ⟨(List.range l).map Sx, some a, m', by simpa using hcs, (fun e => by cases e), by simpa using hl, ?_, ?_, ?_⟩
        · have h := r4.slice Try.underlying49
          rw [show Try.prog.bytesOf 9 = 16 by kernel_rfl] at h
          unfold reachBytes at h
          simp at h
          refine ⟨by omega, ?_⟩
          rw [List.length_map, List.length_range]
          omega
        · intro b hb i t ht
          cases hb
          have hi : i < l := by
            have := (List.getElem?_eq_some_iff.1 ht).1
            simpa using this
          rw [List.getElem?_map, List.getElem?_range hi] at ht
          simp only [Option.map_some, Option.some.injEq] at ht
          subst ht
          have hc := (hcell i (by omega)).1
          refine ⟨?_, hc⟩
          have := World.block_lt_of_cell? _ _ (by rw [hc])
          rw [block_add] at this
          exact this
        · intro t ht
          obtain ⟨i, hi, rfl⟩ := List.mem_map.1 ht
          exact reach_size (r4.elem Try.underlying49 (List.mem_map.2 ⟨i, hi, rfl⟩))
    obtain ⟨l, al, cl, V, hc3, nl, ll, bl, hl, hv, el⟩ : ∃ (l : List Vl) (al : Option Addr) (cl : Nat) (V : Nat → List Value), c3 = .slice al l.length cl ∧ (al = none → l.length = 0 ∧ cl = 0) ∧ l.length ≤ cl ∧ cl ≤ 140737488351232 ∧
        (∀ a, al = some a → ∀ i, i < l.length → a.block < W.heap.size ∧ ∀ j v, (V i)[j]? = some v → W.cell? ((a.add (i * 5)).add j) = some v) ∧ (∀ i, i < l.length → (V i).length = 5) ∧ ∀ i x, l[i]? = some x → IsV W W.heap.size x (.agg (V i).toArray) := by
      rcases DataW.trod_slice Try.underlying24 h3 with ⟨hcs, _⟩ | ⟨a, len, cap, elems, rest, n', hn', hcs, hx3, _, hlc, hcm, hlen, hel, hsp, _⟩
      · simp only [List.cons.injEq, and_true] at hcs
        exact ⟨[], none, 0, fun _ => [], hcs, fun _ => ⟨rfl, rfl⟩, Nat.le_refl _, by omega, (fun a h => by cases h), (fun i h => absurd h (by simp)), fun i x h => by simp at h⟩
      · simp only [List.cons.injEq, and_true] at hcs
        rw [hx3] at r3
        rw [cells5v] at hel
        have hall : ∀ i, i < len → ∃ p : List Value × Vl, p.1.length = 5 ∧ (a.block < W.heap.size ∧ ∀ j v, p.1[j]? = some v → W.cell? ((a.add (i * 5)).add j) = some v) ∧ IsV W W.heap.size p.2 (.agg p.1.toArray) := by
          intro i hi
          have he := hel i hi
          rw [List.getElem?_eq_getElem (by omega)] at he
          obtain ⟨cs', hc1, hc2⟩ := Option.bind_eq_some_iff.1 he
          obtain ⟨_, hl5, hcell⟩ := World.cells?_some hc1
          obtain ⟨v, hv⟩ := ih n' (by omega) cs' _ hc2 (r3.elem Try.underlying24 (List.mem_map.2 ⟨_, List.getElem_mem _, rfl⟩))
          refine ⟨(cs', v), hl5, ⟨?_, fun j u hu => ?_⟩, hv⟩
          · have h0 := hcell 0 (by omega)
            have := World.block_lt_of_cell? W ((a.add (i * 5)).add 0) (by rw [h0, List.getElem?_eq_getElem (by omega)])
            rw [block_add, block_add] at this
            exact this
          · have hj : j < 5 := by
              have h5 : j < cs'.length := (List.getElem?_eq_some_iff.1 hu).1
              omega
            rw [hcell j hj]
            exact hu
        haveI : Inhabited (List Value × Vl) := ⟨([], .mk 0 0 ⟨#[]⟩ [] [])⟩
        obtain ⟨f, hf⟩ := Go.Deep.choose_lt hall
        refine ⟨(List.range len).map (fun i => (f i).2), some a, cap, fun i => (f i).1, by simpa using hcs, (fun e => by cases e), by simpa using hlc, ?_, ?_, ?_, ?_⟩
        · have h := r3.slice Try.underlying24
          rw [show Try.prog.bytesOf 51 = 80 by kernel_rfl] at h
          have hs := (hsp rfl).1
          unfold reachBytes at h
          simp at h
          omega
        · intro b hb i hi
          cases hb
          exact (hf i (by simpa using hi)).2.1
        · intro i hi
          exact (hf i (by simpa using hi)).1
        · intro i x hx
          have hi : i < len := by
            have := (List.getElem?_eq_some_iff.1 hx).1
            simpa using this
          rw [List.getElem?_map, List.getElem?_range hi] at hx
          simp only [Option.map_some, Option.some.injEq] at hx
          subst hx
          exact (hf i hi).2.2
    subst hc3
    subst hc4
    exact ⟨.mk k m s l ks, IsP.of ⟨bounds_i64 w0, bounds_i64 w1, r2, nl, nk, ll, lk, Nat.le_trans ll bl, Nat.le_trans lk bc, bq, hl, hv, hk, bt⟩ el⟩
end
end Go.Proofs.Ytfdnhpmldnmncaa

namespace Go.Proofs.Ytfdnhpmldnmncaa
open Go.ChangeShapes Go.WideShapes Go.ChangeAt Go.RowKit

theorem cells3m : Try.prog.cellsOf 28 = 3 := by kernel_rfl
theorem cells4f : Try.prog.cellsOf 53 = 4 := by kernel_rfl
theorem cells2x : Try.prog.cellsOf 55 = 2 := by kernel_rfl
theorem cells1f : Try.prog.cellsOf 25 = 1 := by kernel_rfl
theorem cells1x : Try.prog.cellsOf 26 = 1 := by kernel_rfl

section
variable {H : Type} {enc : TypeId × Value → H} {W : World}

set_option maxRecDepth 100000 in
theorem open_vals {fuel : Nat} {c3 : Value} {x : DataW H × List MemPlace} (h3 : DataW.trod enc Try.prog W 0 (fun _ => true) true fuel 24 [c3] = some x) (r3 : Go.Proofs.Ytfdnhpmldnmncaa.Reach Try.prog 24 x.1) :
    ∃ (l : List Vl) (al : Option Addr) (cl : Nat), c3 = .slice al l.length cl ∧ IsC W (fun b => b < W.heap.size) l al cl := by
  rcases DataW.trod_slice Try.underlying24 h3 with ⟨hcs, _⟩ | ⟨a, len, cap, elems, rest, n', hn', hcs, hx3, _, hlc, hcm, hlen, hel, hsp, _⟩
  · simp only [List.cons.injEq, and_true] at hcs
    exact ⟨[], none, 0, hcs, IsP.of (V := fun _ => []) ⟨by omega, by omega, by decide, fun _ => ⟨rfl, rfl⟩, fun _ => ⟨rfl, rfl⟩, Nat.le_refl _, Nat.le_refl _, by simp, by simp, by simp, (fun a h => by cases h), (fun i h => by simp at h), (fun a h => by cases h), (fun t h => by cases h)⟩ (fun i y h => by simp at h)⟩
  · simp only [List.cons.injEq, and_true] at hcs
    rw [hx3] at r3
    rw [cells5v] at hel
    have hall : ∀ i, i < len → ∃ p : List Value × Vl, p.1.length = 5 ∧ (a.block < W.heap.size ∧ ∀ j v, p.1[j]? = some v → W.cell? ((a.add (i * 5)).add j) = some v) ∧ IsV W W.heap.size p.2 (.agg p.1.toArray) := by
      intro i hi
      have he := hel i hi
      rw [List.getElem?_eq_getElem (by omega)] at he
      obtain ⟨cs', hc1, hc2⟩ := Option.bind_eq_some_iff.1 he
      obtain ⟨_, hl5, hcell⟩ := World.cells?_some hc1
      obtain ⟨v, hv⟩ := open_value n' cs' _ hc2 (r3.elem Try.underlying24 (List.mem_map.2 ⟨_, List.getElem_mem _, rfl⟩))
      refine ⟨(cs', v), hl5, ⟨?_, fun j u hu => ?_⟩, hv⟩
      · have h0 := hcell 0 (by omega)
        have := World.block_lt_of_cell? W ((a.add (i * 5)).add 0) (by rw [h0, List.getElem?_eq_getElem (by omega)])
        rw [block_add, block_add] at this
        exact this
      · have hj : j < 5 := by
          have h5 : j < cs'.length := (List.getElem?_eq_some_iff.1 hu).1
          omega
        rw [hcell j hj]
        exact hu
    haveI : Inhabited (List Value × Vl) := ⟨([], .mk 0 0 ⟨#[]⟩ [] [])⟩
    obtain ⟨f, hf⟩ := Go.Deep.choose_lt hall
    have hl : ((List.range len).map (fun i => (f i).2)).length = len := by simp
    have hb := r3.slice Try.underlying24
    rw [show Try.prog.bytesOf 51 = 80 by kernel_rfl] at hb
    have hs := (hsp rfl).1
    unfold reachBytes at hb
    simp at hb
    refine ⟨(List.range len).map (fun i => (f i).2), some a, cap, by rw [hl]; exact hcs, IsP.of (V := fun i => (f i).1) ⟨by omega, by omega, by decide, (fun e => by cases e), fun _ => ⟨rfl, rfl⟩, by rw [hl]; exact hlc, Nat.le_refl _, by rw [hl]; omega, by simp, by simp, ?_, ?_, (fun a h => by cases h), (fun t h => by cases h)⟩ ?_⟩
    · intro b hb i hi
      cases hb
      exact (hf i (by simpa using hi)).2.1
    · intro i hi
      exact (hf i (by simpa using hi)).1
    · intro i x hx
      have hi : i < len := by
        have := (List.getElem?_eq_some_iff.1 hx).1
        simpa using this
      rw [List.getElem?_map, List.getElem?_range hi] at hx
      simp only [Option.map_some, Option.some.injEq] at hx
      subst hx
      exact (hf i hi).2.2

set_option maxRecDepth 100000 in
theorem open_func {fuel : Nat} {cs : List Value} {x : DataW H × List MemPlace} (h : DataW.trod enc Try.prog W 0 (fun _ => true) true fuel 53 cs = some x) (hre : Go.Proofs.Ytfdnhpmldnmncaa.Reach Try.prog 53 x.1) :
    ∃ f : Fn, cs = fnV f ∧ f.2.2.2.size ≤ 140737488351232 := by
  obtain ⟨xs, n, rfl, hx, hl, hlen, hf⟩ := DataW.trod_struct Try.underlying53 h
  rw [cells4f] at hl
  have hlen' : xs.length = 4 := hlen
  match cs, hl, xs, hlen', hx, hf with
  | [c0, c1, c2, c3], _, [y0, y1, y2, y3], _, hx, hf =>
    have h0 : DataW.trod enc Try.prog W 0 (fun _ => true) true n 3 (([c0, c1, c2, c3].drop 0).take (Try.prog.cellsOf 3)) = some y0 := hf 0 _ rfl
    rw [cells1i] at h0
    have h1 : DataW.trod enc Try.prog W 0 (fun _ => true) true n 3 (([c0, c1, c2, c3].drop 1).take (Try.prog.cellsOf 3)) = some y1 := hf 1 _ rfl
    rw [cells1i] at h1
    have h2 : DataW.trod enc Try.prog W 0 (fun _ => true) true n 3 (([c0, c1, c2, c3].drop 2).take (Try.prog.cellsOf 3)) = some y2 := hf 2 _ rfl
    rw [cells1i] at h2
    have h3 : DataW.trod enc Try.prog W 0 (fun _ => true) true n 9 (([c0, c1, c2, c3].drop 3).take (Try.prog.cellsOf 9)) = some y3 := hf 3 _ rfl
    rw [cells1s] at h3
    have hx' : x.1 = .agg [y0.1, y1.1, y2.1, y3.1] := by rw [hx]; rfl
    rw [hx'] at hre
    obtain ⟨p, e0, _, _⟩ := DataW.trod_int Try.underlying3 h0
    obtain ⟨l, e1, _, _⟩ := DataW.trod_int Try.underlying3 h1
    obtain ⟨k, e2, _, _⟩ := DataW.trod_int Try.underlying3 h2
    obtain ⟨s, e3, hy3, _⟩ := DataW.trod_string Try.underlying9 h3
    simp only [List.drop_zero, List.drop_succ_cons, List.take_succ_cons, List.take_zero, List.cons.injEq, and_true] at e0 e1 e2 e3
    have r3 : s.size ≤ 140737488351232 := by
      have := hre.field (j := 3) (u := 9) (d := y3.1) Try.underlying53 rfl rfl
      rw [hy3] at this
      exact reach_size this
    exact ⟨(p, l, k, s), by rw [e0, e1, e2, e3]; rfl, r3⟩

set_option maxRecDepth 100000 in
theorem open_exp {fuel : Nat} {cs : List Value} {x : DataW H × List MemPlace} (h : DataW.trod enc Try.prog W 0 (fun _ => true) true fuel 55 cs = some x) (hre : Go.Proofs.Ytfdnhpmldnmncaa.Reach Try.prog 55 x.1) :
    ∃ f : Ex, cs = exV f ∧ f.1.size ≤ 140737488351232 := by
  obtain ⟨xs, n, rfl, hx, hl, hlen, hf⟩ := DataW.trod_struct Try.underlying55 h
  rw [cells2x] at hl
  have hlen' : xs.length = 2 := hlen
  match cs, hl, xs, hlen', hx, hf with
  | [c0, c1], _, [y0, y1], _, hx, hf =>
    have h0 : DataW.trod enc Try.prog W 0 (fun _ => true) true n 9 (([c0, c1].drop 0).take (Try.prog.cellsOf 9)) = some y0 := hf 0 _ rfl
    rw [cells1s] at h0
    have h1 : DataW.trod enc Try.prog W 0 (fun _ => true) true n 3 (([c0, c1].drop 1).take (Try.prog.cellsOf 3)) = some y1 := hf 1 _ rfl
    rw [cells1i] at h1
    have hx' : x.1 = .agg [y0.1, y1.1] := by rw [hx]; rfl
    rw [hx'] at hre
    obtain ⟨s, e0, hy0, _⟩ := DataW.trod_string Try.underlying9 h0
    obtain ⟨p, e1, _, _⟩ := DataW.trod_int Try.underlying3 h1
    simp only [List.drop_zero, List.drop_succ_cons, List.take_succ_cons, List.take_zero, List.cons.injEq, and_true] at e0 e1
    have r0 : s.size ≤ 140737488351232 := by
      have := hre.field (j := 0) (u := 9) (d := y0.1) Try.underlying55 rfl rfl
      rw [hy0] at this
      exact reach_size this
    exact ⟨(s, p), by rw [e0, e1]; rfl, r0⟩

/-- rows of k cells among the arguments -/
theorem open_rows {α : Type} [Inhabited α] (f : α → List Value) (k : Nat) (hk0 : 0 < k) (hk : ∀ x, (f x).length = k) (Pb : α → Prop) {len cap : Nat} {a : Addr} (hlc : len ≤ cap) (hb : len ≤ 140737488351232)
    (hall : ∀ i, i < len → ∃ (cs : List Value) (x : α), W.cells? 0 (a.add (i * k)) k = some cs ∧ cs = f x ∧ Pb x) :
    ∃ l : List α, l.length = len ∧ IsT W (fun b => b < W.heap.size) k (l.map f) (some a) cap ∧ ∀ x ∈ l, Pb x := by
  have hall' : ∀ i, i < len → ∃ x : α, W.cells? 0 (a.add (i * k)) k = some (f x) ∧ Pb x := fun i hi => by
    obtain ⟨cs, x, h1, rfl, h3⟩ := hall i hi
    exact ⟨x, h1, h3⟩
  obtain ⟨g, hg⟩ := Go.Deep.choose_lt hall'
  refine ⟨(List.range len).map g, by simp, ⟨(fun e => by cases e), by simpa using hlc, by simpa using hb, ?_⟩, ?_⟩
  · intro b hb i r hr
    cases hb
    have hi : i < len := by
      have := (List.getElem?_eq_some_iff.1 hr).1
      simpa using this
    rw [List.map_map, List.getElem?_map, List.getElem?_range hi] at hr
    simp only [Option.map_some, Option.some.injEq, Function.comp_def] at hr
    subst hr
    obtain ⟨_, hl5, hcell⟩ := World.cells?_some (hg i hi).1
    refine ⟨?_, fun j u hu => ?_⟩
    · have h0 := hcell 0 (by have := hk (g i); omega)
      have := World.block_lt_of_cell? W ((a.add (i * k)).add 0) (by rw [h0, List.getElem?_eq_getElem (by have := hk (g i); omega)])
      rw [block_add, block_add] at this
      exact this
    · have hj : j < k := by
        have h5 := (List.getElem?_eq_some_iff.1 hu).1
        rw [hk] at h5
        exact h5
      rw [hcell j hj]
      exact hu
  · intro x hx
    obtain ⟨i, hi, rfl⟩ := List.mem_map.1 hx
    exact (hg i (List.mem_range.1 hi)).2

set_option maxRecDepth 100000 in
theorem open_funcs {fuel : Nat} {c3 : Value} {x : DataW H × List MemPlace} (h3 : DataW.trod enc Try.prog W 0 (fun _ => true) true fuel 25 [c3] = some x) (r3 : Go.Proofs.Ytfdnhpmldnmncaa.Reach Try.prog 25 x.1) :
    ∃ (l : List Fn) (al : Option Addr) (cl : Nat), c3 = .slice al l.length cl ∧ IsT W (fun b => b < W.heap.size) 4 (l.map fnV) al cl ∧ ∀ f ∈ l, f.2.2.2.size ≤ 140737488351232 := by
  rcases DataW.trod_slice Try.underlying25 h3 with ⟨hcs, _⟩ | ⟨a, len, cap, elems, rest, n', hn', hcs, hx3, _, hlc, hcm, hlen, hel, hsp, _⟩
  · simp only [List.cons.injEq, and_true] at hcs
    exact ⟨[], none, 0, hcs, ⟨fun _ => ⟨rfl, rfl⟩, Nat.le_refl _, by simp, (fun a h => by cases h)⟩, fun f h => by cases h⟩
  · simp only [List.cons.injEq, and_true] at hcs
    rw [hx3] at r3
    rw [cells4f] at hel
    have hb := r3.slice Try.underlying25
    rw [show Try.prog.bytesOf 53 = 40 by kernel_rfl] at hb
    have hs := (hsp rfl).1
    unfold reachBytes at hb
    simp at hb
    haveI : Inhabited Fn := ⟨(0, 0, 0, ⟨#[]⟩)⟩
    obtain ⟨l, hl, hT, hP⟩ := open_rows (W := W) fnV 4 (by omega) (fun _ => rfl) (fun f => f.2.2.2.size ≤ 140737488351232) (a := a) hlc (by omega) (fun i hi => by
      have he := hel i hi
      rw [List.getElem?_eq_getElem (by omega)] at he
      obtain ⟨cs', hc1, hc2⟩ := Option.bind_eq_some_iff.1 he
      obtain ⟨f, hf, hs⟩ := open_func hc2 (r3.elem Try.underlying25 (List.mem_map.2 ⟨_, List.getElem_mem _, rfl⟩))
      exact ⟨cs', f, hc1, hf, hs⟩)
    exact ⟨l, some a, cap, by rw [hl]; exact hcs, hT, hP⟩

set_option maxRecDepth 100000 in
theorem open_exps {fuel : Nat} {c3 : Value} {x : DataW H × List MemPlace} (h3 : DataW.trod enc Try.prog W 0 (fun _ => true) true fuel 26 [c3] = some x) (r3 : Go.Proofs.Ytfdnhpmldnmncaa.Reach Try.prog 26 x.1) :
    ∃ (l : List Ex) (al : Option Addr) (cl : Nat), c3 = .slice al l.length cl ∧ IsT W (fun b => b < W.heap.size) 2 (l.map exV) al cl ∧ ∀ f ∈ l, f.1.size ≤ 140737488351232 := by
  rcases DataW.trod_slice Try.underlying26 h3 with ⟨hcs, _⟩ | ⟨a, len, cap, elems, rest, n', hn', hcs, hx3, _, hlc, hcm, hlen, hel, hsp, _⟩
  · simp only [List.cons.injEq, and_true] at hcs
    exact ⟨[], none, 0, hcs, ⟨fun _ => ⟨rfl, rfl⟩, Nat.le_refl _, by simp, (fun a h => by cases h)⟩, fun f h => by cases h⟩
  · simp only [List.cons.injEq, and_true] at hcs
    rw [hx3] at r3
    rw [cells2x] at hel
    have hb := r3.slice Try.underlying26
    rw [show Try.prog.bytesOf 55 = 24 by kernel_rfl] at hb
    have hs := (hsp rfl).1
    unfold reachBytes at hb
    simp at hb
    haveI : Inhabited Ex := ⟨(⟨#[]⟩, 0)⟩
    obtain ⟨l, hl, hT, hP⟩ := open_rows (W := W) exV 2 (by omega) (fun _ => rfl) (fun f => f.1.size ≤ 140737488351232) (a := a) hlc (by omega) (fun i hi => by
      have he := hel i hi
      rw [List.getElem?_eq_getElem (by omega)] at he
      obtain ⟨cs', hc1, hc2⟩ := Option.bind_eq_some_iff.1 he
      obtain ⟨f, hf, hs⟩ := open_exp hc2 (r3.elem Try.underlying26 (List.mem_map.2 ⟨_, List.getElem_mem _, rfl⟩))
      exact ⟨cs', f, hc1, hf, hs⟩)
    exact ⟨l, some a, cap, by rw [hl]; exact hcs, hT, hP⟩

set_option maxRecDepth 100000 in
theorem open_module {fuel : Nat} {cs : List Value} {x : DataW H × List MemPlace} (h : DataW.trod enc Try.prog W 0 (fun _ => true) true fuel 28 cs = some x) (hre : Go.Proofs.Ytfdnhpmldnmncaa.Reach Try.prog 28 x.1) :
    ∃ (m : Md) (a1 a2 a3 : Option Addr) (c1 c2 c3 : Nat), cs = [.slice a1 m.cs.length c1, .slice a2 m.fs.length c2, .slice a3 m.xs.length c3] ∧ IsM W (fun b => b < W.heap.size) m a1 c1 a2 c2 a3 c3 := by
  obtain ⟨xs, n, rfl, hx, hl, hlen, hf⟩ := DataW.trod_struct Try.underlying28 h
  rw [cells3m] at hl
  have hlen' : xs.length = 3 := hlen
  match cs, hl, xs, hlen', hx, hf with
  | [v0, v1, v2], _, [y0, y1, y2], _, hx, hf =>
    have h0 : DataW.trod enc Try.prog W 0 (fun _ => true) true n 24 (([v0, v1, v2].drop 0).take (Try.prog.cellsOf 24)) = some y0 := hf 0 _ rfl
    rw [cells1l] at h0
    have h1 : DataW.trod enc Try.prog W 0 (fun _ => true) true n 25 (([v0, v1, v2].drop 1).take (Try.prog.cellsOf 25)) = some y1 := hf 1 _ rfl
    rw [cells1f] at h1
    have h2 : DataW.trod enc Try.prog W 0 (fun _ => true) true n 26 (([v0, v1, v2].drop 2).take (Try.prog.cellsOf 26)) = some y2 := hf 2 _ rfl
    rw [cells1x] at h2
    have hx' : x.1 = .agg [y0.1, y1.1, y2.1] := by rw [hx]; rfl
    rw [hx'] at hre
    obtain ⟨l1, a1, c1, e1, i1⟩ := open_vals h0 (hre.field (j := 0) (u := 24) (d := y0.1) Try.underlying28 rfl rfl)
    obtain ⟨l2, a2, c2, e2, i2, b2⟩ := open_funcs h1 (hre.field (j := 1) (u := 25) (d := y1.1) Try.underlying28 rfl rfl)
    obtain ⟨l3, a3, c3, e3, i3, b3⟩ := open_exps h2 (hre.field (j := 2) (u := 26) (d := y2.1) Try.underlying28 rfl rfl)
    exact ⟨⟨l1, l2, l3⟩, a1, a2, a3, c1, c2, c3, by rw [e1, e2, e3], ⟨i1, i2, i3, b2, b3⟩⟩

set_option maxRecDepth 100000 in
theorem arg_module {base : Nat} {v : Value} {d : DataW H} {p : List MemPlace} (hv : Value.okWide Try.prog W .any base 28 v) (h : DataW.Trod enc Try.prog W 0 (fun _ => true) true 28 v d p) (hre : Go.Proofs.Ytfdnhpmldnmncaa.Reach Try.prog 28 d) :
    ∃ (m : Md) (a1 a2 a3 : Option Addr) (c1 c2 c3 : Nat), v = .agg #[.slice a1 m.cs.length c1, .slice a2 m.fs.length c2, .slice a3 m.xs.length c3] ∧ IsM W (fun b => b < W.heap.size) m a1 c1 a2 c2 a3 c3 := by
  obtain ⟨cs, rfl⟩ : ∃ cs : Array Value, v = .agg cs := by
    simp only [Value.okWide, Try.underlying28] at hv
    obtain ⟨cs, h1, _⟩ := hv
    exact ⟨cs, h1⟩
  obtain ⟨fuel, hf⟩ := h
  obtain ⟨m, a1, a2, a3, c1, c2, c3, e, hm⟩ := open_module hf hre
  refine ⟨m, a1, a2, a3, c1, c2, c3, ?_, hm⟩
  have e' : cs.toList = [.slice a1 m.cs.length c1, .slice a2 m.fs.length c2, .slice a3 m.xs.length c3] := by simpa [Value.cells] using e
  rw [show cs = cs.toList.toArray by simp, e']
end
end Go.Proofs.Ytfdnhpmldnmncaa

namespace Go.Proofs.Ytfdnhpmldnmncaa
open Go.ChangeShapes Go.WideShapes Go.ChangeAt Go.RowKit

theorem cells5 : Try.prog.cellsOf 5 = 1 := by kernel_rfl

theorem open_row8 {H : Type} {enc : TypeId × Value → H} {W : World} {a0 : Option Addr} {len cap : Nat} {d0 : DataW H} {p0 : List MemPlace} (h0 : DataW.Trod enc Try.prog W 0 (fun _ => true) true 22 (.slice a0 len cap) d0 p0) :
    ∃ zs, Row8 W a0 len cap zs ∧ cap ≤ maxLen ∧ (cap = 0 ∨ ∃ elems spare, d0 = .slice elems spare ∧ elems.length + spare.length = cap) := by
  obtain ⟨fuel, hf⟩ := h0
  rcases open_ints Try.underlying22 Try.underlying5 cells5 hf with ⟨hcs, _⟩ | ⟨x, l, c, zs, hcs, _, hl, hm, hz, hx, hcell, hwz⟩
  · simp [Value.cells] at hcs
    obtain ⟨rfl, rfl, rfl⟩ := hcs
    exact ⟨[], ⟨rfl, fun _ => ⟨rfl, rfl⟩, (fun ad h => by cases h), (fun n h => by cases h), Nat.le_refl _⟩, Nat.zero_le _, Or.inl rfl⟩
  · simp [Value.cells] at hcs
    obtain ⟨rfl, rfl, rfl⟩ := hcs
    simp only [if_true] at hz
    refine ⟨zs.take len, ⟨by simp; omega, (fun e => by cases e), ?_, ?_, hl⟩, hm, Or.inr ?_⟩
    · intro ad ha j u hj
      cases ha
      have hjl : j < (zs.take len).length := by
        have := (List.getElem?_eq_some_iff.1 hj).1
        simpa using this
      simp only [List.length_take] at hjl
      rw [hcell j (by omega)]
      rw [List.getElem?_map, List.getElem?_take_of_lt (by omega), List.getElem?_eq_getElem (by omega)] at hj
      rw [← hj]
      simp [List.getD, (by omega : j < zs.length)]
    · intro n hn
      exact bounds_u8 (hwz n (List.mem_of_mem_take hn))
    · simp only [Prod.mk.injEq] at hx
      exact ⟨_, _, hx.1, by simp [lits]; omega⟩
end Go.Proofs.Ytfdnhpmldnmncaa
