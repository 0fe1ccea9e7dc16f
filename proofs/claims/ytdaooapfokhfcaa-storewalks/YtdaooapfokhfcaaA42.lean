/-
  What the form's own reach says of what lies within an argument: elements of slices, fields of structs; no conditions.
  How a value among the arguments is opened: a tree of values that lies in memory; no conditions.
  How a row of Ops among the arguments is opened; no conditions.
  How a row of entries among the arguments is opened; no conditions.
-/
import Derived.Test.YtdaooapfokhfcaaChecked
import Derived.SizedLaws
import Derived.Deep.Strs
import Derived.Test.YtdaooapfokhfcaaA00
import Derived.ProofKit
import Derived.OpenShut
import Derived.Test.YtdaooapfokhfcaaA35
import Derived.Test.YtdaooapfokhfcaaA37
namespace Go.Proofs.Ytdaooapfokhfcaa
open Go

theorem weightsAll_mem {H : Type} {P : Program} {e : TypeId} : ∀ {ds : List (DataW H)} {d : DataW H}, d ∈ ds → ∀ n ∈ d.weights P e, n ∈ DataW.weightsAll P e ds
  | d0 :: ds, d, hd, n, hn => by
    simp only [DataW.weightsAll, List.mem_append]
    rcases List.mem_cons.1 hd with rfl | hd
    · exact Or.inl hn
    · exact Or.inr (weightsAll_mem hd n hn)

/-- within reach -/
def Reach {H : Type} (P : Program) (t : TypeId) (d : DataW H) : Prop := ∀ n ∈ d.weights P t, n ≤ reachBytes

theorem reach_arg {H : Type} {P : Program} {ts : List TypeId} {ds : List (DataW H)} (h : (DataW.weightsEach P ts ds).all (· ≤ reachBytes) = true) {j : Nat} {t : TypeId} {d : DataW H} (ht : ts[j]? = some t) (hd : ds[j]? = some d) : Reach P t d := fun n hn => by
  have := List.all_eq_true.1 h _ (DataW.weights_mem_each ht hd n hn)
  simpa using this

theorem Reach.slice {H : Type} {P : Program} {t e : TypeId} {elems spare : List (DataW H)} (h : Reach P t (.slice elems spare)) (hu : P.underlying t = some (.slice e)) : (elems.length + spare.length) * P.bytesOf e ≤ reachBytes :=
  h _ (by simp [DataW.weights, hu])

theorem Reach.elem {H : Type} {P : Program} {t e : TypeId} {elems spare : List (DataW H)} (h : Reach P t (.slice elems spare)) (hu : P.underlying t = some (.slice e)) {d : DataW H} (hd : d ∈ elems) : Reach P e d := fun n hn =>
  h n (by
    simp only [DataW.weights, hu, List.mem_cons, List.mem_append]
    exact Or.inr (Or.inl (weightsAll_mem hd n hn)))

theorem Reach.string {H : Type} {P : Program} {t : TypeId} {bytes : List UInt8} (h : Reach (H := H) P t (.lit (.string bytes))) : bytes.length ≤ reachBytes :=
  h _ (by simp [DataW.weights])

theorem Reach.field {H : Type} {P : Program} {t : TypeId} {fs : Array Field} {parts : List (DataW H)} (h : Reach P t (.agg parts)) (hu : P.underlying t = some (.struct fs)) {j : Nat} {u : TypeId} {d : DataW H} (ht : (fs.toList.map (·.type))[j]? = some u) (hd : parts[j]? = some d) : Reach P u d := fun n hn =>
  h n (by
    simp only [DataW.weights, hu]
    exact DataW.weights_mem_each ht hd n hn)

theorem reach_size {H : Type} {P : Program} {t : TypeId} {s : ByteArray} (h : Reach (H := H) P t (.lit (.string s.data.toList))) : s.size ≤ 140737488351232 := by
  have := h.string
  unfold reachBytes at this
  simpa using this
end Go.Proofs.Ytdaooapfokhfcaa

namespace Go.Proofs.Ytdaooapfokhfcaa
open Go.ChangeShapes Go.WideShapes Go.ChangeAt Go.RowKit

theorem cells1i : Try.prog.cellsOf 3 = 1 := by kernel_rfl
theorem cells1j : Try.prog.cellsOf 2 = 1 := by kernel_rfl
theorem cells1s : Try.prog.cellsOf 9 = 1 := by kernel_rfl
theorem cells1l : Try.prog.cellsOf 27 = 1 := by kernel_rfl
theorem cells1k : Try.prog.cellsOf 28 = 1 := by kernel_rfl
theorem cells5v : Try.prog.cellsOf 30 = 5 := by kernel_rfl

section
variable {H : Type} {enc : TypeId × Value → H} {W : World}

set_option maxRecDepth 100000 in
theorem open_fields {fuel : Nat} {cs : List Value} {x : DataW H × List MemPlace} (h : DataW.trod enc Try.prog W 0 (fun _ => true) true fuel 30 cs = some x) :
    ∃ (n : Nat) (c0 c1 c2 c3 c4 : Value) (y0 y1 y2 y3 y4 : DataW H × List MemPlace), fuel = n + 1 ∧ cs = [c0, c1, c2, c3, c4] ∧ x.1 = .agg [y0.1, y1.1, y2.1, y3.1, y4.1] ∧
      DataW.trod enc Try.prog W 0 (fun _ => true) true n 3 [c0] = some y0 ∧ DataW.trod enc Try.prog W 0 (fun _ => true) true n 2 [c1] = some y1 ∧ DataW.trod enc Try.prog W 0 (fun _ => true) true n 9 [c2] = some y2 ∧
      DataW.trod enc Try.prog W 0 (fun _ => true) true n 27 [c3] = some y3 ∧ DataW.trod enc Try.prog W 0 (fun _ => true) true n 28 [c4] = some y4 := by
  obtain ⟨xs, n, rfl, rfl, hl, hlen, hf⟩ := DataW.trod_struct Try.underlying30 h
  rw [cells5v] at hl
  have hlen' : xs.length = 5 := hlen
  match cs, hl, xs, hlen' with
  | [c0, c1, c2, c3, c4], _, [y0, y1, y2, y3, y4], _ =>
    have h0 : DataW.trod enc Try.prog W 0 (fun _ => true) true n 3 (([c0, c1, c2, c3, c4].drop 0).take (Try.prog.cellsOf 3)) = some y0 := hf 0 _ rfl
    rw [cells1i] at h0
    have h1 : DataW.trod enc Try.prog W 0 (fun _ => true) true n 2 (([c0, c1, c2, c3, c4].drop 1).take (Try.prog.cellsOf 2)) = some y1 := hf 1 _ rfl
    rw [cells1j] at h1
    have h2 : DataW.trod enc Try.prog W 0 (fun _ => true) true n 9 (([c0, c1, c2, c3, c4].drop 2).take (Try.prog.cellsOf 9)) = some y2 := hf 2 _ rfl
    rw [cells1s] at h2
    have h3 : DataW.trod enc Try.prog W 0 (fun _ => true) true n 27 (([c0, c1, c2, c3, c4].drop 3).take (Try.prog.cellsOf 27)) = some y3 := hf 3 _ rfl
    rw [cells1l] at h3
    have h4 : DataW.trod enc Try.prog W 0 (fun _ => true) true n 28 (([c0, c1, c2, c3, c4].drop 4).take (Try.prog.cellsOf 28)) = some y4 := hf 4 _ rfl
    rw [cells1k] at h4
    exact ⟨n, c0, c1, c2, c3, c4, y0, y1, y2, y3, y4, rfl, rfl, rfl, h0, h1, h2, h3, h4⟩

set_option maxRecDepth 100000 in
theorem open_value : ∀ (fuel : Nat) (cs : List Value) (x : DataW H × List MemPlace), DataW.trod enc Try.prog W 0 (fun _ => true) true fuel 30 cs = some x → Go.Proofs.Ytdaooapfokhfcaa.Reach Try.prog 30 x.1 → ∃ v, IsV W W.heap.size v (.agg cs.toArray) := by
  intro fuel
  induction fuel using Nat.strongRecOn with
  | ind fuel ih =>
    intro cs x h hre
    obtain ⟨n, c0, c1, c2, c3, c4, y0, y1, y2, y3, y4, rfl, rfl, hx, h0, h1, h2, h3, h4⟩ := open_fields h
    rw [hx] at hre
    obtain ⟨k, e0, _, w0⟩ := DataW.trod_int Try.underlying3 h0
    obtain ⟨m, e1, _, w1⟩ := DataW.trod_int Try.underlying2 h1
    obtain ⟨s, e2, hy2, _⟩ := DataW.trod_string Try.underlying9 h2
    simp only [List.cons.injEq, and_true] at e0 e1 e2
    subst e0
    subst e1
    subst e2
    have r2 : s.size ≤ 140737488351232 := by
      have := hre.field (j := 2) (u := 9) (d := y2.1) Try.underlying30 rfl rfl
      rw [hy2] at this
      exact reach_size this
    have r3 := hre.field (j := 3) (u := 27) (d := y3.1) Try.underlying30 rfl rfl
    have r4 := hre.field (j := 4) (u := 28) (d := y4.1) Try.underlying30 rfl rfl
    obtain ⟨ks, ak, ck, hc4, nk, lk, ⟨bc, bq⟩, hk, bt⟩ : ∃ (ks : List ByteArray) (ak : Option Addr) (ck : Nat), c4 = .slice ak ks.length ck ∧ (ak = none → ks.length = 0 ∧ ck = 0) ∧ ks.length ≤ ck ∧ (ck ≤ 140737488351232 ∧ 16 * ks.length ≤ 140737488351232) ∧ (∀ a, ak = some a → ∀ i t, ks[i]? = some t → a.block < W.heap.size ∧ W.cell? (a.add i) = some (.string t)) ∧ ∀ t ∈ ks, t.size ≤ 140737488351232 := by
      rcases Go.Deep.open_strs Try.underlying28 Try.underlying9 cells1s h4 with ⟨hcs, _⟩ | ⟨a, l, c, m', Sx, hcs, _, hl, hm, hmm, hx4, hcell⟩
      · simp only [List.cons.injEq, and_true] at hcs
        exact ⟨[], none, 0, hcs, fun _ => ⟨rfl, rfl⟩, Nat.le_refl _, ⟨by omega, by simp⟩, (fun a h => by cases h), fun t h => by cases h⟩
      · simp only [List.cons.injEq, and_true] at hcs
        simp only [if_true] at hmm
        subst hmm
        rw [hx4] at r4
        refine ⟨(List.range l).map Sx, some a, m', by simpa using hcs, (fun e => by cases e), by simpa using hl, ?_, ?_, ?_⟩
        · have h := r4.slice Try.underlying28
          rw [show Try.prog.bytesOf 9 = 16 by kernel_rfl] at h
          unfold reachBytes at h
          simp at h
          refine ⟨by omega, ?_⟩
          rw [List.length_map, List.length_range]
          omega
        · intro b hb i t ht
          cases hb
          have hi : i < l := by
            have := (List.getElem?_eq_some_iff.1 ht).1
            simpa using this
          rw [List.getElem?_map, List.getElem?_range hi] at ht
          simp only [Option.map_some, Option.some.injEq] at ht
          subst ht
          have hc := (hcell i (by omega)).1
          refine ⟨?_, hc⟩
          have := World.block_lt_of_cell? _ _ (by rw [hc])
          rw [block_add] at this
          exact this
        · intro t ht
          obtain ⟨i, hi, rfl⟩ := List.mem_map.1 ht
          exact reach_size (r4.elem Try.underlying28 (List.mem_map.2 ⟨i, hi, rfl⟩))
    obtain ⟨l, al, cl, V, hc3, nl, ll, bl, hl, hv, el⟩ : ∃ (l : List Vl) (al : Option Addr) (cl : Nat) (V : Nat → List Value), c3 = .slice al l.length cl ∧ (al = none → l.length = 0 ∧ cl = 0) ∧ l.length ≤ cl ∧ cl ≤ 140737488351232 ∧
        (∀ a, al = some a → ∀ i, i < l.length → a.block < W.heap.size ∧ ∀ j v, (V i)[j]? = some v → W.cell? ((a.add (i * 5)).add j) = some v) ∧ (∀ i, i < l.length → (V i).length = 5) ∧ ∀ i x, l[i]? = some x → IsV W W.heap.size x (.agg (V i).toArray) := by
      rcases DataW.trod_slice Try.underlying27 h3 with ⟨hcs, _⟩ | ⟨a, len, cap, elems, rest, n', hn', hcs, hx3, _, hlc, hcm, hlen, hel, hsp, _⟩
      · simp only [List.cons.injEq, and_true] at hcs
        exact ⟨[], none, 0, fun _ => [], hcs, fun _ => ⟨rfl, rfl⟩, Nat.le_refl _, by omega, (fun a h => by cases h), (fun i h => absurd h (by simp)), fun i x h => by simp at h⟩
      · simp only [List.cons.injEq, and_true] at hcs
        rw [hx3] at r3
        rw [cells5v] at hel
        have hall : ∀ i, i < len → ∃ p : List Value × Vl, p.1.length = 5 ∧ (a.block < W.heap.size ∧ ∀ j v, p.1[j]? = some v → W.cell? ((a.add (i * 5)).add j) = some v) ∧ IsV W W.heap.size p.2 (.agg p.1.toArray) := by
          intro i hi
          have he := hel i hi
          rw [List.getElem?_eq_getElem (by omega)] at he
          obtain ⟨cs', hc1, hc2⟩ := Option.bind_eq_some_iff.1 he
          obtain ⟨_, hl5, hcell⟩ := World.cells?_some hc1
          obtain ⟨v, hv⟩ := ih n' (by omega) cs' _ hc2 (r3.elem Try.underlying27 (List.mem_map.2 ⟨_, List.getElem_mem _, rfl⟩))
          refine ⟨(cs', v), hl5, ⟨?_, fun j u hu => ?_⟩, hv⟩
          · have h0 := hcell 0 (by omega)
            have := World.block_lt_of_cell? W ((a.add (i * 5)).add 0) (by rw [h0, List.getElem?_eq_getElem (by omega)])
            rw [block_add, block_add] at this
            exact this
          · have hj : j < 5 := by
              have h5 : j < cs'.length := (List.getElem?_eq_some_iff.1 hu).1
              omega
            rw [hcell j hj]
            exact hu
        haveI : Inhabited (List Value × Vl) := ⟨([], .mk 0 0 ⟨#[]⟩ [] [])⟩
        obtain ⟨f, hf⟩ := Go.Deep.choose_lt hall
        refine ⟨(List.range len).map (fun i => (f i).2), some a, cap, fun i => (f i).1, by simpa using hcs, (fun e => by cases e), by simpa using hlc, ?_, ?_, ?_, ?_⟩
        · have h := r3.slice Try.underlying27
          rw [show Try.prog.bytesOf 30 = 80 by kernel_rfl] at h
          have hs := (hsp rfl).1
          unfold reachBytes at h
          simp at h
          omega
        · intro b hb i hi
          cases hb
          exact (hf i (by simpa using hi)).2.1
        · intro i hi
          exact (hf i (by simpa using hi)).1
        · intro i x hx
          have hi : i < len := by
            have := (List.getElem?_eq_some_iff.1 hx).1
            simpa using this
          rw [List.getElem?_map, List.getElem?_range hi] at hx
          simp only [Option.map_some, Option.some.injEq] at hx
          subst hx
          exact (hf i hi).2.2
    subst hc3
    subst hc4
    exact ⟨.mk k m s l ks, IsP.of ⟨bounds_i64 w0, bounds_i64 w1, r2, nl, nk, ll, lk, Nat.le_trans ll bl, Nat.le_trans lk bc, bq, hl, hv, hk, bt⟩ el⟩
end
end Go.Proofs.Ytdaooapfokhfcaa

namespace Go.Proofs.Ytdaooapfokhfcaa
open Go.ChangeShapes Go.WideShapes Go.ChangeAt Go.RowKit

theorem cells7o : Try.prog.cellsOf 33 = 7 := by kernel_rfl

/-- where a cell is, its address is plain -/
theorem plain_of {w : World} {a : Addr} {v : Value} (h : w.cell? a = some v) : a = ⟨a.block, a.off, none⟩ := by
  obtain ⟨b, o, s⟩ := a
  unfold World.cell? at h
  cases s with
  | none => rfl
  | some s =>
    exfalso
    revert h
    split
    · simp
    · simp

section
variable {H : Type} {enc : TypeId × Value → H} {W : World}

set_option maxRecDepth 100000 in
theorem open_op {fuel : Nat} {cs : List Value} {x : DataW H × List MemPlace} (h : DataW.trod enc Try.prog W 0 (fun _ => true) true fuel 33 cs = some x) (hre : Go.Proofs.Ytdaooapfokhfcaa.Reach Try.prog 33 x.1) :
    ∃ (k : Int) (s : ByteArray) (ds : List Value) (v : Vl), cs = .int .i64 k :: .string s :: ds ∧ ds.length = 5 ∧ (-9223372036854775808 ≤ k ∧ k ≤ 9223372036854775807) ∧ s.size ≤ 140737488351232 ∧ IsV W W.heap.size v (.agg ds.toArray) := by
  obtain ⟨xs, n, rfl, hx, hl, hlen, hf⟩ := DataW.trod_struct Try.underlying33 h
  rw [cells7o] at hl
  have hlen' : xs.length = 3 := hlen
  match cs, hl, xs, hlen', hx, hf with
  | [c0, c1, c2, c3, c4, c5, c6], _, [y0, y1, y2], _, hx, hf =>
    have h0 : DataW.trod enc Try.prog W 0 (fun _ => true) true n 3 (([c0, c1, c2, c3, c4, c5, c6].drop 0).take (Try.prog.cellsOf 3)) = some y0 := hf 0 _ rfl
    rw [cells1i] at h0
    have h1 : DataW.trod enc Try.prog W 0 (fun _ => true) true n 9 (([c0, c1, c2, c3, c4, c5, c6].drop 1).take (Try.prog.cellsOf 9)) = some y1 := hf 1 _ rfl
    rw [cells1s] at h1
    have h2 : DataW.trod enc Try.prog W 0 (fun _ => true) true n 30 (([c0, c1, c2, c3, c4, c5, c6].drop 2).take (Try.prog.cellsOf 30)) = some y2 := hf 2 _ rfl
    rw [cells5v] at h2
    have hx' : x.1 = .agg [y0.1, y1.1, y2.1] := by rw [hx]; rfl
    rw [hx'] at hre
    obtain ⟨k, e0, _, w0⟩ := DataW.trod_int Try.underlying3 h0
    obtain ⟨s, e1, hy1, _⟩ := DataW.trod_string Try.underlying9 h1
    simp only [List.drop_zero, List.drop_succ_cons, List.take_succ_cons, List.take_zero, List.cons.injEq, and_true] at e0 e1
    have r1 : s.size ≤ 140737488351232 := by
      have := hre.field (j := 1) (u := 9) (d := y1.1) Try.underlying33 rfl rfl
      rw [hy1] at this
      exact reach_size this
    have r2 := hre.field (j := 2) (u := 30) (d := y2.1) Try.underlying33 rfl rfl
    obtain ⟨v, hv⟩ := open_value n _ _ h2 r2
    exact ⟨k, s, [c2, c3, c4, c5, c6], v, by rw [e0, e1], rfl, bounds_i64 w0, r1, hv⟩

set_option maxRecDepth 100000 in
theorem open_ops {fuel : Nat} {c3 : Value} {x : DataW H × List MemPlace} (h3 : DataW.trod enc Try.prog W 0 (fun _ => true) true fuel 22 [c3] = some x) (r3 : Go.Proofs.Ytdaooapfokhfcaa.Reach Try.prog 22 x.1) :
    ∃ (os : List Opx) (al : Option Addr) (cl : Nat), c3 = .slice al os.length cl ∧ OpsF W W.heap.size al os.length os := by
  rcases DataW.trod_slice Try.underlying22 h3 with ⟨hcs, _⟩ | ⟨a, len, cap, elems, rest, n', hn', hcs, hx3, _, hlc, hcm, hlen, hel, hsp, _⟩
  · simp only [List.cons.injEq, and_true] at hcs
    exact ⟨[], none, 0, hcs, rfl, by simp, (fun i e h => by simp at h)⟩
  · simp only [List.cons.injEq, and_true] at hcs
    rw [hx3] at r3
    rw [cells7o] at hel
    have hall : ∀ i, i < len → ∃ o : Opx, ∃ b off x0 x1 x2 x3 x4 x5 x6 x7 x8, OpAt W W.heap.size (a.add (i * 7)) o b off x0 x1 x2 x3 x4 x5 x6 x7 x8 := by
      intro i hi
      have he := hel i hi
      rw [List.getElem?_eq_getElem (by omega)] at he
      obtain ⟨cs', hc1, hc2⟩ := Option.bind_eq_some_iff.1 he
      obtain ⟨_, hl6, hcell⟩ := World.cells?_some hc1
      obtain ⟨k, s, ds, v, hcs', hd5, hkb, hs, hv⟩ := open_op hc2 (r3.elem Try.underlying22 (List.mem_map.2 ⟨_, List.getElem_mem _, rfl⟩))
      obtain ⟨k', n', s', l', ks', al', ak', cl', ck', hy', hxx⟩ := hv.shape
      have hds : ds = [.int .i64 k', .int .i64 n', .string s', .slice al' l'.length cl', .slice ak' ks'.length ck'] := by
        have h1 := Value.agg.inj hxx
        have h2 := congrArg Array.toList h1
        simpa using h2
      subst hds
      subst hcs'
      have g0 := hcell 0 (by omega)
      have hz : (a.add (i * 7)).add 0 = a.add (i * 7) := rfl
      rw [hz] at g0
      replace g0 : W.cell? (a.add (i * 7)) = some (.int .i64 k) := g0
      have hp := plain_of g0
      have gj : ∀ j (v : Value), j < 7 → ([.int .i64 k, .string s, .int .i64 k', .int .i64 n', .string s', .slice al' l'.length cl', .slice ak' ks'.length ck'] : List Value)[j]? = some v → W.cell? ⟨(a.add (i * 7)).block, (a.add (i * 7)).off + j, none⟩ = some v := fun j v hj hv => by
        have := hcell j hj
        rw [hp] at this
        have e : (⟨(a.add (i * 7)).block, (a.add (i * 7)).off, none⟩ : Addr).add j = ⟨(a.add (i * 7)).block, (a.add (i * 7)).off + j, none⟩ := by
          have : ∀ (b o q : Nat), (⟨b, o, none⟩ : Addr).add q = ⟨b, o + q, none⟩ := fun b o q => by
            unfold Addr.add
            split
            · rename_i hq
              simp only [hq, Nat.add_zero]
            · rfl
          exact this _ _ _
        rw [e] at this
        rw [this]
        exact hv
      have g0' := gj 0 _ (by omega) rfl
      refine ⟨⟨k, s, v⟩, (a.add (i * 7)).block, (a.add (i * 7)).off, k', n', s', al', l'.length, cl', ak', ks'.length, ck', hp, World.block_lt_of_cell? _ _ (by rw [g0]), g0', gj 1 _ (by omega) rfl, gj 2 _ (by omega) rfl, gj 3 _ (by omega) rfl, gj 4 _ (by omega) rfl, gj 5 _ (by omega) rfl, gj 6 _ (by omega) rfl, hkb, hs, hv⟩
    haveI : Inhabited Opx := ⟨⟨0, ⟨#[]⟩, .mk 0 0 ⟨#[]⟩ [] []⟩⟩
    obtain ⟨f, hf⟩ := Go.Deep.choose_lt hall
    have hl : ((List.range len).map f).length = len := by simp
    have hb := r3.slice Try.underlying22
    rw [show Try.prog.bytesOf 33 = 104 by kernel_rfl] at hb
    have hs := (hsp rfl).1
    unfold reachBytes at hb
    simp at hb
    refine ⟨(List.range len).map f, some a, cap, by rw [hl]; exact hcs, rfl, by rw [hl]; omega, fun i o ho => ?_⟩
    have hi : i < len := by
      have := (List.getElem?_eq_some_iff.1 ho).1
      simpa using this
    rw [List.getElem?_map, List.getElem?_range hi] at ho
    simp only [Option.map_some, Option.some.injEq] at ho
    subst ho
    obtain ⟨b, off, x0, x1, x2, x3, x4, x5, x6, x7, x8, q⟩ := hf i hi
    exact ⟨a, b, off, x0, x1, x2, x3, x4, x5, x6, x7, x8, rfl, q⟩
end
end Go.Proofs.Ytdaooapfokhfcaa

namespace Go.Proofs.Ytdaooapfokhfcaa
open Go.ChangeShapes Go.WideShapes Go.ChangeAt Go.RowKit

theorem cells6e : Try.prog.cellsOf 49 = 6 := by kernel_rfl

section
variable {H : Type} {enc : TypeId × Value → H} {W : World}

set_option maxRecDepth 100000 in
theorem open_entry {fuel : Nat} {cs : List Value} {x : DataW H × List MemPlace} (h : DataW.trod enc Try.prog W 0 (fun _ => true) true fuel 49 cs = some x) (hre : Go.Proofs.Ytdaooapfokhfcaa.Reach Try.prog 49 x.1) :
    ∃ (s : ByteArray) (ds : List Value) (v : Vl), cs = .string s :: ds ∧ ds.length = 5 ∧ s.size ≤ 140737488351232 ∧ IsV W W.heap.size v (.agg ds.toArray) := by
  obtain ⟨xs, n, rfl, hx, hl, hlen, hf⟩ := DataW.trod_struct Try.underlying49 h
  rw [cells6e] at hl
  have hlen' : xs.length = 2 := hlen
  match cs, hl, xs, hlen', hx, hf with
  | [c0, c1, c2, c3, c4, c5], _, [y0, y1], _, hx, hf =>
    have h0 : DataW.trod enc Try.prog W 0 (fun _ => true) true n 9 (([c0, c1, c2, c3, c4, c5].drop 0).take (Try.prog.cellsOf 9)) = some y0 := hf 0 _ rfl
    rw [cells1s] at h0
    have h1 : DataW.trod enc Try.prog W 0 (fun _ => true) true n 30 (([c0, c1, c2, c3, c4, c5].drop 1).take (Try.prog.cellsOf 30)) = some y1 := hf 1 _ rfl
    rw [cells5v] at h1
    have hx' : x.1 = .agg [y0.1, y1.1] := by rw [hx]; rfl
    rw [hx'] at hre
    obtain ⟨s, e0, hy0, _⟩ := DataW.trod_string Try.underlying9 h0
    simp only [List.drop_zero, List.take_succ_cons, List.take_zero, List.cons.injEq, and_true] at e0
    have r0 : s.size ≤ 140737488351232 := by
      have := hre.field (j := 0) (u := 9) (d := y0.1) Try.underlying49 rfl rfl
      rw [hy0] at this
      exact reach_size this
    have r1 := hre.field (j := 1) (u := 30) (d := y1.1) Try.underlying49 rfl rfl
    obtain ⟨v, hv⟩ := open_value n _ _ h1 r1
    exact ⟨s, [c1, c2, c3, c4, c5], v, by rw [e0], rfl, r0, hv⟩

set_option maxRecDepth 100000 in
theorem open_entries {fuel : Nat} {c3 : Value} {x : DataW H × List MemPlace} (h3 : DataW.trod enc Try.prog W 0 (fun _ => true) true fuel 34 [c3] = some x) (r3 : Go.Proofs.Ytdaooapfokhfcaa.Reach Try.prog 34 x.1) :
    ∃ (es : List En) (al : Option Addr) (cl : Nat), c3 = .slice al es.length cl ∧ IsE W (fun b => b < W.heap.size) es al cl := by
  rcases DataW.trod_slice Try.underlying34 h3 with ⟨hcs, _⟩ | ⟨a, len, cap, elems, rest, n', hn', hcs, hx3, _, hlc, hcm, hlen, hel, hsp, _⟩
  · simp only [List.cons.injEq, and_true] at hcs
    exact ⟨[], none, 0, hcs, fun _ => [], (fun _ => ⟨rfl, rfl⟩), Nat.le_refl _, by simp, (fun a h => by cases h), (fun t h => by cases h), (fun i e h => by simp at h)⟩
  · simp only [List.cons.injEq, and_true] at hcs
    rw [hx3] at r3
    rw [cells6e] at hel
    have hall : ∀ i, i < len → ∃ p : List Value × En, p.1.length = 5 ∧ p.2.1.size ≤ 140737488351232 ∧ (a.block < W.heap.size ∧ ∀ j v, (Value.string p.2.1 :: p.1)[j]? = some v → W.cell? ((a.add (i * 6)).add j) = some v) ∧ IsV W W.heap.size p.2.2 (.agg p.1.toArray) := by
      intro i hi
      have he := hel i hi
      rw [List.getElem?_eq_getElem (by omega)] at he
      obtain ⟨cs', hc1, hc2⟩ := Option.bind_eq_some_iff.1 he
      obtain ⟨_, hl6, hcell⟩ := World.cells?_some hc1
      obtain ⟨s, ds, v, hcs', hd5, hs, hv⟩ := open_entry hc2 (r3.elem Try.underlying34 (List.mem_map.2 ⟨_, List.getElem_mem _, rfl⟩))
      refine ⟨(ds, (s, v)), hd5, hs, ⟨?_, fun j u hu => ?_⟩, hv⟩
      · have h0 := hcell 0 (by omega)
        have := World.block_lt_of_cell? W ((a.add (i * 6)).add 0) (by rw [h0, List.getElem?_eq_getElem (by omega)])
        rw [block_add, block_add] at this
        exact this
      · dsimp only at hu
        rw [← hcs'] at hu
        have hj : j < 6 := by
          have h5 : j < cs'.length := (List.getElem?_eq_some_iff.1 hu).1
          omega
        rw [hcell j hj]
        exact hu
    haveI : Inhabited (List Value × En) := ⟨([], (⟨#[]⟩, .mk 0 0 ⟨#[]⟩ [] []))⟩
    obtain ⟨f, hf⟩ := Go.Deep.choose_lt hall
    have hl : ((List.range len).map (fun i => (f i).2)).length = len := by simp
    have hb := r3.slice Try.underlying34
    rw [show Try.prog.bytesOf 49 = 96 by kernel_rfl] at hb
    have hs := (hsp rfl).1
    unfold reachBytes at hb
    simp at hb
    have hget : ∀ (i : Nat) (e : En), ((List.range len).map (fun i => (f i).2))[i]? = some e → i < len ∧ e = (f i).2 := by
      intro i e he
      have hi : i < len := by
        have := (List.getElem?_eq_some_iff.1 he).1
        simpa using this
      rw [List.getElem?_map, List.getElem?_range hi] at he
      simp only [Option.map_some, Option.some.injEq] at he
      exact ⟨hi, he.symm⟩
    refine ⟨(List.range len).map (fun i => (f i).2), some a, cap, by rw [hl]; exact hcs, fun i => (f i).1, (fun e => by cases e), by rw [hl]; exact hlc, by rw [hl]; omega, ?_, ?_, ?_⟩
    · intro b hb i e he
      cases hb
      obtain ⟨hi, rfl⟩ := hget i e he
      exact (hf i hi).2.2.1
    · intro e he
      obtain ⟨i, hi⟩ := List.getElem?_of_mem he
      obtain ⟨hi', rfl⟩ := hget i e hi
      exact (hf i hi').2.1
    · intro i e he
      obtain ⟨hi, rfl⟩ := hget i e he
      exact ⟨(hf i hi).1, (hf i hi).2.2.2⟩
end
end Go.Proofs.Ytdaooapfokhfcaa
