/-
  A script handed in lies in memory step by step; no conditions.
-/
import Derived.Test.YtflopmhjgamcfaaTPlay
import Derived.Deep.Slices
import Derived.ChangeSame
import Derived.SizedLaws
set_option linter.unusedSimpArgs false
namespace Go.Proofs.Ytflopmhjgamcfaa
open Go.ChangeShapes Go.WideShapes Go.RowKit
set_option linter.unusedVariables false

theorem cellsStep : Try.prog.cellsOf 36 = 4 := by kernel_rfl
theorem cellsInt : Try.prog.cellsOf 3 = 1 := by kernel_rfl
theorem bytesStep : Try.prog.bytesOf 36 = 32 := by kernel_rfl

/-- where a cell is, its address is plain -/
theorem plain_of {w : World} {a : Addr} {v : Value} (h : w.cell? a = some v) : a = ⟨a.block, a.off, none⟩ := by
  obtain ⟨b, o, s⟩ := a
  unfold World.cell? at h
  cases s with
  | none => rfl
  | some s =>
    exfalso
    revert h
    split
    · simp
    · simp

theorem open_script {H : Type} {enc : TypeId × Value → H} {W : World} {fuel : Nat} {ao : Option Addr} {len cap : Nat} {x : DataW H × List MemPlace} (hf : DataW.trod enc Try.prog W 0 (fun _ => true) true fuel 22 [.slice ao len cap] = some x) :
    (∃ ss, Script W W.heap.size ao len ss) ∧ ((x.1 = .nil ∧ len = 0) ∨ ∃ es rs, x.1 = .slice es rs ∧ es.length = len) := by
  rcases Go.Deep.open_slice Try.underlying22 hf with ⟨hcs, hx⟩ | ⟨a, l, c, m, n, D, Pl, hcs, _, hl, hm, hmm, hx4, hcell⟩
  · simp only [List.cons.injEq, and_true, Value.slice.injEq] at hcs
    obtain ⟨rfl, rfl, rfl⟩ := hcs
    subst hx
    exact ⟨⟨[], rfl, fun i t h => by simp at h⟩, .inl ⟨rfl, rfl⟩⟩
  · simp only [List.cons.injEq, and_true, Value.slice.injEq] at hcs
    obtain ⟨rfl, rfl, rfl⟩ := hcs
    simp only [if_true] at hmm
    subst hx4
    refine ⟨?_, .inr ⟨_, _, rfl, by simp⟩⟩
    have each : ∀ i, i < m → ∃ s : Stp4, ∃ b o, a.add (i * 4) = ⟨b, o, none⟩ ∧ b < W.heap.size ∧ W.cell? ⟨b, o, none⟩ = some (.int .i64 s.kd) ∧ W.cell? ⟨b, o + 1, none⟩ = some (.int .i64 s.on) ∧ W.cell? ⟨b, o + 2, none⟩ = some (.int .i64 s.k) ∧ W.cell? ⟨b, o + 3, none⟩ = some (.int .i64 s.x) := by
      intro i hi
      obtain ⟨cs', h1, h2⟩ := hcell i hi
      rw [cellsStep] at h1
      obtain ⟨_, hlen, hc⟩ := World.cells?_some h1
      obtain ⟨xs, k, hk, hxy, _, hxl, hff⟩ := DataW.trod_struct Try.underlying36 h2
      match xs, hxl, cs', hlen with
      | [y0, y1, y2, y3], _, [v0, v1, v2, v3], _ =>
        have g0 := hff 0 _ rfl
        have g1 := hff 1 _ rfl
        have g2 := hff 2 _ rfl
        have g3 := hff 3 _ rfl
        simp [cellsInt] at g0 g1 g2 g3
        obtain ⟨z0, e0, _, _⟩ := DataW.trod_int Try.underlying3 g0
        obtain ⟨z1, e1, _, _⟩ := DataW.trod_int Try.underlying3 g1
        obtain ⟨z2, e2, _, _⟩ := DataW.trod_int Try.underlying3 g2
        obtain ⟨z3, e3, _, _⟩ := DataW.trod_int Try.underlying3 g3
        simp only [List.cons.injEq, and_true] at e0 e1 e2 e3
        subst e0 e1 e2 e3
        have c0 := hc 0 (by omega)
        have c1 := hc 1 (by omega)
        have c2 := hc 2 (by omega)
        have c3 := hc 3 (by omega)
        have hz : (a.add (i * 4)).add 0 = a.add (i * 4) := rfl
        rw [hz] at c0
        replace c0 : W.cell? (a.add (i * 4)) = some (.int .i64 z0) := c0
        replace c1 : W.cell? ((a.add (i * 4)).add 1) = some (.int .i64 z1) := c1
        replace c2 : W.cell? ((a.add (i * 4)).add 2) = some (.int .i64 z2) := c2
        replace c3 : W.cell? ((a.add (i * 4)).add 3) = some (.int .i64 z3) := c3
        have hp := plain_of c0
        rw [hp] at c0 c1 c2 c3
        rw [add_plain] at c1 c2 c3
        have hb := World.block_lt_of_cell? _ _ (by rw [c0])
        exact ⟨⟨z0, z1, z2, z3⟩, _, _, hp, hb, c0, c1, c2, c3⟩
    haveI : Inhabited Stp4 := ⟨⟨0, 0, 0, 0⟩⟩
    obtain ⟨S, hS⟩ := Go.Deep.choose_lt each
    refine ⟨(List.range len).map S, by simp, fun i t ht => ?_⟩
    have hi : i < len := by
      have := (List.getElem?_eq_some_iff.1 ht).1
      simpa using this
    rw [List.getElem?_map, List.getElem?_range hi] at ht
    simp only [Option.map_some, Option.some.injEq] at ht
    subst ht
    obtain ⟨b, o, q⟩ := hS i (by omega)
    exact ⟨a, b, o, rfl, q⟩

/-- how many steps a script within reach has -/
theorem script_len {H : Type} {ts : List TypeId} {ds : List (DataW H)} (h : (DataW.weightsEach Try.prog ts ds).all (· ≤ reachBytes) = true) {j len : Nat} {d : DataW H} (ht : ts[j]? = some 22) (hd : ds[j]? = some d) (hl : (d = .nil ∧ len = 0) ∨ ∃ es rs, d = .slice es rs ∧ es.length = len) : len * 32 ≤ reachBytes := by
  rcases hl with ⟨_, rfl⟩ | ⟨es, rs, rfl, rfl⟩
  · simp
  · have := sized_slice h ht hd Try.underlying22
    rw [bytesStep] at this
    omega
end Go.Proofs.Ytflopmhjgamcfaa
