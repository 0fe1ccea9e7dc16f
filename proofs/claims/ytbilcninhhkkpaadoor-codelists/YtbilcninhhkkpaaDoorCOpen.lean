/-
  How slices of whole numbers, of instructions among the arguments are opened; no conditions.
-/
import Derived.Test.YtbilcninhhkkpaaDoorCRows
import Derived.Test.YtbilcninhhkkpaaDoorCLaid
import Derived.ShutString
import Derived.ChangeOld
import Derived.Deep.Slices
import Derived.ChangeSame
import Derived.SizedLaws
namespace Go.Proofs.YtbilcninhhkkpaaDoor
open Go.ChangeShapes Go.WideShapes Go.ChangeAt Go.RowKit
set_option linter.unusedVariables false
set_option linter.unusedSimpArgs false

theorem open_rowI {H : Type} {enc : TypeId × Value → H} {W : World} {a0 : Option Addr} {len cap : Nat} {d0 : DataW H} {p0 : List MemPlace} (h0 : DataW.Trod enc Tryd.prog W 0 (fun _ => true) true 22 (.slice a0 len cap) d0 p0) :
    ∃ zs, RowI W a0 len zs ∧ (∀ z ∈ zs, i64B z) ∧ len ≤ 9223372036854775807 := by
  obtain ⟨fuel, hf⟩ := h0
  rcases open_ints Tryd.underlying22 Tryd.underlying3 cells_int hf with ⟨hcs, _⟩ | ⟨x, l, c, zs, hcs, _, hl, hm, hz, hx, hcell, hwz⟩
  · simp [Value.cells] at hcs
    obtain ⟨rfl, rfl, rfl⟩ := hcs
    exact ⟨[], ⟨rfl, fun j z h => by simp at h⟩, (fun z h => by cases h), by omega⟩
  · simp [Value.cells] at hcs
    obtain ⟨rfl, rfl, rfl⟩ := hcs
    simp only [if_true] at hz
    refine ⟨zs.take len, ⟨by simp; omega, fun j z hj => ?_⟩, fun z hm' => bounds_i64 (hwz z (List.mem_of_mem_take hm')), by unfold maxLen at hm; omega⟩
    have hjl : j < len := by
      have := (List.getElem?_eq_some_iff.1 hj).1
      simp at this
      omega
    obtain ⟨b, off, rfl, hc⟩ := ints_at hcell (by omega)
    have h1 := hc j (by omega)
    rw [List.getElem?_take_of_lt hjl, List.getElem?_eq_getElem (by omega)] at hj
    have e : zs.getD j 0 = z := by rw [← Option.some.inj hj]; simp [List.getD, (by omega : j < zs.length)]
    rw [e] at h1
    exact ⟨b, off, rfl, h1⟩

theorem cells_ins : Tryd.prog.cellsOf 42 = 2 := by kernel_rfl
theorem bytes_ins : Tryd.prog.bytesOf 42 = 16 := by kernel_rfl

/-- where a cell is, its address is plain -/
theorem plain_of {w : World} {a : Addr} {v : Value} (h : w.cell? a = some v) : a = ⟨a.block, a.off, none⟩ := by
  obtain ⟨b, o, s⟩ := a
  unfold World.cell? at h
  cases s with
  | none => rfl
  | some s =>
    exfalso
    revert h
    split
    · simp
    · simp

theorem open_rowN {H : Type} {enc : TypeId × Value → H} {W : World} {ao : Option Addr} {len cap : Nat} {d0 : DataW H} {p0 : List MemPlace} (h0 : DataW.Trod enc Tryd.prog W 0 (fun _ => true) true 35 (.slice ao len cap) d0 p0) :
    (∃ ss, RowN W ao len ss) ∧ ((d0 = .nil ∧ len = 0) ∨ ∃ es rs, d0 = .slice es rs ∧ es.length = len) := by
  obtain ⟨fuel, hf⟩ := h0
  rcases Go.Deep.open_slice Tryd.underlying35 hf with ⟨hcs, hx⟩ | ⟨a, l, c, m, n, D, Pl, hcs, _, hl, hm, hmm, hx4, hcell⟩
  · simp [Value.cells] at hcs
    obtain ⟨rfl, rfl, rfl⟩ := hcs
    simp only [Prod.mk.injEq] at hx
    exact ⟨⟨[], rfl, (fun p h => by cases h), fun i t h => by simp at h⟩, .inl ⟨hx.1, rfl⟩⟩
  · simp [Value.cells] at hcs
    obtain ⟨rfl, rfl, rfl⟩ := hcs
    simp only [if_true] at hmm
    simp only [Prod.mk.injEq] at hx4
    refine ⟨?_, .inr ⟨_, _, hx4.1, by simp⟩⟩
    have each : ∀ i, i < m → ∃ s : Ins, (i64B s.1 ∧ i64B s.2) ∧ ∃ b o, a.add (i * 2) = ⟨b, o, none⟩ ∧ W.cell? ⟨b, o, none⟩ = some (.int .i64 s.1) ∧ W.cell? ⟨b, o + 1, none⟩ = some (.int .i64 s.2) := by
      intro i hi
      obtain ⟨cs', h1, h2⟩ := hcell i hi
      rw [cells_ins] at h1
      obtain ⟨_, hlen, hc⟩ := World.cells?_some h1
      obtain ⟨xs, k, hk, hxy, _, hxl, hff⟩ := DataW.trod_struct Tryd.underlying42 h2
      match xs, hxl, cs', hlen with
      | [y0, y1], _, [v0, v1], _ =>
        have g0 := hff 0 _ rfl
        have g1 := hff 1 _ rfl
        simp [cells_int] at g0 g1
        obtain ⟨z0, e0, _, b0⟩ := DataW.trod_int Tryd.underlying3 g0
        obtain ⟨z1, e1, _, b1⟩ := DataW.trod_int Tryd.underlying3 g1
        simp only [List.cons.injEq, and_true] at e0 e1
        subst e0 e1
        have c0 := hc 0 (by omega)
        have c1 := hc 1 (by omega)
        have hz : (a.add (i * 2)).add 0 = a.add (i * 2) := rfl
        rw [hz] at c0
        replace c0 : W.cell? (a.add (i * 2)) = some (.int .i64 z0) := c0
        replace c1 : W.cell? ((a.add (i * 2)).add 1) = some (.int .i64 z1) := c1
        have hp := plain_of c0
        rw [hp] at c0 c1
        rw [add_plain] at c1
        exact ⟨(z0, z1), ⟨bounds_i64 b0, bounds_i64 b1⟩, _, _, hp, c0, c1⟩
    haveI : Inhabited Ins := ⟨(0, 0)⟩
    obtain ⟨S, hS⟩ := Go.Deep.choose_lt each
    refine ⟨(List.range len).map S, by simp, fun p hp => ?_, fun i t ht => ?_⟩
    · obtain ⟨i, hi, rfl⟩ := List.mem_map.1 hp
      exact (hS i (by have := List.mem_range.1 hi; omega)).1
    · have hi : i < len := by
        have := (List.getElem?_eq_some_iff.1 ht).1
        simpa using this
      rw [List.getElem?_map, List.getElem?_range hi] at ht
      simp only [Option.map_some, Option.some.injEq] at ht
      subst ht
      obtain ⟨_, b, o, q⟩ := hS i (by omega)
      exact ⟨a, b, o, rfl, q⟩

/-- how many instructions a slice within reach has -/
theorem rowN_len {H : Type} {ts : List TypeId} {ds : List (DataW H)} (h : (DataW.weightsEach Tryd.prog ts ds).all (· ≤ reachBytes) = true) {j len : Nat} {d : DataW H} (ht : ts[j]? = some 35) (hd : ds[j]? = some d) (hl : (d = .nil ∧ len = 0) ∨ ∃ es rs, d = .slice es rs ∧ es.length = len) : len * 16 ≤ 140737488351232 := by
  rcases hl with ⟨_, rfl⟩ | ⟨es, rs, rfl, rfl⟩
  · simp
  · have := sized_slice h ht hd Tryd.underlying35
    rw [bytes_ins] at this
    unfold reachBytes at this
    omega
end Go.Proofs.YtbilcninhhkkpaaDoor
