/-
  Append of bytes onto a row of the call's own where the lengths together pass 2^47 by no more than a million; no other conditions.
-/
import Derived.Test.YtfdnhpmldnmncaaPuts2
import Derived.Deep.AppendLies
import Derived.Maps.AppendAt
namespace Go.Proofs.Ytfdnhpmldnmncaa
open Go.RowKit

theorem next_far {need old : Nat} (h : old < need) : Builtin.nextslicecap need old ≤ need + need / 4 + 512 := by
  unfold Builtin.nextslicecap
  split
  · omega
  · split
    · omega
    · rw [growBy_four]
      repeat' split
      all_goals omega

theorem zero8 (k : Nat) : (Builtin.zeroCells (Value.int .u8 0).cells k).size = k := by
  rw [size_zeroCells]
  show k * 1 = k
  omega

/-- a row that was just made -/
theorem made8 (w : World) (base N cap : Nat) (A : Array Value) (ys : List Value) (hA : A.toList = ys) (hN : ys.length = N) (hge : N ≤ cap) (hcm : cap ≤ maxLen) (hbase : base ≤ w.heap.size) :
    (w.drew.alloc (.cells (A ++ Builtin.zeroCells (Value.int .u8 0).cells (cap - N)) 5)).ownsRow base 5 1 (.slice (some ⟨w.heap.size, 0, none⟩) N cap) N ys := by
  subst hA
  refine ⟨by omega, .inr ⟨w.heap.size, cap, _, rfl, hbase, heap_alloc_new w.drew _, hge, hcm, ?_, ?_⟩⟩
  · rw [Array.size_append, zero8]
    rw [Array.length_toList] at hN
    omega
  · rw [Array.toList_append, Nat.mul_one, ← hN]
    exact List.take_left

theorem made_grown (w : World) (A : Array Value) (t : TypeId) (row : Option Nat) : w.grownBy (w.drew.alloc (.cells A t)) row := ⟨rfl, rfl, rfl, by simp, fun k hk _ => heap_alloc_old w.drew _ hk⟩

theorem run_own8 (w : World) (ty : TypeId) (base n : Nat) (v : Value) (xs : List Value) (hown : w.ownsRow base 5 1 v n xs) (ad : Addr) (m c : Nat) (rs : List Int) (hl : rs.length = m) (hc : ∀ j u, (rs.map (Value.int .u8))[j]? = some u → w.cell? (ad.add j) = some u) (hbytes : n + m ≤ 140737489403904) (hbase : base ≤ w.heap.size) :
    ∃ v' w', (Builtin.append_ #[22, 22] ty #[v, .slice (some ad) m c]).run Try.prog w = .ok v' w' ∧ w'.ownsRow base 5 1 v' (n + m) (xs ++ rs.map (Value.int .u8)) ∧ w.grownBy w' v.ownBlock ∧ (v'.ownBlock = v.ownBlock ∨ v'.ownBlock = some w.heap.size) := by
  obtain ⟨i0, hi, hz0, hz1, hz2⟩ := info_parts info5
  have hrl : (rs.map (Value.int .u8)).length = m := by simp [hl]
  by_cases hs : n + m ≤ 140737488355328
  · obtain ⟨v', w', h1, h2, h3, _, h5⟩ := run_append_own_at (P := Try.prog) w base 22 ty 5 i0 (.int .u8 0) 1 1 Try.underlying22 hi hz0 hz1 hz2 rfl (by decide) v n _ hown ad m c (rs.map (Value.int .u8)) (by simp [hl]) hc (ints_oneCell _ _) (by unfold maxLen; omega) (by omega) hbase
    exact ⟨v', w', h1, h2, h3, h5⟩
  · have hxl := hown.1
    rw [Nat.mul_one] at hxl
    rcases hown.2 with ⟨rfl, rfl⟩ | ⟨g, cap, cur, rfl, hbg, hg, hnc, hcm, hcs, htake⟩
    · have hr := run_append_nil (P := Try.prog) w 22 ty 5 i0 (.int .u8 0) Try.underlying22 hi hz0 ad m c (rs.map (Value.int .u8)) (by rw [hz1, hrl, Nat.mul_one]) hc (by omega) (by omega) (by rw [hz2]; omega)
      obtain rfl : xs = [] := List.eq_nil_of_length_eq_zero hxl
      simp only [Nat.zero_add, List.nil_append]
      exact ⟨_, _, hr, made8 w base m _ _ _ rfl hrl (grownCap_ge w m 0 5) (grownCap_le_maxLen w m 0 5 (by unfold maxLen; omega)) hbase, made_grown _ _ _ _, Or.inr rfl⟩
    · by_cases hroom : n + m ≤ cap
      · have hr := run_append_room (P := Try.prog) w 22 ty 5 i0 Try.underlying22 hi g n cap cur hg ad m c (rs.map (Value.int .u8)) (by rw [hz1, hrl, Nat.mul_one]) hc (ints_oneCell _ _) hroom (by rw [hz1, hrl]; omega)
        rw [hz1, Nat.mul_one, hrl] at hr
        rw [Nat.mul_one] at htake
        refine ⟨_, _, hr, ⟨by rw [List.length_append, hxl, hrl, Nat.mul_one], .inr ⟨g, cap, _, rfl, hbg, setRow_heap w g cur _ 5 _ hg, hroom, hcm, ?_, ?_⟩⟩, ⟨rfl, rfl, rfl, by simp, fun k _ hk => setRow_other w g k _ (fun e => hk (by simp [Value.ownBlock, e]))⟩, Or.inl rfl⟩
        · have hcl : cur.toList.length = cur.size := Array.length_toList
          simp only [List.size_toArray, List.length_append, List.length_take, List.length_drop, hrl]
          omega
        · rw [htake, Nat.mul_one]
          exact List.take_left' (by rw [List.length_append, hxl, hrl])
      · have hr := run_append_grow (P := Try.prog) w 22 ty 5 i0 (.int .u8 0) Try.underlying22 hi hz0 ⟨g, 0, none⟩ n cap xs (by rw [hz1, hxl, Nat.mul_one]) (hown.cells (g := g) rfl) ad m c (rs.map (Value.int .u8)) (by rw [hz1, hrl, Nat.mul_one]) hc (by omega) (by omega) (by have := next_far (need := n + m) (old := cap) (by omega); rw [hz2]; omega)
        exact ⟨_, _, hr, made8 w base (n + m) _ _ _ (by simp) (by rw [List.length_append, hxl, hrl]) (grownCap_ge w (n + m) cap 5) (grownCap_le_maxLen w (n + m) cap 5 (by unfold maxLen; omega)) hbase, made_grown _ _ _ _, Or.inr rfl⟩

open Lib in
theorem run_str8 (w : World) (ty : TypeId) (base g n cap : Nat) (xs : List Value) (hown : w.ownsRow base 5 1 (.slice (some ⟨g, 0, none⟩) n cap) n xs) (hn : 0 < n) (s : ByteArray) (hbytes : n + s.size ≤ 140737489403904) (hbase : base ≤ w.heap.size) :
    ∃ v' w', (Builtin.append_ #[22, 9] ty #[.slice (some ⟨g, 0, none⟩) n cap, .string s]).run Try.prog w = .ok v' w' ∧ w'.ownsRow base 5 1 v' (n + s.size) (xs ++ strCells s) ∧ w.grownBy w' (some g) := by
  obtain ⟨i0, hi, hz0, hz1, hz2⟩ := info_parts info5
  by_cases hs : n + s.size ≤ 140737488355328
  · obtain ⟨v', w', h1, h2, h3, _⟩ := run_append_own_string (P := Try.prog) w base 22 9 ty 5 i0 Try.underlying22 Try.underlying9 hi hz0 hz1 hz2 _ n xs hown s (by unfold maxLen; omega) hs hbase
    exact ⟨v', w', h1, h2, h3⟩
  · have hxl := hown.1
    rw [Nat.mul_one] at hxl
    have hsl := strCells_length s
    rcases hown.2 with ⟨_, h0⟩ | ⟨g', cap', cur, he, hbg, hg, hnc, hcm, hcs, htake⟩
    · omega
    simp only [Value.slice.injEq, Option.some.injEq, Addr.mk.injEq, true_and, and_true] at he
    obtain ⟨rfl, rfl⟩ := he
    rw [Nat.mul_one] at htake
    by_cases hroom : n + s.size ≤ cap
    · have hr := run_append_room_string (P := Try.prog) w 22 9 ty 5 i0 Try.underlying22 Try.underlying9 hi hz1 g n cap cur hg s hroom (by omega)
      refine ⟨_, _, hr, ⟨by rw [List.length_append, hxl, hsl, Nat.mul_one], .inr ⟨g, cap, _, rfl, hbg, setRow_heap w g cur _ 5 _ hg, hroom, hcm, ?_, ?_⟩⟩, ⟨rfl, rfl, rfl, by simp, fun k _ hk => setRow_other w g k _ (fun e => hk (by simp [e]))⟩⟩
      · have hcl : cur.toList.length = cur.size := Array.length_toList
        simp only [List.size_toArray, List.length_append, List.length_take, List.length_drop, hsl]
        omega
      · rw [htake, Nat.mul_one]
        exact List.take_left' (by rw [List.length_append, hxl, hsl])
    · have hr := run_append_grow_string (P := Try.prog) w 22 9 ty 5 i0 (.int .u8 0) Try.underlying22 Try.underlying9 hi hz0 ⟨g, 0, none⟩ n cap xs (by rw [hz1, hxl, Nat.mul_one]) (hown.cells (g := g) rfl) s (by omega) (by omega) (by have := next_far (need := n + s.size) (old := cap) (by omega); rw [hz2]; omega)
      exact ⟨_, _, hr, made8 w base (n + s.size) _ _ _ (by simp) (by rw [List.length_append, hxl, hsl]) (grownCap_ge w (n + s.size) cap 5) (grownCap_le_maxLen w (n + s.size) cap 5 (by unfold maxLen; omega)) hbase, made_grown _ _ _ _⟩

/-- append(b, s...) onto a row of the call's own -/
theorem app_string8 {w : World} {ops : Array Oper} {rest : List Oper} {o : Oper} {a : Act} {Q : Exit → Act → World → Prop} (hgd : o.guard = none) (sl x : Operand)
    (ho : o.op = .call { callee := .builtin .append, args := #[sl, x], argTypes := #[22, 9] })
    (base g n cap : Nat) (xs : List Value) (hs : a.eval sl = .slice (some ⟨g, 0, none⟩) n cap) (hown : w.ownsRow base 5 1 (.slice (some ⟨g, 0, none⟩) n cap) n xs) (hn : 0 < n) (s : ByteArray) (hx : a.eval x = .string s)
    (hbytes : n + s.size ≤ 140737489403904) (hbase : base ≤ w.heap.size)
    (h : ∀ g' cap' w', base ≤ g' → w'.ownsRow base 5 1 (.slice (some ⟨g', 0, none⟩) (n + s.size) cap') (n + s.size) (xs ++ (nums s).map (Value.int .u8)) → w.grownBy w' (some g) → wpList Try.prog ops Q rest (a.put o.dst (.slice (some ⟨g', 0, none⟩) (n + s.size) cap')) w') :
    wpList Try.prog ops Q (o :: rest) a w := by
  refine wpList_plain hgd fun K hK => ?_
  obtain ⟨v', w', hrun, hown', hgrow⟩ := run_str8 w o.type base g n cap xs hown hn s hbytes hbase
  obtain ⟨g', cap', hv, hb⟩ := own_form hown' (by omega)
  rw [nums_cells] at hown'
  subst hv
  unfold Oper.wp
  simp only [execOp, ho, resolve, invoke, builtin, Sem.run_bind, Sem.run_pure, Result.andThen_ok, List.map_toArray, List.map_cons, List.map_nil, hs, hx, hrun]
  exact hK _ _ (h g' cap' w' hb hown' hgrow)
end Go.Proofs.Ytfdnhpmldnmncaa
