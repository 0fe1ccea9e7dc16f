/-
  The walk of num.PutText, and what append lays behind a row of the call's own; conditions: the lengths together are below 2^47.
  Append of bytes onto a row of the call's own where the lengths together pass 2^47 by no more than a million; no other conditions.
-/
import Derived.Test.YtmnbfcpkaglniaaGreatDoorS02
import Derived.Lib.AppendStr
import Derived.Laws.AppendOwnNone
import Derived.Deep.AppendLies
import Derived.Maps.AppendAt
set_option linter.unusedVariables false
set_option linter.unusedSimpArgs false
namespace Go.Proofs.YtmnbfcpkaglniaaGreatDoor
open Go.RowKit
/-- a text's bytes as numbers -/
def nums (s : ByteArray) : List Int := s.data.toList.map fun b => (b.toNat : Int)
theorem nums_len (s : ByteArray) : (nums s).length = s.size := by
  unfold nums; rw [List.length_map, Array.length_toList]; rfl
theorem nums_cells (s : ByteArray) : Lib.strCells s = (nums s).map (Value.int .u8) := by
  unfold nums Lib.strCells; rw [List.map_map]; rfl
theorem nums_small (s : ByteArray) : ∀ n ∈ nums s, 0 ≤ n ∧ n ≤ 255 := by
  intro n hn
  unfold nums at hn
  obtain ⟨b, _, rfl⟩ := List.mem_map.1 hn
  have := b.toNat_lt
  omega
theorem nums_str (s : ByteArray) : strOfNums (nums s) = s := by
  apply Go.WideShapes.bytes_inj
  rw [strOfNums_data]
  unfold nums
  rw [List.map_map]
  conv => rhs; rw [← List.map_id s.data.toList]
  apply List.map_congr_left
  intro b _
  simp
theorem own_form {w : World} {base : Nat} {v : Value} {n : Nat} {xs : List Value} (h : w.ownsRow base 5 1 v n xs) (hn : 0 < n) : ∃ g cap, v = .slice (some ⟨g, 0, none⟩) n cap ∧ base ≤ g := by
  rcases h.2 with ⟨_, e⟩ | ⟨g, cap, cur, e, hb, _⟩
  · omega
  · exact ⟨g, cap, e, hb⟩
theorem withRoom_int (ao : Option Addr) (len cap r : Nat) (R : Int) (hR : R = (r : Int)) (zs : List Int) (w : World) (hr : Row8 w ao len cap zs) (hm : len + r ≤ 281474976710656) :
    Calls Tryz.prog 169 #[.slice ao len cap, .int .i64 R] w fun e w' => e = .returned (.slice (some ⟨w.heap.size, 0, none⟩) len (len + r)) ∧
      w'.ownsRow w.heap.size 5 1 (.slice (some ⟨w.heap.size, 0, none⟩) len (len + r)) len (zs.map (Value.int .u8)) ∧ Below w.heap.size w w' := by
  subst hR
  exact withRoom_any ao len cap r zs w hr hm
/-- append of a text's bytes, onto a row of the call's own, the new value written out -/
theorem app_string {w : World} {ops : Array Oper} {rest : List Oper} {o : Oper} {a : Act} {Q : Exit → Act → World → Prop} (hgd : o.guard = none) (sl x : Operand)
    (ho : o.op = .call { callee := .builtin .append, args := #[sl, x], argTypes := #[90, 9] })
    (base g n cap : Nat) (xs : List Value) (hs : a.eval sl = .slice (some ⟨g, 0, none⟩) n cap) (hown : w.ownsRow base 5 1 (.slice (some ⟨g, 0, none⟩) n cap) n xs) (hn : 0 < n) (s : ByteArray) (hx : a.eval x = .string s)
    (hbytes : n + s.size ≤ 140737488355328) (hbase : base ≤ w.heap.size)
    (h : ∀ g' cap' w', base ≤ g' → w'.ownsRow base 5 1 (.slice (some ⟨g', 0, none⟩) (n + s.size) cap') (n + s.size) (xs ++ (nums s).map (Value.int .u8)) → w.grownBy w' (some g) → wpList Tryz.prog ops Q rest (a.put o.dst (.slice (some ⟨g', 0, none⟩) (n + s.size) cap')) w') :
    wpList Tryz.prog ops Q (o :: rest) a w := by
  obtain ⟨i0, hi, hz0, hz1, hz2⟩ := info_parts info5
  refine Lib.wpList_append_own_string w hgd sl x 90 9 ho base 5 i0 Tryz.underlying90 Tryz.underlying9 hi hz0 hz1 hz2 _ n xs hs hown s hx (by unfold maxLen; omega) hbytes hbase ?_
  intro v' w' hown' hgrow _
  obtain ⟨g', cap', hv, hb⟩ := own_form hown' (by omega)
  rw [nums_cells] at hown'
  rw [hv] at hown' ⊢
  exact h g' cap' w' hb hown' hgrow
/-- append of a slice of bytes, nil or not, onto a row of the call's own, the new value written out -/
theorem app_row {w : World} {ops : Array Oper} {rest : List Oper} {o : Oper} {a : Act} {Q : Exit → Act → World → Prop} (hgd : o.guard = none) (sl x : Operand)
    (ho : o.op = .call { callee := .builtin .append, args := #[sl, x], argTypes := #[90, 90] })
    (base g n cap : Nat) (xs : List Value) (hs : a.eval sl = .slice (some ⟨g, 0, none⟩) n cap) (hown : w.ownsRow base 5 1 (.slice (some ⟨g, 0, none⟩) n cap) n xs) (hn : 0 < n)
    (ao : Option Addr) (m c : Nat) (rs : List Int) (hx : a.eval x = .slice ao m c) (hr : Row8 w ao m c rs)
    (hbytes : n + m ≤ 140737488355328) (hbase : base ≤ w.heap.size)
    (h : ∀ g' cap' w', base ≤ g' → w'.ownsRow base 5 1 (.slice (some ⟨g', 0, none⟩) (n + m) cap') (n + m) (xs ++ rs.map (Value.int .u8)) → w.grownBy w' (some g) → wpList Tryz.prog ops Q rest (a.put o.dst (.slice (some ⟨g', 0, none⟩) (n + m) cap')) w') :
    wpList Tryz.prog ops Q (o :: rest) a w := by
  obtain ⟨i0, hi, hz0, hz1, hz2⟩ := info_parts info5
  have hl := hr.length
  obtain ⟨_, _, e, hg0⟩ := own_form hown hn
  cases ao with
  | none =>
    obtain ⟨rfl, rfl⟩ := hr.none rfl
    have hrs : rs = [] := List.eq_nil_of_length_eq_zero hl
    subst hrs
    refine wpList_append_own_none hgd sl x 90 ho base 5 i0 1 Tryz.underlying90 hi _ n xs hs hown hx ?_
    cases e
    have := h g cap w hg0 (by simpa using hown) (World.grownBy.refl _ _)
    simpa using this
  | some ad =>
    refine wpList_append_own w hgd sl x 90 ho base 5 i0 (.int .u8 0) 1 1 Tryz.underlying90 hi hz0 hz1 hz2 rfl (by decide) _ n xs hs hown ad m c (rs.map (Value.int .u8)) hx (by simp [hl]) (hr.cells ad rfl) (ints_oneCell _ _) (by unfold maxLen; omega) (by omega) hbase ?_
    intro v' w' hown' hgrow _
    obtain ⟨g', cap', hv, hb⟩ := own_form hown' (by omega)
    rw [hv] at hown' ⊢
    exact h g' cap' w' hb hown' hgrow
set_option maxRecDepth 100000 in
set_option maxHeartbeats 400000 in
theorem putText_any (ao : Option Addr) (len cap : Nat) (s : ByteArray) (zs : List Int) (w : World) (hr : Row8 w ao len cap zs) (hm : len + 10 + s.size ≤ 140737488355328) :
    Calls Tryz.prog 120 #[.slice ao len cap, .string s] w fun e w' => ∃ g c : Nat, w.heap.size ≤ g ∧ e = .returned (.slice (some ⟨g, 0, none⟩) (len + (encF 9 s.size).length + s.size) c) ∧
      w'.ownsRow w.heap.size 5 1 (.slice (some ⟨g, 0, none⟩) (len + (encF 9 s.size).length + s.size) c) (len + (encF 9 s.size).length + s.size) ((zs ++ encF 9 s.size ++ nums s).map (Value.int .u8)) ∧ Below w.heap.size w w' := by
  have hL := encF_len 9 (s.size : Int)
  go_enter Tryz.func120, Tryz.ntmps120
  go_wp2_with fail
  refine (withRoom_int ao len cap (10 + s.size) _ (by omega) zs w hr (by omega)).mono ?_
  rintro e w1 ⟨rfl, hown, hb1⟩
  have hs1 := hb1.size
  go_wp2_with fail
  refine (layUint_any w.heap.size len (len + (10 + s.size)) (s.size : Int) (zs.map (Value.int .u8)) w1 w.heap.size (by omega) (by omega) hs1 (Nat.le_refl _) hown (by omega)).mono ?_
  rintro e w2 ⟨rfl, hown2, hb2⟩
  rw [← List.map_append] at hown2
  have hb12 := hb1.trans hb2
  have hs2 := hb12.size
  clear hown hb1 hb2 hr
  go_wp2_with (first | (at_builtin; refine app_string rfl (.tmp 13) (.tmp 14) rfl w.heap.size w.heap.size (len + (encF 9 (s.size : Int)).length) (len + (10 + s.size)) _ rfl hown2 (by omega) s rfl (by omega) hs2 ?_; intro g' c' w3 hg3 hown3 hgrow3))
  rw [← List.map_append] at hown3
  go_ret
  exact ⟨g', c', hg3, rfl, hown3, hb12.grown hgrow3 hs2 (by simp)⟩
theorem next_far {need old : Nat} (h : old < need) : Builtin.nextslicecap need old ≤ need + need / 4 + 512 := by
  unfold Builtin.nextslicecap
  split
  · omega
  · split
    · omega
    · rw [growBy_four]
      repeat' split
      all_goals omega
theorem zero8 (k : Nat) : (Builtin.zeroCells (Value.int .u8 0).cells k).size = k := by
  rw [size_zeroCells]
  show k * 1 = k
  omega
/-- a row that was just made -/
theorem made8 (w : World) (base N cap : Nat) (A : Array Value) (ys : List Value) (hA : A.toList = ys) (hN : ys.length = N) (hge : N ≤ cap) (hcm : cap ≤ maxLen) (hbase : base ≤ w.heap.size) :
    (w.drew.alloc (.cells (A ++ Builtin.zeroCells (Value.int .u8 0).cells (cap - N)) 5)).ownsRow base 5 1 (.slice (some ⟨w.heap.size, 0, none⟩) N cap) N ys := by
  subst hA
  refine ⟨by omega, .inr ⟨w.heap.size, cap, _, rfl, hbase, heap_alloc_new w.drew _, hge, hcm, ?_, ?_⟩⟩
  · rw [Array.size_append, zero8]
    rw [Array.length_toList] at hN
    omega
  · rw [Array.toList_append, Nat.mul_one, ← hN]
    exact List.take_left
theorem made_grown (w : World) (A : Array Value) (t : TypeId) (row : Option Nat) : w.grownBy (w.drew.alloc (.cells A t)) row := ⟨rfl, rfl, rfl, by simp, fun k hk _ => heap_alloc_old w.drew _ hk⟩
theorem run_own8 (w : World) (ty : TypeId) (base n : Nat) (v : Value) (xs : List Value) (hown : w.ownsRow base 5 1 v n xs) (ad : Addr) (m c : Nat) (rs : List Int) (hl : rs.length = m) (hc : ∀ j u, (rs.map (Value.int .u8))[j]? = some u → w.cell? (ad.add j) = some u) (hbytes : n + m ≤ 140737489403904) (hbase : base ≤ w.heap.size) :
    ∃ v' w', (Builtin.append_ #[90, 90] ty #[v, .slice (some ad) m c]).run Tryz.prog w = .ok v' w' ∧ w'.ownsRow base 5 1 v' (n + m) (xs ++ rs.map (Value.int .u8)) ∧ w.grownBy w' v.ownBlock ∧ (v'.ownBlock = v.ownBlock ∨ v'.ownBlock = some w.heap.size) := by
  obtain ⟨i0, hi, hz0, hz1, hz2⟩ := info_parts info5
  have hrl : (rs.map (Value.int .u8)).length = m := by simp [hl]
  by_cases hs : n + m ≤ 140737488355328
  · obtain ⟨v', w', h1, h2, h3, _, h5⟩ := run_append_own_at (P := Tryz.prog) w base 90 ty 5 i0 (.int .u8 0) 1 1 Tryz.underlying90 hi hz0 hz1 hz2 rfl (by decide) v n _ hown ad m c (rs.map (Value.int .u8)) (by simp [hl]) hc (ints_oneCell _ _) (by unfold maxLen; omega) (by omega) hbase
    exact ⟨v', w', h1, h2, h3, h5⟩
  · have hxl := hown.1
    rw [Nat.mul_one] at hxl
    rcases hown.2 with ⟨rfl, rfl⟩ | ⟨g, cap, cur, rfl, hbg, hg, hnc, hcm, hcs, htake⟩
    · have hr := run_append_nil (P := Tryz.prog) w 90 ty 5 i0 (.int .u8 0) Tryz.underlying90 hi hz0 ad m c (rs.map (Value.int .u8)) (by rw [hz1, hrl, Nat.mul_one]) hc (by omega) (by omega) (by rw [hz2]; omega)
      obtain rfl : xs = [] := List.eq_nil_of_length_eq_zero hxl
      simp only [Nat.zero_add, List.nil_append]
      exact ⟨_, _, hr, made8 w base m _ _ _ rfl hrl (grownCap_ge w m 0 5) (grownCap_le_maxLen w m 0 5 (by unfold maxLen; omega)) hbase, made_grown _ _ _ _, Or.inr rfl⟩
    · by_cases hroom : n + m ≤ cap
      · have hr := run_append_room (P := Tryz.prog) w 90 ty 5 i0 Tryz.underlying90 hi g n cap cur hg ad m c (rs.map (Value.int .u8)) (by rw [hz1, hrl, Nat.mul_one]) hc (ints_oneCell _ _) hroom (by rw [hz1, hrl]; omega)
        rw [hz1, Nat.mul_one, hrl] at hr
        rw [Nat.mul_one] at htake
        refine ⟨_, _, hr, ⟨by rw [List.length_append, hxl, hrl, Nat.mul_one], .inr ⟨g, cap, _, rfl, hbg, setRow_heap w g cur _ 5 _ hg, hroom, hcm, ?_, ?_⟩⟩, ⟨rfl, rfl, rfl, by simp, fun k _ hk => setRow_other w g k _ (fun e => hk (by simp [Value.ownBlock, e]))⟩, Or.inl rfl⟩
        · have hcl : cur.toList.length = cur.size := Array.length_toList
          simp only [List.size_toArray, List.length_append, List.length_take, List.length_drop, hrl]
          omega
        · rw [htake, Nat.mul_one]
          exact List.take_left' (by rw [List.length_append, hxl, hrl])
      · have hr := run_append_grow (P := Tryz.prog) w 90 ty 5 i0 (.int .u8 0) Tryz.underlying90 hi hz0 ⟨g, 0, none⟩ n cap xs (by rw [hz1, hxl, Nat.mul_one]) (hown.cells (g := g) rfl) ad m c (rs.map (Value.int .u8)) (by rw [hz1, hrl, Nat.mul_one]) hc (by omega) (by omega) (by have := next_far (need := n + m) (old := cap) (by omega); rw [hz2]; omega)
        exact ⟨_, _, hr, made8 w base (n + m) _ _ _ (by simp) (by rw [List.length_append, hxl, hrl]) (grownCap_ge w (n + m) cap 5) (grownCap_le_maxLen w (n + m) cap 5 (by unfold maxLen; omega)) hbase, made_grown _ _ _ _, Or.inr rfl⟩
open Lib in
theorem run_str8 (w : World) (ty : TypeId) (base g n cap : Nat) (xs : List Value) (hown : w.ownsRow base 5 1 (.slice (some ⟨g, 0, none⟩) n cap) n xs) (hn : 0 < n) (s : ByteArray) (hbytes : n + s.size ≤ 140737489403904) (hbase : base ≤ w.heap.size) :
    ∃ v' w', (Builtin.append_ #[90, 9] ty #[.slice (some ⟨g, 0, none⟩) n cap, .string s]).run Tryz.prog w = .ok v' w' ∧ w'.ownsRow base 5 1 v' (n + s.size) (xs ++ strCells s) ∧ w.grownBy w' (some g) := by
  obtain ⟨i0, hi, hz0, hz1, hz2⟩ := info_parts info5
  by_cases hs : n + s.size ≤ 140737488355328
  · obtain ⟨v', w', h1, h2, h3, _⟩ := run_append_own_string (P := Tryz.prog) w base 90 9 ty 5 i0 Tryz.underlying90 Tryz.underlying9 hi hz0 hz1 hz2 _ n xs hown s (by unfold maxLen; omega) hs hbase
    exact ⟨v', w', h1, h2, h3⟩
  · have hxl := hown.1
    rw [Nat.mul_one] at hxl
    have hsl := strCells_length s
    rcases hown.2 with ⟨_, h0⟩ | ⟨g', cap', cur, he, hbg, hg, hnc, hcm, hcs, htake⟩
    · omega
    simp only [Value.slice.injEq, Option.some.injEq, Addr.mk.injEq, true_and, and_true] at he
    obtain ⟨rfl, rfl⟩ := he
    rw [Nat.mul_one] at htake
    by_cases hroom : n + s.size ≤ cap
    · have hr := run_append_room_string (P := Tryz.prog) w 90 9 ty 5 i0 Tryz.underlying90 Tryz.underlying9 hi hz1 g n cap cur hg s hroom (by omega)
      refine ⟨_, _, hr, ⟨by rw [List.length_append, hxl, hsl, Nat.mul_one], .inr ⟨g, cap, _, rfl, hbg, setRow_heap w g cur _ 5 _ hg, hroom, hcm, ?_, ?_⟩⟩, ⟨rfl, rfl, rfl, by simp, fun k _ hk => setRow_other w g k _ (fun e => hk (by simp [e]))⟩⟩
      · have hcl : cur.toList.length = cur.size := Array.length_toList
        simp only [List.size_toArray, List.length_append, List.length_take, List.length_drop, hsl]
        omega
      · rw [htake, Nat.mul_one]
        exact List.take_left' (by rw [List.length_append, hxl, hsl])
    · have hr := run_append_grow_string (P := Tryz.prog) w 90 9 ty 5 i0 (.int .u8 0) Tryz.underlying90 Tryz.underlying9 hi hz0 ⟨g, 0, none⟩ n cap xs (by rw [hz1, hxl, Nat.mul_one]) (hown.cells (g := g) rfl) s (by omega) (by omega) (by have := next_far (need := n + s.size) (old := cap) (by omega); rw [hz2]; omega)
      exact ⟨_, _, hr, made8 w base (n + s.size) _ _ _ (by simp) (by rw [List.length_append, hxl, hsl]) (grownCap_ge w (n + s.size) cap 5) (grownCap_le_maxLen w (n + s.size) cap 5 (by unfold maxLen; omega)) hbase, made_grown _ _ _ _⟩
/-- append(b, s...) onto a row of the call's own -/
theorem app_string8 {w : World} {ops : Array Oper} {rest : List Oper} {o : Oper} {a : Act} {Q : Exit → Act → World → Prop} (hgd : o.guard = none) (sl x : Operand)
    (ho : o.op = .call { callee := .builtin .append, args := #[sl, x], argTypes := #[90, 9] })
    (base g n cap : Nat) (xs : List Value) (hs : a.eval sl = .slice (some ⟨g, 0, none⟩) n cap) (hown : w.ownsRow base 5 1 (.slice (some ⟨g, 0, none⟩) n cap) n xs) (hn : 0 < n) (s : ByteArray) (hx : a.eval x = .string s)
    (hbytes : n + s.size ≤ 140737489403904) (hbase : base ≤ w.heap.size)
    (h : ∀ g' cap' w', base ≤ g' → w'.ownsRow base 5 1 (.slice (some ⟨g', 0, none⟩) (n + s.size) cap') (n + s.size) (xs ++ (nums s).map (Value.int .u8)) → w.grownBy w' (some g) → wpList Tryz.prog ops Q rest (a.put o.dst (.slice (some ⟨g', 0, none⟩) (n + s.size) cap')) w') :
    wpList Tryz.prog ops Q (o :: rest) a w := by
  refine wpList_plain hgd fun K hK => ?_
  obtain ⟨v', w', hrun, hown', hgrow⟩ := run_str8 w o.type base g n cap xs hown hn s hbytes hbase
  obtain ⟨g', cap', hv, hb⟩ := own_form hown' (by omega)
  rw [nums_cells] at hown'
  subst hv
  unfold Oper.wp
  simp only [execOp, ho, resolve, invoke, builtin, Sem.run_bind, Sem.run_pure, Result.andThen_ok, List.map_toArray, List.map_cons, List.map_nil, hs, hx, hrun]
  exact hK _ _ (h g' cap' w' hb hown' hgrow)
end Go.Proofs.YtmnbfcpkaglniaaGreatDoor
