/-
  The walk of num.PutText, and what append lays behind a row of the call's own; conditions: the lengths together are below 2^47.
-/
import Derived.Test.YtfdnhpmldnmncaaLaw1
import Derived.Lib.AppendStr
import Derived.Laws.AppendOwnNone
namespace Go.Proofs.Ytfdnhpmldnmncaa
open Go.RowKit

/-- a text's bytes as numbers -/
def nums (s : ByteArray) : List Int := s.data.toList.map fun b => (b.toNat : Int)

theorem nums_len (s : ByteArray) : (nums s).length = s.size := by
  unfold nums; rw [List.length_map, Array.length_toList]; rfl

theorem nums_cells (s : ByteArray) : Lib.strCells s = (nums s).map (Value.int .u8) := by
  unfold nums Lib.strCells; rw [List.map_map]; rfl

theorem nums_small (s : ByteArray) : ∀ n ∈ nums s, 0 ≤ n ∧ n ≤ 255 := by
  intro n hn
  unfold nums at hn
  obtain ⟨b, _, rfl⟩ := List.mem_map.1 hn
  have := b.toNat_lt
  omega

theorem nums_str (s : ByteArray) : strOfNums (nums s) = s := by
  apply Go.WideShapes.bytes_inj
  rw [strOfNums_data]
  unfold nums
  rw [List.map_map]
  conv => rhs; rw [← List.map_id s.data.toList]
  apply List.map_congr_left
  intro b _
  simp

theorem own_form {w : World} {base : Nat} {v : Value} {n : Nat} {xs : List Value} (h : w.ownsRow base 5 1 v n xs) (hn : 0 < n) : ∃ g cap, v = .slice (some ⟨g, 0, none⟩) n cap ∧ base ≤ g := by
  rcases h.2 with ⟨_, e⟩ | ⟨g, cap, cur, e, hb, _⟩
  · omega
  · exact ⟨g, cap, e, hb⟩

theorem withRoom_int (ao : Option Addr) (len cap r : Nat) (R : Int) (hR : R = (r : Int)) (zs : List Int) (w : World) (hr : Row8 w ao len cap zs) (hm : len + r ≤ 281474976710656) :
    Calls Try.prog 52 #[.slice ao len cap, .int .i64 R] w fun e w' => e = .returned (.slice (some ⟨w.heap.size, 0, none⟩) len (len + r)) ∧
      w'.ownsRow w.heap.size 5 1 (.slice (some ⟨w.heap.size, 0, none⟩) len (len + r)) len (zs.map (Value.int .u8)) ∧ Below w.heap.size w w' := by
  subst hR
  exact withRoom_any ao len cap r zs w hr hm

/-- append of a text's bytes, onto a row of the call's own, the new value written out -/
theorem app_string {w : World} {ops : Array Oper} {rest : List Oper} {o : Oper} {a : Act} {Q : Exit → Act → World → Prop} (hgd : o.guard = none) (sl x : Operand)
    (ho : o.op = .call { callee := .builtin .append, args := #[sl, x], argTypes := #[22, 9] })
    (base g n cap : Nat) (xs : List Value) (hs : a.eval sl = .slice (some ⟨g, 0, none⟩) n cap) (hown : w.ownsRow base 5 1 (.slice (some ⟨g, 0, none⟩) n cap) n xs) (hn : 0 < n) (s : ByteArray) (hx : a.eval x = .string s)
    (hbytes : n + s.size ≤ 140737488355328) (hbase : base ≤ w.heap.size)
    (h : ∀ g' cap' w', base ≤ g' → w'.ownsRow base 5 1 (.slice (some ⟨g', 0, none⟩) (n + s.size) cap') (n + s.size) (xs ++ (nums s).map (Value.int .u8)) → w.grownBy w' (some g) → wpList Try.prog ops Q rest (a.put o.dst (.slice (some ⟨g', 0, none⟩) (n + s.size) cap')) w') :
    wpList Try.prog ops Q (o :: rest) a w := by
  obtain ⟨i0, hi, hz0, hz1, hz2⟩ := info_parts info5
  refine Lib.wpList_append_own_string w hgd sl x 22 9 ho base 5 i0 Try.underlying22 Try.underlying9 hi hz0 hz1 hz2 _ n xs hs hown s hx (by unfold maxLen; omega) hbytes hbase ?_
  intro v' w' hown' hgrow _
  obtain ⟨g', cap', hv, hb⟩ := own_form hown' (by omega)
  rw [nums_cells] at hown'
  rw [hv] at hown' ⊢
  exact h g' cap' w' hb hown' hgrow

/-- append of a slice of bytes, nil or not, onto a row of the call's own, the new value written out -/
theorem app_row {w : World} {ops : Array Oper} {rest : List Oper} {o : Oper} {a : Act} {Q : Exit → Act → World → Prop} (hgd : o.guard = none) (sl x : Operand)
    (ho : o.op = .call { callee := .builtin .append, args := #[sl, x], argTypes := #[22, 22] })
    (base g n cap : Nat) (xs : List Value) (hs : a.eval sl = .slice (some ⟨g, 0, none⟩) n cap) (hown : w.ownsRow base 5 1 (.slice (some ⟨g, 0, none⟩) n cap) n xs) (hn : 0 < n)
    (ao : Option Addr) (m c : Nat) (rs : List Int) (hx : a.eval x = .slice ao m c) (hr : Row8 w ao m c rs)
    (hbytes : n + m ≤ 140737488355328) (hbase : base ≤ w.heap.size)
    (h : ∀ g' cap' w', base ≤ g' → w'.ownsRow base 5 1 (.slice (some ⟨g', 0, none⟩) (n + m) cap') (n + m) (xs ++ rs.map (Value.int .u8)) → w.grownBy w' (some g) → wpList Try.prog ops Q rest (a.put o.dst (.slice (some ⟨g', 0, none⟩) (n + m) cap')) w') :
    wpList Try.prog ops Q (o :: rest) a w := by
  obtain ⟨i0, hi, hz0, hz1, hz2⟩ := info_parts info5
  have hl := hr.length
  obtain ⟨_, _, e, hg0⟩ := own_form hown hn
  cases ao with
  | none =>
    obtain ⟨rfl, rfl⟩ := hr.none rfl
    have hrs : rs = [] := List.eq_nil_of_length_eq_zero hl
    subst hrs
    refine wpList_append_own_none hgd sl x 22 ho base 5 i0 1 Try.underlying22 hi _ n xs hs hown hx ?_
    cases e
    have := h g cap w hg0 (by simpa using hown) (World.grownBy.refl _ _)
    simpa using this
  | some ad =>
    refine wpList_append_own w hgd sl x 22 ho base 5 i0 (.int .u8 0) 1 1 Try.underlying22 hi hz0 hz1 hz2 rfl (by decide) _ n xs hs hown ad m c (rs.map (Value.int .u8)) hx (by simp [hl]) (hr.cells ad rfl) (ints_oneCell _ _) (by unfold maxLen; omega) (by omega) hbase ?_
    intro v' w' hown' hgrow _
    obtain ⟨g', cap', hv, hb⟩ := own_form hown' (by omega)
    rw [hv] at hown' ⊢
    exact h g' cap' w' hb hown' hgrow

set_option maxRecDepth 100000 in
set_option maxHeartbeats 400000 in
theorem putText_any (ao : Option Addr) (len cap : Nat) (s : ByteArray) (zs : List Int) (w : World) (hr : Row8 w ao len cap zs) (hm : len + 10 + s.size ≤ 140737488355328) :
    Calls Try.prog 31 #[.slice ao len cap, .string s] w fun e w' => ∃ g c : Nat, w.heap.size ≤ g ∧ e = .returned (.slice (some ⟨g, 0, none⟩) (len + (encF 9 s.size).length + s.size) c) ∧
      w'.ownsRow w.heap.size 5 1 (.slice (some ⟨g, 0, none⟩) (len + (encF 9 s.size).length + s.size) c) (len + (encF 9 s.size).length + s.size) ((zs ++ encF 9 s.size ++ nums s).map (Value.int .u8)) ∧ Below w.heap.size w w' := by
  have hL := encF_len 9 (s.size : Int)
  go_enter Try.func31, Try.ntmps31
  go_wp2_with fail
  refine (withRoom_int ao len cap (10 + s.size) _ (by omega) zs w hr (by omega)).mono ?_
  rintro e w1 ⟨rfl, hown, hb1⟩
  have hs1 := hb1.size
  go_wp2_with fail
  refine (layUint_any w.heap.size len (len + (10 + s.size)) (s.size : Int) (zs.map (Value.int .u8)) w1 w.heap.size (by omega) (by omega) hs1 (Nat.le_refl _) hown (by omega)).mono ?_
  rintro e w2 ⟨rfl, hown2, hb2⟩
  rw [← List.map_append] at hown2
  have hb12 := hb1.trans hb2
  have hs2 := hb12.size
  clear hown hb1 hb2 hr
  go_wp2_with (first | (at_builtin; refine app_string rfl (.tmp 13) (.tmp 14) rfl w.heap.size w.heap.size (len + (encF 9 (s.size : Int)).length) (len + (10 + s.size)) _ rfl hown2 (by omega) s rfl (by omega) hs2 ?_; intro g' c' w3 hg3 hown3 hgrow3))
  rw [← List.map_append] at hown3
  go_ret
  exact ⟨g', c', hg3, rfl, hown3, hb12.grown hgrow3 hs2 (by simp)⟩
end Go.Proofs.Ytfdnhpmldnmncaa
