/-
  slices.Clone of entries: the same cells in new memory; conditions: the form's own reach.
  What slices.Delete of one leaves in a row of cells, whatever an element's size: append where there is room, clear of one; no conditions.
  slices.Delete of one value out of a row of the call's own; no conditions.
-/
import Derived.Test.YtdaooapfokhfcaaGreatA06
import Derived.Test.YtdaooapfokhfcaaGreatA07
import Derived.Deep.RegionHeld3
namespace Go.Proofs.YtdaooapfokhfcaaGreat
open Go.RowKit
set_option linter.unusedVariables false
set_option linter.unusedSimpArgs false

set_option maxRecDepth 100000 in
set_option maxHeartbeats 400000 in
theorem clonePV (ao : Option Addr) (len cap : Nat) (xs : List Value) (w : World) (h : Shows w ao len cap 6 xs) (hb : len * 96 ≤ 140737488355328) :
    Calls Tryz.prog 107 #[.slice ao len cap] w fun e w' => ∃ v', e = .returned v' ∧ w'.ownsRow w.heap.size 104 6 v' len xs ∧ Below w.heap.size w w' := by
  cases ao with
  | none =>
    obtain ⟨rfl, rfl⟩ := h.none rfl
    obtain rfl : xs = [] := List.eq_nil_of_length_eq_zero (by simpa using h.length)
    clear h
    have he : ∀ w : World, (binOp .eql 79 (.slice none 0 0) (.slice none 0 0)).run Tryz.prog w = .ok (.bool true) w := fun _ => rfl
    go_enter Tryz.func107, Tryz.ntmps107
    go_wp2_with fail
    go_ret
    exact ⟨_, rfl, World.ownsRow_nil _ _ _ _, Below.refl _ _⟩
  | some a =>
    obtain ⟨i0, hi, hz0, hz1, hz2⟩ := info_parts infoPV
    have HI := hide (And.intro hi (And.intro hz0 (And.intro hz1 hz2)))
    have B1 : Below w.heap.size w (w.alloc (.cells #[] 104)) := (Below.refl _ _).alloc (Nat.le_refl _) _
    have HB1 := hide B1
    have HM := hide (made0 w 104 6)
    have HC : Hid (∀ j u, xs[j]? = some u → (w.alloc (.cells #[] 104)).cell? (a.add j) = some u) := hide (fun j u hu => by
      have h1 := h.cells a rfl j u hu
      rw [B1.cell (World.block_lt_of_cell? _ _ (by rw [h1]))]
      exact h1)
    have HX := hide (And.intro h.length h.one)
    have he : ∀ w : World, (binOp .eql 79 (.slice (some a) len cap) (.slice none 0 0)).run Tryz.prog w = .ok (.bool false) w := fun _ => rfl
    clear hi hz0 hz1 hz2 B1 h
    go_enter Tryz.func107, Tryz.ntmps107
    go_wp2_with (first | (at_builtin; refine wpList_append_own _ rfl (.tmp 5) (.tmp 6) 79 rfl w.heap.size 104 i0 (.agg #[.string ⟨#[]⟩, .int .i64 0, .int .i64 0, .string ⟨#[]⟩, .slice none 0 0, .slice none 0 0]) 6 96 Tryz.underlying79 (unhide HI).1 (unhide HI).2.1 (unhide HI).2.2.1 (unhide HI).2.2.2 rfl (by omega) _ 0 [] rfl (unhide HM) a len cap xs rfl (unhide HX).1 (unhide HC) (unhide HX).2 (by unfold maxLen; omega) (by omega) (by simp) ?_; intro v2 w2 hown2 hgrow2 _; have H2 := hide (And.intro hown2 hgrow2); clear hown2 hgrow2))
    go_ret
    obtain ⟨ho, hg⟩ := unhide H2
    refine ⟨_, rfl, by simpa using ho, (unhide HB1).grown hg (by simp) (fun k hk => ?_)⟩
    cases hk
    exact Nat.le_refl _
end Go.Proofs.YtdaooapfokhfcaaGreat

namespace Go.Proofs.YtdaooapfokhfcaaGreat
open Go.RowKit
set_option linter.unusedVariables false
set_option linter.unusedSimpArgs false

/-- append, at a step of a region that draws, where there is room -/
theorem step_roomR {w : World} {ops : Array Oper} {o : Oper} {a : Act} {K : Act → World → Prop} {Q : Exit → Act → World → Prop} {E : Prop} (hgd : o.guard = none) (s x : Operand) (t e : TypeId) (i0 : TypeInfo) (σ : Nat)
    (ho : o.op = .call { callee := .builtin .append, args := #[s, x], argTypes := #[t, t] }) (ht : Tryz.prog.underlying t = some (.slice e)) (hi : Tryz.prog.info? e = some i0) (hs2 : i0.size = σ)
    (b sLen sCap : Nat) (ad : Addr) (m c : Nat) (hs : a.eval s = .slice (some ⟨b, 0, none⟩) sLen sCap) (hx : a.eval x = .slice (some ad) m c) (cur news : List Value) (hg : w.heap[b]? = some (.cells cur.toArray e (0, 0))) (hl : news.length = m * σ) (hnews : ∀ j u, news[j]? = some u → w.cell? (ad.add j) = some u) (h1 : ∀ u ∈ news, u.oneCell' = true)
    (hroom : sLen + m ≤ sCap) (hfit : sLen * σ + news.length ≤ cur.length)
    (h : ∀ w', Hid (LaidR w w' b (splice cur (sLen * σ) news) e) → K (a.put o.dst (.slice (some ⟨b, 0, none⟩) (sLen + m) sCap)) w') :
    if Region.wanted o (yielded ops a.tmps) = true then Oper.wp Tryz.prog o a w K Q else E := by
  rw [if_pos (show Region.wanted o (yielded ops a.tmps) = true by simp [Region.wanted, hgd])]
  have hrun := run_append_room (P := Tryz.prog) w t o.type e i0 ht hi b sLen sCap cur.toArray hg ad m c news (by rw [hs2]; exact hl) hnews h1 hroom (by rw [hs2]; simpa using hfit)
  rw [hs2] at hrun
  unfold Oper.wp
  simp only [execOp, ho, resolve, invoke, builtin, Sem.run_bind, Sem.run_pure, Result.andThen_ok, List.map_toArray, List.map_cons, List.map_nil, hs, hx, hrun]
  have e1 : (cur.toArray.toList.take (sLen * σ) ++ news ++ cur.toArray.toList.drop (sLen * σ + news.length)) = splice cur (sLen * σ) news := by simp [splice]
  rw [e1]
  exact h _ (laidR_set hg _)

/-- clear of one element -/
theorem wpl_clearR {w : World} {ops : Array Oper} {rest : List Oper} {o : Oper} {a : Act} {Q : Exit → Act → World → Prop} (hgd : o.guard = none) (x : Operand) (t e : TypeId) (z : Value) (σ : Nat)
    (ho : o.op = .call { callee := .builtin .clear, args := #[x], argTypes := #[t] }) (ht : Tryz.prog.underlying t = some (.slice e)) (hz : ∀ w, (zeroValue e).run Tryz.prog w = .ok z w) (zl : List Value) (hzc : (Builtin.zeroCells z.cells 1).toList = zl) (hzl : zl.length = σ) (h1 : ∀ u ∈ zl, u.oneCell' = true)
    (b off c : Nat) (hx : a.eval x = .slice (some ⟨b, off, none⟩) 1 c) (cur : List Value) (T : TypeId) (hg : w.heap[b]? = some (.cells cur.toArray T (0, 0))) (hfit : off + σ ≤ cur.length)
    (h : ∀ w', Hid (LaidR w w' b (splice cur off zl) T) → wpList Tryz.prog ops Q rest (a.put o.dst (.tuple #[])) w') : wpList Tryz.prog ops Q (o :: rest) a w := by
  refine wpList_plain hgd fun K hK => ?_
  have hst := run_storeCells_at Tryz.prog b off T zl 0 cur.toArray w hg (by simpa [hzl] using hfit) h1
  have hrun : (Builtin.clear_ #[t] o.type #[.slice (some ⟨b, off, none⟩) 1 c]).run Tryz.prog w = .ok (.tuple #[]) (w.setRow b (splice cur off zl).toArray) := by
    simp [Builtin.clear_, run_underlying ht, hz, hzc, hst, splice]
  unfold Oper.wp
  simp only [execOp, ho, resolve, invoke, builtin, Sem.run_bind, Sem.run_pure, Result.andThen_ok, List.map_toArray, List.map_cons, List.map_nil, hx, hrun]
  exact hK _ _ (h _ (laidR_set hg _))

theorem splice_delR (cur xs zl : List Value) (σ N I : Nat) (hx : xs.length = N) (hz : zl.length = σ) (hi : I + σ ≤ N) (hc : N ≤ cur.length) (ht : cur.take N = xs) :
    (splice (splice cur I (xs.drop (I + σ))) (N - σ) zl).take (N - σ) = xs.take I ++ xs.drop (I + σ) ∧ (splice (splice cur I (xs.drop (I + σ))) (N - σ) zl).length = cur.length := by
  have hl : (xs.drop (I + σ)).length = N - (I + σ) := by rw [List.length_drop, hx]
  have h1 : (splice cur I (xs.drop (I + σ))).length = cur.length := length_splice _ _ _ (by rw [hl]; omega)
  have hti : cur.take I = xs.take I := by rw [← ht, List.take_take, Nat.min_eq_left (by omega)]
  refine ⟨?_, by rw [length_splice _ _ _ (by rw [h1, hz]; omega), h1]⟩
  have e1 : (splice (splice cur I (xs.drop (I + σ))) (N - σ) zl).take (N - σ) = (splice cur I (xs.drop (I + σ))).take (N - σ) := by
    generalize splice cur I (xs.drop (I + σ)) = M at h1
    have h2 : (M.take (N - σ)).length = N - σ := by rw [List.length_take, h1]; omega
    unfold splice
    rw [List.take_append_of_le_length (by omega), List.take_of_length_le (by omega)]
  have hlen : (xs.take I ++ xs.drop (I + σ)).length = N - σ := by rw [List.length_append, List.length_take, hl, hx]; omega
  rw [e1]
  unfold splice
  rw [hti, ← List.append_assoc, ← hlen, List.take_left]
end Go.Proofs.YtdaooapfokhfcaaGreat

namespace Go.Proofs.YtdaooapfokhfcaaGreat
open Go.RowKit
set_option linter.unusedVariables false
set_option linter.unusedSimpArgs false

theorem zcPV : (Builtin.zeroCells (.agg #[.string ⟨#[]⟩, .int .i64 0, .int .i64 0, .string ⟨#[]⟩, .slice none 0 0, .slice none 0 0] : Value).cells 1).toList = [.string ⟨#[]⟩, .int .i64 0, .int .i64 0, .string ⟨#[]⟩, .slice none 0 0, .slice none 0 0] := by
  simp [Builtin.zeroCells, List.range_succ, Value.cells]

theorem zoPV : ∀ u ∈ ([.string ⟨#[]⟩, .int .i64 0, .int .i64 0, .string ⟨#[]⟩, .slice none 0 0, .slice none 0 0] : List Value), u.oneCell' = true := by simp [Value.oneCell']

set_option maxRecDepth 100000 in
set_option maxHeartbeats 1000000 in
theorem deletePV (base : Nat) (xs : List Value) (n i b cap : Nat) (w : World) (ho : w.ownsRow base 104 6 (.slice (some ⟨b, 0, none⟩) n cap) n xs) (hl1 : ∀ u ∈ xs, u.oneCell' = true) (hi : i < n) (J : Int) (hJ : J = (i : Int) + 1) :
    Calls Tryz.prog 105 #[.slice (some ⟨b, 0, none⟩) n cap, .int .i64 i, .int .i64 J] w fun e w' => e = .returned (.slice (some ⟨b, 0, none⟩) (n - 1) cap) ∧ w'.ownsRow base 104 6 (.slice (some ⟨b, 0, none⟩) (n - 1) cap) (n - 1) (xs.take (i * 6) ++ xs.drop ((i + 1) * 6)) ∧ w.grownBy w' (some b) := by
  obtain ⟨i0, hi0, hz0, hz1, hz2⟩ := info_parts infoPV
  have hxl := ho.1
  obtain ⟨cur, hbase, hg, hc, hm, hcs, htk⟩ : ∃ cur : List Value, base ≤ b ∧ w.heap[b]? = some (.cells cur.toArray 104 (0, 0)) ∧ n ≤ cap ∧ cap ≤ maxLen ∧ cur.length = cap * 6 ∧ cur.take (n * 6) = xs := by
    rcases ho.2 with ⟨e, _⟩ | ⟨g, cap', cur, e, hb, hg, hc, hm, hs, ht⟩
    · cases e
    · cases e
      exact ⟨cur.toList, hb, by simpa using hg, hc, hm, by simpa using hs, ht⟩
  have hcm : cap ≤ 9223372036854775807 := by unfold maxLen at hm; omega
  have hsrc : ∀ (u : World) (ad : Addr), u.heap[b]? = some (.cells cur.toArray 104 (0, 0)) → (i + 1 < n → ad = ⟨b, (i + 1) * 6, none⟩) → ∀ j v, (xs.drop ((i + 1) * 6))[j]? = some v → u.cell? (ad.add j) = some v := fun u ad hu had j v hj => by
    have hlt : i + 1 < n := by
      have := (List.getElem?_eq_some_iff.1 hj).1
      rw [List.length_drop, hxl] at this
      omega
    rw [had hlt, add_offR, cell_of_row u b _ _ _ (0, 0) hu]
    rw [List.getElem?_drop, ← htk] at hj
    rw [List.getElem?_take] at hj
    split at hj
    · simpa using hj
    · cases hj
  have HP : Hid (∀ u ∈ xs.drop ((i + 1) * 6), u.oneCell' = true) := hide (fun u hu => hl1 u (List.mem_of_mem_drop hu))
  have HG := hide hg
  have HS := hide hsrc
  have HC := hide (And.intro hbase (And.intro hcs (And.intro htk (And.intro hm hxl))))
  have HL : Hid ((xs.drop ((i + 1) * 6)).length = (n - (i + 1)) * 6) := hide (by rw [List.length_drop, hxl]; omega)
  have HF : Hid (i * 6 + (xs.drop ((i + 1) * 6)).length ≤ cur.length) := hide (by rw [unhide HL, hcs]; omega)
  obtain ⟨ds, hds⟩ : ∃ ds, xs.drop ((i + 1) * 6) = ds := ⟨_, rfl⟩
  rw [hds] at HL HF HS HP
  have HDS := hide hds
  have i1 : (0 : Int) ≤ (i : Int) := by omega
  have i2 : (i : Int) ≤ (i : Int) + 1 := by omega
  have i3 : (i : Int) + 1 ≤ (n : Int) := by omega
  have i4 : (n : Int) ≤ (cap : Int) := by omega
  have i5 : ¬ ((i : Int) = (i : Int) + 1) := by omega
  have i6 : ((i : Int) + 1).toNat = i + 1 := by omega
  have i7 : (0 : Int) ≤ (i : Int) + 1 := by omega
  have i8 : ¬ (n = i) := by omega
  have i9 : ¬ (cap = i) := by omega
  have i10 : (i : Int) ≤ (cap : Int) := by omega
  have i11 : (i : Int) + 1 ≤ (cap : Int) := by omega
  subst hJ
  clear ho hl1 hg hsrc hbase hcs hm htk hds hxl
  have fin : Hid (∀ w1 w2 : World, LaidR w.drew w1 b (splice cur (i * 6) ds) 104 → LaidR w1 w2 b (splice (splice cur (i * 6) ds) ((n - 1) * 6) [.string ⟨#[]⟩, .int .i64 0, .int .i64 0, .string ⟨#[]⟩, .slice none 0 0, .slice none 0 0]) 104 →
      w2.ownsRow base 104 6 (.slice (some ⟨b, 0, none⟩) (n - 1) cap) (n - 1) (xs.take (i * 6) ++ xs.drop ((i + 1) * 6)) ∧ w.grownBy w2 (some b)) := hide (fun w1 w2 H1 H2 => by
    obtain ⟨hbase, hcs, htk, hm, hxl⟩ := unhide HC
    obtain ⟨hs1, hs2⟩ := splice_delR cur xs [.string ⟨#[]⟩, .int .i64 0, .int .i64 0, .string ⟨#[]⟩, .slice none 0 0, .slice none 0 0] 6 (n * 6) (i * 6) hxl rfl (by omega) (by omega) htk
    have e1 : i * 6 + 6 = (i + 1) * 6 := by omega
    have e2 : n * 6 - 6 = (n - 1) * 6 := by omega
    rw [e1, unhide HDS, e2] at hs1 hs2
    refine ⟨⟨?_, .inr ⟨b, cap, _, rfl, hbase, H2.here, by omega, hm, by rw [List.size_toArray, hs2, hcs], ?_⟩⟩, ⟨?_, ?_, ?_, ?_, fun k hk hne' => ?_⟩⟩
    · simp only [List.length_append, List.length_take, List.length_drop, hxl]
      omega
    · rw [List.toList_toArray, unhide HDS, show (n - 1) * 6 = (n - 1) * 6 by omega]
      exact hs1
    · exact H2.os.trans H1.os
    · exact H2.tape.trans H1.tape
    · exact H2.output.trans H1.output
    · rw [H2.size, H1.size]
      exact Nat.le_refl _
    · have hk2 : k ≠ b := fun e => hne' (by rw [e])
      rw [H2.other k hk2, H1.other k hk2]
      rfl)
  by_cases hcp : cap = i + 1
  · subst hcp
    go_enter Tryz.func105, Tryz.ntmps105
    go_wp2_with fail
    go_region_held3 (fun _ => True)
      (exact trivial)
      ((refine step_roomR (by rfl) (.tmp 22) (.tmp 25) 79 104 i0 6 (by rfl) Tryz.underlying79 hi0 hz1 b i (i + 1) ⟨b, 0, none⟩ 0 0 (by rfl) (by rfl) cur ds (unhide HG) (by have := unhide HL; omega) (unhide HS _ _ (unhide HG) (by omega)) (unhide HP) (by omega) (unhide HF) ?_; rw [show i + 0 = n - 1 by omega]; intro w1 H1))
    have hs1 : (splice cur (i * 6) ds).length = cur.length := length_splice _ _ _ (unhide HF)
    have HF1 : Hid ((n - 1) * 6 + 6 ≤ (splice cur (i * 6) ds).length) := hide (by rw [hs1]; have := (unhide HC).2.1; omega)
    clear hs1
    have j1 : ((n - 1 : Nat) : Int) ≤ (n : Int) := by omega
    have j2 : ¬ (i + 1 = n - 1) := by omega
    have j3 : (0 : Int) ≤ ((n - 1 : Nat) : Int) := by omega
    have j4 : n - (n - 1) = 1 := by omega
    have tok1 : True := trivial
    go_wp2_with (first | (have _t := tok1; refine wpl_clearR rfl (.tmp 31) 79 104 _ 6 rfl Tryz.underlying79 Tryz.zeroValue104 [.string ⟨#[]⟩, .int .i64 0, .int .i64 0, .string ⟨#[]⟩, .slice none 0 0, .slice none 0 0] zcPV rfl zoPV b ((n - 1) * 6) (i + 1 - (n - 1)) (by simp [Act.eval, Act.put, j4]) (splice cur (i * 6) ds) 104 (unhide H1).here (unhide HF1) ?_; intro w2 H2; clear tok1))
    go_ret
    exact ⟨rfl, unhide fin w1 w2 (unhide H1) (unhide H2)⟩
  · go_enter Tryz.func105, Tryz.ntmps105
    go_wp2_with fail
    go_region_held3 (fun _ => True)
      (exact trivial)
      ((refine step_roomR (by rfl) (.tmp 22) (.tmp 25) 79 104 i0 6 (by rfl) Tryz.underlying79 hi0 hz1 b i cap ⟨b, (i + 1) * 6, none⟩ (n - (i + 1)) (cap - (i + 1)) (by rfl) (by rfl) cur ds (unhide HG) (by have := unhide HL; omega) (unhide HS _ _ (unhide HG) (by intro _; rfl)) (unhide HP) (by omega) (unhide HF) ?_; rw [show i + (n - (i + 1)) = n - 1 by omega]; intro w1 H1))
    have hs1 : (splice cur (i * 6) ds).length = cur.length := length_splice _ _ _ (unhide HF)
    have HF1 : Hid ((n - 1) * 6 + 6 ≤ (splice cur (i * 6) ds).length) := hide (by rw [hs1]; have := (unhide HC).2.1; omega)
    clear hs1
    have j1 : ((n - 1 : Nat) : Int) ≤ (n : Int) := by omega
    have j2 : ¬ (cap = n - 1) := by omega
    have j3 : (0 : Int) ≤ ((n - 1 : Nat) : Int) := by omega
    have j4 : n - (n - 1) = 1 := by omega
    have tok1 : True := trivial
    go_wp2_with (first | (have _t := tok1; refine wpl_clearR rfl (.tmp 31) 79 104 _ 6 rfl Tryz.underlying79 Tryz.zeroValue104 [.string ⟨#[]⟩, .int .i64 0, .int .i64 0, .string ⟨#[]⟩, .slice none 0 0, .slice none 0 0] zcPV rfl zoPV b ((n - 1) * 6) (cap - (n - 1)) (by simp [Act.eval, Act.put, j4]) (splice cur (i * 6) ds) 104 (unhide H1).here (unhide HF1) ?_; intro w2 H2; clear tok1))
    go_ret
    exact ⟨rfl, unhide fin w1 w2 (unhide H1) (unhide H2)⟩

end Go.Proofs.YtdaooapfokhfcaaGreat
