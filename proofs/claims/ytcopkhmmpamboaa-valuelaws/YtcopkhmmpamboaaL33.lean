/-
  What slices.Delete of one leaves in a row of cells, whatever an element's size: append where there is room, clear of one; no conditions.
-/
import Derived.Test.YtcopkhmmpamboaaL26
namespace Go.Proofs.Ytcopkhmmpamboaa
open Go.RowKit
set_option linter.unusedVariables false
set_option linter.unusedSimpArgs false

/-- append, at a step of a region that draws, where there is room -/
theorem step_roomR {w : World} {ops : Array Oper} {o : Oper} {a : Act} {K : Act → World → Prop} {Q : Exit → Act → World → Prop} {E : Prop} (hgd : o.guard = none) (s x : Operand) (t e : TypeId) (i0 : TypeInfo) (σ : Nat)
    (ho : o.op = .call { callee := .builtin .append, args := #[s, x], argTypes := #[t, t] }) (ht : Try.prog.underlying t = some (.slice e)) (hi : Try.prog.info? e = some i0) (hs2 : i0.size = σ)
    (b sLen sCap : Nat) (ad : Addr) (m c : Nat) (hs : a.eval s = .slice (some ⟨b, 0, none⟩) sLen sCap) (hx : a.eval x = .slice (some ad) m c) (cur news : List Value) (hg : w.heap[b]? = some (.cells cur.toArray e (0, 0))) (hl : news.length = m * σ) (hnews : ∀ j u, news[j]? = some u → w.cell? (ad.add j) = some u) (h1 : ∀ u ∈ news, u.oneCell' = true)
    (hroom : sLen + m ≤ sCap) (hfit : sLen * σ + news.length ≤ cur.length)
    (h : ∀ w', Hid (LaidR w w' b (splice cur (sLen * σ) news) e) → K (a.put o.dst (.slice (some ⟨b, 0, none⟩) (sLen + m) sCap)) w') :
    if Region.wanted o (yielded ops a.tmps) = true then Oper.wp Try.prog o a w K Q else E := by
  rw [if_pos (show Region.wanted o (yielded ops a.tmps) = true by simp [Region.wanted, hgd])]
  have hrun := run_append_room (P := Try.prog) w t o.type e i0 ht hi b sLen sCap cur.toArray hg ad m c news (by rw [hs2]; exact hl) hnews h1 hroom (by rw [hs2]; simpa using hfit)
  rw [hs2] at hrun
  unfold Oper.wp
  simp only [execOp, ho, resolve, invoke, builtin, Sem.run_bind, Sem.run_pure, Result.andThen_ok, List.map_toArray, List.map_cons, List.map_nil, hs, hx, hrun]
  have e1 : (cur.toArray.toList.take (sLen * σ) ++ news ++ cur.toArray.toList.drop (sLen * σ + news.length)) = splice cur (sLen * σ) news := by simp [splice]
  rw [e1]
  exact h _ (laidR_set hg _)

/-- clear of one element -/
theorem wpl_clearR {w : World} {ops : Array Oper} {rest : List Oper} {o : Oper} {a : Act} {Q : Exit → Act → World → Prop} (hgd : o.guard = none) (x : Operand) (t e : TypeId) (z : Value) (σ : Nat)
    (ho : o.op = .call { callee := .builtin .clear, args := #[x], argTypes := #[t] }) (ht : Try.prog.underlying t = some (.slice e)) (hz : ∀ w, (zeroValue e).run Try.prog w = .ok z w) (zl : List Value) (hzc : (Builtin.zeroCells z.cells 1).toList = zl) (hzl : zl.length = σ) (h1 : ∀ u ∈ zl, u.oneCell' = true)
    (b off c : Nat) (hx : a.eval x = .slice (some ⟨b, off, none⟩) 1 c) (cur : List Value) (T : TypeId) (hg : w.heap[b]? = some (.cells cur.toArray T (0, 0))) (hfit : off + σ ≤ cur.length)
    (h : ∀ w', Hid (LaidR w w' b (splice cur off zl) T) → wpList Try.prog ops Q rest (a.put o.dst (.tuple #[])) w') : wpList Try.prog ops Q (o :: rest) a w := by
  refine wpList_plain hgd fun K hK => ?_
  have hst := run_storeCells_at Try.prog b off T zl 0 cur.toArray w hg (by simpa [hzl] using hfit) h1
  have hrun : (Builtin.clear_ #[t] o.type #[.slice (some ⟨b, off, none⟩) 1 c]).run Try.prog w = .ok (.tuple #[]) (w.setRow b (splice cur off zl).toArray) := by
    simp [Builtin.clear_, run_underlying ht, hz, hzc, hst, splice]
  unfold Oper.wp
  simp only [execOp, ho, resolve, invoke, builtin, Sem.run_bind, Sem.run_pure, Result.andThen_ok, List.map_toArray, List.map_cons, List.map_nil, hx, hrun]
  exact hK _ _ (h _ (laidR_set hg _))

theorem splice_delR (cur xs zl : List Value) (σ N I : Nat) (hx : xs.length = N) (hz : zl.length = σ) (hi : I + σ ≤ N) (hc : N ≤ cur.length) (ht : cur.take N = xs) :
    (splice (splice cur I (xs.drop (I + σ))) (N - σ) zl).take (N - σ) = xs.take I ++ xs.drop (I + σ) ∧ (splice (splice cur I (xs.drop (I + σ))) (N - σ) zl).length = cur.length := by
  have hl : (xs.drop (I + σ)).length = N - (I + σ) := by rw [List.length_drop, hx]
  have h1 : (splice cur I (xs.drop (I + σ))).length = cur.length := length_splice _ _ _ (by rw [hl]; omega)
  have hti : cur.take I = xs.take I := by rw [← ht, List.take_take, Nat.min_eq_left (by omega)]
  refine ⟨?_, by rw [length_splice _ _ _ (by rw [h1, hz]; omega), h1]⟩
  have e1 : (splice (splice cur I (xs.drop (I + σ))) (N - σ) zl).take (N - σ) = (splice cur I (xs.drop (I + σ))).take (N - σ) := by
    generalize splice cur I (xs.drop (I + σ)) = M at h1
    have h2 : (M.take (N - σ)).length = N - σ := by rw [List.length_take, h1]; omega
    unfold splice
    rw [List.take_append_of_le_length (by omega), List.take_of_length_le (by omega)]
  have hlen : (xs.take I ++ xs.drop (I + σ)).length = N - σ := by rw [List.length_append, List.length_take, hl, hx]; omega
  rw [e1]
  unfold splice
  rw [hti, ← List.append_assoc, ← hlen, List.take_left]
end Go.Proofs.Ytcopkhmmpamboaa
