/-
  A module of the call's own that grows by a constant and a function; conditions: the form's own reach.
-/
import Derived.Test.YtdlgehnplkeoiaaGreatDoorB43
set_option linter.unusedVariables false
set_option linter.unusedSimpArgs false
namespace Go.Proofs.YtdlgehnplkeoiaaGreatDoor
open Go.RowKit
set_option linter.unusedVariables false
set_option linter.unusedSimpArgs false

/-- a module in new memory, its rows the call's own -/
structure OwM (w w' : World) (m : Md) (a1 : Option Addr) (n1 c1 : Nat) (a2 : Option Addr) (n2 c2 : Nat) (a3 : Option Addr) (n3 c3 : Nat) : Prop where
  oL : ∃ V : Nat → List Value, w'.ownsRow (w.heap.size + 2) 45 5 (.slice a1 n1 c1) n1 (flat V n1) ∧ (∀ c, c < n1 → (V c).length = 5) ∧ ∀ c y, c < n1 → m.cs[c]? = some y → IsP w' (fun b => b < w'.heap.size ∧ some b ≠ (Value.slice a1 n1 c1).ownBlock ∧ some b ≠ (Value.slice a2 n2 c2).ownBlock) y (.agg (V c).toArray)
  ob : w'.ownsRow (w.heap.size + 2) 42 4 (.slice a2 n2 c2) n2 (m.fs.map fnV).flatten
  oc : w'.ownsRow (w.heap.size + 2) 53 2 (.slice a3 n3 c3) n3 (m.xs.map exV).flatten
  bf : ∀ f ∈ m.fs, f.2.2.2.size ≤ 140737488351232
  bx : ∀ f ∈ m.xs, f.1.size ≤ 140737488351232

theorem fl4 (fs : List Fn) : ∀ r ∈ fs.map fnV, r.length = 4 := fun r hr => by obtain ⟨f, _, rfl⟩ := List.mem_map.1 hr; rfl
theorem fl2 (xs : List Ex) : ∀ r ∈ xs.map exV, r.length = 2 := fun r hr => by obtain ⟨f, _, rfl⟩ := List.mem_map.1 hr; rfl

theorem OwM.isM {w w' : World} {m : Md} {a1 : Option Addr} {n1 c1 : Nat} {a2 : Option Addr} {n2 c2 : Nat} {a3 : Option Addr} {n3 c3 : Nat} (h : OwM w w' m a1 n1 c1 a2 n2 c2 a3 n3 c3) (hn1 : m.cs.length = n1) (hn2 : m.fs.length = n2) (hn3 : m.xs.length = n3) (b1 : n1 ≤ 140737488351232) (b2 : n2 ≤ 140737488351232) (b3 : n3 ≤ 140737488351232) :
    IsM w' (fun b => b < w'.heap.size) m a1 c1 a2 c2 a3 c3 := by
  obtain ⟨V, h1, h2, h3⟩ := h.oL
  refine ⟨own_isC hn1 b1 h2 h1 (fun a ha => (h1.lt a.block (by rw [ha]; rfl)).2) (fun c y hc hy => (h3 c y hc hy).weak (fun b hb => hb.1)), ?_, ?_, h.bf, h.bx⟩
  · exact own_isT (by omega) (fl4 _) (by rw [List.length_map, hn2]) (by omega) h.ob
  · exact own_isT (by omega) (fl2 _) (by rw [List.length_map, hn3]) (by omega) h.oc

/-- the same, held by a variable -/
structure Gr (w wr : World) (Q : Nat) (L1 L2 L3 : Value) (cs : List Vl) (fs : List Fn) (xs : List Ex) (V : Nat → List Value) (n1 n2 n3 : Nat) : Prop where
  below : Below w.heap.size w wr
  oL : wr.ownsRow w.heap.size 45 5 L1 n1 (flat V n1)
  ob : wr.ownsRow w.heap.size 42 4 L2 n2 (fs.map fnV).flatten
  oc : wr.ownsRow w.heap.size 53 2 L3 n3 (xs.map exV).flatten
  od : wr.heap[Q]? = some (.cells #[L1, L2, L3] 27 (0, 0))
  gq : w.heap.size ≤ Q
  row : ∀ c, c < n1 → (V c).length = 5
  el : ∀ c y, c < n1 → cs[c]? = some y → IsP wr (fun b => b < wr.heap.size ∧ some b ≠ L1.ownBlock ∧ some b ≠ L2.ownBlock ∧ b ≠ Q) y (.agg (V c).toArray)

theorem own_base {w : World} {b b' : Nat} {e : TypeId} {s n : Nat} {v : Value} {xs : List Value} (h : w.ownsRow b e s v n xs) (hb : b' ≤ b) : w.ownsRow b' e s v n xs := by
  refine ⟨h.1, ?_⟩
  rcases h.2 with q | ⟨g, c, cur, q1, q2, q3⟩
  · exact Or.inl q
  · exact Or.inr ⟨g, c, cur, q1, by omega, q3⟩

/-- one constant more -/
theorem Gr.pushC {w wr w5 w6 w7 : World} {Q g7 cap7 n1 n2 n3 : Nat} {L1 L2 L3 : Value} {cs : List Vl} {fs : List Fn} {xs : List Ex} {V : Nat → List Value} {y : Vl} {c5 : List Value} (h : Gr w wr Q L1 L2 L3 cs fs xs V n1 n2 n3) (hn1 : cs.length = n1)
    (b5 : Below wr.heap.size wr w5) (b6 : Below w5.heap.size w5 w6) (hown : w7.ownsRow w.heap.size 45 5 (.slice (some ⟨g7, 0, none⟩) (n1 + 1) cap7) (n1 + 1) (flat V n1 ++ c5)) (hgrow : w6.grownBy w7 L1.ownBlock) (hat : L1.ownBlock = some g7 ∨ g7 = w6.heap.size) (hg7 : g7 < w7.heap.size)
    (hc5 : c5.length = 5) (he : IsP w5 (fun b => b < w5.heap.size ∧ some b ≠ L1.ownBlock ∧ some b ≠ L2.ownBlock ∧ b ≠ Q) y (.agg c5.toArray)) :
    Gr w (w7.setCell ⟨Q, 0, none⟩ (.slice (some ⟨g7, 0, none⟩) (n1 + 1) cap7)) Q (.slice (some ⟨g7, 0, none⟩) (n1 + 1) cap7) L2 L3 (cs ++ [y]) fs xs (setV V n1 c5) (n1 + 1) n2 n3 := by
  have hqdl : Q < wr.heap.size := (Array.getElem?_eq_some_iff.1 h.od).1
  have s5 := b5.size
  have s6 := b6.size
  have s7 := hgrow.size
  have hLqd := own_off h.oL h.od (by decide)
  have hLlt : ∀ b, L1.ownBlock = some b → w.heap.size ≤ b ∧ b < wr.heap.size := h.oL.lt
  have hk : ∀ b, b < wr.heap.size → some b ≠ L1.ownBlock → b ≠ Q → (w7.setCell ⟨Q, 0, none⟩ (.slice (some ⟨g7, 0, none⟩) (n1 + 1) cap7)).heap[b]? = wr.heap[b]? := fun b h1 h2 h3 => by
    rw [heap_setCell_other _ _ _ _ h3, hgrow.block b (by omega) h2, b6.block b (by omega), b5.block b h1]
  have hbb : ∀ b, L2.ownBlock = some b → some b ≠ L1.ownBlock ∧ b ≠ Q := fun b hb => ⟨apart_at h.ob h.oL (by decide) b hb, fun e => own_off h.ob h.od (by decide) (by rw [hb, e])⟩
  have hcc : ∀ b, L3.ownBlock = some b → some b ≠ L1.ownBlock ∧ b ≠ Q := fun b hb => ⟨apart_at h.oc h.oL (by decide) b hb, fun e => own_off h.oc h.od (by decide) (by rw [hb, e])⟩
  have hodw7 : w7.heap[Q]? = some (.cells #[L1, L2, L3] 27 (0, 0)) := by
    rw [hgrow.block Q (by omega) (fun e => hLqd e.symm), b6.block Q (by omega), b5.block Q hqdl]
    exact h.od
  have hg7qd : g7 ≠ Q := by
    rcases hat with e | e
    · exact fun e2 => hLqd (by rw [e, e2])
    · omega
  have hnew : ∀ b, b < wr.heap.size → some b ≠ L1.ownBlock → some b ≠ (Value.slice (some ⟨g7, 0, none⟩) (n1 + 1) cap7).ownBlock := fun b h1 h2 e => by
    have e' : b = g7 := Option.some.inj e
    rcases hat with q | q
    · exact h2 (by rw [q, e'])
    · omega
  refine ⟨?_, ?_, own_later h.ob (fun b hl hb => hk b hl (hbb b hb).1 (hbb b hb).2), own_later h.oc (fun b hl hb => hk b hl (hcc b hb).1 (hcc b hb).2), ?_, h.gq, fun c hc => ?_, fun c z hc hz => ?_⟩
  · have b0 := h.below
    have b1 := b0.trans ((b5.trans (b6.mono s5)).mono b0.size)
    exact (b1.grown hgrow (by have := b0.size; omega) (fun k hk' => by have := (hLlt k hk').1; omega)).setCell (p := ⟨Q, 0, none⟩) (by have := h.gq; show w.heap.size ≤ Q; omega) _
  · rw [flat_set]
    exact own_later hown (fun b hl hb => heap_setCell_other _ _ _ _ (fun e => by
      have e' : g7 = b := Option.some.inj hb
      exact hg7qd (by rw [e']; exact e)))
  · have e0 := heap_setCell_same w7 Q 0 _ 27 (.slice (some ⟨g7, 0, none⟩) (n1 + 1) cap7) hodw7
    simpa only [List.setIfInBounds_toArray, List.set_cons_zero, List.set_cons_succ] using e0
  · by_cases hci : c = n1
    · subst hci
      rw [setV_same]
      exact hc5
    · rw [setV_other _ _ _ (by omega)]
      exact h.row c (by omega)
  · have hsz : (w7.setCell ⟨Q, 0, none⟩ (.slice (some ⟨g7, 0, none⟩) (n1 + 1) cap7)).heap.size = w7.heap.size := by simp
    by_cases hci : c = n1
    · subst hci
      rw [← hn1, List.getElem?_append_right (Nat.le_refl _), Nat.sub_self] at hz
      cases hz
      rw [setV_same]
      refine (he.move (fun b hb => ?_)).weak (fun b hb => ⟨by rw [hsz]; have := hb.1; omega, fun e => ?_, hb.2.2⟩)
      · rw [heap_setCell_other _ _ _ _ hb.2.2.2, hgrow.block b (by have := hb.1; omega) hb.2.1, b6.block b hb.1]
      · have e' : b = g7 := Option.some.inj e
        rcases hat with q | q
        · exact hb.2.1 (by rw [q, e'])
        · have := hb.1
          omega
    · rw [setV_other _ _ _ (by omega)]
      rw [List.getElem?_append_left (by omega)] at hz
      refine ((h.el c z (by omega) hz).move (fun b hb => hk b hb.1 hb.2.1 hb.2.2.2)).weak (fun b hb => ⟨by rw [hsz]; have := hb.1; omega, hnew b hb.1 hb.2.1, hb.2.2⟩)

/-- one function more -/
theorem Gr.pushF {w wr w6 w7 : World} {Q n1 n2 n3 : Nat} {L1 L2 L3 v' : Value} {cs : List Vl} {fs : List Fn} {xs : List Ex} {V : Nat → List Value} {x : Fn} (h : Gr w wr Q L1 L2 L3 cs fs xs V n1 n2 n3)
    (b6 : Below wr.heap.size wr w6) (hown : w7.ownsRow w.heap.size 42 4 v' (n2 + 1) ((fs.map fnV).flatten ++ fnV x)) (hg : Grew w6 w7 L2 v') :
    Gr w (w7.setCell ⟨Q, 1, none⟩ v') Q L1 v' L3 cs (fs ++ [x]) xs V n1 (n2 + 1) n3 := by
  have hqdl : Q < wr.heap.size := (Array.getElem?_eq_some_iff.1 h.od).1
  have s6 := b6.size
  have hgrow := hg.grown
  have s7 := hgrow.size
  have hLqd := own_off h.ob h.od (by decide)
  have hLlt : ∀ b, L2.ownBlock = some b → w.heap.size ≤ b ∧ b < wr.heap.size := h.ob.lt
  have hk : ∀ b, b < wr.heap.size → some b ≠ L2.ownBlock → b ≠ Q → (w7.setCell ⟨Q, 1, none⟩ v').heap[b]? = wr.heap[b]? := fun b h1 h2 h3 => by
    rw [heap_setCell_other _ _ _ _ h3, hgrow.block b (by omega) h2, b6.block b h1]
  have haa : ∀ b, L1.ownBlock = some b → some b ≠ L2.ownBlock ∧ b ≠ Q := fun b hb => ⟨apart_at h.oL h.ob (by decide) b hb, fun e => own_off h.oL h.od (by decide) (by rw [hb, e])⟩
  have hcc : ∀ b, L3.ownBlock = some b → some b ≠ L2.ownBlock ∧ b ≠ Q := fun b hb => ⟨apart_at h.oc h.ob (by decide) b hb, fun e => own_off h.oc h.od (by decide) (by rw [hb, e])⟩
  have hodw7 : w7.heap[Q]? = some (.cells #[L1, L2, L3] 27 (0, 0)) := by
    rw [hgrow.block Q (by omega) (fun e => hLqd e.symm), b6.block Q hqdl]
    exact h.od
  have hnew : ∀ b, b < wr.heap.size → some b ≠ L2.ownBlock → some b ≠ v'.ownBlock := fun b h1 h2 e => by
    rcases hg.row b e.symm with q | q
    · exact h2 q.symm
    · omega
  refine ⟨?_, own_later h.oL (fun b hl hb => hk b hl (haa b hb).1 (haa b hb).2), ?_, own_later h.oc (fun b hl hb => hk b hl (hcc b hb).1 (hcc b hb).2), ?_, h.gq, h.row, fun c z hc hz => ?_⟩
  · have b0 := h.below
    have b1 := b0.trans (b6.mono b0.size)
    exact (b1.grown hgrow (by have := b0.size; omega) (fun k hk' => by have := (hLlt k hk').1; omega)).setCell (p := ⟨Q, 1, none⟩) (by have := h.gq; show w.heap.size ≤ Q; omega) _
  · rw [List.map_append, List.flatten_append, List.map_singleton, List.flatten_singleton]
    exact own_later hown (fun b hl hb => heap_setCell_other _ _ _ _ (fun e => own_off hown hodw7 (by decide) (by rw [hb]; exact congrArg some e)))
  · exact set3_1 hodw7 _
  · have hsz : (w7.setCell ⟨Q, 1, none⟩ v').heap.size = w7.heap.size := by simp
    exact ((h.el c z hc hz).move (fun b hb => hk b hb.1 hb.2.2.1 hb.2.2.2)).weak (fun b hb => ⟨by rw [hsz]; have := hb.1; omega, hb.2.1, hnew b hb.1 hb.2.2.1, hb.2.2.2⟩)

theorem Gr.isM {w wr : World} {Q : Nat} {a1 a2 a3 : Option Addr} {c1 c2 c3 n1 n2 n3 : Nat} {cs : List Vl} {fs : List Fn} {xs : List Ex} {V : Nat → List Value} (h : Gr w wr Q (.slice a1 n1 c1) (.slice a2 n2 c2) (.slice a3 n3 c3) cs fs xs V n1 n2 n3) (hn1 : cs.length = n1) (hn2 : fs.length = n2) (hn3 : xs.length = n3) (b1 : n1 ≤ 140737488351232) (b2 : n2 ≤ 140737488351232) (b3 : n3 ≤ 140737488351232)
    (bf : ∀ f ∈ fs, f.2.2.2.size ≤ 140737488351232) (bx : ∀ f ∈ xs, f.1.size ≤ 140737488351232) : IsM wr (fun b => b < wr.heap.size) ⟨cs, fs, xs⟩ a1 c1 a2 c2 a3 c3 := by
  refine ⟨own_isC hn1 b1 h.row h.oL (fun a ha => (h.oL.lt a.block (by rw [ha]; rfl)).2) (fun c y hc hy => (h.el c y hc hy).weak (fun b hb => hb.1)), ?_, ?_, bf, bx⟩
  · exact own_isT (by omega) (fl4 _) (by rw [List.length_map, hn2]) (by omega) h.ob
  · exact own_isT (by omega) (fl2 _) (by rw [List.length_map, hn3]) (by omega) h.oc

/-- append of one more onto a row of the call's own -/
theorem wpl_appO1 {w : World} {ops : Array Oper} {rest : List Oper} {o : Oper} {a : Act} {Q : Exit → Act → World → Prop} (hgd : o.guard = none) (sl x : Operand) (tS e : TypeId) (i0 : TypeInfo) (z : Value) (σ bytes : Nat)
    (hS : Tryz.prog.underlying tS = some (.slice e)) (hi : Tryz.prog.info? e = some i0) (hz0 : i0.zero = some z) (hz1 : i0.size = σ) (hz2 : i0.bytes = bytes) (hzc : z.cells.size = σ) (hsz : 0 < σ)
    (ho : o.op = .call { callee := .builtin .append, args := #[sl, x], argTypes := #[tS, tS] })
    (base : Nat) (v : Value) (n : Nat) (xs : List Value) (hs : a.eval sl = v) (hown : w.ownsRow base e σ v n xs) (ad : Addr) (c : Nat) (news : List Value) (hx : a.eval x = .slice (some ad) 1 c) (hl : news.length = 1 * σ)
    (hnews : ∀ j u, news[j]? = some u → w.cell? (ad.add j) = some u) (h1 : ∀ u ∈ news, u.oneCell' = true) (h63 : n + 1 ≤ maxLen) (hb : (n + 1) * bytes ≤ 140737488355328) (hbase : base ≤ w.heap.size)
    (h : ∀ v' w', Hid (w'.ownsRow base e σ v' (n + 1) (xs ++ news) ∧ Grew w w' v v') → wpList Tryz.prog ops Q rest (a.put o.dst v') w') : wpList Tryz.prog ops Q (o :: rest) a w := by
  refine wpList_plain hgd fun K hK => ?_
  obtain ⟨v', w', hrun, h2, h3, _, h5⟩ := run_append_own_at (P := Tryz.prog) w base tS o.type e i0 z σ bytes hS hi hz0 hz1 hz2 hzc hsz v n xs hown ad 1 c news hl hnews h1 h63 hb hbase
  unfold Oper.wp
  simp only [execOp, ho, resolve, invoke, builtin, Sem.run_bind, Sem.run_pure, Result.andThen_ok, List.map_toArray, List.map_cons, List.map_nil, hs, hx, hrun]
  refine hK _ _ (h v' w' ⟨h2, h3, fun b hb => ?_⟩)
  rcases h5 with e | e
  · exact Or.inl (by rw [← e]; exact hb)
  · rw [hb] at e
    exact Or.inr (by rw [Option.some.inj e]; exact Nat.le_refl _)
end Go.Proofs.YtdlgehnplkeoiaaGreatDoor
