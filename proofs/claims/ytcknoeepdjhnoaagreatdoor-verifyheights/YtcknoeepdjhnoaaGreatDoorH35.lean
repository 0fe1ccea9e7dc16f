/-
  Rows that an owner writes over, and grows: append of several elements, in place or anew; no conditions.
  Layer 12, the statements' own moduleOf: a module in new memory; conditions: the form's own reach.
-/
import Derived.Test.YtcknoeepdjhnoaaGreatDoorH09
import Derived.Test.YtcknoeepdjhnoaaGreatDoorH10
import Derived.Test.YtcknoeepdjhnoaaGreatDoorH05
import Derived.Laws.AppendOwn
import Derived.ArgAppend
import Derived.Deep.AppendLies
import Derived.OwnWalk
import Derived.Test.YtcknoeepdjhnoaaGreatDoorH12
import Derived.Test.YtcknoeepdjhnoaaGreatDoorH34
import Derived.Test.YtcknoeepdjhnoaaGreatDoorH20
set_option linter.unusedVariables false
set_option linter.unusedSimpArgs false
namespace Go.Proofs.YtcknoeepdjhnoaaGreatDoor
open Go.RowKit
set_option linter.unusedVariables false
set_option linter.unusedSimpArgs false

theorem flatk_at {k : Nat} : ∀ (rs : List (List Value)), (∀ r ∈ rs, r.length = k) → ∀ (i : Nat) (r : List Value) (j : Nat) (v : Value), rs[i]? = some r → r[j]? = some v → rs.flatten[i * k + j]? = some v
  | [], _, i, r, j, v, h, _ => by simp at h
  | x :: rs, hk, i, r, j, v, h, hv => by
    have hx := hk x List.mem_cons_self
    cases i with
    | zero =>
      simp at h
      subst h
      rw [List.flatten_cons, Nat.zero_mul, Nat.zero_add, List.getElem?_append_left (List.getElem?_eq_some_iff.1 hv).1]
      exact hv
    | succ i =>
      rw [List.flatten_cons, List.getElem?_append_right (by rw [hx, Nat.succ_mul]; omega), hx, show (i + 1) * k + j - k = i * k + j by rw [Nat.succ_mul]; omega]
      exact flatk_at rs (fun y hy => hk y (List.mem_cons_of_mem _ hy)) i r j v (by simpa using h) hv

end Go.Proofs.YtcknoeepdjhnoaaGreatDoor

namespace Go.Proofs.YtcknoeepdjhnoaaGreatDoor
open Go.RowKit
set_option linter.unusedVariables false
set_option linter.unusedSimpArgs false

theorem infoFn : (Tryz.prog.info? 50).map (fun i => (i.zero, i.size, i.bytes)) = some (some (.agg #[.int .i64 0, .int .i64 0, .int .i64 0, .string ⟨#[]⟩]), 4, 40) := by kernel_rfl
theorem infoEx : (Tryz.prog.info? 52).map (fun i => (i.zero, i.size, i.bytes)) = some (some (.agg #[.string ⟨#[]⟩, .int .i64 0]), 2, 24) := by kernel_rfl
theorem size_mod : (Tryz.prog.info? 27).map (·.size) = some 3 := by kernel_rfl

/-- three rows and a variable that were just made, in whichever order -/
structure Four (w w' : World) (G qa qb qc qd N1 N2 N3 : Nat) (cm : Array Value) : Prop where
  below : Below w.heap.size w w'
  oa : w'.ownsRow (G + 2) 42 5 (.slice (some ⟨qa, 0, none⟩) 0 N1) 0 []
  ob : w'.ownsRow (G + 2) 50 4 (.slice (some ⟨qb, 0, none⟩) 0 N2) 0 []
  oc : w'.ownsRow (G + 2) 52 2 (.slice (some ⟨qc, 0, none⟩) 0 N3) 0 []
  od : w'.heap[qd]? = some (.cells #[.slice (some ⟨qa, 0, none⟩) 0 N1, .slice (some ⟨qb, 0, none⟩) 0 N2, .slice (some ⟨qc, 0, none⟩) 0 N3] 27 (0, 0))
  qd : G + 2 ≤ qd
  arg : w'.heap[G]? = some (.cells cm 27 (0, 0))
  res : w'.heap[G + 1]? = some (.cells #[.slice none 0 0, .slice none 0 0, .slice none 0 0] 27 (0, 0))

/-- what the order of the four leaves -/
theorem four_of {w w2 w6 : World} {G qa qb qc qd N1 N2 N3 : Nat} {cm : Array Value} (hG : w.heap.size = G) (h2 : w2.heap.size = G + 2) (hb2 : Below w.heap.size w w2) (h26 : Below w2.heap.size w2 w6)
    (ha : w2.heap[G]? = some (.cells cm 27 (0, 0))) (hr : w2.heap[G + 1]? = some (.cells #[.slice none 0 0, .slice none 0 0, .slice none 0 0] 27 (0, 0)))
    (oa : w6.ownsRow (G + 2) 42 5 (.slice (some ⟨qa, 0, none⟩) 0 N1) 0 []) (ob : w6.ownsRow (G + 2) 50 4 (.slice (some ⟨qb, 0, none⟩) 0 N2) 0 []) (oc : w6.ownsRow (G + 2) 52 2 (.slice (some ⟨qc, 0, none⟩) 0 N3) 0 [])
    (od : w6.heap[qd]? = some (.cells #[.slice none 0 0, .slice none 0 0, .slice none 0 0] 27 (0, 0))) (hqd : G + 2 ≤ qd) :
    Four w (((w6.setCell ⟨qd, 0, none⟩ (.slice (some ⟨qa, 0, none⟩) 0 N1)).setCell ⟨qd, 1, none⟩ (.slice (some ⟨qb, 0, none⟩) 0 N2)).setCell ⟨qd, 2, none⟩ (.slice (some ⟨qc, 0, none⟩) 0 N3)) G qa qb qc qd N1 N2 N3 cm := by
  have hoth : ∀ b, b ≠ qd → (((w6.setCell ⟨qd, 0, none⟩ (.slice (some ⟨qa, 0, none⟩) 0 N1)).setCell ⟨qd, 1, none⟩ (.slice (some ⟨qb, 0, none⟩) 0 N2)).setCell ⟨qd, 2, none⟩ (.slice (some ⟨qc, 0, none⟩) 0 N3)).heap[b]? = w6.heap[b]? := fun b hb => by
    rw [heap_setCell_other _ _ _ _ hb, heap_setCell_other _ _ _ _ hb, heap_setCell_other _ _ _ _ hb]
  have hn : ∀ {e : TypeId} {size : Nat} {v : Value} {n : Nat} {xs : List Value}, e ≠ 27 → w6.ownsRow (G + 2) e size v n xs → ∀ b, v.ownBlock = some b → b ≠ qd := fun {e size v n xs} he ho b hb eb => by
    rcases ho.2 with ⟨rfl, _⟩ | ⟨g, c, cur, rfl, _, hg, _⟩
    · cases hb
    · cases hb
      have eb' : g = qd := eb
      rw [eb', od] at hg
      exact he (by cases hg; rfl)
  refine ⟨set3_below (hb2.trans (h26.mono hb2.size)) (by omega) _ _ _, own_later oa (fun b _ hb => hoth b (hn (by decide) oa b hb)), own_later ob (fun b _ hb => hoth b (hn (by decide) ob b hb)), own_later oc (fun b _ hb => hoth b (hn (by decide) oc b hb)), set3 od _ _ _, hqd, ?_, ?_⟩
  · rw [hoth G (by omega), h26.block G (by omega)]; exact ha
  · rw [hoth (G + 1) (by omega), h26.block _ (by omega)]; exact hr

/-- four that may come in any order -/
theorem till_each {P : Program} {ops : Array Oper} {Q : Exit → Act → World → Prop} {md : Region.Mode} {S : World → Prop} {z : Nat} {f : Nat} {listed : Array Bool} {a : Act} {w : World} (l : List Nat) (hr : Region.ready md ops listed = l) (hl : l.isEmpty = false)
    (h : ∀ i ∈ l, ∃ o, ops[i]? = some o ∧ ∀ K' : Act → World → Prop, Shut (∀ a w, (i = z ∨ S w) → Till P md ops Q S z f (listed.setIfInBounds i true) a w → K' a w) → if Region.wanted o (yielded ops a.tmps) = true then Oper.wp P o a w K' Q else K' (a.put o.dst undef) w) :
    Till P md ops Q S z (f + 1) listed a w := by
  refine ⟨fun e => (by rw [hr] at e; rw [e] at hl; cases hl), fun k hk => ?_⟩
  rw [hr] at hk
  obtain ⟨o, ho, h1⟩ := h k hk
  exact wpOp_step ho (fun K' hK => h1 K' (fun a w hS hT => hK a w ⟨hS, hT⟩))

theorem below_grown {w w' : World} (h : w.grownBy w' none) : Below w.heap.size w w' := ⟨h.os, h.tape, h.output, h.size, fun k hk => h.block k hk (by simp)⟩

/-- append of a whole slice onto a new row -/
theorem run_app_none {P : Program} (w : World) (t ty e : TypeId) (i : TypeInfo) (ht : P.underlying t = some (.slice e)) (hi : P.info? e = some i) (g cap c : Nat) :
    (Builtin.append_ #[t, t] ty #[.slice (some ⟨g, 0, none⟩) 0 cap, .slice none 0 c]).run P w = .ok (.slice (some ⟨g, 0, none⟩) 0 cap) w := by
  simp [Builtin.append_, run_underlying ht, sizeOf, typeInfo, hi, Builtin.lenOf, run_firstCells_none, storeCells]

theorem wpl_appS {w : World} {ops : Array Oper} {rest : List Oper} {o : Oper} {a : Act} {Q : Exit → Act → World → Prop} (hgd : o.guard = none) (sl x : Operand) (tS e : TypeId) (i0 : TypeInfo) (z : Value) (σ bytes : Nat)
    (hS : Tryz.prog.underlying tS = some (.slice e)) (hi : Tryz.prog.info? e = some i0) (hz0 : i0.zero = some z) (hz1 : i0.size = σ) (hz2 : i0.bytes = bytes) (hzc : z.cells.size = σ) (hsz : 0 < σ)
    (ho : o.op = .call { callee := .builtin .append, args := #[sl, x], argTypes := #[tS, tS] })
    (base qb N : Nat) (hs : a.eval sl = .slice (some ⟨qb, 0, none⟩) 0 N) (hown : w.ownsRow base e σ (.slice (some ⟨qb, 0, none⟩) 0 N) 0 []) (ao : Option Addr) (k c : Nat) (news : List Value) (hx : a.eval x = .slice ao k c) (hk : ao = none → k = 0) (hl : news.length = k * σ)
    (hnews : ∀ ad, ao = some ad → ∀ j u, news[j]? = some u → w.cell? (ad.add j) = some u) (h1 : ∀ u ∈ news, u.oneCell' = true) (h63 : k ≤ maxLen) (hb : k * bytes ≤ 140737488355328) (hbase : base ≤ w.heap.size)
    (h : ∀ v' w', Hid (w'.ownsRow base e σ v' k news ∧ Grew w w' (.slice (some ⟨qb, 0, none⟩) 0 N) v') → wpList Tryz.prog ops Q rest (a.put o.dst v') w') : wpList Tryz.prog ops Q (o :: rest) a w := by
  refine wpList_plain hgd fun K hK => ?_
  cases ao with
  | none =>
    obtain rfl := hk rfl
    have hne : news = [] := List.eq_nil_of_length_eq_zero (by omega)
    subst hne
    have hrun := run_app_none (P := Tryz.prog) w tS o.type e i0 hS hi qb N c
    unfold Oper.wp
    simp only [execOp, ho, resolve, invoke, builtin, Sem.run_bind, Sem.run_pure, Result.andThen_ok, List.map_toArray, List.map_cons, List.map_nil, hs, hx, hrun]
    exact hK _ _ (h _ _ ⟨hown, Grew.refl _ _⟩)
  | some ad =>
    obtain ⟨v', w', hrun, h2, h3, _, h5⟩ := run_append_own_at (P := Tryz.prog) w base tS o.type e i0 z σ bytes hS hi hz0 hz1 hz2 hzc hsz _ 0 [] hown ad k c news hl (hnews ad rfl) h1 (by omega) (by rw [Nat.zero_add]; exact hb) hbase
    unfold Oper.wp
    simp only [execOp, ho, resolve, invoke, builtin, Sem.run_bind, Sem.run_pure, Result.andThen_ok, List.map_toArray, List.map_cons, List.map_nil, hs, hx, hrun]
    refine hK _ _ (h v' w' ⟨by simpa using h2, h3, fun b hb => ?_⟩)
    rcases h5 with e | e
    · exact Or.inl (by rw [← e]; exact hb)
    · rw [hb] at e
      exact Or.inr (by rw [Option.some.inj e]; exact Nat.le_refl _)

theorem flat_inv {k : Nat} (hk : 0 < k) : ∀ (rs : List (List Value)), (∀ r ∈ rs, r.length = k) → ∀ (J : Nat) (u : Value), rs.flatten[J]? = some u → ∃ i j r, J = i * k + j ∧ rs[i]? = some r ∧ r[j]? = some u
  | [], _, J, u, h => by simp at h
  | x :: rs, hall, J, u, h => by
    have hx := hall x List.mem_cons_self
    rw [List.flatten_cons] at h
    by_cases hJ : J < k
    · rw [List.getElem?_append_left (by omega)] at h
      exact ⟨0, J, x, by omega, rfl, h⟩
    · rw [List.getElem?_append_right (by omega), hx] at h
      obtain ⟨i, j, r, e1, e2, e3⟩ := flat_inv hk rs (fun r hr => hall r (List.mem_cons_of_mem _ hr)) (J - k) u h
      exact ⟨i + 1, j, r, by rw [Nat.succ_mul]; omega, by simpa using e2, e3⟩

theorem flat_lenk {k : Nat} : ∀ (rs : List (List Value)), (∀ r ∈ rs, r.length = k) → rs.flatten.length = rs.length * k
  | [], _ => by simp
  | x :: rs, h => by
    rw [List.flatten_cons, List.length_append, h x List.mem_cons_self, flat_lenk rs (fun r hr => h r (List.mem_cons_of_mem _ hr)), List.length_cons, Nat.succ_mul]
    omega

theorem add_add (a : Addr) (i j : Nat) : a.add (i + j) = (a.add i).add j := by
  obtain ⟨b, o, e⟩ := a
  unfold Addr.add
  rcases i with _ | i
  · simp
  · rcases j with _ | j
    · simp
    · simp
      omega

/-- a row of the call's own as a table -/
theorem own_isT {w : World} {base k n cap : Nat} {e : TypeId} {ao : Option Addr} {rs : List (List Value)} (hk : 0 < k) (hall : ∀ r ∈ rs, r.length = k) (hn : rs.length = n) (hb : n ≤ 140737488351232) (h : w.ownsRow base e k (.slice ao n cap) n rs.flatten) : IsT w (fun b => b < w.heap.size) k rs ao cap := by
  rcases h.2 with ⟨e1, e2⟩ | ⟨g, c, cur, e1, h1, h2, h3, h4, h5, h6⟩
  · cases e1
    exact ⟨fun _ => ⟨by omega, rfl⟩, by omega, by omega, fun a ha => by cases ha⟩
  · cases e1
    refine ⟨(fun e => by cases e), by omega, by omega, fun a ha i r hr => ?_⟩
    cases ha
    refine ⟨(Array.getElem?_eq_some_iff.1 h2).1, fun j v hv => ?_⟩
    rw [add_offR, add_offR, cell_of_row w g _ _ _ (0, 0) h2]
    have hf := flatk_at rs hall i r j v hr hv
    rw [← h6, List.getElem?_take] at hf
    split at hf
    · simpa using hf
    · cases hf

/-- a row of values of the call's own -/
theorem own_isC {w : World} {base n cap : Nat} {ao : Option Addr} {cs : List Vl} {V : Nat → List Value} {P : Nat → Prop} (hn : cs.length = n) (hb : n ≤ 140737488351232) (hrow : ∀ c, c < n → (V c).length = 5) (h : w.ownsRow base 42 5 (.slice ao n cap) n (flat V n))
    (hP : ∀ a, ao = some a → P a.block) (el : ∀ c y, c < n → cs[c]? = some y → IsP w P y (.agg (V c).toArray)) : IsC w P cs ao cap := by
  unfold IsC
  have hsl := slice_form h
  obtain ⟨ao', cap', e1, e2, e3, e4, e5⟩ := hsl
  cases e1
  subst hn
  refine IsP.of (V := V) ⟨by omega, by omega, by decide, e2, fun _ => ⟨rfl, rfl⟩, e3, Nat.le_refl _, hb, by simp, by simp, ?_, hrow, (fun a h => by cases h), by simp⟩ (fun i y hy => el i y (List.getElem?_eq_some_iff.1 hy).1 hy)
  intro a ha i hi
  refine ⟨hP a ha, fun j v hv => ?_⟩
  rcases h.2 with ⟨q1, q2⟩ | ⟨g, c, cur, q1, h1, h2, h3, h4, h5, h6⟩
  · simp only [Value.slice.injEq] at q1
    rw [q1.1] at ha
    cases ha
  · simp only [Value.slice.injEq] at q1
    rw [q1.1] at ha
    cases ha
    rw [add_offR, add_offR, cell_of_row w g _ _ _ (0, 0) h2]
    have hf := flat_at V cs.length hrow i hi j v hv
    rw [← h6, List.getElem?_take] at hf
    split at hf
    · simpa using hf
    · cases hf

/-- a module that is being copied -/
structure Mo (w wr : World) (G qd : Nat) (Lv : Value) (qb qc N2 N3 : Nat) (cm : Array Value) (cs : List Vl) (V : Nat → List Value) (i : Nat) : Prop where
  below : Below w.heap.size w wr
  oL : wr.ownsRow (G + 2) 42 5 Lv i (flat V i)
  ob : wr.ownsRow (G + 2) 50 4 (.slice (some ⟨qb, 0, none⟩) 0 N2) 0 []
  oc : wr.ownsRow (G + 2) 52 2 (.slice (some ⟨qc, 0, none⟩) 0 N3) 0 []
  od : wr.heap[qd]? = some (.cells #[Lv, .slice (some ⟨qb, 0, none⟩) 0 N2, .slice (some ⟨qc, 0, none⟩) 0 N3] 27 (0, 0))
  gq : G + 2 ≤ qd
  arg : wr.heap[G]? = some (.cells cm 27 (0, 0))
  res : wr.heap[G + 1]? = some (.cells #[.slice none 0 0, .slice none 0 0, .slice none 0 0] 27 (0, 0))
  row : ∀ c, c < i → (V c).length = 5
  el : ∀ c y, c < i → cs[c]? = some y → IsP wr (fun b => b < wr.heap.size ∧ some b ≠ Lv.ownBlock ∧ b ≠ qd ∧ b ≠ qb ∧ b ≠ qc ∧ b ≠ G + 1) y (.agg (V c).toArray)

/-- a row of another type than a variable's lies elsewhere -/
theorem own_off {w : World} {base n size qd : Nat} {e T : TypeId} {v : Value} {xs : List Value} {c : Array Value} (ho : w.ownsRow base e size v n xs) (od : w.heap[qd]? = some (.cells c T (0, 0))) (he : e ≠ T) : v.ownBlock ≠ some qd := fun hb => by
  rcases ho.2 with ⟨rfl, _⟩ | ⟨g, c, cur, rfl, _, hg, _⟩
  · cases hb
  · cases hb
    rw [od] at hg
    exact he (by cases hg; rfl)

/-- one constant more -/
theorem Mo.push {w wr w5 w6 w7 : World} {G qd qb qc N2 N3 i g7 cap7 : Nat} {Lv : Value} {cm : Array Value} {cs : List Vl} {V : Nat → List Value} {y : Vl} {c5 : List Value} (h : Mo w wr G qd Lv qb qc N2 N3 cm cs V i) (hG : w.heap.size = G)
    (b5 : Below wr.heap.size wr w5) (b6 : Below w5.heap.size w5 w6) (hown : w7.ownsRow (G + 2) 42 5 (.slice (some ⟨g7, 0, none⟩) (i + 1) cap7) (i + 1) (flat V i ++ c5)) (hgrow : w6.grownBy w7 Lv.ownBlock) (hat : Lv.ownBlock = some g7 ∨ g7 = w6.heap.size) (hg7 : g7 < w7.heap.size)
    (hy : cs[i]? = some y) (hc5 : c5.length = 5) (he : IsP w5 (fun b => b < w5.heap.size ∧ some b ≠ Lv.ownBlock ∧ b ≠ qd ∧ b ≠ qb ∧ b ≠ qc ∧ b ≠ G + 1) y (.agg c5.toArray)) :
    Mo w (w7.setCell ⟨qd, 0, none⟩ (.slice (some ⟨g7, 0, none⟩) (i + 1) cap7)) G qd (.slice (some ⟨g7, 0, none⟩) (i + 1) cap7) qb qc N2 N3 cm cs (setV V i c5) (i + 1) := by
  have hqdl : qd < wr.heap.size := (Array.getElem?_eq_some_iff.1 h.od).1
  have s5 := b5.size
  have s6 := b6.size
  have s7 := hgrow.size
  have hLqd := own_off h.oL h.od (by decide)
  have hLlt : ∀ b, Lv.ownBlock = some b → G + 2 ≤ b ∧ b < wr.heap.size := h.oL.lt
  have hk : ∀ b, b < wr.heap.size → some b ≠ Lv.ownBlock → b ≠ qd → (w7.setCell ⟨qd, 0, none⟩ (.slice (some ⟨g7, 0, none⟩) (i + 1) cap7)).heap[b]? = wr.heap[b]? := fun b h1 h2 h3 => by
    rw [heap_setCell_other _ _ _ _ h3, hgrow.block b (by omega) h2, b6.block b (by omega), b5.block b h1]
  have hbb : ∀ b, (Value.slice (some ⟨qb, 0, none⟩) 0 N2).ownBlock = some b → some b ≠ Lv.ownBlock ∧ b ≠ qd := fun b hb => ⟨fun e => by
    rcases own_apart h.ob h.oL (by decide) with q | q
    · rw [hb] at q; cases q
    · exact q (by rw [hb, e]), fun e => own_off h.ob h.od (by decide) (by rw [hb, e])⟩
  have hcc : ∀ b, (Value.slice (some ⟨qc, 0, none⟩) 0 N3).ownBlock = some b → some b ≠ Lv.ownBlock ∧ b ≠ qd := fun b hb => ⟨fun e => by
    rcases own_apart h.oc h.oL (by decide) with q | q
    · rw [hb] at q; cases q
    · exact q (by rw [hb, e]), fun e => own_off h.oc h.od (by decide) (by rw [hb, e])⟩
  have hodw7 : w7.heap[qd]? = some (.cells #[Lv, .slice (some ⟨qb, 0, none⟩) 0 N2, .slice (some ⟨qc, 0, none⟩) 0 N3] 27 (0, 0)) := by
    rw [hgrow.block qd (by omega) (fun e => hLqd e.symm), b6.block qd (by omega), b5.block qd hqdl]
    exact h.od
  have hg7qd : g7 ≠ qd := by
    rcases hat with e | e
    · exact fun e2 => hLqd (by rw [e, e2])
    · omega
  have hnew : ∀ b, b < wr.heap.size → some b ≠ Lv.ownBlock → some b ≠ (Value.slice (some ⟨g7, 0, none⟩) (i + 1) cap7).ownBlock := fun b h1 h2 e => by
    have e' : b = g7 := Option.some.inj e
    rcases hat with q | q
    · exact h2 (by rw [q, e'])
    · omega
  refine ⟨?_, ?_, own_later h.ob (fun b hl hb => hk b hl (hbb b hb).1 (hbb b hb).2), own_later h.oc (fun b hl hb => hk b hl (hcc b hb).1 (hcc b hb).2), ?_, h.gq, ?_, ?_, fun c hc => ?_, fun c z hc hz => ?_⟩
  · have b0 := h.below
    have b1 := b0.trans ((b5.trans (b6.mono s5)).mono b0.size)
    exact (b1.grown hgrow (by have := b0.size; omega) (fun k hk' => by have := (hLlt k hk').1; omega)).setCell (p := ⟨qd, 0, none⟩) (by have := h.gq; show w.heap.size ≤ qd; omega) _
  · rw [flat_set]
    exact own_later hown (fun b hl hb => heap_setCell_other _ _ _ _ (fun e => by
      have e' : g7 = b := Option.some.inj hb
      exact hg7qd (by rw [e']; exact e)))
  · have e0 := heap_setCell_same w7 qd 0 _ 27 (.slice (some ⟨g7, 0, none⟩) (i + 1) cap7) hodw7
    simpa only [List.setIfInBounds_toArray, List.set_cons_zero, List.set_cons_succ] using e0
  · have hs := h.below.size
    rw [hk G (by have := h.gq; omega) (fun e => by have := (hLlt G e.symm).1; omega) (by have := h.gq; omega)]
    exact h.arg
  · rw [hk (G + 1) (by have := h.gq; omega) (fun e => by have := (hLlt (G + 1) e.symm).1; omega) (by have := h.gq; omega)]
    exact h.res
  · by_cases hci : c = i
    · subst hci
      rw [setV_same]
      exact hc5
    · rw [setV_other _ _ _ (by omega)]
      exact h.row c (by omega)
  · have hsz : (w7.setCell ⟨qd, 0, none⟩ (.slice (some ⟨g7, 0, none⟩) (i + 1) cap7)).heap.size = w7.heap.size := by simp
    by_cases hci : c = i
    · subst hci
      rw [hy] at hz
      cases hz
      rw [setV_same]
      refine (he.move (fun b hb => ?_)).weak (fun b hb => ⟨by omega, fun e => ?_, hb.2.2⟩)
      · rw [heap_setCell_other _ _ _ _ hb.2.2.1, hgrow.block b (by omega) hb.2.1, b6.block b hb.1]
      · have e' : b = g7 := Option.some.inj e
        rcases hat with q | q
        · exact hb.2.1 (by rw [q, e'])
        · omega
    · rw [setV_other _ _ _ (by omega)]
      refine ((h.el c z (by omega) hz).move (fun b hb => hk b hb.1 hb.2.1 hb.2.2.1)).weak (fun b hb => ⟨by omega, hnew b hb.1 hb.2.1, hb.2.2⟩)

theorem fnV_one (fs : List Fn) : ∀ u ∈ (fs.map fnV).flatten, u.oneCell' = true := by
  intro u hu
  obtain ⟨r, hr, hu⟩ := List.mem_flatten.1 hu
  obtain ⟨f, _, rfl⟩ := List.mem_map.1 hr
  simp [fnV] at hu
  rcases hu with rfl | rfl | rfl | rfl <;> rfl

theorem exV_one (xs : List Ex) : ∀ u ∈ (xs.map exV).flatten, u.oneCell' = true := by
  intro u hu
  obtain ⟨r, hr, hu⟩ := List.mem_flatten.1 hu
  obtain ⟨f, _, rfl⟩ := List.mem_map.1 hr
  simp [exV] at hu
  rcases hu with rfl | rfl <;> rfl

theorem IsT.flat {w : World} {P : Nat → Prop} {k : Nat} {rs : List (List Value)} {al : Option Addr} {cl : Nat} (h : IsT w P k rs al cl) (hk : 0 < k) (hall : ∀ r ∈ rs, r.length = k) : ∀ ad, al = some ad → ∀ j u, rs.flatten[j]? = some u → w.cell? (ad.add j) = some u := fun ad had J u hu => by
  obtain ⟨i, j, r, rfl, hr, hj⟩ := flat_inv hk rs hall J u hu
  rw [add_add]
  exact (h.hl ad had i r hr).2 j u hj

/-- what else lies as it did when one row has grown and one cell of a variable was written over -/
theorem keep_row {w w1 : World} {qd k : Nat} {v v' y : Value} (hg : Grew w w1 v v') (b : Nat) (hb : b < w.heap.size) (h1 : some b ≠ v.ownBlock) (h2 : b ≠ qd) : (w1.setCell ⟨qd, k, none⟩ y).heap[b]? = w.heap[b]? := by
  rw [heap_setCell_other _ _ _ _ h2, hg.grown.block b hb h1]

theorem set3_1 {w : World} {q : Nat} {z0 z1 z2 : Value} {T : TypeId} (h : w.heap[q]? = some (.cells #[z0, z1, z2] T (0, 0))) (y : Value) : (w.setCell ⟨q, 1, none⟩ y).heap[q]? = some (.cells #[z0, y, z2] T (0, 0)) := by
  have e0 := heap_setCell_same w q 1 _ T y h
  simpa only [List.setIfInBounds_toArray, List.set_cons_zero, List.set_cons_succ] using e0

theorem set3_2 {w : World} {q : Nat} {z0 z1 z2 : Value} {T : TypeId} (h : w.heap[q]? = some (.cells #[z0, z1, z2] T (0, 0))) (y : Value) : (w.setCell ⟨q, 2, none⟩ y).heap[q]? = some (.cells #[z0, z1, y] T (0, 0)) := by
  have e0 := heap_setCell_same w q 2 _ T y h
  simpa only [List.setIfInBounds_toArray, List.set_cons_zero, List.set_cons_succ] using e0

/-- rows of unlike types, told by a block -/
theorem apart_at {w : World} {b1 b2 : Nat} {e1 e2 : TypeId} {s1 s2 n1 n2 : Nat} {v1 v2 : Value} {x1 x2 : List Value} (h1 : w.ownsRow b1 e1 s1 v1 n1 x1) (h2 : w.ownsRow b2 e2 s2 v2 n2 x2) (hne : e1 ≠ e2) (b : Nat) (hb : v1.ownBlock = some b) : some b ≠ v2.ownBlock := fun e => by
  rcases own_apart h1 h2 hne with q | q
  · rw [hb] at q; cases q
  · exact q (by rw [hb, e])

end Go.Proofs.YtcknoeepdjhnoaaGreatDoor
