/-
  Layer 17 (parse): the state while a function without a box for its result runs; no conditions.
-/
import Derived.Test.YtgalfhlclmkbfaaGreatDoorC25
set_option linter.unusedVariables false
set_option linter.unusedSimpArgs false
namespace Go.Proofs.YtgalfhlclmkbfaaGreatDoor
open Go.RowKit
set_option linter.unusedVariables false
set_option linter.unusedSimpArgs false

structure St0 (w : World) (c : Cx) (u : World) (l : List Tk) (d : Nat) : Prop where
  rd : Rd u c l d
  bs : Beside c.g w u
  g1 : c.g < w.heap.size
  t1 : c.tb < w.heap.size
theorem St0.start {w w1 : World} {c : Cx} {l : List Tk} {d : Nat} (e : w = w1) (h : Rd w1 c l d) : St0 w c w1 l d := by
  subst e
  exact ⟨h, Beside.refl _ _, h.cells.2.2.2.2.2, h.tok.1⟩
theorem St0.lt {w : World} {c : Cx} {u : World} {l : List Tk} {d : Nat} (h : St0 w c u l d) : w.heap.size ≤ u.heap.size := h.bs.size
theorem St0.go {w : World} {c : Cx} {u u' : World} {l l' : List Tk} {d d' : Nat} (h : St0 w c u l d) (b : Beside c.g u u') (r : Rd u' c l' d') : St0 w c u' l' d' := ⟨r, h.bs.trans b, h.g1, h.t1⟩
theorem St0.below {w : World} {c : Cx} {u u' : World} {l : List Tk} {d : Nat} (h : St0 w c u l d) (b : Below u.heap.size u u') : St0 w c u' l d := h.go (Beside.of_below b) (h.rd.below b)
theorem St0.own {w : World} {c : Cx} {u : World} {l : List Tk} {d : Nat} (h : St0 w c u l d) (q f : Nat) (v : Value) (hq : w.heap.size ≤ q) : St0 w c (u.setCell ⟨q, f, none⟩ v) l d :=
  ⟨h.rd.setN (by have := h.g1; omega) (by have := h.t1; omega), h.bs.setN hq, h.g1, h.t1⟩
theorem St0.bad {w : World} {c : Cx} {u u' : World} {l : List Tk} {d : Nat} (h : St0 w c u l d) (b : Beside c.g u u') : Beside c.g w u' := h.bs.trans b
theorem St0.below2 {w : World} {c : Cx} {u u' : World} {l : List Tk} {d B : Nat} (h : St0 w c u l d) (b : Below B u u') (hB : w.heap.size ≤ B) : St0 w c u' l d :=
  ⟨h.rd.two (b.block _ (by have := h.g1; omega)) (b.block _ (by have := h.t1; omega)) b.size, ⟨b.os.trans h.bs.os, b.tape.trans h.bs.tape, b.output.trans h.bs.output, Nat.le_trans h.bs.size b.size, fun k hk hn => (b.block k (by omega)).trans (h.bs.block k hk hn)⟩, h.g1, h.t1⟩

theorem wpl_appN {w : World} {ops : Array Oper} {rest : List Oper} {o : Oper} {a : Act} {Q : Exit → Act → World → Prop} (hgd : o.guard = none) (s x : Operand) (ho : o.op = .call { callee := .builtin .append, args := #[s, x], argTypes := #[27, 27] })
    (base : Nat) (v : Value) (n : Nat) (xs : List Value) (hs : a.eval s = v) (hown : w.ownsRow base 29 10 v n xs) (q : Nat) (cs : Array Value) (hx : a.eval x = .slice (some ⟨q, 0, none⟩) 1 1) (hq : w.heap[q]? = some (.cells cs 29 (0, 0))) (hl : cs.toList.length = 1 * 10) (h1 : ∀ u ∈ cs.toList, u.oneCell' = true)
    (hn : n + 1 ≤ 20000) (hbase : base ≤ w.heap.size)
    (h : ∀ g cap w', Hid (w'.ownsRow base 29 10 (.slice (some ⟨g, 0, none⟩) (n + 1) cap) (n + 1) (xs ++ cs.toList) ∧ w.grownBy w' v.ownBlock ∧ (v.ownBlock = some g ∨ g = w.heap.size)) → wpList Tryz.prog ops Q rest (a.put o.dst (.slice (some ⟨g, 0, none⟩) (n + 1) cap)) w') : wpList Tryz.prog ops Q (o :: rest) a w := by
  obtain ⟨ind, hi0, hi1, hi2, hi3⟩ := info_nd
  refine wpList_step fun K hK => ?_
  exact step_append_lies w hgd s x 27 ho base 29 ind _ 10 144 Tryz.underlying27 hi0 hi1 hi2 hi3 rfl (by omega) v n xs hs hown ⟨q, 0, none⟩ 1 1 cs.toList hx hl (World.news_of_block hq) h1 (by omega) (by unfold maxLen; omega) (by omega) hbase _ rfl (fun g cap w' a b c _ => hK _ _ (h g cap w' (hide ⟨a, b, c⟩)))

/-- a node with another text, at another place -/
theorem NdOk.retext {lo : Nat} {w : World} {ns : List Nd} {k : Nat} {t : List UInt8} {vk vn : Nat} {vs : List UInt8} {f : Bool} {n : Nat} {ak : Option Addr} {ck p : Nat} {S : List Nat} (h : NdOk lo w ns (ndC k t vk vn vs f n ak ck p) S) (hl : ns.length = 1) (t2 : List UInt8) (p2 : Nat) :
    NdOk lo w (ns.map fun m => ⟨m.k, t2, m.vk, m.vn, m.vs, m.f, m.ks, p2⟩) (ndC k t2 vk vn vs f n ak ck p2) S := by
  obtain ⟨⟨k', t', vk', vn', vs', f', ks', p'⟩, rfl⟩ := List.length_eq_one_iff.1 hl
  have hn := h.nl
  simp only [IsNL] at hn
  obtain ⟨ak1, ck1, C', R, S1, S2, hC, hS, ho, h1, h2, h3⟩ := hn
  subst h2 h3
  simp only [ndC, List.append_nil, List.cons.injEq, Value.int.injEq, Value.string.injEq, Value.slice.injEq, Value.bool.injEq, true_and, and_true] at hC
  obtain ⟨e1, e2, e3, e4, e5, e6, ⟨e7, e8, e9⟩, e10⟩ := hC
  refine ⟨?_, h.nd, h.rg, h.le⟩
  simp only [List.map_cons, List.map_nil, IsNL]
  exact ⟨ak1, ck1, C', [], S1, [], by simp only [ndC, List.append_nil]; rw [e1, e3, e4, e5, e6, e7, e8, e9], hS, ho, h1, rfl, rfl⟩
end Go.Proofs.YtgalfhlclmkbfaaGreatDoor
