/-
  Layer 17 (parse): a row of nodes grows; fields of a token in a drawn region; no conditions.
-/
import Derived.Test.YtgalfhlclmkbfaaGreatDoorC18
import Derived.Test.YtgalfhlclmkbfaaGreatDoorC24
import Derived.Deep.AppendLies
set_option linter.unusedVariables false
set_option linter.unusedSimpArgs false
namespace Go.Proofs.YtgalfhlclmkbfaaGreatDoor
open Go.RowKit
set_option linter.unusedVariables false
set_option linter.unusedSimpArgs false

theorem infoNd : (Tryz.prog.info? 29).map (fun i => (i.zero, i.size, i.bytes)) = some (some (.agg #[.int .i64 0, .string ⟨#[]⟩, .int .i64 0, .int .i64 0, .string ⟨#[]⟩, .slice none 0 0, .slice none 0 0, .bool false, .slice none 0 0, .int .i64 0]), 10, 144) := by kernel_rfl
theorem info_nd : ∃ i, Tryz.prog.info? 29 = some i ∧ i.zero = some (.agg #[.int .i64 0, .string ⟨#[]⟩, .int .i64 0, .int .i64 0, .string ⟨#[]⟩, .slice none 0 0, .slice none 0 0, .bool false, .slice none 0 0, .int .i64 0]) ∧ i.size = 10 ∧ i.bytes = 144 := by
  obtain ⟨i, hi, he⟩ := Option.map_eq_some_iff.1 infoNd
  injection he with h1 h2
  injection h2 with h2 h3
  exact ⟨i, hi, h1, h2, h3⟩

theorem Kr.push {lo lo2 : Nat} {u u' : World} {ks ns : List Nd} {v : Value} {C C2 : List Value} {S S2 : List Nat} {g cap m : Nat} (h : Kr lo u ks v C S) (h2 : NdOk lo2 u ns C2 S2) (hll : lo ≤ lo2) (hS : ∀ b ∈ S, b < lo2) (hv : ∀ b, v.ownBlock = some b → b < lo2)
    (ho : u'.ownsRow lo 29 10 (.slice (some ⟨g, 0, none⟩) m cap) m (C ++ C2)) (hm : (ks ++ ns).length = m) (hg : u.grownBy u' v.ownBlock) (hat : v.ownBlock = some g ∨ g = u.heap.size) : Kr lo u' (ks ++ ns) (.slice (some ⟨g, 0, none⟩) m cap) (C ++ C2) (S ++ S2) := by
  have k1 : NdOk lo u' ks C S := h.ok.to (fun b _ hb hm => hg.block b hb (fun e => h.apart b e.symm hm)) hg.size
  have k2 : NdOk lo2 u' ns C2 S2 := h2.to (fun b hb1 hb _ => hg.block b hb (fun e => by have := hv b e.symm; omega)) hg.size
  refine ⟨by rw [hm]; exact ho, k1.app hS k2 hll, fun b hb hmem => ?_⟩
  have hbg : b = g := by
    have : g = b := by simpa [Value.ownBlock] using hb
    exact this.symm
  subst hbg
  rcases hat with hat | hat
  · rcases List.mem_append.1 hmem with hx | hx
    · exact h.apart b hat hx
    · have := hv b hat
      have := (h2.rg b hx).1
      omega
  · rcases List.mem_append.1 hmem with hx | hx
    · have := (h.ok.rg b hx).2
      omega
    · have := (h2.rg b hx).2
      omega

theorem Kr.vlt {lo q : Nat} {w : World} {ks : List Nd} {v : Value} {C : List Value} {S : List Nat} (h : Kr lo w ks v C S) (hq : w.heap.size = q) : (∀ b, v.ownBlock = some b → b < q) ∧ ∀ b ∈ S, b < q :=
  ⟨fun b hb => by rw [← hq]; exact (h.own.lt b hb).2, fun b hb => by rw [← hq]; exact (h.ok.rg b hb).2⟩
theorem PJ_fuel {f j x d : Nat} {acc : List Nd} {l : List Tk} {r : Rs (List Nd)} (h : PJ f j x acc l d = some r) : ∃ g, f = g + 1 := by
  cases f with
  | zero => cases h
  | succ g => exact ⟨g, rfl⟩

theorem step_tk3 {ops : Array Oper} {o : Oper} {a : Act} {w : World} {K : Act → World → Prop} {Q : Exit → Act → World → Prop} {E : Prop} (hgd : o.guard = none) (x : Operand) (ho : o.op = .field 52 x 3) (y0 y1 y2 y3 : Value) (hx : a.eval x = .agg #[y0, y1, y2, y3]) (h : K (a.put o.dst y3) w) :
    if Region.wanted o (yielded ops a.tmps) = true then Oper.wp Tryz.prog o a w K Q else E := by
  have hw : Region.wanted o (yielded ops a.tmps) = true := by simp [Region.wanted, hgd]
  rw [if_pos hw]
  have hr := run_tk3 y0 y1 y2 y3 w
  unfold Oper.wp
  simp [execOp, ho, hx, hr, Result.andThen]
  exact h
theorem step_tk1 {ops : Array Oper} {o : Oper} {a : Act} {w : World} {K : Act → World → Prop} {Q : Exit → Act → World → Prop} {E : Prop} (hgd : o.guard = none) (x : Operand) (ho : o.op = .field 52 x 1) (y0 y1 y2 y3 : Value) (hx : a.eval x = .agg #[y0, y1, y2, y3]) (h : K (a.put o.dst y1) w) :
    if Region.wanted o (yielded ops a.tmps) = true then Oper.wp Tryz.prog o a w K Q else E := by
  have hw : Region.wanted o (yielded ops a.tmps) = true := by simp [Region.wanted, hgd]
  rw [if_pos hw]
  have hr := run_tk1 y0 y1 y2 y3 w
  unfold Oper.wp
  simp [execOp, ho, hx, hr, Result.andThen]
  exact h
theorem Rd.two {w w' : World} {c : Cx} {l : List Tk} {d : Nat} (h : Rd w c l d) (hg : w'.heap[c.g]? = w.heap[c.g]?) (ht : w'.heap[c.tb]? = w.heap[c.tb]?) (hs : w.heap.size ≤ w'.heap.size) : Rd w' c l d := by
  refine ⟨hg.trans h.box, h.suf, h.ne, fun i t hti => ?_, h.apart, h.cap, h.len, h.low, h.fin⟩
  obtain ⟨b, e, h1, h2, h3, h4, h5⟩ := h.row i t hti
  injection e with e0
  injection e0 with e0
  subst e0
  exact ⟨c.tb, rfl, Nat.lt_of_lt_of_le h1 hs, (World.cell?_of_block ht).trans h2, (World.cell?_of_block ht).trans h3, (World.cell?_of_block ht).trans h4, (World.cell?_of_block ht).trans h5⟩
/-- what lies behind a place is changed alone -/
theorem St.below2 {w : World} {c : Cx} {T : TypeId} {z : Array Value} {u u' : World} {l : List Tk} {d B : Nat} (h : St w c T z u l d) (b : Below B u u') (hB : w.heap.size < B) : St w c T z u' l d :=
  ⟨h.rd.two (b.block _ (by have := h.g1; omega)) (b.block _ (by have := h.t1; omega)) b.size, ⟨b.os.trans h.bs.os, b.tape.trans h.bs.tape, b.output.trans h.bs.output, Nat.le_trans h.bs.size b.size, fun k hk hn => (b.block k (by omega)).trans (h.bs.block k hk hn)⟩, (b.block _ hB).trans h.bx, h.g1, h.t1⟩
/-- a node's cells are one each -/
theorem ndC_one (k : Nat) (t : List UInt8) (vk vn : Nat) (vs : List UInt8) (f : Bool) (n : Nat) (ak : Option Addr) (ck p : Nat) : ∀ u ∈ ndC k t vk vn vs f n ak ck p, u.oneCell' = true := by
  intro u hu
  simp only [ndC, List.mem_cons, List.not_mem_nil, or_false] at hu
  rcases hu with rfl | rfl | rfl | rfl | rfl | rfl | rfl | rfl | rfl | rfl <;> rfl
end Go.Proofs.YtgalfhlclmkbfaaGreatDoor
