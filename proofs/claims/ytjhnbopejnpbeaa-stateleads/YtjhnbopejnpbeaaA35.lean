/-
  Changes that came out, each its owner's; no conditions.
-/
import Derived.Test.YtjhnbopejnpbeaaA34
import Derived.Test.YtjhnbopejnpbeaaA24
import Derived.Deep.AppendLies
set_option linter.unusedVariables false
set_option linter.unusedSimpArgs false
namespace Go.Proofs.Ytjhnbopejnpbeaa
open Go.RowKit Go.Shelf
set_option linter.unusedVariables false
set_option linter.unusedSimpArgs false

/-- a value's cells -/
abbrev Th5 := Int × Int × ByteArray × Option Addr × Nat × Nat × Option Addr × Nat × Nat
def th5 : Th5 → List Value
  | (t0, t1, t2, t3, t4, t5, t6, t7, t8) => [.int .i64 t0, .int .i64 t1, .string t2, .slice t3 t4 t5, .slice t6 t7 t8]

theorem isP_th5 {w : World} {P : Nat → Prop} {v : Vl} {x : Value} (h : IsP w P v x) : ∃ c : Th5, x = .agg (th5 c).toArray := by
  obtain ⟨kind, n, s, l, ks, al, ak, cl, ck, _, rfl⟩ := h.shape
  exact ⟨(kind, n, s, al, l.length, cl, ak, ks.length, ck), rfl⟩

/-- a change as it came out: its key, whether it is gone, its value's cells, its value -/
abbrev Co := (ByteArray × Bool) × (Th5 × Vl)
def cellsC (cs : List Co) : List Value := cs.flatMap (fun p => .string p.1.1 :: .bool p.1.2 :: th5 p.2.1)

section
variable {w w' : World}
def tyOf (w : World) (j : Nat) (T : TypeId) : Prop := ∃ c, w.heap[j]? = some (.cells c T (0, 0))

theorem ty_ne {a b : Nat} {S T : TypeId} (ha : tyOf w a S) (hb : tyOf w b T) (h : S ≠ T) : a ≠ b := fun e => by
  subst e
  obtain ⟨c, hc⟩ := ha
  obtain ⟨d, hd⟩ := hb
  rw [hc] at hd
  simp only [Option.some.injEq, Obj.cells.injEq] at hd
  exact h hd.2.1

theorem row_ty {base : Nat} {T : TypeId} {σ n : Nat} {v : Value} {xs : List Value} (h : w.ownsRow base T σ v n xs) {b : Nat} (hb : v.ownBlock = some b) : tyOf w b T := by
  rcases h.2 with ⟨rfl, _⟩ | ⟨g, cap, cur, rfl, _, hg, _⟩
  · cases hb
  · cases hb
    exact ⟨cur, hg⟩

theorem row_to {base : Nat} {T : TypeId} {σ n : Nat} {v : Value} {xs : List Value} (h : w.ownsRow base T σ v n xs) (hw : ∀ b, v.ownBlock = some b → w'.heap[b]? = w.heap[b]?) : w'.ownsRow base T σ v n xs := by
  refine ⟨h.1, ?_⟩
  rcases h.2 with hn | ⟨g, cap, cur, rfl, hb, hg, rest⟩
  · exact .inl hn
  · exact .inr ⟨g, cap, cur, rfl, hb, (hw g rfl).trans hg, rest⟩
end

/-- a block of cells -/
def isC (w : World) (b : Nat) : Prop := ∃ c T f, w.heap[b]? = some (.cells c T f)

theorem cell_isC {w : World} {a : Addr} {v : Value} (h : w.cell? a = some v) : isC w a.block := by
  unfold World.cell? at h
  split at h
  · rename_i c T f e
    exact ⟨c, T, f, e⟩
  · cases h

theorem VF.isC {w : World} {P : Nat → Prop} {kind n : Int} {s : ByteArray} {l : List Vl} {ks : List ByteArray} {al ak : Option Addr} {cl ck : Nat} {V : Nat → List Value} (h : VF w P kind n s l ks al ak cl ck V) : VF w (fun b => P b ∧ isC w b) kind n s l ks al ak cl ck V where
  bk := h.bk
  bn := h.bn
  bs := h.bs
  nl := h.nl
  nk := h.nk
  ll := h.ll
  lk := h.lk
  bl := h.bl
  bc := h.bc
  bq := h.bq
  hl := fun a ha i hi => ⟨⟨(h.hl a ha i hi).1, by
    have h5 := h.hv i hi
    have h0 := (h.hl a ha i hi).2 0 _ (List.getElem?_eq_getElem (by omega))
    have := cell_isC h0
    rwa [block_add, block_add] at this⟩, (h.hl a ha i hi).2⟩
  hv := h.hv
  hk := fun a ha i t ht => ⟨⟨(h.hk a ha i t ht).1, by
    have := cell_isC (h.hk a ha i t ht).2
    rwa [block_add] at this⟩, (h.hk a ha i t ht).2⟩
  bt := h.bt

theorem IsPL.isC {w : World} {P : Nat → Prop} : ∀ (l : List Vl) (V : Nat → List Value), IsPL w P l V → IsPL w (fun b => P b ∧ isC w b) l V
  | [], V, _ => by simp only [IsPL]
  | .mk kind n s l ks :: r, V, h => by
    simp only [IsPL] at h ⊢
    obtain ⟨⟨al, ak, cl, ck, V', hx, hf, hl⟩, hr⟩ := h
    exact ⟨⟨al, ak, cl, ck, V', hx, hf.isC, IsPL.isC l V' hl⟩, IsPL.isC r _ hr⟩

theorem Ty.isC {w : World} {P : Nat → Prop} : ∀ (r : Nat) (x : Value), Ty w P r x → Ty w (fun b => P b ∧ isC w b) r x
  | 0, x, h => h
  | r + 1, x, h => by
    obtain ⟨k, n, s, al, ll, cl, ak, m, ck, e, hl, hk⟩ := h
    refine ⟨k, n, s, al, ll, cl, ak, m, ck, e, ?_, ?_⟩
    · rcases hl with h | ⟨b, cs, h1, h2, h3, h4, h5, h6, h7, h8⟩
      · exact Or.inl h
      · refine Or.inr ⟨b, cs, h1, ⟨h2, _, _, _, h3⟩, h3, h4, h5, h6, h7, fun i hi => ?_⟩
        obtain ⟨y0, y1, y2, y3, y4, g, hr⟩ := h8 i hi
        exact ⟨y0, y1, y2, y3, y4, g, Ty.isC r _ hr⟩
    · rcases hk with h | ⟨b, cs, h1, h2, h3, h4⟩
      · exact Or.inl h
      · exact Or.inr ⟨b, cs, h1, ⟨h2, _, _, _, h3⟩, h3, h4⟩

theorem IsQ.isC {w : World} {P : Nat → Prop} {v : Vl} {x : Value} (h : IsQ w P v x) : IsQ w (fun b => P b ∧ isC w b) v x := by
  obtain ⟨⟨al, ak, cl, ck, V, hx, hf, hl⟩, ht⟩ := h
  exact ⟨⟨al, ak, cl, ck, V, hx, hf.isC, IsPL.isC v.l V hl⟩, Ty.isC _ _ ht⟩

/-- changes that came out, each its owner's, all from block lo on -/
structure ChO (w : World) (lo : Nat) (sv : Value) (es : List Co) : Prop where
  row : w.ownsRow lo 36 7 sv es.length (cellsC es)
  el : ∀ p ∈ es, IsQ w (fun b => (lo ≤ b ∧ b < w.heap.size ∧ some b ≠ sv.ownBlock) ∧ isC w b) p.2.2 (.agg (th5 p.2.1).toArray)
  rg : ∃ m : Nat → Nat, (∀ i, m i ≤ m (i + 1)) ∧ ∀ (i : Nat) (p : Co), es[i]? = some p → IsQ w (fun b => ((lo ≤ b ∧ b < w.heap.size ∧ some b ≠ sv.ownBlock) ∧ isC w b) ∧ m i ≤ b ∧ b < m (i + 1)) p.2.2 (.agg (th5 p.2.1).toArray)

theorem ChO.to {w w' : World} {lo lo' : Nat} {sv : Value} {es : List Co} (h : ChO w lo sv es) (hl : lo' ≤ lo) (hs : w.heap.size ≤ w'.heap.size) (hw : ∀ b, lo ≤ b → b < w.heap.size → isC w b → w'.heap[b]? = w.heap[b]?) : ChO w' lo' sv es := by
  have key : ∀ b, ((lo ≤ b ∧ b < w.heap.size ∧ some b ≠ sv.ownBlock) ∧ isC w b) → ((lo' ≤ b ∧ b < w'.heap.size ∧ some b ≠ sv.ownBlock) ∧ isC w' b) := fun b hb => by
    refine ⟨⟨by have := hb.1.1; omega, by have := hb.1.2.1; omega, hb.1.2.2⟩, ?_⟩
    obtain ⟨c, T, f, e⟩ := hb.2
    exact ⟨c, T, f, (hw b hb.1.1 hb.1.2.1 hb.2).trans e⟩
  obtain ⟨m, hm, hr⟩ := h.rg
  refine ⟨own_low (row_to h.row (fun b hb => hw b (h.row.lt b hb).1 (h.row.lt b hb).2 ?_)) hl, fun p hp => (h.el p hp).to (fun b hb => hw b hb.1.1 hb.1.2.1 hb.2) key, m, hm, fun i p hp => (hr i p hp).to (fun b hb => hw b hb.1.1.1 hb.1.1.2.1 hb.1.2) (fun b hb => ⟨key b hb.1, hb.2⟩)⟩
  obtain ⟨c, hc⟩ := row_ty h.row hb
  exact ⟨_, _, _, hc⟩

theorem ChO.later {w w' : World} {lo : Nat} {sv : Value} {es : List Co} (h : ChO w lo sv es) (hb : Below w.heap.size w w') : ChO w' lo sv es := h.to (Nat.le_refl _) hb.size (fun b _ hl _ => hb.block b hl)

theorem ChO.nil (w : World) (lo : Nat) : ChO w lo (.slice none 0 0) [] := ⟨World.ownsRow_nil _ _ _ _, (fun p hp => by cases hp), fun i => i, fun i => Nat.le_succ i, fun i p hp => by cases hp⟩

/-- one more -/
theorem ChO.push {w w4 w5 : World} {lo g cap n : Nat} {sv : Value} {es : List Co} {k : ByteArray} {gg : Bool} {c : Th5} {y : Vl} (h : ChO w lo sv es) (hn : es.length = n) (hb : Below w.heap.size w w4) (hlo : lo ≤ w.heap.size) (hq : IsQ w4 (fun b => w.heap.size ≤ b ∧ b < w4.heap.size) y (.agg (th5 c).toArray)) (ho : w5.ownsRow lo 36 7 (.slice (some ⟨g, 0, none⟩) (n + 1) cap) (n + 1) (cellsC es ++ (.string k :: .bool gg :: th5 c))) (hg : w4.grownBy w5 sv.ownBlock) (hat : sv.ownBlock = some g ∨ g = w4.heap.size) :
    ChO w5 lo (.slice (some ⟨g, 0, none⟩) (n + 1) cap) (es ++ [((k, gg), (c, y))]) := by
  have hl : (es ++ [((k, gg), (c, y))]).length = n + 1 := by simp [hn]
  have hne : ∀ b, b < w4.heap.size → some b ≠ sv.ownBlock → some b ≠ (Value.slice (some ⟨g, 0, none⟩) (n + 1) cap).ownBlock := fun b h1 h2 e => by
    have e2 : b = g := by
      have : (Value.slice (some ⟨g, 0, none⟩) (n + 1) cap).ownBlock = some g := rfl
      rw [this] at e
      exact Option.some.inj e
    rcases hat with hat | hat
    · rw [e2] at h2
      exact h2 hat.symm
    · omega
  have hnb : ∀ b, w.heap.size ≤ b → some b ≠ sv.ownBlock := fun b h1 e => by
    have := (h.row.lt b e.symm).2
    omega
  have zb := hb.size
  have old : ∀ (P : Nat → Prop) (p : Co), IsQ w4 (fun b => ((lo ≤ b ∧ b < w4.heap.size ∧ some b ≠ sv.ownBlock) ∧ isC w4 b) ∧ P b) p.2.2 (.agg (th5 p.2.1).toArray) → IsQ w5 (fun b => ((lo ≤ b ∧ b < w5.heap.size ∧ some b ≠ (Value.slice (some ⟨g, 0, none⟩) (n + 1) cap).ownBlock) ∧ isC w5 b) ∧ P b) p.2.2 (.agg (th5 p.2.1).toArray) := fun P p h4 => by
    refine h4.to (fun b hb' => hg.block b hb'.1.1.2.1 hb'.1.1.2.2) (fun b hb' => ⟨⟨⟨hb'.1.1.1, Nat.lt_of_lt_of_le hb'.1.1.2.1 hg.size, hne b hb'.1.1.2.1 hb'.1.1.2.2⟩, ?_⟩, hb'.2⟩)
    obtain ⟨c', T, f, e⟩ := hb'.1.2
    exact ⟨c', T, f, (hg.block b hb'.1.1.2.1 hb'.1.1.2.2).trans e⟩
  have new : IsQ w5 (fun b => ((lo ≤ b ∧ b < w5.heap.size ∧ some b ≠ (Value.slice (some ⟨g, 0, none⟩) (n + 1) cap).ownBlock) ∧ isC w5 b) ∧ w.heap.size ≤ b ∧ b < w4.heap.size) y (.agg (th5 c).toArray) := by
    refine hq.isC.to (fun b hb' => hg.block b hb'.1.2 (hnb b hb'.1.1)) (fun b hb' => ⟨⟨⟨Nat.le_trans hlo hb'.1.1, Nat.lt_of_lt_of_le hb'.1.2 hg.size, hne b hb'.1.2 (hnb b hb'.1.1)⟩, ?_⟩, hb'.1⟩)
    obtain ⟨c', T, f, e⟩ := hb'.2
    exact ⟨c', T, f, (hg.block b hb'.1.2 (hnb b hb'.1.1)).trans e⟩
  have h4 := h.later hb
  refine ⟨?_, fun p hp => ?_, ?_⟩
  · rw [hl]
    have e : cellsC (es ++ [((k, gg), (c, y))]) = cellsC es ++ (.string k :: .bool gg :: th5 c) := by simp [cellsC]
    rw [e]
    exact ho
  · rcases List.mem_append.1 hp with hp | hp
    · exact (old (fun _ => True) p ((h4.el p hp).weak (fun b hb => ⟨hb, trivial⟩))).weak (fun b hb => hb.1)
    · rw [List.mem_singleton] at hp
      subst hp
      exact new.weak (fun b hb => hb.1)
  · obtain ⟨m, hm, hr⟩ := h.rg
    refine ⟨fun i => if i ≤ n then min (m i) w.heap.size else w4.heap.size, fun i => ?_, fun i p hp => ?_⟩
    · dsimp only
      have := hm i
      split <;> split <;> omega
    · have hle : i ≤ n := by
        have := (List.getElem?_eq_some_iff.1 hp).1
        rw [hl] at this
        omega
      dsimp only
      rw [if_pos hle]
      by_cases hi : i < n
      · rw [if_pos (show i + 1 ≤ n by omega)]
        rw [List.getElem?_append_left (by omega)] at hp
        have h5 := (hr i p hp).to (w' := w4) (Q := fun b => ((lo ≤ b ∧ b < w4.heap.size ∧ some b ≠ sv.ownBlock) ∧ isC w4 b) ∧ (min (m i) w.heap.size ≤ b ∧ b < min (m (i + 1)) w.heap.size)) (fun b hb' => hb.block b hb'.1.1.2.1) (fun b hb' => by
          refine ⟨⟨⟨hb'.1.1.1, by have := hb'.1.1.2.1; omega, hb'.1.1.2.2⟩, ?_⟩, by have := hb'.2.1; omega, by have := hb'.2.2; have := hb'.1.1.2.1; omega⟩
          obtain ⟨c', T, f, e⟩ := hb'.1.2
          exact ⟨c', T, f, (hb.block b hb'.1.1.2.1).trans e⟩)
        exact old _ p h5
      · have e : i = n := by omega
        subst e
        rw [if_neg (by omega)]
        rw [List.getElem?_append_right (by omega), hn, Nat.sub_self] at hp
        cases hp
        exact new.weak (fun b hb => ⟨hb.1, by have := hb.2.1; omega, hb.2.2⟩)

theorem infoCh : (Try.prog.info? 36).map (fun i => (i.zero, i.size, i.bytes)) = some (some (.agg #[.string ⟨#[]⟩, .bool false, .int .i64 0, .int .i64 0, .string ⟨#[]⟩, .slice none 0 0, .slice none 0 0]), 7, 104) := by kernel_rfl
end Go.Proofs.Ytjhnbopejnpbeaa
