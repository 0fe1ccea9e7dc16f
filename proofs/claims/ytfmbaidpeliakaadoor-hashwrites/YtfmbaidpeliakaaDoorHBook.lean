/-
  Several Hashes, each with what it has taken, in a row of books; no conditions.
-/
import Derived.Test.YtfmbaidpeliakaaDoorHWBase
import Derived.Test.YtfmbaidpeliakaaDoorDoorLaid
import Derived.Deep.AppendLies
namespace Go.Proofs.YtfmbaidpeliakaaDoor
open Go.RowKit
set_option linter.unusedVariables false
set_option linter.unusedSimpArgs false

/-- a book: a Hash's block, and what it has taken -/
abbrev Bk := Nat × ByteArray

def rowB (ls : List Bk) : List Value := ls.flatMap fun p => [.pointer (some ⟨p.1, 0, none⟩), .string p.2]

theorem rowB_cons (p : Bk) (r : List Bk) : rowB (p :: r) = .pointer (some ⟨p.1, 0, none⟩) :: .string p.2 :: rowB r := by simp [rowB]
theorem rowB_app (a b : List Bk) : rowB (a ++ b) = rowB a ++ rowB b := by simp [rowB]

theorem rowB_len : ∀ ls : List Bk, (rowB ls).length = ls.length * 2
  | [] => rfl
  | p :: r => by rw [rowB_cons, List.length_cons, List.length_cons, rowB_len r, List.length_cons]; omega

theorem rowB_at : ∀ (ls : List Bk) (i : Nat) (p : Bk), ls[i]? = some p → (rowB ls)[i * 2]? = some (.pointer (some ⟨p.1, 0, none⟩)) ∧ (rowB ls)[i * 2 + 1]? = some (.string p.2)
  | [], i, p, h => by simp at h
  | q :: r, 0, p, h => by simp at h; subst h; simp [rowB_cons]
  | q :: r, i + 1, p, h => by
    have ih := rowB_at r i p (by simpa using h)
    rw [rowB_cons, show (i + 1) * 2 = i * 2 + 1 + 1 by omega]
    simpa using ih

theorem rowB_set : ∀ (ls : List Bk) (i : Nat) (p : Bk) (s : ByteArray), ls[i]? = some p → rowB (ls.set i (p.1, s)) = (rowB ls).set (i * 2 + 1) (.string s)
  | [], i, p, s, h => by simp at h
  | q :: r, 0, p, s, h => by simp at h; subst h; simp [rowB_cons]
  | q :: r, i + 1, p, s, h => by
    have ih := rowB_set r i p s (by simpa using h)
    rw [List.set_cons_succ, rowB_cons, rowB_cons, ih, show (i + 1) * 2 + 1 = i * 2 + 1 + 1 + 1 by omega, List.set_cons_succ, List.set_cons_succ]

theorem own_belowB {w w' : World} {base : Nat} {e : TypeId} {size : Nat} {v : Value} {n : Nat} {xs : List Value} (h : w.ownsRow base e size v n xs) (hb : ∀ b, v.ownBlock = some b → w'.heap[b]? = w.heap[b]?) : w'.ownsRow base e size v n xs := by
  refine ⟨h.1, ?_⟩
  rcases h.2 with hn | ⟨g, cap, cur, rfl, hbs, hg, rest⟩
  · exact .inl hn
  · exact .inr ⟨g, cap, cur, rfl, hbs, (hb g rfl).trans hg, rest⟩

theorem own_setB {w : World} {base : Nat} {e : TypeId} {b n cap j : Nat} {xs : List Value} (h : w.ownsRow base e 2 (.slice (some ⟨b, 0, none⟩) n cap) n xs) (hj : j < n * 2) (v : Value) : (w.setCell ⟨b, j, none⟩ v).ownsRow base e 2 (.slice (some ⟨b, 0, none⟩) n cap) n (xs.set j v) := by
  rcases h.2 with ⟨e1, _⟩ | ⟨g, cap', cur, e1, hbs, hg, h1, h2, h3, h4⟩
  · cases e1
  · cases e1
    refine ⟨by rw [List.length_set]; exact h.1, .inr ⟨b, cap, _, rfl, hbs, heap_setCell_same w b j _ e v hg, h1, h2, by simpa using h3, ?_⟩⟩
    rw [Array.toList_setIfInBounds, List.take_set, h4]

/-- append of a book, at a plain region's list -/
theorem wpl_book {w : World} {ops : Array Oper} {rest : List Oper} {o : Oper} {a : Act} {Q : Exit → Act → World → Prop} (hgd : o.guard = none) (sl x : Operand)
    (ho : o.op = .call { callee := .builtin .append, args := #[sl, x], argTypes := #[31, 31] })
    (base n : Nat) (v : Value) (xs : List Value) (hs : a.eval sl = v) (hown : w.ownsRow base 30 2 v n xs)
    (gv g : Nat) (s : ByteArray) (hx : a.eval x = .slice (some ⟨gv, 0, none⟩) 1 1) (hg : w.heap[gv]? = some (.cells #[.pointer (some ⟨g, 0, none⟩), .string s] 30 (0, 0)))
    (hn : n ≤ 2000000) (hbase : base ≤ w.heap.size)
    (h : ∀ v' w', Hid (w'.ownsRow base 30 2 v' (n + 1) (xs ++ [.pointer (some ⟨g, 0, none⟩), .string s]) ∧ w.grownBy w' v.ownBlock ∧ ∀ b, v'.ownBlock = some b → v.ownBlock = some b ∨ w.heap.size ≤ b) → wpList Tryd.prog ops Q rest (a.put o.dst v') w') :
    wpList Tryd.prog ops Q (o :: rest) a w := by
  obtain ⟨i0, hi, hz0, hz1, hz2⟩ := info_parts (show (Tryd.prog.info? 30).map (fun i => (i.zero, i.size, i.bytes)) = some (some (.agg #[.pointer none, .string ⟨#[]⟩]), 2, 24) by kernel_rfl)
  refine wpList_plain hgd fun K hK => ?_
  obtain ⟨v', w', hrun, h2, h3, _, h5⟩ := run_append_own_at (P := Tryd.prog) w base 31 o.type 30 i0 _ 2 24 Tryd.underlying31 hi hz0 hz1 hz2 rfl (by decide) v n _ hown ⟨gv, 0, none⟩ 1 1 [.pointer (some ⟨g, 0, none⟩), .string s] rfl (fun j u hj => by
      rw [Addr.add_mid, Nat.zero_add, cell_of_row w gv j _ _ (0, 0) hg, ← hj]
      simp) (by intro u hu; simp only [List.mem_cons, List.mem_nil_iff, or_false] at hu; rcases hu with rfl | rfl <;> rfl) (by unfold maxLen; omega) (by omega) hbase
  unfold Oper.wp
  simp only [execOp, ho, resolve, invoke, builtin, Sem.run_bind, Sem.run_pure, Result.andThen_ok, List.map_toArray, List.map_cons, List.map_nil, hs, hx, hrun]
  refine hK _ _ (h v' w' ⟨h2, h3, fun b hb => ?_⟩)
  rcases h5 with e | e
  · exact Or.inl (by rw [← e]; exact hb)
  · rw [hb] at e
    exact Or.inr (by rw [Option.some.inj e]; exact Nat.le_refl _)

structure Books (w wr : World) (lv : Value) (ls : List Bk) : Prop where
  row : wr.ownsRow w.heap.size 30 2 lv ls.length (rowB ls)
  has : ∀ (i : Nat) (p : Bk), ls[i]? = some p → Has wr p.1 KS (txt p.2) ∧ w.heap.size ≤ p.1 ∧ lv.ownBlock ≠ some p.1
  apart : ∀ (i j : Nat) (p q : Bk), ls[i]? = some p → ls[j]? = some q → i ≠ j → p.1 ≠ q.1
  below : Below w.heap.size w wr

theorem Books.later {w wr u : World} {lv : Value} {ls : List Bk} (h : Books w wr lv ls) (hb : Below wr.heap.size wr u) : Books w u lv ls :=
  ⟨own_belowB h.row (fun b e => hb.block b (h.row.lt b e).2), fun i p hp => ⟨(h.has i p hp).1.below hb, (h.has i p hp).2⟩, h.apart, h.below.trans (hb.mono h.below.size)⟩

theorem Books.at {w wr : World} {lv : Value} {ls : List Bk} (h : Books w wr lv ls) (hn : 0 < ls.length) : ∃ b cap, lv = .slice (some ⟨b, 0, none⟩) ls.length cap ∧ w.heap.size ≤ b ∧ b < wr.heap.size ∧ ls.length ≤ cap ∧ wr.heap[b]?.isSome = true ∧ (∀ j, wr.frozen? ⟨b, j, none⟩ = false) ∧ ∀ (i : Nat) (p : Bk), ls[i]? = some p → wr.cell? ⟨b, i * 2, none⟩ = some (.pointer (some ⟨p.1, 0, none⟩)) ∧ wr.cell? ⟨b, i * 2 + 1, none⟩ = some (.string p.2) := by
  rcases h.row.2 with ⟨_, h0⟩ | ⟨b, cap, cur, rfl, hb, hg, h1, _⟩
  · omega
  · refine ⟨b, cap, rfl, hb, (Array.getElem?_eq_some_iff.1 hg).1, h1, by rw [hg]; rfl, fun j => frozen_of_row wr b j _ _ hg, fun i p hp => ?_⟩
    have h2 := rowB_at ls i p hp
    have h3 := h.row.cells (g := b) rfl (i * 2) _ h2.1
    have h4 := h.row.cells (g := b) rfl (i * 2 + 1) _ h2.2
    rw [Addr.add_mid, Nat.zero_add] at h3 h4
    exact ⟨h3, h4⟩

theorem Books.push {w u u' : World} {lv lv' : Value} {ls : List Bk} {g : Nat} {s : ByteArray} (h : Books w u lv ls) (hH : Has u g KS (txt s)) (hg : w.heap.size ≤ g) (hne : lv.ownBlock ≠ some g) (hd : ∀ p ∈ ls, p.1 ≠ g)
    (ho : u'.ownsRow w.heap.size 30 2 lv' (ls.length + 1) (rowB ls ++ [.pointer (some ⟨g, 0, none⟩), .string s])) (hgr : u.grownBy u' lv.ownBlock) (hr : ∀ b, lv'.ownBlock = some b → lv.ownBlock = some b ∨ u.heap.size ≤ b) : Books w u' lv' (ls ++ [(g, s)]) := by
  have hk : ∀ (p : Bk), Has u p.1 KS (txt p.2) → lv.ownBlock ≠ some p.1 → Has u' p.1 KS (txt p.2) ∧ lv'.ownBlock ≠ some p.1 := fun p hp hn => ⟨hp.block (hgr.block p.1 hp.lt (fun e => hn e.symm)), fun e => by
    rcases hr p.1 e with e' | e'
    · exact hn e'
    · have := hp.lt; omega⟩
  have hget : ∀ (i : Nat) (p : Bk), (ls ++ [(g, s)])[i]? = some p → ls[i]? = some p ∨ (i = ls.length ∧ p = (g, s)) := by
    intro i p hp
    by_cases hi : i < ls.length
    · rw [List.getElem?_append_left hi] at hp; exact Or.inl hp
    · rw [List.getElem?_append_right (by omega)] at hp
      have h0 : i - ls.length = 0 := by
        have := (List.getElem?_eq_some_iff.1 hp).1
        simp at this
        omega
      rw [h0] at hp
      simp at hp
      exact Or.inr ⟨by omega, hp.symm⟩
  refine ⟨by rw [rowB_app, List.length_append]; simpa [rowB] using ho, fun i p hp => ?_, fun i j p q hp hq hij => ?_, h.below.trans ((Below.refl _ _).grown hgr h.below.size (fun k e => (h.row.lt k e).1))⟩
  · rcases hget i p hp with hp | ⟨_, rfl⟩
    · obtain ⟨a1, a2, a3⟩ := h.has i p hp
      obtain ⟨b1, b2⟩ := hk p a1 a3
      exact ⟨b1, a2, b2⟩
    · obtain ⟨b1, b2⟩ := hk (g, s) hH hne
      exact ⟨b1, hg, b2⟩
  · rcases hget i p hp with hp | ⟨hi, rfl⟩
    · rcases hget j q hq with hq | ⟨hj, rfl⟩
      · exact h.apart i j p q hp hq hij
      · exact hd p (List.mem_of_getElem? hp)
    · rcases hget j q hq with hq | ⟨hj, rfl⟩
      · exact fun e => hd q (List.mem_of_getElem? hq) e.symm
      · omega

/-- one Hash has taken more, and its book says so -/
theorem Books.wrote {w u u' : World} {b cap k : Nat} {ls : List Bk} {p : Bk} {T : ByteArray} (h : Books w u (.slice (some ⟨b, 0, none⟩) ls.length cap) ls) (hp : ls[k]? = some p) (hH : Has u' p.1 KS (txt p.2 ++ txt T)) (hK : Keeps u u' p.1) :
    Books w (u'.setCell ⟨b, k * 2 + 1, none⟩ (.string (p.2 ++ T))) (.slice (some ⟨b, 0, none⟩) ls.length cap) (ls.set k (p.1, p.2 ++ T)) := by
  have hb := h.row.lt b rfl
  have hne : b ≠ p.1 := fun e => (h.has k p hp).2.2 (by rw [← e]; rfl)
  have hk : k < ls.length := (List.getElem?_eq_some_iff.1 hp).1
  have ho := own_belowB (w' := u') h.row (fun c e => by cases e; exact hK.other b hb.2 hne)
  have hset := own_setB (j := k * 2 + 1) ho (by omega) (.string (p.2 ++ T))
  have hoth : ∀ c, c ≠ b → (u'.setCell ⟨b, k * 2 + 1, none⟩ (.string (p.2 ++ T))).heap[c]? = u'.heap[c]? := fun c hc => heap_setCell_other _ _ _ _ hc
  refine ⟨by rw [List.length_set, rowB_set ls k p _ hp]; exact hset, fun i q hq => ?_, fun i j q r hq hr hij => ?_, ?_⟩
  · by_cases hi : i = k
    · subst hi
      rw [List.getElem?_set_self hk] at hq
      cases hq
      refine ⟨?_, (h.has i p hp).2.1, (h.has i p hp).2.2⟩
      rw [txt_append]
      exact hH.block (hoth _ (fun e => hne e.symm))
    · rw [List.getElem?_set_ne (fun e => hi e.symm)] at hq
      obtain ⟨a1, a2, a3⟩ := h.has i q hq
      refine ⟨(a1.block (hK.other q.1 a1.lt (h.apart i k q p hq hp hi))).block (hoth _ (fun e => a3 (by rw [e]; rfl))), a2, a3⟩
  · have hf : ∀ (i : Nat) (q : Bk), (ls.set k (p.1, p.2 ++ T))[i]? = some q → ∃ q', ls[i]? = some q' ∧ q'.1 = q.1 := by
      intro i q hq
      by_cases hi : i = k
      · subst hi
        rw [List.getElem?_set_self hk] at hq
        cases hq
        exact ⟨p, hp, rfl⟩
      · rw [List.getElem?_set_ne (fun e => hi e.symm)] at hq
        exact ⟨q, hq, rfl⟩
    obtain ⟨q', h1, h2⟩ := hf i q hq
    obtain ⟨r', h3, h4⟩ := hf j r hr
    rw [← h2, ← h4]
    exact h.apart i j q' r' h1 h3 hij
  · have hw := h.below.size
    exact (hK.below h.below (h.has k p hp).2.1 hw).setCell (p := ⟨b, k * 2 + 1, none⟩) hb.1 _
end Go.Proofs.YtfmbaidpeliakaaDoor
