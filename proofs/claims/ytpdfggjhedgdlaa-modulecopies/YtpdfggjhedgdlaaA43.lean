/-
  A module that is being made in a variable: its three lists grow; no conditions.
-/
import Derived.Test.YtpdfggjhedgdlaaA32
import Derived.Test.YtpdfggjhedgdlaaA39
import Derived.Test.YtpdfggjhedgdlaaA42
import Derived.Test.YtpdfggjhedgdlaaA23
namespace Go.Proofs.Ytpdfggjhedgdlaa
open Go.RowKit
set_option linter.unusedVariables false
set_option linter.unusedSimpArgs false

/-- where the constants' own lists may lie -/
def FreeM (base top : Nat) (C F X : Value) : Nat → Prop := fun b => base ≤ b ∧ b < top ∧ some b ≠ C.ownBlock ∧ some b ≠ F.ownBlock ∧ some b ≠ X.ownBlock

/-- a reader, and the module that it has read so far -/
structure CpM (w0 : World) (I : Nat → Obj → Prop) (w : World) (gr : Nat) (C F X : Value) (m : Md) (V : Nat → List Value) : Prop where
  box : w.heap[gr]? = some (.cells #[C, F, X] 26 (0, 0))
  old : Below gr w0 w
  ownC : w.ownsRow (gr + 1) 40 5 C m.cs.length (flat V m.cs.length)
  ownF : w.ownsRow (gr + 1) 43 4 F m.fs.length (m.fs.flatMap fnV)
  ownX : w.ownsRow (gr + 1) 45 2 X m.xs.length (m.xs.flatMap exV)
  row : ∀ c, c < m.cs.length → (V c).length = 5
  el : ∀ c y, m.cs[c]? = some y → IsQ w (FreeM (gr + 1) w.heap.size C F X) y (.agg (V c).toArray)
  side : ∀ b c, I b c → w.heap[b]? = some c ∧ b ≠ gr ∧ some b ≠ C.ownBlock ∧ some b ≠ F.ownBlock ∧ some b ≠ X.ownBlock

theorem CpM.lt {w0 w : World} {I : Nat → Obj → Prop} {gr : Nat} {C F X : Value} {m : Md} {V : Nat → List Value} (h : CpM w0 I w gr C F X m V) : gr < w.heap.size := lt_of_row h.box

/-- all blocks as they were, the reader's own apart -/
theorem CpM.to {w0 w w' : World} {I : Nat → Obj → Prop} {gr : Nat} {C F X : Value} {m : Md} {V : Nat → List Value} (h : CpM w0 I w gr C F X m V) (hb : ∀ b, b < w.heap.size → b ≠ gr → w'.heap[b]? = w.heap[b]?) (hs : w.heap.size ≤ w'.heap.size)
    (hbox : w'.heap[gr]? = some (.cells #[C, F, X] 26 (0, 0))) (hold : Below gr w w') : CpM w0 I w' gr C F X m V where
  box := hbox
  old := h.old.trans hold
  ownC := own_later h.ownC (fun b hl hv => hb b hl (by have := (h.ownC.lt b hv).1; omega))
  ownF := own_later h.ownF (fun b hl hv => hb b hl (by have := (h.ownF.lt b hv).1; omega))
  ownX := own_later h.ownX (fun b hl hv => hb b hl (by have := (h.ownX.lt b hv).1; omega))
  row := h.row
  el := fun c y hy => (h.el c y hy).to (fun b hP => hb b hP.2.1 (by have := hP.1; omega)) (fun b hP => ⟨hP.1, Nat.lt_of_lt_of_le hP.2.1 hs, hP.2.2⟩)
  side := fun b c hI => ⟨(hb b (Array.getElem?_eq_some_iff.1 (h.side b c hI).1).1 (h.side b c hI).2.1).trans (h.side b c hI).1, (h.side b c hI).2⟩

theorem CpM.later {w0 w w' : World} {I : Nat → Obj → Prop} {gr : Nat} {C F X : Value} {m : Md} {V : Nat → List Value} (h : CpM w0 I w gr C F X m V) (hb : Below w.heap.size w w') : CpM w0 I w' gr C F X m V :=
  h.to (fun b hl _ => hb.block b hl) hb.size ((hb.block gr h.lt).trans h.box) (hb.mono (Nat.le_of_lt h.lt))

theorem own_apartM {w : World} {b1 b2 : Nat} {e1 e2 : TypeId} {s1 s2 n1 n2 : Nat} {v1 v2 : Value} {x1 x2 : List Value} (h1 : w.ownsRow b1 e1 s1 v1 n1 x1) (h2 : w.ownsRow b2 e2 s2 v2 n2 x2) (hne : e1 ≠ e2) (b : Nat) (hb : v1.ownBlock = some b) : some b ≠ v2.ownBlock := by
  rcases h1.2 with ⟨rfl, _⟩ | ⟨g1, c1, cur1, rfl, _, hg1, _⟩
  · cases hb
  · rcases h2.2 with ⟨rfl, _⟩ | ⟨g2, c2, cur2, rfl, _, hg2, _⟩
    · simp [Value.ownBlock]
    · intro e
      have e' : g1 = b := by simpa [Value.ownBlock] using hb
      have e'' : b = g2 := by simpa [Value.ownBlock] using e
      subst e'
      subst e''
      rw [hg1] at hg2
      simp at hg2
      exact hne hg2.2

theorem flatMap_snoc {α β : Type} (f : α → List β) (l : List α) (x : α) : (l ++ [x]).flatMap f = l.flatMap f ++ f x := by simp [List.flatMap_append]

theorem own_sl {g b n c : Nat} (h : (Value.slice (some ⟨g, 0, none⟩) n c).ownBlock = some b) : g = b := by simpa [Value.ownBlock] using h

/-- one function more in the module -/
theorem CpM.pushF {w0 w w1 : World} {I : Nat → Obj → Prop} {gr : Nat} {C F F' X : Value} {m : Md} {V : Nat → List Value} {f : Fn} (h : CpM w0 I w gr C F X m V) (hown : w1.ownsRow (gr + 1) 43 4 F' (m.fs.length + 1) (m.fs.flatMap fnV ++ fnV f)) (hg : Grew w w1 F F') :
    CpM w0 I (w1.setCell ⟨gr, 1, none⟩ F') gr C F' X ⟨m.cs, m.fs ++ [f], m.xs⟩ V := by
  have hgF : ∀ b, F.ownBlock = some b → gr + 1 ≤ b ∧ b < w.heap.size := h.ownF.lt
  have hgr : some gr ≠ F.ownBlock := fun e => by have := (hgF gr e.symm).1; omega
  have hlt := h.lt
  have keep : ∀ b, b < w.heap.size → b ≠ gr → some b ≠ F.ownBlock → (w1.setCell ⟨gr, 1, none⟩ F').heap[b]? = w.heap[b]? := fun b hb hn hf => by rw [heap_setCell_other _ _ _ _ (by simpa using hn)]; exact hg.far hb hf
  have hsz : (w1.setCell ⟨gr, 1, none⟩ F').heap.size = w1.heap.size := by simp
  have hs1 := hg.grown.size
  have hFb : ∀ b, F'.ownBlock = some b → F.ownBlock = some b ∨ w.heap.size ≤ b := hg.row
  refine ⟨?_, ?_, ?_, ?_, ?_, h.row, ?_, ?_⟩
  · rw [heap_setCell_same w1 gr 1 _ _ _ ((hg.far hlt hgr).trans h.box)]; rfl
  · have hb : Below (gr + 1) w w1 := (Below.refl _ _).grown hg.grown (by omega) (fun k e => (hgF k e).1)
    have hb' : Below gr w w1 := hb.mono (Nat.le_succ _)
    exact h.old.trans (hb'.setCell (p := ⟨gr, 1, none⟩) (Nat.le_refl _) _)
  · exact own_later h.ownC (fun b hl hv => keep b hl (by have := (h.ownC.lt b hv).1; omega) (own_apartM h.ownC h.ownF (by decide) b hv))
  · rw [List.length_append, List.length_singleton, flatMap_snoc]
    exact own_later hown (fun b hl hv => by rw [heap_setCell_other _ _ _ _ (by have := (hown.lt b hv).1; simp; omega)])
  · exact own_later h.ownX (fun b hl hv => keep b hl (by have := (h.ownX.lt b hv).1; omega) (own_apartM h.ownX h.ownF (by decide) b hv))
  · intro c y hy
    refine (h.el c y hy).to (fun b hP => keep b hP.2.1 (by have := hP.1; omega) hP.2.2.2.1) (fun b hP => ⟨hP.1, by rw [hsz]; have := hP.2.1; omega, hP.2.2.1, fun e => ?_, hP.2.2.2.2⟩)
    rcases hFb b e.symm with e' | e'
    · exact hP.2.2.2.1 e'.symm
    · have := hP.2.1; omega
  · intro b c hI
    obtain ⟨i1, i2, i3, i4, i5⟩ := h.side b c hI
    have hbl := (Array.getElem?_eq_some_iff.1 i1).1
    refine ⟨(keep b hbl i2 i4).trans i1, i2, i3, fun e => ?_, i5⟩
    rcases hFb b e.symm with e' | e'
    · exact i4 e'.symm
    · omega

/-- one export more in the module -/
theorem CpM.pushX {w0 w w1 : World} {I : Nat → Obj → Prop} {gr : Nat} {C F X X' : Value} {m : Md} {V : Nat → List Value} {x : Ex} (h : CpM w0 I w gr C F X m V) (hown : w1.ownsRow (gr + 1) 45 2 X' (m.xs.length + 1) (m.xs.flatMap exV ++ exV x)) (hg : Grew w w1 X X') :
    CpM w0 I (w1.setCell ⟨gr, 2, none⟩ X') gr C F X' ⟨m.cs, m.fs, m.xs ++ [x]⟩ V := by
  have hgF : ∀ b, X.ownBlock = some b → gr + 1 ≤ b ∧ b < w.heap.size := h.ownX.lt
  have hgr : some gr ≠ X.ownBlock := fun e => by have := (hgF gr e.symm).1; omega
  have hlt := h.lt
  have keep : ∀ b, b < w.heap.size → b ≠ gr → some b ≠ X.ownBlock → (w1.setCell ⟨gr, 2, none⟩ X').heap[b]? = w.heap[b]? := fun b hb hn hf => by rw [heap_setCell_other _ _ _ _ (by simpa using hn)]; exact hg.far hb hf
  have hsz : (w1.setCell ⟨gr, 2, none⟩ X').heap.size = w1.heap.size := by simp
  have hs1 := hg.grown.size
  have hFb : ∀ b, X'.ownBlock = some b → X.ownBlock = some b ∨ w.heap.size ≤ b := hg.row
  refine ⟨?_, ?_, ?_, ?_, ?_, h.row, ?_, ?_⟩
  · rw [heap_setCell_same w1 gr 2 _ _ _ ((hg.far hlt hgr).trans h.box)]; rfl
  · have hb : Below (gr + 1) w w1 := (Below.refl _ _).grown hg.grown (by omega) (fun k e => (hgF k e).1)
    have hb' : Below gr w w1 := hb.mono (Nat.le_succ _)
    exact h.old.trans (hb'.setCell (p := ⟨gr, 2, none⟩) (Nat.le_refl _) _)
  · exact own_later h.ownC (fun b hl hv => keep b hl (by have := (h.ownC.lt b hv).1; omega) (own_apartM h.ownC h.ownX (by decide) b hv))
  · exact own_later h.ownF (fun b hl hv => keep b hl (by have := (h.ownF.lt b hv).1; omega) (own_apartM h.ownF h.ownX (by decide) b hv))
  · rw [List.length_append, List.length_singleton, flatMap_snoc]
    exact own_later hown (fun b hl hv => by rw [heap_setCell_other _ _ _ _ (by have := (hown.lt b hv).1; simp; omega)])
  · intro c y hy
    refine (h.el c y hy).to (fun b hP => keep b hP.2.1 (by have := hP.1; omega) hP.2.2.2.2) (fun b hP => ⟨hP.1, by rw [hsz]; have := hP.2.1; omega, hP.2.2.1, hP.2.2.2.1, fun e => ?_⟩)
    rcases hFb b e.symm with e' | e'
    · exact hP.2.2.2.2 e'.symm
    · have := hP.2.1; omega
  · intro b c hI
    obtain ⟨i1, i2, i3, i4, i5⟩ := h.side b c hI
    have hbl := (Array.getElem?_eq_some_iff.1 i1).1
    refine ⟨(keep b hbl i2 i5).trans i1, i2, i3, i4, fun e => ?_⟩
    rcases hFb b e.symm with e' | e'
    · exact i5 e'.symm
    · omega

/-- one constant more in the module -/
theorem CpM.pushC {w0 w w7 w9 : World} {I : Nat → Obj → Prop} {gr g7 cap7 lo n : Nat} {C F X : Value} {m : Md} {V : Nat → List Value} {y : Vl} {cs : List Value} (h : CpM w0 I w gr C F X m V) (hn : m.cs.length = n)
    (hF7 : ∀ b, b < w.heap.size → some b ≠ C.ownBlock → w7.heap[b]? = w.heap[b]?) (hs7 : w.heap.size ≤ w7.heap.size) (hB7 : Below gr w w7) (hat : C.ownBlock = some g7 ∨ w.heap.size ≤ g7)
    (hown : w9.ownsRow (gr + 1) 40 5 (.slice (some ⟨g7, 0, none⟩) (n + 1) cap7) (n + 1) (flat V n ++ cs)) (hbox : w9.heap[gr]? = some (.cells #[.slice (some ⟨g7, 0, none⟩) (n + 1) cap7, F, X] 26 (0, 0)))
    (hoth : ∀ b, b ≠ gr → b ≠ g7 → w9.heap[b]? = w7.heap[b]?) (hs9 : w9.heap.size = w7.heap.size) (hB9 : Below gr w7 w9) (hcs : cs.length = 5) (hx : IsQ w (fun b => lo ≤ b ∧ b < w.heap.size) y (.agg cs.toArray))
    (hlC : ∀ b, C.ownBlock = some b → b < lo) (hlF : ∀ b, F.ownBlock = some b → b < lo) (hlX : ∀ b, X.ownBlock = some b → b < lo) (hlg : gr < lo) :
    CpM w0 I w9 gr (.slice (some ⟨g7, 0, none⟩) (n + 1) cap7) F X ⟨m.cs ++ [y], m.fs, m.xs⟩ (setV V n cs) := by
  have hC := h.ownC.lt
  have keep : ∀ b, b < w.heap.size → b ≠ gr → some b ≠ C.ownBlock → w9.heap[b]? = w.heap[b]? := fun b hb hng hnc => by
    rw [hoth b hng (fun e => ?_), hF7 b hb hnc]
    rcases hat with hat | hat
    · exact hnc (by rw [hat, e])
    · omega
  have ne7 : ∀ b, b < w.heap.size → some b ≠ C.ownBlock → b ≠ g7 := fun b hb hnc e => by
    rcases hat with hat | hat
    · exact hnc (by rw [hat, e])
    · omega
  refine ⟨hbox, h.old.trans (hB7.trans hB9), ?_, ?_, ?_, ?_, ?_, ?_⟩
  · rw [List.length_append, List.length_singleton, hn, flat_set]
    exact hown
  · exact own_later h.ownF (fun b hl hv => keep b hl (by have := (h.ownF.lt b hv).1; omega) (own_apartM h.ownF h.ownC (by decide) b hv))
  · exact own_later h.ownX (fun b hl hv => keep b hl (by have := (h.ownX.lt b hv).1; omega) (own_apartM h.ownX h.ownC (by decide) b hv))
  · intro c hc
    rw [List.length_append, List.length_singleton, hn] at hc
    by_cases e : c = n
    · subst e; rw [setV_same]; exact hcs
    · rw [setV_other V n cs (by omega)]; exact h.row c (by omega)
  · intro c z hz
    have hown7 : ∀ b, some b ≠ (Value.slice (some ⟨g7, 0, none⟩) (n + 1) cap7).ownBlock ↔ b ≠ g7 := fun b => by simp [Value.ownBlock]
    by_cases e : c = n
    · subst e
      rw [setV_same]
      rw [List.getElem?_append_right (by omega), hn, Nat.sub_self] at hz
      have hzy : y = z := by simpa using hz
      subst hzy
      refine hx.to (fun b hP => keep b hP.2 (by omega) (fun e => by have := hlC b e.symm; omega)) (fun b hP => ⟨by omega, by omega, (hown7 b).2 (ne7 b hP.2 (fun e => by have := hlC b e.symm; omega)), fun e => by have := hlF b e.symm; omega, fun e => by have := hlX b e.symm; omega⟩)
    · have hc : c < n := by
        have := (List.getElem?_eq_some_iff.1 hz).1
        rw [List.length_append, List.length_singleton, hn] at this
        omega
      rw [setV_other V n cs hc]
      rw [List.getElem?_append_left (by omega)] at hz
      refine (h.el c z hz).to (fun b hP => keep b hP.2.1 (by have := hP.1; omega) hP.2.2.1) (fun b hP => ⟨hP.1, by have := hP.2.1; omega, (hown7 b).2 (ne7 b hP.2.1 hP.2.2.1), hP.2.2.2.1, hP.2.2.2.2⟩)
  · intro b c hI
    obtain ⟨i1, i2, i3, i4, i5⟩ := h.side b c hI
    have hbl := (Array.getElem?_eq_some_iff.1 i1).1
    refine ⟨(keep b hbl i2 i3).trans i1, i2, fun e => ?_, i4, i5⟩
    exact ne7 b hbl i3 (own_sl e.symm).symm

theorem isT_of_own {w : World} {base k : Nat} {e : TypeId} {v : Value} {rs : List (List Value)} (h : w.ownsRow base e k v rs.length rs.flatten) (hk : ∀ r ∈ rs, r.length = k) (hl : rs.length ≤ 140737488351232) :
    ∃ al cl, v = .slice al rs.length cl ∧ IsT w (fun b => base ≤ b ∧ b < w.heap.size) k rs al cl := by
  obtain ⟨al, cl, hv, n1, n2, n3, n4⟩ := slice_form h
  refine ⟨al, cl, hv, n1, n2, hl, fun a ha i r hr => ?_⟩
  obtain ⟨h1, h2⟩ := n4 a ha
  refine ⟨h.lt _ h1, fun j u hu => ?_⟩
  rw [h2, addK]
  exact h.cells h1 (i * k + j) u (flatkR_at k rs hk i r hr j u hu)

theorem isC_of_own {w : World} {base : Nat} {e : TypeId} {C F X : Value} {cs : List Vl} {V : Nat → List Value} (h : w.ownsRow base e 5 C cs.length (flat V cs.length)) (hr : ∀ c, c < cs.length → (V c).length = 5) (hl : cs.length ≤ 140737488351232) (el : ∀ c y, cs[c]? = some y → IsQ w (FreeM base w.heap.size C F X) y (.agg (V c).toArray)) :
    ∃ al cl, C = .slice al cs.length cl ∧ IsC w (fun b => base ≤ b ∧ b < w.heap.size) cs al cl := by
  obtain ⟨al, cl, hv, n1, n2, n3, n4⟩ := slice_form h
  refine ⟨al, cl, hv, IsP.of (V := V) ⟨by omega, by omega, by decide, n1, fun _ => ⟨rfl, rfl⟩, n2, Nat.le_refl _, hl, by simp, by simp, ?_, hr, (fun a h => by cases h), (fun t h => by cases h)⟩ (fun c y hy => (el c y hy).1.weak (fun b hP => ⟨hP.1, hP.2.1⟩))⟩
  intro a ha i hi
  obtain ⟨h1, h2⟩ := n4 a ha
  refine ⟨h.lt _ h1, fun j u hu => ?_⟩
  rw [h2, addK]
  exact h.cells h1 (i * 5 + j) u (flat_at V cs.length hr i hi j u hu)

/-- a row that is someone's own -/
def RowP (w : World) (P : Nat → Prop) (e : TypeId) (size : Nat) (v : Value) (n : Nat) : Prop :=
  (v = .slice none 0 0 ∧ n = 0) ∨ ∃ b cap cs, v = .slice (some ⟨b, 0, none⟩) n cap ∧ P b ∧ w.heap[b]? = some (.cells cs e (0, 0)) ∧ cs.size = cap * size ∧ n ≤ cap ∧ cap ≤ maxLen
theorem RowP.to {w w' : World} {P Q : Nat → Prop} (hw : ∀ b, P b → w'.heap[b]? = w.heap[b]?) (hP : ∀ b, P b → Q b) {e : TypeId} {size : Nat} {v : Value} {n : Nat} (h : RowP w P e size v n) : RowP w' Q e size v n := by
  rcases h with h | ⟨b, cap, cs, h1, h2, h3, h4⟩
  · exact Or.inl h
  · exact Or.inr ⟨b, cap, cs, h1, hP b h2, (hw b h2).trans h3, h4⟩
theorem RowP.row {w : World} {P : Nat → Prop} {lo : Nat} {e : TypeId} {size : Nat} {v : Value} {n : Nat} (h : RowP w P e size v n) : Row w P lo e size v n := by
  rcases h with h | ⟨b, cap, cs, h1, h2, h3⟩
  · exact Or.inl h
  · exact Or.inr ⟨b, cap, cs, h1, Or.inl h2, h3⟩
theorem rowP_of_own {w : World} {base size n : Nat} {e : TypeId} {v : Value} {xs : List Value} (h : w.ownsRow base e size v n xs) : RowP w (fun b => base ≤ b ∧ b < w.heap.size) e size v n := by
  rcases h.2 with ⟨e1, hn⟩ | ⟨g, cap, cur, e1, hb, hg, hnc, hcm, hsz, htk⟩
  · exact Or.inl ⟨e1, hn⟩
  · exact Or.inr ⟨g, cap, cur, e1, ⟨hb, lt_of_row hg⟩, hg, hsz, hnc, hcm⟩

/-- a module's lists are its owner's -/
def OwnM (w : World) (P : Nat → Prop) (m : Md) (a1 : Option Addr) (c1 : Nat) (a2 : Option Addr) (c2 : Nat) (a3 : Option Addr) (c3 : Nat) : Prop :=
  (∃ r, Ty w P r (.agg #[.int .i64 4, .int .i64 0, .string ⟨#[]⟩, .slice a1 m.cs.length c1, .slice none 0 0])) ∧ RowP w P 43 4 (.slice a2 m.fs.length c2) m.fs.length ∧ RowP w P 45 2 (.slice a3 m.xs.length c3) m.xs.length
theorem OwnM.to {w w' : World} {P Q : Nat → Prop} (hw : ∀ b, P b → w'.heap[b]? = w.heap[b]?) (hP : ∀ b, P b → Q b) {m : Md} {a1 a2 a3 : Option Addr} {c1 c2 c3 : Nat} (h : OwnM w P m a1 c1 a2 c2 a3 c3) : OwnM w' Q m a1 c1 a2 c2 a3 c3 := by
  obtain ⟨⟨r, h1⟩, h2, h3⟩ := h
  exact ⟨⟨r, Ty.to hw hP _ _ h1⟩, h2.to hw hP, h3.to hw hP⟩

theorem tyC_of_own {w : World} {base : Nat} {C F X : Value} {cs : List Vl} {V : Nat → List Value} (h : w.ownsRow base 40 5 C cs.length (flat V cs.length)) (hr : ∀ c, c < cs.length → (V c).length = 5) (hbl : cs.length ≤ 1000000) (el : ∀ c y, cs[c]? = some y → IsQ w (FreeM base w.heap.size C F X) y (.agg (V c).toArray)) {al : Option Addr} {cl : Nat} (hv : C = .slice al cs.length cl) :
    Ty w (fun b => base ≤ b ∧ b < w.heap.size) (depL cs + 1) (.agg #[.int .i64 4, .int .i64 0, .string ⟨#[]⟩, .slice al cs.length cl, .slice none 0 0]) := by
  have hel := fun c y (hy : cs[c]? = some y) => (el c y hy).weak (Q := fun b => base ≤ b ∧ b < w.heap.size) (fun b hP => ⟨hP.1, hP.2.1⟩)
  refine ⟨4, 0, ⟨#[]⟩, al, cs.length, cl, none, 0, 0, rfl, ?_, Or.inl ⟨rfl, rfl, rfl⟩⟩
  rcases h.2 with ⟨e, hn⟩ | ⟨g, cap, cur, e, hb, hg, hnc, hcm, hsz, htk⟩
  · rw [hv] at e
    simp only [Value.slice.injEq] at e
    exact Or.inl e
  · rw [hv] at e
    simp only [Value.slice.injEq, true_and] at e
    obtain ⟨rfl, rfl⟩ := e
    refine Or.inr ⟨g, cur, rfl, ⟨hb, lt_of_row hg⟩, hg, hsz, hnc, hcm, hbl, fun i hi => ?_⟩
    obtain ⟨y, hy⟩ : ∃ y, cs[i]? = some y := ⟨_, List.getElem?_eq_getElem hi⟩
    have h5 := hr i hi
    have hc : ∀ j v, (V i)[j]? = some v → cur[i * 5 + j]? = some v := fun j v hv => by
      have h1 := flat_at V cs.length hr i hi j v hv
      rw [← htk, List.getElem?_take] at h1
      split at h1
      · simpa using h1
      · cases h1
    have ht := (hel i y hy).2.le (dep_le hy)
    match hV : V i, h5 with
    | [y0, y1, y2, y3, y4], _ =>
      rw [hV] at hc ht
      exact ⟨y0, y1, y2, y3, y4, ⟨by simpa using hc 0 y0 rfl, hc 1 y1 rfl, hc 2 y2 rfl, hc 3 y3 rfl, hc 4 y4 rfl⟩, ht⟩

theorem CpM.made {w0 w : World} {I : Nat → Obj → Prop} {gr : Nat} {C F X : Value} {m : Md} {V : Nat → List Value} (h : CpM w0 I w gr C F X m V) (hf : formedB m = true) :
    ∃ a1 c1 a2 c2 a3 c3, C = .slice a1 m.cs.length c1 ∧ F = .slice a2 m.fs.length c2 ∧ X = .slice a3 m.xs.length c3 ∧ IsM w (fun b => gr + 1 ≤ b ∧ b < w.heap.size) m a1 c1 a2 c2 a3 c3 ∧ OwnM w (fun b => gr + 1 ≤ b ∧ b < w.heap.size) m a1 c1 a2 c2 a3 c3 := by
  obtain ⟨p1, p2, p3, p4, p5, p6⟩ := formed_parts hf
  obtain ⟨a1, c1, e1, i1⟩ := isC_of_own h.ownC h.row (by omega) h.el
  have o2 : w.ownsRow (gr + 1) 43 4 F (m.fs.map fnV).length (m.fs.map fnV).flatten := by rw [List.length_map, ← List.flatMap_def]; exact h.ownF
  have o3 : w.ownsRow (gr + 1) 45 2 X (m.xs.map exV).length (m.xs.map exV).flatten := by rw [List.length_map, ← List.flatMap_def]; exact h.ownX
  obtain ⟨a2, c2, e2, i2⟩ := isT_of_own o2 (fun r hr => by obtain ⟨f, _, rfl⟩ := List.mem_map.1 hr; rfl) (by rw [List.length_map]; omega)
  obtain ⟨a3, c3, e3, i3⟩ := isT_of_own o3 (fun r hr => by obtain ⟨f, _, rfl⟩ := List.mem_map.1 hr; rfl) (by rw [List.length_map]; omega)
  rw [List.length_map] at e2 e3
  refine ⟨a1, c1, a2, c2, a3, c3, e1, e2, e3, ⟨i1, i2, i3, fun f hf => ?_, fun x hx => by have := (p6 x hx).1; omega⟩, ⟨_, tyC_of_own h.ownC h.row (by omega) h.el e1⟩, by rw [← e2]; exact rowP_of_own h.ownF, by rw [← e3]; exact rowP_of_own h.ownX⟩
  obtain ⟨p, l, s, t⟩ := f
  have := (fn_parts (p5 _ hf)).2.2.2.2.2.2
  dsimp only
  omega
end Go.Proofs.Ytpdfggjhedgdlaa
