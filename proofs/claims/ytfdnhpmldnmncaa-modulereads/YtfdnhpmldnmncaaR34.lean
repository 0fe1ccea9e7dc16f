/-
  A module that the document's own reader (scrupleref09) has read so far, in memory; one function, one export more; no conditions.
  The walk of the document's own reader of functions (scrupleref09.reader.funcs); conditions: the form's own reach.
-/
import Derived.Test.YtfdnhpmldnmncaaR31
import Derived.Test.YtfdnhpmldnmncaaR33
namespace Go.Proofs.Ytfdnhpmldnmncaa
open Go.RowKit

/-- the document's reader, and the module that it has read so far, in a box of its own -/
structure RdQ (w0 w : World) (gm gr : Nat) (bv : Value) (p f q : Int) (C F X : Value) (m : Md) (V : Nat → List Value) : Prop where
  rd : Qf w gr bv p f q
  box : w.heap[gm]? = some (.cells #[C, F, X] 28 (0, 0))
  two : gr = gm + 1
  old : Below gm w0 w
  ownC : w.ownsRow (gr + 1) 51 5 C m.cs.length (flat V m.cs.length)
  ownF : w.ownsRow (gr + 1) 53 4 F m.fs.length (m.fs.flatMap fnV)
  ownX : w.ownsRow (gr + 1) 55 2 X m.xs.length (m.xs.flatMap exV)
  row : ∀ c, c < m.cs.length → (V c).length = 5
  el : ∀ c y, m.cs[c]? = some y → IsQ w (FreeM (gr + 1) w.heap.size C F X) y (.agg (V c).toArray)

theorem RdQ.lt {w0 w : World} {gm gr : Nat} {bv : Value} {p f q : Int} {C F X : Value} {m : Md} {V : Nat → List Value} (h : RdQ w0 w gm gr bv p f q C F X m V) : gr < w.heap.size := h.rd.lt

theorem RdQ.beside {w0 w w' : World} {gm gr : Nat} {bv bv' : Value} {p f q p' f' q' : Int} {C F X : Value} {m : Md} {V : Nat → List Value} (h : RdQ w0 w gm gr bv p f q C F X m V) (hb : Beside gr w w') (hr : Qf w' gr bv' p' f' q') : RdQ w0 w' gm gr bv' p' f' q' C F X m V where
  rd := hr
  box := (hb.block gm (lt_of_row h.box) (by have := h.two; omega)).trans h.box
  two := h.two
  old := h.old.trans (hb.below (by have := h.two; omega) (by have := h.two; have := h.lt; omega))
  ownC := own_later h.ownC (fun b hl hv => hb.block b hl (by have := (h.ownC.lt b hv).1; omega))
  ownF := own_later h.ownF (fun b hl hv => hb.block b hl (by have := (h.ownF.lt b hv).1; omega))
  ownX := own_later h.ownX (fun b hl hv => hb.block b hl (by have := (h.ownX.lt b hv).1; omega))
  row := h.row
  el := fun c y hy => (h.el c y hy).to (fun b hP => hb.block b hP.2.1 (by have := hP.1; omega)) (fun b hP => ⟨hP.1, Nat.lt_of_lt_of_le hP.2.1 hb.size, hP.2.2⟩)

theorem RdQ.later {w0 w w' : World} {gm gr : Nat} {bv : Value} {p f q : Int} {C F X : Value} {m : Md} {V : Nat → List Value} (h : RdQ w0 w gm gr bv p f q C F X m V) (hb : Below w.heap.size w w') : RdQ w0 w' gm gr bv p f q C F X m V :=
  h.beside (Beside.of_below hb) (h.rd.of_below hb)
theorem RdQ.drew {w0 w : World} {gm gr : Nat} {bv : Value} {p f q : Int} {C F X : Value} {m : Md} {V : Nat → List Value} (h : RdQ w0 w gm gr bv p f q C F X m V) (k : Nat) : RdQ w0 (w.drewN k) gm gr bv p f q C F X m V := h.later (drewN_below (Below.refl _ _) k)

/-- bytes that were there ahead of the reader -/
theorem RdQ.src {w0 w : World} {gm gr : Nat} {bv : Value} {p f q : Int} {C F X : Value} {m : Md} {V : Nat → List Value} (h : RdQ w0 w gm gr bv p f q C F X m V) {ao : Option Addr} {len cap : Nat} {zs : List Int} (hz : Row8 w0 ao len cap zs) (hg : w0.heap.size ≤ gm) (hm : cap ≤ maxLen) : Src w gr ao len cap zs :=
  ⟨hz.later' h.old (fun ad ha hp => Nat.lt_of_lt_of_le (hz.block ad ha hp) hg), fun ad ha hp => by have := hz.block ad ha hp; have := h.two; omega, h.lt, hm⟩

/-- one function more in the module -/
theorem RdQ.pushF {w0 w w1 : World} {gm gr : Nat} {bv : Value} {p fl q : Int} {C F F' X : Value} {m : Md} {V : Nat → List Value} {f : Fn} (h : RdQ w0 w gm gr bv p fl q C F X m V) (hown : w1.ownsRow (gr + 1) 53 4 F' (m.fs.length + 1) (m.fs.flatMap fnV ++ fnV f)) (hg : Grew w w1 F F') :
    RdQ w0 (w1.setCell ⟨gm, 1, none⟩ F') gm gr bv p fl q C F' X ⟨m.cs, m.fs ++ [f], m.xs⟩ V := by
  have hgF : ∀ b, F.ownBlock = some b → gr + 1 ≤ b ∧ b < w.heap.size := h.ownF.lt
  have h2 := h.two
  have hgr : some gm ≠ F.ownBlock := fun e => by have := (hgF gm e.symm).1; omega
  have hlt := lt_of_row h.box
  have hlr := h.lt
  have keep : ∀ b, b < w.heap.size → b ≠ gm → some b ≠ F.ownBlock → (w1.setCell ⟨gm, 1, none⟩ F').heap[b]? = w.heap[b]? := fun b hb hn hf => by rw [heap_setCell_other _ _ _ _ (by simpa using hn)]; exact hg.far hb hf
  have hsz : (w1.setCell ⟨gm, 1, none⟩ F').heap.size = w1.heap.size := by simp
  have hs1 := hg.grown.size
  have hFb : ∀ b, F'.ownBlock = some b → F.ownBlock = some b ∨ w.heap.size ≤ b := hg.row
  refine ⟨?_, ?_, h.two, ?_, ?_, ?_, ?_, h.row, ?_⟩
  · exact (keep gr hlr (by omega) (fun e => by have := (hgF gr e.symm).1; omega)).trans h.rd
  · rw [heap_setCell_same w1 gm 1 _ _ _ ((hg.far hlt hgr).trans h.box)]; rfl
  · have hb : Below (gr + 1) w w1 := (Below.refl _ _).grown hg.grown (by omega) (fun k e => (hgF k e).1)
    have hb' : Below gm w w1 := hb.mono (by omega)
    exact h.old.trans (hb'.setCell (p := ⟨gm, 1, none⟩) (Nat.le_refl _) _)
  · exact own_later h.ownC (fun b hl hv => keep b hl (by have := (h.ownC.lt b hv).1; omega) (own_apartM h.ownC h.ownF (by decide) b hv))
  · rw [List.length_append, List.length_singleton, flatMap_snoc]
    exact own_later hown (fun b hl hv => by rw [heap_setCell_other _ _ _ _ (by have := (hown.lt b hv).1; simp; omega)])
  · exact own_later h.ownX (fun b hl hv => keep b hl (by have := (h.ownX.lt b hv).1; omega) (own_apartM h.ownX h.ownF (by decide) b hv))
  · intro c y hy
    refine (h.el c y hy).to (fun b hP => keep b hP.2.1 (by have := hP.1; omega) hP.2.2.2.1) (fun b hP => ⟨hP.1, by rw [hsz]; have := hP.2.1; omega, hP.2.2.1, fun e => ?_, hP.2.2.2.2⟩)
    rcases hFb b e.symm with e' | e'
    · exact hP.2.2.2.1 e'.symm
    · have := hP.2.1; omega

/-- one export more in the module -/
theorem RdQ.pushX {w0 w w1 : World} {gm gr : Nat} {bv : Value} {p fl q : Int} {C F X X' : Value} {m : Md} {V : Nat → List Value} {x : Ex} (h : RdQ w0 w gm gr bv p fl q C F X m V) (hown : w1.ownsRow (gr + 1) 55 2 X' (m.xs.length + 1) (m.xs.flatMap exV ++ exV x)) (hg : Grew w w1 X X') :
    RdQ w0 (w1.setCell ⟨gm, 2, none⟩ X') gm gr bv p fl q C F X' ⟨m.cs, m.fs, m.xs ++ [x]⟩ V := by
  have hgF : ∀ b, X.ownBlock = some b → gr + 1 ≤ b ∧ b < w.heap.size := h.ownX.lt
  have h2 := h.two
  have hgr : some gm ≠ X.ownBlock := fun e => by have := (hgF gm e.symm).1; omega
  have hlt := lt_of_row h.box
  have hlr := h.lt
  have keep : ∀ b, b < w.heap.size → b ≠ gm → some b ≠ X.ownBlock → (w1.setCell ⟨gm, 2, none⟩ X').heap[b]? = w.heap[b]? := fun b hb hn hf => by rw [heap_setCell_other _ _ _ _ (by simpa using hn)]; exact hg.far hb hf
  have hsz : (w1.setCell ⟨gm, 2, none⟩ X').heap.size = w1.heap.size := by simp
  have hs1 := hg.grown.size
  have hFb : ∀ b, X'.ownBlock = some b → X.ownBlock = some b ∨ w.heap.size ≤ b := hg.row
  refine ⟨?_, ?_, h.two, ?_, ?_, ?_, ?_, h.row, ?_⟩
  · exact (keep gr hlr (by omega) (fun e => by have := (hgF gr e.symm).1; omega)).trans h.rd
  · rw [heap_setCell_same w1 gm 2 _ _ _ ((hg.far hlt hgr).trans h.box)]; rfl
  · have hb : Below (gr + 1) w w1 := (Below.refl _ _).grown hg.grown (by omega) (fun k e => (hgF k e).1)
    have hb' : Below gm w w1 := hb.mono (by omega)
    exact h.old.trans (hb'.setCell (p := ⟨gm, 2, none⟩) (Nat.le_refl _) _)
  · exact own_later h.ownC (fun b hl hv => keep b hl (by have := (h.ownC.lt b hv).1; omega) (own_apartM h.ownC h.ownX (by decide) b hv))
  · exact own_later h.ownF (fun b hl hv => keep b hl (by have := (h.ownF.lt b hv).1; omega) (own_apartM h.ownF h.ownX (by decide) b hv))
  · rw [List.length_append, List.length_singleton, flatMap_snoc]
    exact own_later hown (fun b hl hv => by rw [heap_setCell_other _ _ _ _ (by have := (hown.lt b hv).1; simp; omega)])
  · intro c y hy
    refine (h.el c y hy).to (fun b hP => keep b hP.2.1 (by have := hP.1; omega) hP.2.2.2.2) (fun b hP => ⟨hP.1, by rw [hsz]; have := hP.2.1; omega, hP.2.2.1, hP.2.2.2.1, fun e => ?_⟩)
    rcases hFb b e.symm with e' | e'
    · exact hP.2.2.2.2 e'.symm
    · have := hP.2.1; omega

end Go.Proofs.Ytfdnhpmldnmncaa

namespace Go.Proofs.Ytfdnhpmldnmncaa
open Go.RowKit

/-- a number, whether a fault stands or not -/
def numQ (bs : List Int) (most : Int) (s : Nat × Int × Int) : Int × Nat × Int × Int := if s.2.1 ≠ 0 then (0, s) else match rdNo bs s.1 most 92 with
  | .error c => (0, s.1, c, (s.1 : Int))
  | .ok (n, nx) => (n, nx, 0, s.2.2)
def txQ (bs : List Int) (most : Int) (s : Nat × Int × Int) : ByteArray × Nat × Int × Int := if s.2.1 ≠ 0 then (⟨#[]⟩, s) else match rdTx bs s.1 most with
  | .error c => (⟨#[]⟩, s.1, c, (s.1 : Int))
  | .ok (t, nx) => (t, nx, 0, s.2.2)
def wrQ (e pl : Int) (s : Nat × Int × Int) : Nat × Int × Int := if s.2.1 = 0 then (s.1, e, pl) else s
def fnQ (bs : List Int) (s : Nat × Int × Int) : Fn × Nat × Int × Int :=
  let r1 := numQ bs 8 s
  let r2 := numQ bs 32 r1.2
  let s3 := if r2.1 < r1.1 then wrQ 90 (r1.2.1 : Int) r2.2 else r2.2
  let r4 := numQ bs 40 s3
  let r5 := txQ bs 4000 r4.2
  ((r1.1, r2.1, r4.1, r5.1), r5.2)

theorem number_u (gr : Nat) (ao : Option Addr) (len cap : Nat) (a : Nat) (f q most : Int) (zs : List Int) (w : World) (h : Qf w gr (.slice ao len cap) a f q) (hS : Src w gr ao len cap zs) (h0 : 0 ≤ most) (h1 : most ≤ 9223372036854775807) :
    Calls Try.prog 44 #[.pointer (some ⟨gr, 0, none⟩), .int .i64 most] w fun x w' => x = .returned (.int .i64 (numQ zs most (a, f, q)).1) ∧ Qf w' gr (.slice ao len cap) ((numQ zs most (a, f, q)).2.1 : Nat) (numQ zs most (a, f, q)).2.2.1 (numQ zs most (a, f, q)).2.2.2 ∧ Beside gr w w' := by
  by_cases hf : f = 0
  · subst hf
    refine (number_q gr ao len cap a q most zs w h hS h0 h1).mono fun x w' hx => ?_
    unfold numQ
    rw [if_neg (by simp)]
    dsimp only
    cases hr : rdNo zs a most 92 with
    | error c => rw [hr] at hx; exact hx
    | ok r => rw [hr] at hx; exact hx
  · refine (number_k gr _ a f q most w h hf).mono fun x w' hx => ?_
    obtain ⟨rfl, rfl⟩ := hx
    unfold numQ
    rw [if_pos hf]
    exact ⟨rfl, h, Beside.refl _ _⟩

theorem text_u (gr : Nat) (ao : Option Addr) (len cap : Nat) (a : Nat) (f q most : Int) (zs : List Int) (w : World) (h : Qf w gr (.slice ao len cap) a f q) (hS : Src w gr ao len cap zs) (h0 : 0 ≤ most) (h1 : most ≤ 9223372036854775807) :
    Calls Try.prog 46 #[.pointer (some ⟨gr, 0, none⟩), .int .i64 most] w fun x w' => x = .returned (.string (txQ zs most (a, f, q)).1) ∧ Qf w' gr (.slice ao len cap) ((txQ zs most (a, f, q)).2.1 : Nat) (txQ zs most (a, f, q)).2.2.1 (txQ zs most (a, f, q)).2.2.2 ∧ Beside gr w w' := by
  by_cases hf : f = 0
  · subst hf
    refine (text_q gr ao len cap a q most zs w h hS h0 h1).mono fun x w' hx => ?_
    unfold txQ
    rw [if_neg (by simp)]
    dsimp only
    cases hr : rdTx zs a most with
    | error c => rw [hr] at hx; exact hx
    | ok r => rw [hr] at hx; exact hx
  · refine (text_k gr _ a f q most w h hf).mono fun x w' hx => ?_
    obtain ⟨rfl, rfl⟩ := hx
    unfold txQ
    rw [if_pos hf]
    exact ⟨rfl, h, Beside.refl _ _⟩

theorem wrong_u (gr : Nat) (bv : Value) (a : Nat) (f q e pl : Int) (w : World) (h : Qf w gr bv a f q) :
    Calls Try.prog 15 #[.pointer (some ⟨gr, 0, none⟩), .int .i64 e, .int .i64 pl] w fun x w' => x = .returned (.tuple #[]) ∧ Qf w' gr bv ((wrQ e pl (a, f, q)).1 : Nat) (wrQ e pl (a, f, q)).2.1 (wrQ e pl (a, f, q)).2.2 ∧ Beside gr w w' := by
  by_cases hf : f = 0
  · subst hf
    refine (wrong_q gr bv a q e pl w h).mono fun x w' hx => ?_
    unfold wrQ
    rw [if_pos rfl]
    exact hx
  · refine (wrong_k gr _ a f q e pl w h hf).mono fun x w' hx => ?_
    obtain ⟨rfl, rfl⟩ := hx
    unfold wrQ
    rw [if_neg hf]
    exact ⟨rfl, h, Beside.refl _ _⟩

/-- a function as the document reads it, and as it is read -/
theorem fnQ_eq (bs : List Int) (m : Md) (a : Nat) (q : Int) : match rdF bs m a with
    | .error p => ¬ p.1 = 0 ∧ (fnQ bs (a, 0, q)).2.2 = p
    | .ok (m', a') => (fnQ bs (a, 0, q)).2 = (a', 0, q) ∧ m' = ⟨m.cs, m.fs ++ [(fnQ bs (a, 0, q)).1], m.xs⟩ := by
  unfold rdF fnQ
  cases h1 : rdNo bs a 8 92 with
  | error c =>
    have k := no_code h1
    have k1 : ¬ c = 0 := by omega
    simp [numQ, txQ, h1, k1]
  | ok r1 =>
    obtain ⟨p, a1⟩ := r1
    dsimp only
    cases h2 : rdNo bs a1 32 92 with
    | error c =>
      have k := no_code h2
      have k1 : ¬ c = 0 := by omega
      by_cases hp : 0 < p
      · simp [numQ, txQ, wrQ, h1, h2, k1, hp]
      · simp [numQ, txQ, h1, h2, k1, hp]
    | ok r2 =>
      obtain ⟨l, a2⟩ := r2
      dsimp only
      by_cases hlp : l < p
      · simp [numQ, txQ, wrQ, h1, h2, hlp]
      · rw [if_neg hlp]
        cases h3 : rdNo bs a2 40 92 with
        | error c =>
          have k := no_code h3
          have k1 : ¬ c = 0 := by omega
          simp [numQ, txQ, h1, h2, hlp, h3, k1]
        | ok r3 =>
          obtain ⟨s, a3⟩ := r3
          dsimp only
          cases h4 : rdTx bs a3 4000 with
          | error c =>
            have k := tx_code h4
            have k1 : ¬ c = 0 := by omega
            simp [numQ, txQ, h1, h2, hlp, h3, h4, k1]
          | ok r4 =>
            obtain ⟨t, a4⟩ := r4
            simp [numQ, txQ, h1, h2, hlp, h3, h4]
end Go.Proofs.Ytfdnhpmldnmncaa
