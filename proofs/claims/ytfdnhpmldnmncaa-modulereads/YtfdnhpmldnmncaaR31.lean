/-
  How bytes are read as a module (layer 9), as functions; a module that is being read, in memory; no conditions.
  The document's own reader of modules (scrupleref09): a text, the first fault, a number, a text of the reader; conditions: the form's own reach.
-/
import Derived.Test.YtfdnhpmldnmncaaR30
import Derived.Test.YtfdnhpmldnmncaaR02
import Derived.Test.YtfdnhpmldnmncaaR23
import Derived.BigQuiet
import Derived.Test.YtfdnhpmldnmncaaR11
namespace Go.Proofs.Ytfdnhpmldnmncaa
open Go.RowKit

/-- a number at a place, at most so great -/
def rdNo (bs : List Int) (a : Nat) (most above : Int) : Except Int (Int × Nat) :=
  if (uintAt bs a).2.2 ≠ 0 then .error 91
  else if most < 0 ∨ most < (uintAt bs a).1 then .error above
  else .ok ((uintAt bs a).1, (uintAt bs a).2.1.toNat)

/-- a text at a place, at most so long -/
def rdTx (bs : List Int) (a : Nat) (most : Int) : Except Int (ByteArray × Nat) :=
  if (textOfU bs most (uintAt bs a)).2.2 = 13 then .error 92
  else if (textOfU bs most (uintAt bs a)).2.2 ≠ 0 then .error 91
  else .ok ((textOfU bs most (uintAt bs a)).1, (textOfU bs most (uintAt bs a)).2.1.toNat)

def lastN (m : Md) : ByteArray := match m.xs.getLast? with
  | none => ⟨#[]⟩
  | some x => x.1

/-- one constant more -/
def rdC (bs : List Int) (m : Md) (a : Nat) : Except (Int × Int) (Md × Nat) := match takeR bs a with
  | .error p => .error (if p.1 = 42 then 92 else 91, p.2)
  | .ok (v, n) => .ok (⟨m.cs ++ [v], m.fs, m.xs⟩, n)

/-- one function more -/
def rdF (bs : List Int) (m : Md) (a : Nat) : Except (Int × Int) (Md × Nat) := match rdNo bs a 8 92 with
  | .error c => .error (c, a)
  | .ok (p, a1) => match rdNo bs a1 32 92 with
    | .error c => .error (c, a1)
    | .ok (l, a2) => if l < p then .error (90, a1) else match rdNo bs a2 40 92 with
      | .error c => .error (c, a2)
      | .ok (s, a3) => match rdTx bs a3 4000 with
        | .error c => .error (c, a3)
        | .ok (t, a4) => .ok (⟨m.cs, m.fs ++ [(p, l, s, t)], m.xs⟩, a4)

/-- one export more -/
def rdX (bs : List Int) (m : Md) (a : Nat) : Except (Int × Int) (Md × Nat) := match rdTx bs a 20 with
  | .error c => .error (c, a)
  | .ok (t, a1) => if (nameB t && Op.bytesLess (lastN m).toList t.toList) = false then .error (90, a) else match rdNo bs a1 ((m.fs.length : Int) - 1) 90 with
    | .error c => .error (c, a1)
    | .ok (f, a2) => .ok (⟨m.cs, m.fs, m.xs ++ [(t, f)]⟩, a2)

/-- so many more -/
def rdN (f : Md → Nat → Except (Int × Int) (Md × Nat)) : Nat → Md → Nat → Except (Int × Int) (Md × Nat)
  | 0, m, a => .ok (m, a)
  | n + 1, m, a => match f m a with
    | .error e => .error e
    | .ok (m', a') => rdN f n m' a'

/-- all of a section's body -/
def rdP (bs : List Int) (most : Int) (f : Md → Nat → Except (Int × Int) (Md × Nat)) (m : Md) (a : Nat) : Except (Int × Int) (Md × Nat) := match rdNo bs a most 92 with
  | .error c => .error (c, a)
  | .ok (n, a1) => match rdN f n.toNat m a1 with
    | .error e => .error e
    | .ok (m', a') => if a' < bs.length then .error (91, a') else .ok (m', a')

/-- where a section's body begins and ends -/
def rdO (zs : List Int) (no : Int) (a : Nat) : Except Int (Nat × Nat) :=
  if zs[a]? ≠ some no then .error a
  else if (uintAt zs ((a : Int) + 1)).2.2 ≠ 0 ∨ (zs.length : Int) - (uintAt zs ((a : Int) + 1)).2.1 < (uintAt zs ((a : Int) + 1)).1 then .error ((a : Int) + 1)
  else .ok ((uintAt zs ((a : Int) + 1)).2.1.toNat, ((uintAt zs ((a : Int) + 1)).2.1 + (uintAt zs ((a : Int) + 1)).1).toNat)

def rdOne (i : Nat) (bs : List Int) : Md → Nat → Except (Int × Int) (Md × Nat) := if i = 0 then rdC bs else if i = 1 then rdF bs else rdX bs
def mostM (i : Nat) : Int := if i = 0 then 100 else 24

def rdS (zs : List Int) (i : Nat) (m : Md) (a : Nat) : Except (Int × Int) (Md × Nat) := match rdO zs ((i : Int) + 1) a with
  | .error p => .error (91, p)
  | .ok (b, e) => rdP (zs.take e) (mostM i) (rdOne i (zs.take e)) m b

/-- the sections from one on -/
def rdAllM (zs : List Int) : Nat → Nat → Md → Nat → Except (Int × Int) (Md × Nat)
  | 0, _, m, a => .ok (m, a)
  | k + 1, i, m, a => match rdS zs i m a with
    | .error e => .error e
    | .ok (m', a') => rdAllM zs k (i + 1) m' a'

def decM (zs : List Int) : Except (Int × Int) Md :=
  if 65536 < zs.length then .error (92, 0)
  else if zs.take 4 ≠ [83, 67, 77, 49] then .error (91, 0)
  else match rdAllM zs 3 0 ⟨[], [], []⟩ 4 with
    | .error e => .error e
    | .ok (m, a) => if a < zs.length then .error (93, a) else .ok m

theorem drewN_below {B : Nat} {a w : World} (h : Below B a w) (q : Nat) : Below B a (w.drewN q) := ⟨h.os, h.tape, h.output, h.size, h.block⟩

/-- where the constants' own lists may lie -/
def FreeM (base top : Nat) (C F X : Value) : Nat → Prop := fun b => base ≤ b ∧ b < top ∧ some b ≠ C.ownBlock ∧ some b ≠ F.ownBlock ∧ some b ≠ X.ownBlock

/-- a reader, and the module that it has read so far -/
structure RdM (w0 : World) (I : Nat → Obj → Prop) (w : World) (gr : Nat) (vb vy : Value) (a : Int) (C F X : Value) (m : Md) (V : Nat → List Value) : Prop where
  box : w.heap[gr]? = some (.cells #[vb, vy, .int .i64 a, C, F, X] 40 (0, 0))
  old : Below gr w0 w
  ownC : w.ownsRow (gr + 1) 51 5 C m.cs.length (flat V m.cs.length)
  ownF : w.ownsRow (gr + 1) 53 4 F m.fs.length (m.fs.flatMap fnV)
  ownX : w.ownsRow (gr + 1) 55 2 X m.xs.length (m.xs.flatMap exV)
  row : ∀ c, c < m.cs.length → (V c).length = 5
  el : ∀ c y, m.cs[c]? = some y → IsQ w (FreeM (gr + 1) w.heap.size C F X) y (.agg (V c).toArray)
  side : ∀ b c, I b c → w.heap[b]? = some c ∧ b ≠ gr ∧ some b ≠ C.ownBlock ∧ some b ≠ F.ownBlock ∧ some b ≠ X.ownBlock

theorem RdM.lt {w0 w : World} {I : Nat → Obj → Prop} {gr : Nat} {vb vy : Value} {a : Int} {C F X : Value} {m : Md} {V : Nat → List Value} (h : RdM w0 I w gr vb vy a C F X m V) : gr < w.heap.size := lt_of_row h.box

theorem row_cells6 {w : World} {g : Nat} {x0 x1 x2 x3 x4 x5 : Value} {T : TypeId} (h : w.heap[g]? = some (.cells #[x0, x1, x2, x3, x4, x5] T (0, 0))) :
    w.cell? ⟨g, 0, none⟩ = some x0 ∧ w.cell? ⟨g, 1, none⟩ = some x1 ∧ w.cell? ⟨g, 2, none⟩ = some x2 ∧ w.cell? ⟨g, 3, none⟩ = some x3 ∧ w.cell? ⟨g, 4, none⟩ = some x4 ∧ w.cell? ⟨g, 5, none⟩ = some x5 :=
  ⟨by rw [cell_of_row w g 0 _ _ (0, 0) h]; rfl, by rw [cell_of_row w g 1 _ _ (0, 0) h]; rfl, by rw [cell_of_row w g 2 _ _ (0, 0) h]; rfl, by rw [cell_of_row w g 3 _ _ (0, 0) h]; rfl, by rw [cell_of_row w g 4 _ _ (0, 0) h]; rfl, by rw [cell_of_row w g 5 _ _ (0, 0) h]; rfl⟩

/-- all blocks as they were, the reader's own apart -/
theorem RdM.to {w0 w w' : World} {I : Nat → Obj → Prop} {gr : Nat} {vb vy vb' vy' : Value} {a a' : Int} {C F X : Value} {m : Md} {V : Nat → List Value} (h : RdM w0 I w gr vb vy a C F X m V) (hb : ∀ b, b < w.heap.size → b ≠ gr → w'.heap[b]? = w.heap[b]?) (hs : w.heap.size ≤ w'.heap.size)
    (hbox : w'.heap[gr]? = some (.cells #[vb', vy', .int .i64 a', C, F, X] 40 (0, 0))) (hold : Below gr w w') : RdM w0 I w' gr vb' vy' a' C F X m V where
  box := hbox
  old := h.old.trans hold
  ownC := own_later h.ownC (fun b hl hv => hb b hl (by have := (h.ownC.lt b hv).1; omega))
  ownF := own_later h.ownF (fun b hl hv => hb b hl (by have := (h.ownF.lt b hv).1; omega))
  ownX := own_later h.ownX (fun b hl hv => hb b hl (by have := (h.ownX.lt b hv).1; omega))
  row := h.row
  el := fun c y hy => (h.el c y hy).to (fun b hP => hb b hP.2.1 (by have := hP.1; omega)) (fun b hP => ⟨hP.1, Nat.lt_of_lt_of_le hP.2.1 hs, hP.2.2⟩)
  side := fun b c hI => ⟨(hb b (Array.getElem?_eq_some_iff.1 (h.side b c hI).1).1 (h.side b c hI).2.1).trans (h.side b c hI).1, (h.side b c hI).2⟩

theorem RdM.later {w0 w w' : World} {I : Nat → Obj → Prop} {gr : Nat} {vb vy : Value} {a : Int} {C F X : Value} {m : Md} {V : Nat → List Value} (h : RdM w0 I w gr vb vy a C F X m V) (hb : Below w.heap.size w w') : RdM w0 I w' gr vb vy a C F X m V :=
  h.to (fun b hl _ => hb.block b hl) hb.size ((hb.block gr h.lt).trans h.box) (hb.mono (Nat.le_of_lt h.lt))

theorem RdM.drew {w0 w : World} {I : Nat → Obj → Prop} {gr : Nat} {vb vy : Value} {a : Int} {C F X : Value} {m : Md} {V : Nat → List Value} (h : RdM w0 I w gr vb vy a C F X m V) (q : Nat) : RdM w0 I (w.drewN q) gr vb vy a C F X m V :=
  h.later (drewN_below (Below.refl _ _) q)

theorem RdM.setAt {w0 w : World} {I : Nat → Obj → Prop} {gr : Nat} {vb vy : Value} {a : Int} {C F X : Value} {m : Md} {V : Nat → List Value} (h : RdM w0 I w gr vb vy a C F X m V) (a' : Int) : RdM w0 I (w.setCell ⟨gr, 2, none⟩ (.int .i64 a')) gr vb vy a' C F X m V :=
  h.to (fun b _ hn => heap_setCell_other _ _ _ _ hn) (by simp) (by rw [heap_setCell_same w gr 2 _ _ _ h.box]; rfl) ((Below.refl _ _).setCell (p := ⟨gr, 2, none⟩) (Nat.le_refl _) _)

/-- bytes that were there ahead of the reader -/
theorem RdM.bytes {w0 w : World} {I : Nat → Obj → Prop} {gr : Nat} {vb vy : Value} {a : Int} {C F X : Value} {m : Md} {V : Nat → List Value} (h : RdM w0 I w gr vb vy a C F X m V) {ao : Option Addr} {len cap : Nat} {zs : List Int} (hz : Row8 w0 ao len cap zs) (hg : w0.heap.size ≤ gr) : Row8 w ao len cap zs :=
  hz.later' h.old (fun ad ha hp => Nat.lt_of_lt_of_le (hz.block ad ha hp) hg)
end Go.Proofs.Ytfdnhpmldnmncaa

namespace Go.Proofs.Ytfdnhpmldnmncaa
open Go.RowKit
set_option linter.unusedVariables false
set_option linter.unusedSimpArgs false

set_option maxRecDepth 100000 in
theorem refText_any (ao : Option Addr) (len cap : Nat) (at_ most : Int) (zs : List Int) (w : World) (hr : Row8 w ao len cap zs) (hm : cap ≤ 9223372036854775807) (hmost : most ≤ 9223372036854775807) :
    Calls Try.prog 59 #[.slice ao len cap, .int .i64 at_, .int .i64 most] w fun e w' => e = .returned (.tuple #[.string (textOfU zs most (uintAt zs at_)).1, .int .i64 (textOfU zs most (uintAt zs at_)).2.1, .int .i64 (textOfU zs most (uintAt zs at_)).2.2]) ∧ w' = w := by
  have c := refUint_any ao len cap at_ zs w hr (by unfold maxLen; omega)
  have hx := uint_max zs at_ hr.small
  have hf := uint_form zs at_ hr.small
  have hl := hr.length
  have hle := hr.le
  generalize uintAt zs at_ = r at *
  obtain ⟨n, nx, er⟩ := r
  dsimp only at *
  have C := hide c
  clear c
  by_cases h : er = 0
  · subst h
    obtain ⟨a, k, ha, k1, k10, hak, hnx, _, hn⟩ := hf rfl
    subst ha hnx
    obtain ⟨m, rfl⟩ := Int.eq_ofNat_of_zero_le hn
    obtain ⟨b, off, rfl, hcell⟩ := hr.at (by omega)
    clear hf
    generalize a + k = nx at *
    by_cases h1 : most < 0 ∨ most < (m : Int)
    · have e : textOfU zs most ((m : Int), (nx : Int), 0) = (⟨#[]⟩, 0, 13) := by simp [textOfU, h1]
      rw [e]
      clear e hr hcell
      rcases h1 with h1 | h1
      · go_enter Try.func59, Try.ntmps59
        go_wp2_with fail
        refine (unhide C).mono ?_
        rintro e w' ⟨rfl, rfl⟩
        go_wp2_with fail
        go_ret3
        exact ⟨rfl, rfl⟩
      · by_cases h2 : most < 0
        · go_enter Try.func59, Try.ntmps59
          go_wp2_with fail
          refine (unhide C).mono ?_
          rintro e w' ⟨rfl, rfl⟩
          go_wp2_with fail
          go_ret3
          exact ⟨rfl, rfl⟩
        · have h3 : 0 ≤ most := by omega
          go_enter Try.func59, Try.ntmps59
          go_wp2_with fail
          refine (unhide C).mono ?_
          rintro e w' ⟨rfl, rfl⟩
          go_wp2_with fail
          go_ret3
          exact ⟨rfl, rfl⟩
    · have h2 : 0 ≤ most := by omega
      have h2' : ¬ most < 0 := by omega
      have h3 : ¬ most < (m : Int) := by omega
      by_cases h4 : (len : Int) - (nx : Int) < (m : Int)
      · have e : textOfU zs most ((m : Int), (nx : Int), 0) = (⟨#[]⟩, 0, 11) := by simp [textOfU, h1, hl, h4]
        rw [e]
        have hnl : (nx : Int) ≤ (len : Int) := by omega
        clear e hr hcell h1 hl hak
        go_enter Try.func59, Try.ntmps59
        go_wp2_with fail
        refine (unhide C).mono ?_
        rintro e w' ⟨rfl, rfl⟩
        go_wp2_with fail
        go_ret3
        exact ⟨rfl, rfl⟩
      · have e : textOfU zs most ((m : Int), (nx : Int), 0) = (strOfNums ((zs.drop nx).take m), (nx : Int) + m, 0) := by simp [textOfU, h1, hl, h4]
        rw [e]
        have hnl : (nx : Int) ≤ (len : Int) := by omega
        have hnm : nx + m ≤ len := by omega
        by_cases hc : cap = nx
        · have hm0 : m = 0 := by omega
          subst hm0
          have k2 : Sem.run Try.prog (convert 22 9 (.slice (some ⟨b, off, none⟩) 0 0)) w = .ok (.string (strOfNums ((zs.drop nx).take 0))) w := conv_row hl hcell 0 0 0 (by omega) 0
          clear e hr hcell h1 hl hak
          generalize strOfNums ((zs.drop nx).take 0) = S at *
          obtain rfl : nx = len := by omega
          subst hc
          go_enter Try.func59, Try.ntmps59
          go_wp2_with fail
          refine (unhide C).mono ?_
          rintro e w' ⟨rfl, rfl⟩
          go_wp2_with fail
          go_ret3
          exact ⟨by simp, rfl⟩
        · have k2 : Sem.run Try.prog (convert 22 9 (.slice (some ⟨b, off + nx, none⟩) m (cap - nx))) w = .ok (.string (strOfNums ((zs.drop nx).take m))) w := conv_row hl hcell nx m (cap - nx) (by omega) 0
          clear e hr hcell h1 hl hak
          generalize strOfNums ((zs.drop nx).take m) = S at *
          go_enter Try.func59, Try.ntmps59
          go_wp2_with fail
          refine (unhide C).mono ?_
          rintro e w' ⟨rfl, rfl⟩
          go_wp2_with fail
          go_ret3
          exact ⟨rfl, rfl⟩
  · have hne : (er != 0) = true := by simpa using h
    have e : textOfU zs most (n, nx, er) = (⟨#[]⟩, 0, er) := by simp [textOfU, h]
    rw [e]
    clear hf hr h e
    go_enter Try.func59, Try.ntmps59
    go_wp2_with fail
    refine (unhide C).mono ?_
    rintro e w' ⟨rfl, rfl⟩
    go_wp2_with fail
    go_ret3
    exact ⟨rfl, rfl⟩

/-- the document's reader: its bytes, its place, the first fault and its place -/
def Qf (w : World) (gr : Nat) (bv : Value) (p f q : Int) : Prop := w.heap[gr]? = some (.cells #[bv, .int .i64 p, .int .i64 f, .int .i64 q] 44 (0, 0))

theorem Qf.cells {w : World} {gr : Nat} {bv : Value} {p f q : Int} (h : Qf w gr bv p f q) :
    w.cell? ⟨gr, 0, none⟩ = some bv ∧ w.cell? ⟨gr, 1, none⟩ = some (.int .i64 p) ∧ w.cell? ⟨gr, 2, none⟩ = some (.int .i64 f) ∧ w.cell? ⟨gr, 3, none⟩ = some (.int .i64 q) ∧ w.frozen? ⟨gr, 0, none⟩ = false ∧ w.frozen? ⟨gr, 1, none⟩ = false ∧ w.frozen? ⟨gr, 2, none⟩ = false ∧ w.frozen? ⟨gr, 3, none⟩ = false := by
  refine ⟨?_, ?_, ?_, ?_, frozen_of_row w gr 0 _ _ h, frozen_of_row w gr 1 _ _ h, frozen_of_row w gr 2 _ _ h, frozen_of_row w gr 3 _ _ h⟩ <;> (unfold Qf at h; simp [World.cell?, h])
theorem Qf.lt {w : World} {gr : Nat} {bv : Value} {p f q : Int} (h : Qf w gr bv p f q) : gr < w.heap.size := by
  unfold Qf at h
  exact (Array.getElem?_eq_some_iff.1 h).1
theorem Qf.setB {w : World} {gr : Nat} {bv : Value} {p f q : Int} (h : Qf w gr bv p f q) (x : Value) : Qf (w.setCell ⟨gr, 0, none⟩ x) gr x p f q := by
  unfold Qf at h ⊢
  rw [heap_setCell_same w gr 0 _ _ _ h]
  rfl
theorem Qf.setAt {w : World} {gr : Nat} {bv : Value} {p f q : Int} (h : Qf w gr bv p f q) (x : Int) : Qf (w.setCell ⟨gr, 1, none⟩ (.int .i64 x)) gr bv x f q := by
  unfold Qf at h ⊢
  rw [heap_setCell_same w gr 1 _ _ _ h]
  rfl
theorem Qf.setF {w : World} {gr : Nat} {bv : Value} {p f q : Int} (h : Qf w gr bv p f q) (x : Int) : Qf (w.setCell ⟨gr, 2, none⟩ (.int .i64 x)) gr bv p x q := by
  unfold Qf at h ⊢
  rw [heap_setCell_same w gr 2 _ _ _ h]
  rfl
theorem Qf.setQ {w : World} {gr : Nat} {bv : Value} {p f q : Int} (h : Qf w gr bv p f q) (x : Int) : Qf (w.setCell ⟨gr, 3, none⟩ (.int .i64 x)) gr bv p f x := by
  unfold Qf at h ⊢
  rw [heap_setCell_same w gr 3 _ _ _ h]
  rfl
theorem Qf.drewN {w : World} {gr : Nat} {bv : Value} {p f q : Int} (h : Qf w gr bv p f q) (n : Nat) : Qf (w.drewN n) gr bv p f q := by
  unfold Qf at h ⊢
  rw [← h]
  exact (drewN_below (Below.refl _ w) n).block gr (Array.getElem?_eq_some_iff.1 h).1
theorem Qf.of_below {w w' : World} {gr : Nat} {bv : Value} {p f q : Int} (h : Qf w gr bv p f q) (hb : Below w.heap.size w w') : Qf w' gr bv p f q := (hb.block gr h.lt).trans h

set_option maxRecDepth 100000 in
theorem wrong_q (gr : Nat) (bv : Value) (p q e pl : Int) (w : World) (h : Qf w gr bv p 0 q) :
    Calls Try.prog 15 #[.pointer (some ⟨gr, 0, none⟩), .int .i64 e, .int .i64 pl] w fun x w' => x = .returned (.tuple #[]) ∧ Qf w' gr bv p e pl ∧ Beside gr w w' := by
  obtain ⟨c0, c1, c2, c3, f0, f1, f2, f3⟩ := h.cells
  have HR := hide h
  clear h
  go_enter Try.func15, Try.ntmps15
  go_wp2_with fail
  go_end0
  exact ⟨rfl, ((unhide HR).setF _).setQ _, ((Beside.refl _ _).set).set⟩

set_option maxRecDepth 100000 in
theorem wrong_k (gr : Nat) (bv : Value) (p f q e pl : Int) (w : World) (h : Qf w gr bv p f q) (hf : ¬ f = 0) :
    Calls Try.prog 15 #[.pointer (some ⟨gr, 0, none⟩), .int .i64 e, .int .i64 pl] w fun x w' => x = .returned (.tuple #[]) ∧ w' = w := by
  obtain ⟨c0, c1, c2, c3, f0, f1, f2, f3⟩ := h.cells
  clear h
  go_enter Try.func15, Try.ntmps15
  go_wp2_with fail
  go_end0
  exact ⟨rfl, rfl⟩

set_option maxRecDepth 100000 in
theorem number_k (gr : Nat) (bv : Value) (p f q most : Int) (w : World) (h : Qf w gr bv p f q) (hf : ¬ f = 0) :
    Calls Try.prog 44 #[.pointer (some ⟨gr, 0, none⟩), .int .i64 most] w fun x w' => x = .returned (.int .i64 0) ∧ w' = w := by
  obtain ⟨c0, c1, c2, c3, f0, f1, f2, f3⟩ := h.cells
  clear h
  go_enter Try.func44, Try.ntmps44
  go_wp2_with fail
  go_ret
  exact ⟨rfl, rfl⟩

set_option maxRecDepth 100000 in
theorem text_k (gr : Nat) (bv : Value) (p f q most : Int) (w : World) (h : Qf w gr bv p f q) (hf : ¬ f = 0) :
    Calls Try.prog 46 #[.pointer (some ⟨gr, 0, none⟩), .int .i64 most] w fun x w' => x = .returned (.string ⟨#[]⟩) ∧ w' = w := by
  obtain ⟨c0, c1, c2, c3, f0, f1, f2, f3⟩ := h.cells
  clear h
  go_enter Try.func46, Try.ntmps46
  go_wp2_with fail
  go_ret
  exact ⟨rfl, rfl⟩

/-- what number answers -/
def ResQn (w : World) (gr : Nat) (bv : Value) (p q : Int) (r : Except Int (Int × Nat)) (x : Ending) (w' : World) : Prop := match r with
  | .error c => x = .returned (.int .i64 0) ∧ Qf w' gr bv p c p ∧ Beside gr w w'
  | .ok (n, nx) => x = .returned (.int .i64 n) ∧ Qf w' gr bv nx 0 q ∧ Beside gr w w'
/-- what text answers -/
def ResQt (w : World) (gr : Nat) (bv : Value) (p q : Int) (r : Except Int (ByteArray × Nat)) (x : Ending) (w' : World) : Prop := match r with
  | .error c => x = .returned (.string ⟨#[]⟩) ∧ Qf w' gr bv p c p ∧ Beside gr w w'
  | .ok (t, nx) => x = .returned (.string t) ∧ Qf w' gr bv nx 0 q ∧ Beside gr w w'

set_option maxRecDepth 100000 in
set_option maxHeartbeats 1000000 in
theorem number_q (gr : Nat) (ao : Option Addr) (len cap : Nat) (a : Nat) (q most : Int) (zs : List Int) (w : World) (h : Qf w gr (.slice ao len cap) a 0 q) (hS : Src w gr ao len cap zs) (h0 : 0 ≤ most) (h1 : most ≤ 9223372036854775807) :
    Calls Try.prog 44 #[.pointer (some ⟨gr, 0, none⟩), .int .i64 most] w fun x w' => ResQn w gr (.slice ao len cap) a q (rdNo zs a most 92) x w' := by
  obtain ⟨c0, c1, c2, c3, f0, f1, f2, f3⟩ := h.cells
  have CI := fun k => hide (refUint_any ao len cap (a : Int) zs (w.drewN k) (hS.drewN k).row hS.cap)
  have hF := fun e => uint_form zs (a : Int) hS.row.small e
  have HR := hide h
  have CW1 := fun k => hide (wrong_q gr _ (a : Int) q 91 a _ (h.drewN k))
  have CW2 := fun k => hide (wrong_q gr _ (a : Int) q 92 a _ (h.drewN k))
  unfold rdNo
  generalize uintAt zs (a : Int) = r at *
  obtain ⟨n, nx, er⟩ := r
  dsimp only at *
  have wm : IntKind.u64.wrap most = most := by rw [IntKind.wrap_u64]; omega
  clear h hS
  by_cases he : er ≠ 0
  · have k1 : ¬ er = 0 := he
    rw [if_pos he]
    clear hF
    go_enter Try.func44, Try.ntmps44
    go_upto_region 2 with fail
    go_quiet ((go_at_call 24; exact Calls.quiet_of_same (unhide (CI _))))
    go_wp2_with fail
    refine (unhide (CW1 _)).mono ?_
    rintro x w1 ⟨rfl, r1, b1⟩
    go_wp2_with fail
    go_ret
    exact ⟨rfl, r1, ((Beside.refl _ _).drew _).trans b1⟩
  · rw [if_neg he]
    have e0 : er = 0 := by simpa using he
    subst e0
    have hn : 0 ≤ n := by obtain ⟨a', k, _, _, _, _, _, _, hn⟩ := hF rfl; exact hn
    have hnx : 0 ≤ nx := by obtain ⟨a', k, _, _, _, _, hnx, _, _⟩ := hF rfl; omega
    clear hF he
    by_cases hm : most < n
    · rw [if_pos (Or.inr hm)]
      go_enter Try.func44, Try.ntmps44
      go_upto_region 2 with fail
      go_quiet ((go_at_call 24; exact Calls.quiet_of_same (unhide (CI _))))
      go_wp2_with fail
      refine (unhide (CW2 _)).mono ?_
      rintro x w1 ⟨rfl, r1, b1⟩
      go_wp2_with fail
      go_ret
      exact ⟨rfl, r1, ((Beside.refl _ _).drew _).trans b1⟩
    · rw [if_neg (by omega)]
      have wn : IntKind.i64.wrap n = n := by rw [IntKind.wrap_i64]; omega
      obtain ⟨nn, rfl⟩ : ∃ nn : Nat, nx = (nn : Int) := ⟨nx.toNat, by omega⟩
      rw [Int.toNat_natCast]
      clear hnx
      go_enter Try.func44, Try.ntmps44
      go_upto_region 2 with fail
      go_quiet ((go_at_call 24; exact Calls.quiet_of_same (unhide (CI _))))
      go_wp2_with fail
      go_ret
      exact ⟨rfl, ((unhide HR).drewN _).setAt _, ((Beside.refl _ _).drew _).set⟩

set_option maxRecDepth 100000 in
set_option maxHeartbeats 2000000 in
theorem text_q (gr : Nat) (ao : Option Addr) (len cap : Nat) (a : Nat) (q most : Int) (zs : List Int) (w : World) (h : Qf w gr (.slice ao len cap) a 0 q) (hS : Src w gr ao len cap zs) (h0 : 0 ≤ most) (h1 : most ≤ 9223372036854775807) :
    Calls Try.prog 46 #[.pointer (some ⟨gr, 0, none⟩), .int .i64 most] w fun x w' => ResQt w gr (.slice ao len cap) a q (rdTx zs a most) x w' := by
  obtain ⟨c0, c1, c2, c3, f0, f1, f2, f3⟩ := h.cells
  have CI := fun k => hide (refText_any ao len cap (a : Int) most zs (w.drewN k) (hS.drewN k).row (by have := hS.cap; unfold maxLen at this; omega) (by omega))
  have hsm := hS.row.small
  have HF : (textOfU zs most (uintAt zs a)).2.2 = 0 → 0 ≤ (textOfU zs most (uintAt zs a)).2.1 := fun h0' => by
    obtain ⟨b, _, _, hb, _⟩ := text_form zs most.toNat a hsm (by rw [show ((most.toNat : Nat) : Int) = most by omega]; exact h0')
    rw [show ((most.toNat : Nat) : Int) = most by omega] at hb
    omega
  have HR := hide h
  have CW1 := fun k => hide (wrong_q gr _ (a : Int) q 91 a _ (h.drewN k))
  have CW2 := fun k => hide (wrong_q gr _ (a : Int) q 92 a _ (h.drewN k))
  unfold rdTx
  generalize textOfU zs most (uintAt zs a) = r at *
  obtain ⟨t, nx, er⟩ := r
  dsimp only at *
  clear h hS hsm
  by_cases h13 : er = 13
  · subst h13
    rw [if_pos rfl]
    clear HF
    go_enter Try.func46, Try.ntmps46
    go_upto_region 2 with fail
    go_quiet ((go_at_call 59; exact Calls.quiet_of_same (unhide (CI _))))
    go_wp2_with fail
    refine (unhide (CW2 _)).mono ?_
    rintro x w1 ⟨rfl, r1, b1⟩
    obtain ⟨d0, d1, d2, d3, _, _, _, _⟩ := r1.cells
    have CK := hide (wrong_k gr _ (a : Int) 92 a 91 a _ r1 (by decide))
    have R1 := hide r1
    have B1 := hide b1
    clear r1 b1 c0 c1 c2 c3
    go_wp2_with fail
    refine (unhide CK).mono ?_
    rintro x w2 ⟨rfl, rfl⟩
    go_wp2_with fail
    go_ret
    exact ⟨rfl, unhide R1, ((Beside.refl _ _).drew _).trans (unhide B1)⟩
  · rw [if_neg h13]
    have k13 : (er == 13) = false := beq_eq_false_iff_ne.2 h13
    by_cases he : er ≠ 0
    · have k1 : ¬ er = 0 := he
      rw [if_pos he]
      clear HF
      go_enter Try.func46, Try.ntmps46
      go_upto_region 2 with fail
      go_quiet ((go_at_call 59; exact Calls.quiet_of_same (unhide (CI _))))
      go_wp2_with fail
      refine (unhide (CW1 _)).mono ?_
      rintro x w1 ⟨rfl, r1, b1⟩
      go_wp2_with fail
      go_ret
      exact ⟨rfl, r1, ((Beside.refl _ _).drew _).trans b1⟩
    · rw [if_neg he]
      have e0 : er = 0 := by simpa using he
      subst e0
      have n0 := HF rfl
      obtain ⟨nn, rfl⟩ : ∃ nn : Nat, nx = (nn : Int) := ⟨nx.toNat, by omega⟩
      rw [Int.toNat_natCast]
      clear HF he
      go_enter Try.func46, Try.ntmps46
      go_upto_region 2 with fail
      go_quiet ((go_at_call 59; exact Calls.quiet_of_same (unhide (CI _))))
      go_wp2_with fail
      go_ret
      exact ⟨rfl, ((unhide HR).drewN _).setAt _, ((Beside.refl _ _).drew _).set⟩
end Go.Proofs.Ytfdnhpmldnmncaa
