/-
  How bytes are read as a module (layer 9), as functions; a module that is being read, in memory; no conditions.
  The walks of number, text and lastName of a module's reader (layer 9); no conditions but the form's own reach.
  The walks of readFunc and readExport of a module's reader (layer 9); no conditions but the form's own reach.
  The walk of readConst of a module's reader (layer 9); no conditions but the form's own reach.
-/
import Derived.Test.YtfdnhpmldnmncaaM1
import Derived.Test.YtfdnhpmldnmncaaReads2
import Derived.Test.YtfdnhpmldnmncaaWTake
import Derived.BigQuiet
import Derived.Deep.AppendLies
import Derived.Test.YtfdnhpmldnmncaaWTill
import Derived.Test.YtfdnhpmldnmncaaTTilt
namespace Go.Proofs.Ytfdnhpmldnmncaa
open Go.RowKit

/-- a number at a place, at most so great -/
def rdNo (bs : List Int) (a : Nat) (most above : Int) : Except Int (Int × Nat) :=
  if (uintAt bs a).2.2 ≠ 0 then .error 91
  else if most < 0 ∨ most < (uintAt bs a).1 then .error above
  else .ok ((uintAt bs a).1, (uintAt bs a).2.1.toNat)

/-- a text at a place, at most so long -/
def rdTx (bs : List Int) (a : Nat) (most : Int) : Except Int (ByteArray × Nat) :=
  if (textOfU bs most (uintAt bs a)).2.2 = 13 then .error 92
  else if (textOfU bs most (uintAt bs a)).2.2 ≠ 0 then .error 91
  else .ok ((textOfU bs most (uintAt bs a)).1, (textOfU bs most (uintAt bs a)).2.1.toNat)

def lastN (m : Md) : ByteArray := match m.xs.getLast? with
  | none => ⟨#[]⟩
  | some x => x.1

/-- one constant more -/
def rdC (bs : List Int) (m : Md) (a : Nat) : Except (Int × Int) (Md × Nat) := match takeR bs a with
  | .error p => .error (if p.1 = 42 then 92 else 91, p.2)
  | .ok (v, n) => .ok (⟨m.cs ++ [v], m.fs, m.xs⟩, n)

/-- one function more -/
def rdF (bs : List Int) (m : Md) (a : Nat) : Except (Int × Int) (Md × Nat) := match rdNo bs a 8 92 with
  | .error c => .error (c, a)
  | .ok (p, a1) => match rdNo bs a1 32 92 with
    | .error c => .error (c, a1)
    | .ok (l, a2) => if l < p then .error (90, a1) else match rdNo bs a2 40 92 with
      | .error c => .error (c, a2)
      | .ok (s, a3) => match rdTx bs a3 4000 with
        | .error c => .error (c, a3)
        | .ok (t, a4) => .ok (⟨m.cs, m.fs ++ [(p, l, s, t)], m.xs⟩, a4)

/-- one export more -/
def rdX (bs : List Int) (m : Md) (a : Nat) : Except (Int × Int) (Md × Nat) := match rdTx bs a 20 with
  | .error c => .error (c, a)
  | .ok (t, a1) => if (nameB t && Op.bytesLess (lastN m).toList t.toList) = false then .error (90, a) else match rdNo bs a1 ((m.fs.length : Int) - 1) 90 with
    | .error c => .error (c, a1)
    | .ok (f, a2) => .ok (⟨m.cs, m.fs, m.xs ++ [(t, f)]⟩, a2)

/-- so many more -/
def rdN (f : Md → Nat → Except (Int × Int) (Md × Nat)) : Nat → Md → Nat → Except (Int × Int) (Md × Nat)
  | 0, m, a => .ok (m, a)
  | n + 1, m, a => match f m a with
    | .error e => .error e
    | .ok (m', a') => rdN f n m' a'

/-- all of a section's body -/
def rdP (bs : List Int) (most : Int) (f : Md → Nat → Except (Int × Int) (Md × Nat)) (m : Md) (a : Nat) : Except (Int × Int) (Md × Nat) := match rdNo bs a most 92 with
  | .error c => .error (c, a)
  | .ok (n, a1) => match rdN f n.toNat m a1 with
    | .error e => .error e
    | .ok (m', a') => if a' < bs.length then .error (91, a') else .ok (m', a')

/-- where a section's body begins and ends -/
def rdO (zs : List Int) (no : Int) (a : Nat) : Except Int (Nat × Nat) :=
  if zs[a]? ≠ some no then .error a
  else if (uintAt zs ((a : Int) + 1)).2.2 ≠ 0 ∨ (zs.length : Int) - (uintAt zs ((a : Int) + 1)).2.1 < (uintAt zs ((a : Int) + 1)).1 then .error ((a : Int) + 1)
  else .ok ((uintAt zs ((a : Int) + 1)).2.1.toNat, ((uintAt zs ((a : Int) + 1)).2.1 + (uintAt zs ((a : Int) + 1)).1).toNat)

def rdOne (i : Nat) (bs : List Int) : Md → Nat → Except (Int × Int) (Md × Nat) := if i = 0 then rdC bs else if i = 1 then rdF bs else rdX bs
def mostM (i : Nat) : Int := if i = 0 then 100 else 24

def rdS (zs : List Int) (i : Nat) (m : Md) (a : Nat) : Except (Int × Int) (Md × Nat) := match rdO zs ((i : Int) + 1) a with
  | .error p => .error (91, p)
  | .ok (b, e) => rdP (zs.take e) (mostM i) (rdOne i (zs.take e)) m b

/-- the sections from one on -/
def rdAllM (zs : List Int) : Nat → Nat → Md → Nat → Except (Int × Int) (Md × Nat)
  | 0, _, m, a => .ok (m, a)
  | k + 1, i, m, a => match rdS zs i m a with
    | .error e => .error e
    | .ok (m', a') => rdAllM zs k (i + 1) m' a'

def decM (zs : List Int) : Except (Int × Int) Md :=
  if 65536 < zs.length then .error (92, 0)
  else if zs.take 4 ≠ [83, 67, 77, 49] then .error (91, 0)
  else match rdAllM zs 3 0 ⟨[], [], []⟩ 4 with
    | .error e => .error e
    | .ok (m, a) => if a < zs.length then .error (93, a) else .ok m

theorem drewN_below {B : Nat} {a w : World} (h : Below B a w) (q : Nat) : Below B a (w.drewN q) := ⟨h.os, h.tape, h.output, h.size, h.block⟩

/-- where the constants' own lists may lie -/
def FreeM (base top : Nat) (C F X : Value) : Nat → Prop := fun b => base ≤ b ∧ b < top ∧ some b ≠ C.ownBlock ∧ some b ≠ F.ownBlock ∧ some b ≠ X.ownBlock

/-- a reader, and the module that it has read so far -/
structure RdM (w0 : World) (I : Nat → Obj → Prop) (w : World) (gr : Nat) (vb vy : Value) (a : Int) (C F X : Value) (m : Md) (V : Nat → List Value) : Prop where
  box : w.heap[gr]? = some (.cells #[vb, vy, .int .i64 a, C, F, X] 40 (0, 0))
  old : Below gr w0 w
  ownC : w.ownsRow (gr + 1) 51 5 C m.cs.length (flat V m.cs.length)
  ownF : w.ownsRow (gr + 1) 53 4 F m.fs.length (m.fs.flatMap fnV)
  ownX : w.ownsRow (gr + 1) 55 2 X m.xs.length (m.xs.flatMap exV)
  row : ∀ c, c < m.cs.length → (V c).length = 5
  el : ∀ c y, m.cs[c]? = some y → IsP w (FreeM (gr + 1) w.heap.size C F X) y (.agg (V c).toArray)
  side : ∀ b c, I b c → w.heap[b]? = some c ∧ b ≠ gr ∧ some b ≠ C.ownBlock ∧ some b ≠ F.ownBlock ∧ some b ≠ X.ownBlock

theorem RdM.lt {w0 w : World} {I : Nat → Obj → Prop} {gr : Nat} {vb vy : Value} {a : Int} {C F X : Value} {m : Md} {V : Nat → List Value} (h : RdM w0 I w gr vb vy a C F X m V) : gr < w.heap.size := lt_of_row h.box

theorem row_cells6 {w : World} {g : Nat} {x0 x1 x2 x3 x4 x5 : Value} {T : TypeId} (h : w.heap[g]? = some (.cells #[x0, x1, x2, x3, x4, x5] T (0, 0))) :
    w.cell? ⟨g, 0, none⟩ = some x0 ∧ w.cell? ⟨g, 1, none⟩ = some x1 ∧ w.cell? ⟨g, 2, none⟩ = some x2 ∧ w.cell? ⟨g, 3, none⟩ = some x3 ∧ w.cell? ⟨g, 4, none⟩ = some x4 ∧ w.cell? ⟨g, 5, none⟩ = some x5 :=
  ⟨by rw [cell_of_row w g 0 _ _ (0, 0) h]; rfl, by rw [cell_of_row w g 1 _ _ (0, 0) h]; rfl, by rw [cell_of_row w g 2 _ _ (0, 0) h]; rfl, by rw [cell_of_row w g 3 _ _ (0, 0) h]; rfl, by rw [cell_of_row w g 4 _ _ (0, 0) h]; rfl, by rw [cell_of_row w g 5 _ _ (0, 0) h]; rfl⟩

/-- all blocks as they were, the reader's own apart -/
theorem RdM.to {w0 w w' : World} {I : Nat → Obj → Prop} {gr : Nat} {vb vy vb' vy' : Value} {a a' : Int} {C F X : Value} {m : Md} {V : Nat → List Value} (h : RdM w0 I w gr vb vy a C F X m V) (hb : ∀ b, b < w.heap.size → b ≠ gr → w'.heap[b]? = w.heap[b]?) (hs : w.heap.size ≤ w'.heap.size)
    (hbox : w'.heap[gr]? = some (.cells #[vb', vy', .int .i64 a', C, F, X] 40 (0, 0))) (hold : Below gr w w') : RdM w0 I w' gr vb' vy' a' C F X m V where
  box := hbox
  old := h.old.trans hold
  ownC := own_later h.ownC (fun b hl hv => hb b hl (by have := (h.ownC.lt b hv).1; omega))
  ownF := own_later h.ownF (fun b hl hv => hb b hl (by have := (h.ownF.lt b hv).1; omega))
  ownX := own_later h.ownX (fun b hl hv => hb b hl (by have := (h.ownX.lt b hv).1; omega))
  row := h.row
  el := fun c y hy => (h.el c y hy).to (fun b hP => hb b hP.2.1 (by have := hP.1; omega)) (fun b hP => ⟨hP.1, Nat.lt_of_lt_of_le hP.2.1 hs, hP.2.2⟩)
  side := fun b c hI => ⟨(hb b (Array.getElem?_eq_some_iff.1 (h.side b c hI).1).1 (h.side b c hI).2.1).trans (h.side b c hI).1, (h.side b c hI).2⟩

theorem RdM.later {w0 w w' : World} {I : Nat → Obj → Prop} {gr : Nat} {vb vy : Value} {a : Int} {C F X : Value} {m : Md} {V : Nat → List Value} (h : RdM w0 I w gr vb vy a C F X m V) (hb : Below w.heap.size w w') : RdM w0 I w' gr vb vy a C F X m V :=
  h.to (fun b hl _ => hb.block b hl) hb.size ((hb.block gr h.lt).trans h.box) (hb.mono (Nat.le_of_lt h.lt))

theorem RdM.drew {w0 w : World} {I : Nat → Obj → Prop} {gr : Nat} {vb vy : Value} {a : Int} {C F X : Value} {m : Md} {V : Nat → List Value} (h : RdM w0 I w gr vb vy a C F X m V) (q : Nat) : RdM w0 I (w.drewN q) gr vb vy a C F X m V :=
  h.later (drewN_below (Below.refl _ _) q)

theorem RdM.setAt {w0 w : World} {I : Nat → Obj → Prop} {gr : Nat} {vb vy : Value} {a : Int} {C F X : Value} {m : Md} {V : Nat → List Value} (h : RdM w0 I w gr vb vy a C F X m V) (a' : Int) : RdM w0 I (w.setCell ⟨gr, 2, none⟩ (.int .i64 a')) gr vb vy a' C F X m V :=
  h.to (fun b _ hn => heap_setCell_other _ _ _ _ hn) (by simp) (by rw [heap_setCell_same w gr 2 _ _ _ h.box]; rfl) ((Below.refl _ _).setCell (p := ⟨gr, 2, none⟩) (Nat.le_refl _) _)

/-- bytes that were there ahead of the reader -/
theorem RdM.bytes {w0 w : World} {I : Nat → Obj → Prop} {gr : Nat} {vb vy : Value} {a : Int} {C F X : Value} {m : Md} {V : Nat → List Value} (h : RdM w0 I w gr vb vy a C F X m V) {ao : Option Addr} {len cap : Nat} {zs : List Int} (hz : Row8 w0 ao len cap zs) (hg : w0.heap.size ≤ gr) : Row8 w ao len cap zs :=
  hz.later' h.old (fun ad ha hp => Nat.lt_of_lt_of_le (hz.block ad ha hp) hg)
end Go.Proofs.Ytfdnhpmldnmncaa

namespace Go.Proofs.Ytfdnhpmldnmncaa
open Go.RowKit

def ResNo (w0 : World) (I : Nat → Obj → Prop) (gr : Nat) (vb vy : Value) (a : Int) (C F X : Value) (m : Md) (V : Nat → List Value) (r : Except Int (Int × Nat)) (e : Ending) (w' : World) : Prop :=
  match r with
  | .error c => e = .returned (.tuple #[.int .i64 0, .int .i64 c]) ∧ RdM w0 I w' gr vb vy a C F X m V
  | .ok (n, nx) => e = .returned (.tuple #[.int .i64 n, .int .i64 0]) ∧ RdM w0 I w' gr vb vy (nx : Int) C F X m V

theorem uint_nat {zs : List Int} {a n nx : Int} (hs : ∀ c ∈ zs, 0 ≤ c ∧ c ≤ 255) (h : uintAt zs a = (n, nx, 0)) : 0 ≤ n ∧ 0 ≤ nx := by
  have := uint_form zs a hs (by rw [h])
  obtain ⟨q, k, _, _, _, _, h1, _, h2⟩ := this
  rw [h] at h1 h2
  dsimp only at h1 h2
  omega

set_option maxRecDepth 100000 in
set_option maxHeartbeats 1000000 in
theorem number_any (w0 : World) (I : Nat → Obj → Prop) (gr : Nat) (vb : Value) (bo : Option Addr) (e bc : Nat) (a : Nat) (C F X : Value) (m : Md) (V : Nat → List Value) (bs : List Int) (most above : Int) (w : World) (h : RdM w0 I w gr vb (.slice bo e bc) a C F X m V) (hy : Row8 w0 bo e bc bs) (hg : w0.heap.size ≤ gr) (hm : bc ≤ maxLen) (hmost : -1 ≤ most ∧ most ≤ 4294967296) :
    Calls Try.prog 43 #[.pointer (some ⟨gr, 0, none⟩), .int .i64 most, .int .i64 above] w fun e' w' => ResNo w0 I gr vb (.slice bo e bc) a C F X m V (rdNo bs a most above) e' w' := by
  obtain ⟨c0, c1, c2, c3, c4, c5⟩ := row_cells6 h.box
  have fz := frozen_of_row w gr 2 _ _ h.box
  have CI := fun q => hide (uint_any bo e bc (a : Int) bs (w.drewN q) ((h.drew q).bytes hy hg) hm)
  have hsm := hy.small
  have hx := uint_max bs a hsm
  have HH := hide h
  unfold rdNo
  have hnat := fun n nx h => uint_nat (a := (a : Int)) (n := n) (nx := nx) hsm h
  generalize uintAt bs a = r at *
  obtain ⟨n, nx, er⟩ := r
  dsimp only at *
  clear hy h
  by_cases he : er ≠ 0
  · have k1 : ¬ er = 0 := he
    rw [if_pos he]
    go_enter Try.func43, Try.ntmps43
    go_upto_region 1 with fail
    go_quiet ((go_at_call 42; exact Calls.quiet_of_same (unhide (CI _))))
    go_wp2_with fail
    go_ret2
    exact ⟨rfl, (unhide HH).drew _⟩
  · rw [if_neg he]
    have e0 : er = 0 := by simpa using he
    subst e0
    obtain ⟨n0, nx0⟩ := hnat n nx rfl
    clear hnat he
    by_cases h1 : most < 0
    · rw [if_pos (Or.inl h1)]
      go_enter Try.func43, Try.ntmps43
      go_upto_region 1 with fail
      go_quiet ((go_at_call 42; exact Calls.quiet_of_same (unhide (CI _))))
      go_wp2_with fail
      go_ret2
      exact ⟨rfl, (unhide HH).drew _⟩
    · have w1 : IntKind.u64.wrap most = most := by rw [IntKind.wrap_u64]; omega
      by_cases h2 : most < n
      · rw [if_pos (Or.inr h2)]
        go_enter Try.func43, Try.ntmps43
        go_upto_region 1 with fail
        go_quiet ((go_at_call 42; exact Calls.quiet_of_same (unhide (CI _))))
        go_wp2_with fail
        go_ret2
        exact ⟨rfl, (unhide HH).drew _⟩
      · rw [if_neg (by omega)]
        have w2 : IntKind.i64.wrap n = n := by rw [IntKind.wrap_i64]; omega
        obtain ⟨nn, rfl⟩ : ∃ nn : Nat, nx = (nn : Int) := ⟨nx.toNat, by omega⟩
        rw [Int.toNat_natCast]
        go_enter Try.func43, Try.ntmps43
        go_upto_region 1 with fail
        go_quiet ((go_at_call 42; exact Calls.quiet_of_same (unhide (CI _))))
        go_wp2_with fail
        go_ret2
        exact ⟨rfl, ((unhide HH).drew _).setAt _⟩

def ResTx (w0 : World) (I : Nat → Obj → Prop) (gr : Nat) (vb vy : Value) (a : Int) (C F X : Value) (m : Md) (V : Nat → List Value) (r : Except Int (ByteArray × Nat)) (e : Ending) (w' : World) : Prop :=
  match r with
  | .error c => e = .returned (.tuple #[.string ⟨#[]⟩, .int .i64 c]) ∧ RdM w0 I w' gr vb vy a C F X m V
  | .ok (t, nx) => e = .returned (.tuple #[.string t, .int .i64 0]) ∧ RdM w0 I w' gr vb vy (nx : Int) C F X m V

set_option maxRecDepth 100000 in
set_option maxHeartbeats 1000000 in
theorem textM_any (w0 : World) (I : Nat → Obj → Prop) (gr : Nat) (vb : Value) (bo : Option Addr) (e bc : Nat) (a : Nat) (C F X : Value) (m : Md) (V : Nat → List Value) (bs : List Int) (most : Int) (w : World) (h : RdM w0 I w gr vb (.slice bo e bc) a C F X m V) (hy : Row8 w0 bo e bc bs) (hg : w0.heap.size ≤ gr) (hm : bc ≤ maxLen) (hmost : 0 ≤ most ∧ most ≤ 4294967296) :
    Calls Try.prog 55 #[.pointer (some ⟨gr, 0, none⟩), .int .i64 most] w fun e' w' => ResTx w0 I gr vb (.slice bo e bc) a C F X m V (rdTx bs a most) e' w' := by
  obtain ⟨c0, c1, c2, c3, c4, c5⟩ := row_cells6 h.box
  have fz := frozen_of_row w gr 2 _ _ h.box
  have CI := fun q => hide (text_any bo e bc (a : Int) most bs (w.drewN q) ((h.drew q).bytes hy hg) (by unfold maxLen at hm; omega) (by omega))
  have hsm := hy.small
  have HF : (textOfU bs most (uintAt bs a)).2.2 = 0 → 0 ≤ (textOfU bs most (uintAt bs a)).2.1 := fun h0 => by
    obtain ⟨b, _, _, hb, _⟩ := text_form bs most.toNat a hsm (by rw [show ((most.toNat : Nat) : Int) = most by omega]; exact h0)
    rw [show ((most.toNat : Nat) : Int) = most by omega] at hb
    omega
  have HH := hide h
  unfold rdTx
  generalize textOfU bs most (uintAt bs a) = r at *
  obtain ⟨t, nx, er⟩ := r
  dsimp only at *
  clear hy h
  by_cases h13 : er = 13
  · subst h13
    rw [if_pos rfl]
    go_enter Try.func55, Try.ntmps55
    go_upto_region 1 with fail
    go_quiet ((go_at_call 66; exact Calls.quiet_of_same (unhide (CI _))))
    go_wp2_with fail
    go_ret2
    exact ⟨rfl, (unhide HH).drew _⟩
  · rw [if_neg h13]
    have k13 : (er == 13) = false := beq_eq_false_iff_ne.2 h13
    by_cases he : er ≠ 0
    · have k1 : ¬ er = 0 := he
      rw [if_pos he]
      go_enter Try.func55, Try.ntmps55
      go_upto_region 1 with fail
      go_quiet ((go_at_call 66; exact Calls.quiet_of_same (unhide (CI _))))
      go_wp2_with fail
      go_ret2
      exact ⟨rfl, (unhide HH).drew _⟩
    · rw [if_neg he]
      have e0 : er = 0 := by simpa using he
      subst e0
      have n0 := HF rfl
      obtain ⟨nn, rfl⟩ : ∃ nn : Nat, nx = (nn : Int) := ⟨nx.toNat, by omega⟩
      rw [Int.toNat_natCast]
      clear HF he
      go_enter Try.func55, Try.ntmps55
      go_upto_region 1 with fail
      go_quiet ((go_at_call 66; exact Calls.quiet_of_same (unhide (CI _))))
      go_wp2_with fail
      go_ret2
      exact ⟨rfl, ((unhide HH).drew _).setAt _⟩

theorem flat2_at (l : List Ex) (i : Nat) (x : Ex) (h : l[i]? = some x) : (l.flatMap exV)[i * 2]? = some (.string x.1) := by
  induction l generalizing i with
  | nil => simp at h
  | cons y r ih =>
    cases i with
    | zero => simp at h; subst h; rfl
    | succ i =>
      rw [List.flatMap_cons, show (i + 1) * 2 = i * 2 + 2 by omega, List.getElem?_append_right (by simp [exV])]
      simpa [exV] using ih i (by simpa using h)

set_option maxRecDepth 100000 in
set_option maxHeartbeats 1000000 in
theorem last_any (w0 : World) (I : Nat → Obj → Prop) (gr : Nat) (vb vy : Value) (a : Int) (C F X : Value) (m : Md) (V : Nat → List Value) (w : World) (h : RdM w0 I w gr vb vy a C F X m V) (hx : m.xs.length ≤ 100) :
    Calls Try.prog 56 #[.pointer (some ⟨gr, 0, none⟩)] w fun e' w' => e' = .returned (.string (lastN m)) ∧ ∃ q, w' = w.drewN q := by
  obtain ⟨c0, c1, c2, c3, c4, c5⟩ := row_cells6 h.box
  obtain ⟨ax, cx, hX, nX, lX, mX, aX⟩ := slice_form h.ownX
  obtain ⟨n, hn⟩ : ∃ n, m.xs.length = n := ⟨_, rfl⟩
  rw [hn] at hX hx lX nX
  have hcl := h.ownX
  subst hX
  by_cases h0 : n = 0
  · have hl : lastN m = ⟨#[]⟩ := by
      unfold lastN
      have hnil : m.xs = [] := List.eq_nil_of_length_eq_zero (by omega)
      rw [hnil]
      rfl
    rw [hl]
    subst h0
    clear hcl nX lX mX aX h
    go_enter Try.func56, Try.ntmps56
    go_wp2_with fail
    go_ret
    exact ⟨rfl, 0, rfl⟩
  · obtain ⟨x, hxl⟩ : ∃ x, m.xs[n - 1]? = some x := ⟨_, List.getElem?_eq_getElem (by omega)⟩
    have hl : lastN m = x.1 := by
      unfold lastN
      rw [List.getLast?_eq_getElem?, hn, hxl]
    rw [hl]
    obtain ⟨ad, rfl⟩ : ∃ ad, ax = some ad := by
      cases ax with
      | none => have := (nX rfl).1; omega
      | some ad => exact ⟨ad, rfl⟩
    obtain ⟨o1, o2⟩ := aX ad rfl
    obtain ⟨bx, hbx⟩ : ∃ bx, ad.block = bx := ⟨_, rfl⟩
    rw [hbx] at o2
    have cc := hcl.cells o1 ((n - 1) * 2) _ (flat2_at m.xs (n - 1) x hxl)
    rw [hbx] at cc
    subst o2
    obtain ⟨k, hk⟩ : ∃ k, n = k + 1 := ⟨n - 1, by omega⟩
    subst hk
    rw [Nat.add_sub_cancel] at cc
    have e1 : IntKind.i64.wrap (((k + 1 : Nat) : Int) - 1) = (k : Int) := by rw [IntKind.wrap_i64]; omega
    have e2 : ((k + 1 : Nat) : Int) - 1 = (k : Int) := by omega
    have e3 : (((k + 1 : Nat) : Int) == 0) = false := beq_eq_false_iff_ne.2 (by omega)
    have e4 : (k : Int) < (k : Int) + 1 := by omega
    have e5 : IntKind.i64.wrap (k : Int) = (k : Int) := by rw [IntKind.wrap_i64]; omega
    have e6 : (((k : Int) + 1) == 0) = false := beq_eq_false_iff_ne.2 (by omega)
    have hadd : (⟨bx, 0, none⟩ : Addr).add (k * 2) = ⟨bx, k * 2, none⟩ := by unfold Addr.add; split <;> simp_all
    have cc' : w.cell? ⟨bx, k * 2, none⟩ = some (.string x.1) := by rw [← hadd]; exact cc
    clear hadd
    clear hcl nX lX mX aX h cc hxl hl o1
    obtain ⟨s, hs⟩ : ∃ s, x.1 = s := ⟨_, rfl⟩
    rw [hs] at cc' ⊢
    go_enter Try.func56, Try.ntmps56
    go_upto_region 3 with fail
    go_quiet (fail)
    go_wp2_with fail
    go_ret
    exact ⟨rfl, _, rfl⟩
end Go.Proofs.Ytfdnhpmldnmncaa

namespace Go.Proofs.Ytfdnhpmldnmncaa
open Go.RowKit

/-- what a reader of one part answers -/
def ResRd (w0 : World) (I : Nat → Obj → Prop) (gr : Nat) (vb vy : Value) (r : Except (Int × Int) (Md × Nat)) (e : Ending) (w' : World) : Prop :=
  match r with
  | .error p => e = .returned (.int .i64 p.1) ∧ ∃ C F X m V, RdM w0 I w' gr vb vy p.2 C F X m V
  | .ok (m, n) => e = .returned (.int .i64 0) ∧ ∃ C F X V, RdM w0 I w' gr vb vy (n : Int) C F X m V

theorem own_apartM {w : World} {b1 b2 : Nat} {e1 e2 : TypeId} {s1 s2 n1 n2 : Nat} {v1 v2 : Value} {x1 x2 : List Value} (h1 : w.ownsRow b1 e1 s1 v1 n1 x1) (h2 : w.ownsRow b2 e2 s2 v2 n2 x2) (hne : e1 ≠ e2) (b : Nat) (hb : v1.ownBlock = some b) : some b ≠ v2.ownBlock := by
  rcases h1.2 with ⟨rfl, _⟩ | ⟨g1, c1, cur1, rfl, _, hg1, _⟩
  · cases hb
  · rcases h2.2 with ⟨rfl, _⟩ | ⟨g2, c2, cur2, rfl, _, hg2, _⟩
    · simp [Value.ownBlock]
    · intro e
      have e' : g1 = b := by simpa [Value.ownBlock] using hb
      have e'' : b = g2 := by simpa [Value.ownBlock] using e
      subst e'
      subst e''
      rw [hg1] at hg2
      simp at hg2
      exact hne hg2.2

/-- append of one element that was just laid -/
theorem wpl_oneM {P : Program} {w : World} {ops : Array Oper} {rest : List Oper} {o : Oper} {a : Act} {Q : Exit → Act → World → Prop} (hgd : o.guard = none) (sl x : Operand) (T e : TypeId) (i0 : TypeInfo) (z : Value) (size bytes : Nat)
    (hu : P.underlying T = some (.slice e)) (hi : P.info? e = some i0) (hz : i0.zero = some z) (hs1 : i0.size = size) (hby : i0.bytes = bytes) (hzs : z.cells.size = size) (hsz : 0 < size)
    (ho : o.op = .call { callee := .builtin .append, args := #[sl, x], argTypes := #[T, T] })
    (base n : Nat) (v : Value) (xs : List Value) (A : List Value) (hA : A.length = size) (h1 : ∀ u ∈ A, u.oneCell' = true) (hs : a.eval sl = v) (hown : w.ownsRow base e size v n xs)
    (hx : a.eval x = .slice (some ⟨w.heap.size, 0, none⟩) 1 1) (hn : n + 1 ≤ maxLen) (hbytes : (n + 1) * bytes ≤ 140737488355328) (hbase : base ≤ w.heap.size)
    (h : ∀ v' w', Hid (w'.ownsRow base e size v' (n + 1) (xs ++ A) ∧ Grew w w' v v') → wpList P ops Q rest (a.put o.dst v') w') :
    wpList P ops Q (o :: rest) a (w.alloc (.cells A.toArray e)) := by
  refine wpList_plain hgd fun K hK => ?_
  have hb : Below w.heap.size w (w.alloc (.cells A.toArray e)) := (Below.refl _ _).alloc (Nat.le_refl _) _
  have hnew := heap_alloc_new w (.cells A.toArray e)
  have hz1 : (w.alloc (.cells A.toArray e)).heap.size = w.heap.size + 1 := by simp
  obtain ⟨v', w', hrun, r1, r2, _, r4⟩ := run_append_own_at (P := P) (w.alloc (.cells A.toArray e)) base T o.type e i0 z size bytes hu hi hz hs1 hby hzs hsz v n xs (hown.alloc _) ⟨w.heap.size, 0, none⟩ 1 1 A (by omega) (fun j u hj => World.news_of_block hnew j u (by simpa using hj)) h1 hn hbytes (by omega)
  unfold Oper.wp
  simp only [execOp, ho, resolve, invoke, builtin, Sem.run_bind, Sem.run_pure, Result.andThen_ok, List.map_toArray, List.map_cons, List.map_nil, hs, hx, hrun]
  refine hK _ _ (h v' w' ⟨r1, ⟨r2.os, r2.tape, r2.output, by have := r2.size; omega, fun k hk hne => (r2.block k (by omega) hne).trans (heap_alloc_old w _ hk)⟩, fun b hb' => ?_⟩)
  rcases r4 with e' | e'
  · exact Or.inl (by rw [← e']; exact hb')
  · rw [hb'] at e'
    exact Or.inr (by rw [Option.some.inj e', hz1]; omega)

theorem infoFn : (Try.prog.info? 53).map (fun i => (i.zero, i.size, i.bytes)) = some (some (.agg #[.int .i64 0, .int .i64 0, .int .i64 0, .string ⟨#[]⟩]), 4, 40) := by kernel_rfl
theorem infoEx : (Try.prog.info? 55).map (fun i => (i.zero, i.size, i.bytes)) = some (some (.agg #[.string ⟨#[]⟩, .int .i64 0]), 2, 24) := by kernel_rfl

theorem flatMap_snoc {α β : Type} (f : α → List β) (l : List α) (x : α) : (l ++ [x]).flatMap f = l.flatMap f ++ f x := by simp [List.flatMap_append]

/-- one function more in the module -/
theorem RdM.pushF {w0 w w1 : World} {I : Nat → Obj → Prop} {gr : Nat} {vb vy : Value} {a : Int} {C F F' X : Value} {m : Md} {V : Nat → List Value} {f : Fn} (h : RdM w0 I w gr vb vy a C F X m V) (hown : w1.ownsRow (gr + 1) 53 4 F' (m.fs.length + 1) (m.fs.flatMap fnV ++ fnV f)) (hg : Grew w w1 F F') :
    RdM w0 I (w1.setCell ⟨gr, 4, none⟩ F') gr vb vy a C F' X ⟨m.cs, m.fs ++ [f], m.xs⟩ V := by
  have hgF : ∀ b, F.ownBlock = some b → gr + 1 ≤ b ∧ b < w.heap.size := h.ownF.lt
  have hgr : some gr ≠ F.ownBlock := fun e => by have := (hgF gr e.symm).1; omega
  have hlt := h.lt
  have keep : ∀ b, b < w.heap.size → b ≠ gr → some b ≠ F.ownBlock → (w1.setCell ⟨gr, 4, none⟩ F').heap[b]? = w.heap[b]? := fun b hb hn hf => by rw [heap_setCell_other _ _ _ _ (by simpa using hn)]; exact hg.far hb hf
  have hsz : (w1.setCell ⟨gr, 4, none⟩ F').heap.size = w1.heap.size := by simp
  have hs1 := hg.grown.size
  have hFb : ∀ b, F'.ownBlock = some b → F.ownBlock = some b ∨ w.heap.size ≤ b := hg.row
  refine ⟨?_, ?_, ?_, ?_, ?_, h.row, ?_, ?_⟩
  · rw [heap_setCell_same w1 gr 4 _ _ _ ((hg.far hlt hgr).trans h.box)]; rfl
  · have hb : Below (gr + 1) w w1 := (Below.refl _ _).grown hg.grown (by omega) (fun k e => (hgF k e).1)
    have hb' : Below gr w w1 := hb.mono (Nat.le_succ _)
    exact h.old.trans (hb'.setCell (p := ⟨gr, 4, none⟩) (Nat.le_refl _) _)
  · exact own_later h.ownC (fun b hl hv => keep b hl (by have := (h.ownC.lt b hv).1; omega) (own_apartM h.ownC h.ownF (by decide) b hv))
  · rw [List.length_append, List.length_singleton, flatMap_snoc]
    exact own_later hown (fun b hl hv => by rw [heap_setCell_other _ _ _ _ (by have := (hown.lt b hv).1; simp; omega)])
  · exact own_later h.ownX (fun b hl hv => keep b hl (by have := (h.ownX.lt b hv).1; omega) (own_apartM h.ownX h.ownF (by decide) b hv))
  · intro c y hy
    refine (h.el c y hy).to (fun b hP => keep b hP.2.1 (by have := hP.1; omega) hP.2.2.2.1) (fun b hP => ⟨hP.1, by rw [hsz]; have := hP.2.1; omega, hP.2.2.1, fun e => ?_, hP.2.2.2.2⟩)
    rcases hFb b e.symm with e' | e'
    · exact hP.2.2.2.1 e'.symm
    · have := hP.2.1; omega
  · intro b c hI
    obtain ⟨i1, i2, i3, i4, i5⟩ := h.side b c hI
    have hbl := (Array.getElem?_eq_some_iff.1 i1).1
    refine ⟨(keep b hbl i2 i4).trans i1, i2, i3, fun e => ?_, i5⟩
    rcases hFb b e.symm with e' | e'
    · exact i4 e'.symm
    · omega

/-- one export more in the module -/
theorem RdM.pushX {w0 w w1 : World} {I : Nat → Obj → Prop} {gr : Nat} {vb vy : Value} {a : Int} {C F X X' : Value} {m : Md} {V : Nat → List Value} {x : Ex} (h : RdM w0 I w gr vb vy a C F X m V) (hown : w1.ownsRow (gr + 1) 55 2 X' (m.xs.length + 1) (m.xs.flatMap exV ++ exV x)) (hg : Grew w w1 X X') :
    RdM w0 I (w1.setCell ⟨gr, 5, none⟩ X') gr vb vy a C F X' ⟨m.cs, m.fs, m.xs ++ [x]⟩ V := by
  have hgF : ∀ b, X.ownBlock = some b → gr + 1 ≤ b ∧ b < w.heap.size := h.ownX.lt
  have hgr : some gr ≠ X.ownBlock := fun e => by have := (hgF gr e.symm).1; omega
  have hlt := h.lt
  have keep : ∀ b, b < w.heap.size → b ≠ gr → some b ≠ X.ownBlock → (w1.setCell ⟨gr, 5, none⟩ X').heap[b]? = w.heap[b]? := fun b hb hn hf => by rw [heap_setCell_other _ _ _ _ (by simpa using hn)]; exact hg.far hb hf
  have hsz : (w1.setCell ⟨gr, 5, none⟩ X').heap.size = w1.heap.size := by simp
  have hs1 := hg.grown.size
  have hFb : ∀ b, X'.ownBlock = some b → X.ownBlock = some b ∨ w.heap.size ≤ b := hg.row
  refine ⟨?_, ?_, ?_, ?_, ?_, h.row, ?_, ?_⟩
  · rw [heap_setCell_same w1 gr 5 _ _ _ ((hg.far hlt hgr).trans h.box)]; rfl
  · have hb : Below (gr + 1) w w1 := (Below.refl _ _).grown hg.grown (by omega) (fun k e => (hgF k e).1)
    have hb' : Below gr w w1 := hb.mono (Nat.le_succ _)
    exact h.old.trans (hb'.setCell (p := ⟨gr, 5, none⟩) (Nat.le_refl _) _)
  · exact own_later h.ownC (fun b hl hv => keep b hl (by have := (h.ownC.lt b hv).1; omega) (own_apartM h.ownC h.ownX (by decide) b hv))
  · exact own_later h.ownF (fun b hl hv => keep b hl (by have := (h.ownF.lt b hv).1; omega) (own_apartM h.ownF h.ownX (by decide) b hv))
  · rw [List.length_append, List.length_singleton, flatMap_snoc]
    exact own_later hown (fun b hl hv => by rw [heap_setCell_other _ _ _ _ (by have := (hown.lt b hv).1; simp; omega)])
  · intro c y hy
    refine (h.el c y hy).to (fun b hP => keep b hP.2.1 (by have := hP.1; omega) hP.2.2.2.2) (fun b hP => ⟨hP.1, by rw [hsz]; have := hP.2.1; omega, hP.2.2.1, hP.2.2.2.1, fun e => ?_⟩)
    rcases hFb b e.symm with e' | e'
    · exact hP.2.2.2.2 e'.symm
    · have := hP.2.1; omega
  · intro b c hI
    obtain ⟨i1, i2, i3, i4, i5⟩ := h.side b c hI
    have hbl := (Array.getElem?_eq_some_iff.1 i1).1
    refine ⟨(keep b hbl i2 i5).trans i1, i2, i3, i4, fun e => ?_⟩
    rcases hFb b e.symm with e' | e'
    · exact i5 e'.symm
    · omega

theorem no_code {bs : List Int} {a : Nat} {most above c : Int} (h : rdNo bs a most above = .error c) : c = 91 ∨ c = above := by
  unfold rdNo at h
  split at h
  · cases h; exact Or.inl rfl
  · split at h
    · cases h; exact Or.inr rfl
    · cases h
theorem tx_code {bs : List Int} {a : Nat} {most c : Int} (h : rdTx bs a most = .error c) : c = 91 ∨ c = 92 := by
  unfold rdTx at h
  split at h
  · cases h; exact Or.inr rfl
  · split at h
    · cases h; exact Or.inl rfl
    · cases h

set_option maxRecDepth 100000 in
set_option maxHeartbeats 2000000 in
theorem readF_any (w0 : World) (I : Nat → Obj → Prop) (gr : Nat) (vb : Value) (bo : Option Addr) (e bc : Nat) (a : Nat) (C F X : Value) (m : Md) (V : Nat → List Value) (bs : List Int) (w : World) (h : RdM w0 I w gr vb (.slice bo e bc) a C F X m V) (hy : Row8 w0 bo e bc bs) (hg : w0.heap.size ≤ gr) (hm : bc ≤ maxLen) (hl : m.fs.length ≤ 100) :
    Calls Try.prog 38 #[.pointer (some ⟨gr, 0, none⟩)] w fun e' w' => ResRd w0 I gr vb (.slice bo e bc) (rdF bs m a) e' w' := by
  have HY := hide hy
  have C1 := hide (number_any w0 I gr vb bo e bc a C F X m V bs 8 92 w h hy hg hm (by omega))
  clear h hy
  unfold rdF
  cases h1 : rdNo bs a 8 92 with
  | error c =>
    rw [h1] at C1
    have k1 : ¬ c = 0 := by have := no_code h1; omega
    clear h1
    go_enter Try.func38, Try.ntmps38
    go_wp2_with fail
    refine (unhide C1).mono ?_
    rintro e1 u1 ⟨rfl, R1⟩
    have H1 := hide R1
    clear R1 C1
    go_wp2_with fail
    go_ret
    exact ⟨rfl, _, _, _, _, _, unhide H1⟩
  | ok r1 =>
    obtain ⟨p, a1⟩ := r1
    rw [h1] at C1
    dsimp only
    clear h1
    cases h2 : rdNo bs a1 32 92 with
    | error c =>
      have k1 : ¬ c = 0 := by have := no_code h2; omega
      dsimp only
      go_enter Try.func38, Try.ntmps38
      go_wp2_with fail
      refine (unhide C1).mono ?_
      rintro e1 u1 ⟨rfl, R1⟩
      have C2 := hide (number_any w0 I gr vb bo e bc a1 C F X m V bs 32 92 u1 R1 (unhide HY) hg hm (by omega))
      rw [h2] at C2
      obtain ⟨c0, c1, c2, c3, c4, c5⟩ := row_cells6 R1.box
      clear R1 C1
      go_wp2_with fail
      refine (unhide C2).mono ?_
      rintro e2 u2 ⟨rfl, R2⟩
      have H2 := hide R2
      clear R2 C2 c0 c1 c2 c3 c4 c5
      go_wp2_with fail
      go_ret
      exact ⟨rfl, _, _, _, _, _, unhide H2⟩
    | ok r2 =>
      obtain ⟨l, a2⟩ := r2
      dsimp only
      by_cases hlp : l < p
      · rw [if_pos hlp]
        go_enter Try.func38, Try.ntmps38
        go_wp2_with fail
        refine (unhide C1).mono ?_
        rintro e1 u1 ⟨rfl, R1⟩
        have C2 := hide (number_any w0 I gr vb bo e bc a1 C F X m V bs 32 92 u1 R1 (unhide HY) hg hm (by omega))
        rw [h2] at C2
        obtain ⟨c0, c1, c2, c3, c4, c5⟩ := row_cells6 R1.box
        clear R1 C1
        go_wp2_with fail
        refine (unhide C2).mono ?_
        rintro e2 u2 ⟨rfl, R2⟩
        have H2 := hide R2
        have fz := frozen_of_row u2 gr 2 _ _ R2.box
        obtain ⟨d0, d1, d2, d3, d4, d5⟩ := row_cells6 R2.box
        clear R2 C2 c0 c1 c2 c3 c4 c5
        go_wp2_with fail
        go_ret
        exact ⟨rfl, _, _, _, _, _, (unhide H2).setAt _⟩
      · rw [if_neg hlp]
        cases h3 : rdNo bs a2 40 92 with
        | error c =>
          have k1 : ¬ c = 0 := by have := no_code h3; omega
          dsimp only
          go_enter Try.func38, Try.ntmps38
          go_wp2_with fail
          refine (unhide C1).mono ?_
          rintro e1 u1 ⟨rfl, R1⟩
          have C2 := hide (number_any w0 I gr vb bo e bc a1 C F X m V bs 32 92 u1 R1 (unhide HY) hg hm (by omega))
          rw [h2] at C2
          obtain ⟨c0, c1, c2, c3, c4, c5⟩ := row_cells6 R1.box
          clear R1 C1
          go_wp2_with fail
          refine (unhide C2).mono ?_
          rintro e2 u2 ⟨rfl, R2⟩
          have C3 := hide (number_any w0 I gr vb bo e bc a2 C F X m V bs 40 92 u2 R2 (unhide HY) hg hm (by omega))
          rw [h3] at C3
          clear R2 C2 c0 c1 c2 c3 c4 c5
          go_wp2_with fail
          refine (unhide C3).mono ?_
          rintro e3 u3 ⟨rfl, R3⟩
          have H3 := hide R3
          clear R3 C3
          go_wp2_with fail
          go_ret
          exact ⟨rfl, _, _, _, _, _, unhide H3⟩
        | ok r3 =>
          obtain ⟨s, a3⟩ := r3
          dsimp only
          cases h4 : rdTx bs a3 4000 with
          | error c =>
            have k1 : ¬ c = 0 := by have := tx_code h4; omega
            dsimp only
            go_enter Try.func38, Try.ntmps38
            go_wp2_with fail
            refine (unhide C1).mono ?_
            rintro e1 u1 ⟨rfl, R1⟩
            have C2 := hide (number_any w0 I gr vb bo e bc a1 C F X m V bs 32 92 u1 R1 (unhide HY) hg hm (by omega))
            rw [h2] at C2
            obtain ⟨c0, c1, c2, c3, c4, c5⟩ := row_cells6 R1.box
            clear R1 C1
            go_wp2_with fail
            refine (unhide C2).mono ?_
            rintro e2 u2 ⟨rfl, R2⟩
            have C3 := hide (number_any w0 I gr vb bo e bc a2 C F X m V bs 40 92 u2 R2 (unhide HY) hg hm (by omega))
            rw [h3] at C3
            clear R2 C2 c0 c1 c2 c3 c4 c5
            go_wp2_with fail
            refine (unhide C3).mono ?_
            rintro e3 u3 ⟨rfl, R3⟩
            have C4 := hide (textM_any w0 I gr vb bo e bc a3 C F X m V bs 4000 u3 R3 (unhide HY) hg hm (by omega))
            rw [h4] at C4
            clear R3 C3
            go_wp2_with fail
            refine (unhide C4).mono ?_
            rintro e4 u4 ⟨rfl, R4⟩
            have H4 := hide R4
            clear R4 C4
            go_wp2_with fail
            go_ret
            exact ⟨rfl, _, _, _, _, _, unhide H4⟩
          | ok r4 =>
            obtain ⟨t, a4⟩ := r4
            dsimp only
            go_enter Try.func38, Try.ntmps38
            go_wp2_with fail
            refine (unhide C1).mono ?_
            rintro e1 u1 ⟨rfl, R1⟩
            have C2 := hide (number_any w0 I gr vb bo e bc a1 C F X m V bs 32 92 u1 R1 (unhide HY) hg hm (by omega))
            rw [h2] at C2
            obtain ⟨c0, c1, c2, c3, c4, c5⟩ := row_cells6 R1.box
            clear R1 C1
            go_wp2_with fail
            refine (unhide C2).mono ?_
            rintro e2 u2 ⟨rfl, R2⟩
            have C3 := hide (number_any w0 I gr vb bo e bc a2 C F X m V bs 40 92 u2 R2 (unhide HY) hg hm (by omega))
            rw [h3] at C3
            clear R2 C2 c0 c1 c2 c3 c4 c5
            go_wp2_with fail
            refine (unhide C3).mono ?_
            rintro e3 u3 ⟨rfl, R3⟩
            have C4 := hide (textM_any w0 I gr vb bo e bc a3 C F X m V bs 4000 u3 R3 (unhide HY) hg hm (by omega))
            rw [h4] at C4
            clear R3 C3
            go_wp2_with fail
            refine (unhide C4).mono ?_
            rintro e4 u4 ⟨rfl, R4⟩
            have H4 := hide R4
            obtain ⟨c0, c1, c2, c3, c4, c5⟩ := row_cells6 R4.box
            obtain ⟨i0, hi, hz0, hz1, hz2⟩ := info_parts infoFn
            obtain ⟨nF, hnF⟩ : ∃ nF, m.fs.length = nF := ⟨_, rfl⟩
            have hOw : u4.ownsRow (gr + 1) 53 4 F nF (m.fs.flatMap fnV) := by rw [← hnF]; exact R4.ownF
            have HOw := hide hOw
            have hbs : gr + 1 ≤ u4.heap.size := R4.lt
            have hn100 : nF ≤ 100 := by omega
            have HNF := hide hnF
            have fz : ∀ F' w5, Hid (w5.ownsRow (gr + 1) 53 4 F' (nF + 1) (m.fs.flatMap fnV ++ fnV (p, l, s, t)) ∧ Grew u4 w5 F F') → w5.frozen? ⟨gr, 4, none⟩ = false ∧ w5.cell? ⟨gr, 4, none⟩ = some F := fun F' w5 H5 => by
              have hb := ((unhide H5).2.far (unhide H4).lt (fun e => by have := ((unhide HOw).lt gr e.symm).1; omega)).trans (unhide H4).box
              exact ⟨frozen_of_row w5 gr 4 _ _ hb, (row_cells6 hb).2.2.2.2.1⟩
            have HFZ := hide fz
            clear R4 C4 hOw hnF fz
            go_wp2_with (first | (at_builtin; refine wpl_oneM rfl (.tmp 57) (.tmp 63) 25 53 i0 _ 4 40 Try.underlying25 hi hz0 hz1 hz2 rfl (by omega) rfl (gr + 1) nF F (m.fs.flatMap fnV) (fnV (p, l, s, t)) rfl (by simp [fnV, Value.oneCell']) rfl (unhide HOw) rfl (by unfold maxLen; omega) (by omega) hbs ?_; intro F5 w5 o5; obtain ⟨z1, z2⟩ := unhide HFZ F5 w5 o5; obtain ⟨a5, p5, h5, _⟩ := slice_form (unhide o5).1; subst h5))
            go_ret
            have H9 := (unhide H4).pushF (f := (p, l, s, t)) (by rw [unhide HNF]; exact (unhide o5).1) (unhide o5).2
            exact ⟨rfl, _, _, _, _, H9⟩

set_option maxRecDepth 100000 in
set_option maxHeartbeats 2000000 in
theorem readX_any (w0 : World) (I : Nat → Obj → Prop) (gr : Nat) (vb : Value) (bo : Option Addr) (e bc : Nat) (a : Nat) (C F X : Value) (m : Md) (V : Nat → List Value) (bs : List Int) (w : World) (h : RdM w0 I w gr vb (.slice bo e bc) a C F X m V) (hy : Row8 w0 bo e bc bs) (hg : w0.heap.size ≤ gr) (hm : bc ≤ maxLen) (hl : m.xs.length ≤ 100) (hlf : m.fs.length ≤ 100) :
    Calls Try.prog 41 #[.pointer (some ⟨gr, 0, none⟩)] w fun e' w' => ResRd w0 I gr vb (.slice bo e bc) (rdX bs m a) e' w' := by
  have HY := hide hy
  have C1 := hide (textM_any w0 I gr vb bo e bc a C F X m V bs 20 w h hy hg hm (by omega))
  obtain ⟨c0, c1, c2, c3, c4, c5⟩ := row_cells6 h.box
  have hsz20 : ∀ t a1, rdTx bs a 20 = .ok (t, a1) → t.size ≤ 140737488351232 := fun t a1 ht => by
    unfold rdTx at ht
    split at ht
    · cases ht
    · split at ht
      · cases ht
      · rename_i h0
        simp only [Except.ok.injEq, Prod.mk.injEq] at ht
        obtain ⟨_, _, _, _, hb, _⟩ := text_form bs 20 a hy.small (by simpa using h0)
        have e1 : (textOfU bs 20 (uintAt bs ↑a)).1 = t := ht.1
        rw [e1] at hb
        omega
  clear h hy
  unfold rdX
  cases h1 : rdTx bs a 20 with
  | error c =>
    rw [h1] at C1
    have k1 : ¬ c = 0 := by have := tx_code h1; omega
    clear h1
    go_enter Try.func41, Try.ntmps41
    go_wp2_with fail
    refine (unhide C1).mono ?_
    rintro e1 u1 ⟨rfl, R1⟩
    have H1 := hide R1
    clear R1 C1 c0 c1 c2 c3 c4 c5
    go_wp2_with fail
    go_ret
    exact ⟨rfl, _, _, _, _, _, unhide H1⟩
  | ok r1 =>
    obtain ⟨t, a1⟩ := r1
    rw [h1] at C1
    have ht := hsz20 t a1 h1
    dsimp only
    clear h1 hsz20
    have b2 := bl_not (lastN m).toList t.toList
    cases hN : nameB t with
    | false =>
      rw [if_pos (by simp)]
      go_enter Try.func41, Try.ntmps41
      go_wp2_with fail
      refine (unhide C1).mono ?_
      rintro e1 u1 ⟨rfl, R1⟩
      have H1 := hide R1
      have fz := frozen_of_row u1 gr 2 _ _ R1.box
      obtain ⟨d0, d1, d2, d3, d4, d5⟩ := row_cells6 R1.box
      have CN := hide (isName_any t u1 ht)
      rw [hN] at CN
      clear R1 C1 c0 c1 c2 c3 c4 c5 b2 hN
      go_wp2_with fail
      refine (unhide CN).mono ?_
      rintro e2 u2 ⟨rfl, rfl⟩
      go_wp2_with fail
      go_ret
      exact ⟨rfl, _, _, _, _, _, (unhide H1).setAt _⟩
    | true =>
      cases hL : Op.bytesLess (lastN m).toList t.toList with
      | false =>
        rw [hL] at b2
        have b3 : (Op.bytesLess t.toList (lastN m).toList || t.toList == (lastN m).toList) = true := by cases h : (Op.bytesLess t.toList (lastN m).toList || t.toList == (lastN m).toList) with | true => rfl | false => rw [h] at b2; cases b2
        rw [if_pos (by simp)]
        obtain ⟨lN, hlN⟩ : ∃ lN, lastN m = lN := ⟨_, rfl⟩
        rw [hlN] at b3
        have HlN := hide hlN
        have HN' := hide hN
        clear b2 hlN hN hL
        go_enter Try.func41, Try.ntmps41
        go_wp2_with fail
        refine (unhide C1).mono ?_
        rintro e1 u1 ⟨rfl, R1⟩
        have H1 := hide R1
        have CN := hide (isName_any t u1 ht)
        rw [unhide HN'] at CN
        have CL := hide (last_any w0 I gr vb _ _ C F X m V u1 R1 hl)
        rw [unhide HlN] at CL
        clear R1 C1 c0 c1 c2 c3 c4 c5
        go_wp2_with fail
        refine (unhide CN).mono ?_
        rintro e2 u2 ⟨rfl, rfl⟩
        go_wp2_with fail
        refine (unhide CL).mono ?_
        rintro e3 u3 ⟨rfl, q3, hq3⟩
        have R3 : RdM w0 I u3 gr vb (.slice bo e bc) a1 C F X m V := by rw [hq3]; exact (unhide H1).drew q3
        have H3 := hide R3
        have fz := frozen_of_row u3 gr 2 _ _ R3.box
        obtain ⟨d0, d1, d2, d3, d4, d5⟩ := row_cells6 R3.box
        clear hq3 R3 CL CN H1
        go_wp2_with fail
        go_ret
        exact ⟨rfl, _, _, _, _, _, (unhide H3).setAt _⟩
      | true =>
        rw [hL] at b2
        have b3 : (Op.bytesLess t.toList (lastN m).toList || t.toList == (lastN m).toList) = false := by cases h : (Op.bytesLess t.toList (lastN m).toList || t.toList == (lastN m).toList) with | false => rfl | true => rw [h] at b2; cases b2
        rw [if_neg (by simp)]
        obtain ⟨lN, hlN⟩ : ∃ lN, lastN m = lN := ⟨_, rfl⟩
        rw [hlN] at b3
        have HlN := hide hlN
        have HN' := hide hN
        clear b2 hlN hN hL
        obtain ⟨nF, hnF⟩ : ∃ nF, m.fs.length = nF := ⟨_, rfl⟩
        rw [hnF] at hlf ⊢
        have HNF := hide hnF
        have ww : IntKind.i64.wrap ((nF : Int) - 1) = (nF : Int) - 1 := by rw [IntKind.wrap_i64]; omega
        clear hnF
        cases h2 : rdNo bs a1 ((nF : Int) - 1) 90 with
        | error c =>
          have k1 : ¬ c = 0 := by have := no_code h2; omega
          dsimp only
          go_enter Try.func41, Try.ntmps41
          go_wp2_with fail
          refine (unhide C1).mono ?_
          rintro e1 u1 ⟨rfl, R1⟩
          have H1 := hide R1
          have CN := hide (isName_any t u1 ht)
          rw [unhide HN'] at CN
          have CL := hide (last_any w0 I gr vb _ _ C F X m V u1 R1 hl)
          rw [unhide HlN] at CL
          clear R1 C1 c0 c1 c2 c3 c4 c5
          go_wp2_with fail
          refine (unhide CN).mono ?_
          rintro e2 u2 ⟨rfl, rfl⟩
          go_wp2_with fail
          refine (unhide CL).mono ?_
          rintro e3 u3 ⟨rfl, q3, hq3⟩
          have R3 : RdM w0 I u3 gr vb (.slice bo e bc) a1 C F X m V := by rw [hq3]; exact (unhide H1).drew q3
          have C2 := hide (number_any w0 I gr vb bo e bc a1 C F X m V bs ((nF : Int) - 1) 90 u3 R3 (unhide HY) hg hm (by omega))
          rw [h2] at C2
          obtain ⟨aF, cF, hF, _⟩ := slice_form R3.ownF
          rw [unhide HNF] at hF
          obtain ⟨d0, d1, d2, d3, d4, d5⟩ := row_cells6 R3.box
          rw [hF] at d4
          clear hq3 R3 CL CN H1 hF
          go_wp2_with fail
          refine (unhide C2).mono ?_
          rintro e4 u4 ⟨rfl, R4⟩
          have H4 := hide R4
          clear R4 C2 d0 d1 d2 d3 d4 d5
          go_wp2_with fail
          go_ret
          exact ⟨rfl, _, _, _, _, _, unhide H4⟩
        | ok r2 =>
          obtain ⟨f, a2⟩ := r2
          dsimp only
          go_enter Try.func41, Try.ntmps41
          go_wp2_with fail
          refine (unhide C1).mono ?_
          rintro e1 u1 ⟨rfl, R1⟩
          have H1 := hide R1
          have CN := hide (isName_any t u1 ht)
          rw [unhide HN'] at CN
          have CL := hide (last_any w0 I gr vb _ _ C F X m V u1 R1 hl)
          rw [unhide HlN] at CL
          clear R1 C1 c0 c1 c2 c3 c4 c5
          go_wp2_with fail
          refine (unhide CN).mono ?_
          rintro e2 u2 ⟨rfl, rfl⟩
          go_wp2_with fail
          refine (unhide CL).mono ?_
          rintro e3 u3 ⟨rfl, q3, hq3⟩
          have R3 : RdM w0 I u3 gr vb (.slice bo e bc) a1 C F X m V := by rw [hq3]; exact (unhide H1).drew q3
          have C2 := hide (number_any w0 I gr vb bo e bc a1 C F X m V bs ((nF : Int) - 1) 90 u3 R3 (unhide HY) hg hm (by omega))
          rw [h2] at C2
          obtain ⟨aF, cF, hF, _⟩ := slice_form R3.ownF
          rw [unhide HNF] at hF
          obtain ⟨d0, d1, d2, d3, d4, d5⟩ := row_cells6 R3.box
          rw [hF] at d4
          clear hq3 R3 CL CN H1 hF
          go_wp2_with fail
          refine (unhide C2).mono ?_
          rintro e4 u4 ⟨rfl, R4⟩
          have H4 := hide R4
          clear C2 d0 d1 d2 d3 d4 d5
          obtain ⟨c0, c1, c2, c3, c4, c5⟩ := row_cells6 R4.box
          obtain ⟨i0, hi, hz0, hz1, hz2⟩ := info_parts infoEx
          obtain ⟨nX, hnX⟩ : ∃ nX, m.xs.length = nX := ⟨_, rfl⟩
          have hOw : u4.ownsRow (gr + 1) 55 2 X nX (m.xs.flatMap exV) := by rw [← hnX]; exact R4.ownX
          have HOw := hide hOw
          have hbs : gr + 1 ≤ u4.heap.size := R4.lt
          have hn100 : nX ≤ 100 := by omega
          have HNX := hide hnX
          have fz : ∀ F' w5, Hid (w5.ownsRow (gr + 1) 55 2 F' (nX + 1) (m.xs.flatMap exV ++ exV (t, f)) ∧ Grew u4 w5 X F') → w5.frozen? ⟨gr, 5, none⟩ = false ∧ w5.cell? ⟨gr, 5, none⟩ = some X := fun F' w5 H5 => by
            have hb := ((unhide H5).2.far (unhide H4).lt (fun e => by have := ((unhide HOw).lt gr e.symm).1; omega)).trans (unhide H4).box
            exact ⟨frozen_of_row w5 gr 5 _ _ hb, (row_cells6 hb).2.2.2.2.2⟩
          have HFZ := hide fz
          clear R4 hOw hnX fz
          go_wp2_with (first | (at_builtin; refine wpl_oneM rfl (.tmp 52) (.tmp 56) 26 55 i0 _ 2 24 Try.underlying26 hi hz0 hz1 hz2 rfl (by omega) rfl (gr + 1) nX X (m.xs.flatMap exV) (exV (t, f)) rfl (by simp [exV, Value.oneCell']) rfl (unhide HOw) rfl (by unfold maxLen; omega) (by omega) hbs ?_; intro F5 w5 o5; obtain ⟨z1, z2⟩ := unhide HFZ F5 w5 o5; obtain ⟨a5, p5, h5, _⟩ := slice_form (unhide o5).1; subst h5))
          go_ret
          have H9 := (unhide H4).pushX (x := (t, f)) (by rw [unhide HNX]; exact (unhide o5).1) (unhide o5).2
          exact ⟨rfl, _, _, _, _, H9⟩
end Go.Proofs.Ytfdnhpmldnmncaa

namespace Go.Proofs.Ytfdnhpmldnmncaa
open Go.RowKit

theorem take_codeM {zs : List Int} {p : Int} {e : Int × Int} (h : takeR zs p = .error e) : e.1 = 41 ∨ e.1 = 42 := by
  unfold takeR at h
  split at h
  · cases h; exact Or.inl rfl
  · cases hv : rdV zs 8 p.toNat 0 with
    | error q => rw [hv] at h; cases h; exact code_pos 8 _ _ _ hv
    | ok q => rw [hv] at h; cases h

/-- what wire's Take leaves: a value of five cells, and of it what Y says -/
def TkR (Y : World → Nat → Value → Prop) (nx c : Int) (u : World) (e : Ending) (w' : World) : Prop := ∃ (x0 x1 : Int) (x2 : ByteArray) (al ak : Option Addr) (ll cl mm ck : Nat), e = .returned (.tuple #[.agg #[.int .i64 x0, .int .i64 x1, .string x2, .slice al ll cl, .slice ak mm ck], .int .i64 nx, .int .i64 c]) ∧ Y w' u.heap.size (.agg #[.int .i64 x0, .int .i64 x1, .string x2, .slice al ll cl, .slice ak mm ck]) ∧ Below u.heap.size u w'

/-- what is said of a value, kept by what leaves all blocks from B on but one -/
def KeepY (Y : World → Nat → Value → Prop) : Prop := ∀ w w' B B' g x, Y w B x → B' ≤ B → (g < B ∨ w.heap.size ≤ g) → w.heap.size ≤ w'.heap.size → (∀ b, b < w.heap.size → b ≠ g → w'.heap[b]? = w.heap[b]?) → Y w' B' x

/-- behind the region: a box with the value -/
structure RcS (Y : World → Nat → Value → Prop) (w wx : World) (gb : Nat) (x0 x1 x2 x3 x4 : Value) : Prop where
  row : wx.heap[gb]? = some (.cells #[x0, x1, x2, x3, x4] 51 (0, 0))
  low : w.heap.size ≤ gb
  below : Below w.heap.size w wx
  said : Y wx w.heap.size (.agg #[x0, x1, x2, x3, x4])

section
variable {P : Program} {ops : Array Oper} {Q : Exit → Act → World → Prop} {md : Region.Mode} {S : World → Prop} {z : Nat}
/-- number z, or another one -/
theorem tilt_two {f : Nat} {listed : Array Bool} {a : Act} {w : World} (i : Nat) {oi oz : Oper} (hiz : i ≠ z) (hr : Region.ready md ops listed = [i, z]) (hi : ops[i]? = some oi) (hz : ops[z]? = some oz)
    (h1 : ∀ K' : Act → World → Prop, Shut (∀ a w, S w → Tilt P md ops Q S z f (listed.setIfInBounds i true) a w → K' a w) → if Region.wanted oi (yielded ops a.tmps) = true then Oper.wp P oi a w K' Q else K' (a.put oi.dst undef) w)
    (h2 : ∀ K' : Act → World → Prop, Shut (∀ a w, wpAny P md ops Q f (listed.setIfInBounds z true) a w → K' a w) → if Region.wanted oz (yielded ops a.tmps) = true then Oper.wp P oz a w K' Q else K' (a.put oz.dst undef) w) :
    Tilt P md ops Q S z (f + 1) listed a w := by
  refine ⟨fun e => (by rw [e] at hr; cases hr), fun j hj => ?_⟩
  rw [hr, List.mem_cons, List.mem_singleton] at hj
  rcases hj with e | e
  · rw [e]
    exact wpOp_step hi (fun K' hK => h1 K' (fun a w hS hT => hK a w (Or.inr ⟨hiz, hS, hT⟩)))
  · rw [e]
    exact wpOp_step hz (fun K' hK => h2 K' (fun a w hT => hK a w (Or.inl ⟨rfl, hT⟩)))
end

theorem own_setN {w : World} {base : Nat} {e : TypeId} {size b n cap j : Nat} {xs : List Value} (h : w.ownsRow base e size (.slice (some ⟨b, 0, none⟩) n cap) n xs) (v : Value) : (w.setCell ⟨b, j, none⟩ v).ownsRow base e size (.slice (some ⟨b, 0, none⟩) n cap) n (xs.set j v) := by
  rcases h.2 with ⟨e1, _⟩ | ⟨g, cap', cur, e1, hbs, hg, h1, h2, h3, h4⟩
  · cases e1
  · cases e1
    refine ⟨by rw [List.length_set]; exact h.1, .inr ⟨b, cap, _, rfl, hbs, heap_setCell_same w b j _ e v hg, h1, h2, by simpa using h3, ?_⟩⟩
    rw [Array.toList_setIfInBounds, List.take_set, h4]

/-- five cells in a row's midst -/
def five5 (w : World) (g o : Nat) (x0 x1 x2 x3 x4 : Value) : World := ((((w.setCell ⟨g, o, none⟩ x0).setCell ⟨g, o + 1, none⟩ x1).setCell ⟨g, o + 2, none⟩ x2).setCell ⟨g, o + 3, none⟩ x3).setCell ⟨g, o + 4, none⟩ x4

theorem set5 {α : Type} (l : List α) (z0 z1 z2 z3 z4 x0 x1 x2 x3 x4 : α) : (((((l ++ [z0, z1, z2, z3, z4]).set l.length x0).set (l.length + 1) x1).set (l.length + 2) x2).set (l.length + 3) x3).set (l.length + 4) x4 = l ++ [x0, x1, x2, x3, x4] := by
  rw [List.set_append_right _ _ (Nat.le_refl _), List.set_append_right _ _ (by omega), List.set_append_right _ _ (by omega), List.set_append_right _ _ (by omega), List.set_append_right _ _ (by omega)]
  simp

theorem own_five {w : World} {base : Nat} {e : TypeId} {g n cap : Nat} {l : List Value} {z0 z1 z2 z3 z4 : Value} (hl : l.length = n * 5) (h : w.ownsRow base e 5 (.slice (some ⟨g, 0, none⟩) (n + 1) cap) (n + 1) (l ++ [z0, z1, z2, z3, z4])) (x0 x1 x2 x3 x4 : Value) :
    (five5 w g (n * 5) x0 x1 x2 x3 x4).ownsRow base e 5 (.slice (some ⟨g, 0, none⟩) (n + 1) cap) (n + 1) (l ++ [x0, x1, x2, x3, x4]) := by
  have := own_setN (own_setN (own_setN (own_setN (own_setN (j := n * 5) h x0) (j := n * 5 + 1) x1) (j := n * 5 + 2) x2) (j := n * 5 + 3) x3) (j := n * 5 + 4) x4
  rw [← hl, set5] at this
  rw [← hl]
  exact this

theorem five5_other (w : World) (g o q : Nat) (x0 x1 x2 x3 x4 : Value) (h : q ≠ g) : (five5 w g o x0 x1 x2 x3 x4).heap[q]? = w.heap[q]? := by
  unfold five5
  rw [heap_setCell_other _ _ _ _ h, heap_setCell_other _ _ _ _ h, heap_setCell_other _ _ _ _ h, heap_setCell_other _ _ _ _ h, heap_setCell_other _ _ _ _ h]
theorem five5_size (w : World) (g o : Nat) (x0 x1 x2 x3 x4 : Value) : (five5 w g o x0 x1 x2 x3 x4).heap.size = w.heap.size := by simp [five5]
theorem five5_below {B g o : Nat} {a w : World} (h : Below B a w) (hg : B ≤ g) (x0 x1 x2 x3 x4 : Value) : Below B a (five5 w g o x0 x1 x2 x3 x4) :=
  ((((h.setCell (p := ⟨g, o, none⟩) hg x0).setCell (p := ⟨g, o + 1, none⟩) hg x1).setCell (p := ⟨g, o + 2, none⟩) hg x2).setCell (p := ⟨g, o + 3, none⟩) hg x3).setCell (p := ⟨g, o + 4, none⟩) hg x4

theorem own_sl {g b n c : Nat} (h : (Value.slice (some ⟨g, 0, none⟩) n c).ownBlock = some b) : g = b := by simpa [Value.ownBlock] using h

/-- one constant more in the module -/
theorem RdM.pushC {w0 w w7 w9 : World} {I : Nat → Obj → Prop} {gr g7 cap7 lo n : Nat} {vb vy : Value} {a : Int} {C F X : Value} {m : Md} {V : Nat → List Value} {y : Vl} {cs : List Value} (h : RdM w0 I w gr vb vy a C F X m V) (hn : m.cs.length = n)
    (hF7 : ∀ b, b < w.heap.size → some b ≠ C.ownBlock → w7.heap[b]? = w.heap[b]?) (hs7 : w.heap.size ≤ w7.heap.size) (hB7 : Below gr w w7) (hat : C.ownBlock = some g7 ∨ w.heap.size ≤ g7)
    (hown : w9.ownsRow (gr + 1) 51 5 (.slice (some ⟨g7, 0, none⟩) (n + 1) cap7) (n + 1) (flat V n ++ cs)) (hbox : w9.heap[gr]? = some (.cells #[vb, vy, .int .i64 a, .slice (some ⟨g7, 0, none⟩) (n + 1) cap7, F, X] 40 (0, 0)))
    (hoth : ∀ b, b ≠ gr → b ≠ g7 → w9.heap[b]? = w7.heap[b]?) (hs9 : w9.heap.size = w7.heap.size) (hB9 : Below gr w7 w9) (hcs : cs.length = 5) (hx : IsP w (fun b => lo ≤ b ∧ b < w.heap.size) y (.agg cs.toArray))
    (hlC : ∀ b, C.ownBlock = some b → b < lo) (hlF : ∀ b, F.ownBlock = some b → b < lo) (hlX : ∀ b, X.ownBlock = some b → b < lo) (hlg : gr < lo) :
    RdM w0 I w9 gr vb vy a (.slice (some ⟨g7, 0, none⟩) (n + 1) cap7) F X ⟨m.cs ++ [y], m.fs, m.xs⟩ (setV V n cs) := by
  have hC := h.ownC.lt
  have keep : ∀ b, b < w.heap.size → b ≠ gr → some b ≠ C.ownBlock → w9.heap[b]? = w.heap[b]? := fun b hb hng hnc => by
    rw [hoth b hng (fun e => ?_), hF7 b hb hnc]
    rcases hat with hat | hat
    · exact hnc (by rw [hat, e])
    · omega
  have ne7 : ∀ b, b < w.heap.size → some b ≠ C.ownBlock → b ≠ g7 := fun b hb hnc e => by
    rcases hat with hat | hat
    · exact hnc (by rw [hat, e])
    · omega
  refine ⟨hbox, h.old.trans (hB7.trans hB9), ?_, ?_, ?_, ?_, ?_, ?_⟩
  · rw [List.length_append, List.length_singleton, hn, flat_set]
    exact hown
  · exact own_later h.ownF (fun b hl hv => keep b hl (by have := (h.ownF.lt b hv).1; omega) (own_apartM h.ownF h.ownC (by decide) b hv))
  · exact own_later h.ownX (fun b hl hv => keep b hl (by have := (h.ownX.lt b hv).1; omega) (own_apartM h.ownX h.ownC (by decide) b hv))
  · intro c hc
    rw [List.length_append, List.length_singleton, hn] at hc
    by_cases e : c = n
    · subst e; rw [setV_same]; exact hcs
    · rw [setV_other V n cs (by omega)]; exact h.row c (by omega)
  · intro c z hz
    have hown7 : ∀ b, some b ≠ (Value.slice (some ⟨g7, 0, none⟩) (n + 1) cap7).ownBlock ↔ b ≠ g7 := fun b => by simp [Value.ownBlock]
    by_cases e : c = n
    · subst e
      rw [setV_same]
      rw [List.getElem?_append_right (by omega), hn, Nat.sub_self] at hz
      have hzy : y = z := by simpa using hz
      subst hzy
      refine hx.to (fun b hP => keep b hP.2 (by omega) (fun e => by have := hlC b e.symm; omega)) (fun b hP => ⟨by omega, by omega, (hown7 b).2 (ne7 b hP.2 (fun e => by have := hlC b e.symm; omega)), fun e => by have := hlF b e.symm; omega, fun e => by have := hlX b e.symm; omega⟩)
    · have hc : c < n := by
        have := (List.getElem?_eq_some_iff.1 hz).1
        rw [List.length_append, List.length_singleton, hn] at this
        omega
      rw [setV_other V n cs hc]
      rw [List.getElem?_append_left (by omega)] at hz
      refine (h.el c z hz).to (fun b hP => keep b hP.2.1 (by have := hP.1; omega) hP.2.2.1) (fun b hP => ⟨hP.1, by have := hP.2.1; omega, (hown7 b).2 (ne7 b hP.2.1 hP.2.2.1), hP.2.2.2.1, hP.2.2.2.2⟩)
  · intro b c hI
    obtain ⟨i1, i2, i3, i4, i5⟩ := h.side b c hI
    have hbl := (Array.getElem?_eq_some_iff.1 i1).1
    refine ⟨(keep b hbl i2 i3).trans i1, i2, fun e => ?_, i4, i5⟩
    exact ne7 b hbl i3 (own_sl e.symm).symm

/-- behind the region, the reader's place set -/
structure RcT (Y : World → Nat → Value → Prop) (w wx : World) (gb : Nat) (x0 x1 x2 x3 x4 : Value) : Prop where
  row : wx.heap[gb]? = some (.cells #[x0, x1, x2, x3, x4] 51 (0, 0))
  low : w.heap.size ≤ gb
  size : w.heap.size ≤ wx.heap.size
  said : Y wx w.heap.size (.agg #[x0, x1, x2, x3, x4])

theorem RcS.setAt {Y : World → Nat → Value → Prop} {w wx : World} {gb gr : Nat} {x0 x1 x2 x3 x4 : Value} (h : RcS Y w wx gb x0 x1 x2 x3 x4) (hY : KeepY Y) (hg : gr < w.heap.size) (v : Value) : RcT Y w (wx.setCell ⟨gr, 2, none⟩ v) gb x0 x1 x2 x3 x4 :=
  ⟨(heap_setCell_other _ _ _ _ (by have := h.low; simp; omega)).trans h.row, h.low, by simpa using h.below.size, hY _ _ _ _ gr _ h.said (Nat.le_refl _) (Or.inl hg) (by simp) (fun b _ hn => heap_setCell_other _ _ _ _ hn)⟩

theorem five_size (w : World) (g : Nat) (x0 x1 x2 x3 x4 : Value) : (((((w.setCell ⟨g, 0, none⟩ x0).setCell ⟨g, 1, none⟩ x1).setCell ⟨g, 2, none⟩ x2).setCell ⟨g, 3, none⟩ x3).setCell ⟨g, 4, none⟩ x4).heap.size = w.heap.size := by simp

theorem RcS.of {Y : World → Nat → Value → Prop} (hY : KeepY Y) {w wb : World} {gb B : Nat} {x0 x1 x2 x3 x4 : Value} {z0 z1 z2 z3 z4 : Value} (hz : wb.heap[gb]? = some (.cells #[z0, z1, z2, z3, z4] 51 (0, 0))) (hlow : w.heap.size ≤ gb) (hb : Below w.heap.size w wb) (hBw : w.heap.size ≤ B) {wy : World} (hy : Y wy B (.agg #[x0, x1, x2, x3, x4])) (hg : gb < B ∨ wy.heap.size ≤ gb) (hs : wy.heap.size ≤ wb.heap.size) (hk : ∀ b, b < wy.heap.size → b ≠ gb → wb.heap[b]? = wy.heap[b]?) :
    RcS Y w (((((wb.setCell ⟨gb, 0, none⟩ x0).setCell ⟨gb, 1, none⟩ x1).setCell ⟨gb, 2, none⟩ x2).setCell ⟨gb, 3, none⟩ x3).setCell ⟨gb, 4, none⟩ x4) gb x0 x1 x2 x3 x4 :=
  ⟨five_set wb gb _ _ _ _ _ _ x0 x1 x2 x3 x4 hz, hlow, five_below hb hlow x0 x1 x2 x3 x4, hY _ _ _ _ gb _ hy hBw hg (by rw [five_size]; exact hs) (fun b hb' hne => by rw [five_other wb gb b x0 x1 x2 x3 x4 hne]; exact hk b hb' hne)⟩

set_option maxRecDepth 100000 in
set_option maxHeartbeats 2000000 in
theorem readC_bad (w0 : World) (I : Nat → Obj → Prop) (gr : Nat) (vb : Value) (bo : Option Addr) (e bc : Nat) (a : Nat) (C F X : Value) (m : Md) (V : Nat → List Value) (w : World) (h : RdM w0 I w gr vb (.slice bo e bc) a C F X m V) (Y : World → Nat → Value → Prop) (hY : KeepY Y) (nx c : Int) (hc : c = 41 ∨ c = 42)
    (CT0 : ∀ u, Below w.heap.size w u → Calls Try.prog 54 #[.slice bo e bc, .int .i64 (a : Int)] u fun e w' => TkR Y nx c u e w') :
    Calls Try.prog 35 #[.pointer (some ⟨gr, 0, none⟩)] w fun e' w' => e' = .returned (.int .i64 (if c = 42 then 92 else 91)) ∧ RdM w0 I w' gr vb (.slice bo e bc) nx C F X m V := by
  have CT := hide CT0
  obtain ⟨c0, c1, c2, c3, c4, c5⟩ := row_cells6 h.box
  have S1 : Hid (∀ u, Below w.heap.size w u → u.cell? ⟨gr, 1, none⟩ = some (.slice bo e bc) ∧ u.cell? ⟨gr, 2, none⟩ = some (.int .i64 (a : Int))) := hide (fun u hu => ⟨cell_later hu c1, cell_later hu c2⟩)
  have HH := hide h
  have HKY := hide hY
  have HGW : Hid (gr < w.heap.size) := hide h.lt
  clear h CT0 hY
  go_enter Try.func35, Try.ntmps35
  go_upto_region 1 with fail
  clear c0 c1 c2 c3 c4 c5
  go_cut [3, 4, 5] from 7 to 19 (fun y3 y4 y5 wx => ∃ (gb : Nat) (x0 x1 : Int) (x2 : ByteArray) (al ak : Option Addr) (ll cl mm ck : Nat), y3 = .pointer (some ⟨gb, 0, none⟩) ∧ y4 = .int .i64 nx ∧ y5 = .int .i64 c ∧ Hid (RcS Y w wx gb (.int .i64 x0) (.int .i64 x1) (.string x2) (.slice al ll cl) (.slice ak mm ck)))
  case first =>
    refine till_begin (S := fun u => u.cell? ⟨gr, 1, none⟩ = some (.slice bo e bc) ∧ u.cell? ⟨gr, 2, none⟩ = some (.int .i64 (a : Int))) 16 (by kernel_rfl) ?_
    obtain ⟨w2, hw2⟩ : ∃ w2, w.drew = w2 := ⟨_, rfl⟩
    have HB2 : Hid (Below w.heap.size w w2) := hide (by rw [← hw2]; exact (Below.refl _ _).drew)
    rw [hw2]
    clear hw2
    refine till_take 0 (v := .pointer (some ⟨gr, 0, none⟩)) (some 7) rfl rfl rfl (by kernel_rfl) (by kernel_rfl) (by kernel_rfl) (by kernel_rfl) (fun _ _ _ h => h) (Or.inl ⟨by rfl, fun u hu => by obtain ⟨c1, c2⟩ := hu; go_simp⟩) (unhide S1 _ (unhide HB2)) ?_
    try simp only [Act.put, List.setIfInBounds_toArray, List.set_cons_zero, List.set_cons_succ]
    refine till_take 1 (v := .pointer (some ⟨gr, 0, none⟩)) (some 8) rfl rfl rfl (by kernel_rfl) (by kernel_rfl) (by kernel_rfl) (by kernel_rfl) (fun _ _ _ h => h) (Or.inl ⟨by rfl, fun u hu => by obtain ⟨c1, c2⟩ := hu; go_simp⟩) (unhide S1 _ (unhide HB2)) ?_
    try simp only [Act.put, List.setIfInBounds_toArray, List.set_cons_zero, List.set_cons_succ]
    refine till_take 2 (v := .pointer (some ⟨gr, 1, none⟩)) (some 9) rfl rfl rfl (by kernel_rfl) (by kernel_rfl) (by kernel_rfl) (by kernel_rfl) (fun _ _ _ h => h) (Or.inl ⟨by rfl, fun u hu => by obtain ⟨c1, c2⟩ := hu; go_simp⟩) (unhide S1 _ (unhide HB2)) ?_
    try simp only [Act.put, List.setIfInBounds_toArray, List.set_cons_zero, List.set_cons_succ]
    refine till_take 3 (v := .slice bo e bc) (some 10) rfl rfl rfl (by kernel_rfl) (by kernel_rfl) (by kernel_rfl) (by kernel_rfl) (fun _ _ _ h => h) (Or.inl ⟨by rfl, fun u hu => by obtain ⟨c1, c2⟩ := hu; go_simp⟩) (unhide S1 _ (unhide HB2)) ?_
    try simp only [Act.put, List.setIfInBounds_toArray, List.set_cons_zero, List.set_cons_succ]
    refine till_take 4 (v := .pointer (some ⟨gr, 0, none⟩)) (some 11) rfl rfl rfl (by kernel_rfl) (by kernel_rfl) (by kernel_rfl) (by kernel_rfl) (fun _ _ _ h => h) (Or.inl ⟨by rfl, fun u hu => by obtain ⟨c1, c2⟩ := hu; go_simp⟩) (unhide S1 _ (unhide HB2)) ?_
    try simp only [Act.put, List.setIfInBounds_toArray, List.set_cons_zero, List.set_cons_succ]
    refine till_take 5 (v := .pointer (some ⟨gr, 0, none⟩)) (some 12) rfl rfl rfl (by kernel_rfl) (by kernel_rfl) (by kernel_rfl) (by kernel_rfl) (fun _ _ _ h => h) (Or.inl ⟨by rfl, fun u hu => by obtain ⟨c1, c2⟩ := hu; go_simp⟩) (unhide S1 _ (unhide HB2)) ?_
    try simp only [Act.put, List.setIfInBounds_toArray, List.set_cons_zero, List.set_cons_succ]
    refine till_take 6 (v := .pointer (some ⟨gr, 2, none⟩)) (some 13) rfl rfl rfl (by kernel_rfl) (by kernel_rfl) (by kernel_rfl) (by kernel_rfl) (fun _ _ _ h => h) (Or.inl ⟨by rfl, fun u hu => by obtain ⟨c1, c2⟩ := hu; go_simp⟩) (unhide S1 _ (unhide HB2)) ?_
    try simp only [Act.put, List.setIfInBounds_toArray, List.set_cons_zero, List.set_cons_succ]
    refine till_take 7 (v := .int .i64 (a : Int)) (some 14) rfl rfl rfl (by kernel_rfl) (by kernel_rfl) (by kernel_rfl) (by kernel_rfl) (fun _ _ _ h => h) (Or.inl ⟨by rfl, fun u hu => by obtain ⟨c1, c2⟩ := hu; go_simp⟩) (unhide S1 _ (unhide HB2)) ?_
    try simp only [Act.put, List.setIfInBounds_toArray, List.set_cons_zero, List.set_cons_succ]
    refine till_two 8 13 (by kernel_rfl) rfl rfl (fun K hK => ?_) (fun K hK => ?_)
    · go_simp
      refine (unhide CT w2 (unhide HB2)).mono ?_
      rintro e5 u ⟨x0, x1, x2, al, ak, ll, cl, mm, ck, rfl, y5, b5⟩
      have HB5 : Hid (Below w.heap.size w u) := hide ((unhide HB2).trans (b5.mono (unhide HB2).size))
      have HY5 := hide y5
      have HZ5 : Hid (w.heap.size ≤ w2.heap.size) := hide (unhide HB2).size
      clear y5 b5
      go_wp2_with fail
      refine hK.out _ _ (Or.inr (unhide S1 _ (unhide HB5))) ?_
      clear hK K
      try simp only [Act.put, List.setIfInBounds_toArray, List.set_cons_zero, List.set_cons_succ]
      refine till_take 9 (v := .tuple #[.agg #[.int .i64 x0, .int .i64 x1, .string x2, .slice al ll cl, .slice ak mm ck], .int .i64 nx, .int .i64 c]) (some 6) rfl rfl rfl (by kernel_rfl) (by kernel_rfl) (by kernel_rfl) (by kernel_rfl) (fun _ _ _ h => h) (Or.inl ⟨by rfl, fun u hu => by obtain ⟨c1, c2⟩ := hu; go_simp⟩) (unhide S1 _ (unhide HB5)) ?_
      try simp only [Act.put, List.setIfInBounds_toArray, List.set_cons_zero, List.set_cons_succ]
      refine till_take 10 (v := .agg #[.int .i64 x0, .int .i64 x1, .string x2, .slice al ll cl, .slice ak mm ck]) (some 16) rfl rfl rfl (by kernel_rfl) (by kernel_rfl) (by kernel_rfl) (by kernel_rfl) (fun _ _ _ h => h) (Or.inl ⟨by rfl, fun u hu => by obtain ⟨c1, c2⟩ := hu; go_simp⟩) (unhide S1 _ (unhide HB5)) ?_
      try simp only [Act.put, List.setIfInBounds_toArray, List.set_cons_zero, List.set_cons_succ]
      refine till_take 11 (v := .int .i64 nx) (some 17) rfl rfl rfl (by kernel_rfl) (by kernel_rfl) (by kernel_rfl) (by kernel_rfl) (fun _ _ _ h => h) (Or.inl ⟨by rfl, fun u hu => by obtain ⟨c1, c2⟩ := hu; go_simp⟩) (unhide S1 _ (unhide HB5)) ?_
      try simp only [Act.put, List.setIfInBounds_toArray, List.set_cons_zero, List.set_cons_succ]
      refine till_take 12 (v := .int .i64 c) (some 18) rfl rfl rfl (by kernel_rfl) (by kernel_rfl) (by kernel_rfl) (by kernel_rfl) (fun _ _ _ h => h) (Or.inl ⟨by rfl, fun u hu => by obtain ⟨c1, c2⟩ := hu; go_simp⟩) (unhide S1 _ (unhide HB5)) ?_
      try simp only [Act.put, List.setIfInBounds_toArray, List.set_cons_zero, List.set_cons_succ]
      refine till_one 13 (by kernel_rfl) rfl (fun K hK => ?_)
      go_simp
      obtain ⟨gb, hgb⟩ : ∃ gb, u.heap.size = gb := ⟨_, rfl⟩
      obtain ⟨wb, hwb⟩ : ∃ wb, u.alloc (.cells #[.int .i64 0, .int .i64 0, .string ⟨#[]⟩, .slice none 0 0, .slice none 0 0] 51) = wb := ⟨_, rfl⟩
      have HX : Hid (wb.heap[gb]? = some (.cells #[.int .i64 0, .int .i64 0, .string ⟨#[]⟩, .slice none 0 0, .slice none 0 0] 51 (0, 0)) ∧ w.heap.size ≤ gb ∧ Below w.heap.size w wb ∧ u.heap.size ≤ gb ∧ Below u.heap.size u wb) := hide (by
        have q : Below u.heap.size u wb := by rw [← hwb]; exact (Below.refl _ _).alloc (Nat.le_refl _) _
        refine ⟨by rw [← hwb, ← hgb]; exact heap_alloc_new u _, by rw [← hgb]; exact (unhide HB5).size, (unhide HB5).trans (q.mono (unhide HB5).size), by omega, q⟩)
      rw [hgb, hwb]
      refine hK.out _ _ (Or.inr (unhide S1 _ (unhide HX).2.2.1)) ?_
      clear hK K hwb hgb
      try simp only [Act.put, List.setIfInBounds_toArray, List.set_cons_zero, List.set_cons_succ]
      refine till_one 14 (by kernel_rfl) rfl (fun K hK => ?_)
      obtain ⟨d0, d1, d2, d3, d4⟩ := row_cell (unhide HX).1
      have f0 : wb.frozen? ⟨gb, 0, none⟩ = false := frozen_of_row wb gb 0 _ _ (unhide HX).1
      have f1 : wb.frozen? ⟨gb, 1, none⟩ = false := frozen_of_row wb gb 1 _ _ (unhide HX).1
      have f2 : wb.frozen? ⟨gb, 2, none⟩ = false := frozen_of_row wb gb 2 _ _ (unhide HX).1
      have f3 : wb.frozen? ⟨gb, 3, none⟩ = false := frozen_of_row wb gb 3 _ _ (unhide HX).1
      have f4 : wb.frozen? ⟨gb, 4, none⟩ = false := frozen_of_row wb gb 4 _ _ (unhide HX).1
      go_simp
      have H9 := hide (RcS.of (unhide HKY) (unhide HX).1 (unhide HX).2.1 (unhide HX).2.2.1 (unhide HZ5) (unhide HY5) (Or.inr (unhide HX).2.2.2.1) (unhide HX).2.2.2.2.size (fun b hb _ => (unhide HX).2.2.2.2.block b hb))
      obtain ⟨w9, hw9⟩ : ∃ w9, (((((wb.setCell ⟨gb, 0, none⟩ (.int .i64 x0)).setCell ⟨gb, 1, none⟩ (.int .i64 x1)).setCell ⟨gb, 2, none⟩ (.string x2)).setCell ⟨gb, 3, none⟩ (.slice al ll cl)).setCell ⟨gb, 4, none⟩ (.slice ak mm ck)) = w9 := ⟨_, rfl⟩
      rw [hw9] at H9 ⊢
      clear hw9 d0 d1 d2 d3 d4 f0 f1 f2 f3 f4
      refine hK.out _ _ (Or.inr (unhide S1 _ (unhide H9).below)) ?_
      clear hK K
      try simp only [Act.put, List.setIfInBounds_toArray, List.set_cons_zero, List.set_cons_succ]
      refine till_take 15 (v := .int .i64 nx) (some 4) rfl rfl rfl (by kernel_rfl) (by kernel_rfl) (by kernel_rfl) (by kernel_rfl) (fun _ _ _ h => h) (Or.inl ⟨by rfl, fun u hu => by obtain ⟨c1, c2⟩ := hu; go_simp⟩) (unhide S1 _ (unhide H9).below) ?_
      try simp only [Act.put, List.setIfInBounds_toArray, List.set_cons_zero, List.set_cons_succ]
      refine till_one 16 (by kernel_rfl) rfl (fun K hK => ?_)
      go_simp
      refine hK.out _ _ (Or.inl rfl) ?_
      clear hK K
      try simp only [Act.put, List.setIfInBounds_toArray, List.set_cons_zero, List.set_cons_succ]
      refine till_done (by kernel_rfl) ?_ _
      go_wp2_with fail
      go_meet
      exact ⟨gb, x0, x1, x2, al, ak, ll, cl, mm, ck, rfl, rfl, rfl, H9⟩
    · go_simp
      obtain ⟨gb, hgb⟩ : ∃ gb, w2.heap.size = gb := ⟨_, rfl⟩
      obtain ⟨wa, hwa⟩ : ∃ wa, w2.alloc (.cells #[.int .i64 0, .int .i64 0, .string ⟨#[]⟩, .slice none 0 0, .slice none 0 0] 51) = wa := ⟨_, rfl⟩
      have HA : Hid (wa.heap[gb]? = some (.cells #[.int .i64 0, .int .i64 0, .string ⟨#[]⟩, .slice none 0 0, .slice none 0 0] 51 (0, 0)) ∧ w.heap.size ≤ gb ∧ Below w.heap.size w wa ∧ gb < wa.heap.size) := hide (by
        have q : Below w2.heap.size w2 wa := by rw [← hwa]; exact (Below.refl _ _).alloc (Nat.le_refl _) _
        refine ⟨by rw [← hwa, ← hgb]; exact heap_alloc_new w2 _, by rw [← hgb]; exact (unhide HB2).size, (unhide HB2).trans (q.mono (unhide HB2).size), by rw [← hwa, ← hgb]; simp⟩)
      rw [hgb, hwa]
      refine hK.out _ _ (Or.inr (unhide S1 _ (unhide HA).2.2.1)) ?_
      clear hK K hwa hgb
      try simp only [Act.put, List.setIfInBounds_toArray, List.set_cons_zero, List.set_cons_succ]
      refine till_one 8 (by kernel_rfl) rfl (fun K hK => ?_)
      go_simp
      refine (unhide CT wa (unhide HA).2.2.1).mono ?_
      rintro e5 wb ⟨x0, x1, x2, al, ak, ll, cl, mm, ck, rfl, y5, b5⟩
      have HX : Hid (wb.heap[gb]? = some (.cells #[.int .i64 0, .int .i64 0, .string ⟨#[]⟩, .slice none 0 0, .slice none 0 0] 51 (0, 0)) ∧ w.heap.size ≤ gb ∧ Below w.heap.size w wb ∧ gb < wa.heap.size ∧ w.heap.size ≤ wa.heap.size) := hide ⟨(b5.block gb (unhide HA).2.2.2).trans (unhide HA).1, (unhide HA).2.1, (unhide HA).2.2.1.trans (b5.mono (unhide HA).2.2.1.size), (unhide HA).2.2.2, (unhide HA).2.2.1.size⟩
      have HY5 := hide y5
      clear y5 b5
      go_wp2_with fail
      refine hK.out _ _ (Or.inr (unhide S1 _ (unhide HX).2.2.1)) ?_
      clear hK K
      try simp only [Act.put, List.setIfInBounds_toArray, List.set_cons_zero, List.set_cons_succ]
      refine till_take 9 (v := .tuple #[.agg #[.int .i64 x0, .int .i64 x1, .string x2, .slice al ll cl, .slice ak mm ck], .int .i64 nx, .int .i64 c]) (some 6) rfl rfl rfl (by kernel_rfl) (by kernel_rfl) (by kernel_rfl) (by kernel_rfl) (fun _ _ _ h => h) (Or.inl ⟨by rfl, fun u hu => by obtain ⟨c1, c2⟩ := hu; go_simp⟩) (unhide S1 _ (unhide HX).2.2.1) ?_
      try simp only [Act.put, List.setIfInBounds_toArray, List.set_cons_zero, List.set_cons_succ]
      refine till_take 10 (v := .agg #[.int .i64 x0, .int .i64 x1, .string x2, .slice al ll cl, .slice ak mm ck]) (some 16) rfl rfl rfl (by kernel_rfl) (by kernel_rfl) (by kernel_rfl) (by kernel_rfl) (fun _ _ _ h => h) (Or.inl ⟨by rfl, fun u hu => by obtain ⟨c1, c2⟩ := hu; go_simp⟩) (unhide S1 _ (unhide HX).2.2.1) ?_
      try simp only [Act.put, List.setIfInBounds_toArray, List.set_cons_zero, List.set_cons_succ]
      refine till_take 11 (v := .int .i64 nx) (some 17) rfl rfl rfl (by kernel_rfl) (by kernel_rfl) (by kernel_rfl) (by kernel_rfl) (fun _ _ _ h => h) (Or.inl ⟨by rfl, fun u hu => by obtain ⟨c1, c2⟩ := hu; go_simp⟩) (unhide S1 _ (unhide HX).2.2.1) ?_
      try simp only [Act.put, List.setIfInBounds_toArray, List.set_cons_zero, List.set_cons_succ]
      refine till_take 12 (v := .int .i64 c) (some 18) rfl rfl rfl (by kernel_rfl) (by kernel_rfl) (by kernel_rfl) (by kernel_rfl) (fun _ _ _ h => h) (Or.inl ⟨by rfl, fun u hu => by obtain ⟨c1, c2⟩ := hu; go_simp⟩) (unhide S1 _ (unhide HX).2.2.1) ?_
      try simp only [Act.put, List.setIfInBounds_toArray, List.set_cons_zero, List.set_cons_succ]
      refine till_one 14 (by kernel_rfl) rfl (fun K hK => ?_)
      obtain ⟨d0, d1, d2, d3, d4⟩ := row_cell (unhide HX).1
      have f0 : wb.frozen? ⟨gb, 0, none⟩ = false := frozen_of_row wb gb 0 _ _ (unhide HX).1
      have f1 : wb.frozen? ⟨gb, 1, none⟩ = false := frozen_of_row wb gb 1 _ _ (unhide HX).1
      have f2 : wb.frozen? ⟨gb, 2, none⟩ = false := frozen_of_row wb gb 2 _ _ (unhide HX).1
      have f3 : wb.frozen? ⟨gb, 3, none⟩ = false := frozen_of_row wb gb 3 _ _ (unhide HX).1
      have f4 : wb.frozen? ⟨gb, 4, none⟩ = false := frozen_of_row wb gb 4 _ _ (unhide HX).1
      go_simp
      have H9 := hide (RcS.of (unhide HKY) (unhide HX).1 (unhide HX).2.1 (unhide HX).2.2.1 (unhide HX).2.2.2.2 (unhide HY5) (Or.inl (unhide HX).2.2.2.1) (Nat.le_refl _) (fun _ _ _ => rfl))
      obtain ⟨w9, hw9⟩ : ∃ w9, (((((wb.setCell ⟨gb, 0, none⟩ (.int .i64 x0)).setCell ⟨gb, 1, none⟩ (.int .i64 x1)).setCell ⟨gb, 2, none⟩ (.string x2)).setCell ⟨gb, 3, none⟩ (.slice al ll cl)).setCell ⟨gb, 4, none⟩ (.slice ak mm ck)) = w9 := ⟨_, rfl⟩
      rw [hw9] at H9 ⊢
      clear hw9 d0 d1 d2 d3 d4 f0 f1 f2 f3 f4
      refine hK.out _ _ (Or.inr (unhide S1 _ (unhide H9).below)) ?_
      clear hK K
      try simp only [Act.put, List.setIfInBounds_toArray, List.set_cons_zero, List.set_cons_succ]
      refine till_take 15 (v := .int .i64 nx) (some 4) rfl rfl rfl (by kernel_rfl) (by kernel_rfl) (by kernel_rfl) (by kernel_rfl) (fun _ _ _ h => h) (Or.inl ⟨by rfl, fun u hu => by obtain ⟨c1, c2⟩ := hu; go_simp⟩) (unhide S1 _ (unhide H9).below) ?_
      try simp only [Act.put, List.setIfInBounds_toArray, List.set_cons_zero, List.set_cons_succ]
      refine till_one 16 (by kernel_rfl) rfl (fun K hK => ?_)
      go_simp
      refine hK.out _ _ (Or.inl rfl) ?_
      clear hK K
      try simp only [Act.put, List.setIfInBounds_toArray, List.set_cons_zero, List.set_cons_succ]
      refine till_done (by kernel_rfl) ?_ _
      go_wp2_with fail
      go_meet
      exact ⟨gb, x0, x1, x2, al, ak, ll, cl, mm, ck, rfl, rfl, rfl, H9⟩
  case rest =>
    obtain ⟨gb, x0, x1, x2, al, ak, ll, cl, mm, ck, rfl, rfl, rfl, H9⟩ := hcut
    have R9 := (unhide HH).later (unhide H9).below
    obtain ⟨c0, c1, c2, c3, c4, c5⟩ := row_cells6 R9.box
    have fz := frozen_of_row wc gr 2 _ _ R9.box
    have HR9 := hide R9
    clear R9 H9 S1 HH
    rcases hc with rfl | rfl
    · go_wp2_with fail
      go_ret
      exact ⟨rfl, (unhide HR9).setAt _⟩
    · go_wp2_with fail
      go_ret
      exact ⟨rfl, (unhide HR9).setAt _⟩

set_option maxRecDepth 100000 in
set_option maxHeartbeats 2000000 in
theorem readC_ok (w0 : World) (I : Nat → Obj → Prop) (gr : Nat) (vb : Value) (bo : Option Addr) (e bc : Nat) (a : Nat) (C F X : Value) (m : Md) (V : Nat → List Value) (w : World) (h : RdM w0 I w gr vb (.slice bo e bc) a C F X m V) (Y : World → Nat → Value → Prop) (hY : KeepY Y) (nx c : Int) (hc : c = 0) (hl : m.cs.length ≤ 100) (y : Vl) (hYI : ∀ u B x, Y u B x → IsP u (fun b => B ≤ b ∧ b < u.heap.size) y x)
    (CT0 : ∀ u, Below w.heap.size w u → Calls Try.prog 54 #[.slice bo e bc, .int .i64 (a : Int)] u fun e w' => TkR Y nx c u e w') :
    Calls Try.prog 35 #[.pointer (some ⟨gr, 0, none⟩)] w fun e' w' => e' = .returned (.int .i64 0) ∧ ∃ C' V', RdM w0 I w' gr vb (.slice bo e bc) nx C' F X ⟨m.cs ++ [y], m.fs, m.xs⟩ V' := by
  have HC0 := hide hc
  clear hc
  have CT := hide CT0
  obtain ⟨c0, c1, c2, c3, c4, c5⟩ := row_cells6 h.box
  have S1 : Hid (∀ u, Below w.heap.size w u → u.cell? ⟨gr, 1, none⟩ = some (.slice bo e bc) ∧ u.cell? ⟨gr, 2, none⟩ = some (.int .i64 (a : Int))) := hide (fun u hu => ⟨cell_later hu c1, cell_later hu c2⟩)
  have HH := hide h
  have HKY := hide hY
  have HGW : Hid (gr < w.heap.size) := hide h.lt
  clear h CT0 hY
  go_enter Try.func35, Try.ntmps35
  go_upto_region 1 with fail
  clear c0 c1 c2 c3 c4 c5
  go_cut [3, 4, 5] from 7 to 19 (fun y3 y4 y5 wx => ∃ (gb : Nat) (x0 x1 : Int) (x2 : ByteArray) (al ak : Option Addr) (ll cl mm ck : Nat), y3 = .pointer (some ⟨gb, 0, none⟩) ∧ y4 = .int .i64 nx ∧ y5 = .int .i64 c ∧ Hid (RcS Y w wx gb (.int .i64 x0) (.int .i64 x1) (.string x2) (.slice al ll cl) (.slice ak mm ck)))
  case first =>
    refine till_begin (S := fun u => u.cell? ⟨gr, 1, none⟩ = some (.slice bo e bc) ∧ u.cell? ⟨gr, 2, none⟩ = some (.int .i64 (a : Int))) 16 (by kernel_rfl) ?_
    obtain ⟨w2, hw2⟩ : ∃ w2, w.drew = w2 := ⟨_, rfl⟩
    have HB2 : Hid (Below w.heap.size w w2) := hide (by rw [← hw2]; exact (Below.refl _ _).drew)
    rw [hw2]
    clear hw2
    refine till_take 0 (v := .pointer (some ⟨gr, 0, none⟩)) (some 7) rfl rfl rfl (by kernel_rfl) (by kernel_rfl) (by kernel_rfl) (by kernel_rfl) (fun _ _ _ h => h) (Or.inl ⟨by rfl, fun u hu => by obtain ⟨c1, c2⟩ := hu; go_simp⟩) (unhide S1 _ (unhide HB2)) ?_
    try simp only [Act.put, List.setIfInBounds_toArray, List.set_cons_zero, List.set_cons_succ]
    refine till_take 1 (v := .pointer (some ⟨gr, 0, none⟩)) (some 8) rfl rfl rfl (by kernel_rfl) (by kernel_rfl) (by kernel_rfl) (by kernel_rfl) (fun _ _ _ h => h) (Or.inl ⟨by rfl, fun u hu => by obtain ⟨c1, c2⟩ := hu; go_simp⟩) (unhide S1 _ (unhide HB2)) ?_
    try simp only [Act.put, List.setIfInBounds_toArray, List.set_cons_zero, List.set_cons_succ]
    refine till_take 2 (v := .pointer (some ⟨gr, 1, none⟩)) (some 9) rfl rfl rfl (by kernel_rfl) (by kernel_rfl) (by kernel_rfl) (by kernel_rfl) (fun _ _ _ h => h) (Or.inl ⟨by rfl, fun u hu => by obtain ⟨c1, c2⟩ := hu; go_simp⟩) (unhide S1 _ (unhide HB2)) ?_
    try simp only [Act.put, List.setIfInBounds_toArray, List.set_cons_zero, List.set_cons_succ]
    refine till_take 3 (v := .slice bo e bc) (some 10) rfl rfl rfl (by kernel_rfl) (by kernel_rfl) (by kernel_rfl) (by kernel_rfl) (fun _ _ _ h => h) (Or.inl ⟨by rfl, fun u hu => by obtain ⟨c1, c2⟩ := hu; go_simp⟩) (unhide S1 _ (unhide HB2)) ?_
    try simp only [Act.put, List.setIfInBounds_toArray, List.set_cons_zero, List.set_cons_succ]
    refine till_take 4 (v := .pointer (some ⟨gr, 0, none⟩)) (some 11) rfl rfl rfl (by kernel_rfl) (by kernel_rfl) (by kernel_rfl) (by kernel_rfl) (fun _ _ _ h => h) (Or.inl ⟨by rfl, fun u hu => by obtain ⟨c1, c2⟩ := hu; go_simp⟩) (unhide S1 _ (unhide HB2)) ?_
    try simp only [Act.put, List.setIfInBounds_toArray, List.set_cons_zero, List.set_cons_succ]
    refine till_take 5 (v := .pointer (some ⟨gr, 0, none⟩)) (some 12) rfl rfl rfl (by kernel_rfl) (by kernel_rfl) (by kernel_rfl) (by kernel_rfl) (fun _ _ _ h => h) (Or.inl ⟨by rfl, fun u hu => by obtain ⟨c1, c2⟩ := hu; go_simp⟩) (unhide S1 _ (unhide HB2)) ?_
    try simp only [Act.put, List.setIfInBounds_toArray, List.set_cons_zero, List.set_cons_succ]
    refine till_take 6 (v := .pointer (some ⟨gr, 2, none⟩)) (some 13) rfl rfl rfl (by kernel_rfl) (by kernel_rfl) (by kernel_rfl) (by kernel_rfl) (fun _ _ _ h => h) (Or.inl ⟨by rfl, fun u hu => by obtain ⟨c1, c2⟩ := hu; go_simp⟩) (unhide S1 _ (unhide HB2)) ?_
    try simp only [Act.put, List.setIfInBounds_toArray, List.set_cons_zero, List.set_cons_succ]
    refine till_take 7 (v := .int .i64 (a : Int)) (some 14) rfl rfl rfl (by kernel_rfl) (by kernel_rfl) (by kernel_rfl) (by kernel_rfl) (fun _ _ _ h => h) (Or.inl ⟨by rfl, fun u hu => by obtain ⟨c1, c2⟩ := hu; go_simp⟩) (unhide S1 _ (unhide HB2)) ?_
    try simp only [Act.put, List.setIfInBounds_toArray, List.set_cons_zero, List.set_cons_succ]
    refine till_two 8 13 (by kernel_rfl) rfl rfl (fun K hK => ?_) (fun K hK => ?_)
    · go_simp
      refine (unhide CT w2 (unhide HB2)).mono ?_
      rintro e5 u ⟨x0, x1, x2, al, ak, ll, cl, mm, ck, rfl, y5, b5⟩
      have HB5 : Hid (Below w.heap.size w u) := hide ((unhide HB2).trans (b5.mono (unhide HB2).size))
      have HY5 := hide y5
      have HZ5 : Hid (w.heap.size ≤ w2.heap.size) := hide (unhide HB2).size
      clear y5 b5
      go_wp2_with fail
      refine hK.out _ _ (Or.inr (unhide S1 _ (unhide HB5))) ?_
      clear hK K
      try simp only [Act.put, List.setIfInBounds_toArray, List.set_cons_zero, List.set_cons_succ]
      refine till_take 9 (v := .tuple #[.agg #[.int .i64 x0, .int .i64 x1, .string x2, .slice al ll cl, .slice ak mm ck], .int .i64 nx, .int .i64 c]) (some 6) rfl rfl rfl (by kernel_rfl) (by kernel_rfl) (by kernel_rfl) (by kernel_rfl) (fun _ _ _ h => h) (Or.inl ⟨by rfl, fun u hu => by obtain ⟨c1, c2⟩ := hu; go_simp⟩) (unhide S1 _ (unhide HB5)) ?_
      try simp only [Act.put, List.setIfInBounds_toArray, List.set_cons_zero, List.set_cons_succ]
      refine till_take 10 (v := .agg #[.int .i64 x0, .int .i64 x1, .string x2, .slice al ll cl, .slice ak mm ck]) (some 16) rfl rfl rfl (by kernel_rfl) (by kernel_rfl) (by kernel_rfl) (by kernel_rfl) (fun _ _ _ h => h) (Or.inl ⟨by rfl, fun u hu => by obtain ⟨c1, c2⟩ := hu; go_simp⟩) (unhide S1 _ (unhide HB5)) ?_
      try simp only [Act.put, List.setIfInBounds_toArray, List.set_cons_zero, List.set_cons_succ]
      refine till_take 11 (v := .int .i64 nx) (some 17) rfl rfl rfl (by kernel_rfl) (by kernel_rfl) (by kernel_rfl) (by kernel_rfl) (fun _ _ _ h => h) (Or.inl ⟨by rfl, fun u hu => by obtain ⟨c1, c2⟩ := hu; go_simp⟩) (unhide S1 _ (unhide HB5)) ?_
      try simp only [Act.put, List.setIfInBounds_toArray, List.set_cons_zero, List.set_cons_succ]
      refine till_take 12 (v := .int .i64 c) (some 18) rfl rfl rfl (by kernel_rfl) (by kernel_rfl) (by kernel_rfl) (by kernel_rfl) (fun _ _ _ h => h) (Or.inl ⟨by rfl, fun u hu => by obtain ⟨c1, c2⟩ := hu; go_simp⟩) (unhide S1 _ (unhide HB5)) ?_
      try simp only [Act.put, List.setIfInBounds_toArray, List.set_cons_zero, List.set_cons_succ]
      refine till_one 13 (by kernel_rfl) rfl (fun K hK => ?_)
      go_simp
      obtain ⟨gb, hgb⟩ : ∃ gb, u.heap.size = gb := ⟨_, rfl⟩
      obtain ⟨wb, hwb⟩ : ∃ wb, u.alloc (.cells #[.int .i64 0, .int .i64 0, .string ⟨#[]⟩, .slice none 0 0, .slice none 0 0] 51) = wb := ⟨_, rfl⟩
      have HX : Hid (wb.heap[gb]? = some (.cells #[.int .i64 0, .int .i64 0, .string ⟨#[]⟩, .slice none 0 0, .slice none 0 0] 51 (0, 0)) ∧ w.heap.size ≤ gb ∧ Below w.heap.size w wb ∧ u.heap.size ≤ gb ∧ Below u.heap.size u wb) := hide (by
        have q : Below u.heap.size u wb := by rw [← hwb]; exact (Below.refl _ _).alloc (Nat.le_refl _) _
        refine ⟨by rw [← hwb, ← hgb]; exact heap_alloc_new u _, by rw [← hgb]; exact (unhide HB5).size, (unhide HB5).trans (q.mono (unhide HB5).size), by omega, q⟩)
      rw [hgb, hwb]
      refine hK.out _ _ (Or.inr (unhide S1 _ (unhide HX).2.2.1)) ?_
      clear hK K hwb hgb
      try simp only [Act.put, List.setIfInBounds_toArray, List.set_cons_zero, List.set_cons_succ]
      refine till_one 14 (by kernel_rfl) rfl (fun K hK => ?_)
      obtain ⟨d0, d1, d2, d3, d4⟩ := row_cell (unhide HX).1
      have f0 : wb.frozen? ⟨gb, 0, none⟩ = false := frozen_of_row wb gb 0 _ _ (unhide HX).1
      have f1 : wb.frozen? ⟨gb, 1, none⟩ = false := frozen_of_row wb gb 1 _ _ (unhide HX).1
      have f2 : wb.frozen? ⟨gb, 2, none⟩ = false := frozen_of_row wb gb 2 _ _ (unhide HX).1
      have f3 : wb.frozen? ⟨gb, 3, none⟩ = false := frozen_of_row wb gb 3 _ _ (unhide HX).1
      have f4 : wb.frozen? ⟨gb, 4, none⟩ = false := frozen_of_row wb gb 4 _ _ (unhide HX).1
      go_simp
      have H9 := hide (RcS.of (unhide HKY) (unhide HX).1 (unhide HX).2.1 (unhide HX).2.2.1 (unhide HZ5) (unhide HY5) (Or.inr (unhide HX).2.2.2.1) (unhide HX).2.2.2.2.size (fun b hb _ => (unhide HX).2.2.2.2.block b hb))
      obtain ⟨w9, hw9⟩ : ∃ w9, (((((wb.setCell ⟨gb, 0, none⟩ (.int .i64 x0)).setCell ⟨gb, 1, none⟩ (.int .i64 x1)).setCell ⟨gb, 2, none⟩ (.string x2)).setCell ⟨gb, 3, none⟩ (.slice al ll cl)).setCell ⟨gb, 4, none⟩ (.slice ak mm ck)) = w9 := ⟨_, rfl⟩
      rw [hw9] at H9 ⊢
      clear hw9 d0 d1 d2 d3 d4 f0 f1 f2 f3 f4
      refine hK.out _ _ (Or.inr (unhide S1 _ (unhide H9).below)) ?_
      clear hK K
      try simp only [Act.put, List.setIfInBounds_toArray, List.set_cons_zero, List.set_cons_succ]
      refine till_take 15 (v := .int .i64 nx) (some 4) rfl rfl rfl (by kernel_rfl) (by kernel_rfl) (by kernel_rfl) (by kernel_rfl) (fun _ _ _ h => h) (Or.inl ⟨by rfl, fun u hu => by obtain ⟨c1, c2⟩ := hu; go_simp⟩) (unhide S1 _ (unhide H9).below) ?_
      try simp only [Act.put, List.setIfInBounds_toArray, List.set_cons_zero, List.set_cons_succ]
      refine till_one 16 (by kernel_rfl) rfl (fun K hK => ?_)
      go_simp
      refine hK.out _ _ (Or.inl rfl) ?_
      clear hK K
      try simp only [Act.put, List.setIfInBounds_toArray, List.set_cons_zero, List.set_cons_succ]
      refine till_done (by kernel_rfl) ?_ _
      go_wp2_with fail
      go_meet
      exact ⟨gb, x0, x1, x2, al, ak, ll, cl, mm, ck, rfl, rfl, rfl, H9⟩
    · go_simp
      obtain ⟨gb, hgb⟩ : ∃ gb, w2.heap.size = gb := ⟨_, rfl⟩
      obtain ⟨wa, hwa⟩ : ∃ wa, w2.alloc (.cells #[.int .i64 0, .int .i64 0, .string ⟨#[]⟩, .slice none 0 0, .slice none 0 0] 51) = wa := ⟨_, rfl⟩
      have HA : Hid (wa.heap[gb]? = some (.cells #[.int .i64 0, .int .i64 0, .string ⟨#[]⟩, .slice none 0 0, .slice none 0 0] 51 (0, 0)) ∧ w.heap.size ≤ gb ∧ Below w.heap.size w wa ∧ gb < wa.heap.size) := hide (by
        have q : Below w2.heap.size w2 wa := by rw [← hwa]; exact (Below.refl _ _).alloc (Nat.le_refl _) _
        refine ⟨by rw [← hwa, ← hgb]; exact heap_alloc_new w2 _, by rw [← hgb]; exact (unhide HB2).size, (unhide HB2).trans (q.mono (unhide HB2).size), by rw [← hwa, ← hgb]; simp⟩)
      rw [hgb, hwa]
      refine hK.out _ _ (Or.inr (unhide S1 _ (unhide HA).2.2.1)) ?_
      clear hK K hwa hgb
      try simp only [Act.put, List.setIfInBounds_toArray, List.set_cons_zero, List.set_cons_succ]
      refine till_one 8 (by kernel_rfl) rfl (fun K hK => ?_)
      go_simp
      refine (unhide CT wa (unhide HA).2.2.1).mono ?_
      rintro e5 wb ⟨x0, x1, x2, al, ak, ll, cl, mm, ck, rfl, y5, b5⟩
      have HX : Hid (wb.heap[gb]? = some (.cells #[.int .i64 0, .int .i64 0, .string ⟨#[]⟩, .slice none 0 0, .slice none 0 0] 51 (0, 0)) ∧ w.heap.size ≤ gb ∧ Below w.heap.size w wb ∧ gb < wa.heap.size ∧ w.heap.size ≤ wa.heap.size) := hide ⟨(b5.block gb (unhide HA).2.2.2).trans (unhide HA).1, (unhide HA).2.1, (unhide HA).2.2.1.trans (b5.mono (unhide HA).2.2.1.size), (unhide HA).2.2.2, (unhide HA).2.2.1.size⟩
      have HY5 := hide y5
      clear y5 b5
      go_wp2_with fail
      refine hK.out _ _ (Or.inr (unhide S1 _ (unhide HX).2.2.1)) ?_
      clear hK K
      try simp only [Act.put, List.setIfInBounds_toArray, List.set_cons_zero, List.set_cons_succ]
      refine till_take 9 (v := .tuple #[.agg #[.int .i64 x0, .int .i64 x1, .string x2, .slice al ll cl, .slice ak mm ck], .int .i64 nx, .int .i64 c]) (some 6) rfl rfl rfl (by kernel_rfl) (by kernel_rfl) (by kernel_rfl) (by kernel_rfl) (fun _ _ _ h => h) (Or.inl ⟨by rfl, fun u hu => by obtain ⟨c1, c2⟩ := hu; go_simp⟩) (unhide S1 _ (unhide HX).2.2.1) ?_
      try simp only [Act.put, List.setIfInBounds_toArray, List.set_cons_zero, List.set_cons_succ]
      refine till_take 10 (v := .agg #[.int .i64 x0, .int .i64 x1, .string x2, .slice al ll cl, .slice ak mm ck]) (some 16) rfl rfl rfl (by kernel_rfl) (by kernel_rfl) (by kernel_rfl) (by kernel_rfl) (fun _ _ _ h => h) (Or.inl ⟨by rfl, fun u hu => by obtain ⟨c1, c2⟩ := hu; go_simp⟩) (unhide S1 _ (unhide HX).2.2.1) ?_
      try simp only [Act.put, List.setIfInBounds_toArray, List.set_cons_zero, List.set_cons_succ]
      refine till_take 11 (v := .int .i64 nx) (some 17) rfl rfl rfl (by kernel_rfl) (by kernel_rfl) (by kernel_rfl) (by kernel_rfl) (fun _ _ _ h => h) (Or.inl ⟨by rfl, fun u hu => by obtain ⟨c1, c2⟩ := hu; go_simp⟩) (unhide S1 _ (unhide HX).2.2.1) ?_
      try simp only [Act.put, List.setIfInBounds_toArray, List.set_cons_zero, List.set_cons_succ]
      refine till_take 12 (v := .int .i64 c) (some 18) rfl rfl rfl (by kernel_rfl) (by kernel_rfl) (by kernel_rfl) (by kernel_rfl) (fun _ _ _ h => h) (Or.inl ⟨by rfl, fun u hu => by obtain ⟨c1, c2⟩ := hu; go_simp⟩) (unhide S1 _ (unhide HX).2.2.1) ?_
      try simp only [Act.put, List.setIfInBounds_toArray, List.set_cons_zero, List.set_cons_succ]
      refine till_one 14 (by kernel_rfl) rfl (fun K hK => ?_)
      obtain ⟨d0, d1, d2, d3, d4⟩ := row_cell (unhide HX).1
      have f0 : wb.frozen? ⟨gb, 0, none⟩ = false := frozen_of_row wb gb 0 _ _ (unhide HX).1
      have f1 : wb.frozen? ⟨gb, 1, none⟩ = false := frozen_of_row wb gb 1 _ _ (unhide HX).1
      have f2 : wb.frozen? ⟨gb, 2, none⟩ = false := frozen_of_row wb gb 2 _ _ (unhide HX).1
      have f3 : wb.frozen? ⟨gb, 3, none⟩ = false := frozen_of_row wb gb 3 _ _ (unhide HX).1
      have f4 : wb.frozen? ⟨gb, 4, none⟩ = false := frozen_of_row wb gb 4 _ _ (unhide HX).1
      go_simp
      have H9 := hide (RcS.of (unhide HKY) (unhide HX).1 (unhide HX).2.1 (unhide HX).2.2.1 (unhide HX).2.2.2.2 (unhide HY5) (Or.inl (unhide HX).2.2.2.1) (Nat.le_refl _) (fun _ _ _ => rfl))
      obtain ⟨w9, hw9⟩ : ∃ w9, (((((wb.setCell ⟨gb, 0, none⟩ (.int .i64 x0)).setCell ⟨gb, 1, none⟩ (.int .i64 x1)).setCell ⟨gb, 2, none⟩ (.string x2)).setCell ⟨gb, 3, none⟩ (.slice al ll cl)).setCell ⟨gb, 4, none⟩ (.slice ak mm ck)) = w9 := ⟨_, rfl⟩
      rw [hw9] at H9 ⊢
      clear hw9 d0 d1 d2 d3 d4 f0 f1 f2 f3 f4
      refine hK.out _ _ (Or.inr (unhide S1 _ (unhide H9).below)) ?_
      clear hK K
      try simp only [Act.put, List.setIfInBounds_toArray, List.set_cons_zero, List.set_cons_succ]
      refine till_take 15 (v := .int .i64 nx) (some 4) rfl rfl rfl (by kernel_rfl) (by kernel_rfl) (by kernel_rfl) (by kernel_rfl) (fun _ _ _ h => h) (Or.inl ⟨by rfl, fun u hu => by obtain ⟨c1, c2⟩ := hu; go_simp⟩) (unhide S1 _ (unhide H9).below) ?_
      try simp only [Act.put, List.setIfInBounds_toArray, List.set_cons_zero, List.set_cons_succ]
      refine till_one 16 (by kernel_rfl) rfl (fun K hK => ?_)
      go_simp
      refine hK.out _ _ (Or.inl rfl) ?_
      clear hK K
      try simp only [Act.put, List.setIfInBounds_toArray, List.set_cons_zero, List.set_cons_succ]
      refine till_done (by kernel_rfl) ?_ _
      go_wp2_with fail
      go_meet
      exact ⟨gb, x0, x1, x2, al, ak, ll, cl, mm, ck, rfl, rfl, rfl, H9⟩
  case rest =>
    obtain ⟨gb, x0, x1, x2, al, ak, ll, cl, mm, ck, rfl, rfl, rfl, H9⟩ := hcut
    have hc := unhide HC0
    subst hc
    have R9 := (unhide HH).later (unhide H9).below
    obtain ⟨aC, cC, hC, nC, lC, mC, oC⟩ := slice_form R9.ownC
    obtain ⟨n, hn⟩ : ∃ n, m.cs.length = n := ⟨_, rfl⟩
    rw [hn] at hC hl
    have HC9 : Hid (C = .slice aC n cC) := hide hC
    have HN := hide hn
    subst hC
    obtain ⟨c0, c1, c2, c3, c4, c5⟩ := row_cells6 R9.box
    have fz := frozen_of_row wc gr 2 _ _ R9.box
    have HR9 := hide R9
    have HLF : Hid (∀ b, F.ownBlock = some b → b < w.heap.size) := hide (fun b hb => ((unhide HH).ownF.lt b hb).2)
    have HLX : Hid (∀ b, X.ownBlock = some b → b < w.heap.size) := hide (fun b hb => ((unhide HH).ownX.lt b hb).2)
    have HYI := hide hYI
    have HLW : Hid (∀ b, (Value.slice aC n cC).ownBlock = some b → b < w.heap.size) := hide (fun b hb => ((unhide HH).ownC.lt b hb).2)
    clear R9 nC lC mC oC S1 HH hn
    go_upto_region 7 with fail
    have HRA := hide ((unhide HR9).setAt nx)
    have HB9 : Hid (RcT Y w (wc.setCell ⟨gr, 2, none⟩ (.int .i64 nx)) gb (.int .i64 x0) (.int .i64 x1) (.string x2) (.slice al ll cl) (.slice ak mm ck)) := hide ((unhide H9).setAt (unhide HKY) (unhide HGW) _)
    obtain ⟨wd, hwd⟩ : ∃ wd, wc.setCell ⟨gr, 2, none⟩ (.int .i64 nx) = wd := ⟨_, rfl⟩
    rw [hwd] at HRA HB9 ⊢
    clear hwd c0 c1 c2 c3 c4 c5 fz H9 HR9
    have HS0 : Hid (wd.drew.cell? ⟨gr, 3, none⟩ = some (.slice aC n cC) ∧ wd.drew.heap[gb]? = some (.cells #[.int .i64 x0, .int .i64 x1, .string x2, .slice al ll cl, .slice ak mm ck] 51 (0, 0))) := hide ⟨(row_cells6 (unhide HRA).box).2.2.2.1, (unhide HB9).row⟩
    refine tilt_begin (S := fun u => u.cell? ⟨gr, 3, none⟩ = some (.slice aC n cC) ∧ u.heap[gb]? = some (.cells #[.int .i64 x0, .int .i64 x1, .string x2, .slice al ll cl, .slice ak mm ck] 51 (0, 0))) 14 (by kernel_rfl) ?_
    obtain ⟨w2, hw2⟩ : ∃ w2, wd.drew = w2 := ⟨_, rfl⟩
    have HB2 : Hid (Below wd.heap.size wd w2) := hide (by rw [← hw2]; exact (Below.refl _ _).drew)
    rw [hw2] at HS0 ⊢
    clear hw2
    refine tilt_take 0 (v := .pointer (some ⟨gr, 0, none⟩)) (some 27) (by decide) rfl rfl rfl (by kernel_rfl) (by kernel_rfl) (by kernel_rfl) (by kernel_rfl) (fun _ _ _ h => h) (Or.inl ⟨by rfl, fun u hu => by obtain ⟨c3, hb⟩ := hu; obtain ⟨d0, d1, d2, d3, d4⟩ := row_cell hb; go_simp⟩) (unhide HS0) ?_
    try simp only [Act.put, List.setIfInBounds_toArray, List.set_cons_zero, List.set_cons_succ]
    refine tilt_take 1 (v := .pointer (some ⟨gr, 0, none⟩)) (some 28) (by decide) rfl rfl rfl (by kernel_rfl) (by kernel_rfl) (by kernel_rfl) (by kernel_rfl) (fun _ _ _ h => h) (Or.inl ⟨by rfl, fun u hu => by obtain ⟨c3, hb⟩ := hu; obtain ⟨d0, d1, d2, d3, d4⟩ := row_cell hb; go_simp⟩) (unhide HS0) ?_
    try simp only [Act.put, List.setIfInBounds_toArray, List.set_cons_zero, List.set_cons_succ]
    refine tilt_take 2 (v := .pointer (some ⟨gr, 3, none⟩)) (some 29) (by decide) rfl rfl rfl (by kernel_rfl) (by kernel_rfl) (by kernel_rfl) (by kernel_rfl) (fun _ _ _ h => h) (Or.inl ⟨by rfl, fun u hu => by obtain ⟨c3, hb⟩ := hu; obtain ⟨d0, d1, d2, d3, d4⟩ := row_cell hb; go_simp⟩) (unhide HS0) ?_
    try simp only [Act.put, List.setIfInBounds_toArray, List.set_cons_zero, List.set_cons_succ]
    refine tilt_take 3 (v := .pointer (some ⟨gr, 3, none⟩)) (some 30) (by decide) rfl rfl rfl (by kernel_rfl) (by kernel_rfl) (by kernel_rfl) (by kernel_rfl) (fun _ _ _ h => h) (Or.inl ⟨by rfl, fun u hu => by obtain ⟨c3, hb⟩ := hu; obtain ⟨d0, d1, d2, d3, d4⟩ := row_cell hb; go_simp⟩) (unhide HS0) ?_
    try simp only [Act.put, List.setIfInBounds_toArray, List.set_cons_zero, List.set_cons_succ]
    refine tilt_take 4 (v := .slice aC n cC) (some 31) (by decide) rfl rfl rfl (by kernel_rfl) (by kernel_rfl) (by kernel_rfl) (by kernel_rfl) (fun _ _ _ h => h) (Or.inl ⟨by rfl, fun u hu => by obtain ⟨c3, hb⟩ := hu; obtain ⟨d0, d1, d2, d3, d4⟩ := row_cell hb; go_simp⟩) (unhide HS0) ?_
    try simp only [Act.put, List.setIfInBounds_toArray, List.set_cons_zero, List.set_cons_succ]
    refine tilt_take 5 (v := .agg #[.int .i64 x0, .int .i64 x1, .string x2, .slice al ll cl, .slice ak mm ck]) (some 32) (by decide) rfl rfl rfl (by kernel_rfl) (by kernel_rfl) (by kernel_rfl) (by kernel_rfl) (fun _ _ _ h => h) (Or.inl ⟨by rfl, fun u hu => by obtain ⟨c3, hb⟩ := hu; obtain ⟨d0, d1, d2, d3, d4⟩ := row_cell hb; go_simp⟩) (unhide HS0) ?_
    try simp only [Act.put, List.setIfInBounds_toArray, List.set_cons_zero, List.set_cons_succ]
    refine tilt_take 6 (v := .int .i64 (n : Int)) (some 33) (by decide) rfl rfl rfl (by kernel_rfl) (by kernel_rfl) (by kernel_rfl) (by kernel_rfl) (fun _ _ _ h => h) (Or.inl ⟨by rfl, fun u hu => by obtain ⟨c3, hb⟩ := hu; obtain ⟨d0, d1, d2, d3, d4⟩ := row_cell hb; go_simp⟩) (unhide HS0) ?_
    try simp only [Act.put, List.setIfInBounds_toArray, List.set_cons_zero, List.set_cons_succ]
    refine tilt_one 7 (by decide) (by kernel_rfl) rfl (fun K hK => ?_)
    go_simp
    obtain ⟨g6, hg6⟩ : ∃ g6, w2.heap.size = g6 := ⟨_, rfl⟩
    obtain ⟨wa, hwa⟩ : ∃ wa, w2.alloc (.cells #[.int .i64 0, .int .i64 0, .string ⟨#[]⟩, .slice none 0 0, .slice none 0 0] 51) = wa := ⟨_, rfl⟩
    have HA : Hid (wa.heap[g6]? = some (.cells #[.int .i64 0, .int .i64 0, .string ⟨#[]⟩, .slice none 0 0, .slice none 0 0] 51 (0, 0)) ∧ Below wd.heap.size wd wa ∧ wa.cell? ⟨gr, 3, none⟩ = some (.slice aC n cC) ∧ wa.heap[gb]? = some (.cells #[.int .i64 x0, .int .i64 x1, .string x2, .slice al ll cl, .slice ak mm ck] 51 (0, 0))) := hide (by
      have q : Below w2.heap.size w2 wa := by rw [← hwa]; exact (Below.refl _ _).alloc (Nat.le_refl _) _
      refine ⟨by rw [← hwa, ← hg6]; exact heap_alloc_new w2 _, (unhide HB2).trans (q.mono (unhide HB2).size), cell_later q (unhide HS0).1, (q.block gb (lt_of_row (unhide HS0).2)).trans (unhide HS0).2⟩)
    have HRW := hide ((unhide HRA).later (unhide HA).2.1)
    rw [hg6, hwa]
    refine hK.out _ _ (unhide HA).2.2 ?_
    clear hK K hwa hg6
    try simp only [Act.put, List.setIfInBounds_toArray, List.set_cons_zero, List.set_cons_succ]
    obtain ⟨iv, hiv, hz0, hz1, hz2⟩ := info_parts infoVv
    have HI := hide (And.intro hiv (And.intro hz0 (And.intro hz1 hz2)))
    clear hiv hz0 hz1 hz2
    have HOW : Hid (wa.ownsRow (gr + 1) 51 5 (.slice aC n cC) n (flat V n)) := hide (by have := (unhide HRW).ownC; rw [unhide HN] at this; exact this)
    have hbs : gr + 1 ≤ wa.heap.size := (unhide HRW).lt
    have HGB : Hid (∀ b, (Value.slice aC n cC).ownBlock = some b → gr + 1 ≤ b ∧ b < w.heap.size) := hide (fun b hb => ⟨((unhide HOW).lt b hb).1, (unhide HLW) b hb⟩)
    refine tilt_one 8 (by decide) (by kernel_rfl) rfl (fun K hK => ?_)
    refine step_append_lies _ (by rfl) _ _ 24 (by rfl) (gr + 1) 51 iv (.agg #[.int .i64 0, .int .i64 0, .string ⟨#[]⟩, .slice none 0 0, .slice none 0 0]) 5 80 Try.underlying24 (unhide HI).1 (unhide HI).2.1 (unhide HI).2.2.1 (unhide HI).2.2.2 rfl (by omega) (.slice aC n cC) n (flat V n) (by rfl) (unhide HOW) ⟨g6, 0, none⟩ 1 1 [.int .i64 0, .int .i64 0, .string ⟨#[]⟩, .slice none 0 0, .slice none 0 0] (by rfl) (by rfl) (World.news_of_block (unhide HA).1) (by simp [Value.oneCell']) (by omega) (by unfold maxLen; omega) (by omega) hbs _ rfl ?_
    intro g7 cap7 w7 hown7 hgrow7 hat7 hlt7
    change K (Act.put _ (some 35) _) w7
    have HF7 : Hid (∀ b, b < wa.heap.size → some b ≠ (Value.slice aC n cC).ownBlock → w7.heap[b]? = wa.heap[b]?) := hide (fun b hb hn => hgrow7.block b hb hn)
    have hgr7 : w7.heap[gr]? = wa.heap[gr]? := unhide HF7 gr (unhide HRW).lt (fun e => by have := ((unhide HGB) gr e.symm).1; omega)
    have hgb7 : w7.heap[gb]? = wa.heap[gb]? := unhide HF7 gb (lt_of_row (unhide HA).2.2.2) (fun e => by have := ((unhide HGB) gb e.symm).2; have := (unhide HB9).low; omega)
    have HS7 : Hid (w7.cell? ⟨gr, 3, none⟩ = some (.slice aC n cC) ∧ w7.heap[gb]? = some (.cells #[.int .i64 x0, .int .i64 x1, .string x2, .slice al ll cl, .slice ak mm ck] 51 (0, 0))) := hide ⟨(row_cells6 (hgr7.trans (unhide HRW).box)).2.2.2.1, hgb7.trans (unhide HA).2.2.2⟩
    have H7 := hide (And.intro hown7 (And.intro hgrow7 (And.intro hat7 hlt7)))
    have HGR7 := hide (hgr7.trans (unhide HRW).box)
    refine hK.out _ _ (unhide HS7) ?_
    clear hK K hown7 hgrow7 hat7 hlt7 hgr7 hgb7
    try simp only [Act.put, List.setIfInBounds_toArray, List.set_cons_zero, List.set_cons_succ]
    have j9 : (n : Int) < (n : Int) + 1 := by omega
    refine tilt_takeU 9 (v := .pointer (some ⟨g7, n * 5, none⟩)) (some 36) (by decide) rfl rfl (by kernel_rfl) (by kernel_rfl) (by kernel_rfl) (fun _ _ _ h => h) (Or.inl ⟨by rfl, fun u => by go_simp⟩) (unhide HS7) ?_
    try simp only [Act.put, List.setIfInBounds_toArray, List.set_cons_zero, List.set_cons_succ]
    refine tilt_takeU 11 (v := .pointer (some ⟨gr, 0, none⟩)) (some 37) (by decide) rfl rfl (by kernel_rfl) (by kernel_rfl) (by kernel_rfl) (fun _ _ _ h => h) (Or.inl ⟨by rfl, fun u => by go_simp⟩) (unhide HS7) ?_
    try simp only [Act.put, List.setIfInBounds_toArray, List.set_cons_zero, List.set_cons_succ]
    refine tilt_takeU 12 (v := .pointer (some ⟨gr, 3, none⟩)) (some 38) (by decide) rfl rfl (by kernel_rfl) (by kernel_rfl) (by kernel_rfl) (fun _ _ _ h => h) (Or.inl ⟨by rfl, fun u => by go_simp⟩) (unhide HS7) ?_
    try simp only [Act.put, List.setIfInBounds_toArray, List.set_cons_zero, List.set_cons_succ]
    refine tilt_takeU 13 (v := .pointer (some ⟨gr, 3, none⟩)) (some 39) (by decide) rfl rfl (by kernel_rfl) (by kernel_rfl) (by kernel_rfl) (fun _ _ _ h => h) (Or.inl ⟨by rfl, fun u => by go_simp⟩) (unhide HS7) ?_
    try simp only [Act.put, List.setIfInBounds_toArray, List.set_cons_zero, List.set_cons_succ]
    have HFL : Hid ((flat V n).length = n * 5) := hide (flat_len V n (fun j hj => (unhide HRA).row j (by have := unhide HN; omega)))
    have hrow7 : ∃ cur, w7.heap[g7]? = some (.cells cur 51 (0, 0)) := by
      rcases (unhide H7).1.2 with ⟨e1, _⟩ | ⟨g, cap', cur, e1, _, hg, _⟩
      · cases e1
      · cases e1; exact ⟨cur, hg⟩
    obtain ⟨cur7, hcur7⟩ := hrow7
    have r0 : w7.cell? ⟨g7, n * 5, none⟩ = some (.int .i64 0) := by
      have q := (unhide H7).1.cells (g := g7) rfl (n * 5) (.int .i64 0) (by rw [List.getElem?_append_right (by rw [unhide HFL]; omega), unhide HFL]; simp)
      have ha : (⟨g7, 0, none⟩ : Addr).add (n * 5) = ⟨g7, n * 5, none⟩ := by unfold Addr.add; split <;> simp_all
      rw [ha] at q
      exact q
    have q0 : w7.frozen? ⟨g7, n * 5, none⟩ = false := frozen_of_row w7 g7 (n * 5) _ _ hcur7
    have r1 : w7.cell? ⟨g7, n * 5 + 1, none⟩ = some (.int .i64 0) := by
      have q := (unhide H7).1.cells (g := g7) rfl (n * 5 + 1) (.int .i64 0) (by rw [List.getElem?_append_right (by rw [unhide HFL]; omega), unhide HFL]; simp)
      have ha : (⟨g7, 0, none⟩ : Addr).add (n * 5 + 1) = ⟨g7, n * 5 + 1, none⟩ := by unfold Addr.add; split <;> simp_all
      rw [ha] at q
      exact q
    have q1 : w7.frozen? ⟨g7, n * 5 + 1, none⟩ = false := frozen_of_row w7 g7 (n * 5 + 1) _ _ hcur7
    have r2 : w7.cell? ⟨g7, n * 5 + 2, none⟩ = some (.string ⟨#[]⟩) := by
      have q := (unhide H7).1.cells (g := g7) rfl (n * 5 + 2) (.string ⟨#[]⟩) (by rw [List.getElem?_append_right (by rw [unhide HFL]; omega), unhide HFL]; simp)
      have ha : (⟨g7, 0, none⟩ : Addr).add (n * 5 + 2) = ⟨g7, n * 5 + 2, none⟩ := by unfold Addr.add; split <;> simp_all
      rw [ha] at q
      exact q
    have q2 : w7.frozen? ⟨g7, n * 5 + 2, none⟩ = false := frozen_of_row w7 g7 (n * 5 + 2) _ _ hcur7
    have r3 : w7.cell? ⟨g7, n * 5 + 3, none⟩ = some (.slice none 0 0) := by
      have q := (unhide H7).1.cells (g := g7) rfl (n * 5 + 3) (.slice none 0 0) (by rw [List.getElem?_append_right (by rw [unhide HFL]; omega), unhide HFL]; simp)
      have ha : (⟨g7, 0, none⟩ : Addr).add (n * 5 + 3) = ⟨g7, n * 5 + 3, none⟩ := by unfold Addr.add; split <;> simp_all
      rw [ha] at q
      exact q
    have q3 : w7.frozen? ⟨g7, n * 5 + 3, none⟩ = false := frozen_of_row w7 g7 (n * 5 + 3) _ _ hcur7
    have r4 : w7.cell? ⟨g7, n * 5 + 4, none⟩ = some (.slice none 0 0) := by
      have q := (unhide H7).1.cells (g := g7) rfl (n * 5 + 4) (.slice none 0 0) (by rw [List.getElem?_append_right (by rw [unhide HFL]; omega), unhide HFL]; simp)
      have ha : (⟨g7, 0, none⟩ : Addr).add (n * 5 + 4) = ⟨g7, n * 5 + 4, none⟩ := by unfold Addr.add; split <;> simp_all
      rw [ha] at q
      exact q
    have q4 : w7.frozen? ⟨g7, n * 5 + 4, none⟩ = false := frozen_of_row w7 g7 (n * 5 + 4) _ _ hcur7
    have hne7 : g7 ≠ gr := fun e => by have := ((unhide H7).1.lt g7 rfl).1; omega
    have s3 : w7.cell? ⟨gr, 3, none⟩ = some (.slice aC n cC) := (unhide HS7).1
    have t3 : w7.frozen? ⟨gr, 3, none⟩ = false := frozen_of_row w7 gr 3 _ _ (unhide HGR7)
    have HGB7 : Hid (gb ≠ g7) := hide (fun e => by
      rcases (unhide H7).2.2.1 with q | q
      · have := ((unhide HGB) g7 q).2; have := (unhide HB9).low; omega
      · have := lt_of_row (unhide HA).2.2.2; omega)
    have HFIN : Hid (∀ w9, w9.ownsRow (gr + 1) 51 5 (.slice (some ⟨g7, 0, none⟩) (n + 1) cap7) (n + 1) (flat V n ++ [.int .i64 x0, .int .i64 x1, .string x2, .slice al ll cl, .slice ak mm ck]) → w9.heap[gr]? = some (.cells #[vb, .slice bo e bc, .int .i64 nx, (.slice (some ⟨g7, 0, none⟩) (n + 1) cap7), F, X] 40 (0, 0)) → (∀ b, b ≠ gr → b ≠ g7 → w9.heap[b]? = w7.heap[b]?) → w9.heap.size = w7.heap.size → Below gr w7 w9 → ∃ C' V', RdM w0 I w9 gr vb (.slice bo e bc) nx C' F X ⟨m.cs ++ [y], m.fs, m.xs⟩ V') := hide (fun w9 k1 k2 k3 k4 k5 => by
      have hgw := unhide HGW
      have hB7 : Below gr wa w7 := (Below.refl _ _).grown (unhide H7).2.1 (by have := (unhide HRW).lt; omega) (fun k e => by have := ((unhide HGB) k e).1; omega)
      have hat : (Value.slice aC n cC).ownBlock = some g7 ∨ wa.heap.size ≤ g7 := by
        rcases (unhide H7).2.2.1 with q | q
        · exact Or.inl q
        · exact Or.inr (by omega)
      have hIP := (unhide HYI) _ _ _ (unhide HB9).said
      have hIP2 := IsP.to (w' := wa) (Q := fun b => w.heap.size ≤ b ∧ b < wa.heap.size) (fun b hb => (unhide HA).2.1.block b hb.2) (fun b hb => ⟨hb.1, Nat.lt_of_lt_of_le hb.2 (unhide HA).2.1.size⟩) hIP
      exact ⟨_, _, (unhide HRW).pushC (lo := w.heap.size) (unhide HN) (unhide HF7) (unhide H7).2.1.size hB7 hat k1 k2 k3 k4 k5 rfl hIP2 (fun b hb => ((unhide HGB) b hb).2) (fun b hb => (unhide HLF) b hb) (fun b hb => (unhide HLX) b hb) hgw⟩)
    refine tilt_two 10 (by decide) (by kernel_rfl) rfl rfl (fun K hK => ?_) (fun K hK => ?_)
    · go_simp
      change K _ (five5 w7 g7 (n * 5) (.int .i64 x0) (.int .i64 x1) (.string x2) (.slice al ll cl) (.slice ak mm ck))
      have o8 := own_five (unhide HFL) (unhide H7).1 (.int .i64 x0) (.int .i64 x1) (.string x2) (.slice al ll cl) (.slice ak mm ck)
      have e8 := fun q hq => five5_other w7 g7 (n * 5) q (.int .i64 x0) (.int .i64 x1) (.string x2) (.slice al ll cl) (.slice ak mm ck) hq
      have z8 := five5_size w7 g7 (n * 5) (.int .i64 x0) (.int .i64 x1) (.string x2) (.slice al ll cl) (.slice ak mm ck)
      have b8 := five5_below (o := n * 5) (Below.refl gr w7) (show gr ≤ g7 by have := ((unhide H7).1.lt g7 rfl).1; omega) (.int .i64 x0) (.int .i64 x1) (.string x2) (.slice al ll cl) (.slice ak mm ck)
      obtain ⟨w8, hw8⟩ : ∃ w8, five5 w7 g7 (n * 5) (.int .i64 x0) (.int .i64 x1) (.string x2) (.slice al ll cl) (.slice ak mm ck) = w8 := ⟨_, rfl⟩
      rw [hw8] at o8 e8 z8 b8 ⊢
      have HW8 := hide (And.intro o8 (And.intro e8 (And.intro z8 b8)))
      have HGR8 : Hid (w8.heap[gr]? = some (.cells #[vb, .slice bo e bc, .int .i64 nx, .slice aC n cC, F, X] 40 (0, 0))) := hide ((e8 gr (Ne.symm hne7)).trans (unhide HGR7))
      have s8 : w8.cell? ⟨gr, 3, none⟩ = some (.slice aC n cC) := (row_cells6 (unhide HGR8)).2.2.2.1
      have t8 : w8.frozen? ⟨gr, 3, none⟩ = false := frozen_of_row w8 gr 3 _ _ (unhide HGR8)
      refine hK.out _ _ ⟨s8, (e8 gb (unhide HGB7)).trans (unhide HS7).2⟩ ?_
      clear hK K hw8 o8 e8 z8 b8
      try simp only [Act.put, List.setIfInBounds_toArray, List.set_cons_zero, List.set_cons_succ]
      refine tilt_last (by kernel_rfl) rfl (fun K hK => ?_)
      go_simp
      refine hK.out _ _ ?_
      clear hK K
      try simp only [Act.put, List.setIfInBounds_toArray, List.set_cons_zero, List.set_cons_succ]
      refine any_done (by kernel_rfl) ?_ _
      go_wp2_with fail
      go_ret
      obtain ⟨k1, k2, k3, k4⟩ := unhide HW8
      refine ⟨rfl, unhide HFIN _ ?_ ?_ ?_ ?_ ?_⟩
      · exact own_later k1 (fun b _ hv => by rw [heap_setCell_other _ _ _ _ (by rw [← own_sl hv]; exact hne7)])
      · rw [heap_setCell_same w8 gr 3 _ _ _ (unhide HGR8)]; rfl
      · intro b h1 h2; rw [heap_setCell_other _ _ _ _ (by simpa using h1)]; exact k2 b h2
      · simpa using k3
      · exact k4.setCell (p := ⟨gr, 3, none⟩) (Nat.le_refl _) _
    · go_simp
      have e8 := fun q (hq : q ≠ gr) => heap_setCell_other w7 ⟨gr, 3, none⟩ q (.slice (some ⟨g7, 0, none⟩) (n + 1) cap7) hq
      have g8 := heap_setCell_same w7 gr 3 _ _ (.slice (some ⟨g7, 0, none⟩) (n + 1) cap7) (unhide HGR7)
      have z8 : (w7.setCell ⟨gr, 3, none⟩ (.slice (some ⟨g7, 0, none⟩) (n + 1) cap7)).heap.size = w7.heap.size := by simp
      have b8 := (Below.refl gr w7).setCell (p := ⟨gr, 3, none⟩) (Nat.le_refl _) (.slice (some ⟨g7, 0, none⟩) (n + 1) cap7)
      have o8 : (w7.setCell ⟨gr, 3, none⟩ (.slice (some ⟨g7, 0, none⟩) (n + 1) cap7)).ownsRow (gr + 1) 51 5 (.slice (some ⟨g7, 0, none⟩) (n + 1) cap7) (n + 1) (flat V n ++ [.int .i64 0, .int .i64 0, .string ⟨#[]⟩, .slice none 0 0, .slice none 0 0]) := own_later (unhide H7).1 (fun b _ hv => by rw [heap_setCell_other _ _ _ _ (by rw [← own_sl hv]; exact hne7)])
      obtain ⟨w8, hw8⟩ : ∃ w8, w7.setCell ⟨gr, 3, none⟩ (.slice (some ⟨g7, 0, none⟩) (n + 1) cap7) = w8 := ⟨_, rfl⟩
      rw [hw8] at e8 g8 z8 b8 o8 ⊢
      have HW8 := hide (And.intro o8 (And.intro e8 (And.intro z8 (And.intro b8 g8))))
      have rr0 := (World.cell?_of_block (a := ⟨g7, n * 5, none⟩) (e8 g7 hne7)).trans r0
      have qq0 : w8.frozen? ⟨g7, n * 5, none⟩ = false := frozen_of_row w8 g7 (n * 5) _ _ ((e8 g7 hne7).trans hcur7)
      have rr1 := (World.cell?_of_block (a := ⟨g7, n * 5 + 1, none⟩) (e8 g7 hne7)).trans r1
      have qq1 : w8.frozen? ⟨g7, n * 5 + 1, none⟩ = false := frozen_of_row w8 g7 (n * 5 + 1) _ _ ((e8 g7 hne7).trans hcur7)
      have rr2 := (World.cell?_of_block (a := ⟨g7, n * 5 + 2, none⟩) (e8 g7 hne7)).trans r2
      have qq2 : w8.frozen? ⟨g7, n * 5 + 2, none⟩ = false := frozen_of_row w8 g7 (n * 5 + 2) _ _ ((e8 g7 hne7).trans hcur7)
      have rr3 := (World.cell?_of_block (a := ⟨g7, n * 5 + 3, none⟩) (e8 g7 hne7)).trans r3
      have qq3 : w8.frozen? ⟨g7, n * 5 + 3, none⟩ = false := frozen_of_row w8 g7 (n * 5 + 3) _ _ ((e8 g7 hne7).trans hcur7)
      have rr4 := (World.cell?_of_block (a := ⟨g7, n * 5 + 4, none⟩) (e8 g7 hne7)).trans r4
      have qq4 : w8.frozen? ⟨g7, n * 5 + 4, none⟩ = false := frozen_of_row w8 g7 (n * 5 + 4) _ _ ((e8 g7 hne7).trans hcur7)
      refine hK.out _ _ ?_
      clear hK K hw8 o8 e8 z8 b8 g8
      try simp only [Act.put, List.setIfInBounds_toArray, List.set_cons_zero, List.set_cons_succ]
      refine any_one 10 (by kernel_rfl) rfl (fun K hK => ?_)
      go_simp
      change K _ (five5 w8 g7 (n * 5) (.int .i64 x0) (.int .i64 x1) (.string x2) (.slice al ll cl) (.slice ak mm ck))
      obtain ⟨w9, hw9⟩ : ∃ w9, five5 w8 g7 (n * 5) (.int .i64 x0) (.int .i64 x1) (.string x2) (.slice al ll cl) (.slice ak mm ck) = w9 := ⟨_, rfl⟩
      rw [hw9]
      have HW9 := hide hw9
      refine hK.out _ _ ?_
      clear hK K hw9
      try simp only [Act.put, List.setIfInBounds_toArray, List.set_cons_zero, List.set_cons_succ]
      refine any_done (by kernel_rfl) ?_ _
      go_wp2_with fail
      go_ret
      obtain ⟨k1, k2, k3, k4, k5⟩ := unhide HW8
      refine ⟨rfl, unhide HFIN _ ?_ ?_ ?_ ?_ ?_⟩
      · rw [← unhide HW9]; exact own_five (unhide HFL) k1 (.int .i64 x0) (.int .i64 x1) (.string x2) (.slice al ll cl) (.slice ak mm ck)
      · rw [← unhide HW9, five5_other _ _ _ _ _ _ _ _ _ (Ne.symm hne7), k5]; rfl
      · intro b h1 h2; rw [← unhide HW9, five5_other _ _ _ _ _ _ _ _ _ h2]; exact k2 b h1
      · rw [← unhide HW9, five5_size]; exact k3
      · rw [← unhide HW9]; exact five5_below k4 (by have := ((unhide H7).1.lt g7 rfl).1; omega) (.int .i64 x0) (.int .i64 x1) (.string x2) (.slice al ll cl) (.slice ak mm ck)

theorem keepY_none : KeepY (fun _ _ _ => True) := fun _ _ _ _ _ _ _ _ _ _ _ => trivial
theorem keepY_val (v : Vl) : KeepY (fun u B x => IsP u (fun b => B ≤ b ∧ b < u.heap.size) v x) := fun w w' B B' g x h hB hg hs hk =>
  IsP.to (fun b hb => hk b hb.2 (by omega)) (fun b hb => ⟨Nat.le_trans hB hb.1, Nat.lt_of_lt_of_le hb.2 hs⟩) h

theorem readC_any (w0 : World) (I : Nat → Obj → Prop) (gr : Nat) (vb : Value) (bo : Option Addr) (e bc : Nat) (a : Nat) (C F X : Value) (m : Md) (V : Nat → List Value) (bs : List Int) (w : World) (h : RdM w0 I w gr vb (.slice bo e bc) a C F X m V) (hy : Row8 w0 bo e bc bs) (hg : w0.heap.size ≤ gr) (hm : bc ≤ maxLen) (hl : m.cs.length ≤ 100) :
    Calls Try.prog 35 #[.pointer (some ⟨gr, 0, none⟩)] w fun e' w' => ResRd w0 I gr vb (.slice bo e bc) (rdC bs m a) e' w' := by
  have CT := fun u (hu : Below w.heap.size w u) => take_any bo e bc bs (a : Int) u ((h.later hu).bytes hy hg) hm
  unfold rdC
  cases hT : takeR bs (a : Int) with
  | error p =>
    obtain ⟨c, nx⟩ := p
    rw [hT] at CT
    have hc := take_codeM hT
    refine (readC_bad w0 I gr vb bo e bc a C F X m V w h (fun _ _ _ => True) keepY_none nx c hc (fun u hu => (CT u hu).mono ?_)).mono ?_
    · rintro e5 w5 ⟨rfl, b5⟩
      exact ⟨0, 0, ⟨#[]⟩, none, none, 0, 0, 0, 0, rfl, trivial, b5⟩
    · rintro e5 w5 ⟨rfl, r5⟩
      exact ⟨rfl, _, _, _, _, _, r5⟩
  | ok p =>
    obtain ⟨v, n⟩ := p
    rw [hT] at CT
    refine (readC_ok w0 I gr vb bo e bc a C F X m V w h (fun u B x => IsP u (fun b => B ≤ b ∧ b < u.heap.size) v x) (keepY_val v) (n : Int) 0 rfl hl v (fun _ _ _ h => h) (fun u hu => (CT u hu).mono ?_)).mono ?_
    · rintro e5 w5 ⟨x5, rfl, p5, b5⟩
      obtain ⟨k5, n5, s5, l5, ks5, al5, ak5, cl5, ck5, _, rfl⟩ := p5.shape
      exact ⟨k5, n5, s5, al5, ak5, _, cl5, _, ck5, rfl, p5, b5⟩
    · rintro e5 w5 ⟨rfl, C', V', r5⟩
      exact ⟨rfl, C', F, X, V', r5⟩
end Go.Proofs.Ytfdnhpmldnmncaa
