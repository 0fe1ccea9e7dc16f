/-
  The walks of many and few: how many parts a value has; no conditions but the form's own reach.
  A step of a region that draws: make; no conditions.
  The reader of wire: its small steps, each with the fault that it panics with; conditions: the weight so far is at most 2048, the form's own reach.
-/
import Derived.Test.YtfdnhpmldnmncaaR07
import Derived.WalkSpells
import Derived.WalkSmall
import Derived.Deep.AppendLies
import Derived.OwnWalk
import Derived.Test.YtfdnhpmldnmncaaR02
import Derived.Deep.QuietTactic
import Derived.BigQuiet
namespace Go.Proofs.Ytfdnhpmldnmncaa
open Go.RowKit

def cntL : List Vl → Nat
  | [] => 0
  | .mk _ _ _ l _ :: r => (1 + cntL l) + cntL r
def cnt : Vl → Nat
  | .mk _ _ _ l _ => 1 + cntL l
theorem cntL_nil : cntL [] = 0 := by simp only [cntL]
theorem cntL_cons (x : Vl) (r : List Vl) : cntL (x :: r) = cnt x + cntL r := by cases x; simp only [cntL, cnt]

theorem cntL_app (a b : List Vl) : cntL (a ++ b) = cntL a + cntL b := by
  induction a with
  | nil => simp [cntL_nil]
  | cons x r ih => simp [cntL_cons, ih]; omega

theorem cntL_next (l : List Vl) (i : Nat) (x : Vl) (h : l[i]? = some x) : cntL (l.take (i + 1)) = cntL (l.take i) + cnt x := by
  obtain ⟨hi, rfl⟩ := List.getElem?_eq_some_iff.1 h
  rw [List.take_succ_eq_append_getElem hi, cntL_app, cntL_cons, cntL_nil, Nat.add_zero]

theorem cntL_take_le (l : List Vl) (i : Nat) : cntL (l.take i) ≤ cntL l := by
  have h := cntL_app (l.take i) (l.drop i)
  rw [List.take_append_drop] at h
  omega

theorem cnt_pos (v : Vl) : 1 ≤ cnt v := by cases v; simp only [cnt]; omega

theorem len_cntL (l : List Vl) : l.length ≤ cntL l := by
  induction l with
  | nil => simp [cntL_nil]
  | cons x r ih => have := cnt_pos x; simp [cntL_cons]; omega

theorem cntL_wt : ∀ (l : List Vl), cntL l ≤ wtL l
  | [] => by simp [cntL_nil]
  | .mk _ _ s l ks :: r => by have := cntL_wt l; have := cntL_wt r; simp only [cntL, wtL]; omega
theorem cnt_wt (v : Vl) : cnt v ≤ wt v := by
  cases v with
  | mk k n s l ks => have := cntL_wt l; simp only [cnt, wt]; omega

theorem dep_elem (l : List Vl) (i : Nat) (x : Vl) (h : l[i]? = some x) : dep x ≤ depL l := by
  have h1 := depL_next l i x h
  have h2 := depL_app (l.take (i + 1)) (l.drop (i + 1))
  rw [List.take_append_drop] at h2
  omega

end Go.Proofs.Ytfdnhpmldnmncaa

namespace Go.Proofs.Ytfdnhpmldnmncaa
open Go.RowKit

/-- 'make([]T, 0, n)', as one step of a region that draws -/
theorem step_make_own {P : Program} {ops : Array Oper} {o : Oper} {a : Act} {w : World} {K : Act → World → Prop} {Q : Exit → Act → World → Prop} {E : Prop}
    (hg : o.guard = none) (l c : Operand) (t : TypeId) (hop : o.op = Op.makeSlice t l c)
    (base : Nat) (e : TypeId) (i : TypeInfo) (z : Value) (size : Nat) (h1 : P.underlying t = some (.slice e)) (h2 : P.info? e = some i) (h3 : i.zero = some z) (h4 : i.size = size)
    (kl kc : IntKind) (C : Int) (n : Nat) (hl : a.eval l = .int kl 0) (hc : a.eval c = .int kc C) (hC : C = (n : Int)) (b2 : i.bytes * n ≤ 281474976710656) (b3 : n ≤ maxLen) (b4 : base ≤ w.heap.size)
    (hK : ∀ w', w'.ownsRow base e size (.slice (some ⟨w.heap.size, 0, none⟩) 0 n) 0 [] → w.grownBy w' none → K (a.put o.dst (.slice (some ⟨w.heap.size, 0, none⟩) 0 n)) w') :
    if Region.wanted o (yielded ops a.tmps) = true then Oper.wp P o a w K Q else E := by
  have hw : Region.wanted o (yielded ops a.tmps) = true := by simp [Region.wanted, hg]
  rw [if_pos hw]
  obtain ⟨w', hrun, r1, r2⟩ := run_make_own (P := P) w base t e i z size h1 h2 h3 h4 kl kc n b2 b3 b4
  subst hC
  unfold Oper.wp
  simp [execOp, hop, hl, hc, hrun, Result.andThen]
  exact hK w' r1 r2
end Go.Proofs.Ytfdnhpmldnmncaa

namespace Go.Proofs.Ytfdnhpmldnmncaa
open Go.RowKit

/-- all but one block as before -/
structure Beside (gr : Nat) (w w' : World) : Prop where
  os : w'.os = w.os
  tape : w'.tape = w.tape
  output : w'.output = w.output
  size : w.heap.size ≤ w'.heap.size
  block : ∀ k, k < w.heap.size → k ≠ gr → w'.heap[k]? = w.heap[k]?

theorem Beside.refl (gr : Nat) (w : World) : Beside gr w w := ⟨rfl, rfl, rfl, Nat.le_refl _, fun _ _ _ => rfl⟩
theorem Beside.trans {gr : Nat} {w w1 w2 : World} (h : Beside gr w w1) (h' : Beside gr w1 w2) : Beside gr w w2 :=
  ⟨h'.os.trans h.os, h'.tape.trans h.tape, h'.output.trans h.output, Nat.le_trans h.size h'.size, fun k hk hn => (h'.block k (Nat.lt_of_lt_of_le hk h.size) hn).trans (h.block k hk hn)⟩
theorem Beside.of_below {gr : Nat} {w w' : World} (h : Below w.heap.size w w') : Beside gr w w' :=
  ⟨h.os, h.tape, h.output, h.size, fun k hk _ => h.block k hk⟩
theorem Beside.below {gr B : Nat} {w w' : World} (h : Beside gr w w') (hB : B ≤ gr) (hs : B ≤ w.heap.size) : Below B w w' :=
  ⟨h.os, h.tape, h.output, h.size, fun k hk => h.block k (by omega) (by omega)⟩
theorem Beside.drew {gr : Nat} {w w' : World} (h : Beside gr w w') (n : Nat) : Beside gr w (w'.drewN n) :=
  h.trans (Beside.of_below (below_drewN (Below.refl _ _) n))
theorem Beside.set {gr f : Nat} {w w' : World} {v : Value} (h : Beside gr w w') : Beside gr w (w'.setCell ⟨gr, f, none⟩ v) := by
  have hb := (Below.refl 0 w').setCell (p := ⟨gr, f, none⟩) (Nat.zero_le _) v
  exact ⟨hb.os.trans h.os, hb.tape.trans h.tape, hb.output.trans h.output, Nat.le_trans h.size hb.size, fun k hk hn => by rw [heap_setCell_other _ _ _ _ hn]; exact h.block k hk hn⟩

/-- the reader: its bytes, its place, the weight so far -/
def Rdr (w : World) (gr : Nat) (bv : Value) (p t : Int) : Prop := w.heap[gr]? = some (.cells #[bv, .int .i64 p, .int .i64 t] 106 (0, 0))

theorem Rdr.cells {w : World} {gr : Nat} {bv : Value} {p t : Int} (h : Rdr w gr bv p t) :
    w.cell? ⟨gr, 0, none⟩ = some bv ∧ w.cell? ⟨gr, 1, none⟩ = some (.int .i64 p) ∧ w.cell? ⟨gr, 2, none⟩ = some (.int .i64 t) ∧ w.frozen? ⟨gr, 1, none⟩ = false ∧ w.frozen? ⟨gr, 2, none⟩ = false := by
  refine ⟨?_, ?_, ?_, frozen_of_row w gr 1 _ _ h, frozen_of_row w gr 2 _ _ h⟩ <;> (unfold Rdr at h; simp [World.cell?, h])

theorem Rdr.lt {w : World} {gr : Nat} {bv : Value} {p t : Int} (h : Rdr w gr bv p t) : gr < w.heap.size := by
  unfold Rdr at h
  exact (Array.getElem?_eq_some_iff.1 h).1

/-- the fault that is panicked with -/
def fault (c p : Int) : Ending := .panicked [{ v := .iface 108 (.agg #[.int .i64 c, .int .i64 p]), recovered := false }]

theorem Rdr.setAt {w : World} {gr : Nat} {bv : Value} {p t : Int} (h : Rdr w gr bv p t) (q : Int) : Rdr (w.setCell ⟨gr, 1, none⟩ (.int .i64 q)) gr bv q t := by
  unfold Rdr at h ⊢
  rw [heap_setCell_same w gr 1 _ _ _ h]
  rfl
theorem Rdr.setWt {w : World} {gr : Nat} {bv : Value} {p t : Int} (h : Rdr w gr bv p t) (q : Int) : Rdr (w.setCell ⟨gr, 2, none⟩ (.int .i64 q)) gr bv p q := by
  unfold Rdr at h ⊢
  rw [heap_setCell_same w gr 2 _ _ _ h]
  rfl
theorem Rdr.drewN {w : World} {gr : Nat} {bv : Value} {p t : Int} (h : Rdr w gr bv p t) (n : Nat) : Rdr (w.drewN n) gr bv p t := by
  unfold Rdr at h ⊢
  rw [← h]
  exact (below_drewN (Below.refl _ w) n).block gr (Array.getElem?_eq_some_iff.1 h).1

/-- the bytes that it reads -/
structure Src (w : World) (gr : Nat) (ao : Option Addr) (len cap : Nat) (zs : List Int) : Prop where
  row : Row8 w ao len cap zs
  apart : ∀ ad, ao = some ad → 0 < len → ad.block < gr
  lt : gr < w.heap.size
  cap : cap ≤ maxLen

theorem Src.later {w w' : World} {gr : Nat} {ao : Option Addr} {len cap : Nat} {zs : List Int} (h : Src w gr ao len cap zs) (hb : Beside gr w w') : Src w' gr ao len cap zs :=
  ⟨h.row.later' (hb.below (Nat.le_refl _) (Nat.le_of_lt h.lt)) h.apart, h.apart, Nat.lt_of_lt_of_le h.lt hb.size, h.cap⟩


theorem weigh_bad (gr : Nat) (bv : Value) (p t n q : Int) (w : World) (h : Rdr w gr bv p t) (ht : 0 ≤ t ∧ t ≤ 2048) (hn : 0 ≤ n ∧ n ≤ 140737488355328) (hc : 2048 < t + n) :
    Calls Try.prog 89 #[.pointer (some ⟨gr, 0, none⟩), .int .i64 n, .int .i64 q] w fun e w' => e = fault 42 q ∧ Beside gr w w' := by
  obtain ⟨c0, c1, c2, f1, f2⟩ := h.cells
  have hw : IntKind.i64.wrap (t + n) = t + n := by rw [IntKind.wrap_i64]; omega
  have HR := hide h
  clear h
  go_enter Try.func89, Try.ntmps89
  go_wp2_with fail
  exact ⟨rfl, rfl, (Beside.refl _ _).set⟩

theorem weigh_ok (gr : Nat) (bv : Value) (p t n q : Int) (w : World) (h : Rdr w gr bv p t) (ht : 0 ≤ t ∧ t ≤ 2048) (hn : 0 ≤ n ∧ n ≤ 140737488355328) (hc : ¬ 2048 < t + n) :
    Calls Try.prog 89 #[.pointer (some ⟨gr, 0, none⟩), .int .i64 n, .int .i64 q] w fun e w' => e = .returned (.tuple #[]) ∧ Rdr w' gr bv p (t + n) ∧ Beside gr w w' := by
  obtain ⟨c0, c1, c2, f1, f2⟩ := h.cells
  have hw : IntKind.i64.wrap (t + n) = t + n := by rw [IntKind.wrap_i64]; omega
  have HR := hide h
  clear h
  go_enter Try.func89, Try.ntmps89
  go_wp2_with fail
  go_end0
  exact ⟨rfl, (unhide HR).setWt _, (Beside.refl _ _).set⟩

theorem Src.byte {w : World} {gr : Nat} {ao : Option Addr} {len cap a : Nat} {zs : List Int} {c : Int} (h : Src w gr ao len cap zs) (ha : zs[a]? = some c) :
    a < len ∧ 0 ≤ c ∧ c ≤ 255 ∧ ∃ b off, ao = some ⟨b, off, none⟩ ∧ b < gr ∧ ∀ w', Beside gr w w' → w'.cell? ⟨b, off + a, none⟩ = some (.int .u8 c) := by
  have hal : a < len := by rw [← h.row.length]; exact (List.getElem?_eq_some_iff.1 ha).1
  obtain ⟨b, off, rfl, _⟩ := h.row.at (by omega)
  have hs := h.row.small c (List.mem_of_getElem? ha)
  refine ⟨hal, hs.1, hs.2, b, off, rfl, h.apart _ rfl (by omega), fun w' hw => ?_⟩
  obtain ⟨b', off', e, hz⟩ := (h.later hw).row.at (by omega)
  cases e
  rw [hz a hal]
  simp [List.getD, ha]

/-- tag: the bytes are at their end -/
theorem tag_end (gr : Nat) (ao : Option Addr) (len cap : Nat) (t wi : Int) (w : World) (h : Rdr w gr (.slice ao len cap) len t) (_ : len ≤ maxLen) :
    Calls Try.prog 83 #[.pointer (some ⟨gr, 0, none⟩), .int .i64 wi] w fun e w' => e = fault 41 len ∧ Beside gr w w' := by
  obtain ⟨c0, c1, c2, f1, f2⟩ := h.cells
  have HR := hide h
  have hd : decide ((len : Int) = (len : Int)) = true := by simp
  clear h
  go_enter Try.func83, Try.ntmps83
  go_upto_region 1 with fail
  go_quiet (fail)
  go_wp2_with fail
  exact ⟨rfl, rfl, (Beside.refl _ _).drew _⟩

theorem tag_wrong (gr : Nat) (ao : Option Addr) (len cap a : Nat) (c t wi : Int) (zs : List Int) (w : World) (h : Rdr w gr (.slice ao len cap) a t) (hS : Src w gr ao len cap zs) (ha : zs[a]? = some c) (hc : 6 < c) :
    Calls Try.prog 83 #[.pointer (some ⟨gr, 0, none⟩), .int .i64 wi] w fun e w' => e = fault 41 a ∧ Beside gr w w' := by
  obtain ⟨c0, c1, c2, f1, f2⟩ := h.cells
  have hm := hS.cap
  have hle := hS.row.le
  obtain ⟨hal, s0, s1, b, off, rfl, hbg, hz⟩ := hS.byte ha
  have ce := hz w (Beside.refl _ _)
  have hd : ((a : Int) == (len : Int)) = false := by simp; omega
  have i0 : (0 : Int) ≤ (a : Int) := by omega
  have i1 : (a : Int) < (len : Int) := by omega
  clear h hz hS ha
  go_enter Try.func83, Try.ntmps83
  go_upto_region 1 with fail
  go_quiet (fail)
  go_wp2_with fail
  exact ⟨rfl, rfl, (Beside.refl _ _).drew _⟩

theorem tag_deep (gr : Nat) (ao : Option Addr) (len cap a : Nat) (c t wi : Int) (zs : List Int) (w : World) (h : Rdr w gr (.slice ao len cap) a t) (hS : Src w gr ao len cap zs) (ha : zs[a]? = some c) (hc : ¬ 6 < c) (hw : 8 ≤ wi) :
    Calls Try.prog 83 #[.pointer (some ⟨gr, 0, none⟩), .int .i64 wi] w fun e w' => e = fault 42 a ∧ Beside gr w w' := by
  obtain ⟨c0, c1, c2, f1, f2⟩ := h.cells
  have hm := hS.cap
  have hle := hS.row.le
  obtain ⟨hal, s0, s1, b, off, rfl, hbg, hz⟩ := hS.byte ha
  have ce := hz w (Beside.refl _ _)
  have hd : ((a : Int) == (len : Int)) = false := by simp; omega
  have i0 : (0 : Int) ≤ (a : Int) := by omega
  have i1 : (a : Int) < (len : Int) := by omega
  clear h hz hS ha
  go_enter Try.func83, Try.ntmps83
  go_upto_region 1 with fail
  go_quiet (fail)
  go_wp2_with fail
  exact ⟨rfl, rfl, (Beside.refl _ _).drew _⟩

theorem tag_heavy (gr : Nat) (ao : Option Addr) (len cap a : Nat) (c t wi : Int) (zs : List Int) (w : World) (h : Rdr w gr (.slice ao len cap) a t) (hS : Src w gr ao len cap zs) (ha : zs[a]? = some c) (hc : ¬ 6 < c) (hw : ¬ 8 ≤ wi) (ht : 0 ≤ t ∧ t ≤ 2048) (hh : 2048 < t + 1) :
    Calls Try.prog 83 #[.pointer (some ⟨gr, 0, none⟩), .int .i64 wi] w fun e w' => e = fault 42 a ∧ Beside gr w w' := by
  obtain ⟨c0, c1, c2, f1, f2⟩ := h.cells
  have hm := hS.cap
  have hle := hS.row.le
  obtain ⟨hal, s0, s1, b, off, rfl, hbg, hz⟩ := hS.byte ha
  have ce := hz w (Beside.refl _ _)
  have hd : ((a : Int) == (len : Int)) = false := by simp; omega
  have i0 : (0 : Int) ≤ (a : Int) := by omega
  have i1 : (a : Int) < (len : Int) := by omega
  have CW := fun n => hide (weigh_bad gr _ a t 1 a (w.drewN n) (h.drewN n) ht (by omega) hh)
  clear h hz hS ha
  go_enter Try.func83, Try.ntmps83
  go_upto_region 1 with fail
  go_quiet (fail)
  go_wp2_with fail
  refine (unhide (CW _)).mono ?_
  rintro e w1 ⟨rfl, b1⟩
  unfold fault
  go_wp2_with fail
  exact ⟨rfl, rfl, ((Beside.refl _ _).drew _).trans b1⟩

theorem tag_ok (gr : Nat) (ao : Option Addr) (len cap a : Nat) (c t wi : Int) (zs : List Int) (w : World) (h : Rdr w gr (.slice ao len cap) a t) (hS : Src w gr ao len cap zs) (ha : zs[a]? = some c) (hc : ¬ 6 < c) (hw : ¬ 8 ≤ wi) (ht : 0 ≤ t ∧ t ≤ 2048) (hh : ¬ 2048 < t + 1) :
    Calls Try.prog 83 #[.pointer (some ⟨gr, 0, none⟩), .int .i64 wi] w fun e w' => e = .returned (.int .u8 c) ∧ Rdr w' gr (.slice ao len cap) ((a + 1 : Nat) : Int) (t + 1) ∧ Beside gr w w' := by
  obtain ⟨c0, c1, c2, f1, f2⟩ := h.cells
  have hm := hS.cap
  have hle := hS.row.le
  obtain ⟨hal, s0, s1, b, off, rfl, hbg, hz⟩ := hS.byte ha
  have ce := hz w (Beside.refl _ _)
  have hd : ((a : Int) == (len : Int)) = false := by simp; omega
  have i0 : (0 : Int) ≤ (a : Int) := by omega
  have i1 : (a : Int) < (len : Int) := by omega
  have hm1 : IntKind.i64.wrap ((a : Int) + 1) = (a : Int) + 1 := by unfold maxLen at hm; rw [IntKind.wrap_i64]; omega
  have CW := fun n => hide (weigh_ok gr _ a t 1 a (w.drewN n) (h.drewN n) ht (by omega) hh)
  have HZ := hide hz
  clear h hz hS ha
  go_enter Try.func83, Try.ntmps83
  go_upto_region 1 with fail
  go_quiet (fail)
  go_wp2_with fail
  refine (unhide (CW _)).mono ?_
  rintro e w1 ⟨rfl, r1, b1⟩
  have B1 := ((Beside.refl gr w).drew _).trans b1
  have ce1 := unhide HZ w1 B1
  clear c0 c1 c2 f1 f2
  obtain ⟨c0, c1, c2, f1, f2⟩ := r1.cells
  have HR := hide (And.intro r1 B1)
  clear r1 b1 B1
  go_upto_region 6 with fail
  go_quiet (fail)
  go_wp2_with fail
  go_ret
  exact ⟨rfl, ((unhide HR).1.drewN _).setAt _, ((unhide HR).2.drew _).set⟩
end Go.Proofs.Ytfdnhpmldnmncaa
