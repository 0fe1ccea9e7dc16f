/-
  Layer 17 (parse): trees in memory; the reader's state; no conditions.
-/
import Derived.Test.YtgalfhlclmkbfaaGreatDoorC01
import Derived.Test.YtgalfhlclmkbfaaGreatDoorC14
import Derived.Deep.QuietTactic
import Derived.BigQuiet
set_option linter.unusedVariables false
set_option linter.unusedSimpArgs false
namespace Go.Proofs.YtgalfhlclmkbfaaGreatDoor
open Go.RowKit
set_option linter.unusedVariables false
set_option linter.unusedSimpArgs false

/-- all but one block as before -/
structure Beside (gr : Nat) (w w' : World) : Prop where
  os : w'.os = w.os
  tape : w'.tape = w.tape
  output : w'.output = w.output
  size : w.heap.size ≤ w'.heap.size
  block : ∀ k, k < w.heap.size → k ≠ gr → w'.heap[k]? = w.heap[k]?

theorem Beside.refl (gr : Nat) (w : World) : Beside gr w w := ⟨rfl, rfl, rfl, Nat.le_refl _, fun _ _ _ => rfl⟩
theorem Beside.trans {gr : Nat} {w w1 w2 : World} (h : Beside gr w w1) (h' : Beside gr w1 w2) : Beside gr w w2 :=
  ⟨h'.os.trans h.os, h'.tape.trans h.tape, h'.output.trans h.output, Nat.le_trans h.size h'.size, fun k hk hn => (h'.block k (Nat.lt_of_lt_of_le hk h.size) hn).trans (h.block k hk hn)⟩
theorem Beside.of_below {gr : Nat} {w w' : World} (h : Below w.heap.size w w') : Beside gr w w' :=
  ⟨h.os, h.tape, h.output, h.size, fun k hk _ => h.block k hk⟩
theorem Beside.below {gr B : Nat} {w w' : World} (h : Beside gr w w') (hB : B ≤ gr) (hs : B ≤ w.heap.size) : Below B w w' :=
  ⟨h.os, h.tape, h.output, h.size, fun k hk => h.block k (by omega) (by omega)⟩
theorem Beside.set {gr f : Nat} {w w' : World} {v : Value} (h : Beside gr w w') : Beside gr w (w'.setCell ⟨gr, f, none⟩ v) := by
  have hb := (Below.refl 0 w').setCell (p := ⟨gr, f, none⟩) (Nat.zero_le _) v
  exact ⟨hb.os.trans h.os, hb.tape.trans h.tape, hb.output.trans h.output, Nat.le_trans h.size hb.size, fun k hk hn => by rw [heap_setCell_other _ _ _ _ hn]; exact h.block k hk hn⟩
theorem Beside.setN {gr q f : Nat} {w w' : World} {v : Value} (h : Beside gr w w') (hq : w.heap.size ≤ q) : Beside gr w (w'.setCell ⟨q, f, none⟩ v) := by
  have hb := (Below.refl 0 w').setCell (p := ⟨q, f, none⟩) (Nat.zero_le _) v
  exact ⟨hb.os.trans h.os, hb.tape.trans h.tape, hb.output.trans h.output, Nat.le_trans h.size hb.size, fun k hk hn => by rw [heap_setCell_other _ _ _ _ (show k ≠ q by omega)]; exact h.block k hk hn⟩
theorem Beside.below' {gr : Nat} {w w1 w2 : World} (h : Beside gr w w1) (h2 : Below w1.heap.size w1 w2) : Beside gr w w2 := h.trans (Beside.of_below h2)

/-- a node's cells -/
def ndC (k : Nat) (t : List UInt8) (vk vn : Nat) (vs : List UInt8) (f : Bool) (n : Nat) (ak : Option Addr) (ck p : Nat) : List Value :=
  [.int .i64 (k : Int), .string (bA t), .int .i64 (vk : Int), .int .i64 (vn : Int), .string (bA vs), .slice none 0 0, .slice none 0 0, .bool f, .slice ak n ck, .int .i64 (p : Int)]
def blkO : Option Addr → List Nat
  | none => []
  | some a => [a.block]

/-- how nodes lie in memory, one behind the other: their cells, and the blocks that they have -/
def IsNL (w : World) : List Nd → List Value → List Nat → Prop
  | [], C, S => C = [] ∧ S = []
  | .mk k t vk vn vs f ks p :: r, C, S => ∃ (ak : Option Addr) (ck : Nat) (C' R : List Value) (S1 S2 : List Nat), C = ndC k t vk vn vs f ks.length ak ck p ++ R ∧ S = blkO ak ++ (S1 ++ S2) ∧ w.ownsRow 0 29 10 (.slice ak ks.length ck) ks.length C' ∧ IsNL w ks C' S1 ∧ IsNL w r R S2

theorem own_mem {w : World} {lo : Nat} {ak : Option Addr} {n ck : Nat} {C : List Value} (h : w.ownsRow lo 29 10 (.slice ak n ck) n C) (b : Nat) (hb : (Value.slice ak n ck).ownBlock = some b) : b ∈ blkO ak := by
  rcases h.2 with ⟨e, _⟩ | ⟨q, cap, cur, e, _⟩
  · injection e with e1 e2 e3
    subst e1
    cases hb
  · injection e with e1 e2 e3
    subst e1
    cases hb
    exact List.mem_singleton.2 rfl

theorem blk_own {w : World} {lo : Nat} {ak : Option Addr} {n ck : Nat} {C : List Value} (h : w.ownsRow lo 29 10 (.slice ak n ck) n C) (b : Nat) (hb : b ∈ blkO ak) : (Value.slice ak n ck).ownBlock = some b := by
  rcases h.2 with ⟨e, _⟩ | ⟨q, cap, cur, e, _⟩
  · injection e with e1 e2 e3
    subst e1
    cases hb
  · injection e with e1 e2 e3
    subst e1
    rw [List.mem_singleton.1 hb]
    rfl

theorem own_at {w w' : World} {base : Nat} {e : TypeId} {size : Nat} {v : Value} {n : Nat} {xs : List Value} (h : w.ownsRow base e size v n xs) (hb : ∀ b, v.ownBlock = some b → w'.heap[b]? = w.heap[b]?) : w'.ownsRow base e size v n xs := by
  refine ⟨h.1, ?_⟩
  rcases h.2 with ⟨e1, e2⟩ | ⟨q, cap, cur, e1, e2, e3, r⟩
  · exact .inl ⟨e1, e2⟩
  · subst e1
    exact .inr ⟨q, cap, cur, rfl, e2, (hb q rfl).trans e3, r⟩
theorem own_lo {w : World} {base lo : Nat} {e : TypeId} {size : Nat} {v : Value} {n : Nat} {xs : List Value} (h : w.ownsRow base e size v n xs) (hb : ∀ b, v.ownBlock = some b → lo ≤ b) : w.ownsRow lo e size v n xs := by
  refine ⟨h.1, ?_⟩
  rcases h.2 with ⟨e1, e2⟩ | ⟨q, cap, cur, e1, e2, r⟩
  · exact .inl ⟨e1, e2⟩
  · subst e1
    exact .inr ⟨q, cap, cur, rfl, hb q rfl, r⟩

theorem IsNL.to {w w' : World} : ∀ (ks : List Nd) (C : List Value) (S : List Nat), IsNL w ks C S → (∀ b ∈ S, w'.heap[b]? = w.heap[b]?) → IsNL w' ks C S
  | [], C, S, h, _ => by simp only [IsNL] at h ⊢; exact h
  | .mk k t vk vn vs f ks p :: r, C, S, h, hw => by
    simp only [IsNL] at h ⊢
    obtain ⟨ak, ck, C', R, S1, S2, hC, hS, ho, h1, h2⟩ := h
    subst hS
    exact ⟨ak, ck, C', R, S1, S2, hC, rfl, own_at ho (fun b hb => hw b (List.mem_append_left _ (own_mem ho b hb))),
      IsNL.to ks C' S1 h1 (fun b hb => hw b (List.mem_append_right _ (List.mem_append_left _ hb))), IsNL.to r R S2 h2 (fun b hb => hw b (List.mem_append_right _ (List.mem_append_right _ hb)))⟩

theorem IsNL.app {w : World} : ∀ (a b : List Nd) (C1 C2 : List Value) (S1 S2 : List Nat), IsNL w a C1 S1 → IsNL w b C2 S2 → IsNL w (a ++ b) (C1 ++ C2) (S1 ++ S2)
  | [], b, C1, C2, S1, S2, h, h' => by
    simp only [IsNL] at h
    obtain ⟨rfl, rfl⟩ := h
    exact h'
  | .mk k t vk vn vs f ks p :: r, b, C1, C2, S1, S2, h, h' => by
    simp only [IsNL] at h
    obtain ⟨ak, ck, C', R, T1, T2, hC, hS, ho, h1, h2⟩ := h
    have ih := IsNL.app r b R C2 T2 S2 h2 h'
    simp only [List.cons_append, IsNL]
    exact ⟨ak, ck, C', R ++ C2, T1, T2 ++ S2, by rw [hC, List.append_assoc], by rw [hS]; simp only [List.append_assoc], ho, h1, ih⟩

theorem ndC_len (k : Nat) (t : List UInt8) (vk vn : Nat) (vs : List UInt8) (f : Bool) (n : Nat) (ak : Option Addr) (ck p : Nat) : (ndC k t vk vn vs f n ak ck p).length = 10 := rfl

theorem IsNL.len {w : World} : ∀ (ks : List Nd) (C : List Value) (S : List Nat), IsNL w ks C S → C.length = ks.length * 10
  | [], C, S, h => by simp only [IsNL] at h; rw [h.1]; rfl
  | .mk k t vk vn vs f ks p :: r, C, S, h => by
    simp only [IsNL] at h
    obtain ⟨ak, ck, C', R, S1, S2, hC, hS, ho, h1, h2⟩ := h
    have ih := IsNL.len r R S2 h2
    rw [hC, List.length_append, ndC_len, ih, List.length_cons]
    omega

theorem IsNL.flat {w : World} : ∀ (ks : List Nd) (C : List Value) (S : List Nat), IsNL w ks C S → ∀ u ∈ C, u.oneCell' = true
  | [], C, S, h => by simp only [IsNL] at h; rw [h.1]; intro u hu; cases hu
  | .mk k t vk vn vs f ks p :: r, C, S, h => by
    simp only [IsNL] at h
    obtain ⟨ak, ck, C', R, S1, S2, hC, hS, ho, h1, h2⟩ := h
    have ih := IsNL.flat r R S2 h2
    intro u hu
    rw [hC, List.mem_append] at hu
    rcases hu with hu | hu
    · simp only [ndC, List.mem_cons, List.not_mem_nil, or_false] at hu
      rcases hu with rfl | rfl | rfl | rfl | rfl | rfl | rfl | rfl | rfl | rfl <;> rfl
    · exact ih u hu

/-- nodes that were made behind a place of memory, each block one's alone -/
structure NdOk (lo : Nat) (w : World) (ks : List Nd) (C : List Value) (S : List Nat) : Prop where
  nl : IsNL w ks C S
  nd : S.Nodup
  rg : ∀ b ∈ S, lo ≤ b ∧ b < w.heap.size
  le : lo ≤ w.heap.size

theorem NdOk.nil {lo : Nat} {w : World} (hl : lo ≤ w.heap.size) : NdOk lo w [] [] [] := ⟨by simp [IsNL], List.nodup_nil, (fun b h => by cases h), hl⟩
theorem NdOk.to {lo : Nat} {w w' : World} {ks : List Nd} {C : List Value} {S : List Nat} (h : NdOk lo w ks C S) (hw : ∀ b, lo ≤ b → b < w.heap.size → b ∈ S → w'.heap[b]? = w.heap[b]?) (hs : w.heap.size ≤ w'.heap.size) : NdOk lo w' ks C S :=
  ⟨IsNL.to ks C S h.nl (fun b hb => hw b (h.rg b hb).1 (h.rg b hb).2 hb), h.nd, fun b hb => ⟨(h.rg b hb).1, Nat.lt_of_lt_of_le (h.rg b hb).2 hs⟩, Nat.le_trans h.le hs⟩
theorem NdOk.low {lo lo' : Nat} {w : World} {ks : List Nd} {C : List Value} {S : List Nat} (h : NdOk lo w ks C S) (hl : lo' ≤ lo) : NdOk lo' w ks C S :=
  ⟨h.nl, h.nd, fun b hb => ⟨Nat.le_trans hl (h.rg b hb).1, (h.rg b hb).2⟩, Nat.le_trans hl h.le⟩
theorem NdOk.beside {lo g : Nat} {w w' : World} {ks : List Nd} {C : List Value} {S : List Nat} (h : NdOk lo w ks C S) (hb : Beside g w w') (hg : g < lo) : NdOk lo w' ks C S :=
  h.to (fun b h1 h2 _ => hb.block b h2 (by omega)) hb.size
theorem NdOk.app {lo mid : Nat} {w : World} {a b : List Nd} {C1 C2 : List Value} {S1 S2 : List Nat} (h1 : NdOk lo w a C1 S1) (hm : ∀ x ∈ S1, x < mid) (h2 : NdOk mid w b C2 S2) (hl : lo ≤ mid) : NdOk lo w (a ++ b) (C1 ++ C2) (S1 ++ S2) :=
  ⟨IsNL.app a b C1 C2 S1 S2 h1.nl h2.nl, List.nodup_append.2 ⟨h1.nd, h2.nd, fun x hx y hy e => by have := hm x hx; have := (h2.rg y hy).1; omega⟩, fun x hx => by
    rcases List.mem_append.1 hx with hx | hx
    · exact h1.rg x hx
    · exact ⟨Nat.le_trans hl (h2.rg x hx).1, (h2.rg x hx).2⟩, h1.le⟩

/-- a row of nodes that is one's own -/
structure Kr (lo : Nat) (w : World) (ks : List Nd) (v : Value) (C : List Value) (S : List Nat) : Prop where
  own : w.ownsRow lo 29 10 v ks.length C
  ok : NdOk lo w ks C S
  apart : ∀ b, v.ownBlock = some b → b ∉ S

theorem Kr.nil {lo : Nat} {w : World} (hl : lo ≤ w.heap.size) : Kr lo w [] (.slice none 0 0) [] [] := ⟨World.ownsRow_nil _ _ _ _, NdOk.nil hl, fun b h => by cases h⟩
theorem Kr.beside {lo g : Nat} {w w' : World} {ks : List Nd} {v : Value} {C : List Value} {S : List Nat} (h : Kr lo w ks v C S) (hb : Beside g w w') (hg : g < lo) : Kr lo w' ks v C S :=
  ⟨own_at h.own (fun b hv => hb.block b (h.own.lt b hv).2 (by have := (h.own.lt b hv).1; omega)), h.ok.beside hb hg, h.apart⟩
theorem Kr.low {lo lo' : Nat} {w : World} {ks : List Nd} {v : Value} {C : List Value} {S : List Nat} (h : Kr lo w ks v C S) (hl : lo' ≤ lo) : Kr lo' w ks v C S :=
  ⟨own_lo h.own (fun b hv => Nat.le_trans hl (h.own.lt b hv).1), h.ok.low hl, h.apart⟩
/-- but for one box beside -/
theorem Kr.but {lo q : Nat} {w w' : World} {ks : List Nd} {v : Value} {C : List Value} {S : List Nat} (h : Kr lo w ks v C S) (hw : ∀ b, b < w.heap.size → b ≠ q → w'.heap[b]? = w.heap[b]?) (hs : w.heap.size ≤ w'.heap.size) (hq : q < lo) : Kr lo w' ks v C S :=
  ⟨own_at h.own (fun b hv => hw b (h.own.lt b hv).2 (by have := (h.own.lt b hv).1; omega)), h.ok.to (fun b h1 h2 _ => hw b h2 (by omega)) hs, h.apart⟩

/-- a node over a row of its own -/
theorem Kr.node {lo : Nat} {w : World} {ks : List Nd} {ak : Option Addr} {ck : Nat} {C : List Value} {S : List Nat} (h : Kr lo w ks (.slice ak ks.length ck) C S) (k : Nat) (t : List UInt8) (vk vn : Nat) (vs : List UInt8) (f : Bool) (p : Nat) :
    NdOk lo w [⟨k, t, vk, vn, vs, f, ks, p⟩] (ndC k t vk vn vs f ks.length ak ck p) (blkO ak ++ S) := by
  refine ⟨?_, ?_, ?_, h.ok.le⟩
  · simp only [IsNL]
    exact ⟨ak, ck, C, [], S, [], by simp, by simp, own_lo h.own (fun b _ => Nat.zero_le _), h.ok.nl, rfl, rfl⟩
  · refine List.nodup_append.2 ⟨?_, h.ok.nd, fun x hx y hy e => ?_⟩
    · cases ak with
      | none => exact List.nodup_nil
      | some a => simp [blkO]
    · subst e
      exact h.apart x (blk_own h.own x hx) hy
  · intro b hb
    rcases List.mem_append.1 hb with hb | hb
    · exact h.own.lt b (blk_own h.own b hb)
    · exact h.ok.rg b hb

/-- where the reader and its tokens lie -/
structure Cx where
  g : Nat
  tb : Nat
  ct : Nat
  ts : List Tk

/-- the reader's state: the tokens that are left, how many are open -/
structure Rd (w : World) (c : Cx) (l : List Tk) (d : Nat) : Prop where
  box : w.heap[c.g]? = some (.cells #[.slice (some ⟨c.tb, 0, none⟩) c.ts.length c.ct, .int .i64 ((c.ts.length - l.length : Nat) : Int), .int .i64 (d : Int)] 60 (0, 0))
  suf : l = c.ts.drop (c.ts.length - l.length)
  ne : l ≠ []
  row : TR w (some ⟨c.tb, 0, none⟩) c.ts
  apart : c.tb ≠ c.g
  cap : c.ts.length ≤ c.ct
  len : c.ts.length ≤ 10000
  low : d ≤ 24
  fin : ∃ us p, c.ts = us ++ [endT p]

def tkA (t : Tk) : Array Value := #[.int .i64 (t.k : Int), .string (bA t.t), .int .i64 (t.n : Int), .int .i64 (t.p : Int)]
/-- the fault that is panicked with -/
def fltP (c p : Nat) : Ending := .panicked [{ v := .iface 58 (.agg #[.int .i64 (c : Int), .int .i64 (p : Int)]), recovered := false }]

theorem Rd.head {w : World} {c : Cx} {l : List Tk} {d : Nat} (h : Rd w c l d) : c.ts[c.ts.length - l.length]? = some (hdT l) ∧ 0 < l.length ∧ l.length ≤ c.ts.length := by
  have h1 := h.suf
  have hne := h.ne
  have hl : 0 < l.length := List.length_pos_iff.2 hne
  have hle : l.length ≤ c.ts.length := by
    have := congrArg List.length h1
    rw [List.length_drop] at this
    omega
  refine ⟨?_, hl, hle⟩
  have h2 : (c.ts.drop (c.ts.length - l.length))[0]? = l[0]? := by rw [← h1]
  rw [List.getElem?_drop, Nat.add_zero] at h2
  rw [h2]
  cases l with
  | nil => exact absurd rfl hne
  | cons a r => rfl

/-- the token that comes next, where it lies -/
theorem Rd.cells {w : World} {c : Cx} {l : List Tk} {d : Nat} (h : Rd w c l d) :
    w.cell? ⟨c.g, 0, none⟩ = some (.slice (some ⟨c.tb, 0, none⟩) c.ts.length c.ct) ∧ w.cell? ⟨c.g, 1, none⟩ = some (.int .i64 ((c.ts.length - l.length : Nat) : Int)) ∧ w.cell? ⟨c.g, 2, none⟩ = some (.int .i64 (d : Int)) ∧ w.frozen? ⟨c.g, 1, none⟩ = false ∧ w.frozen? ⟨c.g, 2, none⟩ = false ∧ c.g < w.heap.size := by
  have hb := h.box
  refine ⟨?_, ?_, ?_, frozen_of_row w c.g 1 _ _ hb, frozen_of_row w c.g 2 _ _ hb, (Array.getElem?_eq_some_iff.1 hb).1⟩ <;> simp [World.cell?, hb]

theorem Rd.tok {w : World} {c : Cx} {l : List Tk} {d : Nat} (h : Rd w c l d) : c.tb < w.heap.size ∧ w.cell? ⟨c.tb, (c.ts.length - l.length) * 4, none⟩ = some (.int .i64 ((hdT l).k : Int)) ∧ w.cell? ⟨c.tb, (c.ts.length - l.length) * 4 + 1, none⟩ = some (.string (bA (hdT l).t)) ∧ w.cell? ⟨c.tb, (c.ts.length - l.length) * 4 + 2, none⟩ = some (.int .i64 ((hdT l).n : Int)) ∧ w.cell? ⟨c.tb, (c.ts.length - l.length) * 4 + 3, none⟩ = some (.int .i64 ((hdT l).p : Int)) := by
  obtain ⟨b, e, h1, h2⟩ := h.row _ _ h.head.1
  injection e with e
  injection e with e
  subst e
  exact ⟨h1, h2⟩

theorem Rd.below {w w' : World} {c : Cx} {l : List Tk} {d : Nat} (h : Rd w c l d) (hb : Below w.heap.size w w') : Rd w' c l d :=
  ⟨(hb.block _ h.cells.2.2.2.2.2).trans h.box, h.suf, h.ne, h.row.later hb, h.apart, h.cap, h.len, h.low, h.fin⟩
theorem Rd.setN {w : World} {c : Cx} {l : List Tk} {d q f : Nat} {v : Value} (h : Rd w c l d) (hq : q ≠ c.g) (hq2 : q ≠ c.tb) : Rd (w.setCell ⟨q, f, none⟩ v) c l d := by
  have hs : (w.setCell ⟨q, f, none⟩ v).heap.size = w.heap.size := by simp
  refine ⟨by rw [heap_setCell_other _ _ _ _ (Ne.symm hq)]; exact h.box, h.suf, h.ne, fun i t ht => ?_, h.apart, h.cap, h.len, h.low, h.fin⟩
  obtain ⟨b, e, h1, h2, h3, h4, h5⟩ := h.row i t ht
  injection e with e0
  injection e0 with e0
  subst e0
  have hh : (w.setCell ⟨q, f, none⟩ v).heap[c.tb]? = w.heap[c.tb]? := heap_setCell_other _ _ _ _ (Ne.symm hq2)
  exact ⟨c.tb, rfl, by rw [hs]; exact h1, (World.cell?_of_block hh).trans h2, (World.cell?_of_block hh).trans h3, (World.cell?_of_block hh).trans h4, (World.cell?_of_block hh).trans h5⟩
/-- the reader's own cells, changed -/
theorem Rd.set {w : World} {c : Cx} {l l' : List Tk} {d d' f : Nat} {v : Value} (h : Rd w c l d) (hb : (w.setCell ⟨c.g, f, none⟩ v).heap[c.g]? = some (.cells #[.slice (some ⟨c.tb, 0, none⟩) c.ts.length c.ct, .int .i64 ((c.ts.length - l'.length : Nat) : Int), .int .i64 (d' : Int)] 60 (0, 0))) (hs : l' = c.ts.drop (c.ts.length - l'.length)) (hn : l' ≠ []) (hd : d' ≤ 24) : Rd (w.setCell ⟨c.g, f, none⟩ v) c l' d' := by
  refine ⟨hb, hs, hn, fun i t ht => ?_, h.apart, h.cap, h.len, hd, h.fin⟩
  obtain ⟨b, e, h1, h2, h3, h4, h5⟩ := h.row i t ht
  injection e with e0
  injection e0 with e0
  subst e0
  have hh : (w.setCell ⟨c.g, f, none⟩ v).heap[c.tb]? = w.heap[c.tb]? := heap_setCell_other _ _ _ _ h.apart
  exact ⟨c.tb, rfl, by simpa using h1, (World.cell?_of_block hh).trans h2, (World.cell?_of_block hh).trans h3, (World.cell?_of_block hh).trans h4, (World.cell?_of_block hh).trans h5⟩
theorem Rd.open {w : World} {c : Cx} {l : List Tk} {d : Nat} (h : Rd w c l d) (d' : Nat) (hd : d' ≤ 24) : Rd (w.setCell ⟨c.g, 2, none⟩ (.int .i64 (d' : Int))) c l d' :=
  h.set (by rw [heap_setCell_same w c.g 2 _ _ _ h.box]; rfl) h.suf h.ne hd

/-- a token that is not the end is not the last -/
theorem Rd.more {w : World} {c : Cx} {l : List Tk} {d : Nat} (h : Rd w c l d) (hk : ¬ (hdT l).k = 0) : l.tail ≠ [] ∧ l.tail.length + 1 = l.length ∧ l.tail = c.ts.drop (c.ts.length - l.tail.length) := by
  obtain ⟨h1, h2, h3⟩ := h.head
  have hs := h.suf
  have ht : l.tail.length + 1 = l.length := by rw [List.length_tail]; omega
  have hd : l.tail = c.ts.drop (c.ts.length - l.tail.length) := by
    have h5 := congrArg List.tail hs
    rw [List.tail_drop] at h5
    rw [show c.ts.length - l.tail.length = c.ts.length - l.length + 1 by omega]
    exact h5
  refine ⟨fun e => ?_, ht, hd⟩
  obtain ⟨us, p, hu⟩ := h.fin
  have hl1 : l.length = 1 := by rw [e] at ht; simpa using ht.symm
  rw [hl1, hu, List.length_append, List.length_singleton, show us.length + 1 - 1 = us.length by omega, List.getElem?_append_right (Nat.le_refl _), Nat.sub_self] at h1
  simp at h1
  rw [← h1] at hk
  exact hk rfl
theorem Rd.passed {w : World} {c : Cx} {l : List Tk} {d : Nat} (h : Rd w c l d) (hk : ¬ (hdT l).k = 0) (z : Int) (hz : z = ((c.ts.length - l.length : Nat) : Int) + 1) : Rd (w.setCell ⟨c.g, 1, none⟩ (.int .i64 z)) c l.tail d := by
  obtain ⟨m1, m2, m3⟩ := h.more hk
  obtain ⟨_, h2, h3⟩ := h.head
  have hz' : z = ((c.ts.length - l.tail.length : Nat) : Int) := by omega
  subst hz'
  exact h.set (by rw [heap_setCell_same w c.g 1 _ _ _ h.box]; rfl) m3 m1 h.low
end Go.Proofs.YtgalfhlclmkbfaaGreatDoor
