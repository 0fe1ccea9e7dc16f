/-
  The document's own reader of wire: a value that is no list, and the ways that keep a fault; conditions: the weight so far is at most 2048, the form's own reach.
-/
import Derived.Test.YtfdnhpmldnmncaaR24
import Derived.Test.YtfdnhpmldnmncaaR21
namespace Go.Proofs.Ytfdnhpmldnmncaa
open Go.RowKit
set_option linter.unusedVariables false
set_option linter.unusedSimpArgs false

/-- how the document's value ends -/
def ResF (gr : Nat) (bv : Value) (w : World) (r : Except (Int × Int) (Vl × Nat × Nat)) (e : Ending) (w' : World) : Prop :=
  ∃ v' x, e = .returned x ∧ IsQ w' (fun b => w.heap.size ≤ b ∧ b < w'.heap.size) v' x ∧ Beside gr w w' ∧ match r with
    | .error p => ∃ p' t', Rf w' gr bv p' t' p.1 p.2
    | .ok (v, a', t') => v' = v ∧ Rf w' gr bv a' t' 0 0

def ValF (zs : List Int) (d : Nat) : Prop := ∀ (gr : Nat) (ao : Option Addr) (len cap a t : Nat) (w : World), Rf w gr (.slice ao len cap) a t 0 0 → Src w gr ao len cap zs → a ≤ len → t ≤ 2048 → d ≤ 8 →
    Calls Try.prog 58 #[.pointer (some ⟨gr, 0, none⟩), .int .i64 (8 - (d : Int))] w fun e w' => ResF gr (.slice ao len cap) w (rdV zs d a t) e w'

/-- what the reader has kept -/
def Kept (r : Except (Int × Int) (Vl × Nat × Nat)) (v : Vl) (p t f q : Int) : Prop :=
  match r with
  | .error e => e = (f, q)
  | .ok (v', a', t') => v' = v ∧ p = a' ∧ t = t' ∧ f = 0 ∧ q = 0

/-- the value is laid into its variable -/
theorem store_f {w u : World} {gr g : Nat} {bv : Value} {Z0 Z1 Z2 Z3 Z4 : Value} {v : Vl} (r : Except (Int × Int) (Vl × Nat × Nat)) (x0 x1 x2 x3 x4 : Value) {p t f q : Int} (h0 : u.heap[g]? = some (.cells #[Z0, Z1, Z2, Z3, Z4] 51 (0, 0))) (hb : Beside gr w u) (hg : w.heap.size = g) (hr : gr < g) (hR : Rf u gr bv p t f q)
    (hI : ∀ u' : World, u'.heap.size = u.heap.size → (∀ c, c ≠ g → u'.heap[c]? = u.heap[c]?) → u'.heap[g]? = some (.cells #[x0, x1, x2, x3, x4] 51 (0, 0)) → IsQ u' (fun c => g ≤ c ∧ c < u'.heap.size) v (.agg #[x0, x1, x2, x3, x4])) (hk : Kept r v p t f q) :
    ResF gr bv w r (.returned (.agg #[x0, x1, x2, x3, x4])) (((((u.setCell ⟨g, 0, none⟩ x0).setCell ⟨g, 1, none⟩ x1).setCell ⟨g, 2, none⟩ x2).setCell ⟨g, 3, none⟩ x3).setCell ⟨g, 4, none⟩ x4) ∧
    (((((u.setCell ⟨g, 0, none⟩ x0).setCell ⟨g, 1, none⟩ x1).setCell ⟨g, 2, none⟩ x2).setCell ⟨g, 3, none⟩ x3).setCell ⟨g, 4, none⟩ x4).heap[g]? = some (.cells #[x0, x1, x2, x3, x4] 51 (0, 0)) := by
  have R9 := five_set u g 51 _ _ _ _ _ x0 x1 x2 x3 x4 h0
  have O9 := fun c hc => five_other u g c x0 x1 x2 x3 x4 hc
  have B9 := five_below (Below.refl g u) (Nat.le_refl g) x0 x1 x2 x3 x4
  have S9 : (((((u.setCell ⟨g, 0, none⟩ x0).setCell ⟨g, 1, none⟩ x1).setCell ⟨g, 2, none⟩ x2).setCell ⟨g, 3, none⟩ x3).setCell ⟨g, 4, none⟩ x4).heap.size = u.heap.size := by simp
  generalize (((((u.setCell ⟨g, 0, none⟩ x0).setCell ⟨g, 1, none⟩ x1).setCell ⟨g, 2, none⟩ x2).setCell ⟨g, 3, none⟩ x3).setCell ⟨g, 4, none⟩ x4) = w9 at *
  have R8 : Rf w9 gr bv p t f q := (O9 gr (by omega)).trans hR
  refine ⟨⟨v, _, rfl, ?_, ⟨B9.os.trans hb.os, B9.tape.trans hb.tape, B9.output.trans hb.output, Nat.le_trans hb.size B9.size, fun k hk hn => (O9 k (by omega)).trans (hb.block k hk hn)⟩, ?_⟩, R9⟩
  · rw [hg]
    exact hI w9 S9 O9 R9
  · cases r with
    | error e =>
      have he : e = (f, q) := hk
      subst he
      exact ⟨p, t, R8⟩
    | ok y =>
      obtain ⟨v', a', t'⟩ := y
      obtain ⟨e1, e2, e3, e4, e5⟩ : v' = v ∧ p = a' ∧ t = t' ∧ f = 0 ∧ q = 0 := hk
      subst e1 e2 e3 e4 e5
      exact ⟨rfl, R8⟩

set_option maxRecDepth 100000 in
set_option maxHeartbeats 1000000 in
theorem val_f_end (zs : List Int) (d : Nat) (gr : Nat) (ao : Option Addr) (len cap a t : Nat) (w : World) (h : Rf w gr (.slice ao len cap) a t 0 0) (hS : Src w gr ao len cap zs) (r : Except (Int × Int) (Vl × Nat × Nat)) (ha : a = len) (hr : ∀ p t, Kept r (.mk 0 0 ⟨#[]⟩ [] []) p t 41 (a : Int)) :
    Calls Try.prog 58 #[.pointer (some ⟨gr, 0, none⟩), .int .i64 (8 - (d : Int))] w fun e w' => ResF gr (.slice ao len cap) w r e w' := by
  obtain ⟨g, hg⟩ : ∃ g, w.heap.size = g := ⟨_, rfl⟩
  have hrg : gr < g := by have := h.lt; omega
  have hB1 : Below w.heap.size w (w.alloc (.cells #[.int .i64 0, .int .i64 0, .string ⟨#[]⟩, .slice none 0 0, .slice none 0 0] 51)) := (Below.refl _ _).alloc (Nat.le_refl _) _
  have at1 : (w.alloc (.cells #[.int .i64 0, .int .i64 0, .string ⟨#[]⟩, .slice none 0 0, .slice none 0 0] 51)).heap[g]? = some (.cells #[.int .i64 0, .int .i64 0, .string ⟨#[]⟩, .slice none 0 0, .slice none 0 0] 51 (0, 0)) := by rw [← hg]; exact heap_alloc_new w _
  obtain ⟨w1, hw1⟩ : ∃ w1, w.alloc (.cells #[.int .i64 0, .int .i64 0, .string ⟨#[]⟩, .slice none 0 0, .slice none 0 0] 51) = w1 := ⟨_, rfl⟩
  rw [hw1] at hB1 at1
  have R1 : Rf w1 gr (.slice ao len cap) a t 0 0 := (hB1.block gr h.lt).trans h
  have S1 := hS.later (Beside.of_below (gr := gr) hB1)
  have z1 : g < w1.heap.size := (Array.getElem?_eq_some_iff.1 at1).1
  obtain ⟨c0, c1, c2, c3, c4, f1, f2, f3, f4⟩ := R1.cells
  have hcp : cap ≤ 9223372036854775807 := by have := hS.cap; unfold maxLen at this; omega
  have hlc := hS.row.le
  have HS : Hid (∀ u, Beside gr w1 u → Beside gr w u ∧ Src u gr ao len cap zs ∧ u.heap[g]? = some (.cells #[.int .i64 0, .int .i64 0, .string ⟨#[]⟩, .slice none 0 0, .slice none 0 0] 51 (0, 0)) ∧ g < u.heap.size) := hide (fun u hu => ⟨(Beside.of_below hB1).trans hu, S1.later hu, (hu.block g z1 (by omega)).trans at1, Nat.lt_of_lt_of_le z1 hu.size⟩)
  have hr := hr (a : Int) (t : Int)
  have CW := hide (wrong_ok gr _ a t 0 41 a w1 R1)
  have i1 : ((len : Int) ≤ (a : Int)) := by omega
  clear h hS hB1 at1 R1 S1 z1 ha
  go_enter Try.func58, Try.ntmps58
  go_wp2_with fail
  refine (unhide CW).mono ?_
  rintro e u ⟨rfl, r1, b1⟩
  obtain ⟨B, S, at0, zg⟩ := unhide HS u b1
  obtain ⟨z0, z1, z2, z3, z4⟩ := row_cell at0
  have fz0 := frozen_of_row u g 0 _ _ at0
  have fz1 := frozen_of_row u g 1 _ _ at0
  have fz2 := frozen_of_row u g 2 _ _ at0
  have fz3 := frozen_of_row u g 3 _ _ at0
  have fz4 := frozen_of_row u g 4 _ _ at0
  clear c0 c1 c2 c3 c4 f1 f2 f3 f4
  obtain ⟨c0, c1, c2, c3, c4, f1, f2, f3, f4⟩ := r1.cells
  have H1 := hide (And.intro r1 (And.intro B at0))
  clear r1 b1 B S at0 zg HS hw1 CW
  go_wp2_with fail
  obtain ⟨E1, E2⟩ := store_f (v := .mk 0 0 ⟨#[]⟩ [] []) r (.int .i64 0) (.int .i64 0) (.string ⟨#[]⟩) (.slice none 0 0) (.slice none 0 0) (unhide H1).2.2 (unhide H1).2.1 hg hrg (unhide H1).1 (fun u' _ _ h => plain_made h (by omega) (by omega) (by rw [e0s]; omega)) hr
  obtain ⟨r0, r1, r2, r3, r4⟩ := row_cell E2
  refine bodyPost_ret (v := .agg #[.int .i64 0, .int .i64 0, .string ⟨#[]⟩, .slice none 0 0, .slice none 0 0]) (by simp [results, Try.results58, go_sem, r0, r1, r2, r3, r4]) rfl ?_
  exact E1

set_option maxRecDepth 100000 in
set_option maxHeartbeats 1000000 in
theorem val_f_wrong (zs : List Int) (d : Nat) (gr : Nat) (ao : Option Addr) (len cap a t : Nat) (w : World) (h : Rf w gr (.slice ao len cap) a t 0 0) (hS : Src w gr ao len cap zs) (r : Except (Int × Int) (Vl × Nat × Nat)) (c : Int) (hc : zs[a]? = some c) (hc6 : 6 < c) (hr : ∀ p t, Kept r (.mk 0 0 ⟨#[]⟩ [] []) p t 41 (a : Int)) :
    Calls Try.prog 58 #[.pointer (some ⟨gr, 0, none⟩), .int .i64 (8 - (d : Int))] w fun e w' => ResF gr (.slice ao len cap) w r e w' := by
  obtain ⟨g, hg⟩ : ∃ g, w.heap.size = g := ⟨_, rfl⟩
  have hrg : gr < g := by have := h.lt; omega
  have hB1 : Below w.heap.size w (w.alloc (.cells #[.int .i64 0, .int .i64 0, .string ⟨#[]⟩, .slice none 0 0, .slice none 0 0] 51)) := (Below.refl _ _).alloc (Nat.le_refl _) _
  have at1 : (w.alloc (.cells #[.int .i64 0, .int .i64 0, .string ⟨#[]⟩, .slice none 0 0, .slice none 0 0] 51)).heap[g]? = some (.cells #[.int .i64 0, .int .i64 0, .string ⟨#[]⟩, .slice none 0 0, .slice none 0 0] 51 (0, 0)) := by rw [← hg]; exact heap_alloc_new w _
  obtain ⟨w1, hw1⟩ : ∃ w1, w.alloc (.cells #[.int .i64 0, .int .i64 0, .string ⟨#[]⟩, .slice none 0 0, .slice none 0 0] 51) = w1 := ⟨_, rfl⟩
  rw [hw1] at hB1 at1
  have R1 : Rf w1 gr (.slice ao len cap) a t 0 0 := (hB1.block gr h.lt).trans h
  have S1 := hS.later (Beside.of_below (gr := gr) hB1)
  have z1 : g < w1.heap.size := (Array.getElem?_eq_some_iff.1 at1).1
  obtain ⟨c0, c1, c2, c3, c4, f1, f2, f3, f4⟩ := R1.cells
  have hcp : cap ≤ 9223372036854775807 := by have := hS.cap; unfold maxLen at this; omega
  have hlc := hS.row.le
  have HS : Hid (∀ u, Beside gr w1 u → Beside gr w u ∧ Src u gr ao len cap zs ∧ u.heap[g]? = some (.cells #[.int .i64 0, .int .i64 0, .string ⟨#[]⟩, .slice none 0 0, .slice none 0 0] 51 (0, 0)) ∧ g < u.heap.size) := hide (fun u hu => ⟨(Beside.of_below hB1).trans hu, S1.later hu, (hu.block g z1 (by omega)).trans at1, Nat.lt_of_lt_of_le z1 hu.size⟩)
  have hr := hr (a : Int) (t : Int)
  have CW := hide (wrong_ok gr _ a t 0 41 a w1 R1)
  obtain ⟨hal, s0, s1, b, off, rfl, hbg, hz⟩ := S1.byte hc
  have ce := hz w1 (Beside.refl _ _)
  have hbn : ¬ b = gr := by omega
  have i1 : ¬ ((len : Int) ≤ (a : Int)) := by omega
  have i2 : (a : Int) < (len : Int) := by omega
  have i0 : (0 : Int) ≤ (a : Int) := by omega
  clear h hS hB1 at1 R1 S1 z1 hz hc
  go_enter Try.func58, Try.ntmps58
  go_wp2_with fail
  refine (unhide CW).mono ?_
  rintro e u ⟨rfl, r1, b1⟩
  obtain ⟨B, S, at0, zg⟩ := unhide HS u b1
  obtain ⟨z0, z1, z2, z3, z4⟩ := row_cell at0
  have fz0 := frozen_of_row u g 0 _ _ at0
  have fz1 := frozen_of_row u g 1 _ _ at0
  have fz2 := frozen_of_row u g 2 _ _ at0
  have fz3 := frozen_of_row u g 3 _ _ at0
  have fz4 := frozen_of_row u g 4 _ _ at0
  clear c0 c1 c2 c3 c4 f1 f2 f3 f4
  obtain ⟨c0, c1, c2, c3, c4, f1, f2, f3, f4⟩ := r1.cells
  have H1 := hide (And.intro r1 (And.intro B at0))
  clear r1 b1 B S at0 zg HS hw1 CW
  go_wp2_with fail
  obtain ⟨E1, E2⟩ := store_f (v := .mk 0 0 ⟨#[]⟩ [] []) r (.int .i64 0) (.int .i64 0) (.string ⟨#[]⟩) (.slice none 0 0) (.slice none 0 0) (unhide H1).2.2 (unhide H1).2.1 hg hrg (unhide H1).1 (fun u' _ _ h => plain_made h (by omega) (by omega) (by rw [e0s]; omega)) hr
  obtain ⟨r0, r1, r2, r3, r4⟩ := row_cell E2
  refine bodyPost_ret (v := .agg #[.int .i64 0, .int .i64 0, .string ⟨#[]⟩, .slice none 0 0, .slice none 0 0]) (by simp [results, Try.results58, go_sem, r0, r1, r2, r3, r4]) rfl ?_
  exact E1

set_option maxRecDepth 100000 in
set_option maxHeartbeats 1000000 in
theorem val_f_deep (zs : List Int) (d : Nat) (gr : Nat) (ao : Option Addr) (len cap a t : Nat) (w : World) (h : Rf w gr (.slice ao len cap) a t 0 0) (hS : Src w gr ao len cap zs) (r : Except (Int × Int) (Vl × Nat × Nat)) (c : Int) (hc : zs[a]? = some c) (hc6 : ¬ 6 < c) (hd : d = 0) (hr : ∀ p t, Kept r (.mk 0 0 ⟨#[]⟩ [] []) p t 42 (a : Int)) :
    Calls Try.prog 58 #[.pointer (some ⟨gr, 0, none⟩), .int .i64 (8 - (d : Int))] w fun e w' => ResF gr (.slice ao len cap) w r e w' := by
  obtain ⟨g, hg⟩ : ∃ g, w.heap.size = g := ⟨_, rfl⟩
  have hrg : gr < g := by have := h.lt; omega
  have hB1 : Below w.heap.size w (w.alloc (.cells #[.int .i64 0, .int .i64 0, .string ⟨#[]⟩, .slice none 0 0, .slice none 0 0] 51)) := (Below.refl _ _).alloc (Nat.le_refl _) _
  have at1 : (w.alloc (.cells #[.int .i64 0, .int .i64 0, .string ⟨#[]⟩, .slice none 0 0, .slice none 0 0] 51)).heap[g]? = some (.cells #[.int .i64 0, .int .i64 0, .string ⟨#[]⟩, .slice none 0 0, .slice none 0 0] 51 (0, 0)) := by rw [← hg]; exact heap_alloc_new w _
  obtain ⟨w1, hw1⟩ : ∃ w1, w.alloc (.cells #[.int .i64 0, .int .i64 0, .string ⟨#[]⟩, .slice none 0 0, .slice none 0 0] 51) = w1 := ⟨_, rfl⟩
  rw [hw1] at hB1 at1
  have R1 : Rf w1 gr (.slice ao len cap) a t 0 0 := (hB1.block gr h.lt).trans h
  have S1 := hS.later (Beside.of_below (gr := gr) hB1)
  have z1 : g < w1.heap.size := (Array.getElem?_eq_some_iff.1 at1).1
  obtain ⟨c0, c1, c2, c3, c4, f1, f2, f3, f4⟩ := R1.cells
  have hcp : cap ≤ 9223372036854775807 := by have := hS.cap; unfold maxLen at this; omega
  have hlc := hS.row.le
  have HS : Hid (∀ u, Beside gr w1 u → Beside gr w u ∧ Src u gr ao len cap zs ∧ u.heap[g]? = some (.cells #[.int .i64 0, .int .i64 0, .string ⟨#[]⟩, .slice none 0 0, .slice none 0 0] 51 (0, 0)) ∧ g < u.heap.size) := hide (fun u hu => ⟨(Beside.of_below hB1).trans hu, S1.later hu, (hu.block g z1 (by omega)).trans at1, Nat.lt_of_lt_of_le z1 hu.size⟩)
  have hr := hr (a : Int) (t : Int)
  have CW := hide (wrong_ok gr _ a t 0 42 a w1 R1)
  obtain ⟨hal, s0, s1, b, off, rfl, hbg, hz⟩ := S1.byte hc
  have ce := hz w1 (Beside.refl _ _)
  have hbn : ¬ b = gr := by omega
  have i1 : ¬ ((len : Int) ≤ (a : Int)) := by omega
  have i2 : (a : Int) < (len : Int) := by omega
  have i0 : (0 : Int) ≤ (a : Int) := by omega
  obtain ⟨wi, hwi⟩ : ∃ wi : Int, 8 - (d : Int) = wi := ⟨_, rfl⟩
  rw [hwi]
  have hw8 : 8 ≤ wi := by omega
  clear h hS hB1 at1 R1 S1 z1 hz hc hwi hd
  go_enter Try.func58, Try.ntmps58
  go_wp2_with fail
  refine (unhide CW).mono ?_
  rintro e u ⟨rfl, r1, b1⟩
  obtain ⟨B, S, at0, zg⟩ := unhide HS u b1
  obtain ⟨z0, z1, z2, z3, z4⟩ := row_cell at0
  have fz0 := frozen_of_row u g 0 _ _ at0
  have fz1 := frozen_of_row u g 1 _ _ at0
  have fz2 := frozen_of_row u g 2 _ _ at0
  have fz3 := frozen_of_row u g 3 _ _ at0
  have fz4 := frozen_of_row u g 4 _ _ at0
  clear c0 c1 c2 c3 c4 f1 f2 f3 f4
  obtain ⟨c0, c1, c2, c3, c4, f1, f2, f3, f4⟩ := r1.cells
  have H1 := hide (And.intro r1 (And.intro B at0))
  clear r1 b1 B S at0 zg HS hw1 CW
  go_wp2_with fail
  obtain ⟨E1, E2⟩ := store_f (v := .mk 0 0 ⟨#[]⟩ [] []) r (.int .i64 0) (.int .i64 0) (.string ⟨#[]⟩) (.slice none 0 0) (.slice none 0 0) (unhide H1).2.2 (unhide H1).2.1 hg hrg (unhide H1).1 (fun u' _ _ h => plain_made h (by omega) (by omega) (by rw [e0s]; omega)) hr
  obtain ⟨r0, r1, r2, r3, r4⟩ := row_cell E2
  refine bodyPost_ret (v := .agg #[.int .i64 0, .int .i64 0, .string ⟨#[]⟩, .slice none 0 0, .slice none 0 0]) (by simp [results, Try.results58, go_sem, r0, r1, r2, r3, r4]) rfl ?_
  exact E1

set_option maxRecDepth 100000 in
set_option maxHeartbeats 1000000 in
theorem val_f_heavy (zs : List Int) (d : Nat) (gr : Nat) (ao : Option Addr) (len cap a t : Nat) (w : World) (h : Rf w gr (.slice ao len cap) a t 0 0) (hS : Src w gr ao len cap zs) (r : Except (Int × Int) (Vl × Nat × Nat)) (c : Int) (hc : zs[a]? = some c) (hc6 : ¬ 6 < c) (hd : 1 ≤ d) (ht : t ≤ 2048) (hh : 2048 < t + 1) (hr : ∀ p t, Kept r (.mk 0 0 ⟨#[]⟩ [] []) p t 42 (a : Int)) :
    Calls Try.prog 58 #[.pointer (some ⟨gr, 0, none⟩), .int .i64 (8 - (d : Int))] w fun e w' => ResF gr (.slice ao len cap) w r e w' := by
  obtain ⟨g, hg⟩ : ∃ g, w.heap.size = g := ⟨_, rfl⟩
  have hrg : gr < g := by have := h.lt; omega
  have hB1 : Below w.heap.size w (w.alloc (.cells #[.int .i64 0, .int .i64 0, .string ⟨#[]⟩, .slice none 0 0, .slice none 0 0] 51)) := (Below.refl _ _).alloc (Nat.le_refl _) _
  have at1 : (w.alloc (.cells #[.int .i64 0, .int .i64 0, .string ⟨#[]⟩, .slice none 0 0, .slice none 0 0] 51)).heap[g]? = some (.cells #[.int .i64 0, .int .i64 0, .string ⟨#[]⟩, .slice none 0 0, .slice none 0 0] 51 (0, 0)) := by rw [← hg]; exact heap_alloc_new w _
  obtain ⟨w1, hw1⟩ : ∃ w1, w.alloc (.cells #[.int .i64 0, .int .i64 0, .string ⟨#[]⟩, .slice none 0 0, .slice none 0 0] 51) = w1 := ⟨_, rfl⟩
  rw [hw1] at hB1 at1
  have R1 : Rf w1 gr (.slice ao len cap) a t 0 0 := (hB1.block gr h.lt).trans h
  have S1 := hS.later (Beside.of_below (gr := gr) hB1)
  have z1 : g < w1.heap.size := (Array.getElem?_eq_some_iff.1 at1).1
  obtain ⟨c0, c1, c2, c3, c4, f1, f2, f3, f4⟩ := R1.cells
  have hcp : cap ≤ 9223372036854775807 := by have := hS.cap; unfold maxLen at this; omega
  have hlc := hS.row.le
  have HS : Hid (∀ u, Beside gr w1 u → Beside gr w u ∧ Src u gr ao len cap zs ∧ u.heap[g]? = some (.cells #[.int .i64 0, .int .i64 0, .string ⟨#[]⟩, .slice none 0 0, .slice none 0 0] 51 (0, 0)) ∧ g < u.heap.size) := hide (fun u hu => ⟨(Beside.of_below hB1).trans hu, S1.later hu, (hu.block g z1 (by omega)).trans at1, Nat.lt_of_lt_of_le z1 hu.size⟩)
  have hr := hr (a : Int) ((t : Int) + 1)
  have CW := hide (heavier_bad gr _ a t 1 0 a w1 R1 (by omega) (by omega) (by omega))
  obtain ⟨hal, s0, s1, b, off, rfl, hbg, hz⟩ := S1.byte hc
  have ce := hz w1 (Beside.refl _ _)
  have hbn : ¬ b = gr := by omega
  have i1 : ¬ ((len : Int) ≤ (a : Int)) := by omega
  have i2 : (a : Int) < (len : Int) := by omega
  have i0 : (0 : Int) ≤ (a : Int) := by omega
  obtain ⟨wi, hwi⟩ : ∃ wi : Int, 8 - (d : Int) = wi := ⟨_, rfl⟩
  rw [hwi]
  have hw8 : ¬ 8 ≤ wi := by omega
  clear h hS hB1 at1 R1 S1 z1 hz hc hwi hd
  go_enter Try.func58, Try.ntmps58
  go_wp2_with fail
  refine (unhide CW).mono ?_
  rintro e u ⟨rfl, r1, b1⟩
  obtain ⟨B, S, at0, zg⟩ := unhide HS u b1
  obtain ⟨z0, z1, z2, z3, z4⟩ := row_cell at0
  have fz0 := frozen_of_row u g 0 _ _ at0
  have fz1 := frozen_of_row u g 1 _ _ at0
  have fz2 := frozen_of_row u g 2 _ _ at0
  have fz3 := frozen_of_row u g 3 _ _ at0
  have fz4 := frozen_of_row u g 4 _ _ at0
  clear c0 c1 c2 c3 c4 f1 f2 f3 f4
  obtain ⟨c0, c1, c2, c3, c4, f1, f2, f3, f4⟩ := r1.cells
  have H1 := hide (And.intro r1 (And.intro B at0))
  clear r1 b1 B S at0 zg HS hw1 CW
  go_wp2_with fail
  obtain ⟨E1, E2⟩ := store_f (v := .mk 0 0 ⟨#[]⟩ [] []) r (.int .i64 0) (.int .i64 0) (.string ⟨#[]⟩) (.slice none 0 0) (.slice none 0 0) (unhide H1).2.2 (unhide H1).2.1 hg hrg (unhide H1).1 (fun u' _ _ h => plain_made h (by omega) (by omega) (by rw [e0s]; omega)) hr
  obtain ⟨r0, r1, r2, r3, r4⟩ := row_cell E2
  refine bodyPost_ret (v := .agg #[.int .i64 0, .int .i64 0, .string ⟨#[]⟩, .slice none 0 0, .slice none 0 0]) (by simp [results, Try.results58, go_sem, r0, r1, r2, r3, r4]) rfl ?_
  exact E1

set_option maxRecDepth 100000 in
set_option maxHeartbeats 1000000 in
theorem val_f_0 (zs : List Int) (d : Nat) (gr : Nat) (ao : Option Addr) (len cap a t : Nat) (w : World) (h : Rf w gr (.slice ao len cap) a t 0 0) (hS : Src w gr ao len cap zs) (r : Except (Int × Int) (Vl × Nat × Nat)) (hc : zs[a]? = some 0) (hd : 1 ≤ d) (ht : t ≤ 2048) (hh : ¬ 2048 < t + 1) (hr : Kept r (.mk 0 0 ⟨#[]⟩ [] []) ((a : Int) + 1) ((t : Int) + 1) 0 0) :
    Calls Try.prog 58 #[.pointer (some ⟨gr, 0, none⟩), .int .i64 (8 - (d : Int))] w fun e w' => ResF gr (.slice ao len cap) w r e w' := by
  obtain ⟨g, hg⟩ : ∃ g, w.heap.size = g := ⟨_, rfl⟩
  have hrg : gr < g := by have := h.lt; omega
  have hB1 : Below w.heap.size w (w.alloc (.cells #[.int .i64 0, .int .i64 0, .string ⟨#[]⟩, .slice none 0 0, .slice none 0 0] 51)) := (Below.refl _ _).alloc (Nat.le_refl _) _
  have at1 : (w.alloc (.cells #[.int .i64 0, .int .i64 0, .string ⟨#[]⟩, .slice none 0 0, .slice none 0 0] 51)).heap[g]? = some (.cells #[.int .i64 0, .int .i64 0, .string ⟨#[]⟩, .slice none 0 0, .slice none 0 0] 51 (0, 0)) := by rw [← hg]; exact heap_alloc_new w _
  obtain ⟨w1, hw1⟩ : ∃ w1, w.alloc (.cells #[.int .i64 0, .int .i64 0, .string ⟨#[]⟩, .slice none 0 0, .slice none 0 0] 51) = w1 := ⟨_, rfl⟩
  rw [hw1] at hB1 at1
  have R1 : Rf w1 gr (.slice ao len cap) a t 0 0 := (hB1.block gr h.lt).trans h
  have S1 := hS.later (Beside.of_below (gr := gr) hB1)
  have z1 : g < w1.heap.size := (Array.getElem?_eq_some_iff.1 at1).1
  obtain ⟨c0, c1, c2, c3, c4, f1, f2, f3, f4⟩ := R1.cells
  have hcp : cap ≤ 9223372036854775807 := by have := hS.cap; unfold maxLen at this; omega
  have hlc := hS.row.le
  have HS : Hid (∀ u, Beside gr w1 u → Beside gr w u ∧ Src u gr ao len cap zs ∧ u.heap[g]? = some (.cells #[.int .i64 0, .int .i64 0, .string ⟨#[]⟩, .slice none 0 0, .slice none 0 0] 51 (0, 0)) ∧ g < u.heap.size) := hide (fun u hu => ⟨(Beside.of_below hB1).trans hu, S1.later hu, (hu.block g z1 (by omega)).trans at1, Nat.lt_of_lt_of_le z1 hu.size⟩)
  have CW := hide (heavier_ok gr _ a t 1 0 0 a w1 R1 (by omega) (by omega) (by omega))
  obtain ⟨hal, s0, s1, b, off, rfl, hbg, hz⟩ := S1.byte hc
  have ce := hz w1 (Beside.refl _ _)
  have hbn : ¬ b = gr := by omega
  have i1 : ¬ ((len : Int) ≤ (a : Int)) := by omega
  have i2 : (a : Int) < (len : Int) := by omega
  have i0 : (0 : Int) ≤ (a : Int) := by omega
  have HZ := hide hz
  obtain ⟨wi, hwi⟩ : ∃ wi : Int, 8 - (d : Int) = wi := ⟨_, rfl⟩
  rw [hwi]
  have hw8 : ¬ 8 ≤ wi := by omega
  have hwa : IntKind.i64.wrap ((a : Int) + 1) = (a : Int) + 1 := by rw [IntKind.wrap_i64]; omega
  clear h hS hB1 at1 R1 S1 z1 hz hc
  go_enter Try.func58, Try.ntmps58
  go_wp2_with fail
  refine (unhide CW).mono ?_
  rintro e u ⟨rfl, r1, b1⟩
  have HZ1 := hide (fun u' (hu : Beside gr w1 u') => unhide HZ u' hu)
  clear c0 c1 c2 c3 c4 f1 f2 f3 f4 ce
  obtain ⟨c0, c1, c2, c3, c4, f1, f2, f3, f4⟩ := r1.cells
  have H0 := hide (And.intro r1 b1)
  clear r1 b1 CW
  go_upto_region 12 with fail
  obtain ⟨u1, hu1⟩ : ∃ u1, u.setCell ⟨gr, 1, none⟩ (.int .i64 ((a : Int) + 1)) = u1 := ⟨_, rfl⟩
  have r1 : Rf u1 gr (.slice (some ⟨b, off, none⟩) len cap) ((a : Int) + 1) ((t : Int) + 1) 0 0 := by rw [← hu1]; exact (unhide H0).1.setAt _
  have b1 : Beside gr w1 u1 := by rw [← hu1]; exact (unhide H0).2.set
  rw [hu1]
  clear hu1 H0 c0 c1 c2 c3 c4 f1 f2 f3 f4
  obtain ⟨c0, c1, c2, c3, c4, f1, f2, f3, f4⟩ := r1.cells
  have ce := unhide HZ1 u1 b1
  obtain ⟨B, S, at0, zg⟩ := unhide HS u1 b1
  obtain ⟨z0, z1, z2, z3, z4⟩ := row_cell at0
  have fz0 := frozen_of_row u1 g 0 _ _ at0
  have fz1 := frozen_of_row u1 g 1 _ _ at0
  have fz2 := frozen_of_row u1 g 2 _ _ at0
  have fz3 := frozen_of_row u1 g 3 _ _ at0
  have fz4 := frozen_of_row u1 g 4 _ _ at0
  have H1 := hide (And.intro r1 (And.intro B at0))
  clear r1 b1 B S at0 zg HS hw1
  go_wp2_with fail
  obtain ⟨E1, E2⟩ := store_f (v := .mk 0 0 ⟨#[]⟩ [] []) r (.int .i64 0) (.int .i64 0) (.string ⟨#[]⟩) (.slice none 0 0) (.slice none 0 0) (unhide H1).2.2 (unhide H1).2.1 hg hrg (unhide H1).1 (fun u' _ _ h => plain_made h (by omega) (by omega) (by rw [e0s]; omega)) hr
  obtain ⟨r0, r1, r2, r3, r4⟩ := row_cell E2
  refine bodyPost_ret (v := .agg #[.int .i64 0, .int .i64 0, .string ⟨#[]⟩, .slice none 0 0, .slice none 0 0]) (by simp [results, Try.results58, go_sem, r0, r1, r2, r3, r4]) rfl ?_
  exact E1

set_option maxRecDepth 100000 in
set_option maxHeartbeats 1000000 in
theorem val_f_1 (zs : List Int) (d : Nat) (gr : Nat) (ao : Option Addr) (len cap a t : Nat) (w : World) (h : Rf w gr (.slice ao len cap) a t 0 0) (hS : Src w gr ao len cap zs) (r : Except (Int × Int) (Vl × Nat × Nat)) (hc : zs[a]? = some 1) (hd : 1 ≤ d) (ht : t ≤ 2048) (hh : ¬ 2048 < t + 1) (hr : Kept r (.mk 1 0 ⟨#[]⟩ [] []) ((a : Int) + 1) ((t : Int) + 1) 0 0) :
    Calls Try.prog 58 #[.pointer (some ⟨gr, 0, none⟩), .int .i64 (8 - (d : Int))] w fun e w' => ResF gr (.slice ao len cap) w r e w' := by
  obtain ⟨g, hg⟩ : ∃ g, w.heap.size = g := ⟨_, rfl⟩
  have hrg : gr < g := by have := h.lt; omega
  have hB1 : Below w.heap.size w (w.alloc (.cells #[.int .i64 0, .int .i64 0, .string ⟨#[]⟩, .slice none 0 0, .slice none 0 0] 51)) := (Below.refl _ _).alloc (Nat.le_refl _) _
  have at1 : (w.alloc (.cells #[.int .i64 0, .int .i64 0, .string ⟨#[]⟩, .slice none 0 0, .slice none 0 0] 51)).heap[g]? = some (.cells #[.int .i64 0, .int .i64 0, .string ⟨#[]⟩, .slice none 0 0, .slice none 0 0] 51 (0, 0)) := by rw [← hg]; exact heap_alloc_new w _
  obtain ⟨w1, hw1⟩ : ∃ w1, w.alloc (.cells #[.int .i64 0, .int .i64 0, .string ⟨#[]⟩, .slice none 0 0, .slice none 0 0] 51) = w1 := ⟨_, rfl⟩
  rw [hw1] at hB1 at1
  have R1 : Rf w1 gr (.slice ao len cap) a t 0 0 := (hB1.block gr h.lt).trans h
  have S1 := hS.later (Beside.of_below (gr := gr) hB1)
  have z1 : g < w1.heap.size := (Array.getElem?_eq_some_iff.1 at1).1
  obtain ⟨c0, c1, c2, c3, c4, f1, f2, f3, f4⟩ := R1.cells
  have hcp : cap ≤ 9223372036854775807 := by have := hS.cap; unfold maxLen at this; omega
  have hlc := hS.row.le
  have HS : Hid (∀ u, Beside gr w1 u → Beside gr w u ∧ Src u gr ao len cap zs ∧ u.heap[g]? = some (.cells #[.int .i64 0, .int .i64 0, .string ⟨#[]⟩, .slice none 0 0, .slice none 0 0] 51 (0, 0)) ∧ g < u.heap.size) := hide (fun u hu => ⟨(Beside.of_below hB1).trans hu, S1.later hu, (hu.block g z1 (by omega)).trans at1, Nat.lt_of_lt_of_le z1 hu.size⟩)
  have CW := hide (heavier_ok gr _ a t 1 0 0 a w1 R1 (by omega) (by omega) (by omega))
  obtain ⟨hal, s0, s1, b, off, rfl, hbg, hz⟩ := S1.byte hc
  have ce := hz w1 (Beside.refl _ _)
  have hbn : ¬ b = gr := by omega
  have i1 : ¬ ((len : Int) ≤ (a : Int)) := by omega
  have i2 : (a : Int) < (len : Int) := by omega
  have i0 : (0 : Int) ≤ (a : Int) := by omega
  have HZ := hide hz
  obtain ⟨wi, hwi⟩ : ∃ wi : Int, 8 - (d : Int) = wi := ⟨_, rfl⟩
  rw [hwi]
  have hw8 : ¬ 8 ≤ wi := by omega
  have hwa : IntKind.i64.wrap ((a : Int) + 1) = (a : Int) + 1 := by rw [IntKind.wrap_i64]; omega
  clear h hS hB1 at1 R1 S1 z1 hz hc
  go_enter Try.func58, Try.ntmps58
  go_wp2_with fail
  refine (unhide CW).mono ?_
  rintro e u ⟨rfl, r1, b1⟩
  have HZ1 := hide (fun u' (hu : Beside gr w1 u') => unhide HZ u' hu)
  clear c0 c1 c2 c3 c4 f1 f2 f3 f4 ce
  obtain ⟨c0, c1, c2, c3, c4, f1, f2, f3, f4⟩ := r1.cells
  have H0 := hide (And.intro r1 b1)
  clear r1 b1 CW
  go_upto_region 12 with fail
  obtain ⟨u1, hu1⟩ : ∃ u1, u.setCell ⟨gr, 1, none⟩ (.int .i64 ((a : Int) + 1)) = u1 := ⟨_, rfl⟩
  have r1 : Rf u1 gr (.slice (some ⟨b, off, none⟩) len cap) ((a : Int) + 1) ((t : Int) + 1) 0 0 := by rw [← hu1]; exact (unhide H0).1.setAt _
  have b1 : Beside gr w1 u1 := by rw [← hu1]; exact (unhide H0).2.set
  rw [hu1]
  clear hu1 H0 c0 c1 c2 c3 c4 f1 f2 f3 f4
  obtain ⟨c0, c1, c2, c3, c4, f1, f2, f3, f4⟩ := r1.cells
  have ce := unhide HZ1 u1 b1
  obtain ⟨B, S, at0, zg⟩ := unhide HS u1 b1
  obtain ⟨z0, z1, z2, z3, z4⟩ := row_cell at0
  have fz0 := frozen_of_row u1 g 0 _ _ at0
  have fz1 := frozen_of_row u1 g 1 _ _ at0
  have fz2 := frozen_of_row u1 g 2 _ _ at0
  have fz3 := frozen_of_row u1 g 3 _ _ at0
  have fz4 := frozen_of_row u1 g 4 _ _ at0
  have H1 := hide (And.intro r1 (And.intro B at0))
  clear r1 b1 B S at0 zg HS hw1
  go_wp2_with fail
  obtain ⟨E1, E2⟩ := store_f (v := .mk 1 0 ⟨#[]⟩ [] []) r (.int .i64 1) (.int .i64 0) (.string ⟨#[]⟩) (.slice none 0 0) (.slice none 0 0) (unhide H1).2.2 (unhide H1).2.1 hg hrg (unhide H1).1 (fun u' _ _ h => plain_made h (by omega) (by omega) (by rw [e0s]; omega)) hr
  obtain ⟨r0, r1, r2, r3, r4⟩ := row_cell E2
  refine bodyPost_ret (v := .agg #[.int .i64 1, .int .i64 0, .string ⟨#[]⟩, .slice none 0 0, .slice none 0 0]) (by simp [results, Try.results58, go_sem, r0, r1, r2, r3, r4]) rfl ?_
  exact E1

set_option maxRecDepth 100000 in
set_option maxHeartbeats 1000000 in
theorem val_f_2 (zs : List Int) (d : Nat) (gr : Nat) (ao : Option Addr) (len cap a t : Nat) (w : World) (h : Rf w gr (.slice ao len cap) a t 0 0) (hS : Src w gr ao len cap zs) (r : Except (Int × Int) (Vl × Nat × Nat)) (hc : zs[a]? = some 2) (hd : 1 ≤ d) (ht : t ≤ 2048) (hh : ¬ 2048 < t + 1) (hr : Kept r (.mk 1 1 ⟨#[]⟩ [] []) ((a : Int) + 1) ((t : Int) + 1) 0 0) :
    Calls Try.prog 58 #[.pointer (some ⟨gr, 0, none⟩), .int .i64 (8 - (d : Int))] w fun e w' => ResF gr (.slice ao len cap) w r e w' := by
  obtain ⟨g, hg⟩ : ∃ g, w.heap.size = g := ⟨_, rfl⟩
  have hrg : gr < g := by have := h.lt; omega
  have hB1 : Below w.heap.size w (w.alloc (.cells #[.int .i64 0, .int .i64 0, .string ⟨#[]⟩, .slice none 0 0, .slice none 0 0] 51)) := (Below.refl _ _).alloc (Nat.le_refl _) _
  have at1 : (w.alloc (.cells #[.int .i64 0, .int .i64 0, .string ⟨#[]⟩, .slice none 0 0, .slice none 0 0] 51)).heap[g]? = some (.cells #[.int .i64 0, .int .i64 0, .string ⟨#[]⟩, .slice none 0 0, .slice none 0 0] 51 (0, 0)) := by rw [← hg]; exact heap_alloc_new w _
  obtain ⟨w1, hw1⟩ : ∃ w1, w.alloc (.cells #[.int .i64 0, .int .i64 0, .string ⟨#[]⟩, .slice none 0 0, .slice none 0 0] 51) = w1 := ⟨_, rfl⟩
  rw [hw1] at hB1 at1
  have R1 : Rf w1 gr (.slice ao len cap) a t 0 0 := (hB1.block gr h.lt).trans h
  have S1 := hS.later (Beside.of_below (gr := gr) hB1)
  have z1 : g < w1.heap.size := (Array.getElem?_eq_some_iff.1 at1).1
  obtain ⟨c0, c1, c2, c3, c4, f1, f2, f3, f4⟩ := R1.cells
  have hcp : cap ≤ 9223372036854775807 := by have := hS.cap; unfold maxLen at this; omega
  have hlc := hS.row.le
  have HS : Hid (∀ u, Beside gr w1 u → Beside gr w u ∧ Src u gr ao len cap zs ∧ u.heap[g]? = some (.cells #[.int .i64 0, .int .i64 0, .string ⟨#[]⟩, .slice none 0 0, .slice none 0 0] 51 (0, 0)) ∧ g < u.heap.size) := hide (fun u hu => ⟨(Beside.of_below hB1).trans hu, S1.later hu, (hu.block g z1 (by omega)).trans at1, Nat.lt_of_lt_of_le z1 hu.size⟩)
  have CW := hide (heavier_ok gr _ a t 1 0 0 a w1 R1 (by omega) (by omega) (by omega))
  obtain ⟨hal, s0, s1, b, off, rfl, hbg, hz⟩ := S1.byte hc
  have ce := hz w1 (Beside.refl _ _)
  have hbn : ¬ b = gr := by omega
  have i1 : ¬ ((len : Int) ≤ (a : Int)) := by omega
  have i2 : (a : Int) < (len : Int) := by omega
  have i0 : (0 : Int) ≤ (a : Int) := by omega
  have HZ := hide hz
  obtain ⟨wi, hwi⟩ : ∃ wi : Int, 8 - (d : Int) = wi := ⟨_, rfl⟩
  rw [hwi]
  have hw8 : ¬ 8 ≤ wi := by omega
  have hwa : IntKind.i64.wrap ((a : Int) + 1) = (a : Int) + 1 := by rw [IntKind.wrap_i64]; omega
  clear h hS hB1 at1 R1 S1 z1 hz hc
  go_enter Try.func58, Try.ntmps58
  go_wp2_with fail
  refine (unhide CW).mono ?_
  rintro e u ⟨rfl, r1, b1⟩
  have HZ1 := hide (fun u' (hu : Beside gr w1 u') => unhide HZ u' hu)
  clear c0 c1 c2 c3 c4 f1 f2 f3 f4 ce
  obtain ⟨c0, c1, c2, c3, c4, f1, f2, f3, f4⟩ := r1.cells
  have H0 := hide (And.intro r1 b1)
  clear r1 b1 CW
  go_upto_region 12 with fail
  obtain ⟨u1, hu1⟩ : ∃ u1, u.setCell ⟨gr, 1, none⟩ (.int .i64 ((a : Int) + 1)) = u1 := ⟨_, rfl⟩
  have r1 : Rf u1 gr (.slice (some ⟨b, off, none⟩) len cap) ((a : Int) + 1) ((t : Int) + 1) 0 0 := by rw [← hu1]; exact (unhide H0).1.setAt _
  have b1 : Beside gr w1 u1 := by rw [← hu1]; exact (unhide H0).2.set
  rw [hu1]
  clear hu1 H0 c0 c1 c2 c3 c4 f1 f2 f3 f4
  obtain ⟨c0, c1, c2, c3, c4, f1, f2, f3, f4⟩ := r1.cells
  have ce := unhide HZ1 u1 b1
  obtain ⟨B, S, at0, zg⟩ := unhide HS u1 b1
  obtain ⟨z0, z1, z2, z3, z4⟩ := row_cell at0
  have fz0 := frozen_of_row u1 g 0 _ _ at0
  have fz1 := frozen_of_row u1 g 1 _ _ at0
  have fz2 := frozen_of_row u1 g 2 _ _ at0
  have fz3 := frozen_of_row u1 g 3 _ _ at0
  have fz4 := frozen_of_row u1 g 4 _ _ at0
  have H1 := hide (And.intro r1 (And.intro B at0))
  clear r1 b1 B S at0 zg HS hw1
  go_wp2_with fail
  obtain ⟨E1, E2⟩ := store_f (v := .mk 1 1 ⟨#[]⟩ [] []) r (.int .i64 1) (.int .i64 1) (.string ⟨#[]⟩) (.slice none 0 0) (.slice none 0 0) (unhide H1).2.2 (unhide H1).2.1 hg hrg (unhide H1).1 (fun u' _ _ h => plain_made h (by omega) (by omega) (by rw [e0s]; omega)) hr
  obtain ⟨r0, r1, r2, r3, r4⟩ := row_cell E2
  refine bodyPost_ret (v := .agg #[.int .i64 1, .int .i64 1, .string ⟨#[]⟩, .slice none 0 0, .slice none 0 0]) (by simp [results, Try.results58, go_sem, r0, r1, r2, r3, r4]) rfl ?_
  exact E1

set_option maxRecDepth 100000 in
set_option maxHeartbeats 1000000 in
theorem val_f_num_bad (zs : List Int) (d : Nat) (gr : Nat) (ao : Option Addr) (len cap a t : Nat) (w : World) (h : Rf w gr (.slice ao len cap) a t 0 0) (hS : Src w gr ao len cap zs) (r : Except (Int × Int) (Vl × Nat × Nat)) (hc : zs[a]? = some 3) (hd : 1 ≤ d) (ht : t ≤ 2048) (hh : ¬ 2048 < t + 1) (n nx er : Int) (hu : intOfU (uintAt zs ((a : Int) + 1)) = (n, nx, er)) (he : ¬ er = 0) (hr : ∀ p t, Kept r (.mk 0 0 ⟨#[]⟩ [] []) p t 41 ((a : Int) + 1)) :
    Calls Try.prog 58 #[.pointer (some ⟨gr, 0, none⟩), .int .i64 (8 - (d : Int))] w fun e w' => ResF gr (.slice ao len cap) w r e w' := by
  obtain ⟨g, hg⟩ : ∃ g, w.heap.size = g := ⟨_, rfl⟩
  have hrg : gr < g := by have := h.lt; omega
  have hB1 : Below w.heap.size w (w.alloc (.cells #[.int .i64 0, .int .i64 0, .string ⟨#[]⟩, .slice none 0 0, .slice none 0 0] 51)) := (Below.refl _ _).alloc (Nat.le_refl _) _
  have at1 : (w.alloc (.cells #[.int .i64 0, .int .i64 0, .string ⟨#[]⟩, .slice none 0 0, .slice none 0 0] 51)).heap[g]? = some (.cells #[.int .i64 0, .int .i64 0, .string ⟨#[]⟩, .slice none 0 0, .slice none 0 0] 51 (0, 0)) := by rw [← hg]; exact heap_alloc_new w _
  obtain ⟨w1, hw1⟩ : ∃ w1, w.alloc (.cells #[.int .i64 0, .int .i64 0, .string ⟨#[]⟩, .slice none 0 0, .slice none 0 0] 51) = w1 := ⟨_, rfl⟩
  rw [hw1] at hB1 at1
  have R1 : Rf w1 gr (.slice ao len cap) a t 0 0 := (hB1.block gr h.lt).trans h
  have S1 := hS.later (Beside.of_below (gr := gr) hB1)
  have z1 : g < w1.heap.size := (Array.getElem?_eq_some_iff.1 at1).1
  obtain ⟨c0, c1, c2, c3, c4, f1, f2, f3, f4⟩ := R1.cells
  have hcp : cap ≤ 9223372036854775807 := by have := hS.cap; unfold maxLen at this; omega
  have hlc := hS.row.le
  have HS : Hid (∀ u, Beside gr w1 u → Beside gr w u ∧ Src u gr ao len cap zs ∧ u.heap[g]? = some (.cells #[.int .i64 0, .int .i64 0, .string ⟨#[]⟩, .slice none 0 0, .slice none 0 0] 51 (0, 0)) ∧ g < u.heap.size) := hide (fun u hu => ⟨(Beside.of_below hB1).trans hu, S1.later hu, (hu.block g z1 (by omega)).trans at1, Nat.lt_of_lt_of_le z1 hu.size⟩)
  have CW := hide (heavier_ok gr _ a t 1 0 0 a w1 R1 (by omega) (by omega) (by omega))
  obtain ⟨hal, s0, s1, b, off, rfl, hbg, hz⟩ := S1.byte hc
  have ce := hz w1 (Beside.refl _ _)
  have hbn : ¬ b = gr := by omega
  have i1 : ¬ ((len : Int) ≤ (a : Int)) := by omega
  have i2 : (a : Int) < (len : Int) := by omega
  have i0 : (0 : Int) ≤ (a : Int) := by omega
  have HZ := hide hz
  obtain ⟨wi, hwi⟩ : ∃ wi : Int, 8 - (d : Int) = wi := ⟨_, rfl⟩
  rw [hwi]
  have hw8 : ¬ 8 ≤ wi := by omega
  have hwa : IntKind.i64.wrap ((a : Int) + 1) = (a : Int) + 1 := by rw [IntKind.wrap_i64]; omega
  clear h hS hB1 at1 R1 S1 z1 hz hc
  go_enter Try.func58, Try.ntmps58
  go_wp2_with fail
  refine (unhide CW).mono ?_
  rintro e u ⟨rfl, r1, b1⟩
  have HZ1 := hide (fun u' (hu : Beside gr w1 u') => unhide HZ u' hu)
  clear c0 c1 c2 c3 c4 f1 f2 f3 f4 ce
  obtain ⟨c0, c1, c2, c3, c4, f1, f2, f3, f4⟩ := r1.cells
  have H0 := hide (And.intro r1 b1)
  clear r1 b1 CW
  go_upto_region 12 with fail
  obtain ⟨u1, hu1⟩ : ∃ u1, u.setCell ⟨gr, 1, none⟩ (.int .i64 ((a : Int) + 1)) = u1 := ⟨_, rfl⟩
  have r1 : Rf u1 gr (.slice (some ⟨b, off, none⟩) len cap) ((a : Int) + 1) ((t : Int) + 1) 0 0 := by rw [← hu1]; exact (unhide H0).1.setAt _
  have b1 : Beside gr w1 u1 := by rw [← hu1]; exact (unhide H0).2.set
  rw [hu1]
  clear hu1 H0 c0 c1 c2 c3 c4 f1 f2 f3 f4
  obtain ⟨c0, c1, c2, c3, c4, f1, f2, f3, f4⟩ := r1.cells
  have ce := unhide HZ1 u1 b1
  obtain ⟨B, S, at0, zg⟩ := unhide HS u1 b1
  obtain ⟨z0, z1, z2, z3, z4⟩ := row_cell at0
  have fz0 := frozen_of_row u1 g 0 _ _ at0
  have fz1 := frozen_of_row u1 g 1 _ _ at0
  have fz2 := frozen_of_row u1 g 2 _ _ at0
  have fz3 := frozen_of_row u1 g 3 _ _ at0
  have fz4 := frozen_of_row u1 g 4 _ _ at0
  have CI := fun k => hide (refInt_any (some ⟨b, off, none⟩) len cap ((a : Int) + 1) zs (u1.drewN k) (S.drewN k).row S.cap)
  rw [hu] at CI
  dsimp only at CI
  have CV := fun k => hide (wrong_ok gr _ ((a : Int) + 1) ((t : Int) + 1) 0 41 ((a : Int) + 1) _ (r1.drewN k))
  have hr := hr ((a : Int) + 1) ((t : Int) + 1)
  have H1 := hide (And.intro B (And.intro at0 zg))
  clear r1 b1 B S at0 zg HS hw1 HZ HZ1 hu
  go_upto_region 18 with fail
  go_quiet ((go_at_call 69; exact Calls.quiet_of_same (unhide (CI _))))
  go_wp2_with fail
  refine (unhide (CV _)).mono ?_
  rintro e u2 ⟨rfl, r2, b2⟩
  have B2 := (((unhide H1).1.drew _).trans b2)
  have at2 := ((((Beside.refl gr _).drew _).trans b2).block g (unhide H1).2.2 (by omega)).trans (unhide H1).2.1
  clear z0 z1 z2 z3 z4 fz0 fz1 fz2 fz3 fz4 c0 c1 c2 c3 c4 f1 f2 f3 f4 b2
  obtain ⟨z0, z1, z2, z3, z4⟩ := row_cell at2
  have fz0 := frozen_of_row u2 g 0 _ _ at2
  have fz1 := frozen_of_row u2 g 1 _ _ at2
  have fz2 := frozen_of_row u2 g 2 _ _ at2
  have fz3 := frozen_of_row u2 g 3 _ _ at2
  have fz4 := frozen_of_row u2 g 4 _ _ at2
  have H2 := hide (And.intro r2 (And.intro B2 at2))
  clear r2 B2 at2 H1 CI CV
  go_wp2_with fail
  obtain ⟨E1, E2⟩ := store_f (v := .mk 0 0 ⟨#[]⟩ [] []) r (.int .i64 0) (.int .i64 0) (.string ⟨#[]⟩) (.slice none 0 0) (.slice none 0 0) (unhide H2).2.2 (unhide H2).2.1 hg hrg (unhide H2).1 (fun u' _ _ h => plain_made h (by omega) (by omega) (by rw [e0s]; omega)) hr
  obtain ⟨r0, r1, r2, r3, r4⟩ := row_cell E2
  refine bodyPost_ret (v := .agg #[.int .i64 0, .int .i64 0, .string ⟨#[]⟩, .slice none 0 0, .slice none 0 0]) (by simp [results, Try.results58, go_sem, r0, r1, r2, r3, r4]) rfl ?_
  exact E1

set_option maxRecDepth 100000 in
set_option maxHeartbeats 1000000 in
theorem val_f_num_ok (zs : List Int) (d : Nat) (gr : Nat) (ao : Option Addr) (len cap a t : Nat) (w : World) (h : Rf w gr (.slice ao len cap) a t 0 0) (hS : Src w gr ao len cap zs) (r : Except (Int × Int) (Vl × Nat × Nat)) (hc : zs[a]? = some 3) (hd : 1 ≤ d) (ht : t ≤ 2048) (hh : ¬ 2048 < t + 1) (n nx : Int) (hn : -9223372036854775808 ≤ n ∧ n ≤ 9223372036854775807) (hu : intOfU (uintAt zs ((a : Int) + 1)) = (n, nx, 0)) (hr : Kept r (.mk 2 n ⟨#[]⟩ [] []) nx ((t : Int) + 1) 0 0) :
    Calls Try.prog 58 #[.pointer (some ⟨gr, 0, none⟩), .int .i64 (8 - (d : Int))] w fun e w' => ResF gr (.slice ao len cap) w r e w' := by
  obtain ⟨g, hg⟩ : ∃ g, w.heap.size = g := ⟨_, rfl⟩
  have hrg : gr < g := by have := h.lt; omega
  have hB1 : Below w.heap.size w (w.alloc (.cells #[.int .i64 0, .int .i64 0, .string ⟨#[]⟩, .slice none 0 0, .slice none 0 0] 51)) := (Below.refl _ _).alloc (Nat.le_refl _) _
  have at1 : (w.alloc (.cells #[.int .i64 0, .int .i64 0, .string ⟨#[]⟩, .slice none 0 0, .slice none 0 0] 51)).heap[g]? = some (.cells #[.int .i64 0, .int .i64 0, .string ⟨#[]⟩, .slice none 0 0, .slice none 0 0] 51 (0, 0)) := by rw [← hg]; exact heap_alloc_new w _
  obtain ⟨w1, hw1⟩ : ∃ w1, w.alloc (.cells #[.int .i64 0, .int .i64 0, .string ⟨#[]⟩, .slice none 0 0, .slice none 0 0] 51) = w1 := ⟨_, rfl⟩
  rw [hw1] at hB1 at1
  have R1 : Rf w1 gr (.slice ao len cap) a t 0 0 := (hB1.block gr h.lt).trans h
  have S1 := hS.later (Beside.of_below (gr := gr) hB1)
  have z1 : g < w1.heap.size := (Array.getElem?_eq_some_iff.1 at1).1
  obtain ⟨c0, c1, c2, c3, c4, f1, f2, f3, f4⟩ := R1.cells
  have hcp : cap ≤ 9223372036854775807 := by have := hS.cap; unfold maxLen at this; omega
  have hlc := hS.row.le
  have HS : Hid (∀ u, Beside gr w1 u → Beside gr w u ∧ Src u gr ao len cap zs ∧ u.heap[g]? = some (.cells #[.int .i64 0, .int .i64 0, .string ⟨#[]⟩, .slice none 0 0, .slice none 0 0] 51 (0, 0)) ∧ g < u.heap.size) := hide (fun u hu => ⟨(Beside.of_below hB1).trans hu, S1.later hu, (hu.block g z1 (by omega)).trans at1, Nat.lt_of_lt_of_le z1 hu.size⟩)
  have CW := hide (heavier_ok gr _ a t 1 0 0 a w1 R1 (by omega) (by omega) (by omega))
  obtain ⟨hal, s0, s1, b, off, rfl, hbg, hz⟩ := S1.byte hc
  have ce := hz w1 (Beside.refl _ _)
  have hbn : ¬ b = gr := by omega
  have i1 : ¬ ((len : Int) ≤ (a : Int)) := by omega
  have i2 : (a : Int) < (len : Int) := by omega
  have i0 : (0 : Int) ≤ (a : Int) := by omega
  have HZ := hide hz
  obtain ⟨wi, hwi⟩ : ∃ wi : Int, 8 - (d : Int) = wi := ⟨_, rfl⟩
  rw [hwi]
  have hw8 : ¬ 8 ≤ wi := by omega
  have hwa : IntKind.i64.wrap ((a : Int) + 1) = (a : Int) + 1 := by rw [IntKind.wrap_i64]; omega
  clear h hS hB1 at1 R1 S1 z1 hz hc
  go_enter Try.func58, Try.ntmps58
  go_wp2_with fail
  refine (unhide CW).mono ?_
  rintro e u ⟨rfl, r1, b1⟩
  have HZ1 := hide (fun u' (hu : Beside gr w1 u') => unhide HZ u' hu)
  clear c0 c1 c2 c3 c4 f1 f2 f3 f4 ce
  obtain ⟨c0, c1, c2, c3, c4, f1, f2, f3, f4⟩ := r1.cells
  have H0 := hide (And.intro r1 b1)
  clear r1 b1 CW
  go_upto_region 12 with fail
  obtain ⟨u1, hu1⟩ : ∃ u1, u.setCell ⟨gr, 1, none⟩ (.int .i64 ((a : Int) + 1)) = u1 := ⟨_, rfl⟩
  have r1 : Rf u1 gr (.slice (some ⟨b, off, none⟩) len cap) ((a : Int) + 1) ((t : Int) + 1) 0 0 := by rw [← hu1]; exact (unhide H0).1.setAt _
  have b1 : Beside gr w1 u1 := by rw [← hu1]; exact (unhide H0).2.set
  rw [hu1]
  clear hu1 H0 c0 c1 c2 c3 c4 f1 f2 f3 f4
  obtain ⟨c0, c1, c2, c3, c4, f1, f2, f3, f4⟩ := r1.cells
  have ce := unhide HZ1 u1 b1
  obtain ⟨B, S, at0, zg⟩ := unhide HS u1 b1
  obtain ⟨z0, z1, z2, z3, z4⟩ := row_cell at0
  have fz0 := frozen_of_row u1 g 0 _ _ at0
  have fz1 := frozen_of_row u1 g 1 _ _ at0
  have fz2 := frozen_of_row u1 g 2 _ _ at0
  have fz3 := frozen_of_row u1 g 3 _ _ at0
  have fz4 := frozen_of_row u1 g 4 _ _ at0
  have CI := fun k => hide (refInt_any (some ⟨b, off, none⟩) len cap ((a : Int) + 1) zs (u1.drewN k) (S.drewN k).row S.cap)
  rw [hu] at CI
  dsimp only at CI
  have H1 := hide (And.intro r1 (And.intro B at0))
  have HN := hide hn
  have HG := hide zg
  clear r1 b1 B S at0 zg HS hw1 HZ HZ1 hu hn
  go_upto_region 18 with fail
  go_quiet ((go_at_call 69; exact Calls.quiet_of_same (unhide (CI _))))
  go_wp2_with fail
  obtain ⟨E1, E2⟩ := store_f (v := .mk 2 n ⟨#[]⟩ [] []) r (.int .i64 2) (.int .i64 n) (.string ⟨#[]⟩) (.slice none 0 0) (.slice none 0 0) ((((Beside.refl gr _).drew nq).set).block g (unhide HG) (by omega) |>.trans (unhide H1).2.2) ((((unhide H1).2.1).drew nq).set) hg hrg (((unhide H1).1.drewN nq).setAt _) (fun u' _ _ h => plain_made h (by omega) (unhide HN) (by rw [e0s]; omega)) hr
  obtain ⟨r0, r1, r2, r3, r4⟩ := row_cell E2
  refine bodyPost_ret (v := .agg #[.int .i64 2, .int .i64 n, .string ⟨#[]⟩, .slice none 0 0, .slice none 0 0]) (by simp [results, Try.results58, go_sem, r0, r1, r2, r3, r4]) rfl ?_
  exact E1

set_option maxRecDepth 100000 in
set_option maxHeartbeats 1000000 in
theorem val_f_txt_bad (zs : List Int) (d : Nat) (gr : Nat) (ao : Option Addr) (len cap a t : Nat) (w : World) (h : Rf w gr (.slice ao len cap) a t 0 0) (hS : Src w gr ao len cap zs) (r : Except (Int × Int) (Vl × Nat × Nat)) (hc : zs[a]? = some 4) (hd : 1 ≤ d) (ht : t ≤ 2048) (hh : ¬ 2048 < t + 1) (p : Int × Int) (hu : rdCnt zs a (a + 1) (t + 1) 1 = .error p) (hp : ¬ p.1 = 0) (hr : ∀ x y, Kept r (.mk 0 0 ⟨#[]⟩ [] []) x y p.1 p.2) :
    Calls Try.prog 58 #[.pointer (some ⟨gr, 0, none⟩), .int .i64 (8 - (d : Int))] w fun e w' => ResF gr (.slice ao len cap) w r e w' := by
  obtain ⟨g, hg⟩ : ∃ g, w.heap.size = g := ⟨_, rfl⟩
  have hrg : gr < g := by have := h.lt; omega
  have hB1 : Below w.heap.size w (w.alloc (.cells #[.int .i64 0, .int .i64 0, .string ⟨#[]⟩, .slice none 0 0, .slice none 0 0] 51)) := (Below.refl _ _).alloc (Nat.le_refl _) _
  have at1 : (w.alloc (.cells #[.int .i64 0, .int .i64 0, .string ⟨#[]⟩, .slice none 0 0, .slice none 0 0] 51)).heap[g]? = some (.cells #[.int .i64 0, .int .i64 0, .string ⟨#[]⟩, .slice none 0 0, .slice none 0 0] 51 (0, 0)) := by rw [← hg]; exact heap_alloc_new w _
  obtain ⟨w1, hw1⟩ : ∃ w1, w.alloc (.cells #[.int .i64 0, .int .i64 0, .string ⟨#[]⟩, .slice none 0 0, .slice none 0 0] 51) = w1 := ⟨_, rfl⟩
  rw [hw1] at hB1 at1
  have R1 : Rf w1 gr (.slice ao len cap) a t 0 0 := (hB1.block gr h.lt).trans h
  have S1 := hS.later (Beside.of_below (gr := gr) hB1)
  have z1 : g < w1.heap.size := (Array.getElem?_eq_some_iff.1 at1).1
  obtain ⟨c0, c1, c2, c3, c4, f1, f2, f3, f4⟩ := R1.cells
  have hcp : cap ≤ 9223372036854775807 := by have := hS.cap; unfold maxLen at this; omega
  have hlc := hS.row.le
  have HS : Hid (∀ u, Beside gr w1 u → Beside gr w u ∧ Src u gr ao len cap zs ∧ u.heap[g]? = some (.cells #[.int .i64 0, .int .i64 0, .string ⟨#[]⟩, .slice none 0 0, .slice none 0 0] 51 (0, 0)) ∧ g < u.heap.size) := hide (fun u hu => ⟨(Beside.of_below hB1).trans hu, S1.later hu, (hu.block g z1 (by omega)).trans at1, Nat.lt_of_lt_of_le z1 hu.size⟩)
  have CW := hide (heavier_ok gr _ a t 1 0 0 a w1 R1 (by omega) (by omega) (by omega))
  obtain ⟨hal, s0, s1, b, off, rfl, hbg, hz⟩ := S1.byte hc
  have ce := hz w1 (Beside.refl _ _)
  have hbn : ¬ b = gr := by omega
  have i1 : ¬ ((len : Int) ≤ (a : Int)) := by omega
  have i2 : (a : Int) < (len : Int) := by omega
  have i0 : (0 : Int) ≤ (a : Int) := by omega
  have HZ := hide hz
  obtain ⟨wi, hwi⟩ : ∃ wi : Int, 8 - (d : Int) = wi := ⟨_, rfl⟩
  rw [hwi]
  have hw8 : ¬ 8 ≤ wi := by omega
  have hwa : IntKind.i64.wrap ((a : Int) + 1) = (a : Int) + 1 := by rw [IntKind.wrap_i64]; omega
  clear h hS hB1 at1 R1 S1 z1 hz hc
  go_enter Try.func58, Try.ntmps58
  go_wp2_with fail
  refine (unhide CW).mono ?_
  rintro e u ⟨rfl, r1, b1⟩
  have HZ1 := hide (fun u' (hu : Beside gr w1 u') => unhide HZ u' hu)
  clear c0 c1 c2 c3 c4 f1 f2 f3 f4 ce
  obtain ⟨c0, c1, c2, c3, c4, f1, f2, f3, f4⟩ := r1.cells
  have H0 := hide (And.intro r1 b1)
  clear r1 b1 CW
  go_upto_region 12 with fail
  obtain ⟨u1, hu1⟩ : ∃ u1, u.setCell ⟨gr, 1, none⟩ (.int .i64 ((a : Int) + 1)) = u1 := ⟨_, rfl⟩
  have r1 : Rf u1 gr (.slice (some ⟨b, off, none⟩) len cap) ((a : Int) + 1) ((t : Int) + 1) 0 0 := by rw [← hu1]; exact (unhide H0).1.setAt _
  have b1 : Beside gr w1 u1 := by rw [← hu1]; exact (unhide H0).2.set
  rw [hu1]
  clear hu1 H0 c0 c1 c2 c3 c4 f1 f2 f3 f4
  obtain ⟨c0, c1, c2, c3, c4, f1, f2, f3, f4⟩ := r1.cells
  have ce := unhide HZ1 u1 b1
  obtain ⟨B, S, at0, zg⟩ := unhide HS u1 b1
  obtain ⟨z0, z1, z2, z3, z4⟩ := row_cell at0
  have fz0 := frozen_of_row u1 g 0 _ _ at0
  have fz1 := frozen_of_row u1 g 1 _ _ at0
  have fz2 := frozen_of_row u1 g 2 _ _ at0
  have fz3 := frozen_of_row u1 g 3 _ _ at0
  have fz4 := frozen_of_row u1 g 4 _ _ at0
  have CN := hide (number_f zs a (a + 1) (t + 1) 1 gr _ len cap u1 (by simpa using r1) S (by omega) (by omega))
  rw [hu] at CN
  rw [show ((1 : Nat) : Int) = 1 from rfl] at CN
  have hr := hr ((a + 1 : Nat) : Int) ((t + 1 : Nat) : Int)
  have H1 := hide (And.intro B (And.intro at0 zg))
  have hpb : (p.1 == 0) = false := by simpa using hp
  have hpn : (p.1 != 0) = true := by simpa using hp
  clear r1 b1 B S at0 zg HS hw1 HZ HZ1 hu
  go_wp2_with fail
  refine (unhide CN).mono ?_
  rintro e u2 ⟨rfl, r2, b2⟩
  obtain ⟨f, q⟩ := p
  dsimp only at r2 hpb hpn hr hp
  clear CN z0 z1 z2 z3 z4 fz0 fz1 fz2 fz3 fz4 c0 c1 c2 c3 c4 f1 f2 f3 f4 ce
  obtain ⟨c0, c1, c2, c3, c4, f1, f2, f3, f4⟩ := r2.cells
  have B2 := (unhide H1).1.trans b2
  have at2 := (b2.block g (unhide H1).2.2 (by omega)).trans (unhide H1).2.1
  have zg2 := Nat.lt_of_lt_of_le (unhide H1).2.2 b2.size
  obtain ⟨z0, z1, z2, z3, z4⟩ := row_cell at2
  have fz0 := frozen_of_row u2 g 0 _ _ at2
  have fz1 := frozen_of_row u2 g 1 _ _ at2
  have fz2 := frozen_of_row u2 g 2 _ _ at2
  have fz3 := frozen_of_row u2 g 3 _ _ at2
  have fz4 := frozen_of_row u2 g 4 _ _ at2
  have H2 := hide (And.intro r2 (And.intro B2 (And.intro at2 zg2)))
  clear r2 b2 B2 at2 zg2 H1
  go_upto_region 26 with fail
  go_quiet (fail)
  go_wp2_with fail
  obtain ⟨E1, E2⟩ := store_f (v := .mk 0 0 ⟨#[]⟩ [] []) r (.int .i64 0) (.int .i64 0) (.string ⟨#[]⟩) (.slice none 0 0) (.slice none 0 0) ((((Beside.refl gr _).drew nq).block g (unhide H2).2.2.2 (by omega)).trans (unhide H2).2.2.1) ((unhide H2).2.1.drew nq) hg hrg ((unhide H2).1.drewN nq) (fun u' _ _ h => plain_made h (by omega) (by omega) (by rw [e0s]; omega)) hr
  obtain ⟨r0, r1, r2, r3, r4⟩ := row_cell E2
  refine bodyPost_ret (v := .agg #[.int .i64 0, .int .i64 0, .string ⟨#[]⟩, .slice none 0 0, .slice none 0 0]) (by simp [results, Try.results58, go_sem, r0, r1, r2, r3, r4]) rfl ?_
  exact E1

set_option maxRecDepth 100000 in
set_option maxHeartbeats 1000000 in
theorem val_f_txt_short (zs : List Int) (d : Nat) (gr : Nat) (ao : Option Addr) (len cap a t : Nat) (w : World) (h : Rf w gr (.slice ao len cap) a t 0 0) (hS : Src w gr ao len cap zs) (r : Except (Int × Int) (Vl × Nat × Nat)) (hc : zs[a]? = some 4) (hd : 1 ≤ d) (ht : t ≤ 2048) (hh : ¬ 2048 < t + 1) (n a1 : Nat) (hu : rdCnt zs a (a + 1) (t + 1) 1 = .ok (n, a1)) (hn : n ≤ 2048 ∧ a1 ≤ len) (hs : (len : Int) - (a1 : Int) < (n : Int)) (hr : ∀ x y, Kept r (.mk 0 0 ⟨#[]⟩ [] []) x y 41 ((a : Int) + 1)) :
    Calls Try.prog 58 #[.pointer (some ⟨gr, 0, none⟩), .int .i64 (8 - (d : Int))] w fun e w' => ResF gr (.slice ao len cap) w r e w' := by
  obtain ⟨g, hg⟩ : ∃ g, w.heap.size = g := ⟨_, rfl⟩
  have hrg : gr < g := by have := h.lt; omega
  have hB1 : Below w.heap.size w (w.alloc (.cells #[.int .i64 0, .int .i64 0, .string ⟨#[]⟩, .slice none 0 0, .slice none 0 0] 51)) := (Below.refl _ _).alloc (Nat.le_refl _) _
  have at1 : (w.alloc (.cells #[.int .i64 0, .int .i64 0, .string ⟨#[]⟩, .slice none 0 0, .slice none 0 0] 51)).heap[g]? = some (.cells #[.int .i64 0, .int .i64 0, .string ⟨#[]⟩, .slice none 0 0, .slice none 0 0] 51 (0, 0)) := by rw [← hg]; exact heap_alloc_new w _
  obtain ⟨w1, hw1⟩ : ∃ w1, w.alloc (.cells #[.int .i64 0, .int .i64 0, .string ⟨#[]⟩, .slice none 0 0, .slice none 0 0] 51) = w1 := ⟨_, rfl⟩
  rw [hw1] at hB1 at1
  have R1 : Rf w1 gr (.slice ao len cap) a t 0 0 := (hB1.block gr h.lt).trans h
  have S1 := hS.later (Beside.of_below (gr := gr) hB1)
  have z1 : g < w1.heap.size := (Array.getElem?_eq_some_iff.1 at1).1
  obtain ⟨c0, c1, c2, c3, c4, f1, f2, f3, f4⟩ := R1.cells
  have hcp : cap ≤ 9223372036854775807 := by have := hS.cap; unfold maxLen at this; omega
  have hlc := hS.row.le
  have HS : Hid (∀ u, Beside gr w1 u → Beside gr w u ∧ Src u gr ao len cap zs ∧ u.heap[g]? = some (.cells #[.int .i64 0, .int .i64 0, .string ⟨#[]⟩, .slice none 0 0, .slice none 0 0] 51 (0, 0)) ∧ g < u.heap.size) := hide (fun u hu => ⟨(Beside.of_below hB1).trans hu, S1.later hu, (hu.block g z1 (by omega)).trans at1, Nat.lt_of_lt_of_le z1 hu.size⟩)
  have CW := hide (heavier_ok gr _ a t 1 0 0 a w1 R1 (by omega) (by omega) (by omega))
  obtain ⟨hal, s0, s1, b, off, rfl, hbg, hz⟩ := S1.byte hc
  have ce := hz w1 (Beside.refl _ _)
  have hbn : ¬ b = gr := by omega
  have i1 : ¬ ((len : Int) ≤ (a : Int)) := by omega
  have i2 : (a : Int) < (len : Int) := by omega
  have i0 : (0 : Int) ≤ (a : Int) := by omega
  have HZ := hide hz
  obtain ⟨wi, hwi⟩ : ∃ wi : Int, 8 - (d : Int) = wi := ⟨_, rfl⟩
  rw [hwi]
  have hw8 : ¬ 8 ≤ wi := by omega
  have hwa : IntKind.i64.wrap ((a : Int) + 1) = (a : Int) + 1 := by rw [IntKind.wrap_i64]; omega
  clear h hS hB1 at1 R1 S1 z1 hz hc
  go_enter Try.func58, Try.ntmps58
  go_wp2_with fail
  refine (unhide CW).mono ?_
  rintro e u ⟨rfl, r1, b1⟩
  have HZ1 := hide (fun u' (hu : Beside gr w1 u') => unhide HZ u' hu)
  clear c0 c1 c2 c3 c4 f1 f2 f3 f4 ce
  obtain ⟨c0, c1, c2, c3, c4, f1, f2, f3, f4⟩ := r1.cells
  have H0 := hide (And.intro r1 b1)
  clear r1 b1 CW
  go_upto_region 12 with fail
  obtain ⟨u1, hu1⟩ : ∃ u1, u.setCell ⟨gr, 1, none⟩ (.int .i64 ((a : Int) + 1)) = u1 := ⟨_, rfl⟩
  have r1 : Rf u1 gr (.slice (some ⟨b, off, none⟩) len cap) ((a : Int) + 1) ((t : Int) + 1) 0 0 := by rw [← hu1]; exact (unhide H0).1.setAt _
  have b1 : Beside gr w1 u1 := by rw [← hu1]; exact (unhide H0).2.set
  rw [hu1]
  clear hu1 H0 c0 c1 c2 c3 c4 f1 f2 f3 f4
  obtain ⟨c0, c1, c2, c3, c4, f1, f2, f3, f4⟩ := r1.cells
  have ce := unhide HZ1 u1 b1
  obtain ⟨B, S, at0, zg⟩ := unhide HS u1 b1
  obtain ⟨z0, z1, z2, z3, z4⟩ := row_cell at0
  have fz0 := frozen_of_row u1 g 0 _ _ at0
  have fz1 := frozen_of_row u1 g 1 _ _ at0
  have fz2 := frozen_of_row u1 g 2 _ _ at0
  have fz3 := frozen_of_row u1 g 3 _ _ at0
  have fz4 := frozen_of_row u1 g 4 _ _ at0
  have CN := hide (number_f zs a (a + 1) (t + 1) 1 gr _ len cap u1 (by simpa using r1) S (by omega) (by omega))
  rw [hu] at CN
  rw [show ((1 : Nat) : Int) = 1 from rfl] at CN
  have HSS := hide S
  have H1 := hide (And.intro B (And.intro at0 zg))
  clear r1 b1 B S at0 zg HS hw1 HZ HZ1 hu
  go_wp2_with fail
  refine (unhide CN).mono ?_
  rintro e u2 ⟨rfl, r2, b2⟩
  clear CN z0 z1 z2 z3 z4 fz0 fz1 fz2 fz3 fz4 c0 c1 c2 c3 c4 f1 f2 f3 f4 ce
  obtain ⟨c0, c1, c2, c3, c4, f1, f2, f3, f4⟩ := r2.cells
  have B2 := (unhide H1).1.trans b2
  have at2 := (b2.block g (unhide H1).2.2 (by omega)).trans (unhide H1).2.1
  have zg2 := Nat.lt_of_lt_of_le (unhide H1).2.2 b2.size
  have CV := fun k => hide (wrong_ok gr _ (a1 : Int) ((t + 1 : Nat) : Int) 0 41 ((a : Int) + 1) _ (r2.drewN k))
  have wl : IntKind.i64.wrap ((len : Int) - (a1 : Int)) = (len : Int) - (a1 : Int) := by rw [IntKind.wrap_i64]; omega
  have hr := hr (a1 : Int) ((t + 1 : Nat) : Int)
  have H2 := hide (And.intro r2 (And.intro B2 (And.intro at2 zg2)))
  clear r2 b2 B2 at2 zg2 H1 HSS hn
  go_upto_region 26 with fail
  go_quiet (fail)
  go_wp2_with fail
  refine (unhide (CV _)).mono ?_
  rintro e u3 ⟨rfl, r3, b3⟩
  have B3 := (((unhide H2).2.1.drew nq).trans b3)
  have at3 := ((((Beside.refl gr _).drew nq).trans b3).block g (unhide H2).2.2.2 (by omega)).trans (unhide H2).2.2.1
  clear c0 c1 c2 c3 c4 f1 f2 f3 f4 CV
  obtain ⟨c0, c1, c2, c3, c4, f1, f2, f3, f4⟩ := r3.cells
  obtain ⟨z0, z1, z2, z3, z4⟩ := row_cell at3
  have fz0 := frozen_of_row u3 g 0 _ _ at3
  have fz1 := frozen_of_row u3 g 1 _ _ at3
  have fz2 := frozen_of_row u3 g 2 _ _ at3
  have fz3 := frozen_of_row u3 g 3 _ _ at3
  have fz4 := frozen_of_row u3 g 4 _ _ at3
  have H3 := hide (And.intro r3 (And.intro B3 at3))
  clear r3 b3 B3 at3 H2
  go_wp2_with fail
  obtain ⟨E1, E2⟩ := store_f (v := .mk 0 0 ⟨#[]⟩ [] []) r (.int .i64 0) (.int .i64 0) (.string ⟨#[]⟩) (.slice none 0 0) (.slice none 0 0) (unhide H3).2.2 (unhide H3).2.1 hg hrg (unhide H3).1 (fun u' _ _ h => plain_made h (by omega) (by omega) (by rw [e0s]; omega)) hr
  obtain ⟨r0, r1, r2, r3, r4⟩ := row_cell E2
  refine bodyPost_ret (v := .agg #[.int .i64 0, .int .i64 0, .string ⟨#[]⟩, .slice none 0 0, .slice none 0 0]) (by simp [results, Try.results58, go_sem, r0, r1, r2, r3, r4]) rfl ?_
  exact E1

set_option maxRecDepth 100000 in
set_option maxHeartbeats 1000000 in
theorem val_f_txt_ok (zs : List Int) (d : Nat) (gr : Nat) (ao : Option Addr) (len cap a t : Nat) (w : World) (h : Rf w gr (.slice ao len cap) a t 0 0) (hS : Src w gr ao len cap zs) (r : Except (Int × Int) (Vl × Nat × Nat)) (hc : zs[a]? = some 4) (hd : 1 ≤ d) (ht : t ≤ 2048) (hh : ¬ 2048 < t + 1) (n a1 : Nat) (hu : rdCnt zs a (a + 1) (t + 1) 1 = .ok (n, a1)) (hn : n + (t + 1) ≤ 2048 ∧ a1 ≤ len) (hs : ¬ (len : Int) - (a1 : Int) < (n : Int)) (s : ByteArray) (hss : strOfNums ((zs.drop a1).take n) = s) (hsz : s.size = n) (hr : Kept r (.mk 3 0 s [] []) ((a1 : Int) + (n : Int)) ((t : Int) + 1 + (n : Int)) 0 0) :
    Calls Try.prog 58 #[.pointer (some ⟨gr, 0, none⟩), .int .i64 (8 - (d : Int))] w fun e w' => ResF gr (.slice ao len cap) w r e w' := by
  obtain ⟨g, hg⟩ : ∃ g, w.heap.size = g := ⟨_, rfl⟩
  have hrg : gr < g := by have := h.lt; omega
  have hB1 : Below w.heap.size w (w.alloc (.cells #[.int .i64 0, .int .i64 0, .string ⟨#[]⟩, .slice none 0 0, .slice none 0 0] 51)) := (Below.refl _ _).alloc (Nat.le_refl _) _
  have at1 : (w.alloc (.cells #[.int .i64 0, .int .i64 0, .string ⟨#[]⟩, .slice none 0 0, .slice none 0 0] 51)).heap[g]? = some (.cells #[.int .i64 0, .int .i64 0, .string ⟨#[]⟩, .slice none 0 0, .slice none 0 0] 51 (0, 0)) := by rw [← hg]; exact heap_alloc_new w _
  obtain ⟨w1, hw1⟩ : ∃ w1, w.alloc (.cells #[.int .i64 0, .int .i64 0, .string ⟨#[]⟩, .slice none 0 0, .slice none 0 0] 51) = w1 := ⟨_, rfl⟩
  rw [hw1] at hB1 at1
  have R1 : Rf w1 gr (.slice ao len cap) a t 0 0 := (hB1.block gr h.lt).trans h
  have S1 := hS.later (Beside.of_below (gr := gr) hB1)
  have z1 : g < w1.heap.size := (Array.getElem?_eq_some_iff.1 at1).1
  obtain ⟨c0, c1, c2, c3, c4, f1, f2, f3, f4⟩ := R1.cells
  have hcp : cap ≤ 9223372036854775807 := by have := hS.cap; unfold maxLen at this; omega
  have hlc := hS.row.le
  have HS : Hid (∀ u, Beside gr w1 u → Beside gr w u ∧ Src u gr ao len cap zs ∧ u.heap[g]? = some (.cells #[.int .i64 0, .int .i64 0, .string ⟨#[]⟩, .slice none 0 0, .slice none 0 0] 51 (0, 0)) ∧ g < u.heap.size) := hide (fun u hu => ⟨(Beside.of_below hB1).trans hu, S1.later hu, (hu.block g z1 (by omega)).trans at1, Nat.lt_of_lt_of_le z1 hu.size⟩)
  have CW := hide (heavier_ok gr _ a t 1 0 0 a w1 R1 (by omega) (by omega) (by omega))
  obtain ⟨hal, s0, s1, b, off, rfl, hbg, hz⟩ := S1.byte hc
  have ce := hz w1 (Beside.refl _ _)
  have hbn : ¬ b = gr := by omega
  have i1 : ¬ ((len : Int) ≤ (a : Int)) := by omega
  have i2 : (a : Int) < (len : Int) := by omega
  have i0 : (0 : Int) ≤ (a : Int) := by omega
  have HZ := hide hz
  obtain ⟨wi, hwi⟩ : ∃ wi : Int, 8 - (d : Int) = wi := ⟨_, rfl⟩
  rw [hwi]
  have hw8 : ¬ 8 ≤ wi := by omega
  have hwa : IntKind.i64.wrap ((a : Int) + 1) = (a : Int) + 1 := by rw [IntKind.wrap_i64]; omega
  clear h hS hB1 at1 R1 S1 z1 hz hc
  go_enter Try.func58, Try.ntmps58
  go_wp2_with fail
  refine (unhide CW).mono ?_
  rintro e u ⟨rfl, r1, b1⟩
  have HZ1 := hide (fun u' (hu : Beside gr w1 u') => unhide HZ u' hu)
  clear c0 c1 c2 c3 c4 f1 f2 f3 f4 ce
  obtain ⟨c0, c1, c2, c3, c4, f1, f2, f3, f4⟩ := r1.cells
  have H0 := hide (And.intro r1 b1)
  clear r1 b1 CW
  go_upto_region 12 with fail
  obtain ⟨u1, hu1⟩ : ∃ u1, u.setCell ⟨gr, 1, none⟩ (.int .i64 ((a : Int) + 1)) = u1 := ⟨_, rfl⟩
  have r1 : Rf u1 gr (.slice (some ⟨b, off, none⟩) len cap) ((a : Int) + 1) ((t : Int) + 1) 0 0 := by rw [← hu1]; exact (unhide H0).1.setAt _
  have b1 : Beside gr w1 u1 := by rw [← hu1]; exact (unhide H0).2.set
  rw [hu1]
  clear hu1 H0 c0 c1 c2 c3 c4 f1 f2 f3 f4
  obtain ⟨c0, c1, c2, c3, c4, f1, f2, f3, f4⟩ := r1.cells
  have ce := unhide HZ1 u1 b1
  obtain ⟨B, S, at0, zg⟩ := unhide HS u1 b1
  obtain ⟨z0, z1, z2, z3, z4⟩ := row_cell at0
  have fz0 := frozen_of_row u1 g 0 _ _ at0
  have fz1 := frozen_of_row u1 g 1 _ _ at0
  have fz2 := frozen_of_row u1 g 2 _ _ at0
  have fz3 := frozen_of_row u1 g 3 _ _ at0
  have fz4 := frozen_of_row u1 g 4 _ _ at0
  have CN := hide (number_f zs a (a + 1) (t + 1) 1 gr _ len cap u1 (by simpa using r1) S (by omega) (by omega))
  rw [hu] at CN
  rw [show ((1 : Nat) : Int) = 1 from rfl] at CN
  have HSS := hide S
  have H1 := hide (And.intro B (And.intro at0 zg))
  clear r1 b1 B S at0 zg HS hw1 HZ HZ1 hu
  go_wp2_with fail
  refine (unhide CN).mono ?_
  rintro e u2 ⟨rfl, r2, b2⟩
  clear CN z0 z1 z2 z3 z4 fz0 fz1 fz2 fz3 fz4 c0 c1 c2 c3 c4 f1 f2 f3 f4 ce
  obtain ⟨c0, c1, c2, c3, c4, f1, f2, f3, f4⟩ := r2.cells
  have B2 := (unhide H1).1.trans b2
  have at2 := (b2.block g (unhide H1).2.2 (by omega)).trans (unhide H1).2.1
  have zg2 := Nat.lt_of_lt_of_le (unhide H1).2.2 b2.size
  have S2 := (unhide HSS).later b2
  have wl : IntKind.i64.wrap ((len : Int) - (a1 : Int)) = (len : Int) - (a1 : Int) := by rw [IntKind.wrap_i64]; omega
  have wa : IntKind.i64.wrap ((a1 : Int) + (n : Int)) = (a1 : Int) + (n : Int) := by rw [IntKind.wrap_i64]; omega
  have wt' : IntKind.i64.wrap ((t : Int) + 1 + (n : Int)) = (t : Int) + 1 + (n : Int) := by rw [IntKind.wrap_i64]; omega
  have hnl : (a1 : Int) ≤ (len : Int) := by omega
  have hl := S2.row.length
  have hcell : ∀ k : Nat, ∀ j, j < len → (u2.drewN k).cell? ⟨b, off + j, none⟩ = some (.int .u8 (zs.getD j 0)) := fun k => by
    obtain ⟨b', off', e', hx⟩ := (S2.drewN k).row.at (by omega)
    cases e'
    exact hx
  have H2 := hide (And.intro r2 (And.intro B2 (And.intro at2 zg2)))
  have HN := hide (And.intro hsz hn)
  obtain ⟨z0, z1, z2, z3, z4⟩ := row_cell at2
  have fz0 := frozen_of_row u2 g 0 _ _ at2
  have fz1 := frozen_of_row u2 g 1 _ _ at2
  have fz2 := frozen_of_row u2 g 2 _ _ at2
  have fz3 := frozen_of_row u2 g 3 _ _ at2
  have fz4 := frozen_of_row u2 g 4 _ _ at2
  have ST : ∀ (u3 : World) (P W : Int), P = (a1 : Int) + (n : Int) → W = (t : Int) + 1 + (n : Int) → Rf u3 gr (.slice (some ⟨b, off, none⟩) len cap) P W 0 0 → Beside gr u2 u3 → Hid (ResF gr (.slice (some ⟨b, off, none⟩) len cap) w r (.returned (.agg #[.int .i64 3, .int .i64 0, .string s, .slice none 0 0, .slice none 0 0])) (((((u3.setCell ⟨g, 0, none⟩ (.int .i64 3)).setCell ⟨g, 1, none⟩ (.int .i64 0)).setCell ⟨g, 2, none⟩ (.string s)).setCell ⟨g, 3, none⟩ (.slice none 0 0)).setCell ⟨g, 4, none⟩ (.slice none 0 0)) ∧ (((((u3.setCell ⟨g, 0, none⟩ (.int .i64 3)).setCell ⟨g, 1, none⟩ (.int .i64 0)).setCell ⟨g, 2, none⟩ (.string s)).setCell ⟨g, 3, none⟩ (.slice none 0 0)).setCell ⟨g, 4, none⟩ (.slice none 0 0)).heap[g]? = some (.cells #[.int .i64 3, .int .i64 0, .string s, .slice none 0 0, .slice none 0 0] 51 (0, 0))) := fun u3 P W hP hW h3 b3 => hide (store_f (v := .mk 3 0 s [] []) r (.int .i64 3) (.int .i64 0) (.string s) (.slice none 0 0) (.slice none 0 0) ((b3.block g (unhide H2).2.2.2 (by omega)).trans (unhide H2).2.2.1) ((unhide H2).2.1.trans b3) hg hrg h3 (fun u' _ _ h => plain_made h (by omega) (by omega) (by rw [hsz]; omega)) (by rw [hP, hW]; exact hr))
  have HST := hide ST
  by_cases hcn : cap = a1
  · have hn0 : n = 0 := by omega
    have K2 : ∀ k : Nat, Sem.run Try.prog (convert 22 9 (.slice (some ⟨b, off, none⟩) 0 0)) (u2.drewN k) = .ok (.string s) (u2.drewN k) := fun k => by
      rw [← hss, hn0]
      exact conv_row hl (hcell k) 0 0 0 (by omega) 0
    subst hn0
    have hx : a1 = len := by omega
    subst hx
    subst hcn
    clear r2 b2 B2 at2 zg2 H1 HSS hn S2 hcell ST hss hsz hr hl
    go_upto_region 26 with fail
    go_quiet (fail)
    revert nq
    intro n1
    go_upto_region 30 with fail
    go_quiet (fail)
    go_wp2_with fail
    have E := unhide (unhide HST _ (cap : Int) ((t : Int) + 1) (by omega) (by omega) ((((unhide H2).1.drewN (n1 + nq)).setAt _).setWt ((t : Int) + 1)) ((((Beside.refl gr _).drew (n1 + nq)).set).set))
    obtain ⟨r0, r1, r2, r3, r4⟩ := row_cell E.2
    refine bodyPost_ret (v := .agg #[.int .i64 3, .int .i64 0, .string s, .slice none 0 0, .slice none 0 0]) (by simp [results, Try.results58, go_sem, r0, r1, r2, r3, r4]) rfl ?_
    exact E.1
  · have K2 : ∀ k : Nat, Sem.run Try.prog (convert 22 9 (.slice (some ⟨b, off + a1, none⟩) n (cap - a1))) (u2.drewN k) = .ok (.string s) (u2.drewN k) := fun k => by
      rw [← hss]
      exact conv_row hl (hcell k) a1 n (cap - a1) (by omega) 0
    clear r2 b2 B2 at2 zg2 H1 HSS hn S2 hcell ST hss hsz hr hl
    go_upto_region 26 with fail
    go_quiet (fail)
    revert nq
    intro n1
    go_upto_region 30 with fail
    go_quiet (fail)
    go_wp2_with fail
    have E := unhide (unhide HST _ ((a1 : Int) + (n : Int)) ((t : Int) + 1 + (n : Int)) rfl rfl ((((unhide H2).1.drewN (n1 + nq)).setAt _).setWt ((t : Int) + 1 + (n : Int))) ((((Beside.refl gr _).drew (n1 + nq)).set).set))
    obtain ⟨r0, r1, r2, r3, r4⟩ := row_cell E.2
    refine bodyPost_ret (v := .agg #[.int .i64 3, .int .i64 0, .string s, .slice none 0 0, .slice none 0 0]) (by simp [results, Try.results58, go_sem, r0, r1, r2, r3, r4]) rfl ?_
    exact E.1

end Go.Proofs.Ytfdnhpmldnmncaa
