/-
  The walks of whole and of what it defers; conditions: the form's own reach.
-/
import Derived.Test.YtfdnhpmldnmncaaR21
import Derived.Defers
import Derived.Recover
import Derived.Laws.Pointers
namespace Go.Proofs.Ytfdnhpmldnmncaa
open Go.RowKit

theorem as_fault (v : Value) (w : World) : (Instr.typeAssert (.iface 108 v) 20 108 false).run Try.prog w = .ok v w := by kernel_rfl

theorem catch_fault (f : Nat) (x y c q : Int) (older : List PanicEntry) (w : World) (h : w.heap[f]? = some (.cells #[.int .i64 x, .int .i64 y] 108 (0, 0))) :
    CallsD Try.prog 77 #[.pointer (some ⟨f, 0, none⟩)] (.panicking ({ v := .iface 108 (.agg #[.int .i64 c, .int .i64 q]), recovered := false } :: older)) w fun e u' w' =>
      e = .returned (.tuple #[]) ∧ u' = .panicking ({ v := .iface 108 (.agg #[.int .i64 c, .int .i64 q]), recovered := true } :: older) ∧ w' = (w.setCell ⟨f, 0, none⟩ (.int .i64 c)).setCell ⟨f, 1, none⟩ (.int .i64 q) := by
  have c0 : w.cell? ⟨f, 0, none⟩ = some (.int .i64 x) := by simp [World.cell?, h]
  have c1 : w.cell? ⟨f, 1, none⟩ = some (.int .i64 y) := by simp [World.cell?, h]
  have f0 := frozen_of_row w f 0 _ _ h
  have f1 := frozen_of_row w f 1 _ _ h
  refine callsD_of_wpS Try.func77 rfl fun c₀ cs hu => ?_
  apply wpS_seq
  apply wpS_region
  simp [wpOpsS, go_sem, recoverD, hu, Try.ntmps77, Exit.thenS]
  apply wpS_seq
  apply wpS_region
  simp [wpOpsS, go_sem, Exit.thenS, Array.replicate]
  refine wpS_cond (t := true) (by simp [Act.eval]) ?_
  simp only [if_true]
  apply wpS_region
  simp [wpOpsS, go_sem, as_fault, c0, c1, f0, f1, bodyPostS, results, Try.results77]

theorem catch_idle (f : Nat) (w : World) :
    CallsD Try.prog 77 #[.pointer (some ⟨f, 0, none⟩)] .returning w fun e u' w' => e = .returned (.tuple #[]) ∧ u' = .returning ∧ w' = w := by
  refine callsD_of_wpS Try.func77 rfl fun c₀ cs hu => ?_
  apply wpS_seq
  apply wpS_region
  simp [wpOpsS, go_sem, recoverD, hu, Try.ntmps77, Exit.thenS]
  apply wpS_seq
  apply wpS_region
  simp [wpOpsS, go_sem, Exit.thenS, Array.replicate]
  refine wpS_cond (t := false) (by simp [Act.eval]) ?_
  simp only [Bool.false_eq_true, if_false]
  refine wpS_of_wp (wp_skip ?_)
  cases c₀
  simp_all [bodyPostS, results, Try.results77]

/-- how whole ends -/
def ResW (gr : Nat) (bv : Value) (w : World) (r : Except (Int × Int) (Vl × Nat × Nat)) (e : Ending) (w' : World) : Prop :=
  match r with
  | .error p => e = .returned (.tuple #[.agg #[.int .i64 0, .int .i64 0, .string ⟨#[]⟩, .slice none 0 0, .slice none 0 0], .agg #[.int .i64 p.1, .int .i64 p.2]]) ∧ Beside gr w w'
  | .ok (v, a', t') => ∃ x, e = .returned (.tuple #[x, .agg #[.int .i64 0, .int .i64 0]]) ∧ IsQ w' (fun b => w.heap.size ≤ b ∧ b < w'.heap.size) v x ∧ Rdr w' gr bv a' t' ∧ Beside gr w w'

set_option maxRecDepth 100000 in
set_option maxHeartbeats 1000000 in
theorem whole_any (zs : List Int) (gr : Nat) (ao : Option Addr) (len cap a : Nat) (w : World) (h : Rdr w gr (.slice ao len cap) a 0) (hS : Src w gr ao len cap zs) (ha : a ≤ len) :
    Calls Try.prog 65 #[.pointer (some ⟨gr, 0, none⟩)] w fun e w' => ResW gr (.slice ao len cap) w (rdV zs 8 a 0) e w' := by
  have hmf : ∀ (fn : Fn) (first cap : Array Value) (w : World), (Instr.makeFunc fn first cap).run Try.prog w = .ok (.func fn first cap) w := fun _ _ _ _ => rfl
  obtain ⟨g, hg⟩ : ∃ g, w.heap.size = g := ⟨_, rfl⟩
  have hrg : gr < g := by have := h.lt; omega
  have hB2 : Below w.heap.size w ((w.alloc (.cells #[.int .i64 0, .int .i64 0, .string ⟨#[]⟩, .slice none 0 0, .slice none 0 0] 51)).alloc (.cells #[.int .i64 0, .int .i64 0] 108)) := ((Below.refl _ _).alloc (Nat.le_refl _) _).alloc (by simp) _
  have at1 : ((w.alloc (.cells #[.int .i64 0, .int .i64 0, .string ⟨#[]⟩, .slice none 0 0, .slice none 0 0] 51)).alloc (.cells #[.int .i64 0, .int .i64 0] 108)).heap[g + 1]? = some (.cells #[.int .i64 0, .int .i64 0] 108 (0, 0)) := by
    have := heap_alloc_new (w.alloc (.cells #[.int .i64 0, .int .i64 0, .string ⟨#[]⟩, .slice none 0 0, .slice none 0 0] 51)) (.cells #[.int .i64 0, .int .i64 0] 108)
    rw [← hg]
    simpa using this
  have at0 : ((w.alloc (.cells #[.int .i64 0, .int .i64 0, .string ⟨#[]⟩, .slice none 0 0, .slice none 0 0] 51)).alloc (.cells #[.int .i64 0, .int .i64 0] 108)).heap[g]? = some (.cells #[.int .i64 0, .int .i64 0, .string ⟨#[]⟩, .slice none 0 0, .slice none 0 0] 51 (0, 0)) := by
    have b1 := (Below.refl (w.alloc (.cells #[.int .i64 0, .int .i64 0, .string ⟨#[]⟩, .slice none 0 0, .slice none 0 0] 51)).heap.size (w.alloc (.cells #[.int .i64 0, .int .i64 0, .string ⟨#[]⟩, .slice none 0 0, .slice none 0 0] 51))).alloc (Nat.le_refl _) (.cells #[.int .i64 0, .int .i64 0] 108)
    rw [← hg, b1.block w.heap.size (by simp)]
    exact heap_alloc_new w _
  obtain ⟨w2, hw2⟩ : ∃ w2, (w.alloc (.cells #[.int .i64 0, .int .i64 0, .string ⟨#[]⟩, .slice none 0 0, .slice none 0 0] 51)).alloc (.cells #[.int .i64 0, .int .i64 0] 108) = w2 := ⟨_, rfl⟩
  rw [hw2] at hB2 at1 at0
  have CV := hide (val_any zs 8 gr ao len cap a 0 w2 ((hB2.block gr h.lt).trans h) (hS.later (Beside.of_below hB2)) ha (by omega) (by omega))
  rw [show (8 : Int) - ((8 : Nat) : Int) = 0 from rfl] at CV
  have HB := hide (And.intro hB2 (And.intro at0 at1))
  clear hB2 at0 at1 h hS
  cases hv : rdV zs 8 a 0 with
  | error p =>
    rw [hv] at CV
    go_enter_defers Try.func65, Try.ntmps65
    go_wp2_with fail
    refine (unhide CV).mono ?_
    rintro e u ⟨rfl, b1⟩
    unfold fault
    go_wp2_with fail
    obtain ⟨hB2, at0, at1⟩ := unhide HB
    have z1 : g + 1 < w2.heap.size := (Array.getElem?_eq_some_iff.1 at1).1
    have at1' := (b1.block (g + 1) z1 (by omega)).trans at1
    have at0' := (b1.block g (by omega) (by omega)).trans at0
    refine leaves_cons (f := 77) (args := #[.pointer (some ⟨g + 1, 0, none⟩)]) (by simp) (by simp [go_sem]) ?_
    refine (catch_fault (g + 1) 0 0 p.1 p.2 [] u at1').mono ?_
    rintro e u' w9 ⟨rfl, rfl, hw9⟩
    have R9 : w9.heap[g + 1]? = some (.cells #[.int .i64 p.1, .int .i64 p.2] 108 (0, 0)) := by
      rw [hw9, heap_setCell_same _ _ 1 _ _ _ (heap_setCell_same _ _ 0 _ _ _ at1')]
      rfl
    have O9 : ∀ c, c ≠ g + 1 → w9.heap[c]? = u.heap[c]? := fun c hc => by rw [hw9, heap_setCell_other _ _ _ _ hc, heap_setCell_other _ _ _ _ hc]
    have B9 : Below (g + 1) u w9 := by rw [hw9]; exact ((Below.refl _ _).setCell (p := ⟨g + 1, 0, none⟩) (by simp) _).setCell (p := ⟨g + 1, 1, none⟩) (by simp) _
    have Z9 := (O9 g (by omega)).trans at0'
    obtain ⟨r0, r1, r2, r3, r4⟩ := row_cell Z9
    have q0 : w9.cell? ⟨g + 1, 0, none⟩ = some (.int .i64 p.1) := by simp [World.cell?, R9]
    have q1 : w9.cell? ⟨g + 1, 1, none⟩ = some (.int .i64 p.2) := by simp [World.cell?, R9]
    have QB : Beside gr w w9 := by
      have hb := (Beside.of_below (gr := gr) hB2).trans b1
      exact ⟨B9.os.trans hb.os, B9.tape.trans hb.tape, B9.output.trans hb.output, Nat.le_trans hb.size B9.size, fun k hk hn => (B9.block k (by omega)).trans (hb.block k hk hn)⟩
    clear hw9
    simp [Leaves, settle, results, Try.results65, go_sem, r0, r1, r2, r3, r4, q0, q1]
    exact ⟨rfl, QB⟩
  | ok vp =>
    obtain ⟨v, a', t'⟩ := vp
    rw [hv] at CV
    go_enter_defers Try.func65, Try.ntmps65
    go_wp2_with fail
    refine (unhide CV).mono ?_
    rintro e u ⟨x2, rfl, p2, r2, b1⟩
    obtain ⟨k5, n5, s5, l5, ks5, al5, ak5, cl5, ck5, hy5, rfl⟩ := p2.shape
    clear hy5
    obtain ⟨lc5, hlc5⟩ : ∃ lc5, l5.length = lc5 := ⟨_, rfl⟩
    obtain ⟨mc5, hmc5⟩ : ∃ mc5, ks5.length = mc5 := ⟨_, rfl⟩
    rw [hlc5, hmc5] at p2 ⊢
    clear hlc5 hmc5
    obtain ⟨hB2, at0, at1⟩ := unhide HB
    have z1 : g + 1 < w2.heap.size := (Array.getElem?_eq_some_iff.1 at1).1
    have at1' := (b1.block (g + 1) z1 (by omega)).trans at1
    have at0' := (b1.block g (by omega) (by omega)).trans at0
    obtain ⟨z0, z1', z2, z3, z4⟩ := row_cell at0'
    have fz0 := frozen_of_row u g 0 _ _ at0'
    have fz1 := frozen_of_row u g 1 _ _ at0'
    have fz2 := frozen_of_row u g 2 _ _ at0'
    have fz3 := frozen_of_row u g 3 _ _ at0'
    have fz4 := frozen_of_row u g 4 _ _ at0'
    have y0 : u.cell? ⟨g + 1, 0, none⟩ = some (.int .i64 0) := by simp [World.cell?, at1']
    have y1 : u.cell? ⟨g + 1, 1, none⟩ = some (.int .i64 0) := by simp [World.cell?, at1']
    have fy0 := frozen_of_row u (g + 1) 0 _ _ at1'
    have fy1 := frozen_of_row u (g + 1) 1 _ _ at1'
    have H2 := hide (And.intro p2 (And.intro r2 (And.intro b1 (And.intro hB2 (And.intro at0' (And.intro at1' z1))))))
    clear p2 r2 b1 hB2 at0 at1 at0' at1' z1 HB CV hw2 hv
    go_wp2_with fail
    refine leaves_cons (f := 77) (args := #[.pointer (some ⟨g + 1, 0, none⟩)]) (by simp) (by simp [go_sem]) ?_
    refine (catch_idle (g + 1) _).mono ?_
    rintro e u' w9 ⟨rfl, rfl, hw9⟩
    obtain ⟨p2, r2, b1, hB2, at0, at1, zg⟩ := unhide H2
    have F9 := five_set u g 51 _ _ _ _ _ (.int .i64 k5) (.int .i64 n5) (.string s5) (.slice al5 lc5 cl5) (.slice ak5 mc5 ck5) at0
    have P9 := fun c hc => five_other u g c (.int .i64 k5) (.int .i64 n5) (.string s5) (.slice al5 lc5 cl5) (.slice ak5 mc5 ck5) hc
    have Q9 := five_below (Below.refl g u) (Nat.le_refl g) (.int .i64 k5) (.int .i64 n5) (.string s5) (.slice al5 lc5 cl5) (.slice ak5 mc5 ck5)
    have S9 : (((((u.setCell ⟨g, 0, none⟩ (.int .i64 k5)).setCell ⟨g, 1, none⟩ (.int .i64 n5)).setCell ⟨g, 2, none⟩ (.string s5)).setCell ⟨g, 3, none⟩ (.slice al5 lc5 cl5)).setCell ⟨g, 4, none⟩ (.slice ak5 mc5 ck5)).heap.size = u.heap.size := by simp
    generalize (((((u.setCell ⟨g, 0, none⟩ (.int .i64 k5)).setCell ⟨g, 1, none⟩ (.int .i64 n5)).setCell ⟨g, 2, none⟩ (.string s5)).setCell ⟨g, 3, none⟩ (.slice al5 lc5 cl5)).setCell ⟨g, 4, none⟩ (.slice ak5 mc5 ck5)) = u5 at hw9 F9 P9 Q9 S9
    have at5 := (P9 (g + 1) (by omega)).trans at1
    have R9 : w9.heap[g + 1]? = some (.cells #[.int .i64 0, .int .i64 0] 108 (0, 0)) := by
      rw [hw9, heap_setCell_same _ _ 1 _ _ _ (heap_setCell_same _ _ 0 _ _ _ at5)]
      rfl
    have O9 : ∀ c, c ≠ g + 1 → w9.heap[c]? = u5.heap[c]? := fun c hc => by rw [hw9, heap_setCell_other _ _ _ _ hc, heap_setCell_other _ _ _ _ hc]
    have B9 : Below (g + 1) u5 w9 := by rw [hw9]; exact ((Below.refl _ _).setCell (p := ⟨g + 1, 0, none⟩) (by simp) _).setCell (p := ⟨g + 1, 1, none⟩) (by simp) _
    have T9 : w9.heap.size = u.heap.size := by rw [hw9]; simpa using S9
    have Z9 := (O9 g (by omega)).trans F9
    obtain ⟨r0, r1, r2', r3, r4⟩ := row_cell Z9
    have q0 : w9.cell? ⟨g + 1, 0, none⟩ = some (.int .i64 0) := by simp [World.cell?, R9]
    have q1 : w9.cell? ⟨g + 1, 1, none⟩ = some (.int .i64 0) := by simp [World.cell?, R9]
    have A9 : ∀ c, c ≠ g → c ≠ g + 1 → w9.heap[c]? = u.heap[c]? := fun c h1 h2 => (O9 c h2).trans (P9 c h1)
    have I9 : IsQ w9 (fun c => w.heap.size ≤ c ∧ c < w9.heap.size) v (.agg #[.int .i64 k5, .int .i64 n5, .string s5, .slice al5 lc5 cl5, .slice ak5 mc5 ck5]) :=
      (p2.move (fun c hc => A9 c (by omega) (by omega))).weak (fun c hc => ⟨by omega, by omega⟩)
    have RR : Rdr w9 gr (.slice ao len cap) a' t' := (A9 gr (by omega) (by omega)).trans r2
    have QB : Beside gr w w9 := by
      have hb := (Beside.of_below (gr := gr) hB2).trans b1
      exact ⟨(B9.os.trans Q9.os).trans hb.os, (B9.tape.trans Q9.tape).trans hb.tape, (B9.output.trans Q9.output).trans hb.output, Nat.le_trans hb.size (by omega), fun k hk hn => (A9 k (by omega) (by omega)).trans (hb.block k hk hn)⟩
    clear hw9
    simp [Leaves, settle, results, Try.results65, go_sem, r0, r1, r2', r3, r4, q0, q1]
    exact ⟨_, rfl, I9, RR, QB⟩
end Go.Proofs.Ytfdnhpmldnmncaa
