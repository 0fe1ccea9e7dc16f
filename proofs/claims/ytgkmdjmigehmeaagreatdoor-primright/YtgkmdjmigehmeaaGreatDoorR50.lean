/-
  Do of any operation on any values (prim); conditions: the package's variables, those of hash.
-/
import Derived.Test.YtgkmdjmigehmeaaGreatDoorR40
import Derived.Test.YtgkmdjmigehmeaaGreatDoorR41
import Derived.Test.YtgkmdjmigehmeaaGreatDoorR42
import Derived.Test.YtgkmdjmigehmeaaGreatDoorR43
import Derived.Test.YtgkmdjmigehmeaaGreatDoorR44
import Derived.Test.YtgkmdjmigehmeaaGreatDoorR45
import Derived.Test.YtgkmdjmigehmeaaGreatDoorR46
import Derived.Test.YtgkmdjmigehmeaaGreatDoorR47
import Derived.Test.YtgkmdjmigehmeaaGreatDoorR48
import Derived.Test.YtgkmdjmigehmeaaGreatDoorR49
namespace Go.Proofs.YtgkmdjmigehmeaaGreatDoor
set_option linter.unusedVariables false
set_option linter.unusedSimpArgs false
set_option maxRecDepth 100000
set_option maxHeartbeats 16000000
open Go.RowKit Go.Shelf
theorem may_right {op : Int} {ex : Vl} {vs : List Vl} (h : mayB op ex vs = true) : (10 ≤ op ∧ op ≤ 37) ∧ takesA op vs.length ex = vs.length ∧ rightB ex = true ∧ ∀ v ∈ vs, rightB v = true := by
 unfold mayB at h
 simp only [Bool.and_eq_true, decide_eq_true_eq, List.all_eq_true] at h
 exact ⟨h.1, h.2.1, h.2.2.1, h.2.2.2⟩
theorem may_len {op : Int} {ex : Vl} {vs : List Vl} {k : Nat} (h : mayB op ex vs = true) (h2 : ¬ op = 23) (h3 : ¬ op = 24) (h4 : (infoA op).1.2.2.1 = k) : vs.length = k := by
 obtain ⟨h1, ht, _⟩ := may_right h
 unfold takesA at ht
 rw [if_pos h1, if_neg h2, if_neg h3, h4] at ht
 omega
theorem len_one {vs : List Vl} (h : vs.length = 1) : ∃ x, vs = [x] := by
 match vs, h with
 | [x], _ => exact ⟨x, rfl⟩
theorem len_two {vs : List Vl} (h : vs.length = 2) : ∃ x y, vs = [x, y] := by
 match vs, h with
 | [x, y], _ => exact ⟨x, y, rfl⟩
theorem len_three {vs : List Vl} (h : vs.length = 3) : ∃ x y z, vs = [x, y, z] := by
 match vs, h with
 | [x, y, z], _ => exact ⟨x, y, z, rfl⟩
theorem okL_el : ∀ (b : Nat) (l : List Vl), okL b l = true → ∀ y ∈ l, okB b y = true
 | _, [], _ => fun y hy => by cases hy
 | b, x :: r, h => fun y hy => by
  rw [okL_cons, Bool.and_eq_true] at h
  rcases List.mem_cons.1 hy with rfl | hy
  ·exact h.1
  ·exact okL_el b r h.2 y hy
theorem wtL_el : ∀ (l : List Vl), ∀ y ∈ l, wt y ≤ wtL l
 | [] => fun y hy => by cases hy
 | x :: r => fun y hy => by
  have e : wtL (x :: r) = wt x + wtL r := wtL_cons x r
  rcases List.mem_cons.1 hy with rfl | hy
  ·omega
  ·have := wtL_el r y hy; omega
theorem okB_up : ∀ (b : Nat) (v : Vl), okB b v = true → okB (b + 1) v = true := by
 intro b
 induction b with
 | zero => intro v h; simp [okB] at h
 | succ b ih =>
  intro v h
  obtain ⟨k, n, s, l, ks⟩ := v
  simp only [okB, Bool.and_eq_true] at h ⊢
  refine ⟨h.1, ?_⟩
  have : ∀ (l : List Vl), okL b l = true → okL (b + 1) l = true := by
   intro l
   induction l with
   | nil => intro _; exact okL_nil _
   | cons x r ih2 => intro h; rw [okL_cons, Bool.and_eq_true] at h ⊢; exact ⟨ih _ h.1, ih2 h.2⟩
  exact this _ h.2
theorem right_el {x : Vl} (h : rightB x = true) : ∀ e ∈ x.l, rightB e = true := by
 intro e he
 obtain ⟨k, n, s, l, ks⟩ := x
 obtain ⟨h1, h2⟩ := right_wt h
 simp only [okB, Bool.and_eq_true] at h1
 have a1 := okB_up _ _ (okL_el _ _ h1.2 e he)
 have a2 := wtL_el l e he
 have a3 : wtL l ≤ wt (.mk k n s l ks) := by simp only [wt]; omega
 unfold rightB
 rw [Bool.and_eq_true, decide_eq_true_eq]
 exact ⟨a1, by omega⟩
theorem kind_16 {x : Vl} {vs : List Vl} {k1 k2 : Int} {alk : Bool} (hx : rightB x = true) (h : fitsB 16 k1 k2 alk (x :: vs) = true) : x.kind = 4 := by
 have hk := right_kind hx
 unfold fitsB fit1 at h
 rw [show kdAt (x :: vs) 0 = x.kind from rfl] at h
 simp only [Bool.and_eq_true, Bool.or_eq_true, beq_iff_eq] at h
 have hb : bitK 16 x.kind = true := by
  rcases h.1.1.1 with e | e
  ·cases e
  ·exact e
 rcases (show x.kind = 0 ∨ x.kind = 1 ∨ x.kind = 2 ∨ x.kind = 3 ∨ x.kind = 4 ∨ x.kind = 5 by omega) with e | e | e | e | e | e
 ·rw [e] at hb; exact absurd hb (by rw [show bitK 16 0 = false by kernel_rfl]; simp)
 ·rw [e] at hb; exact absurd hb (by rw [show bitK 16 1 = false by kernel_rfl]; simp)
 ·rw [e] at hb; exact absurd hb (by rw [show bitK 16 2 = false by kernel_rfl]; simp)
 ·rw [e] at hb; exact absurd hb (by rw [show bitK 16 3 = false by kernel_rfl]; simp)
 ·exact e
 ·rw [e] at hb; exact absurd hb (by rw [show bitK 16 5 = false by kernel_rfl]; simp)
theorem kind_32 {x : Vl} {vs : List Vl} {k1 k2 : Int} {alk : Bool} (hx : rightB x = true) (h : fitsB 32 k1 k2 alk (x :: vs) = true) : x.kind = 5 := by
 have hk := right_kind hx
 unfold fitsB fit1 at h
 rw [show kdAt (x :: vs) 0 = x.kind from rfl] at h
 simp only [Bool.and_eq_true, Bool.or_eq_true, beq_iff_eq] at h
 have hb : bitK 32 x.kind = true := by
  rcases h.1.1.1 with e | e
  ·cases e
  ·exact e
 rcases (show x.kind = 0 ∨ x.kind = 1 ∨ x.kind = 2 ∨ x.kind = 3 ∨ x.kind = 4 ∨ x.kind = 5 by omega) with e | e | e | e | e | e
 ·rw [e] at hb; exact absurd hb (by rw [show bitK 32 0 = false by kernel_rfl]; simp)
 ·rw [e] at hb; exact absurd hb (by rw [show bitK 32 1 = false by kernel_rfl]; simp)
 ·rw [e] at hb; exact absurd hb (by rw [show bitK 32 2 = false by kernel_rfl]; simp)
 ·rw [e] at hb; exact absurd hb (by rw [show bitK 32 3 = false by kernel_rfl]; simp)
 ·rw [e] at hb; exact absurd hb (by rw [show bitK 32 4 = false by kernel_rfl]; simp)
 ·exact e
theorem shape_ks {w : World} {B : Nat} {ex : Vl} {e0 e1 : Int} {e2 : ByteArray} {e3 : Option Addr} {e4 e5 : Nat} {e6 : Option Addr} {e7 e8 : Nat} (hx : IsV w B ex (.agg #[.int .i64 e0, .int .i64 e1, .string e2, .slice e3 e4 e5, .slice e6 e7 e8])) : ex.kind = e0 ∧ ex.s = e2 := by
 obtain ⟨k, n, s, l, ks⟩ := ex
 obtain ⟨h0, h1, h2, _⟩ := IsP.at hx
 exact ⟨h0.symm, h2.symm⟩
theorem cap_of {w : World} {B : Nat} {vs : List Vl} {al : Option Addr} {n cl : Nat} (h : ArV w B vs al n cl) : n ≤ cl := by
 obtain ⟨hl, hv⟩ := h
 obtain ⟨_, _, _, hll, _, V, hf, _⟩ := IsP.at hv
 have := hf.ll
 omega
def doR (op k0 k1 k2 : Int) (alk : Bool) (ex : Vl) (vs : List Vl) (r : Vl × Int) : Vl × Int := if (mayB op ex vs && fitsB k0 k1 k2 alk vs) = true then r else (vlz, 3)
theorem do_by (op : Nat) (k0 k1 k2 : Int) (alk : Bool) (f : Nat) (hrow : opsCells.extract (op * 5) (op * 5 + 5) = #[.int .u8 k0, .int .u8 k1, .int .u8 k2, .bool alk, .func (.func f) #[] #[]]) (ex : Vl) (e0 e1 : Int) (e2 : ByteArray) (e3 : Option Addr) (e4 e5 : Nat) (e6 : Option Addr) (e7 e8 : Nat) (vs : List Vl) (al : Option Addr) (n cl B : Nat) (w : World) (ht : Tab w) (hx : IsV w B ex (.agg #[.int .i64 e0, .int .i64 e1, .string e2, .slice e3 e4 e5, .slice e6 e7 e8])) (h : ArV w B vs al n cl) (hBs : B ≤ w.heap.size)
  (hk : mayB op ex vs = true → (¬ k0 = 0 → 0 < n) ∧ (¬ k1 = 0 → 1 < n) ∧ (¬ k2 = 0 → 2 < n) ∧ (alk = true → 1 < n)) (hent : ∀ args w, (callFunc f args).run Tryz.prog w = .ok (.enter f args) w) (r : Vl × Int)
  (hC : mayB op ex vs = true → fitsB k0 k1 k2 alk vs = true → ∀ u, Below w.heap.size w u → Calls Tryz.prog f #[.agg #[.int .i64 e0, .int .i64 e1, .string e2, .slice e3 e4 e5, .slice e6 e7 e8, .slice al n cl]] u fun e w' => OpPost u r e w') :
  Calls Tryz.prog 12 #[.int .i64 op, .agg #[.int .i64 e0, .int .i64 e1, .string e2, .slice e3 e4 e5, .slice e6 e7 e8], .slice al n cl] w fun e w' => OpPost w (doR op k0 k1 k2 alk ex vs r) e w' := by
 cases hm : mayB op ex vs with
 | false =>
  rw [show doR op k0 k1 k2 alk ex vs r = (vlz, 3) by unfold doR; rw [hm]; rfl]
  exact (do_bad op ex e0 e1 e2 e3 e4 e5 e6 e7 e8 vs al n cl B w ht hx h hBs hm).mono (fun e w' h => op_bad h)
 | true =>
  obtain ⟨q0, q1, q2, q3⟩ := hk hm
  have hkd := kd_list (may_right hm).2.2.2
  cases hf : fitsB k0 k1 k2 alk vs with
  | false =>
   rw [show doR op k0 k1 k2 alk ex vs r = (vlz, 3) by unfold doR; rw [hm, hf]; rfl]
   exact (do_unfit op k0 k1 k2 alk f hrow ex e0 e1 e2 e3 e4 e5 e6 e7 e8 vs al n cl B w ht hx h hBs hm hkd q0 q1 q2 q3 hf).mono (fun e w' h => op_bad h)
  | true =>
   rw [show doR op k0 k1 k2 alk ex vs r = r by unfold doR; rw [hm, hf]; rfl]
   exact do_run op k0 k1 k2 alk f hrow ex e0 e1 e2 e3 e4 e5 e6 e7 e8 vs al n cl B w ht hx h hBs hm hkd q0 q1 q2 q3 hf hent r (hC hm hf)
def DoP (w : World) (op k0 k1 k2 : Int) (alk : Bool) (R : Vl → List Vl → Vl × Int) : Prop := ∀ (ex : Vl) (e0 e1 : Int) (e2 : ByteArray) (e3 : Option Addr) (e4 e5 : Nat) (e6 : Option Addr) (e7 e8 : Nat) (vs : List Vl) (al : Option Addr) (n cl B : Nat), IsV w B ex (.agg #[.int .i64 e0, .int .i64 e1, .string e2, .slice e3 e4 e5, .slice e6 e7 e8]) → ArV w B vs al n cl → B ≤ w.heap.size →
  Calls Tryz.prog 12 #[.int .i64 op, .agg #[.int .i64 e0, .int .i64 e1, .string e2, .slice e3 e4 e5, .slice e6 e7 e8], .slice al n cl] w fun e w' => OpPost w (doR op k0 k1 k2 alk ex vs (R ex vs)) e w'
theorem do1P (w : World) (ht : Tab w) (op : Nat) (k0 : Int) (f : Nat) (hrow : opsCells.extract (op * 5) (op * 5 + 5) = #[.int .u8 k0, .int .u8 0, .int .u8 0, .bool false, .func (.func f) #[] #[]]) (hent : ∀ args w, (callFunc f args).run Tryz.prog w = .ok (.enter f args) w) (h23 : ¬ (op : Int) = 23) (h24 : ¬ (op : Int) = 24) (hi : (infoA op).1.2.2.1 = (1 : Nat)) (R : Vl → Vl → Vl × Int)
  (hC : ∀ (ex : Vl) (e0 e1 : Int) (e2 : ByteArray) (e3 : Option Addr) (e4 e5 : Nat) (e6 : Option Addr) (e7 e8 : Nat) (a : Addr) (n cl : Nat) (p3 p6 : Option Addr) (p5 p8 : Nat) (x : Vl) (B : Nat) (u : World), Below w.heap.size w u → n = 1 → n ≤ cl → (ex.kind = e0 ∧ ex.s = e2) → fitsB k0 0 0 false [x] = true → rightB x = true → a.block < u.heap.size → u.cell? a = some (.int .i64 x.kind) → u.cell? ⟨a.block, a.off + 1, none⟩ = some (.int .i64 x.n) → u.cell? ⟨a.block, a.off + 2, none⟩ = some (.string x.s) → u.cell? ⟨a.block, a.off + 3, none⟩ = some (.slice p3 x.l.length p5) → u.cell? ⟨a.block, a.off + 4, none⟩ = some (.slice p6 x.ks.length p8) → IsV u B x (.agg #[.int .i64 x.kind, .int .i64 x.n, .string x.s, .slice p3 x.l.length p5, .slice p6 x.ks.length p8]) → B ≤ u.heap.size → Calls Tryz.prog f #[.agg #[.int .i64 e0, .int .i64 e1, .string e2, .slice e3 e4 e5, .slice e6 e7 e8, .slice (some a) n cl]] u fun e w' => OpPost u (R ex x) e w') : DoP w op k0 0 0 false (fun ex vs => R ex (vs.getD 0 vlz)) := by
 intro ex e0 e1 e2 e3 e4 e5 e6 e7 e8 vs al n cl B hx h hBs
 have hn := h.1
 refine do_by op k0 0 0 false f hrow ex e0 e1 e2 e3 e4 e5 e6 e7 e8 vs al n cl B w ht hx h hBs ?_ hent _ ?_
 ·intro hm
  have hl := may_len (k := 1) hm h23 h24 hi
  refine ⟨fun _ => ?_, fun hq => ?_, fun hq => ?_, fun hq => ?_⟩ <;> first | omega | (exact absurd rfl hq) | (cases hq)
 ·intro hm hf u hu
  have hr := (may_right hm).2.2.2
  have hA := h.later (hu.mono hBs)
  have hcl := cap_of hA
  have hl := may_len (k := 1) hm h23 h24 hi
  obtain ⟨x, rfl⟩ := len_one hl
  obtain ⟨a, p3, p6, p5, p8, rfl, ha, c0, vx⟩ := hA.elem 0 x rfl
  exact hC ex e0 e1 e2 e3 e4 e5 e6 e7 e8 a n cl p3 p6 p5 p8 x B u hu (by simp at hn; omega) hcl (shape_ks hx) hf (hr x (by simp)) (Nat.lt_of_lt_of_le ha (Nat.le_trans hBs hu.size)) (c0 0 _ rfl) (c0 1 _ rfl) (c0 2 _ rfl) (c0 3 _ rfl) (c0 4 _ rfl) vx (Nat.le_trans hBs hu.size)
theorem do2P (w : World) (ht : Tab w) (op : Nat) (k0 k1 : Int) (alk : Bool) (f : Nat) (hrow : opsCells.extract (op * 5) (op * 5 + 5) = #[.int .u8 k0, .int .u8 k1, .int .u8 0, .bool alk, .func (.func f) #[] #[]]) (hent : ∀ args w, (callFunc f args).run Tryz.prog w = .ok (.enter f args) w) (h23 : ¬ (op : Int) = 23) (h24 : ¬ (op : Int) = 24) (hi : (infoA op).1.2.2.1 = (2 : Nat)) (R : Vl → Vl → Vl → Vl × Int)
  (hC : ∀ (ex : Vl) (e0 e1 : Int) (e2 : ByteArray) (e3 : Option Addr) (e4 e5 : Nat) (e6 : Option Addr) (e7 e8 : Nat) (a : Addr) (n cl : Nat) (p3 p6 : Option Addr) (p5 p8 : Nat) (q3 q6 : Option Addr) (q5 q8 : Nat) (x y : Vl) (B : Nat) (u : World), Below w.heap.size w u → n = 2 → n ≤ cl → (ex.kind = e0 ∧ ex.s = e2) → fitsB k0 k1 0 alk [x, y] = true → rightB x = true → rightB y = true → a.block < u.heap.size → u.cell? a = some (.int .i64 x.kind) → u.cell? ⟨a.block, a.off + 1, none⟩ = some (.int .i64 x.n) → u.cell? ⟨a.block, a.off + 2, none⟩ = some (.string x.s) → u.cell? ⟨a.block, a.off + 3, none⟩ = some (.slice p3 x.l.length p5) → u.cell? ⟨a.block, a.off + 4, none⟩ = some (.slice p6 x.ks.length p8) → u.cell? ⟨a.block, a.off + 5, none⟩ = some (.int .i64 y.kind) → u.cell? ⟨a.block, a.off + 5 + 1, none⟩ = some (.int .i64 y.n) → u.cell? ⟨a.block, a.off + 5 + 2, none⟩ = some (.string y.s) → u.cell? ⟨a.block, a.off + 5 + 3, none⟩ = some (.slice q3 y.l.length q5) → u.cell? ⟨a.block, a.off + 5 + 4, none⟩ = some (.slice q6 y.ks.length q8) → IsV u B x (.agg #[.int .i64 x.kind, .int .i64 x.n, .string x.s, .slice p3 x.l.length p5, .slice p6 x.ks.length p8]) → IsV u B y (.agg #[.int .i64 y.kind, .int .i64 y.n, .string y.s, .slice q3 y.l.length q5, .slice q6 y.ks.length q8]) → B ≤ u.heap.size → Calls Tryz.prog f #[.agg #[.int .i64 e0, .int .i64 e1, .string e2, .slice e3 e4 e5, .slice e6 e7 e8, .slice (some a) n cl]] u fun e w' => OpPost u (R ex x y) e w') : DoP w op k0 k1 0 alk (fun ex vs => R ex (vs.getD 0 vlz) (vs.getD 1 vlz)) := by
 intro ex e0 e1 e2 e3 e4 e5 e6 e7 e8 vs al n cl B hx h hBs
 have hn := h.1
 refine do_by op k0 k1 0 alk f hrow ex e0 e1 e2 e3 e4 e5 e6 e7 e8 vs al n cl B w ht hx h hBs ?_ hent _ ?_
 ·intro hm
  have hl := may_len (k := 2) hm h23 h24 hi
  refine ⟨fun _ => ?_, fun hq => ?_, fun hq => ?_, fun hq => ?_⟩ <;> first | omega | (exact absurd rfl hq) | (cases hq)
 ·intro hm hf u hu
  have hr := (may_right hm).2.2.2
  have hA := h.later (hu.mono hBs)
  have hcl := cap_of hA
  have hl := may_len (k := 2) hm h23 h24 hi
  obtain ⟨x, y, rfl⟩ := len_two hl
  obtain ⟨a, p3, p6, p5, p8, rfl, ha, c0, vx⟩ := hA.elem 0 x rfl
  obtain ⟨a1, q3, q6, q5, q8, ea, _, c1, vy⟩ := hA.elem 1 y rfl
  obtain rfl := Option.some.inj ea
  exact hC ex e0 e1 e2 e3 e4 e5 e6 e7 e8 a n cl p3 p6 p5 p8 q3 q6 q5 q8 x y B u hu (by simp at hn; omega) hcl (shape_ks hx) hf (hr x (by simp)) (hr y (by simp)) (Nat.lt_of_lt_of_le ha (Nat.le_trans hBs hu.size)) (c0 0 _ rfl) (c0 1 _ rfl) (c0 2 _ rfl) (c0 3 _ rfl) (c0 4 _ rfl) (c1 0 _ rfl) (c1 1 _ rfl) (c1 2 _ rfl) (c1 3 _ rfl) (c1 4 _ rfl) vx vy (Nat.le_trans hBs hu.size)
theorem do3P (w : World) (ht : Tab w) (op : Nat) (k0 k1 k2 : Int) (alk : Bool) (f : Nat) (hrow : opsCells.extract (op * 5) (op * 5 + 5) = #[.int .u8 k0, .int .u8 k1, .int .u8 k2, .bool alk, .func (.func f) #[] #[]]) (hent : ∀ args w, (callFunc f args).run Tryz.prog w = .ok (.enter f args) w) (h23 : ¬ (op : Int) = 23) (h24 : ¬ (op : Int) = 24) (hi : (infoA op).1.2.2.1 = (3 : Nat)) (R : Vl → Vl → Vl → Vl → Vl × Int)
  (hC : ∀ (ex : Vl) (e0 e1 : Int) (e2 : ByteArray) (e3 : Option Addr) (e4 e5 : Nat) (e6 : Option Addr) (e7 e8 : Nat) (a : Addr) (n cl : Nat) (p3 p6 : Option Addr) (p5 p8 : Nat) (q3 q6 : Option Addr) (q5 q8 : Nat) (r3 r6 : Option Addr) (r5 r8 : Nat) (x y z : Vl) (B : Nat) (u : World), Below w.heap.size w u → n = 3 → n ≤ cl → (ex.kind = e0 ∧ ex.s = e2) → fitsB k0 k1 k2 alk [x, y, z] = true → rightB x = true → rightB y = true → rightB z = true → a.block < u.heap.size → u.cell? a = some (.int .i64 x.kind) → u.cell? ⟨a.block, a.off + 1, none⟩ = some (.int .i64 x.n) → u.cell? ⟨a.block, a.off + 2, none⟩ = some (.string x.s) → u.cell? ⟨a.block, a.off + 3, none⟩ = some (.slice p3 x.l.length p5) → u.cell? ⟨a.block, a.off + 4, none⟩ = some (.slice p6 x.ks.length p8) → u.cell? ⟨a.block, a.off + 5, none⟩ = some (.int .i64 y.kind) → u.cell? ⟨a.block, a.off + 5 + 1, none⟩ = some (.int .i64 y.n) → u.cell? ⟨a.block, a.off + 5 + 2, none⟩ = some (.string y.s) → u.cell? ⟨a.block, a.off + 5 + 3, none⟩ = some (.slice q3 y.l.length q5) → u.cell? ⟨a.block, a.off + 5 + 4, none⟩ = some (.slice q6 y.ks.length q8) → u.cell? ⟨a.block, a.off + 10, none⟩ = some (.int .i64 z.kind) → u.cell? ⟨a.block, a.off + 10 + 1, none⟩ = some (.int .i64 z.n) → u.cell? ⟨a.block, a.off + 10 + 2, none⟩ = some (.string z.s) → u.cell? ⟨a.block, a.off + 10 + 3, none⟩ = some (.slice r3 z.l.length r5) → u.cell? ⟨a.block, a.off + 10 + 4, none⟩ = some (.slice r6 z.ks.length r8) → IsV u B x (.agg #[.int .i64 x.kind, .int .i64 x.n, .string x.s, .slice p3 x.l.length p5, .slice p6 x.ks.length p8]) → IsV u B y (.agg #[.int .i64 y.kind, .int .i64 y.n, .string y.s, .slice q3 y.l.length q5, .slice q6 y.ks.length q8]) → IsV u B z (.agg #[.int .i64 z.kind, .int .i64 z.n, .string z.s, .slice r3 z.l.length r5, .slice r6 z.ks.length r8]) → B ≤ u.heap.size → Calls Tryz.prog f #[.agg #[.int .i64 e0, .int .i64 e1, .string e2, .slice e3 e4 e5, .slice e6 e7 e8, .slice (some a) n cl]] u fun e w' => OpPost u (R ex x y z) e w') : DoP w op k0 k1 k2 alk (fun ex vs => R ex (vs.getD 0 vlz) (vs.getD 1 vlz) (vs.getD 2 vlz)) := by
 intro ex e0 e1 e2 e3 e4 e5 e6 e7 e8 vs al n cl B hx h hBs
 have hn := h.1
 refine do_by op k0 k1 k2 alk f hrow ex e0 e1 e2 e3 e4 e5 e6 e7 e8 vs al n cl B w ht hx h hBs ?_ hent _ ?_
 ·intro hm
  have hl := may_len (k := 3) hm h23 h24 hi
  refine ⟨fun _ => ?_, fun hq => ?_, fun hq => ?_, fun hq => ?_⟩ <;> first | omega | (exact absurd rfl hq) | (cases hq)
 ·intro hm hf u hu
  have hr := (may_right hm).2.2.2
  have hA := h.later (hu.mono hBs)
  have hcl := cap_of hA
  have hl := may_len (k := 3) hm h23 h24 hi
  obtain ⟨x, y, z, rfl⟩ := len_three hl
  obtain ⟨a, p3, p6, p5, p8, rfl, ha, c0, vx⟩ := hA.elem 0 x rfl
  obtain ⟨a1, q3, q6, q5, q8, ea, _, c1, vy⟩ := hA.elem 1 y rfl
  obtain rfl := Option.some.inj ea
  obtain ⟨a2, r3, r6, r5, r8, ea, _, c2, vz⟩ := hA.elem 2 z rfl
  obtain rfl := Option.some.inj ea
  exact hC ex e0 e1 e2 e3 e4 e5 e6 e7 e8 a n cl p3 p6 p5 p8 q3 q6 q5 q8 r3 r6 r5 r8 x y z B u hu (by simp at hn; omega) hcl (shape_ks hx) hf (hr x (by simp)) (hr y (by simp)) (hr z (by simp)) (Nat.lt_of_lt_of_le ha (Nat.le_trans hBs hu.size)) (c0 0 _ rfl) (c0 1 _ rfl) (c0 2 _ rfl) (c0 3 _ rfl) (c0 4 _ rfl) (c1 0 _ rfl) (c1 1 _ rfl) (c1 2 _ rfl) (c1 3 _ rfl) (c1 4 _ rfl) (c2 0 _ rfl) (c2 1 _ rfl) (c2 2 _ rfl) (c2 3 _ rfl) (c2 4 _ rfl) vx vy vz (Nat.le_trans hBs hu.size)
theorem on_add (w : World) (ht : Tab w) : DoP w 10 28 0 0 true (fun ex vs => addV (vs.getD 0 vlz) (vs.getD 1 vlz)) :=
 do2P w ht 10 28 0 true 48 op_add (enters_of Tryz.func48 (by kernel_rfl) rfl) (by decide) (by decide) (by kernel_rfl) (fun ex x y => addV x y) (fun ex _ _ _ _ _ _ _ _ _ a n cl _ _ _ _ _ _ _ _ x y B u hu hn hc hs hf gx gy ha h00 h01 h02 h03 h04 h10 h11 h12 h13 h14 ix iy hB => add_op _ _ _ _ _ _ _ _ _ a n cl _ _ _ _ _ _ _ _ _ _ _ _ _ _ _ _ _ _ x y B u (by omega) ha h00 h01 h02 h03 h04 h10 h11 h12 h13 h14 ix iy hB gx gy (fit_add2 gx hf).1)
theorem on_sub (w : World) (ht : Tab w) : DoP w 11 4 4 0 false (fun ex vs => (nm (IntKind.wrap .i64 ((vs.getD 0 vlz).n - (vs.getD 1 vlz).n)), 0)) :=
 do2P w ht 11 4 4 false 49 op_sub (enters_of Tryz.func49 (by kernel_rfl) rfl) (by decide) (by decide) (by kernel_rfl) (fun ex x y => (nm (IntKind.wrap .i64 (x.n - y.n)), 0)) (fun ex _ _ _ _ _ _ _ _ _ a n cl _ _ _ _ _ _ _ _ x y B u hu hn hc hs hf gx gy ha h00 h01 h02 h03 h04 h10 h11 h12 h13 h14 ix iy hB => sub_op _ _ _ _ _ _ _ _ _ a n cl _ _ _ _ _ _ _ _ _ _ _ _ _ _ _ _ _ _ x y B u (by omega) ha h00 h01 h02 h03 h04 h10 h11 h12 h13 h14 ix iy hB )
theorem on_mul (w : World) (ht : Tab w) : DoP w 12 4 4 0 false (fun ex vs => (nm (IntKind.wrap .i64 ((vs.getD 0 vlz).n * (vs.getD 1 vlz).n)), 0)) :=
 do2P w ht 12 4 4 false 50 op_mul (enters_of Tryz.func50 (by kernel_rfl) rfl) (by decide) (by decide) (by kernel_rfl) (fun ex x y => (nm (IntKind.wrap .i64 (x.n * y.n)), 0)) (fun ex _ _ _ _ _ _ _ _ _ a n cl _ _ _ _ _ _ _ _ x y B u hu hn hc hs hf gx gy ha h00 h01 h02 h03 h04 h10 h11 h12 h13 h14 ix iy hB => mul_op _ _ _ _ _ _ _ _ _ a n cl _ _ _ _ _ _ _ _ _ _ _ _ _ _ _ _ _ _ x y B u (by omega) ha h00 h01 h02 h03 h04 h10 h11 h12 h13 h14 ix iy hB )
theorem on_div (w : World) (ht : Tab w) : DoP w 13 4 4 0 false (fun ex vs => divV (vs.getD 0 vlz).n (vs.getD 1 vlz).n) :=
 do2P w ht 13 4 4 false 51 op_div (enters_of Tryz.func51 (by kernel_rfl) rfl) (by decide) (by decide) (by kernel_rfl) (fun ex x y => divV x.n y.n) (fun ex _ _ _ _ _ _ _ _ _ a n cl _ _ _ _ _ _ _ _ x y B u hu hn hc hs hf gx gy ha h00 h01 h02 h03 h04 h10 h11 h12 h13 h14 ix iy hB => div_op _ _ _ _ _ _ _ _ _ a n cl _ _ _ _ _ _ _ _ _ _ _ _ _ _ _ _ _ _ x y B u (by omega) ha h00 h01 h02 h03 h04 h10 h11 h12 h13 h14 ix iy hB )
theorem on_rem (w : World) (ht : Tab w) : DoP w 14 4 4 0 false (fun ex vs => remV (vs.getD 0 vlz).n (vs.getD 1 vlz).n) :=
 do2P w ht 14 4 4 false 52 op_rem (enters_of Tryz.func52 (by kernel_rfl) rfl) (by decide) (by decide) (by kernel_rfl) (fun ex x y => remV x.n y.n) (fun ex _ _ _ _ _ _ _ _ _ a n cl _ _ _ _ _ _ _ _ x y B u hu hn hc hs hf gx gy ha h00 h01 h02 h03 h04 h10 h11 h12 h13 h14 ix iy hB => rem_op _ _ _ _ _ _ _ _ _ a n cl _ _ _ _ _ _ _ _ _ _ _ _ _ _ _ _ _ _ x y B u (by omega) ha h00 h01 h02 h03 h04 h10 h11 h12 h13 h14 ix iy hB )
theorem on_neg (w : World) (ht : Tab w) : DoP w 15 4 0 0 false (fun ex vs => (nm (wrap64 (-(vs.getD 0 vlz).n)), 0)) :=
 do1P w ht 15 4 53 op_neg (enters_of Tryz.func53 (by kernel_rfl) rfl) (by decide) (by decide) (by kernel_rfl) (fun ex x => (nm (wrap64 (-x.n)), 0)) (fun ex _ _ _ _ _ _ _ _ _ a n cl _ _ _ _ x B u hu hn hc hs hf gx ha h00 h01 h02 h03 h04 ix hB => neg_op _ _ _ _ _ _ _ _ _ a n cl _ _ _ _ _ _ _ _ _ x B u (by omega) ha h00 h01 h02 h03 h04 ix hB )
theorem on_not (w : World) (ht : Tab w) : DoP w 16 2 0 0 false (fun ex vs => (tv ((vs.getD 0 vlz).n == 0), 0)) :=
 do1P w ht 16 2 54 op_not (enters_of Tryz.func54 (by kernel_rfl) rfl) (by decide) (by decide) (by kernel_rfl) (fun ex x => (tv (x.n == 0), 0)) (fun ex _ _ _ _ _ _ _ _ _ a n cl _ _ _ _ x B u hu hn hc hs hf gx ha h00 h01 h02 h03 h04 ix hB => not_op _ _ _ _ _ _ _ _ _ a n cl _ _ _ _ _ _ _ _ _ x B u (by omega) ha h00 h01 h02 h03 h04 ix hB )
theorem on_eq (w : World) (ht : Tab w) : DoP w 17 0 0 0 false (fun ex vs => (tv (tst 17 (ord0 (vs.getD 0 vlz) (vs.getD 1 vlz))), 0)) :=
 do2P w ht 17 0 0 false 55 op_eq (enters_of Tryz.func55 (by kernel_rfl) rfl) (by decide) (by decide) (by kernel_rfl) (fun ex x y => (tv (tst 17 (ord0 x y)), 0)) (fun ex _ _ _ _ _ _ _ _ _ a n cl _ _ _ _ _ _ _ _ x y B u hu hn hc hs hf gx gy ha h00 h01 h02 h03 h04 h10 h11 h12 h13 h14 ix iy hB => eq_op _ _ _ _ _ _ _ _ _ a n cl _ _ _ _ _ _ _ _ _ _ _ _ _ _ _ _ _ _ x y B u (by omega) ha h00 h01 h02 h03 h04 h10 h11 h12 h13 h14 ix iy hB )
theorem on_ne (w : World) (ht : Tab w) : DoP w 18 0 0 0 false (fun ex vs => (tv (tst 18 (ord0 (vs.getD 0 vlz) (vs.getD 1 vlz))), 0)) :=
 do2P w ht 18 0 0 false 56 op_ne (enters_of Tryz.func56 (by kernel_rfl) rfl) (by decide) (by decide) (by kernel_rfl) (fun ex x y => (tv (tst 18 (ord0 x y)), 0)) (fun ex _ _ _ _ _ _ _ _ _ a n cl _ _ _ _ _ _ _ _ x y B u hu hn hc hs hf gx gy ha h00 h01 h02 h03 h04 h10 h11 h12 h13 h14 ix iy hB => ne_op _ _ _ _ _ _ _ _ _ a n cl _ _ _ _ _ _ _ _ _ _ _ _ _ _ _ _ _ _ x y B u (by omega) ha h00 h01 h02 h03 h04 h10 h11 h12 h13 h14 ix iy hB )
theorem on_lt (w : World) (ht : Tab w) : DoP w 19 12 0 0 true (fun ex vs => (tv (tst 19 (ord0 (vs.getD 0 vlz) (vs.getD 1 vlz))), 0)) :=
 do2P w ht 19 12 0 true 57 op_lt (enters_of Tryz.func57 (by kernel_rfl) rfl) (by decide) (by decide) (by kernel_rfl) (fun ex x y => (tv (tst 19 (ord0 x y)), 0)) (fun ex _ _ _ _ _ _ _ _ _ a n cl _ _ _ _ _ _ _ _ x y B u hu hn hc hs hf gx gy ha h00 h01 h02 h03 h04 h10 h11 h12 h13 h14 ix iy hB => lt_op _ _ _ _ _ _ _ _ _ a n cl _ _ _ _ _ _ _ _ _ _ _ _ _ _ _ _ _ _ x y B u (by omega) ha h00 h01 h02 h03 h04 h10 h11 h12 h13 h14 ix iy hB )
theorem on_le (w : World) (ht : Tab w) : DoP w 20 12 0 0 true (fun ex vs => (tv (tst 20 (ord0 (vs.getD 0 vlz) (vs.getD 1 vlz))), 0)) :=
 do2P w ht 20 12 0 true 58 op_le (enters_of Tryz.func58 (by kernel_rfl) rfl) (by decide) (by decide) (by kernel_rfl) (fun ex x y => (tv (tst 20 (ord0 x y)), 0)) (fun ex _ _ _ _ _ _ _ _ _ a n cl _ _ _ _ _ _ _ _ x y B u hu hn hc hs hf gx gy ha h00 h01 h02 h03 h04 h10 h11 h12 h13 h14 ix iy hB => le_op _ _ _ _ _ _ _ _ _ a n cl _ _ _ _ _ _ _ _ _ _ _ _ _ _ _ _ _ _ x y B u (by omega) ha h00 h01 h02 h03 h04 h10 h11 h12 h13 h14 ix iy hB )
theorem on_gt (w : World) (ht : Tab w) : DoP w 21 12 0 0 true (fun ex vs => (tv (tst 21 (ord0 (vs.getD 0 vlz) (vs.getD 1 vlz))), 0)) :=
 do2P w ht 21 12 0 true 59 op_gt (enters_of Tryz.func59 (by kernel_rfl) rfl) (by decide) (by decide) (by kernel_rfl) (fun ex x y => (tv (tst 21 (ord0 x y)), 0)) (fun ex _ _ _ _ _ _ _ _ _ a n cl _ _ _ _ _ _ _ _ x y B u hu hn hc hs hf gx gy ha h00 h01 h02 h03 h04 h10 h11 h12 h13 h14 ix iy hB => gt_op _ _ _ _ _ _ _ _ _ a n cl _ _ _ _ _ _ _ _ _ _ _ _ _ _ _ _ _ _ x y B u (by omega) ha h00 h01 h02 h03 h04 h10 h11 h12 h13 h14 ix iy hB )
theorem on_ge (w : World) (ht : Tab w) : DoP w 22 12 0 0 true (fun ex vs => (tv (tst 22 (ord0 (vs.getD 0 vlz) (vs.getD 1 vlz))), 0)) :=
 do2P w ht 22 12 0 true 60 op_ge (enters_of Tryz.func60 (by kernel_rfl) rfl) (by decide) (by decide) (by kernel_rfl) (fun ex x y => (tv (tst 22 (ord0 x y)), 0)) (fun ex _ _ _ _ _ _ _ _ _ a n cl _ _ _ _ _ _ _ _ x y B u hu hn hc hs hf gx gy ha h00 h01 h02 h03 h04 h10 h11 h12 h13 h14 ix iy hB => ge_op _ _ _ _ _ _ _ _ _ a n cl _ _ _ _ _ _ _ _ _ _ _ _ _ _ _ _ _ _ x y B u (by omega) ha h00 h01 h02 h03 h04 h10 h11 h12 h13 h14 ix iy hB )
theorem on_array (w : World) (ht : Tab w) : DoP w 23 0 0 0 false (fun ex vs => szV (.mk 4 0 ⟨#[]⟩ vs [])) :=
 fun ex e0 e1 e2 e3 e4 e5 e6 e7 e8 vs al n cl B hx h hBs => do_by 23 0 0 0 false 61 op_array ex e0 e1 e2 e3 e4 e5 e6 e7 e8 vs al n cl B w ht hx h hBs (fun _ => ⟨fun h => absurd rfl h, fun h => absurd rfl h, fun h => absurd rfl h, fun h => by cases h⟩) (enters_of Tryz.func61 (by kernel_rfl) rfl) _ (fun hm hf u hu => array_op e0 e1 e2 e3 e4 e5 e6 e7 e8 vs al n cl B u (h.later (hu.mono hBs)) (Nat.le_trans hBs hu.size))
theorem on_record (w : World) (ht : Tab w) : DoP w 24 0 0 0 false (fun ex vs => recordV ex vs) :=
 fun ex e0 e1 e2 e3 e4 e5 e6 e7 e8 vs al n cl B hx h hBs => do_by 24 0 0 0 false 62 op_record ex e0 e1 e2 e3 e4 e5 e6 e7 e8 vs al n cl B w ht hx h hBs (fun _ => ⟨fun h => absurd rfl h, fun h => absurd rfl h, fun h => absurd rfl h, fun h => by cases h⟩) (enters_of Tryz.func62 (by kernel_rfl) rfl) _ (fun hm hf u hu => record_op e0 e1 e2 e3 e4 e5 e6 e7 e8 vs al n cl B ex u (h.later (hu.mono hBs)) (IsV.mono (hu.mono hBs) hx) (Nat.le_trans hBs hu.size) (may_right hm).2.2.1)
theorem on_index (w : World) (ht : Tab w) : DoP w 25 24 4 0 false (fun ex vs => indexV (vs.getD 0 vlz) (vs.getD 1 vlz).n) :=
 do2P w ht 25 24 4 false 63 op_index (enters_of Tryz.func63 (by kernel_rfl) rfl) (by decide) (by decide) (by kernel_rfl) (fun ex x y => indexV x y.n) (fun ex _ _ _ _ _ _ _ _ _ a n cl _ _ _ _ _ _ _ _ x y B u hu hn hc hs hf gx gy ha h00 h01 h02 h03 h04 h10 h11 h12 h13 h14 ix iy hB => index_op _ _ _ _ _ _ _ _ _ a n cl _ _ _ _ _ _ _ _ _ _ _ _ _ _ _ _ _ _ x y B u (by omega) ha h00 h01 h02 h03 h04 h10 h11 h12 h13 h14 ix iy hB gx (right_el gx))
theorem on_field (w : World) (ht : Tab w) : DoP w 26 32 0 0 false (fun ex vs => fieldV ex (vs.getD 0 vlz)) :=
 do1P w ht 26 32 64 op_field (enters_of Tryz.func64 (by kernel_rfl) rfl) (by decide) (by decide) (by kernel_rfl) (fun ex x => fieldV ex x) (fun ex _ _ _ _ _ _ _ _ _ a n cl _ _ _ _ x B u hu hn hc hs hf gx ha h00 h01 h02 h03 h04 ix hB => field_op _ _ _ _ _ _ _ _ _ a n cl _ _ _ _ _ _ _ _ _ x B u (by omega) ha h00 h01 h02 h03 h04 ix hB ex hs)
theorem on_length (w : World) (ht : Tab w) : DoP w 27 56 0 0 false (fun ex vs => (nm (cntO (vs.getD 0 vlz)), 0)) :=
 do1P w ht 27 56 65 op_length (enters_of Tryz.func65 (by kernel_rfl) rfl) (by decide) (by decide) (by kernel_rfl) (fun ex x => (nm (cntO x), 0)) (fun ex _ _ _ _ _ _ _ _ _ a n cl _ _ _ _ x B u hu hn hc hs hf gx ha h00 h01 h02 h03 h04 ix hB => length_op _ _ _ _ _ _ _ _ _ a n cl _ _ _ _ _ _ _ _ _ x B u (by omega) ha h00 h01 h02 h03 h04 ix hB gx)
theorem on_push (w : World) (ht : Tab w) : DoP w 28 16 0 0 false (fun ex vs => pushV (vs.getD 0 vlz) (vs.getD 1 vlz)) :=
 do2P w ht 28 16 0 false 66 op_push (enters_of Tryz.func66 (by kernel_rfl) rfl) (by decide) (by decide) (by kernel_rfl) (fun ex x y => pushV x y) (fun ex _ _ _ _ _ _ _ _ _ a n cl _ _ _ _ _ _ _ _ x y B u hu hn hc hs hf gx gy ha h00 h01 h02 h03 h04 h10 h11 h12 h13 h14 ix iy hB => push_op _ _ _ _ _ _ _ _ _ a n cl _ _ _ _ _ _ _ _ _ _ _ _ _ _ _ _ _ _ x y B u (by omega) ha h00 h01 h02 h03 h04 h10 h11 h12 h13 h14 ix iy hB hn (by omega) gx)
theorem on_change (w : World) (ht : Tab w) : DoP w 29 16 4 0 false (fun ex vs => changeV (vs.getD 0 vlz) (vs.getD 1 vlz).n (vs.getD 2 vlz)) :=
 do3P w ht 29 16 4 0 false 67 op_change (enters_of Tryz.func67 (by kernel_rfl) rfl) (by decide) (by decide) (by kernel_rfl) (fun ex x y z => changeV x y.n z) (fun ex _ _ _ _ _ _ _ _ _ a n cl _ _ _ _ _ _ _ _ _ _ _ _ x y z B u hu hn hc hs hf gx gy gz ha h00 h01 h02 h03 h04 h10 h11 h12 h13 h14 h20 h21 h22 h23 h24 ix iy iz hB => change_op _ _ _ _ _ _ _ _ _ a n cl _ _ _ _ _ _ _ _ _ _ _ _ _ _ _ _ _ _ _ _ _ _ _ _ _ _ _ x y z B u (by omega) ha h00 h01 h02 h03 h04 h10 h11 h12 h13 h14 h20 h21 h22 h23 h24 ix iy iz hB gx (kind_16 gx hf))
theorem on_slice (w : World) (ht : Tab w) : DoP w 30 24 4 4 false (fun ex vs => sliceV (vs.getD 0 vlz) (vs.getD 1 vlz).n (vs.getD 2 vlz).n) :=
 do3P w ht 30 24 4 4 false 68 op_slice (enters_of Tryz.func68 (by kernel_rfl) rfl) (by decide) (by decide) (by kernel_rfl) (fun ex x y z => sliceV x y.n z.n) (fun ex _ _ _ _ _ _ _ _ _ a n cl _ _ _ _ _ _ _ _ _ _ _ _ x y z B u hu hn hc hs hf gx gy gz ha h00 h01 h02 h03 h04 h10 h11 h12 h13 h14 h20 h21 h22 h23 h24 ix iy iz hB => slice_op _ _ _ _ _ _ _ _ _ a n cl _ _ _ _ _ _ _ _ _ _ _ _ _ _ _ _ _ _ _ _ _ _ _ _ _ _ _ x y z B u (by omega) ha h00 h01 h02 h03 h04 h10 h11 h12 h13 h14 h20 h21 h22 h23 h24 ix iy iz hB gx)
theorem on_with (w : World) (ht : Tab w) : DoP w 31 32 8 0 false (fun ex vs => toldV (wiV (vs.getD 0 vlz) (vs.getD 1 vlz).s (vs.getD 2 vlz)) (withE (vs.getD 0 vlz) (vs.getD 1 vlz).s (vs.getD 2 vlz))) :=
 do3P w ht 31 32 8 0 false 69 op_with (enters_of Tryz.func69 (by kernel_rfl) rfl) (by decide) (by decide) (by kernel_rfl) (fun ex x y z => toldV (wiV x y.s z) (withE x y.s z)) (fun ex _ _ _ _ _ _ _ _ _ a n cl _ _ _ _ _ _ _ _ _ _ _ _ x y z B u hu hn hc hs hf gx gy gz ha h00 h01 h02 h03 h04 h10 h11 h12 h13 h14 h20 h21 h22 h23 h24 ix iy iz hB => with_op _ _ _ _ _ _ _ _ _ a n cl _ _ _ _ _ _ _ _ _ _ _ _ _ _ _ _ _ _ _ _ _ _ _ _ _ _ _ x y z B u (by omega) ha h00 h01 h02 h03 h04 h10 h11 h12 h13 h14 h20 h21 h22 h23 h24 ix iy iz hB )
theorem on_without (w : World) (ht : Tab w) : DoP w 32 32 8 0 false (fun ex vs => toldV (woV (vs.getD 0 vlz) (vs.getD 1 vlz).s) (withoutC (vs.getD 0 vlz) (vs.getD 1 vlz).s)) :=
 do2P w ht 32 32 8 false 70 op_without (enters_of Tryz.func70 (by kernel_rfl) rfl) (by decide) (by decide) (by kernel_rfl) (fun ex x y => toldV (woV x y.s) (withoutC x y.s)) (fun ex _ _ _ _ _ _ _ _ _ a n cl _ _ _ _ _ _ _ _ x y B u hu hn hc hs hf gx gy ha h00 h01 h02 h03 h04 h10 h11 h12 h13 h14 ix iy hB => without_op _ _ _ _ _ _ _ _ _ a n cl _ _ _ _ _ _ _ _ _ _ _ _ _ _ _ _ _ _ x y B u (by omega) ha h00 h01 h02 h03 h04 h10 h11 h12 h13 h14 ix iy hB )
theorem on_keys (w : World) (ht : Tab w) : DoP w 33 32 0 0 false (fun ex vs => keysV (vs.getD 0 vlz)) :=
 do1P w ht 33 32 71 op_keys (enters_of Tryz.func71 (by kernel_rfl) rfl) (by decide) (by decide) (by kernel_rfl) (fun ex x => keysV x) (fun ex _ _ _ _ _ _ _ _ _ a n cl _ _ _ _ x B u hu hn hc hs hf gx ha h00 h01 h02 h03 h04 ix hB => keys_op _ _ _ _ _ _ _ _ _ a n cl _ _ _ _ _ _ _ _ _ x B u (by omega) ha h00 h01 h02 h03 h04 ix hB gx)
theorem on_has (w : World) (ht : Tab w) : DoP w 34 32 8 0 false (fun ex vs => hasV (vs.getD 0 vlz) (vs.getD 1 vlz).s) :=
 do2P w ht 34 32 8 false 72 op_has (enters_of Tryz.func72 (by kernel_rfl) rfl) (by decide) (by decide) (by kernel_rfl) (fun ex x y => hasV x y.s) (fun ex _ _ _ _ _ _ _ _ _ a n cl _ _ _ _ _ _ _ _ x y B u hu hn hc hs hf gx gy ha h00 h01 h02 h03 h04 h10 h11 h12 h13 h14 ix iy hB => has_op _ _ _ _ _ _ _ _ _ a n cl _ _ _ _ _ _ _ _ _ _ _ _ _ _ _ _ _ _ x y B u (by omega) ha h00 h01 h02 h03 h04 h10 h11 h12 h13 h14 ix iy hB gx (kind_32 gx hf))
theorem on_kind (w : World) (ht : Tab w) : DoP w 35 0 0 0 false (fun ex vs => (nm (vs.getD 0 vlz).kind, 0)) :=
 do1P w ht 35 0 73 op_kind (enters_of Tryz.func73 (by kernel_rfl) rfl) (by decide) (by decide) (by kernel_rfl) (fun ex x => (nm x.kind, 0)) (fun ex _ _ _ _ _ _ _ _ _ a n cl _ _ _ _ x B u hu hn hc hs hf gx ha h00 h01 h02 h03 h04 ix hB => kind_op _ _ _ _ _ _ _ _ _ a n cl _ _ _ _ _ _ _ _ _ x B u (by omega) ha h00 h01 h02 h03 h04 ix hB gx)
theorem on_digest (w : World) (ht : Tab w) (kt : List Int) (hpk : Pk w kt) : DoP w 36 0 0 0 false (fun ex vs => digV kt (vs.getD 0 vlz)) :=
 do1P w ht 36 0 74 op_digest (enters_of Tryz.func74 (by kernel_rfl) rfl) (by decide) (by decide) (by kernel_rfl) (fun ex x => digV kt x) (fun ex _ _ _ _ _ _ _ _ _ a n cl _ _ _ _ x B u hu hn hc hs hf gx ha h00 h01 h02 h03 h04 ix hB => digest_op _ _ _ _ _ _ _ _ _ a n cl _ _ _ _ _ _ _ _ _ x B u (by omega) ha h00 h01 h02 h03 h04 ix hB kt (hpk.later hu (Nat.le_refl _)) gx)
theorem on_abort (w : World) (ht : Tab w) : DoP w 37 0 0 0 false (fun ex vs => (vlz, 8)) :=
 fun ex e0 e1 e2 e3 e4 e5 e6 e7 e8 vs al n cl B hx h hBs => do_by 37 0 0 0 false 75 op_abort ex e0 e1 e2 e3 e4 e5 e6 e7 e8 vs al n cl B w ht hx h hBs (fun _ => ⟨fun h => absurd rfl h, fun h => absurd rfl h, fun h => absurd rfl h, fun h => by cases h⟩) (enters_of Tryz.func75 (by kernel_rfl) rfl) _ (fun hm hf u hu => abort_op e0 e1 e2 e3 e4 e5 e6 e7 e8 al n cl u)
end Go.Proofs.YtgkmdjmigehmeaaGreatDoor
