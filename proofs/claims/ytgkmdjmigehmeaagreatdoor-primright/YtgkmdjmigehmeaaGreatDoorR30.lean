/-
  Which kinds an operation asks for (prim.operation.fits); no conditions but the form's own reach.
-/
import Derived.Test.YtgkmdjmigehmeaaGreatDoorR29
namespace Go.Proofs.YtgkmdjmigehmeaaGreatDoor
set_option linter.unusedVariables false
set_option linter.unusedSimpArgs false
set_option maxRecDepth 100000
set_option maxHeartbeats 16000000
open Go.RowKit
def bitK (k kd : Int) : Bool := !(bits BinOp.and IntKind.u8 (k / 2 ^ kd.toNat) 1 == 0)
def kdAt (vs : List Vl) (i : Nat) : Int := (vs[i]?.map (·.kind)).getD 0
def fit1 (k : Int) (vs : List Vl) (i : Nat) : Bool := k == 0 || bitK k (kdAt vs i)
def fitsB (k0 k1 k2 : Int) (alk : Bool) (vs : List Vl) : Bool := fit1 k0 vs 0 && fit1 k1 vs 1 && fit1 k2 vs 2 && (!alk || kdAt vs 0 == kdAt vs 1)
theorem block5 {w : World} {gb : Nat} {x0 x1 x2 x3 x4 : Value} {T : TypeId} (h : w.heap[gb]? = some (.cells #[x0, x1, x2, x3, x4] T (0, 0))) : w.cell? ⟨gb, 0, none⟩ = some x0 ∧ w.cell? ⟨gb, 1, none⟩ = some x1 ∧ w.cell? ⟨gb, 2, none⟩ = some x2 ∧ w.cell? ⟨gb, 3, none⟩ = some x3 ∧ w.cell? ⟨gb, 4, none⟩ = some x4 :=
 ⟨by rw [cell_of_row w gb 0 _ _ (0, 0) h]; rfl, by rw [cell_of_row w gb 1 _ _ (0, 0) h]; rfl, by rw [cell_of_row w gb 2 _ _ (0, 0) h]; rfl, by rw [cell_of_row w gb 3 _ _ (0, 0) h]; rfl, by rw [cell_of_row w gb 4 _ _ (0, 0) h]; rfl⟩
theorem ArV.kinds {w : World} {B : Nat} {vs : List Vl} {al : Option Addr} {n cl : Nat} (h : ArV w B vs al n cl) (i : Nat) (hi : i < n) :
  ∃ a, al = some a ∧ w.cell? ((a.add (i * 5)).add 0) = some (.int .i64 (kdAt vs i)) := by
 obtain ⟨y, hy⟩ : ∃ y, vs[i]? = some y := ⟨_, List.getElem?_eq_getElem (by rw [h.1]; exact hi)⟩
 obtain ⟨a, al', ak', cl', ck', rfl, _, hc, _⟩ := h.elem i y hy
 refine ⟨a, rfl, ?_⟩
 have := hc 0 _ rfl
 rw [this]
 unfold kdAt
 rw [hy]
 rfl
theorem fits_any (k0 k1 k2 : Int) (alk : Bool) (f : Nat) (vs : List Vl) (al : Option Addr) (n cl B : Nat) (w : World) (h : ArV w B vs al n cl) (hBs : B ≤ w.heap.size) (hkd : ∀ i, 0 ≤ kdAt vs i ∧ kdAt vs i ≤ 5) (h0 : ¬ k0 = 0 → 0 < n) (h1 : ¬ k1 = 0 → 1 < n) (h2 : ¬ k2 = 0 → 2 < n) (h3 : alk = true → 1 < n) :
  Calls Tryz.prog 30 #[.agg #[.int .u8 k0, .int .u8 k1, .int .u8 k2, .bool alk, .func (.func f) #[] #[]], .slice al n cl] w fun e w' => e = .returned (.bool (fitsB k0 k1 k2 alk vs)) ∧ Below w.heap.size w w' := by
 obtain ⟨gb, hgb⟩ : ∃ gb, w.heap.size = gb := ⟨_, rfl⟩
 obtain ⟨w1, hw1⟩ : ∃ w1, w.alloc (.cells #[.int .u8 k0, .int .u8 k1, .int .u8 k2, .bool alk, .func (.func f) #[] #[]] 55) = w1 := ⟨_, rfl⟩
 have n1 : w1.heap[gb]? = some (.cells #[.int .u8 k0, .int .u8 k1, .int .u8 k2, .bool alk, .func (.func f) #[] #[]] 55 (0, 0)) := by rw [← hw1, ← hgb]; exact heap_alloc_new w _
 have b1 : Below w.heap.size w w1 := by rw [← hw1]; exact (Below.refl _ _).alloc (Nat.le_refl _) _
 obtain ⟨c0, c1, c2, c3, c4⟩ := block5 n1
 have hA := h.later (b1.mono hBs)
 obtain ⟨q0, hq0⟩ : ∃ q, kdAt vs 0 = q := ⟨_, rfl⟩
 obtain ⟨q1, hq1⟩ : ∃ q, kdAt vs 1 = q := ⟨_, rfl⟩
 obtain ⟨q2, hq2⟩ : ∃ q, kdAt vs 2 = q := ⟨_, rfl⟩
 have r0 := hkd 0
 have r1 := hkd 1
 have r2 := hkd 2
 rw [hq0] at r0
 rw [hq1] at r1
 rw [hq2] at r2
 obtain ⟨r00, r01⟩ := r0
 obtain ⟨r10, r11⟩ := r1
 obtain ⟨r20, r21⟩ := r2
 have r02 : q0 ≤ 8 := by omega
 have r12 : q1 ≤ 8 := by omega
 have r22 : q2 ≤ 8 := by omega
 have D0 : Hid (0 < n → ∃ a, al = some a ∧ w1.cell? a = some (.int .i64 q0)) := hide (fun hl => by
  obtain ⟨a, ha, hc⟩ := hA.kinds 0 hl
  rw [hq0, show (a.add (0 * 5)).add 0 = a by simp [Addr.add]] at hc
  exact ⟨a, ha, hc⟩)
 have D1 : Hid (1 < n → ∃ a, al = some a ∧ w1.cell? ⟨a.block, a.off + 5, none⟩ = some (.int .i64 q1)) := hide (fun hl => by
  obtain ⟨a, ha, hc⟩ := hA.kinds 1 hl
  rw [hq1, show (a.add (1 * 5)).add 0 = ⟨a.block, a.off + 5, none⟩ by simp [Addr.add]] at hc
  exact ⟨a, ha, hc⟩)
 have D2 : Hid (2 < n → ∃ a, al = some a ∧ w1.cell? ⟨a.block, a.off + 10, none⟩ = some (.int .i64 q2)) := hide (fun hl => by
  obtain ⟨a, ha, hc⟩ := hA.kinds 2 hl
  rw [hq2, show (a.add (2 * 5)).add 0 = ⟨a.block, a.off + 10, none⟩ by simp [Addr.add]] at hc
  exact ⟨a, ha, hc⟩)
 obtain ⟨S, hS⟩ : ∃ S, fitsB k0 k1 k2 alk vs = S := ⟨_, rfl⟩
 have HS : Hid (((k0 == 0 || bitK k0 q0) && (k1 == 0 || bitK k1 q1) && (k2 == 0 || bitK k2 q2) && (!alk || q0 == q1)) = S) := hide (by rw [← hS, ← hq0, ← hq1, ← hq2]; rfl)
 have HK := hide (And.intro h0 (And.intro h1 (And.intro h2 h3)))
 have i0 : ∀ u, Sem.run Tryz.prog (Instr.index 52 (.agg #[.int .u8 k0, .int .u8 k1, .int .u8 k2]) (.int .i64 0)) u = .ok (.int .u8 k0) u := fun u => run_index_arr u _ 51 3 _ .i64 .u8 0 _ Tryz.underlying52 Tryz.underlying51 (by kernel_rfl) (by omega) rfl
 have i1 : ∀ u, Sem.run Tryz.prog (Instr.index 52 (.agg #[.int .u8 k0, .int .u8 k1, .int .u8 k2]) (.int .i64 1)) u = .ok (.int .u8 k1) u := fun u => run_index_arr u _ 51 3 _ .i64 .u8 1 _ Tryz.underlying52 Tryz.underlying51 (by kernel_rfl) (by omega) rfl
 have i2 : ∀ u, Sem.run Tryz.prog (Instr.index 52 (.agg #[.int .u8 k0, .int .u8 k1, .int .u8 k2]) (.int .i64 2)) u = .ok (.int .u8 k2) u := fun u => run_index_arr u _ 51 3 _ .i64 .u8 2 _ Tryz.underlying52 Tryz.underlying51 (by kernel_rfl) (by omega) rfl
 have HB1 := hide b1
 rw [hS]
 clear hA h hkd hq0 hq1 hq2 n1 b1 h0 h1 h2 h3 hS hBs
 go_enter Tryz.func30, Tryz.ntmps30
 go_wp2_with fail
 go_loopw [9] (fun x wr => ∃ i : Int, x = .int .i64 i ∧ Hid ((i = 0) ∨ (i = 1 ∧ (k0 == 0 || bitK k0 q0) = true) ∨ (i = 2 ∧ (k0 == 0 || bitK k0 q0) = true ∧ (k1 == 0 || bitK k1 q1) = true) ∨ (i = 3 ∧ (k0 == 0 || bitK k0 q0) = true ∧ (k1 == 0 || bitK k1 q1) = true ∧ (k2 == 0 || bitK k2 q2) = true)) ∧ wr = w1) (fun x _ => 3 - (intOf x).toNat)
 case atStart => exact ⟨0, rfl, hide (Or.inl rfl), rfl⟩
 case round =>
  obtain ⟨i, rfl, HI1, rfl⟩ := hrel
  rcases uh HI1 with hi | hi | hi | hi
  ·obtain rfl := hi
   clear HI1
   by_cases hk : k0 = 0
   ·subst hk
    go_wp2_with fail
    go_roundw
    case rel => exact ⟨1, by go_num, hide (Or.inr (Or.inl ⟨rfl, rfl⟩)), by first | rfl | trivial⟩
    case measure => simp [intOf]
   ·have hkb : (k0 == 0) = false := beq_eq_false_iff_ne.2 hk
    have hl := (uh HK).1 hk
    obtain ⟨a, rfl, dd⟩ := uh D0 hl
    have hli : (0 : Int) < (n : Int) := by omega
    cases hbit : (bits BinOp.and IntKind.u8 (k0 / 2 ^ q0.toNat) 1 == 0) with
    | true =>
     have HF : Hid (S = false) := hide (by rw [← uh HS]; simp [bitK, hkb, hbit])
     go_wp2_with fail
     go_ret
     exact ⟨by rw [uh HF]; rfl, by first | exact uh HB1 | (rw [← hgb]; exact uh HB1)⟩
    | false =>
     have HP2 : Hid ((k0 == 0 || bitK k0 q0) = true) := hide (by unfold bitK; rw [hbit]; simp)
     go_wp2_with fail
     go_roundw
     case rel => exact ⟨1, by go_num, hide (Or.inr (Or.inl ⟨rfl, uh HP2⟩)), by first | rfl | trivial⟩
     case measure => simp [intOf]
  ·obtain ⟨rfl, p0⟩ := hi
   have HP := hide (And.intro p0 trivial)
   clear p0
   clear HI1
   by_cases hk : k1 = 0
   ·subst hk
    go_wp2_with fail
    go_roundw
    case rel => exact ⟨2, by go_num, hide (Or.inr (Or.inr (Or.inl ⟨rfl, (uh HP).1, rfl⟩))), by first | rfl | trivial⟩
    case measure => simp [intOf]
   ·have hkb : (k1 == 0) = false := beq_eq_false_iff_ne.2 hk
    have hl := (uh HK).2.1 hk
    obtain ⟨a, rfl, dd⟩ := uh D1 hl
    have hli : (1 : Int) < (n : Int) := by omega
    cases hbit : (bits BinOp.and IntKind.u8 (k1 / 2 ^ q1.toNat) 1 == 0) with
    | true =>
     have HF : Hid (S = false) := hide (by rw [← uh HS]; simp [bitK, hkb, hbit])
     go_wp2_with fail
     go_ret
     exact ⟨by rw [uh HF]; rfl, by first | exact uh HB1 | (rw [← hgb]; exact uh HB1)⟩
    | false =>
     have HP2 : Hid ((k1 == 0 || bitK k1 q1) = true) := hide (by unfold bitK; rw [hbit]; simp)
     go_wp2_with fail
     go_roundw
     case rel => exact ⟨2, by go_num, hide (Or.inr (Or.inr (Or.inl ⟨rfl, (uh HP).1, uh HP2⟩))), by first | rfl | trivial⟩
     case measure => simp [intOf]
  ·obtain ⟨rfl, p0, p1⟩ := hi
   have HP := hide (And.intro p0 p1)
   clear p0 p1
   clear HI1
   by_cases hk : k2 = 0
   ·subst hk
    go_wp2_with fail
    go_roundw
    case rel => exact ⟨3, by go_num, hide (Or.inr (Or.inr (Or.inr ⟨rfl, (uh HP).1, (uh HP).2, rfl⟩))), by first | rfl | trivial⟩
    case measure => simp [intOf]
   ·have hkb : (k2 == 0) = false := beq_eq_false_iff_ne.2 hk
    have hl := (uh HK).2.2.1 hk
    obtain ⟨a, rfl, dd⟩ := uh D2 hl
    have hli : (2 : Int) < (n : Int) := by omega
    cases hbit : (bits BinOp.and IntKind.u8 (k2 / 2 ^ q2.toNat) 1 == 0) with
    | true =>
     have HF : Hid (S = false) := hide (by rw [← uh HS]; simp [bitK, hkb, hbit])
     go_wp2_with fail
     go_ret
     exact ⟨by rw [uh HF]; rfl, by first | exact uh HB1 | (rw [← hgb]; exact uh HB1)⟩
    | false =>
     have HP2 : Hid ((k2 == 0 || bitK k2 q2) = true) := hide (by unfold bitK; rw [hbit]; simp)
     go_wp2_with fail
     go_roundw
     case rel => exact ⟨3, by go_num, hide (Or.inr (Or.inr (Or.inr ⟨rfl, (uh HP).1, (uh HP).2, uh HP2⟩))), by first | rfl | trivial⟩
     case measure => simp [intOf]
  ·obtain ⟨rfl, p0, p1, p2⟩ := hi
   have HS3 : Hid ((!alk || q0 == q1) = S) := hide (by have := uh HS; rw [p0, p1, p2] at this; simpa using this)
   clear p0 p1 p2 HI1
   cases alk with
   | false =>
    go_upto_region 7 with fail
    go_quiet (fail)
    go_wp2_with fail
    go_ret
    exact ⟨by rw [← uh HS3]; simp, by first | exact below_drewN (uh HB1) _ | (rw [← hgb]; exact below_drewN (uh HB1) _)⟩
   | true =>
    have hl := (uh HK).2.2.2 rfl
    obtain ⟨a, rfl, d0⟩ := uh D0 (by omega)
    obtain ⟨a2, ha2, d1⟩ := uh D1 hl
    cases ha2
    have hl0 : (0 : Int) < (n : Int) := by omega
    have hl1 : (1 : Int) < (n : Int) := by omega
    have HS4 : Hid ((q0 == q1) = S) := hide (by have := uh HS3; simpa using this)
    go_upto_region 7 with fail
    go_quiet (fail)
    go_wp2_with fail
    go_ret
    exact ⟨by rw [← uh HS4]; rfl, by first | exact below_drewN (uh HB1) _ | (rw [← hgb]; exact below_drewN (uh HB1) _)⟩
theorem contains_any (vs : List Vl) (al : Option Addr) (n cl B : Nat) (w : World) (h : ArV w B vs al n cl) (hBs : B ≤ w.heap.size) :
  Calls Tryz.prog 46 #[.slice al n cl, .func (.func 47) #[] #[]] w fun e w' => e = .returned (.bool (!(vs.all rightB))) ∧ Below w.heap.size w w' := by
 have CC := hide (indexF_any vs al n cl B w h hBs)
 clear h hBs
 go_enter Tryz.func46, Tryz.ntmps46
 go_wp2_with fail
 refine (uh CC).mono ?_
 rintro e u ⟨r, rfl, hr, b⟩
 have HR := hide (And.intro hr b)
 clear hr b CC
 go_wp2_with fail
 go_ret
 exact ⟨by rw [← (uh HR).1]; rfl, (uh HR).2⟩
theorem block6 {w : World} {gb : Nat} {x0 x1 x2 x3 x4 x5 : Value} {T : TypeId} (h : w.heap[gb]? = some (.cells #[x0, x1, x2, x3, x4, x5] T (0, 0))) : w.cell? ⟨gb, 0, none⟩ = some x0 ∧ w.cell? ⟨gb, 1, none⟩ = some x1 ∧ w.cell? ⟨gb, 2, none⟩ = some x2 ∧ w.cell? ⟨gb, 3, none⟩ = some x3 ∧ w.cell? ⟨gb, 4, none⟩ = some x4 ∧ w.cell? ⟨gb, 5, none⟩ = some x5 :=
 ⟨by rw [cell_of_row w gb 0 _ _ (0, 0) h]; rfl, by rw [cell_of_row w gb 1 _ _ (0, 0) h]; rfl, by rw [cell_of_row w gb 2 _ _ (0, 0) h]; rfl, by rw [cell_of_row w gb 3 _ _ (0, 0) h]; rfl, by rw [cell_of_row w gb 4 _ _ (0, 0) h]; rfl, by rw [cell_of_row w gb 5 _ _ (0, 0) h]; rfl⟩
theorem tright_any (ex : Vl) (e0 e1 : Int) (e2 : ByteArray) (e3 : Option Addr) (e4 e5 : Nat) (e6 : Option Addr) (e7 e8 : Nat) (vs : List Vl) (al : Option Addr) (n cl B : Nat) (w : World) (hx : IsV w B ex (.agg #[.int .i64 e0, .int .i64 e1, .string e2, .slice e3 e4 e5, .slice e6 e7 e8])) (h : ArV w B vs al n cl) (hBs : B ≤ w.heap.size) :
  Calls Tryz.prog 28 #[.agg #[.int .i64 e0, .int .i64 e1, .string e2, .slice e3 e4 e5, .slice e6 e7 e8, .slice al n cl]] w fun e w' => e = .returned (.bool (rightB ex && vs.all rightB)) ∧ Below w.heap.size w w' := by
 obtain ⟨gb, hgb⟩ : ∃ gb, w.heap.size = gb := ⟨_, rfl⟩
 obtain ⟨w1, hw1⟩ : ∃ w1, w.alloc (.cells #[.int .i64 e0, .int .i64 e1, .string e2, .slice e3 e4 e5, .slice e6 e7 e8, .slice al n cl] 50) = w1 := ⟨_, rfl⟩
 have n1 : w1.heap[gb]? = some (.cells #[.int .i64 e0, .int .i64 e1, .string e2, .slice e3 e4 e5, .slice e6 e7 e8, .slice al n cl] 50 (0, 0)) := by rw [← hw1, ← hgb]; exact heap_alloc_new w _
 have b1 : Below w.heap.size w w1 := by rw [← hw1]; exact (Below.refl _ _).alloc (Nat.le_refl _) _
 obtain ⟨c0, c1, c2, c3, c4, c5⟩ := block6 n1
 have CR := hide (right_code ex _ B w1 (IsV.mono (b1.mono hBs) hx) (Nat.le_trans hBs b1.size))
 have HB := hide (And.intro b1 n1)
 have HA : Hid (∀ u, Below w1.heap.size w1 u → Calls Tryz.prog 46 #[.slice al n cl, .func (.func 47) #[] #[]] u fun e w' => e = .returned (.bool (!(vs.all rightB))) ∧ Below u.heap.size u w') := hide (fun u hu => contains_any vs al n cl B u (h.later ((b1.trans (hu.mono b1.size)).mono hBs)) (Nat.le_trans hBs (b1.trans (hu.mono b1.size)).size))
 obtain ⟨R, hR⟩ : ∃ R, rightB ex = R := ⟨_, rfl⟩
 obtain ⟨A, hA⟩ : ∃ A, vs.all rightB = A := ⟨_, rfl⟩
 rw [hR] at CR ⊢
 rw [hA] at HA ⊢
 clear n1 b1 hx h hR hA
 cases R with
 | false =>
  go_enter Tryz.func28, Tryz.ntmps28
  go_wp2_with fail
  refine (uh CR).mono ?_
  rintro e u ⟨rfl, b2⟩
  have B2 := hide ((uh HB).1.trans (b2.mono (uh HB).1.size))
  clear b2 CR
  go_wp2_with fail
  go_ret
  exact ⟨rfl, by first | exact uh B2 | (rw [← hgb]; exact uh B2)⟩
 | true =>
  go_enter Tryz.func28, Tryz.ntmps28
  go_wp2_with fail
  refine (uh CR).mono ?_
  rintro e u ⟨rfl, b2⟩
  have B2 := hide ((uh HB).1.trans (b2.mono (uh HB).1.size))
  have C2 := hide (uh HA u b2)
  obtain ⟨z0, z1, z2, z3, z4, z5⟩ := block6 ((b2.block gb (Array.getElem?_eq_some_iff.1 (uh HB).2).1).trans (uh HB).2)
  clear b2 CR c0 c1 c2 c3 c4 c5
  go_wp2_with fail
  refine (uh C2).mono ?_
  rintro e u2 ⟨rfl, b3⟩
  have B3 := hide ((uh B2).trans (b3.mono (uh B2).size))
  clear b3 C2
  go_wp2_with fail
  go_ret
  exact ⟨by simp, by first | exact uh B3 | (rw [← hgb]; exact uh B3)⟩
def takesA (op n : Int) (ex : Vl) : Int := if 10 ≤ op ∧ op ≤ 37 then (if op = 23 then cntA n else if op = 24 then (if ex.kind = 4 ∧ rightB ex = true then cntA ex.l.length else 0) else (infoA op).1.2.2.1) else 0
theorem takes_any (op k : Int) (ex : Vl) (e0 e1 : Int) (e2 : ByteArray) (e3 : Option Addr) (e4 e5 : Nat) (e6 : Option Addr) (e7 e8 : Nat) (B : Nat) (w : World) (ht : Tab w) (hx : IsV w B ex (.agg #[.int .i64 e0, .int .i64 e1, .string e2, .slice e3 e4 e5, .slice e6 e7 e8])) (hBs : B ≤ w.heap.size) :
  Calls Tryz.prog 19 #[.int .i64 op, .int .i64 k, .agg #[.int .i64 e0, .int .i64 e1, .string e2, .slice e3 e4 e5, .slice e6 e7 e8]] w fun e w' => e = .returned (.int .i64 (takesA op k ex)) ∧ Below w.heap.size w w' := by
 obtain ⟨kd, kn, s, l, ks, hal, hak, hcl, hck, rfl, hxe⟩ := hx.shape
 have hxe' := congrArg Array.toList (Value.agg.inj hxe)
 simp only [List.cons.injEq, Value.int.injEq, Value.string.injEq, Value.slice.injEq, true_and, and_true] at hxe'
 obtain ⟨rfl, rfl, rfl, ⟨rfl, rfl, rfl⟩, ⟨rfl, rfl, rfl⟩⟩ := hxe'
 clear hxe
 obtain ⟨gb, hgb⟩ : ∃ gb, w.heap.size = gb := ⟨_, rfl⟩
 obtain ⟨w1, hw1⟩ : ∃ w1, w.alloc (.cells #[.int .i64 e0, .int .i64 e1, .string e2, .slice e3 l.length e5, .slice e6 ks.length e8] 25) = w1 := ⟨_, rfl⟩
 have n1 : w1.heap[gb]? = some (.cells #[.int .i64 e0, .int .i64 e1, .string e2, .slice e3 l.length e5, .slice e6 ks.length e8] 25 (0, 0)) := by rw [← hw1, ← hgb]; exact heap_alloc_new w _
 have b1 : Below w.heap.size w w1 := by rw [← hw1]; exact (Below.refl _ _).alloc (Nat.le_refl _) _
 obtain ⟨c0, c1, c2, c3, c4⟩ := block5 n1
 have CP := hide (pure_any op w1)
 have HB := hide (And.intro b1 n1)
 have HT : Hid (∀ u, Below w1.heap.size w1 u → Tab u) := hide (fun u hu => ht.later (b1.trans (hu.mono b1.size)) ht.big (b1.trans (hu.mono b1.size)).size)
 have HX : Hid (∀ u, Below w1.heap.size w1 u → Calls Tryz.prog 22 #[.agg #[.int .i64 e0, .int .i64 e1, .string e2, .slice e3 l.length e5, .slice e6 ks.length e8]] u fun e w' => e = .returned (.bool (rightB (.mk e0 e1 e2 l ks))) ∧ Below u.heap.size u w') := hide (fun u hu => right_code _ _ B u (IsV.mono ((b1.trans (hu.mono b1.size)).mono hBs) hx) (Nat.le_trans hBs (b1.trans (hu.mono b1.size)).size))
 obtain ⟨A, hA⟩ : ∃ A, takesA op k (.mk e0 e1 e2 l ks) = A := ⟨_, rfl⟩
 rw [hA]
 have HA := hide hA
 clear n1 b1 hx ht hA
 by_cases hp : 10 ≤ op ∧ op ≤ 37
 ·rw [decide_eq_true hp] at CP
  by_cases h23 : op = 23
  ·subst h23
   have HA2 : Hid (cntA k = A) := hide (by have := uh HA; unfold takesA at this; rw [if_pos hp, if_pos rfl] at this; exact this)
   clear hp
   go_enter Tryz.func19, Tryz.ntmps19
   go_wp2_with fail
   refine (uh CP).mono ?_
   rintro e u ⟨rfl, b2⟩
   have B2 := hide ((uh HB).1.trans (b2.mono (uh HB).1.size))
   have C2 := hide (counted_any k u)
   clear b2 CP
   go_wp2_with fail
   refine (uh C2).mono ?_
   rintro e u2 ⟨rfl, b3⟩
   have B3 := hide ((uh B2).trans (b3.mono (uh B2).size))
   clear b3 C2
   go_wp2_with fail
   go_ret
   exact ⟨by rw [← uh HA2]; rfl, by first | exact uh B3 | (rw [← hgb]; exact uh B3)⟩
  ·have h23b : (op == 23) = false := beq_eq_false_iff_ne.2 h23
   by_cases h24 : op = 24
   ·subst h24
    have HA2 : Hid ((if e0 = 4 ∧ rightB (.mk e0 e1 e2 l ks) = true then cntA l.length else 0) = A) := hide (by have := uh HA; unfold takesA at this; rw [if_pos hp, if_neg h23, if_pos rfl] at this; exact this)
    clear hp h23
    by_cases h4 : e0 = 4
    ·subst h4
     obtain ⟨R, hR⟩ : ∃ R, rightB (.mk 4 e1 e2 l ks) = R := ⟨_, rfl⟩
     rw [hR] at HX HA2
     clear hR HA
     go_enter Tryz.func19, Tryz.ntmps19
     go_wp2_with fail
     refine (uh CP).mono ?_
     rintro e u ⟨rfl, b2⟩
     have B2 := hide ((uh HB).1.trans (b2.mono (uh HB).1.size))
     have CX := hide (uh HX u b2)
     obtain ⟨z0, z1, z2, z3, z4⟩ := block5 ((b2.block gb (Array.getElem?_eq_some_iff.1 (uh HB).2).1).trans (uh HB).2)
     have HZ := hide ((b2.block gb (Array.getElem?_eq_some_iff.1 (uh HB).2).1).trans (uh HB).2)
     clear b2 CP c0 c1 c2 c3 c4 HX
     cases R with
     | false =>
      go_wp2_with fail
      refine (uh CX).mono ?_
      rintro e u2 ⟨rfl, b3⟩
      have B3 := hide ((uh B2).trans (b3.mono (uh B2).size))
      clear b3 CX
      go_wp2_with fail
      go_ret
      exact ⟨by rw [← uh HA2]; rfl, by first | exact uh B3 | (rw [← hgb]; exact uh B3)⟩
     | true =>
      go_wp2_with fail
      refine (uh CX).mono ?_
      rintro e u2 ⟨rfl, b3⟩
      have B3 := hide ((uh B2).trans (b3.mono (uh B2).size))
      obtain ⟨y0, y1, y2, y3, y4⟩ := block5 ((b3.block gb (Array.getElem?_eq_some_iff.1 (uh HZ)).1).trans (uh HZ))
      have C3 := hide (counted_any l.length u2)
      clear b3 CX z0 z1 z2 z3 z4
      go_wp2_with fail
      refine (uh C3).mono ?_
      rintro e u3 ⟨rfl, b4⟩
      have B4 := hide ((uh B3).trans (b4.mono (uh B3).size))
      clear b4 C3
      go_wp2_with fail
      go_ret
      exact ⟨by rw [← uh HA2]; rfl, by first | exact uh B4 | (rw [← hgb]; exact uh B4)⟩
    ·have h4b : (e0 == 4) = false := beq_eq_false_iff_ne.2 h4
     have HA3 : Hid (0 = A) := hide (by rw [← uh HA2, if_neg (fun h => h4 h.1)])
     go_enter Tryz.func19, Tryz.ntmps19
     go_wp2_with fail
     refine (uh CP).mono ?_
     rintro e u ⟨rfl, b2⟩
     have B2 := hide ((uh HB).1.trans (b2.mono (uh HB).1.size))
     obtain ⟨z0, z1, z2, z3, z4⟩ := block5 ((b2.block gb (Array.getElem?_eq_some_iff.1 (uh HB).2).1).trans (uh HB).2)
     clear b2 CP c0 c1 c2 c3 c4
     go_wp2_with fail
     go_ret
     exact ⟨by rw [← uh HA3]; rfl, by first | exact uh B2 | (rw [← hgb]; exact uh B2)⟩
   ·have h24b : (op == 24) = false := beq_eq_false_iff_ne.2 h24
    obtain ⟨⟨is, i1, i2, i3, i4, i5⟩, hI⟩ : ∃ x, (infoA op).1 = x := ⟨_, rfl⟩
    have HA2 : Hid (i2 = A) := hide (by have := uh HA; unfold takesA at this; rw [if_pos hp, if_neg h23, if_neg h24, hI] at this; exact this)
    have hI2 : (infoA op).2 = true := by unfold infoA; rw [if_pos (by omega)]
    have HII : Hid (∀ u, Below w1.heap.size w1 u → Calls Tryz.prog 42 #[.int .i64 op] u fun e w' => e = .returned (.tuple #[.agg #[.string is, .int .i64 i1, .int .i64 i2, .int .i64 i3, .int .i64 i4, .int .i64 i5], .bool true]) ∧ Below u.heap.size u w') := hide (fun u hu => by
     have := info_any op u (uh HT u hu)
     rw [hI, hI2] at this
     exact this)
    clear hp hI hI2
    go_enter Tryz.func19, Tryz.ntmps19
    go_wp2_with fail
    refine (uh CP).mono ?_
    rintro e u ⟨rfl, b2⟩
    have B2 := hide ((uh HB).1.trans (b2.mono (uh HB).1.size))
    have CI := hide (uh HII u b2)
    clear b2 CP c0 c1 c2 c3 c4
    go_wp2_with fail
    refine (uh CI).mono ?_
    rintro e u2 ⟨rfl, b3⟩
    have B3 := hide ((uh B2).trans (b3.mono (uh B2).size))
    clear b3 CI
    go_wp2_with fail
    go_ret
    exact ⟨by rw [← uh HA2]; rfl, by first | exact (uh B3).alloc (uh B3).size _ | (rw [← hgb]; exact (uh B3).alloc (uh B3).size _)⟩
 ·rw [decide_eq_false hp] at CP
  have HA2 : Hid (0 = A) := hide (by have := uh HA; unfold takesA at this; rw [if_neg hp] at this; exact this)
  clear hp
  go_enter Tryz.func19, Tryz.ntmps19
  go_wp2_with fail
  refine (uh CP).mono ?_
  rintro e u ⟨rfl, b2⟩
  have B2 := hide ((uh HB).1.trans (b2.mono (uh HB).1.size))
  clear b2 CP
  go_wp2_with fail
  go_ret
  exact ⟨by rw [← uh HA2]; rfl, by first | exact uh B2 | (rw [← hgb]; exact uh B2)⟩
end Go.Proofs.YtgkmdjmigehmeaaGreatDoor
