/-
  Which kinds an operation asks for (prim.operation.fits); no conditions but the form's own reach.
-/
import Derived.Test.YtgkmdjmigehmeaaGreatDoorJ35
set_option linter.unusedVariables false
set_option linter.unusedSimpArgs false
namespace Go.Proofs.YtgkmdjmigehmeaaGreatDoor
open Go.RowKit
set_option linter.unusedVariables false
set_option linter.unusedSimpArgs false

/-- is a value of one of some kinds? -/
def bitK (k kd : Int) : Bool := !(bits BinOp.and IntKind.u8 (k / 2 ^ kd.toNat) 1 == 0)
def kdAt (vs : List Vl) (i : Nat) : Int := (vs[i]?.map (·.kind)).getD 0
def fit1 (k : Int) (vs : List Vl) (i : Nat) : Bool := k == 0 || bitK k (kdAt vs i)
def fitsB (k0 k1 k2 : Int) (alk : Bool) (vs : List Vl) : Bool := fit1 k0 vs 0 && fit1 k1 vs 1 && fit1 k2 vs 2 && (!alk || kdAt vs 0 == kdAt vs 1)

theorem block5 {w : World} {gb : Nat} {x0 x1 x2 x3 x4 : Value} {T : TypeId} (h : w.heap[gb]? = some (.cells #[x0, x1, x2, x3, x4] T (0, 0))) : w.cell? ⟨gb, 0, none⟩ = some x0 ∧ w.cell? ⟨gb, 1, none⟩ = some x1 ∧ w.cell? ⟨gb, 2, none⟩ = some x2 ∧ w.cell? ⟨gb, 3, none⟩ = some x3 ∧ w.cell? ⟨gb, 4, none⟩ = some x4 :=
  ⟨by rw [cell_of_row w gb 0 _ _ (0, 0) h]; rfl, by rw [cell_of_row w gb 1 _ _ (0, 0) h]; rfl, by rw [cell_of_row w gb 2 _ _ (0, 0) h]; rfl, by rw [cell_of_row w gb 3 _ _ (0, 0) h]; rfl, by rw [cell_of_row w gb 4 _ _ (0, 0) h]; rfl⟩

/-- the kinds of the first values -/
theorem ArV.kinds {w : World} {B : Nat} {vs : List Vl} {al : Option Addr} {n cl : Nat} (h : ArV w B vs al n cl) (i : Nat) (hi : i < n) :
    ∃ a, al = some a ∧ w.cell? ((a.add (i * 5)).add 0) = some (.int .i64 (kdAt vs i)) := by
  obtain ⟨y, hy⟩ : ∃ y, vs[i]? = some y := ⟨_, List.getElem?_eq_getElem (by rw [h.1]; exact hi)⟩
  obtain ⟨a, al', ak', cl', ck', rfl, _, hc, _⟩ := h.elem i y hy
  refine ⟨a, rfl, ?_⟩
  have := hc 0 _ rfl
  rw [this]
  unfold kdAt
  rw [hy]
  rfl

set_option maxRecDepth 100000 in
set_option maxHeartbeats 4000000 in
theorem fits_any (k0 k1 k2 : Int) (alk : Bool) (f : Nat) (vs : List Vl) (al : Option Addr) (n cl B : Nat) (w : World) (h : ArV w B vs al n cl) (hBs : B ≤ w.heap.size) (hkd : ∀ i, 0 ≤ kdAt vs i ∧ kdAt vs i ≤ 5) (h0 : ¬ k0 = 0 → 0 < n) (h1 : ¬ k1 = 0 → 1 < n) (h2 : ¬ k2 = 0 → 2 < n) (h3 : alk = true → 1 < n) :
    Calls Tryz.prog 30 #[.agg #[.int .u8 k0, .int .u8 k1, .int .u8 k2, .bool alk, .func (.func f) #[] #[]], .slice al n cl] w fun e w' => e = .returned (.bool (fitsB k0 k1 k2 alk vs)) ∧ Below w.heap.size w w' := by
  obtain ⟨gb, hgb⟩ : ∃ gb, w.heap.size = gb := ⟨_, rfl⟩
  obtain ⟨w1, hw1⟩ : ∃ w1, w.alloc (.cells #[.int .u8 k0, .int .u8 k1, .int .u8 k2, .bool alk, .func (.func f) #[] #[]] 55) = w1 := ⟨_, rfl⟩
  have n1 : w1.heap[gb]? = some (.cells #[.int .u8 k0, .int .u8 k1, .int .u8 k2, .bool alk, .func (.func f) #[] #[]] 55 (0, 0)) := by rw [← hw1, ← hgb]; exact heap_alloc_new w _
  have b1 : Below w.heap.size w w1 := by rw [← hw1]; exact (Below.refl _ _).alloc (Nat.le_refl _) _
  obtain ⟨c0, c1, c2, c3, c4⟩ := block5 n1
  have hA := h.later (b1.mono hBs)
  obtain ⟨q0, hq0⟩ : ∃ q, kdAt vs 0 = q := ⟨_, rfl⟩
  obtain ⟨q1, hq1⟩ : ∃ q, kdAt vs 1 = q := ⟨_, rfl⟩
  obtain ⟨q2, hq2⟩ : ∃ q, kdAt vs 2 = q := ⟨_, rfl⟩
  have r0 := hkd 0
  have r1 := hkd 1
  have r2 := hkd 2
  rw [hq0] at r0
  rw [hq1] at r1
  rw [hq2] at r2
  obtain ⟨r00, r01⟩ := r0
  obtain ⟨r10, r11⟩ := r1
  obtain ⟨r20, r21⟩ := r2
  have r02 : q0 ≤ 8 := by omega
  have r12 : q1 ≤ 8 := by omega
  have r22 : q2 ≤ 8 := by omega
  have D0 : Hid (0 < n → ∃ a, al = some a ∧ w1.cell? a = some (.int .i64 q0)) := hide (fun hl => by
    obtain ⟨a, ha, hc⟩ := hA.kinds 0 hl
    rw [hq0, show (a.add (0 * 5)).add 0 = a by simp [Addr.add]] at hc
    exact ⟨a, ha, hc⟩)
  have D1 : Hid (1 < n → ∃ a, al = some a ∧ w1.cell? ⟨a.block, a.off + 5, none⟩ = some (.int .i64 q1)) := hide (fun hl => by
    obtain ⟨a, ha, hc⟩ := hA.kinds 1 hl
    rw [hq1, show (a.add (1 * 5)).add 0 = ⟨a.block, a.off + 5, none⟩ by simp [Addr.add]] at hc
    exact ⟨a, ha, hc⟩)
  have D2 : Hid (2 < n → ∃ a, al = some a ∧ w1.cell? ⟨a.block, a.off + 10, none⟩ = some (.int .i64 q2)) := hide (fun hl => by
    obtain ⟨a, ha, hc⟩ := hA.kinds 2 hl
    rw [hq2, show (a.add (2 * 5)).add 0 = ⟨a.block, a.off + 10, none⟩ by simp [Addr.add]] at hc
    exact ⟨a, ha, hc⟩)
  obtain ⟨S, hS⟩ : ∃ S, fitsB k0 k1 k2 alk vs = S := ⟨_, rfl⟩
  have HS : Hid (((k0 == 0 || bitK k0 q0) && (k1 == 0 || bitK k1 q1) && (k2 == 0 || bitK k2 q2) && (!alk || q0 == q1)) = S) := hide (by rw [← hS, ← hq0, ← hq1, ← hq2]; rfl)
  have HK := hide (And.intro h0 (And.intro h1 (And.intro h2 h3)))
  have i0 : ∀ u, Sem.run Tryz.prog (Instr.index 52 (.agg #[.int .u8 k0, .int .u8 k1, .int .u8 k2]) (.int .i64 0)) u = .ok (.int .u8 k0) u := fun u => run_index_arr u _ 51 3 _ .i64 .u8 0 _ Tryz.underlying52 Tryz.underlying51 (by kernel_rfl) (by omega) rfl
  have i1 : ∀ u, Sem.run Tryz.prog (Instr.index 52 (.agg #[.int .u8 k0, .int .u8 k1, .int .u8 k2]) (.int .i64 1)) u = .ok (.int .u8 k1) u := fun u => run_index_arr u _ 51 3 _ .i64 .u8 1 _ Tryz.underlying52 Tryz.underlying51 (by kernel_rfl) (by omega) rfl
  have i2 : ∀ u, Sem.run Tryz.prog (Instr.index 52 (.agg #[.int .u8 k0, .int .u8 k1, .int .u8 k2]) (.int .i64 2)) u = .ok (.int .u8 k2) u := fun u => run_index_arr u _ 51 3 _ .i64 .u8 2 _ Tryz.underlying52 Tryz.underlying51 (by kernel_rfl) (by omega) rfl
  have HB1 := hide b1
  rw [hS]
  clear hA h hkd hq0 hq1 hq2 n1 b1 h0 h1 h2 h3 hS hBs
  go_enter Tryz.func30, Tryz.ntmps30
  go_wp2_with fail
  go_loopw [9] (fun x wr => ∃ i : Int, x = .int .i64 i ∧ Hid ((i = 0) ∨ (i = 1 ∧ (k0 == 0 || bitK k0 q0) = true) ∨ (i = 2 ∧ (k0 == 0 || bitK k0 q0) = true ∧ (k1 == 0 || bitK k1 q1) = true) ∨ (i = 3 ∧ (k0 == 0 || bitK k0 q0) = true ∧ (k1 == 0 || bitK k1 q1) = true ∧ (k2 == 0 || bitK k2 q2) = true)) ∧ wr = w1) (fun x _ => 3 - (intOf x).toNat)
  case atStart => exact ⟨0, rfl, hide (Or.inl rfl), rfl⟩
  case round =>
    obtain ⟨i, rfl, HI1, rfl⟩ := hrel
    rcases unhide HI1 with hi | hi | hi | hi
    · obtain rfl := hi
      clear HI1
      by_cases hk : k0 = 0
      · subst hk
        go_wp2_with fail
        go_roundw
        case rel => exact ⟨1, by go_num, hide (Or.inr (Or.inl ⟨rfl, rfl⟩)), by first | rfl | trivial⟩
        case measure => simp [intOf]
      · have hkb : (k0 == 0) = false := beq_eq_false_iff_ne.2 hk
        have hl := (unhide HK).1 hk
        obtain ⟨a, rfl, dd⟩ := unhide D0 hl
        have hli : (0 : Int) < (n : Int) := by omega
        cases hbit : (bits BinOp.and IntKind.u8 (k0 / 2 ^ q0.toNat) 1 == 0) with
        | true =>
          have HF : Hid (S = false) := hide (by rw [← unhide HS]; simp [bitK, hkb, hbit])
          go_wp2_with fail
          go_ret
          exact ⟨by rw [unhide HF]; rfl, by first | exact unhide HB1 | (rw [← hgb]; exact unhide HB1)⟩
        | false =>
          have HP2 : Hid ((k0 == 0 || bitK k0 q0) = true) := hide (by unfold bitK; rw [hbit]; simp)
          go_wp2_with fail
          go_roundw
          case rel => exact ⟨1, by go_num, hide (Or.inr (Or.inl ⟨rfl, unhide HP2⟩)), by first | rfl | trivial⟩
          case measure => simp [intOf]
    · obtain ⟨rfl, p0⟩ := hi
      have HP := hide (And.intro p0 trivial)
      clear p0
      clear HI1
      by_cases hk : k1 = 0
      · subst hk
        go_wp2_with fail
        go_roundw
        case rel => exact ⟨2, by go_num, hide (Or.inr (Or.inr (Or.inl ⟨rfl, (unhide HP).1, rfl⟩))), by first | rfl | trivial⟩
        case measure => simp [intOf]
      · have hkb : (k1 == 0) = false := beq_eq_false_iff_ne.2 hk
        have hl := (unhide HK).2.1 hk
        obtain ⟨a, rfl, dd⟩ := unhide D1 hl
        have hli : (1 : Int) < (n : Int) := by omega
        cases hbit : (bits BinOp.and IntKind.u8 (k1 / 2 ^ q1.toNat) 1 == 0) with
        | true =>
          have HF : Hid (S = false) := hide (by rw [← unhide HS]; simp [bitK, hkb, hbit])
          go_wp2_with fail
          go_ret
          exact ⟨by rw [unhide HF]; rfl, by first | exact unhide HB1 | (rw [← hgb]; exact unhide HB1)⟩
        | false =>
          have HP2 : Hid ((k1 == 0 || bitK k1 q1) = true) := hide (by unfold bitK; rw [hbit]; simp)
          go_wp2_with fail
          go_roundw
          case rel => exact ⟨2, by go_num, hide (Or.inr (Or.inr (Or.inl ⟨rfl, (unhide HP).1, unhide HP2⟩))), by first | rfl | trivial⟩
          case measure => simp [intOf]
    · obtain ⟨rfl, p0, p1⟩ := hi
      have HP := hide (And.intro p0 p1)
      clear p0 p1
      clear HI1
      by_cases hk : k2 = 0
      · subst hk
        go_wp2_with fail
        go_roundw
        case rel => exact ⟨3, by go_num, hide (Or.inr (Or.inr (Or.inr ⟨rfl, (unhide HP).1, (unhide HP).2, rfl⟩))), by first | rfl | trivial⟩
        case measure => simp [intOf]
      · have hkb : (k2 == 0) = false := beq_eq_false_iff_ne.2 hk
        have hl := (unhide HK).2.2.1 hk
        obtain ⟨a, rfl, dd⟩ := unhide D2 hl
        have hli : (2 : Int) < (n : Int) := by omega
        cases hbit : (bits BinOp.and IntKind.u8 (k2 / 2 ^ q2.toNat) 1 == 0) with
        | true =>
          have HF : Hid (S = false) := hide (by rw [← unhide HS]; simp [bitK, hkb, hbit])
          go_wp2_with fail
          go_ret
          exact ⟨by rw [unhide HF]; rfl, by first | exact unhide HB1 | (rw [← hgb]; exact unhide HB1)⟩
        | false =>
          have HP2 : Hid ((k2 == 0 || bitK k2 q2) = true) := hide (by unfold bitK; rw [hbit]; simp)
          go_wp2_with fail
          go_roundw
          case rel => exact ⟨3, by go_num, hide (Or.inr (Or.inr (Or.inr ⟨rfl, (unhide HP).1, (unhide HP).2, unhide HP2⟩))), by first | rfl | trivial⟩
          case measure => simp [intOf]
    · obtain ⟨rfl, p0, p1, p2⟩ := hi
      have HS3 : Hid ((!alk || q0 == q1) = S) := hide (by have := unhide HS; rw [p0, p1, p2] at this; simpa using this)
      clear p0 p1 p2 HI1
      cases alk with
      | false =>
        go_upto_region 7 with fail
        go_quiet (fail)
        go_wp2_with fail
        go_ret
        exact ⟨by rw [← unhide HS3]; simp, by first | exact below_drewN (unhide HB1) _ | (rw [← hgb]; exact below_drewN (unhide HB1) _)⟩
      | true =>
        have hl := (unhide HK).2.2.2 rfl
        obtain ⟨a, rfl, d0⟩ := unhide D0 (by omega)
        obtain ⟨a2, ha2, d1⟩ := unhide D1 hl
        cases ha2
        have hl0 : (0 : Int) < (n : Int) := by omega
        have hl1 : (1 : Int) < (n : Int) := by omega
        have HS4 : Hid ((q0 == q1) = S) := hide (by have := unhide HS3; simpa using this)
        go_upto_region 7 with fail
        go_quiet (fail)
        go_wp2_with fail
        go_ret
        exact ⟨by rw [← unhide HS4]; rfl, by first | exact below_drewN (unhide HB1) _ | (rw [← hgb]; exact below_drewN (unhide HB1) _)⟩
end Go.Proofs.YtgkmdjmigehmeaaGreatDoor
