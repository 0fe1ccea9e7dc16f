/-
  The walk of parts of a module's reader (layer 9): all of a section's body; no conditions but the form's own reach.
  The walk of open of a module's reader (layer 9): to a section's body; no conditions but the form's own reach.
  Where a value's bytes are wrong lies within them; no conditions.
  What is read as a module (layer 9) is right, and its bytes are those that were read; where bytes are wrong lies within them; no conditions.
-/
import Derived.Test.YtfdnhpmldnmncaaDA
import Derived.Test.YtfdnhpmldnmncaaWTake
import Derived.Test.YtfdnhpmldnmncaaM4
namespace Go.Proofs.Ytfdnhpmldnmncaa
open Go.RowKit

/-- a block more that is left alone -/
def IAnd (I : Nat → Obj → Prop) (g : Nat) (c : Obj) : Nat → Obj → Prop := fun b d => I b d ∨ (b = g ∧ d = c)

theorem RdM.less {w0 w : World} {I J : Nat → Obj → Prop} {gr : Nat} {vb vy : Value} {a : Int} {C F X : Value} {m : Md} {V : Nat → List Value} (h : RdM w0 I w gr vb vy a C F X m V) (hJ : ∀ b c, J b c → I b c) : RdM w0 J w gr vb vy a C F X m V :=
  ⟨h.box, h.old, h.ownC, h.ownF, h.ownX, h.row, h.el, fun b c hb => h.side b c (hJ b c hb)⟩

theorem RdM.guard {w0 w : World} {I : Nat → Obj → Prop} {gr : Nat} {vb vy : Value} {a : Int} {C F X : Value} {m : Md} {V : Nat → List Value} (h : RdM w0 I w gr vb vy a C F X m V) (cs : Array Value) (T : TypeId) : RdM w0 (IAnd I w.heap.size (.cells cs T (0, 0))) (w.alloc (.cells cs T)) gr vb vy a C F X m V := by
  have h1 := h.later ((Below.refl _ _).alloc (Nat.le_refl _) (.cells cs T))
  refine ⟨h1.box, h1.old, h1.ownC, h1.ownF, h1.ownX, h1.row, h1.el, fun b c hb => ?_⟩
  rcases hb with hb | ⟨rfl, rfl⟩
  · exact h1.side b c hb
  · have hl := h.lt
    exact ⟨heap_alloc_new w _, by omega, fun e => by have := (h.ownC.lt _ e.symm).2; omega, fun e => by have := (h.ownF.lt _ e.symm).2; omega, fun e => by have := (h.ownX.lt _ e.symm).2; omega⟩

/-- what a reader of one part is: its answers, what is known of the module ahead of each -/
structure RdAt (w0 : World) (gr : Nat) (vb vy : Value) (f : Nat) (rd : Md → Nat → Except (Int × Int) (Md × Nat)) (Lk : Nat → Md → Prop) : Prop where
  call : ∀ (I : Nat → Obj → Prop) (i : Nat) (m : Md) (a : Nat) (C F X : Value) (V : Nat → List Value) (w : World), i < 100 → Lk i m → RdM w0 I w gr vb vy a C F X m V → Calls Try.prog f #[.pointer (some ⟨gr, 0, none⟩)] w fun e' w' => ResRd w0 I gr vb vy (rd m a) e' w'
  next : ∀ i m a m' a', Lk i m → rd m a = .ok (m', a') → Lk (i + 1) m'
  code : ∀ m a p, rd m a = .error p → ¬ p.1 = 0

/-- what stands behind the last part -/
def rdEnd (bs : List Int) (r : Except (Int × Int) (Md × Nat)) : Except (Int × Int) (Md × Nat) := match r with
  | .error e => .error e
  | .ok (m', a') => if a' < bs.length then .error (91, a') else .ok (m', a')

set_option maxRecDepth 100000 in
set_option maxHeartbeats 2000000 in
theorem parts0_any (w0 : World) (I : Nat → Obj → Prop) (gr : Nat) (vb : Value) (bo : Option Addr) (e bc : Nat) (a : Nat) (C F X : Value) (m : Md) (V : Nat → List Value) (bs : List Int) (most : Int) (f1 f2 : Nat) (rd : Md → Nat → Except (Int × Int) (Md × Nat)) (Lk : Nat → Md → Prop) (w : World) (h : RdM w0 I w gr vb (.slice bo e bc) a C F X m V) (hy : Row8 w0 bo e bc bs) (hg : w0.heap.size ≤ gr) (hm : bc ≤ maxLen) (hmost : 0 ≤ most ∧ most ≤ 100) (hl0 : Lk 0 m) (hR : RdAt w0 gr vb (.slice bo e bc) 35 rd Lk) :
    Calls Try.prog 23 #[.pointer (some ⟨gr, 0, none⟩), .agg #[.int .i64 most, .func (.func f1) #[] #[], .func (.func f2) #[] #[], .func (.func 35) #[] #[]]] w fun e' w' => ResRd w0 I gr vb (.slice bo e bc) (rdP bs most rd m a) e' w' := by
  obtain ⟨g, hgg⟩ : ∃ g, w.heap.size = g := ⟨_, rfl⟩
  have G1 := h.guard #[.int .i64 most, .func (.func f1) #[] #[], .func (.func f2) #[] #[], .func (.func 35) #[] #[]] 67
  obtain ⟨w1, hw1⟩ : ∃ w1, w.alloc (.cells #[.int .i64 most, .func (.func f1) #[] #[], .func (.func f2) #[] #[], .func (.func 35) #[] #[]] 67) = w1 := ⟨_, rfl⟩
  rw [hw1, hgg] at G1
  obtain ⟨J, hJ⟩ : ∃ J, IAnd I g (.cells #[.int .i64 most, .func (.func f1) #[] #[], .func (.func f2) #[] #[], .func (.func 35) #[] #[]] 67 (0, 0)) = J := ⟨_, rfl⟩
  have HJ : Hid (J g (.cells #[.int .i64 most, .func (.func f1) #[] #[], .func (.func f2) #[] #[], .func (.func 35) #[] #[]] 67 (0, 0)) ∧ ∀ b c, I b c → J b c) := hide (by rw [← hJ]; exact ⟨Or.inr ⟨rfl, rfl⟩, fun b c hb => Or.inl hb⟩)
  rw [hJ] at G1
  clear hJ
  obtain ⟨d0, d1, d2, d3⟩ := row_cell4 (G1.side g _ (unhide HJ).1).1
  have C1 := hide (number_any w0 J gr vb bo e bc a C F X m V bs most 92 w1 G1 hy hg hm (by omega))
  have HY := hide hy
  have HRD := hide hR
  have HL0 := hide hl0
  have hlen := hy.length
  clear h hy G1 hR hl0
  unfold rdP
  cases h1 : rdNo bs a most 92 with
  | error c =>
    rw [h1] at C1
    have k1 : ¬ c = 0 := by have := no_code h1; omega
    clear h1
    go_enter Try.func23, Try.ntmps23
    go_wp2_with fail
    refine (unhide C1).mono ?_
    rintro e1 u1 ⟨rfl, R1⟩
    have H1 := hide R1
    clear R1 C1 d0 d1 d2 d3
    go_wp2_with fail
    go_ret
    exact ⟨rfl, _, _, _, _, _, (unhide H1).less (unhide HJ).2⟩
  | ok r1 =>
    obtain ⟨nI, a1⟩ := r1
    rw [h1] at C1
    obtain ⟨n, rfl, hn100⟩ : ∃ n : Nat, nI = (n : Int) ∧ n ≤ 100 := by
      unfold rdNo at h1
      split at h1
      · cases h1
      · rename_i h0
        split at h1
        · cases h1
        · rename_i h2
          simp only [Except.ok.injEq, Prod.mk.injEq] at h1
          have e0 : uintAt bs (a : Int) = ((uintAt bs (a : Int)).1, (uintAt bs (a : Int)).2.1, 0) := by
            have : (uintAt bs (a : Int)).2.2 = 0 := by simpa using h0
            rw [← this]
          have := (uint_nat (unhide HY).small e0).1
          exact ⟨nI.toNat, by omega, by omega⟩
    dsimp only
    rw [Int.toNat_natCast]
    obtain ⟨R, hRR⟩ : ∃ R, rdN rd n m a1 = R := ⟨_, rfl⟩
    rw [hRR]
    change Calls _ _ _ _ fun e' w' => ResRd w0 I gr vb (.slice bo e bc) (rdEnd bs R) e' w'
    clear h1
    have HRR := hide hRR
    clear hRR
    go_enter Try.func23, Try.ntmps23
    go_wp2_with fail
    refine (unhide C1).mono ?_
    rintro e1 u1 ⟨rfl, R1⟩
    have H1 := hide R1
    clear R1 C1 d0 d1 d2 d3
    go_wp2_with fail
    go_loopw [19] (fun x wr => ∃ (i : Nat) (m' : Md) (a' : Nat) (C' F' X' : Value) (V' : Nat → List Value), x = .int .i64 (i : Int) ∧ Hid (i ≤ n) ∧ Hid (RdM w0 J wr gr vb (.slice bo e bc) a' C' F' X' m' V') ∧ Hid (Lk i m') ∧ Hid (rdN rd (n - i) m' a' = R)) (fun x _ => n - (intOf x).toNat)
    case atStart => exact ⟨0, m, a1, C, F, X, V, rfl, hide (by omega), H1, HL0, HRR⟩
    case round =>
      clear H1
      obtain ⟨i, m', a', C', F', X', V', rfl, HI, HM, HLk, HN⟩ := hrel
      by_cases hlt : i < n
      · have j1 : (i : Int) < (n : Int) := by omega
        have HI1 : Hid (i + 1 ≤ n) := hide (by omega)
        have CR := hide ((unhide HRD).call J i m' a' C' F' X' V' wr (by omega) (unhide HLk) (unhide HM))
        obtain ⟨d0, d1, d2, d3⟩ := row_cell4 ((unhide HM).side g _ (unhide HJ).1).1
        have hN := unhide HN
        rw [show n - i = (n - (i + 1)) + 1 by omega, rdN] at hN
        cases h2 : rd m' a' with
        | error p =>
          rw [h2] at CR hN
          have k1 := (unhide HRD).code _ _ _ h2
          obtain ⟨pc, pp⟩ := p
          dsimp only at k1 hN
          have HR' := hide hN.symm
          clear hN h2
          go_wp2_with fail
          refine (unhide CR).mono ?_
          rintro e2 u2 ⟨rfl, R2⟩
          have H2 := hide R2
          clear R2 CR d0 d1 d2 d3
          dsimp only
          go_wp2_with fail
          go_ret
          rw [unhide HR']
          unfold rdEnd
          obtain ⟨C2, F2, X2, m2, V2, R2⟩ := unhide H2
          exact ⟨rfl, _, _, _, _, _, R2.less (unhide HJ).2⟩
        | ok r2 =>
          obtain ⟨m2, a2⟩ := r2
          rw [h2] at CR hN
          dsimp only at hN
          have HN2 := hide hN
          have HL2 := hide ((unhide HRD).next i m' a' m2 a2 (unhide HLk) h2)
          clear hN h2
          go_wp2_with fail
          refine (unhide CR).mono ?_
          rintro e2 u2 ⟨rfl, C2, F2, X2, V2, R2⟩
          have H2 := hide R2
          clear R2 CR d0 d1 d2 d3
          go_wp2_with fail
          go_roundw
          case rel => exact ⟨i + 1, m2, a2, C2, F2, X2, V2, by go_num, HI1, H2, HL2, HN2⟩
          case measure => have := unhide HI1; simp [intOf]; omega
      · have j1 : ¬ (i : Int) < (n : Int) := by omega
        have hN := unhide HN
        rw [show n - i = 0 by omega, rdN] at hN
        obtain ⟨c0, c1, c2, c3, c4, c5⟩ := row_cells6 (unhide HM).box
        have HR' := hide hN.symm
        clear hN
        by_cases hae : a' < e
        · have j2 : (a' : Int) < (e : Int) := by omega
          go_upto_region 10 with fail
          go_quiet (fail)
          go_wp2_with fail
          go_ret
          rw [unhide HR']
          unfold rdEnd
          dsimp only
          rw [if_pos (by omega)]
          exact ⟨rfl, _, _, _, _, _, ((unhide HM).drew _).less (unhide HJ).2⟩
        · have j2 : ¬ (a' : Int) < (e : Int) := by omega
          go_upto_region 10 with fail
          go_quiet (fail)
          go_wp2_with fail
          go_ret
          rw [unhide HR']
          unfold rdEnd
          dsimp only
          rw [if_neg (by omega)]
          exact ⟨rfl, _, _, _, _, ((unhide HM).drew _).less (unhide HJ).2⟩
set_option maxRecDepth 100000 in
set_option maxHeartbeats 2000000 in
theorem parts1_any (w0 : World) (I : Nat → Obj → Prop) (gr : Nat) (vb : Value) (bo : Option Addr) (e bc : Nat) (a : Nat) (C F X : Value) (m : Md) (V : Nat → List Value) (bs : List Int) (most : Int) (f1 f2 : Nat) (rd : Md → Nat → Except (Int × Int) (Md × Nat)) (Lk : Nat → Md → Prop) (w : World) (h : RdM w0 I w gr vb (.slice bo e bc) a C F X m V) (hy : Row8 w0 bo e bc bs) (hg : w0.heap.size ≤ gr) (hm : bc ≤ maxLen) (hmost : 0 ≤ most ∧ most ≤ 100) (hl0 : Lk 0 m) (hR : RdAt w0 gr vb (.slice bo e bc) 38 rd Lk) :
    Calls Try.prog 23 #[.pointer (some ⟨gr, 0, none⟩), .agg #[.int .i64 most, .func (.func f1) #[] #[], .func (.func f2) #[] #[], .func (.func 38) #[] #[]]] w fun e' w' => ResRd w0 I gr vb (.slice bo e bc) (rdP bs most rd m a) e' w' := by
  obtain ⟨g, hgg⟩ : ∃ g, w.heap.size = g := ⟨_, rfl⟩
  have G1 := h.guard #[.int .i64 most, .func (.func f1) #[] #[], .func (.func f2) #[] #[], .func (.func 38) #[] #[]] 67
  obtain ⟨w1, hw1⟩ : ∃ w1, w.alloc (.cells #[.int .i64 most, .func (.func f1) #[] #[], .func (.func f2) #[] #[], .func (.func 38) #[] #[]] 67) = w1 := ⟨_, rfl⟩
  rw [hw1, hgg] at G1
  obtain ⟨J, hJ⟩ : ∃ J, IAnd I g (.cells #[.int .i64 most, .func (.func f1) #[] #[], .func (.func f2) #[] #[], .func (.func 38) #[] #[]] 67 (0, 0)) = J := ⟨_, rfl⟩
  have HJ : Hid (J g (.cells #[.int .i64 most, .func (.func f1) #[] #[], .func (.func f2) #[] #[], .func (.func 38) #[] #[]] 67 (0, 0)) ∧ ∀ b c, I b c → J b c) := hide (by rw [← hJ]; exact ⟨Or.inr ⟨rfl, rfl⟩, fun b c hb => Or.inl hb⟩)
  rw [hJ] at G1
  clear hJ
  obtain ⟨d0, d1, d2, d3⟩ := row_cell4 (G1.side g _ (unhide HJ).1).1
  have C1 := hide (number_any w0 J gr vb bo e bc a C F X m V bs most 92 w1 G1 hy hg hm (by omega))
  have HY := hide hy
  have HRD := hide hR
  have HL0 := hide hl0
  have hlen := hy.length
  clear h hy G1 hR hl0
  unfold rdP
  cases h1 : rdNo bs a most 92 with
  | error c =>
    rw [h1] at C1
    have k1 : ¬ c = 0 := by have := no_code h1; omega
    clear h1
    go_enter Try.func23, Try.ntmps23
    go_wp2_with fail
    refine (unhide C1).mono ?_
    rintro e1 u1 ⟨rfl, R1⟩
    have H1 := hide R1
    clear R1 C1 d0 d1 d2 d3
    go_wp2_with fail
    go_ret
    exact ⟨rfl, _, _, _, _, _, (unhide H1).less (unhide HJ).2⟩
  | ok r1 =>
    obtain ⟨nI, a1⟩ := r1
    rw [h1] at C1
    obtain ⟨n, rfl, hn100⟩ : ∃ n : Nat, nI = (n : Int) ∧ n ≤ 100 := by
      unfold rdNo at h1
      split at h1
      · cases h1
      · rename_i h0
        split at h1
        · cases h1
        · rename_i h2
          simp only [Except.ok.injEq, Prod.mk.injEq] at h1
          have e0 : uintAt bs (a : Int) = ((uintAt bs (a : Int)).1, (uintAt bs (a : Int)).2.1, 0) := by
            have : (uintAt bs (a : Int)).2.2 = 0 := by simpa using h0
            rw [← this]
          have := (uint_nat (unhide HY).small e0).1
          exact ⟨nI.toNat, by omega, by omega⟩
    dsimp only
    rw [Int.toNat_natCast]
    obtain ⟨R, hRR⟩ : ∃ R, rdN rd n m a1 = R := ⟨_, rfl⟩
    rw [hRR]
    change Calls _ _ _ _ fun e' w' => ResRd w0 I gr vb (.slice bo e bc) (rdEnd bs R) e' w'
    clear h1
    have HRR := hide hRR
    clear hRR
    go_enter Try.func23, Try.ntmps23
    go_wp2_with fail
    refine (unhide C1).mono ?_
    rintro e1 u1 ⟨rfl, R1⟩
    have H1 := hide R1
    clear R1 C1 d0 d1 d2 d3
    go_wp2_with fail
    go_loopw [19] (fun x wr => ∃ (i : Nat) (m' : Md) (a' : Nat) (C' F' X' : Value) (V' : Nat → List Value), x = .int .i64 (i : Int) ∧ Hid (i ≤ n) ∧ Hid (RdM w0 J wr gr vb (.slice bo e bc) a' C' F' X' m' V') ∧ Hid (Lk i m') ∧ Hid (rdN rd (n - i) m' a' = R)) (fun x _ => n - (intOf x).toNat)
    case atStart => exact ⟨0, m, a1, C, F, X, V, rfl, hide (by omega), H1, HL0, HRR⟩
    case round =>
      clear H1
      obtain ⟨i, m', a', C', F', X', V', rfl, HI, HM, HLk, HN⟩ := hrel
      by_cases hlt : i < n
      · have j1 : (i : Int) < (n : Int) := by omega
        have HI1 : Hid (i + 1 ≤ n) := hide (by omega)
        have CR := hide ((unhide HRD).call J i m' a' C' F' X' V' wr (by omega) (unhide HLk) (unhide HM))
        obtain ⟨d0, d1, d2, d3⟩ := row_cell4 ((unhide HM).side g _ (unhide HJ).1).1
        have hN := unhide HN
        rw [show n - i = (n - (i + 1)) + 1 by omega, rdN] at hN
        cases h2 : rd m' a' with
        | error p =>
          rw [h2] at CR hN
          have k1 := (unhide HRD).code _ _ _ h2
          obtain ⟨pc, pp⟩ := p
          dsimp only at k1 hN
          have HR' := hide hN.symm
          clear hN h2
          go_wp2_with fail
          refine (unhide CR).mono ?_
          rintro e2 u2 ⟨rfl, R2⟩
          have H2 := hide R2
          clear R2 CR d0 d1 d2 d3
          dsimp only
          go_wp2_with fail
          go_ret
          rw [unhide HR']
          unfold rdEnd
          obtain ⟨C2, F2, X2, m2, V2, R2⟩ := unhide H2
          exact ⟨rfl, _, _, _, _, _, R2.less (unhide HJ).2⟩
        | ok r2 =>
          obtain ⟨m2, a2⟩ := r2
          rw [h2] at CR hN
          dsimp only at hN
          have HN2 := hide hN
          have HL2 := hide ((unhide HRD).next i m' a' m2 a2 (unhide HLk) h2)
          clear hN h2
          go_wp2_with fail
          refine (unhide CR).mono ?_
          rintro e2 u2 ⟨rfl, C2, F2, X2, V2, R2⟩
          have H2 := hide R2
          clear R2 CR d0 d1 d2 d3
          go_wp2_with fail
          go_roundw
          case rel => exact ⟨i + 1, m2, a2, C2, F2, X2, V2, by go_num, HI1, H2, HL2, HN2⟩
          case measure => have := unhide HI1; simp [intOf]; omega
      · have j1 : ¬ (i : Int) < (n : Int) := by omega
        have hN := unhide HN
        rw [show n - i = 0 by omega, rdN] at hN
        obtain ⟨c0, c1, c2, c3, c4, c5⟩ := row_cells6 (unhide HM).box
        have HR' := hide hN.symm
        clear hN
        by_cases hae : a' < e
        · have j2 : (a' : Int) < (e : Int) := by omega
          go_upto_region 10 with fail
          go_quiet (fail)
          go_wp2_with fail
          go_ret
          rw [unhide HR']
          unfold rdEnd
          dsimp only
          rw [if_pos (by omega)]
          exact ⟨rfl, _, _, _, _, _, ((unhide HM).drew _).less (unhide HJ).2⟩
        · have j2 : ¬ (a' : Int) < (e : Int) := by omega
          go_upto_region 10 with fail
          go_quiet (fail)
          go_wp2_with fail
          go_ret
          rw [unhide HR']
          unfold rdEnd
          dsimp only
          rw [if_neg (by omega)]
          exact ⟨rfl, _, _, _, _, ((unhide HM).drew _).less (unhide HJ).2⟩
set_option maxRecDepth 100000 in
set_option maxHeartbeats 2000000 in
theorem parts2_any (w0 : World) (I : Nat → Obj → Prop) (gr : Nat) (vb : Value) (bo : Option Addr) (e bc : Nat) (a : Nat) (C F X : Value) (m : Md) (V : Nat → List Value) (bs : List Int) (most : Int) (f1 f2 : Nat) (rd : Md → Nat → Except (Int × Int) (Md × Nat)) (Lk : Nat → Md → Prop) (w : World) (h : RdM w0 I w gr vb (.slice bo e bc) a C F X m V) (hy : Row8 w0 bo e bc bs) (hg : w0.heap.size ≤ gr) (hm : bc ≤ maxLen) (hmost : 0 ≤ most ∧ most ≤ 100) (hl0 : Lk 0 m) (hR : RdAt w0 gr vb (.slice bo e bc) 41 rd Lk) :
    Calls Try.prog 23 #[.pointer (some ⟨gr, 0, none⟩), .agg #[.int .i64 most, .func (.func f1) #[] #[], .func (.func f2) #[] #[], .func (.func 41) #[] #[]]] w fun e' w' => ResRd w0 I gr vb (.slice bo e bc) (rdP bs most rd m a) e' w' := by
  obtain ⟨g, hgg⟩ : ∃ g, w.heap.size = g := ⟨_, rfl⟩
  have G1 := h.guard #[.int .i64 most, .func (.func f1) #[] #[], .func (.func f2) #[] #[], .func (.func 41) #[] #[]] 67
  obtain ⟨w1, hw1⟩ : ∃ w1, w.alloc (.cells #[.int .i64 most, .func (.func f1) #[] #[], .func (.func f2) #[] #[], .func (.func 41) #[] #[]] 67) = w1 := ⟨_, rfl⟩
  rw [hw1, hgg] at G1
  obtain ⟨J, hJ⟩ : ∃ J, IAnd I g (.cells #[.int .i64 most, .func (.func f1) #[] #[], .func (.func f2) #[] #[], .func (.func 41) #[] #[]] 67 (0, 0)) = J := ⟨_, rfl⟩
  have HJ : Hid (J g (.cells #[.int .i64 most, .func (.func f1) #[] #[], .func (.func f2) #[] #[], .func (.func 41) #[] #[]] 67 (0, 0)) ∧ ∀ b c, I b c → J b c) := hide (by rw [← hJ]; exact ⟨Or.inr ⟨rfl, rfl⟩, fun b c hb => Or.inl hb⟩)
  rw [hJ] at G1
  clear hJ
  obtain ⟨d0, d1, d2, d3⟩ := row_cell4 (G1.side g _ (unhide HJ).1).1
  have C1 := hide (number_any w0 J gr vb bo e bc a C F X m V bs most 92 w1 G1 hy hg hm (by omega))
  have HY := hide hy
  have HRD := hide hR
  have HL0 := hide hl0
  have hlen := hy.length
  clear h hy G1 hR hl0
  unfold rdP
  cases h1 : rdNo bs a most 92 with
  | error c =>
    rw [h1] at C1
    have k1 : ¬ c = 0 := by have := no_code h1; omega
    clear h1
    go_enter Try.func23, Try.ntmps23
    go_wp2_with fail
    refine (unhide C1).mono ?_
    rintro e1 u1 ⟨rfl, R1⟩
    have H1 := hide R1
    clear R1 C1 d0 d1 d2 d3
    go_wp2_with fail
    go_ret
    exact ⟨rfl, _, _, _, _, _, (unhide H1).less (unhide HJ).2⟩
  | ok r1 =>
    obtain ⟨nI, a1⟩ := r1
    rw [h1] at C1
    obtain ⟨n, rfl, hn100⟩ : ∃ n : Nat, nI = (n : Int) ∧ n ≤ 100 := by
      unfold rdNo at h1
      split at h1
      · cases h1
      · rename_i h0
        split at h1
        · cases h1
        · rename_i h2
          simp only [Except.ok.injEq, Prod.mk.injEq] at h1
          have e0 : uintAt bs (a : Int) = ((uintAt bs (a : Int)).1, (uintAt bs (a : Int)).2.1, 0) := by
            have : (uintAt bs (a : Int)).2.2 = 0 := by simpa using h0
            rw [← this]
          have := (uint_nat (unhide HY).small e0).1
          exact ⟨nI.toNat, by omega, by omega⟩
    dsimp only
    rw [Int.toNat_natCast]
    obtain ⟨R, hRR⟩ : ∃ R, rdN rd n m a1 = R := ⟨_, rfl⟩
    rw [hRR]
    change Calls _ _ _ _ fun e' w' => ResRd w0 I gr vb (.slice bo e bc) (rdEnd bs R) e' w'
    clear h1
    have HRR := hide hRR
    clear hRR
    go_enter Try.func23, Try.ntmps23
    go_wp2_with fail
    refine (unhide C1).mono ?_
    rintro e1 u1 ⟨rfl, R1⟩
    have H1 := hide R1
    clear R1 C1 d0 d1 d2 d3
    go_wp2_with fail
    go_loopw [19] (fun x wr => ∃ (i : Nat) (m' : Md) (a' : Nat) (C' F' X' : Value) (V' : Nat → List Value), x = .int .i64 (i : Int) ∧ Hid (i ≤ n) ∧ Hid (RdM w0 J wr gr vb (.slice bo e bc) a' C' F' X' m' V') ∧ Hid (Lk i m') ∧ Hid (rdN rd (n - i) m' a' = R)) (fun x _ => n - (intOf x).toNat)
    case atStart => exact ⟨0, m, a1, C, F, X, V, rfl, hide (by omega), H1, HL0, HRR⟩
    case round =>
      clear H1
      obtain ⟨i, m', a', C', F', X', V', rfl, HI, HM, HLk, HN⟩ := hrel
      by_cases hlt : i < n
      · have j1 : (i : Int) < (n : Int) := by omega
        have HI1 : Hid (i + 1 ≤ n) := hide (by omega)
        have CR := hide ((unhide HRD).call J i m' a' C' F' X' V' wr (by omega) (unhide HLk) (unhide HM))
        obtain ⟨d0, d1, d2, d3⟩ := row_cell4 ((unhide HM).side g _ (unhide HJ).1).1
        have hN := unhide HN
        rw [show n - i = (n - (i + 1)) + 1 by omega, rdN] at hN
        cases h2 : rd m' a' with
        | error p =>
          rw [h2] at CR hN
          have k1 := (unhide HRD).code _ _ _ h2
          obtain ⟨pc, pp⟩ := p
          dsimp only at k1 hN
          have HR' := hide hN.symm
          clear hN h2
          go_wp2_with fail
          refine (unhide CR).mono ?_
          rintro e2 u2 ⟨rfl, R2⟩
          have H2 := hide R2
          clear R2 CR d0 d1 d2 d3
          dsimp only
          go_wp2_with fail
          go_ret
          rw [unhide HR']
          unfold rdEnd
          obtain ⟨C2, F2, X2, m2, V2, R2⟩ := unhide H2
          exact ⟨rfl, _, _, _, _, _, R2.less (unhide HJ).2⟩
        | ok r2 =>
          obtain ⟨m2, a2⟩ := r2
          rw [h2] at CR hN
          dsimp only at hN
          have HN2 := hide hN
          have HL2 := hide ((unhide HRD).next i m' a' m2 a2 (unhide HLk) h2)
          clear hN h2
          go_wp2_with fail
          refine (unhide CR).mono ?_
          rintro e2 u2 ⟨rfl, C2, F2, X2, V2, R2⟩
          have H2 := hide R2
          clear R2 CR d0 d1 d2 d3
          go_wp2_with fail
          go_roundw
          case rel => exact ⟨i + 1, m2, a2, C2, F2, X2, V2, by go_num, HI1, H2, HL2, HN2⟩
          case measure => have := unhide HI1; simp [intOf]; omega
      · have j1 : ¬ (i : Int) < (n : Int) := by omega
        have hN := unhide HN
        rw [show n - i = 0 by omega, rdN] at hN
        obtain ⟨c0, c1, c2, c3, c4, c5⟩ := row_cells6 (unhide HM).box
        have HR' := hide hN.symm
        clear hN
        by_cases hae : a' < e
        · have j2 : (a' : Int) < (e : Int) := by omega
          go_upto_region 10 with fail
          go_quiet (fail)
          go_wp2_with fail
          go_ret
          rw [unhide HR']
          unfold rdEnd
          dsimp only
          rw [if_pos (by omega)]
          exact ⟨rfl, _, _, _, _, _, ((unhide HM).drew _).less (unhide HJ).2⟩
        · have j2 : ¬ (a' : Int) < (e : Int) := by omega
          go_upto_region 10 with fail
          go_quiet (fail)
          go_wp2_with fail
          go_ret
          rw [unhide HR']
          unfold rdEnd
          dsimp only
          rw [if_neg (by omega)]
          exact ⟨rfl, _, _, _, _, ((unhide HM).drew _).less (unhide HJ).2⟩
end Go.Proofs.Ytfdnhpmldnmncaa

namespace Go.Proofs.Ytfdnhpmldnmncaa
open Go.RowKit

def ResO (w0 : World) (I : Nat → Obj → Prop) (gr : Nat) (ao : Option Addr) (len cap : Nat) (vy : Value) (C F X : Value) (m : Md) (V : Nat → List Value) (r : Except Int (Nat × Nat)) (e' : Ending) (w' : World) : Prop :=
  match r with
  | .error p => e' = .returned (.int .i64 91) ∧ RdM w0 I w' gr (.slice ao len cap) vy p C F X m V
  | .ok (b, e) => e' = .returned (.int .i64 0) ∧ RdM w0 I w' gr (.slice ao len cap) (.slice ao e cap) (b : Int) C F X m V

theorem RdM.setY {w0 w : World} {I : Nat → Obj → Prop} {gr : Nat} {vb vy : Value} {a : Int} {C F X : Value} {m : Md} {V : Nat → List Value} (h : RdM w0 I w gr vb vy a C F X m V) (a' : Int) (v : Value) : RdM w0 I ((w.setCell ⟨gr, 2, none⟩ (.int .i64 a')).setCell ⟨gr, 1, none⟩ v) gr vb v a' C F X m V :=
  h.to (fun b _ hn => by rw [heap_setCell_other _ _ _ _ (by simpa using hn), heap_setCell_other _ _ _ _ (by simpa using hn)]) (by simp) (by rw [heap_setCell_same _ gr 1 _ _ _ (heap_setCell_same w gr 2 _ _ _ h.box)]; rfl) (((Below.refl _ _).setCell (p := ⟨gr, 2, none⟩) (Nat.le_refl _) _).setCell (p := ⟨gr, 1, none⟩) (Nat.le_refl _) _)

set_option maxRecDepth 100000 in
set_option maxHeartbeats 2000000 in
theorem open_any (w0 : World) (I : Nat → Obj → Prop) (gr : Nat) (ao : Option Addr) (len cap : Nat) (vy : Value) (a : Nat) (C F X : Value) (m : Md) (V : Nat → List Value) (zs : List Int) (no : Int) (w : World) (h : RdM w0 I w gr (.slice ao len cap) vy a C F X m V) (hz : Row8 w0 ao len cap zs) (hg : w0.heap.size ≤ gr) (hm : cap ≤ maxLen) (hlen : len ≤ 65536) (ha : a ≤ len) :
    Calls Try.prog 21 #[.pointer (some ⟨gr, 0, none⟩), .int .u8 no] w fun e' w' => ResO w0 I gr ao len cap vy C F X m V (rdO zs no a) e' w' := by
  obtain ⟨c0, c1, c2, c3, c4, c5⟩ := row_cells6 h.box
  have fz := frozen_of_row w gr 2 _ _ h.box
  have HH := hide h
  have hl := hz.length
  have hle := hz.le
  have hw := h.bytes hz hg
  by_cases hend : a = len
  · have hO : rdO zs no a = .error (a : Int) := by unfold rdO; rw [if_pos]; rw [List.getElem?_eq_none (by omega)]; simp
    rw [hO]
    have k1 : ((a : Int) == (len : Int)) = true := beq_iff_eq.2 (by omega)
    subst hend
    clear hO h hz hw
    go_enter Try.func21, Try.ntmps21
    go_upto_region 1 with fail
    go_quiet (fail)
    go_wp2_with fail
    go_ret
    exact ⟨rfl, (unhide HH).drew _⟩
  have hlt : a < len := by omega
  have k1 : ((a : Int) == (len : Int)) = false := beq_eq_false_iff_ne.2 (by omega)
  have k2 : ¬ (a : Int) = (len : Int) := by omega
  have i1 : (a : Int) < (len : Int) := by omega
  obtain ⟨b, off, rfl, hc⟩ := hw.at (by omega)
  have ca := hc a hlt
  obtain ⟨x, hx⟩ : ∃ x, zs[a]? = some x := ⟨_, List.getElem?_eq_getElem (by omega)⟩
  have hgd : zs.getD a 0 = x := by rw [List.getD_eq_getElem?_getD, hx]; rfl
  rw [hgd] at ca
  clear hgd hc hw
  by_cases hno : x = no
  case neg =>
    have hO : rdO zs no a = .error (a : Int) := by unfold rdO; rw [if_pos]; rw [hx]; simpa using hno
    rw [hO]
    have k3 : (x == no) = false := beq_eq_false_iff_ne.2 hno
    clear hO h hz
    go_enter Try.func21, Try.ntmps21
    go_upto_region 1 with fail
    go_quiet (fail)
    go_wp2_with fail
    go_ret
    exact ⟨rfl, (unhide HH).drew _⟩
  subst hno
  have wa : IntKind.i64.wrap ((a : Int) + 1) = (a : Int) + 1 := by rw [IntKind.wrap_i64]; omega
  have CI := hide (fun u (hu : RdM w0 I u gr (.slice (some ⟨b, off, none⟩) len cap) vy ((a : Int) + 1) C F X m V) => uint_any (some ⟨b, off, none⟩) len cap ((a : Int) + 1) zs u (hu.bytes hz hg) hm)
  have hsm := hz.small
  have hx2 := uint_max zs ((a : Int) + 1) hsm
  have hform : (uintAt zs ((a : Int) + 1)).2.2 = 0 → 0 ≤ (uintAt zs ((a : Int) + 1)).1 ∧ 0 ≤ (uintAt zs ((a : Int) + 1)).2.1 ∧ (uintAt zs ((a : Int) + 1)).2.1 ≤ (len : Int) := fun h0 => by
    obtain ⟨q, k, h1, h2, h3, h4, h5, h6, h7⟩ := uint_form zs ((a : Int) + 1) hsm h0
    have e0 : uintAt zs ((a : Int) + 1) = ((uintAt zs ((a : Int) + 1)).1, (uintAt zs ((a : Int) + 1)).2.1, 0) := by rw [← h0]
    have h8 := uint_nat hsm e0
    refine ⟨h8.1, h8.2, ?_⟩
    omega
  have hO : rdO zs x a = if (uintAt zs ((a : Int) + 1)).2.2 ≠ 0 ∨ (zs.length : Int) - (uintAt zs ((a : Int) + 1)).2.1 < (uintAt zs ((a : Int) + 1)).1 then .error ((a : Int) + 1)
    else .ok ((uintAt zs ((a : Int) + 1)).2.1.toNat, ((uintAt zs ((a : Int) + 1)).2.1 + (uintAt zs ((a : Int) + 1)).1).toNat) := by
    unfold rdO
    rw [if_neg (by rw [hx]; simp)]
  rw [hO, hl]
  clear hO h hz hx
  generalize uintAt zs ((a : Int) + 1) = r at *
  obtain ⟨sz, nx, er⟩ := r
  dsimp only at *
  by_cases he : er ≠ 0
  · have k4 : ¬ er = 0 := he
    rw [if_pos (Or.inl he)]
    go_enter Try.func21, Try.ntmps21
    go_upto_region 1 with fail
    go_quiet (fail)
    go_upto_region 4 with fail
    have R4 := ((unhide HH).drew nq).setAt ((a : Int) + 1)
    obtain ⟨u4, hu4⟩ : ∃ u4, (w.drewN nq).setCell ⟨gr, 2, none⟩ (.int .i64 ((a : Int) + 1)) = u4 := ⟨_, rfl⟩
    rw [hu4] at R4 ⊢
    obtain ⟨d0, d1, d2, d3, d4, d5⟩ := row_cells6 R4.box
    have CI4 := fun q => hide (unhide CI (u4.drewN q) (R4.drew q))
    have H4 := hide R4
    clear R4 hu4 CI c0 c1 c2 c3 c4 c5 fz ca
    go_quiet ((go_at_call 42; exact Calls.quiet_of_same (unhide (CI4 _))))
    have R5 := fun q => (unhide H4).drew q
    go_wp2_with fail
    go_ret
    exact ⟨rfl, R5 _⟩
  · have e0 : er = 0 := by simpa using he
    subst e0
    obtain ⟨f1, f2, f3⟩ := hform rfl
    have w1 : IntKind.i64.wrap ((len : Int) - nx) = (len : Int) - nx := by rw [IntKind.wrap_i64]; omega
    have w2 : IntKind.u64.wrap ((len : Int) - nx) = (len : Int) - nx := by rw [IntKind.wrap_u64]; omega
    clear he hform
    by_cases hbig : (len : Int) - nx < sz
    · rw [if_pos (Or.inr hbig)]
      go_enter Try.func21, Try.ntmps21
      go_upto_region 1 with fail
      go_quiet (fail)
      go_upto_region 4 with fail
      have R4 := ((unhide HH).drew nq).setAt ((a : Int) + 1)
      obtain ⟨u4, hu4⟩ : ∃ u4, (w.drewN nq).setCell ⟨gr, 2, none⟩ (.int .i64 ((a : Int) + 1)) = u4 := ⟨_, rfl⟩
      rw [hu4] at R4 ⊢
      obtain ⟨d0, d1, d2, d3, d4, d5⟩ := row_cells6 R4.box
      have CI4 := fun q => hide (unhide CI (u4.drewN q) (R4.drew q))
      have H4 := hide R4
      clear R4 hu4 CI c0 c1 c2 c3 c4 c5 fz ca
      go_quiet ((go_at_call 42; exact Calls.quiet_of_same (unhide (CI4 _))))
      have R5 := fun q => (unhide H4).drew q
      obtain ⟨u5, hu5⟩ : ∃ u5, u4.drewN nq = u5 := ⟨_, rfl⟩
      have R5' := R5 nq
      rw [hu5] at R5' ⊢
      obtain ⟨g0, g1, g2, g3, g4, g5⟩ := row_cells6 R5'.box
      have H5 := hide R5'
      clear R5 R5' hu5 CI4 d0 d1 d2 d3 d4 d5
      go_wp2_with fail
      go_ret
      exact ⟨rfl, unhide H5⟩
    · rw [if_neg (by omega)]
      obtain ⟨N, rfl⟩ : ∃ N : Nat, nx = (N : Int) := ⟨nx.toNat, by omega⟩
      obtain ⟨S, rfl⟩ : ∃ S : Nat, sz = (S : Int) := ⟨sz.toNat, by omega⟩
      have w3 : IntKind.i64.wrap (S : Int) = (S : Int) := by rw [IntKind.wrap_i64]; omega
      have w4 : IntKind.i64.wrap ((N : Int) + (S : Int)) = (N : Int) + (S : Int) := by rw [IntKind.wrap_i64]; omega
      have w5 : (N : Int) + (S : Int) ≤ (cap : Int) := by omega
      have w6 : 0 ≤ (N : Int) + (S : Int) := by omega
      have HNS : Hid ((((N : Int) + (S : Int)).toNat) = N + S) := hide (by omega)
      rw [Int.toNat_natCast, unhide HNS]
      go_enter Try.func21, Try.ntmps21
      go_upto_region 1 with fail
      go_quiet (fail)
      go_upto_region 4 with fail
      have R4 := ((unhide HH).drew nq).setAt ((a : Int) + 1)
      obtain ⟨u4, hu4⟩ : ∃ u4, (w.drewN nq).setCell ⟨gr, 2, none⟩ (.int .i64 ((a : Int) + 1)) = u4 := ⟨_, rfl⟩
      rw [hu4] at R4 ⊢
      obtain ⟨d0, d1, d2, d3, d4, d5⟩ := row_cells6 R4.box
      have CI4 := fun q => hide (unhide CI (u4.drewN q) (R4.drew q))
      have H4 := hide R4
      clear R4 hu4 CI c0 c1 c2 c3 c4 c5 fz ca
      go_quiet ((go_at_call 42; exact Calls.quiet_of_same (unhide (CI4 _))))
      have R5 := fun q => (unhide H4).drew q
      obtain ⟨u5, hu5⟩ : ∃ u5, u4.drewN nq = u5 := ⟨_, rfl⟩
      have R5' := R5 nq
      rw [hu5] at R5' ⊢
      obtain ⟨g0, g1, g2, g3, g4, g5⟩ := row_cells6 R5'.box
      have H5 := hide R5'
      clear R5 R5' hu5 CI4 d0 d1 d2 d3 d4 d5
      have t2 := frozen_of_row u5 gr 2 _ _ (unhide H5).box
      have t1 := frozen_of_row u5 gr 1 _ _ (unhide H5).box
      go_upto_region 7 with fail
      go_region_held3 (fun u => u.cell? ⟨gr, 0, none⟩ = some (.slice (some ⟨b, off, none⟩) len cap)) (first | assumption | exact (row_cells6 ((unhide H5).setAt _).box).1 | exact (row_cells6 ((unhide H5).setY _ _).box).1 | exact (row_cells6 (unhide H5).box).1) (fail)
      have H9 := hide ((unhide H5).setY (N : Int) (.slice (some ⟨b, off, none⟩) (N + S) cap))
      go_wp2_with fail
      go_ret
      first
        | exact ⟨rfl, unhide H9⟩
        | exact ⟨rfl, (unhide H9).drew 1⟩
end Go.Proofs.Ytfdnhpmldnmncaa

namespace Go.Proofs.Ytfdnhpmldnmncaa
open Go.RowKit

theorem take_bound {zs : List Int} (hl : ∀ n ∈ zs, 0 ≤ n ∧ n ≤ 255) {p : Int} {v : Vl} {n : Nat} (h : takeR zs p = .ok (v, n)) :
    ∃ a : Nat, p = a ∧ ∃ t, rdV zs 8 a 0 = .ok (v, n, t) ∧ Snd zs 8 a 0 v n t := by
  unfold takeR at h
  split at h
  · cases h
  · rename_i hp
    cases hv : rdV zs 8 p.toNat 0 with
    | error q => rw [hv] at h; cases h
    | ok q =>
      obtain ⟨v', a', t⟩ := q
      rw [hv] at h
      cases h
      exact ⟨p.toNat, by omega, t, hv, rdV_sound hl 8 _ _ _ _ _ hv (by omega)⟩

theorem right_of_snd {zs : List Int} {a n t : Nat} {v : Vl} (SN : Snd zs 8 a 0 v n t) : rightB v = true := by
  unfold rightB
  rw [SN.ok]
  have h1 := SN.wt
  have h2 := SN.most
  simp
  omega

def In (zs : List Int) (p : Int × Int) : Prop := 0 ≤ p.2 ∧ p.2 ≤ (zs.length : Int)

theorem in_at {zs : List Int} {c : Int} {a : Nat} (h : a ≤ zs.length) : In zs (c, (a : Int)) := ⟨by dsimp only; omega, by dsimp only; omega⟩

theorem cnt_place {zs : List Int} {q a t k : Nat} {p : Int × Int} (ha : a ≤ zs.length) (hq : q ≤ zs.length) (h : rdCnt zs q a t k = .error p) : In zs p := by
  unfold rdCnt at h
  split at h
  · cases h; exact in_at ha
  · split at h
    · cases h; exact in_at hq
    · cases h

theorem key_place {zs : List Int} {l : Option ByteArray} {a t : Nat} {p : Int × Int} (ha : a ≤ zs.length) (h : rdKey zs l a t = .error p) : In zs p := by
  unfold rdKey at h
  split at h
  · cases h; exact in_at ha
  · split at h
    · cases h; exact in_at ha
    · split at h
      · cases h; exact in_at ha
      · cases h

def PlAt (zs : List Int) (f : Nat → Nat → Except (Int × Int) (Vl × Nat × Nat)) : Prop := ∀ a t p, a ≤ zs.length → t ≤ 2048 → f a t = .error p → In zs p

theorem arr_place {zs : List Int} {d : Nat} {f : Nat → Nat → Except (Int × Int) (Vl × Nat × Nat)} (hs : SndAt zs d f) (hf : PlAt zs f) : ∀ (n : Nat) (l : List Vl) (a t : Nat) (p : Int × Int), a ≤ zs.length → t ≤ 2048 → rdArr f n l a t = .error p → In zs p
  | 0, l, a, t, p, _, _, h => by simp only [rdArr] at h; cases h
  | n + 1, l, a, t, p, ha, ht, h => by
    simp only [rdArr] at h
    cases hv : f a t with
    | error e => rw [hv] at h; cases h; exact hf a t _ ha ht hv
    | ok q =>
      obtain ⟨v, a', t'⟩ := q
      rw [hv] at h
      have S := hs _ _ _ _ _ hv ht
      exact arr_place hs hf n _ a' t' p S.le S.most h

theorem rec_place {zs : List Int} (hl : ∀ n ∈ zs, 0 ≤ n ∧ n ≤ 255) {d : Nat} {f : Nat → Nat → Except (Int × Int) (Vl × Nat × Nat)} (hs : SndAt zs d f) (hf : PlAt zs f) : ∀ (n : Nat) (l : List Vl) (ks : List ByteArray) (a t : Nat) (p : Int × Int), a ≤ zs.length → t ≤ 2048 → rdRec zs f n l ks a t = .error p → In zs p
  | 0, l, ks, a, t, p, _, _, h => by simp only [rdRec] at h; cases h
  | n + 1, l, ks, a, t, p, ha, ht, h => by
    simp only [rdRec] at h
    cases hk : rdKey zs ks.getLast? a t with
    | error e => rw [hk] at h; cases h; exact key_place ha hk
    | ok q =>
      obtain ⟨s, a1, t1⟩ := q
      rw [hk] at h
      dsimp only at h
      obtain ⟨k1, k2, k3, k4, _⟩ := key_form hl hk
      cases hv : f a1 t1 with
      | error e => rw [hv] at h; cases h; exact hf a1 t1 _ k2 k4 hv
      | ok q =>
        obtain ⟨v, a', t'⟩ := q
        rw [hv] at h
        have S := hs _ _ _ _ _ hv k4
        exact rec_place hl hs hf n _ _ a' t' p S.le S.most h

theorem rdV_place {zs : List Int} (hl : ∀ n ∈ zs, 0 ≤ n ∧ n ≤ 255) : ∀ d, PlAt zs (rdV zs d)
  | 0, a, t, p, ha, ht, h => by
    simp only [rdV] at h
    split at h
    · cases h; exact in_at ha
    · split at h <;> cases h <;> exact in_at ha
  | d + 1, a, t, p, ha, ht, h => by
    simp only [rdV] at h
    split at h
    · cases h; exact in_at ha
    · rename_i c hc
      have ha1 : a + 1 ≤ zs.length := (List.getElem?_eq_some_iff.1 hc).1
      split at h
      · cases h; exact in_at ha
      split at h
      · cases h; exact in_at ha
      rename_i _ ht1
      split at h
      · cases h
      split at h
      · cases h
      split at h
      · unfold rdNum at h
        split at h
        · cases h; exact in_at ha1
        · cases h
      split at h
      · unfold rdTxt at h
        split at h
        · cases h; exact in_at ha
        · split at h
          · cases h; exact in_at ha1
          · cases h
      split at h
      · unfold rdAll at h
        cases hc : rdCnt zs a (a + 1) (t + 1) 1 with
        | error e => rw [hc] at h; cases h; exact cnt_place ha1 ha hc
        | ok q =>
          obtain ⟨n, a1⟩ := q
          rw [hc] at h
          dsimp only at h
          obtain ⟨c1, c2, _⟩ := cnt_form hl (by omega) (by omega) hc
          cases hr : rdArr (rdV zs d) n [] a1 (t + 1) with
          | error e => rw [hr] at h; cases h; exact arr_place (rdV_sound hl d) (rdV_place hl d) _ _ _ _ _ c2 (by omega) hr
          | ok q => rw [hr] at h; cases h
      split at h
      · unfold rdPairs at h
        cases hc : rdCnt zs a (a + 1) (t + 1) 2 with
        | error e => rw [hc] at h; cases h; exact cnt_place ha1 ha hc
        | ok q =>
          obtain ⟨n, a1⟩ := q
          rw [hc] at h
          dsimp only at h
          obtain ⟨c1, c2, _⟩ := cnt_form hl (by omega) (by omega) hc
          cases hr : rdRec zs (rdV zs d) n [] [] a1 (t + 1) with
          | error e => rw [hr] at h; cases h; exact rec_place hl (rdV_sound hl d) (rdV_place hl d) _ _ _ _ _ _ c2 (by omega) hr
          | ok q => rw [hr] at h; cases h
      · cases h

theorem takeR_place {zs : List Int} (hl : ∀ n ∈ zs, 0 ≤ n ∧ n ≤ 255) {p : Int} {q : Int × Int} (h : takeR zs p = .error q) : In zs q := by
  unfold takeR at h
  split at h
  · cases h; exact ⟨by omega, by omega⟩
  · cases hv : rdV zs 8 p.toNat 0 with
    | error e => rw [hv] at h; cases h; exact rdV_place hl 8 _ _ _ (by omega) (by omega) hv
    | ok e => rw [hv] at h; cases h
end Go.Proofs.Ytfdnhpmldnmncaa

namespace Go.Proofs.Ytfdnhpmldnmncaa
open Go.RowKit

theorem no_ok {bs : List Int} (hs : ∀ c ∈ bs, 0 ≤ c ∧ c ≤ 255) {a : Nat} {most above n : Int} {nx : Nat} (h : rdNo bs a most above = .ok (n, nx)) : 0 ≤ n ∧ n ≤ most ∧ a < nx ∧ nx ≤ bs.length ∧ encF 9 n = (bs.drop a).take (nx - a) := by
  unfold rdNo at h
  split at h
  · cases h
  · rename_i h0
    split at h
    · cases h
    · rename_i h1
      simp only [Except.ok.injEq, Prod.mk.injEq] at h
      obtain ⟨rfl, rfl⟩ := h
      obtain ⟨q, k, e1, e2, e3, e4, e5, e6, e7⟩ := uint_form bs (a : Int) hs (by simpa using h0)
      obtain rfl : a = q := by omega
      have e8 : (uintAt bs (a : Int)).2.1.toNat = a + k := by omega
      refine ⟨e7, by omega, by omega, by omega, ?_⟩
      rw [e6, e8, Nat.add_sub_cancel_left]

theorem tx_ok {bs : List Int} (hs : ∀ c ∈ bs, 0 ≤ c ∧ c ≤ 255) {a : Nat} {most : Int} {t : ByteArray} {nx : Nat} (h : rdTx bs a most = .ok (t, nx)) : (t.size : Int) ≤ most ∧ a ≤ nx ∧ nx ≤ bs.length ∧ encF 9 (t.size : Int) ++ nums t = (bs.drop a).take (nx - a) := by
  unfold rdTx at h
  split at h
  · cases h
  · split at h
    · cases h
    · rename_i h1
      simp only [Except.ok.injEq, Prod.mk.injEq] at h
      obtain ⟨rfl, rfl⟩ := h
      obtain ⟨b, b1, b2, b3, b4, b5⟩ := text_form bs most a hs (by simpa using h1)
      have e8 : (textOfU bs most (uintAt bs (a : Int))).2.1.toNat = b := by omega
      rw [e8]
      exact ⟨b4, b1, b2, b5⟩

theorem exs_snoc (nf : Nat) (x : Ex) : ∀ (p : ByteArray) (l : List Ex), exsB nf p (l ++ [x]) = (exsB nf p l && exB nf (match l.getLast? with | none => p | some y => y.1) x)
  | p, [] => by simp [exsB]
  | p, [y] => by simp [exsB]
  | p, y :: z :: r => by
    rw [List.cons_append, exsB, exs_snoc nf x y.1 (z :: r), exsB, List.getLast?_cons_cons, Bool.and_assoc]
    cases h : (z :: r).getLast? with
    | none => simp at h
    | some q => simp [exsB, Bool.and_assoc]

/-- what is known of a module that is being read -/
structure Ri (m : Md) : Prop where
  cs : ∀ v ∈ m.cs, rightB v = true ∧ fitB v = true
  fs : ∀ f ∈ m.fs, fnB f = true
  xs : exsB m.fs.length ⟨#[]⟩ m.xs = true

/-- what is known ahead of a part of a section -/
def Jk (i k : Nat) (m : Md) : Prop := Ri m ∧ ((i = 0 ∧ m.cs.length = k ∧ m.fs.length = 0 ∧ m.xs.length = 0) ∨ (i = 1 ∧ m.cs.length ≤ 100 ∧ m.fs.length = k ∧ m.xs.length = 0) ∨ (i = 2 ∧ m.cs.length ≤ 100 ∧ m.fs.length ≤ 24 ∧ m.xs.length = k))

theorem one_ok {bs : List Int} (hs : ∀ c ∈ bs, 0 ≤ c ∧ c ≤ 255) (i : Nat) (k : Nat) (m : Md) (a : Nat) (m' : Md) (a' : Nat) (hJ : Jk i k m) (_ha : a ≤ bs.length) (h : rdOne i bs m a = .ok (m', a')) :
    Jk i (k + 1) m' ∧ ∃ z, partsM m' i = partsM m i ++ [z] ∧ z = (bs.drop a).take (a' - a) ∧ a ≤ a' ∧ a' ≤ bs.length ∧ ∀ j, j ≠ i → j ≤ 2 → partsM m' j = partsM m j := by
  obtain ⟨R, hJ⟩ := hJ
  rcases hJ with ⟨rfl, j1, j2, j3⟩ | ⟨rfl, j1, j2, j3⟩ | ⟨rfl, j1, j2, j3⟩
  · unfold rdOne at h
    rw [if_pos rfl] at h
    unfold rdC at h
    cases hT : takeR bs (a : Int) with
    | error p => rw [hT] at h; cases h
    | ok q =>
      obtain ⟨v, n⟩ := q
      rw [hT] at h
      cases h
      obtain ⟨a0, h0, t, _, SN⟩ := take_bound hs hT
      obtain rfl : a = a0 := by omega
      refine ⟨⟨⟨fun x hx => ?_, R.fs, R.xs⟩, Or.inl ⟨rfl, by simp; omega, j2, j3⟩⟩, wenc v, by simp [partsM], SN.enc, by have := SN.lt; omega, SN.le, fun j hj hj2 => ?_⟩
      · rcases List.mem_append.1 hx with hx | hx
        · exact R.cs x hx
        · simp at hx; subst hx; exact ⟨right_of_snd SN, SN.fit⟩
      · unfold partsM; rw [if_neg hj]; rw [if_neg hj]
  · unfold rdOne at h
    rw [if_neg (by omega), if_pos rfl] at h
    unfold rdF at h
    cases h1 : rdNo bs a 8 92 with
    | error c => rw [h1] at h; cases h
    | ok r1 =>
      obtain ⟨p, a1⟩ := r1
      rw [h1] at h
      dsimp only at h
      obtain ⟨p0, p1, p2, p3, p4⟩ := no_ok hs h1
      cases h2 : rdNo bs a1 32 92 with
      | error c => rw [h2] at h; cases h
      | ok r2 =>
        obtain ⟨l, a2⟩ := r2
        rw [h2] at h
        dsimp only at h
        obtain ⟨l0, l1, l2, l3, l4⟩ := no_ok hs h2
        by_cases hlp : l < p
        · rw [if_pos hlp] at h; cases h
        rw [if_neg hlp] at h
        cases h3 : rdNo bs a2 40 92 with
        | error c => rw [h3] at h; cases h
        | ok r3 =>
          obtain ⟨s, a3⟩ := r3
          rw [h3] at h
          dsimp only at h
          obtain ⟨s0, s1, s2, s3, s4⟩ := no_ok hs h3
          cases h4 : rdTx bs a3 4000 with
          | error c => rw [h4] at h; cases h
          | ok r4 =>
            obtain ⟨t, a4⟩ := r4
            rw [h4] at h
            cases h
            obtain ⟨t0, t1, t2, t3⟩ := tx_ok hs h4
            refine ⟨⟨⟨R.cs, fun x hx => ?_, ?_⟩, Or.inr (Or.inl ⟨rfl, j1, by simp; omega, j3⟩)⟩, encFn (p, l, s, t), by simp [partsM], ?_, by omega, t2, fun j hj hj2 => ?_⟩
            · rcases List.mem_append.1 hx with hx | hx
              · exact R.fs x hx
              · simp at hx
                subst hx
                unfold fnB
                simp only [Bool.and_eq_true, decide_eq_true_eq]
                omega
            · have : m.xs = [] := List.eq_nil_of_length_eq_zero j3
              dsimp only
              rw [this]
              rfl
            · unfold encFn
              dsimp only
              rw [p4, l4, s4, t3, take_join _ _ _ _ (by omega) (by omega), take_join _ _ _ _ (by omega) (by omega), take_join _ _ _ _ (by omega) (by omega)]
            · unfold partsM
              by_cases h0 : j = 0
              · rw [if_pos h0, if_pos h0]
              · rw [if_neg h0, if_neg h0, if_neg hj, if_neg hj]
  · unfold rdOne at h
    rw [if_neg (by omega), if_neg (by omega)] at h
    unfold rdX at h
    cases h1 : rdTx bs a 20 with
    | error c => rw [h1] at h; cases h
    | ok r1 =>
      obtain ⟨t, a1⟩ := r1
      rw [h1] at h
      dsimp only at h
      obtain ⟨t0, t1, t2, t3⟩ := tx_ok hs h1
      by_cases hN : (nameB t && Op.bytesLess (lastN m).toList t.toList) = false
      · rw [if_pos hN] at h; cases h
      rw [if_neg hN] at h
      cases h2 : rdNo bs a1 ((m.fs.length : Int) - 1) 90 with
      | error c => rw [h2] at h; cases h
      | ok r2 =>
        obtain ⟨f, a2⟩ := r2
        rw [h2] at h
        cases h
        obtain ⟨f0, f1, f2, f3, f4⟩ := no_ok hs h2
        refine ⟨⟨⟨R.cs, R.fs, ?_⟩, Or.inr (Or.inr ⟨rfl, j1, j2, by simp; omega⟩)⟩, encEx (t, f), by simp [partsM], ?_, by omega, f3, fun j hj hj2 => ?_⟩
        · dsimp only
          rw [exs_snoc, R.xs]
          have hN' : nameB t = true ∧ Op.bytesLess (lastN m).toList t.toList = true := by simpa using hN
          unfold exB
          dsimp only
          have e : (match m.xs.getLast? with | none => (⟨#[]⟩ : ByteArray) | some y => y.1) = lastN m := rfl
          rw [e, hN'.1, hN'.2, decide_eq_true f0, decide_eq_true (show f < (m.fs.length : Int) by omega)]
          rfl
        · unfold encEx
          dsimp only
          rw [t3, f4, take_join _ _ _ _ (by omega) (by omega)]
        · unfold partsM
          by_cases h0 : j = 0
          · rw [if_pos h0, if_pos h0]
          · rw [if_neg h0, if_neg h0]
            by_cases h1 : j = 1
            · rw [if_pos h1, if_pos h1]
            · omega

theorem n_ok {bs : List Int} (hs : ∀ c ∈ bs, 0 ≤ c ∧ c ≤ 255) (i : Nat) : ∀ (n k : Nat) (m : Md) (a : Nat) (m' : Md) (a' : Nat), Jk i k m → a ≤ bs.length → rdN (rdOne i bs) n m a = .ok (m', a') →
    Jk i (k + n) m' ∧ ∃ L, partsM m' i = partsM m i ++ L ∧ L.length = n ∧ L.flatten = (bs.drop a).take (a' - a) ∧ a ≤ a' ∧ a' ≤ bs.length ∧ ∀ j, j ≠ i → j ≤ 2 → partsM m' j = partsM m j
  | 0, k, m, a, m', a', hJ, ha, h => by
    simp only [rdN] at h
    cases h
    exact ⟨hJ, [], by simp, rfl, by simp, Nat.le_refl _, ha, fun _ _ _ => rfl⟩
  | n + 1, k, m, a, m', a', hJ, ha, h => by
    simp only [rdN] at h
    cases h1 : rdOne i bs m a with
    | error e => rw [h1] at h; cases h
    | ok r =>
      obtain ⟨m1, a1⟩ := r
      rw [h1] at h
      obtain ⟨J1, z, z1, z2, z3, z4, z5⟩ := one_ok hs i k m a m1 a1 hJ ha h1
      obtain ⟨J2, L, l1, l2, l3, l4, l5, l6⟩ := n_ok hs i n (k + 1) m1 a1 m' a' J1 z4 h
      refine ⟨by rw [show k + (n + 1) = k + 1 + n by omega]; exact J2, z :: L, by rw [l1, z1]; simp, by simp [l2], ?_, by omega, l5, fun j hj hj2 => (l6 j hj hj2).trans (z5 j hj hj2)⟩
      rw [List.flatten_cons, l3, z2, take_join _ _ _ _ z3 l4]

/-- a section that was read -/
theorem s_ok {zs : List Int} (hs : ∀ c ∈ zs, 0 ≤ c ∧ c ≤ 255) (i : Nat) (hi : i ≤ 2) (m : Md) (a : Nat) (m' : Md) (a' : Nat) (hJ : Jk i 0 m) (h : rdS zs i m a = .ok (m', a')) :
    ∃ n : Nat, (n : Int) ≤ mostM i ∧ Jk i n m' ∧ secM i (partsM m' i) = (zs.drop a).take (a' - a) ∧ a ≤ a' ∧ a' ≤ zs.length ∧ ∀ j, j ≠ i → j ≤ 2 → partsM m' j = partsM m j := by
  unfold rdS rdO at h
  by_cases h0 : zs[a]? ≠ some ((i : Int) + 1)
  · rw [if_pos h0] at h; cases h
  rw [if_neg h0] at h
  have hz0 : zs[a]? = some ((i : Int) + 1) := by simpa using h0
  by_cases h1 : (uintAt zs ((a : Int) + 1)).2.2 ≠ 0 ∨ (zs.length : Int) - (uintAt zs ((a : Int) + 1)).2.1 < (uintAt zs ((a : Int) + 1)).1
  · rw [if_pos h1] at h; cases h
  rw [if_neg h1] at h
  dsimp only at h
  obtain ⟨q, kk, e1, e2, e3, e4, e5, e6, e7⟩ := uint_form zs ((a : Int) + 1) hs (by have := h1; simp at this; exact this.1)
  obtain rfl : q = a + 1 := by omega
  obtain ⟨S, hS⟩ : ∃ S : Nat, (uintAt zs ((a : Int) + 1)).1 = (S : Int) := ⟨_, (Int.toNat_of_nonneg e7).symm⟩
  rw [hS] at h e6 h1
  obtain ⟨b, hb⟩ : ∃ b, a + 1 + kk = b := ⟨_, rfl⟩
  rw [hb] at e5 e4
  rw [e5] at h h1
  rw [show ((b : Int)).toNat = b by omega, show ((b : Int) + (S : Int)).toNat = b + S by omega] at h
  have hle : b + S ≤ zs.length := by simp only [not_or, Int.not_lt] at h1; omega
  have hbl : (zs.take (b + S)).length = b + S := by rw [List.length_take]; omega
  have hbs : ∀ c ∈ zs.take (b + S), 0 ≤ c ∧ c ≤ 255 := fun c hc => hs c (List.mem_of_mem_take hc)
  unfold rdP at h
  cases h2 : rdNo (zs.take (b + S)) b (mostM i) 92 with
  | error c => rw [h2] at h; cases h
  | ok r2 =>
    obtain ⟨nI, a1⟩ := r2
    rw [h2] at h
    dsimp only at h
    obtain ⟨n0, n1, n2, n3, n4⟩ := no_ok hbs h2
    cases h3 : rdN (rdOne i (zs.take (b + S))) nI.toNat m a1 with
    | error e => rw [h3] at h; cases h
    | ok r3 =>
      obtain ⟨m2, a2⟩ := r3
      rw [h3] at h
      dsimp only at h
      by_cases h4 : a2 < (zs.take (b + S)).length
      · rw [if_pos h4] at h; cases h
      rw [if_neg h4] at h
      cases h
      obtain ⟨J2, L, l1, l2, l3, l4, l5, l6⟩ := n_ok hbs i nI.toNat 0 m a1 m' a' hJ n3 h3
      rw [hbl] at l5 h4 n3
      obtain rfl : a' = b + S := by omega
      have hp0 : partsM m i = [] := by
        obtain ⟨_, hJ⟩ := hJ
        rcases hJ with ⟨rfl, j1, _, _⟩ | ⟨rfl, _, j2, _⟩ | ⟨rfl, _, _, j3⟩
        · simp [partsM, List.eq_nil_of_length_eq_zero j1]
        · simp [partsM, List.eq_nil_of_length_eq_zero j2]
        · simp [partsM, List.eq_nil_of_length_eq_zero j3]
      rw [hp0, List.nil_append] at l1
      have hL : (L.length : Int) = nI := by omega
      have hbody : bodyM L = (zs.drop b).take S := by
        unfold bodyM
        rw [hL, n4, l3, take_join _ _ _ _ (by omega) (by omega), Nat.add_sub_cancel_left, List.drop_take, Nat.add_sub_cancel_left, List.take_take, Nat.min_self]
      have hbodyl : (bodyM L).length = S := by rw [hbody, List.length_take, List.length_drop]; omega
      refine ⟨nI.toNat, by omega, by rw [Nat.zero_add] at J2; exact J2, ?_, by omega, hle, l6⟩
      unfold secM
      have e9 := take_join zs (a + 1) b (b + S) (by omega) (by omega)
      rw [show b - (a + 1) = kk by omega, Nat.add_sub_cancel_left] at e9
      rw [l1, hbodyl, e6, hbody, take_cons zs a (b + S) _ hz0 (by omega), ← e9]

theorem J_next {i n : Nat} {m : Md} (hn : (n : Int) ≤ mostM i) (h : Jk i n m) (hi : i ≤ 1) : Jk (i + 1) 0 m := by
  obtain ⟨R, h⟩ := h
  unfold mostM at hn
  rcases h with ⟨rfl, j1, j2, j3⟩ | ⟨rfl, j1, j2, j3⟩ | ⟨rfl, j1, j2, j3⟩
  · rw [if_pos rfl] at hn
    exact ⟨R, Or.inr (Or.inl ⟨rfl, by omega, j2, j3⟩)⟩
  · rw [if_neg (by omega)] at hn
    exact ⟨R, Or.inr (Or.inr ⟨rfl, j1, by omega, j3⟩)⟩
  · omega

theorem J_start : Jk 0 0 ⟨[], [], []⟩ := ⟨⟨(fun v h => by cases h), (fun f h => by cases h), rfl⟩, Or.inl ⟨rfl, rfl, rfl, rfl⟩⟩

theorem decM_sound {zs : List Int} (hs : ∀ c ∈ zs, 0 ≤ c ∧ c ≤ 255) {m : Md} (h : decM zs = .ok m) : rightM m = true ∧ encM m = zs ∧ ∀ v ∈ m.cs, fitB v = true := by
  unfold decM at h
  by_cases h0 : 65536 < zs.length
  · rw [if_pos h0] at h; cases h
  rw [if_neg h0] at h
  by_cases h1 : zs.take 4 ≠ [83, 67, 77, 49]
  · rw [if_pos h1] at h; cases h
  rw [if_neg h1] at h
  have h1' : zs.take 4 = headM := Classical.not_not.1 h1
  have h4 : 4 ≤ zs.length := by
    have := congrArg List.length h1'
    rw [List.length_take] at this
    have e : headM.length = 4 := rfl
    omega
  simp only [rdAllM] at h
  cases r0 : rdS zs 0 ⟨[], [], []⟩ 4 with
  | error e => rw [r0] at h; cases h
  | ok q0 =>
    obtain ⟨m1, a1⟩ := q0
    rw [r0] at h
    dsimp only at h
    obtain ⟨n0, x0, x1, x2, x3, x4, x5⟩ := s_ok hs 0 (by omega) _ _ _ _ J_start r0
    cases r1 : rdS zs (0 + 1) m1 a1 with
    | error e => rw [r1] at h; cases h
    | ok q1 =>
      obtain ⟨m2, a2⟩ := q1
      rw [r1] at h
      dsimp only at h
      obtain ⟨n1, y0, y1, y2, y3, y4, y5⟩ := s_ok hs 1 (by omega) _ _ _ _ (J_next x0 x1 (by omega)) r1
      cases r2 : rdS zs (0 + 1 + 1) m2 a2 with
      | error e => rw [r2] at h; cases h
      | ok q2 =>
        obtain ⟨m3, a3⟩ := q2
        rw [r2] at h
        dsimp only at h
        obtain ⟨n2, z0, z1, z2, z3, z4, z5⟩ := s_ok hs 2 (by omega) _ _ _ _ (J_next y0 y1 (by omega)) r2
        by_cases h5 : a3 < zs.length
        · rw [if_pos h5] at h; cases h
        rw [if_neg h5] at h
        cases h
        have e0 : partsM m 0 = partsM m1 0 := (z5 0 (by omega) (by omega)).trans (y5 0 (by omega) (by omega))
        have e1 : partsM m 1 = partsM m2 1 := z5 1 (by omega) (by omega)
        have hE : encM m = zs := by
          unfold encM
          simp only [outM]
          rw [e0, e1, x2, y2, z2, ← h1']
          have q1 : zs.take 4 = (zs.drop 0).take (4 - 0) := by simp
          rw [q1, take_join _ _ _ _ (by omega) x3, take_join _ _ _ _ (by omega) y3, take_join _ _ _ _ (by omega) z3]
          rw [List.drop_zero, Nat.sub_zero, List.take_of_length_le (by omega)]
        obtain ⟨R, hz⟩ := z1
        refine ⟨?_, hE, fun v hv => (R.cs v hv).2⟩
        unfold rightM formedB
        rw [hE]
        have zz : m.cs.length ≤ 100 ∧ m.fs.length ≤ 24 ∧ m.xs.length ≤ 24 := by
          unfold mostM at z0
          rw [if_neg (by omega)] at z0
          rcases hz with ⟨h, _⟩ | ⟨h, _⟩ | ⟨_, h1, h2, h3⟩
          · omega
          · omega
          · exact ⟨h1, h2, by omega⟩
        rw [R.xs, List.all_eq_true.2 (fun v hv => (R.cs v hv).1), List.all_eq_true.2 R.fs, decide_eq_true zz.1, decide_eq_true zz.2.1, decide_eq_true zz.2.2, decide_eq_true (show zs.length ≤ 65536 by omega)]
        rfl

theorem one_code {bs : List Int} {i : Nat} {m : Md} {a : Nat} {p : Int × Int} (h : rdOne i bs m a = .error p) : p.1 = 90 ∨ p.1 = 91 ∨ p.1 = 92 := by
  have hno : ∀ {a : Nat} {most above c : Int}, above = 90 ∨ above = 92 → rdNo bs a most above = .error c → c = 90 ∨ c = 91 ∨ c = 92 := fun {a most above c} ha h => by
    unfold rdNo at h
    split at h
    · cases h; omega
    · split at h
      · cases h; omega
      · cases h
  have htx : ∀ {a : Nat} {most c : Int}, rdTx bs a most = .error c → c = 90 ∨ c = 91 ∨ c = 92 := fun {a most c} h => by
    unfold rdTx at h
    split at h
    · cases h; omega
    · split at h
      · cases h; omega
      · cases h
  unfold rdOne at h
  split at h
  · unfold rdC at h
    split at h
    · cases h; dsimp only; split <;> omega
    · cases h
  · split at h
    · unfold rdF at h
      split at h
      · rename_i h1; cases h; exact hno (Or.inr rfl) h1
      · split at h
        · rename_i h1; cases h; exact hno (Or.inr rfl) h1
        · split at h
          · cases h; omega
          · split at h
            · rename_i h1; cases h; exact hno (Or.inr rfl) h1
            · split at h
              · rename_i h1; cases h; exact htx h1
              · cases h
    · unfold rdX at h
      split at h
      · rename_i h1; cases h; exact htx h1
      · split at h
        · cases h; omega
        · split at h
          · rename_i h1; cases h; exact hno (Or.inl rfl) h1
          · cases h

theorem one_place {bs : List Int} (hs : ∀ c ∈ bs, 0 ≤ c ∧ c ≤ 255) {i : Nat} {m : Md} {a : Nat} (ha : a ≤ bs.length) {p : Int × Int} (h : rdOne i bs m a = .error p) : In bs p := by
  unfold rdOne at h
  split at h
  · unfold rdC at h
    cases hT : takeR bs (a : Int) with
    | error q => rw [hT] at h; cases h; exact ⟨(takeR_place hs hT).1, (takeR_place hs hT).2⟩
    | ok q => rw [hT] at h; cases h
  · split at h
    · unfold rdF at h
      cases h1 : rdNo bs a 8 92 with
      | error c => rw [h1] at h; cases h; exact in_at ha
      | ok r1 =>
        obtain ⟨p1, a1⟩ := r1
        rw [h1] at h
        dsimp only at h
        have b1 := (no_ok hs h1).2.2.2.1
        cases h2 : rdNo bs a1 32 92 with
        | error c => rw [h2] at h; cases h; exact in_at b1
        | ok r2 =>
          obtain ⟨p2, a2⟩ := r2
          rw [h2] at h
          dsimp only at h
          have b2 := (no_ok hs h2).2.2.2.1
          by_cases hl : p2 < p1
          · rw [if_pos hl] at h; cases h; exact in_at b1
          rw [if_neg hl] at h
          cases h3 : rdNo bs a2 40 92 with
          | error c => rw [h3] at h; cases h; exact in_at b2
          | ok r3 =>
            obtain ⟨p3, a3⟩ := r3
            rw [h3] at h
            dsimp only at h
            have b3 := (no_ok hs h3).2.2.2.1
            cases h4 : rdTx bs a3 4000 with
            | error c => rw [h4] at h; cases h; exact in_at b3
            | ok r4 => rw [h4] at h; cases h
    · unfold rdX at h
      cases h1 : rdTx bs a 20 with
      | error c => rw [h1] at h; cases h; exact in_at ha
      | ok r1 =>
        obtain ⟨t, a1⟩ := r1
        rw [h1] at h
        dsimp only at h
        have b1 := (tx_ok hs h1).2.2.1
        split at h
        · cases h; exact in_at ha
        · cases h2 : rdNo bs a1 ((m.fs.length : Int) - 1) 90 with
          | error c => rw [h2] at h; cases h; exact in_at b1
          | ok r2 => rw [h2] at h; cases h

theorem n_bad {bs : List Int} (hs : ∀ c ∈ bs, 0 ≤ c ∧ c ≤ 255) (i : Nat) : ∀ (n k : Nat) (m : Md) (a : Nat) (p : Int × Int), Jk i k m → a ≤ bs.length → rdN (rdOne i bs) n m a = .error p → In bs p ∧ (p.1 = 90 ∨ p.1 = 91 ∨ p.1 = 92)
  | 0, k, m, a, p, _, _, h => by simp only [rdN] at h; cases h
  | n + 1, k, m, a, p, hJ, ha, h => by
    simp only [rdN] at h
    cases h1 : rdOne i bs m a with
    | error e => rw [h1] at h; cases h; exact ⟨one_place hs ha h1, one_code h1⟩
    | ok r =>
      obtain ⟨m1, a1⟩ := r
      rw [h1] at h
      obtain ⟨J1, z, _, _, _, z4, _⟩ := one_ok hs i k m a m1 a1 hJ ha h1
      exact n_bad hs i n (k + 1) m1 a1 p J1 z4 h

theorem in_take {zs : List Int} {e : Nat} {p : Int × Int} (h : In (zs.take e) p) : In zs p := ⟨h.1, by have := h.2; rw [List.length_take] at this; omega⟩

theorem s_bad {zs : List Int} (hs : ∀ c ∈ zs, 0 ≤ c ∧ c ≤ 255) (i : Nat) (m : Md) (a : Nat) (ha : a ≤ zs.length) (p : Int × Int) (hJ : Jk i 0 m) (h : rdS zs i m a = .error p) : In zs p ∧ (p.1 = 90 ∨ p.1 = 91 ∨ p.1 = 92) := by
  unfold rdS rdO at h
  by_cases h0 : zs[a]? ≠ some ((i : Int) + 1)
  · rw [if_pos h0] at h; cases h; exact ⟨in_at ha, by omega⟩
  rw [if_neg h0] at h
  have hz0 : zs[a]? = some ((i : Int) + 1) := by simpa using h0
  have hal := (List.getElem?_eq_some_iff.1 hz0).1
  by_cases h1 : (uintAt zs ((a : Int) + 1)).2.2 ≠ 0 ∨ (zs.length : Int) - (uintAt zs ((a : Int) + 1)).2.1 < (uintAt zs ((a : Int) + 1)).1
  · rw [if_pos h1] at h; cases h; exact ⟨⟨by dsimp only; omega, by dsimp only; omega⟩, by omega⟩
  rw [if_neg h1] at h
  dsimp only at h
  obtain ⟨q, kk, e1, e2, e3, e4, e5, e6, e7⟩ := uint_form zs ((a : Int) + 1) hs (by have := h1; simp at this; exact this.1)
  obtain ⟨b, hb⟩ : ∃ b : Nat, (uintAt zs ((a : Int) + 1)).2.1 = (b : Int) := ⟨_, e5⟩
  obtain ⟨S, hS⟩ : ∃ S : Nat, (uintAt zs ((a : Int) + 1)).1 = (S : Int) := ⟨_, (Int.toNat_of_nonneg e7).symm⟩
  rw [hS, hb] at h h1
  rw [show ((b : Int)).toNat = b by omega, show ((b : Int) + (S : Int)).toNat = b + S by omega] at h
  have hle : b + S ≤ zs.length := by simp only [not_or, Int.not_lt] at h1; omega
  have hbl : (zs.take (b + S)).length = b + S := by rw [List.length_take]; omega
  have hbs : ∀ c ∈ zs.take (b + S), 0 ≤ c ∧ c ≤ 255 := fun c hc => hs c (List.mem_of_mem_take hc)
  unfold rdP at h
  cases h2 : rdNo (zs.take (b + S)) b (mostM i) 92 with
  | error c =>
    rw [h2] at h
    cases h
    refine ⟨in_at (by omega), ?_⟩
    unfold rdNo at h2
    split at h2
    · cases h2; omega
    · split at h2
      · cases h2; omega
      · cases h2
  | ok r2 =>
    obtain ⟨nI, a1⟩ := r2
    rw [h2] at h
    dsimp only at h
    obtain ⟨n0, n1, n2, n3, n4⟩ := no_ok hbs h2
    cases h3 : rdN (rdOne i (zs.take (b + S))) nI.toNat m a1 with
    | error e =>
      rw [h3] at h
      cases h
      obtain ⟨g1, g2⟩ := n_bad hbs i _ 0 m a1 _ hJ n3 h3
      exact ⟨in_take g1, g2⟩
    | ok r3 =>
      obtain ⟨m2, a2⟩ := r3
      rw [h3] at h
      dsimp only at h
      split at h
      · cases h
        exact ⟨in_at (by omega), by omega⟩
      · cases h

theorem decM_bad {zs : List Int} (hs : ∀ c ∈ zs, 0 ≤ c ∧ c ≤ 255) {p : Int × Int} (h : decM zs = .error p) : In zs p ∧ ¬ p.1 = 0 := by
  unfold decM at h
  split at h
  · cases h; exact ⟨⟨by dsimp only; omega, by dsimp only; omega⟩, by dsimp only; omega⟩
  split at h
  · cases h; exact ⟨⟨by dsimp only; omega, by dsimp only; omega⟩, by dsimp only; omega⟩
  rename_i h1
  have h1' : zs.take 4 = headM := Classical.not_not.1 h1
  have h4 : 4 ≤ zs.length := by
    have := congrArg List.length h1'
    rw [List.length_take] at this
    have e : headM.length = 4 := rfl
    omega
  simp only [rdAllM] at h
  cases r0 : rdS zs 0 ⟨[], [], []⟩ 4 with
  | error e =>
    rw [r0] at h
    cases h
    have q := s_bad hs 0 _ 4 h4 _ J_start r0
    exact ⟨q.1, by omega⟩
  | ok q0 =>
    obtain ⟨m1, a1⟩ := q0
    rw [r0] at h
    dsimp only at h
    obtain ⟨n0, x0, x1, x2, x3, x4, x5⟩ := s_ok hs 0 (by omega) _ _ _ _ J_start r0
    cases r1 : rdS zs (0 + 1) m1 a1 with
    | error e =>
      rw [r1] at h
      cases h
      have q := s_bad hs 1 _ a1 x4 _ (J_next x0 x1 (by omega)) r1
      exact ⟨q.1, by omega⟩
    | ok q1 =>
      obtain ⟨m2, a2⟩ := q1
      rw [r1] at h
      dsimp only at h
      obtain ⟨n1, y0, y1, y2, y3, y4, y5⟩ := s_ok hs 1 (by omega) _ _ _ _ (J_next x0 x1 (by omega)) r1
      cases r2 : rdS zs (0 + 1 + 1) m2 a2 with
      | error e =>
        rw [r2] at h
        cases h
        have q := s_bad hs 2 _ a2 y4 _ (J_next y0 y1 (by omega)) r2
        exact ⟨q.1, by omega⟩
      | ok q2 =>
        obtain ⟨m3, a3⟩ := q2
        rw [r2] at h
        dsimp only at h
        obtain ⟨n2, z0, z1, z2, z3, z4, z5⟩ := s_ok hs 2 (by omega) _ _ _ _ (J_next y0 y1 (by omega)) r2
        split at h
        · cases h; exact ⟨in_at z4, by dsimp only; omega⟩
        · cases h
end Go.Proofs.Ytfdnhpmldnmncaa
