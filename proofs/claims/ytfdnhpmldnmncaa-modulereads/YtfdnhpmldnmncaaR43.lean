/-
  The walk of parts of a module's reader (layer 9): all of a section's body; no conditions but the form's own reach.
  The walk of open of a module's reader (layer 9): to a section's body; no conditions but the form's own reach.
-/
import Derived.Test.YtfdnhpmldnmncaaR36
namespace Go.Proofs.Ytfdnhpmldnmncaa
open Go.RowKit

/-- a block more that is left alone -/
def IAnd (I : Nat → Obj → Prop) (g : Nat) (c : Obj) : Nat → Obj → Prop := fun b d => I b d ∨ (b = g ∧ d = c)

theorem RdM.less {w0 w : World} {I J : Nat → Obj → Prop} {gr : Nat} {vb vy : Value} {a : Int} {C F X : Value} {m : Md} {V : Nat → List Value} (h : RdM w0 I w gr vb vy a C F X m V) (hJ : ∀ b c, J b c → I b c) : RdM w0 J w gr vb vy a C F X m V :=
  ⟨h.box, h.old, h.ownC, h.ownF, h.ownX, h.row, h.el, fun b c hb => h.side b c (hJ b c hb)⟩

theorem RdM.guard {w0 w : World} {I : Nat → Obj → Prop} {gr : Nat} {vb vy : Value} {a : Int} {C F X : Value} {m : Md} {V : Nat → List Value} (h : RdM w0 I w gr vb vy a C F X m V) (cs : Array Value) (T : TypeId) : RdM w0 (IAnd I w.heap.size (.cells cs T (0, 0))) (w.alloc (.cells cs T)) gr vb vy a C F X m V := by
  have h1 := h.later ((Below.refl _ _).alloc (Nat.le_refl _) (.cells cs T))
  refine ⟨h1.box, h1.old, h1.ownC, h1.ownF, h1.ownX, h1.row, h1.el, fun b c hb => ?_⟩
  rcases hb with hb | ⟨rfl, rfl⟩
  · exact h1.side b c hb
  · have hl := h.lt
    exact ⟨heap_alloc_new w _, by omega, fun e => by have := (h.ownC.lt _ e.symm).2; omega, fun e => by have := (h.ownF.lt _ e.symm).2; omega, fun e => by have := (h.ownX.lt _ e.symm).2; omega⟩

/-- what a reader of one part is: its answers, what is known of the module ahead of each -/
structure RdAt (w0 : World) (gr : Nat) (vb vy : Value) (f : Nat) (rd : Md → Nat → Except (Int × Int) (Md × Nat)) (Lk : Nat → Md → Prop) : Prop where
  call : ∀ (I : Nat → Obj → Prop) (i : Nat) (m : Md) (a : Nat) (C F X : Value) (V : Nat → List Value) (w : World), i < 100 → Lk i m → RdM w0 I w gr vb vy a C F X m V → Calls Try.prog f #[.pointer (some ⟨gr, 0, none⟩)] w fun e' w' => ResRd w0 I gr vb vy (rd m a) e' w'
  next : ∀ i m a m' a', Lk i m → rd m a = .ok (m', a') → Lk (i + 1) m'
  code : ∀ m a p, rd m a = .error p → ¬ p.1 = 0

/-- what stands behind the last part -/
def rdEnd (bs : List Int) (r : Except (Int × Int) (Md × Nat)) : Except (Int × Int) (Md × Nat) := match r with
  | .error e => .error e
  | .ok (m', a') => if a' < bs.length then .error (91, a') else .ok (m', a')

set_option maxRecDepth 100000 in
set_option maxHeartbeats 2000000 in
theorem parts0_any (w0 : World) (I : Nat → Obj → Prop) (gr : Nat) (vb : Value) (bo : Option Addr) (e bc : Nat) (a : Nat) (C F X : Value) (m : Md) (V : Nat → List Value) (bs : List Int) (most : Int) (f1 f2 : Nat) (rd : Md → Nat → Except (Int × Int) (Md × Nat)) (Lk : Nat → Md → Prop) (w : World) (h : RdM w0 I w gr vb (.slice bo e bc) a C F X m V) (hy : Row8 w0 bo e bc bs) (hg : w0.heap.size ≤ gr) (hm : bc ≤ maxLen) (hmost : 0 ≤ most ∧ most ≤ 100) (hl0 : Lk 0 m) (hR : RdAt w0 gr vb (.slice bo e bc) 35 rd Lk) :
    Calls Try.prog 23 #[.pointer (some ⟨gr, 0, none⟩), .agg #[.int .i64 most, .func (.func f1) #[] #[], .func (.func f2) #[] #[], .func (.func 35) #[] #[]]] w fun e' w' => ResRd w0 I gr vb (.slice bo e bc) (rdP bs most rd m a) e' w' := by
  obtain ⟨g, hgg⟩ : ∃ g, w.heap.size = g := ⟨_, rfl⟩
  have G1 := h.guard #[.int .i64 most, .func (.func f1) #[] #[], .func (.func f2) #[] #[], .func (.func 35) #[] #[]] 67
  obtain ⟨w1, hw1⟩ : ∃ w1, w.alloc (.cells #[.int .i64 most, .func (.func f1) #[] #[], .func (.func f2) #[] #[], .func (.func 35) #[] #[]] 67) = w1 := ⟨_, rfl⟩
  rw [hw1, hgg] at G1
  obtain ⟨J, hJ⟩ : ∃ J, IAnd I g (.cells #[.int .i64 most, .func (.func f1) #[] #[], .func (.func f2) #[] #[], .func (.func 35) #[] #[]] 67 (0, 0)) = J := ⟨_, rfl⟩
  have HJ : Hid (J g (.cells #[.int .i64 most, .func (.func f1) #[] #[], .func (.func f2) #[] #[], .func (.func 35) #[] #[]] 67 (0, 0)) ∧ ∀ b c, I b c → J b c) := hide (by rw [← hJ]; exact ⟨Or.inr ⟨rfl, rfl⟩, fun b c hb => Or.inl hb⟩)
  rw [hJ] at G1
  clear hJ
  obtain ⟨d0, d1, d2, d3⟩ := row_cell4 (G1.side g _ (unhide HJ).1).1
  have C1 := hide (number_any w0 J gr vb bo e bc a C F X m V bs most 92 w1 G1 hy hg hm (by omega))
  have HY := hide hy
  have HRD := hide hR
  have HL0 := hide hl0
  have hlen := hy.length
  clear h hy G1 hR hl0
  unfold rdP
  cases h1 : rdNo bs a most 92 with
  | error c =>
    rw [h1] at C1
    have k1 : ¬ c = 0 := by have := no_code h1; omega
    clear h1
    go_enter Try.func23, Try.ntmps23
    go_wp2_with fail
    refine (unhide C1).mono ?_
    rintro e1 u1 ⟨rfl, R1⟩
    have H1 := hide R1
    clear R1 C1 d0 d1 d2 d3
    go_wp2_with fail
    go_ret
    exact ⟨rfl, _, _, _, _, _, (unhide H1).less (unhide HJ).2⟩
  | ok r1 =>
    obtain ⟨nI, a1⟩ := r1
    rw [h1] at C1
    obtain ⟨n, rfl, hn100⟩ : ∃ n : Nat, nI = (n : Int) ∧ n ≤ 100 := by
      unfold rdNo at h1
      split at h1
      · cases h1
      · rename_i h0
        split at h1
        · cases h1
        · rename_i h2
          simp only [Except.ok.injEq, Prod.mk.injEq] at h1
          have e0 : uintAt bs (a : Int) = ((uintAt bs (a : Int)).1, (uintAt bs (a : Int)).2.1, 0) := by
            have : (uintAt bs (a : Int)).2.2 = 0 := by simpa using h0
            rw [← this]
          have := (uint_nat (unhide HY).small e0).1
          exact ⟨nI.toNat, by omega, by omega⟩
    dsimp only
    rw [Int.toNat_natCast]
    obtain ⟨R, hRR⟩ : ∃ R, rdN rd n m a1 = R := ⟨_, rfl⟩
    rw [hRR]
    change Calls _ _ _ _ fun e' w' => ResRd w0 I gr vb (.slice bo e bc) (rdEnd bs R) e' w'
    clear h1
    have HRR := hide hRR
    clear hRR
    go_enter Try.func23, Try.ntmps23
    go_wp2_with fail
    refine (unhide C1).mono ?_
    rintro e1 u1 ⟨rfl, R1⟩
    have H1 := hide R1
    clear R1 C1 d0 d1 d2 d3
    go_wp2_with fail
    go_loopw [19] (fun x wr => ∃ (i : Nat) (m' : Md) (a' : Nat) (C' F' X' : Value) (V' : Nat → List Value), x = .int .i64 (i : Int) ∧ Hid (i ≤ n) ∧ Hid (RdM w0 J wr gr vb (.slice bo e bc) a' C' F' X' m' V') ∧ Hid (Lk i m') ∧ Hid (rdN rd (n - i) m' a' = R)) (fun x _ => n - (intOf x).toNat)
    case atStart => exact ⟨0, m, a1, C, F, X, V, rfl, hide (by omega), H1, HL0, HRR⟩
    case round =>
      clear H1
      obtain ⟨i, m', a', C', F', X', V', rfl, HI, HM, HLk, HN⟩ := hrel
      by_cases hlt : i < n
      · have j1 : (i : Int) < (n : Int) := by omega
        have HI1 : Hid (i + 1 ≤ n) := hide (by omega)
        have CR := hide ((unhide HRD).call J i m' a' C' F' X' V' wr (by omega) (unhide HLk) (unhide HM))
        obtain ⟨d0, d1, d2, d3⟩ := row_cell4 ((unhide HM).side g _ (unhide HJ).1).1
        have hN := unhide HN
        rw [show n - i = (n - (i + 1)) + 1 by omega, rdN] at hN
        cases h2 : rd m' a' with
        | error p =>
          rw [h2] at CR hN
          have k1 := (unhide HRD).code _ _ _ h2
          obtain ⟨pc, pp⟩ := p
          dsimp only at k1 hN
          have HR' := hide hN.symm
          clear hN h2
          go_wp2_with fail
          refine (unhide CR).mono ?_
          rintro e2 u2 ⟨rfl, R2⟩
          have H2 := hide R2
          clear R2 CR d0 d1 d2 d3
          dsimp only
          go_wp2_with fail
          go_ret
          rw [unhide HR']
          unfold rdEnd
          obtain ⟨C2, F2, X2, m2, V2, R2⟩ := unhide H2
          exact ⟨rfl, _, _, _, _, _, R2.less (unhide HJ).2⟩
        | ok r2 =>
          obtain ⟨m2, a2⟩ := r2
          rw [h2] at CR hN
          dsimp only at hN
          have HN2 := hide hN
          have HL2 := hide ((unhide HRD).next i m' a' m2 a2 (unhide HLk) h2)
          clear hN h2
          go_wp2_with fail
          refine (unhide CR).mono ?_
          rintro e2 u2 ⟨rfl, C2, F2, X2, V2, R2⟩
          have H2 := hide R2
          clear R2 CR d0 d1 d2 d3
          go_wp2_with fail
          go_roundw
          case rel => exact ⟨i + 1, m2, a2, C2, F2, X2, V2, by go_num, HI1, H2, HL2, HN2⟩
          case measure => have := unhide HI1; simp [intOf]; omega
      · have j1 : ¬ (i : Int) < (n : Int) := by omega
        have hN := unhide HN
        rw [show n - i = 0 by omega, rdN] at hN
        obtain ⟨c0, c1, c2, c3, c4, c5⟩ := row_cells6 (unhide HM).box
        have HR' := hide hN.symm
        clear hN
        by_cases hae : a' < e
        · have j2 : (a' : Int) < (e : Int) := by omega
          go_upto_region 10 with fail
          go_quiet (fail)
          go_wp2_with fail
          go_ret
          rw [unhide HR']
          unfold rdEnd
          dsimp only
          rw [if_pos (by omega)]
          exact ⟨rfl, _, _, _, _, _, ((unhide HM).drew _).less (unhide HJ).2⟩
        · have j2 : ¬ (a' : Int) < (e : Int) := by omega
          go_upto_region 10 with fail
          go_quiet (fail)
          go_wp2_with fail
          go_ret
          rw [unhide HR']
          unfold rdEnd
          dsimp only
          rw [if_neg (by omega)]
          exact ⟨rfl, _, _, _, _, ((unhide HM).drew _).less (unhide HJ).2⟩
set_option maxRecDepth 100000 in
set_option maxHeartbeats 2000000 in
theorem parts1_any (w0 : World) (I : Nat → Obj → Prop) (gr : Nat) (vb : Value) (bo : Option Addr) (e bc : Nat) (a : Nat) (C F X : Value) (m : Md) (V : Nat → List Value) (bs : List Int) (most : Int) (f1 f2 : Nat) (rd : Md → Nat → Except (Int × Int) (Md × Nat)) (Lk : Nat → Md → Prop) (w : World) (h : RdM w0 I w gr vb (.slice bo e bc) a C F X m V) (hy : Row8 w0 bo e bc bs) (hg : w0.heap.size ≤ gr) (hm : bc ≤ maxLen) (hmost : 0 ≤ most ∧ most ≤ 100) (hl0 : Lk 0 m) (hR : RdAt w0 gr vb (.slice bo e bc) 38 rd Lk) :
    Calls Try.prog 23 #[.pointer (some ⟨gr, 0, none⟩), .agg #[.int .i64 most, .func (.func f1) #[] #[], .func (.func f2) #[] #[], .func (.func 38) #[] #[]]] w fun e' w' => ResRd w0 I gr vb (.slice bo e bc) (rdP bs most rd m a) e' w' := by
  obtain ⟨g, hgg⟩ : ∃ g, w.heap.size = g := ⟨_, rfl⟩
  have G1 := h.guard #[.int .i64 most, .func (.func f1) #[] #[], .func (.func f2) #[] #[], .func (.func 38) #[] #[]] 67
  obtain ⟨w1, hw1⟩ : ∃ w1, w.alloc (.cells #[.int .i64 most, .func (.func f1) #[] #[], .func (.func f2) #[] #[], .func (.func 38) #[] #[]] 67) = w1 := ⟨_, rfl⟩
  rw [hw1, hgg] at G1
  obtain ⟨J, hJ⟩ : ∃ J, IAnd I g (.cells #[.int .i64 most, .func (.func f1) #[] #[], .func (.func f2) #[] #[], .func (.func 38) #[] #[]] 67 (0, 0)) = J := ⟨_, rfl⟩
  have HJ : Hid (J g (.cells #[.int .i64 most, .func (.func f1) #[] #[], .func (.func f2) #[] #[], .func (.func 38) #[] #[]] 67 (0, 0)) ∧ ∀ b c, I b c → J b c) := hide (by rw [← hJ]; exact ⟨Or.inr ⟨rfl, rfl⟩, fun b c hb => Or.inl hb⟩)
  rw [hJ] at G1
  clear hJ
  obtain ⟨d0, d1, d2, d3⟩ := row_cell4 (G1.side g _ (unhide HJ).1).1
  have C1 := hide (number_any w0 J gr vb bo e bc a C F X m V bs most 92 w1 G1 hy hg hm (by omega))
  have HY := hide hy
  have HRD := hide hR
  have HL0 := hide hl0
  have hlen := hy.length
  clear h hy G1 hR hl0
  unfold rdP
  cases h1 : rdNo bs a most 92 with
  | error c =>
    rw [h1] at C1
    have k1 : ¬ c = 0 := by have := no_code h1; omega
    clear h1
    go_enter Try.func23, Try.ntmps23
    go_wp2_with fail
    refine (unhide C1).mono ?_
    rintro e1 u1 ⟨rfl, R1⟩
    have H1 := hide R1
    clear R1 C1 d0 d1 d2 d3
    go_wp2_with fail
    go_ret
    exact ⟨rfl, _, _, _, _, _, (unhide H1).less (unhide HJ).2⟩
  | ok r1 =>
    obtain ⟨nI, a1⟩ := r1
    rw [h1] at C1
    obtain ⟨n, rfl, hn100⟩ : ∃ n : Nat, nI = (n : Int) ∧ n ≤ 100 := by
      unfold rdNo at h1
      split at h1
      · cases h1
      · rename_i h0
        split at h1
        · cases h1
        · rename_i h2
          simp only [Except.ok.injEq, Prod.mk.injEq] at h1
          have e0 : uintAt bs (a : Int) = ((uintAt bs (a : Int)).1, (uintAt bs (a : Int)).2.1, 0) := by
            have : (uintAt bs (a : Int)).2.2 = 0 := by simpa using h0
            rw [← this]
          have := (uint_nat (unhide HY).small e0).1
          exact ⟨nI.toNat, by omega, by omega⟩
    dsimp only
    rw [Int.toNat_natCast]
    obtain ⟨R, hRR⟩ : ∃ R, rdN rd n m a1 = R := ⟨_, rfl⟩
    rw [hRR]
    change Calls _ _ _ _ fun e' w' => ResRd w0 I gr vb (.slice bo e bc) (rdEnd bs R) e' w'
    clear h1
    have HRR := hide hRR
    clear hRR
    go_enter Try.func23, Try.ntmps23
    go_wp2_with fail
    refine (unhide C1).mono ?_
    rintro e1 u1 ⟨rfl, R1⟩
    have H1 := hide R1
    clear R1 C1 d0 d1 d2 d3
    go_wp2_with fail
    go_loopw [19] (fun x wr => ∃ (i : Nat) (m' : Md) (a' : Nat) (C' F' X' : Value) (V' : Nat → List Value), x = .int .i64 (i : Int) ∧ Hid (i ≤ n) ∧ Hid (RdM w0 J wr gr vb (.slice bo e bc) a' C' F' X' m' V') ∧ Hid (Lk i m') ∧ Hid (rdN rd (n - i) m' a' = R)) (fun x _ => n - (intOf x).toNat)
    case atStart => exact ⟨0, m, a1, C, F, X, V, rfl, hide (by omega), H1, HL0, HRR⟩
    case round =>
      clear H1
      obtain ⟨i, m', a', C', F', X', V', rfl, HI, HM, HLk, HN⟩ := hrel
      by_cases hlt : i < n
      · have j1 : (i : Int) < (n : Int) := by omega
        have HI1 : Hid (i + 1 ≤ n) := hide (by omega)
        have CR := hide ((unhide HRD).call J i m' a' C' F' X' V' wr (by omega) (unhide HLk) (unhide HM))
        obtain ⟨d0, d1, d2, d3⟩ := row_cell4 ((unhide HM).side g _ (unhide HJ).1).1
        have hN := unhide HN
        rw [show n - i = (n - (i + 1)) + 1 by omega, rdN] at hN
        cases h2 : rd m' a' with
        | error p =>
          rw [h2] at CR hN
          have k1 := (unhide HRD).code _ _ _ h2
          obtain ⟨pc, pp⟩ := p
          dsimp only at k1 hN
          have HR' := hide hN.symm
          clear hN h2
          go_wp2_with fail
          refine (unhide CR).mono ?_
          rintro e2 u2 ⟨rfl, R2⟩
          have H2 := hide R2
          clear R2 CR d0 d1 d2 d3
          dsimp only
          go_wp2_with fail
          go_ret
          rw [unhide HR']
          unfold rdEnd
          obtain ⟨C2, F2, X2, m2, V2, R2⟩ := unhide H2
          exact ⟨rfl, _, _, _, _, _, R2.less (unhide HJ).2⟩
        | ok r2 =>
          obtain ⟨m2, a2⟩ := r2
          rw [h2] at CR hN
          dsimp only at hN
          have HN2 := hide hN
          have HL2 := hide ((unhide HRD).next i m' a' m2 a2 (unhide HLk) h2)
          clear hN h2
          go_wp2_with fail
          refine (unhide CR).mono ?_
          rintro e2 u2 ⟨rfl, C2, F2, X2, V2, R2⟩
          have H2 := hide R2
          clear R2 CR d0 d1 d2 d3
          go_wp2_with fail
          go_roundw
          case rel => exact ⟨i + 1, m2, a2, C2, F2, X2, V2, by go_num, HI1, H2, HL2, HN2⟩
          case measure => have := unhide HI1; simp [intOf]; omega
      · have j1 : ¬ (i : Int) < (n : Int) := by omega
        have hN := unhide HN
        rw [show n - i = 0 by omega, rdN] at hN
        obtain ⟨c0, c1, c2, c3, c4, c5⟩ := row_cells6 (unhide HM).box
        have HR' := hide hN.symm
        clear hN
        by_cases hae : a' < e
        · have j2 : (a' : Int) < (e : Int) := by omega
          go_upto_region 10 with fail
          go_quiet (fail)
          go_wp2_with fail
          go_ret
          rw [unhide HR']
          unfold rdEnd
          dsimp only
          rw [if_pos (by omega)]
          exact ⟨rfl, _, _, _, _, _, ((unhide HM).drew _).less (unhide HJ).2⟩
        · have j2 : ¬ (a' : Int) < (e : Int) := by omega
          go_upto_region 10 with fail
          go_quiet (fail)
          go_wp2_with fail
          go_ret
          rw [unhide HR']
          unfold rdEnd
          dsimp only
          rw [if_neg (by omega)]
          exact ⟨rfl, _, _, _, _, ((unhide HM).drew _).less (unhide HJ).2⟩
set_option maxRecDepth 100000 in
set_option maxHeartbeats 2000000 in
theorem parts2_any (w0 : World) (I : Nat → Obj → Prop) (gr : Nat) (vb : Value) (bo : Option Addr) (e bc : Nat) (a : Nat) (C F X : Value) (m : Md) (V : Nat → List Value) (bs : List Int) (most : Int) (f1 f2 : Nat) (rd : Md → Nat → Except (Int × Int) (Md × Nat)) (Lk : Nat → Md → Prop) (w : World) (h : RdM w0 I w gr vb (.slice bo e bc) a C F X m V) (hy : Row8 w0 bo e bc bs) (hg : w0.heap.size ≤ gr) (hm : bc ≤ maxLen) (hmost : 0 ≤ most ∧ most ≤ 100) (hl0 : Lk 0 m) (hR : RdAt w0 gr vb (.slice bo e bc) 41 rd Lk) :
    Calls Try.prog 23 #[.pointer (some ⟨gr, 0, none⟩), .agg #[.int .i64 most, .func (.func f1) #[] #[], .func (.func f2) #[] #[], .func (.func 41) #[] #[]]] w fun e' w' => ResRd w0 I gr vb (.slice bo e bc) (rdP bs most rd m a) e' w' := by
  obtain ⟨g, hgg⟩ : ∃ g, w.heap.size = g := ⟨_, rfl⟩
  have G1 := h.guard #[.int .i64 most, .func (.func f1) #[] #[], .func (.func f2) #[] #[], .func (.func 41) #[] #[]] 67
  obtain ⟨w1, hw1⟩ : ∃ w1, w.alloc (.cells #[.int .i64 most, .func (.func f1) #[] #[], .func (.func f2) #[] #[], .func (.func 41) #[] #[]] 67) = w1 := ⟨_, rfl⟩
  rw [hw1, hgg] at G1
  obtain ⟨J, hJ⟩ : ∃ J, IAnd I g (.cells #[.int .i64 most, .func (.func f1) #[] #[], .func (.func f2) #[] #[], .func (.func 41) #[] #[]] 67 (0, 0)) = J := ⟨_, rfl⟩
  have HJ : Hid (J g (.cells #[.int .i64 most, .func (.func f1) #[] #[], .func (.func f2) #[] #[], .func (.func 41) #[] #[]] 67 (0, 0)) ∧ ∀ b c, I b c → J b c) := hide (by rw [← hJ]; exact ⟨Or.inr ⟨rfl, rfl⟩, fun b c hb => Or.inl hb⟩)
  rw [hJ] at G1
  clear hJ
  obtain ⟨d0, d1, d2, d3⟩ := row_cell4 (G1.side g _ (unhide HJ).1).1
  have C1 := hide (number_any w0 J gr vb bo e bc a C F X m V bs most 92 w1 G1 hy hg hm (by omega))
  have HY := hide hy
  have HRD := hide hR
  have HL0 := hide hl0
  have hlen := hy.length
  clear h hy G1 hR hl0
  unfold rdP
  cases h1 : rdNo bs a most 92 with
  | error c =>
    rw [h1] at C1
    have k1 : ¬ c = 0 := by have := no_code h1; omega
    clear h1
    go_enter Try.func23, Try.ntmps23
    go_wp2_with fail
    refine (unhide C1).mono ?_
    rintro e1 u1 ⟨rfl, R1⟩
    have H1 := hide R1
    clear R1 C1 d0 d1 d2 d3
    go_wp2_with fail
    go_ret
    exact ⟨rfl, _, _, _, _, _, (unhide H1).less (unhide HJ).2⟩
  | ok r1 =>
    obtain ⟨nI, a1⟩ := r1
    rw [h1] at C1
    obtain ⟨n, rfl, hn100⟩ : ∃ n : Nat, nI = (n : Int) ∧ n ≤ 100 := by
      unfold rdNo at h1
      split at h1
      · cases h1
      · rename_i h0
        split at h1
        · cases h1
        · rename_i h2
          simp only [Except.ok.injEq, Prod.mk.injEq] at h1
          have e0 : uintAt bs (a : Int) = ((uintAt bs (a : Int)).1, (uintAt bs (a : Int)).2.1, 0) := by
            have : (uintAt bs (a : Int)).2.2 = 0 := by simpa using h0
            rw [← this]
          have := (uint_nat (unhide HY).small e0).1
          exact ⟨nI.toNat, by omega, by omega⟩
    dsimp only
    rw [Int.toNat_natCast]
    obtain ⟨R, hRR⟩ : ∃ R, rdN rd n m a1 = R := ⟨_, rfl⟩
    rw [hRR]
    change Calls _ _ _ _ fun e' w' => ResRd w0 I gr vb (.slice bo e bc) (rdEnd bs R) e' w'
    clear h1
    have HRR := hide hRR
    clear hRR
    go_enter Try.func23, Try.ntmps23
    go_wp2_with fail
    refine (unhide C1).mono ?_
    rintro e1 u1 ⟨rfl, R1⟩
    have H1 := hide R1
    clear R1 C1 d0 d1 d2 d3
    go_wp2_with fail
    go_loopw [19] (fun x wr => ∃ (i : Nat) (m' : Md) (a' : Nat) (C' F' X' : Value) (V' : Nat → List Value), x = .int .i64 (i : Int) ∧ Hid (i ≤ n) ∧ Hid (RdM w0 J wr gr vb (.slice bo e bc) a' C' F' X' m' V') ∧ Hid (Lk i m') ∧ Hid (rdN rd (n - i) m' a' = R)) (fun x _ => n - (intOf x).toNat)
    case atStart => exact ⟨0, m, a1, C, F, X, V, rfl, hide (by omega), H1, HL0, HRR⟩
    case round =>
      clear H1
      obtain ⟨i, m', a', C', F', X', V', rfl, HI, HM, HLk, HN⟩ := hrel
      by_cases hlt : i < n
      · have j1 : (i : Int) < (n : Int) := by omega
        have HI1 : Hid (i + 1 ≤ n) := hide (by omega)
        have CR := hide ((unhide HRD).call J i m' a' C' F' X' V' wr (by omega) (unhide HLk) (unhide HM))
        obtain ⟨d0, d1, d2, d3⟩ := row_cell4 ((unhide HM).side g _ (unhide HJ).1).1
        have hN := unhide HN
        rw [show n - i = (n - (i + 1)) + 1 by omega, rdN] at hN
        cases h2 : rd m' a' with
        | error p =>
          rw [h2] at CR hN
          have k1 := (unhide HRD).code _ _ _ h2
          obtain ⟨pc, pp⟩ := p
          dsimp only at k1 hN
          have HR' := hide hN.symm
          clear hN h2
          go_wp2_with fail
          refine (unhide CR).mono ?_
          rintro e2 u2 ⟨rfl, R2⟩
          have H2 := hide R2
          clear R2 CR d0 d1 d2 d3
          dsimp only
          go_wp2_with fail
          go_ret
          rw [unhide HR']
          unfold rdEnd
          obtain ⟨C2, F2, X2, m2, V2, R2⟩ := unhide H2
          exact ⟨rfl, _, _, _, _, _, R2.less (unhide HJ).2⟩
        | ok r2 =>
          obtain ⟨m2, a2⟩ := r2
          rw [h2] at CR hN
          dsimp only at hN
          have HN2 := hide hN
          have HL2 := hide ((unhide HRD).next i m' a' m2 a2 (unhide HLk) h2)
          clear hN h2
          go_wp2_with fail
          refine (unhide CR).mono ?_
          rintro e2 u2 ⟨rfl, C2, F2, X2, V2, R2⟩
          have H2 := hide R2
          clear R2 CR d0 d1 d2 d3
          go_wp2_with fail
          go_roundw
          case rel => exact ⟨i + 1, m2, a2, C2, F2, X2, V2, by go_num, HI1, H2, HL2, HN2⟩
          case measure => have := unhide HI1; simp [intOf]; omega
      · have j1 : ¬ (i : Int) < (n : Int) := by omega
        have hN := unhide HN
        rw [show n - i = 0 by omega, rdN] at hN
        obtain ⟨c0, c1, c2, c3, c4, c5⟩ := row_cells6 (unhide HM).box
        have HR' := hide hN.symm
        clear hN
        by_cases hae : a' < e
        · have j2 : (a' : Int) < (e : Int) := by omega
          go_upto_region 10 with fail
          go_quiet (fail)
          go_wp2_with fail
          go_ret
          rw [unhide HR']
          unfold rdEnd
          dsimp only
          rw [if_pos (by omega)]
          exact ⟨rfl, _, _, _, _, _, ((unhide HM).drew _).less (unhide HJ).2⟩
        · have j2 : ¬ (a' : Int) < (e : Int) := by omega
          go_upto_region 10 with fail
          go_quiet (fail)
          go_wp2_with fail
          go_ret
          rw [unhide HR']
          unfold rdEnd
          dsimp only
          rw [if_neg (by omega)]
          exact ⟨rfl, _, _, _, _, ((unhide HM).drew _).less (unhide HJ).2⟩
end Go.Proofs.Ytfdnhpmldnmncaa

namespace Go.Proofs.Ytfdnhpmldnmncaa
open Go.RowKit

def ResO (w0 : World) (I : Nat → Obj → Prop) (gr : Nat) (ao : Option Addr) (len cap : Nat) (vy : Value) (C F X : Value) (m : Md) (V : Nat → List Value) (r : Except Int (Nat × Nat)) (e' : Ending) (w' : World) : Prop :=
  match r with
  | .error p => e' = .returned (.int .i64 91) ∧ RdM w0 I w' gr (.slice ao len cap) vy p C F X m V
  | .ok (b, e) => e' = .returned (.int .i64 0) ∧ RdM w0 I w' gr (.slice ao len cap) (.slice ao e cap) (b : Int) C F X m V

theorem RdM.setY {w0 w : World} {I : Nat → Obj → Prop} {gr : Nat} {vb vy : Value} {a : Int} {C F X : Value} {m : Md} {V : Nat → List Value} (h : RdM w0 I w gr vb vy a C F X m V) (a' : Int) (v : Value) : RdM w0 I ((w.setCell ⟨gr, 2, none⟩ (.int .i64 a')).setCell ⟨gr, 1, none⟩ v) gr vb v a' C F X m V :=
  h.to (fun b _ hn => by rw [heap_setCell_other _ _ _ _ (by simpa using hn), heap_setCell_other _ _ _ _ (by simpa using hn)]) (by simp) (by rw [heap_setCell_same _ gr 1 _ _ _ (heap_setCell_same w gr 2 _ _ _ h.box)]; rfl) (((Below.refl _ _).setCell (p := ⟨gr, 2, none⟩) (Nat.le_refl _) _).setCell (p := ⟨gr, 1, none⟩) (Nat.le_refl _) _)

set_option maxRecDepth 100000 in
set_option maxHeartbeats 2000000 in
theorem open_any (w0 : World) (I : Nat → Obj → Prop) (gr : Nat) (ao : Option Addr) (len cap : Nat) (vy : Value) (a : Nat) (C F X : Value) (m : Md) (V : Nat → List Value) (zs : List Int) (no : Int) (w : World) (h : RdM w0 I w gr (.slice ao len cap) vy a C F X m V) (hz : Row8 w0 ao len cap zs) (hg : w0.heap.size ≤ gr) (hm : cap ≤ maxLen) (hlen : len ≤ 65536) (ha : a ≤ len) :
    Calls Try.prog 21 #[.pointer (some ⟨gr, 0, none⟩), .int .u8 no] w fun e' w' => ResO w0 I gr ao len cap vy C F X m V (rdO zs no a) e' w' := by
  obtain ⟨c0, c1, c2, c3, c4, c5⟩ := row_cells6 h.box
  have fz := frozen_of_row w gr 2 _ _ h.box
  have HH := hide h
  have hl := hz.length
  have hle := hz.le
  have hw := h.bytes hz hg
  by_cases hend : a = len
  · have hO : rdO zs no a = .error (a : Int) := by unfold rdO; rw [if_pos]; rw [List.getElem?_eq_none (by omega)]; simp
    rw [hO]
    have k1 : ((a : Int) == (len : Int)) = true := beq_iff_eq.2 (by omega)
    subst hend
    clear hO h hz hw
    go_enter Try.func21, Try.ntmps21
    go_upto_region 1 with fail
    go_quiet (fail)
    go_wp2_with fail
    go_ret
    exact ⟨rfl, (unhide HH).drew _⟩
  have hlt : a < len := by omega
  have k1 : ((a : Int) == (len : Int)) = false := beq_eq_false_iff_ne.2 (by omega)
  have k2 : ¬ (a : Int) = (len : Int) := by omega
  have i1 : (a : Int) < (len : Int) := by omega
  obtain ⟨b, off, rfl, hc⟩ := hw.at (by omega)
  have ca := hc a hlt
  obtain ⟨x, hx⟩ : ∃ x, zs[a]? = some x := ⟨_, List.getElem?_eq_getElem (by omega)⟩
  have hgd : zs.getD a 0 = x := by rw [List.getD_eq_getElem?_getD, hx]; rfl
  rw [hgd] at ca
  clear hgd hc hw
  by_cases hno : x = no
  case neg =>
    have hO : rdO zs no a = .error (a : Int) := by unfold rdO; rw [if_pos]; rw [hx]; simpa using hno
    rw [hO]
    have k3 : (x == no) = false := beq_eq_false_iff_ne.2 hno
    clear hO h hz
    go_enter Try.func21, Try.ntmps21
    go_upto_region 1 with fail
    go_quiet (fail)
    go_wp2_with fail
    go_ret
    exact ⟨rfl, (unhide HH).drew _⟩
  subst hno
  have wa : IntKind.i64.wrap ((a : Int) + 1) = (a : Int) + 1 := by rw [IntKind.wrap_i64]; omega
  have CI := hide (fun u (hu : RdM w0 I u gr (.slice (some ⟨b, off, none⟩) len cap) vy ((a : Int) + 1) C F X m V) => uint_any (some ⟨b, off, none⟩) len cap ((a : Int) + 1) zs u (hu.bytes hz hg) hm)
  have hsm := hz.small
  have hx2 := uint_max zs ((a : Int) + 1) hsm
  have hform : (uintAt zs ((a : Int) + 1)).2.2 = 0 → 0 ≤ (uintAt zs ((a : Int) + 1)).1 ∧ 0 ≤ (uintAt zs ((a : Int) + 1)).2.1 ∧ (uintAt zs ((a : Int) + 1)).2.1 ≤ (len : Int) := fun h0 => by
    obtain ⟨q, k, h1, h2, h3, h4, h5, h6, h7⟩ := uint_form zs ((a : Int) + 1) hsm h0
    have e0 : uintAt zs ((a : Int) + 1) = ((uintAt zs ((a : Int) + 1)).1, (uintAt zs ((a : Int) + 1)).2.1, 0) := by rw [← h0]
    have h8 := uint_nat hsm e0
    refine ⟨h8.1, h8.2, ?_⟩
    omega
  have hO : rdO zs x a = if (uintAt zs ((a : Int) + 1)).2.2 ≠ 0 ∨ (zs.length : Int) - (uintAt zs ((a : Int) + 1)).2.1 < (uintAt zs ((a : Int) + 1)).1 then .error ((a : Int) + 1)
    else .ok ((uintAt zs ((a : Int) + 1)).2.1.toNat, ((uintAt zs ((a : Int) + 1)).2.1 + (uintAt zs ((a : Int) + 1)).1).toNat) := by
    unfold rdO
    rw [if_neg (by rw [hx]; simp)]
  rw [hO, hl]
  clear hO h hz hx
  generalize uintAt zs ((a : Int) + 1) = r at *
  obtain ⟨sz, nx, er⟩ := r
  dsimp only at *
  by_cases he : er ≠ 0
  · have k4 : ¬ er = 0 := he
    rw [if_pos (Or.inl he)]
    go_enter Try.func21, Try.ntmps21
    go_upto_region 1 with fail
    go_quiet (fail)
    go_upto_region 4 with fail
    have R4 := ((unhide HH).drew nq).setAt ((a : Int) + 1)
    obtain ⟨u4, hu4⟩ : ∃ u4, (w.drewN nq).setCell ⟨gr, 2, none⟩ (.int .i64 ((a : Int) + 1)) = u4 := ⟨_, rfl⟩
    rw [hu4] at R4 ⊢
    obtain ⟨d0, d1, d2, d3, d4, d5⟩ := row_cells6 R4.box
    have CI4 := fun q => hide (unhide CI (u4.drewN q) (R4.drew q))
    have H4 := hide R4
    clear R4 hu4 CI c0 c1 c2 c3 c4 c5 fz ca
    go_quiet ((go_at_call 42; exact Calls.quiet_of_same (unhide (CI4 _))))
    have R5 := fun q => (unhide H4).drew q
    go_wp2_with fail
    go_ret
    exact ⟨rfl, R5 _⟩
  · have e0 : er = 0 := by simpa using he
    subst e0
    obtain ⟨f1, f2, f3⟩ := hform rfl
    have w1 : IntKind.i64.wrap ((len : Int) - nx) = (len : Int) - nx := by rw [IntKind.wrap_i64]; omega
    have w2 : IntKind.u64.wrap ((len : Int) - nx) = (len : Int) - nx := by rw [IntKind.wrap_u64]; omega
    clear he hform
    by_cases hbig : (len : Int) - nx < sz
    · rw [if_pos (Or.inr hbig)]
      go_enter Try.func21, Try.ntmps21
      go_upto_region 1 with fail
      go_quiet (fail)
      go_upto_region 4 with fail
      have R4 := ((unhide HH).drew nq).setAt ((a : Int) + 1)
      obtain ⟨u4, hu4⟩ : ∃ u4, (w.drewN nq).setCell ⟨gr, 2, none⟩ (.int .i64 ((a : Int) + 1)) = u4 := ⟨_, rfl⟩
      rw [hu4] at R4 ⊢
      obtain ⟨d0, d1, d2, d3, d4, d5⟩ := row_cells6 R4.box
      have CI4 := fun q => hide (unhide CI (u4.drewN q) (R4.drew q))
      have H4 := hide R4
      clear R4 hu4 CI c0 c1 c2 c3 c4 c5 fz ca
      go_quiet ((go_at_call 42; exact Calls.quiet_of_same (unhide (CI4 _))))
      have R5 := fun q => (unhide H4).drew q
      obtain ⟨u5, hu5⟩ : ∃ u5, u4.drewN nq = u5 := ⟨_, rfl⟩
      have R5' := R5 nq
      rw [hu5] at R5' ⊢
      obtain ⟨g0, g1, g2, g3, g4, g5⟩ := row_cells6 R5'.box
      have H5 := hide R5'
      clear R5 R5' hu5 CI4 d0 d1 d2 d3 d4 d5
      go_wp2_with fail
      go_ret
      exact ⟨rfl, unhide H5⟩
    · rw [if_neg (by omega)]
      obtain ⟨N, rfl⟩ : ∃ N : Nat, nx = (N : Int) := ⟨nx.toNat, by omega⟩
      obtain ⟨S, rfl⟩ : ∃ S : Nat, sz = (S : Int) := ⟨sz.toNat, by omega⟩
      have w3 : IntKind.i64.wrap (S : Int) = (S : Int) := by rw [IntKind.wrap_i64]; omega
      have w4 : IntKind.i64.wrap ((N : Int) + (S : Int)) = (N : Int) + (S : Int) := by rw [IntKind.wrap_i64]; omega
      have w5 : (N : Int) + (S : Int) ≤ (cap : Int) := by omega
      have w6 : 0 ≤ (N : Int) + (S : Int) := by omega
      have HNS : Hid ((((N : Int) + (S : Int)).toNat) = N + S) := hide (by omega)
      rw [Int.toNat_natCast, unhide HNS]
      go_enter Try.func21, Try.ntmps21
      go_upto_region 1 with fail
      go_quiet (fail)
      go_upto_region 4 with fail
      have R4 := ((unhide HH).drew nq).setAt ((a : Int) + 1)
      obtain ⟨u4, hu4⟩ : ∃ u4, (w.drewN nq).setCell ⟨gr, 2, none⟩ (.int .i64 ((a : Int) + 1)) = u4 := ⟨_, rfl⟩
      rw [hu4] at R4 ⊢
      obtain ⟨d0, d1, d2, d3, d4, d5⟩ := row_cells6 R4.box
      have CI4 := fun q => hide (unhide CI (u4.drewN q) (R4.drew q))
      have H4 := hide R4
      clear R4 hu4 CI c0 c1 c2 c3 c4 c5 fz ca
      go_quiet ((go_at_call 42; exact Calls.quiet_of_same (unhide (CI4 _))))
      have R5 := fun q => (unhide H4).drew q
      obtain ⟨u5, hu5⟩ : ∃ u5, u4.drewN nq = u5 := ⟨_, rfl⟩
      have R5' := R5 nq
      rw [hu5] at R5' ⊢
      obtain ⟨g0, g1, g2, g3, g4, g5⟩ := row_cells6 R5'.box
      have H5 := hide R5'
      clear R5 R5' hu5 CI4 d0 d1 d2 d3 d4 d5
      have t2 := frozen_of_row u5 gr 2 _ _ (unhide H5).box
      have t1 := frozen_of_row u5 gr 1 _ _ (unhide H5).box
      go_upto_region 7 with fail
      go_region_held3 (fun u => u.cell? ⟨gr, 0, none⟩ = some (.slice (some ⟨b, off, none⟩) len cap)) (first | assumption | exact (row_cells6 ((unhide H5).setAt _).box).1 | exact (row_cells6 ((unhide H5).setY _ _).box).1 | exact (row_cells6 (unhide H5).box).1) (fail)
      have H9 := hide ((unhide H5).setY (N : Int) (.slice (some ⟨b, off, none⟩) (N + S) cap))
      go_wp2_with fail
      go_ret
      first
        | exact ⟨rfl, unhide H9⟩
        | exact ⟨rfl, (unhide H9).drew 1⟩
end Go.Proofs.Ytfdnhpmldnmncaa
