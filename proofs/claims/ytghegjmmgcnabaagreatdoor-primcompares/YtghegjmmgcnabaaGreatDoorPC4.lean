/-
  PrimCompares of any two values: its ways put together; conditions: the package's variables.
-/
import Derived.Test.YtghegjmmgcnabaaGreatDoorPCa
import Derived.Test.YtghegjmmgcnabaaGreatDoorPCb
import Derived.Test.YtghegjmmgcnabaaGreatDoorWPut
namespace Go.Proofs.YtghegjmmgcnabaaGreatDoor
open Go.RowKit Go.Shelf
set_option linter.unusedVariables false
set_option linter.unusedSimpArgs false

theorem doC_any (x y : Vl) : DoC 17 x y ∧ DoC 18 x y ∧ DoC 19 x y ∧ DoC 20 x y ∧ DoC 21 x y ∧ DoC 22 x y :=
  ⟨fun p0 p1 p2 p3 p4 p5 p6 p7 p8 q0 q1 q2 q3 q4 q5 q6 q7 q8 g B T w ht hx hy hBs hr => do_eq x y p0 p1 p2 p3 p4 p5 p6 p7 p8 q0 q1 q2 q3 q4 q5 q6 q7 q8 g B T w ht hx hy hBs hr,
   fun p0 p1 p2 p3 p4 p5 p6 p7 p8 q0 q1 q2 q3 q4 q5 q6 q7 q8 g B T w ht hx hy hBs hr => do_ne x y p0 p1 p2 p3 p4 p5 p6 p7 p8 q0 q1 q2 q3 q4 q5 q6 q7 q8 g B T w ht hx hy hBs hr,
   fun p0 p1 p2 p3 p4 p5 p6 p7 p8 q0 q1 q2 q3 q4 q5 q6 q7 q8 g B T w ht hx hy hBs hr => do_lt x y p0 p1 p2 p3 p4 p5 p6 p7 p8 q0 q1 q2 q3 q4 q5 q6 q7 q8 g B T w ht hx hy hBs hr,
   fun p0 p1 p2 p3 p4 p5 p6 p7 p8 q0 q1 q2 q3 q4 q5 q6 q7 q8 g B T w ht hx hy hBs hr => do_le x y p0 p1 p2 p3 p4 p5 p6 p7 p8 q0 q1 q2 q3 q4 q5 q6 q7 q8 g B T w ht hx hy hBs hr,
   fun p0 p1 p2 p3 p4 p5 p6 p7 p8 q0 q1 q2 q3 q4 q5 q6 q7 q8 g B T w ht hx hy hBs hr => do_gt x y p0 p1 p2 p3 p4 p5 p6 p7 p8 q0 q1 q2 q3 q4 q5 q6 q7 q8 g B T w ht hx hy hBs hr,
   fun p0 p1 p2 p3 p4 p5 p6 p7 p8 q0 q1 q2 q3 q4 q5 q6 q7 q8 g B T w ht hx hy hBs hr => do_ge x y p0 p1 p2 p3 p4 p5 p6 p7 p8 q0 q1 q2 q3 q4 q5 q6 q7 q8 g B T w ht hx hy hBs hr⟩

/-- what Encode answers, as PrimCompares reads it -/
theorem enc_for (v : Vl) (x : Value) (B : Nat) (w : World) (hv : IsV w B v x) (hBs : B ≤ w.heap.size) :
    Calls Tryz.prog 23 #[x] w fun e w' => ∃ (ao : Option Addr) (len cap : Nat), e = .returned (.tuple #[.slice ao len cap, .int .i64 (codeR v)]) ∧ (codeR v = 0 → ∀ u', Below w'.heap.size w' u' → Sem.run Tryz.prog (convert 40 9 (.slice ao len cap)) u' = .ok (.string (strOfNums (wenc v))) u') ∧ Below w.heap.size w w' := by
  refine (encode_any v x B w hv hBs).mono ?_
  rintro e w' ⟨ao, len, cap, rfl, hr, hb, _, _⟩
  refine ⟨ao, len, cap, rfl, fun hc u' hu => ?_, hb⟩
  have hR : rightB v = true := by
    cases h : rightB v with
    | true => rfl
    | false => unfold codeR at hc; rw [h] at hc; simp at hc
  have hz : wenc0R v = wenc v := by unfold wenc0R; rw [hR, if_pos rfl]
  rw [hz] at hr
  have hl := hr.length
  have hp := wenc_pos v 8 (right_wt hR).1
  obtain ⟨b, off, rfl, hcl⟩ := hr.at (by omega)
  have := conv_row (w := u') hl (fun j hj => cell_later hu (hcl j hj)) 0 len cap (by omega) 0
  rw [Nat.add_zero, List.drop_zero, List.take_of_length_le (by omega)] at this
  exact this

theorem bytes_eqC (s t : ByteArray) : (s.toList == t.toList) = true ↔ s = t := by
  rw [beq_iff_eq]
  exact ⟨toList_injZ, fun h => by rw [h]⟩

theorem wenc_same {x y : Vl} (hx : rightB x = true) (hy : rightB y = true) (h : wenc x = wenc y) : x = y :=
  (wenc_split x y 8 8 [] [] (right_wt hx).1 (right_wt hy).1 (by rw [h])).1

set_option maxRecDepth 100000 in
theorem compares_any (x y : Vl) (p0 p1 : Int) (p2 : ByteArray) (p3 : Option Addr) (p4 p5 : Nat) (p6 : Option Addr) (p7 p8 : Nat) (q0 q1 : Int) (q2 : ByteArray) (q3 : Option Addr) (q4 q5 : Nat) (q6 : Option Addr) (q7 q8 : Nat) (B : Nat) (w : World) (ht : Tab w) (hx : IsV w B x (.agg #[.int .i64 p0, .int .i64 p1, .string p2, .slice p3 p4 p5, .slice p6 p7 p8])) (hy : IsV w B y (.agg #[.int .i64 q0, .int .i64 q1, .string q2, .slice q3 q4 q5, .slice q6 q7 q8])) (hBs : B ≤ w.heap.size) :
    Calls Tryz.prog 6 #[.agg #[.int .i64 p0, .int .i64 p1, .string p2, .slice p3 p4 p5, .slice p6 p7 p8], .agg #[.int .i64 q0, .int .i64 q1, .string q2, .slice q3 q4 q5, .slice q6 q7 q8]] w fun e w' => e = .returned (.bool true) ∧ Below w.heap.size w w' := by
  have hSh : ∀ u, Below w.heap.size w u → Calls Tryz.prog 9 #[] u fun e w' => e = .returned (.bool true) ∧ Below u.heap.size u w' := fun u hu => shown_any u (ht.later hu ht.big hu.size)
  have hE1 := fun u (hu : Below w.heap.size w u) => enc_for x _ B u (IsV.mono (hu.mono hBs) hx) (Nat.le_trans hBs hu.size)
  have hE2 := fun u (hu : Below w.heap.size w u) => enc_for y _ B u (IsV.mono (hu.mono hBs) hy) (Nat.le_trans hBs hu.size)
  obtain ⟨d17, d18, d19, d20, d21, d22⟩ := doC_any x y
  have hT : ∀ k, DoC k x y → ∀ u, Below w.heap.size w u → Calls Tryz.prog 24 #[.int .i64 k, .agg #[.int .i64 p0, .int .i64 p1, .string p2, .slice p3 p4 p5, .slice p6 p7 p8], .agg #[.int .i64 q0, .int .i64 q1, .string q2, .slice q3 q4 q5, .slice q6 q7 q8]] u fun e w' => e = .returned (.tuple #[.bool (okC k x y && tst k (ord0 x y)), .bool (okC k x y)]) ∧ Below u.heap.size u w' :=
    fun k hk u hu => truthL_any k x y hk p0 p1 p2 p3 p4 p5 p6 p7 p8 q0 q1 q2 q3 q4 q5 q6 q7 q8 B u (ht.later hu ht.big hu.size) (IsV.mono (hu.mono hBs) hx) (IsV.mono (hu.mono hBs) hy) (Nat.le_trans hBs hu.size)
  have t17 := hT 17 d17
  have t18 := hT 18 d18
  have t19 := hT 19 d19
  have t20 := hT 20 d20
  have t21 := hT 21 d21
  have t22 := hT 22 d22
  have kx : x.kind = p0 := by
    obtain ⟨k, n, s, l, ks, al, ak, cl, ck, rfl, he⟩ := hx.shape
    have h1 := congrArg Array.toList (Value.agg.inj he)
    simp only [List.cons.injEq, Value.int.injEq, true_and] at h1
    exact h1.1.symm
  have ky : y.kind = q0 := by
    obtain ⟨k, n, s, l, ks, al, ak, cl, ck, rfl, he⟩ := hy.shape
    have h1 := congrArg Array.toList (Value.agg.inj he)
    simp only [List.cons.injEq, Value.int.injEq, true_and] at h1
    exact h1.1.symm
  cases hm : (rightB x && rightB y) with
  | false =>
    have ho : ∀ k, okC k x y = false := fun k => by unfold okC; rw [hm]; rfl
    simp only [ho, Bool.false_and] at t17 t18 t19 t20 t21 t22
    refine cmp_no p0 p1 p2 p3 p4 p5 p6 p7 p8 q0 q1 q2 q3 q4 q5 q6 q7 q8 _ _ _ _ w ?_ hSh hE1 hE2 t17 t18 t19 t20 t21 t22
    unfold codeR
    cases h1 : rightB x with
    | false => left; simp
    | true =>
      rw [h1] at hm
      have h2 : rightB y = false := by simpa using hm
      right
      rw [h2]
      simp
  | true =>
    have hxy := hm
    rw [Bool.and_eq_true] at hxy
    have hc1 : codeR x = 0 := by unfold codeR; rw [hxy.1]; rfl
    have hc2 : codeR y = 0 := by unfold codeR; rw [hxy.2]; rfl
    have o17 : okC 17 x y = true := by unfold okC; rw [hm]; rfl
    have o18 : okC 18 x y = true := by unfold okC; rw [hm]; rfl
    have oo : ∀ k, 19 ≤ k → okC k x y = ordB x y := fun k hk => by unfold okC; rw [hm, decide_eq_false (by omega)]; simp
    have o19 := oo 19 (by omega)
    have o20 := oo 20 (by omega)
    have o21 := oo 21 (by omega)
    have o22 := oo 22 (by omega)
    have hO1 : ordB x y = true → p0 = q0 ∧ (p0 = 2 ∨ p0 = 3) := fun h => by unfold ordB at h; rw [kx, ky] at h; simpa using h
    have hO0 : ordB x y = false → ¬ (p0 = q0 ∧ (p0 = 2 ∨ p0 = 3)) := fun h e => by
      unfold ordB at h
      rw [kx, ky] at h
      have : (p0 == q0 && (p0 == 2 || p0 == 3)) = true := by simpa using e
      rw [this] at h
      cases h
    have hTT : ord0 x y = 0 → ((strOfNums (wenc x)).toList == (strOfNums (wenc y)).toList) = true := fun h => by
      rw [(ord0_zero hxy.1 hxy.2).1 h]
      simp
    have hTF : ¬ ord0 x y = 0 → ((strOfNums (wenc x)).toList == (strOfNums (wenc y)).toList) = false := fun h => by
      cases hb : ((strOfNums (wenc x)).toList == (strOfNums (wenc y)).toList) with
      | false => rfl
      | true =>
        have h1 := (bytes_eqC _ _).1 hb
        have h2 := str_inj _ _ (wenc_small x 8 (right_wt hxy.1).1 hx.fit) (wenc_small y 8 (right_wt hxy.2).1 hy.fit) h1
        exact absurd ((ord0_zero hxy.1 hxy.2).2 (wenc_same hxy.1 hxy.2 h2)) h
    rw [o17] at t17
    rw [o18] at t18
    rw [o19] at t19
    rw [o20] at t20
    rw [o21] at t21
    rw [o22] at t22
    rw [hc1] at hE1
    rw [hc2] at hE2
    obtain ⟨c, hc⟩ : ∃ c, ord0 x y = c := ⟨_, rfl⟩
    rw [hc] at t17 t18 t19 t20 t21 t22 hTT hTF
    rcases Int.lt_trichotomy c 0 with hlt | h0 | hgt
    · have e17 : tst 17 c = false := by simp [tst]; omega
      have e18 : tst 18 c = true := by simp [tst]; omega
      have e19 : tst 19 c = true := by simp [tst]; omega
      have e20 : tst 20 c = true := by simp [tst]; omega
      have e21 : tst 21 c = false := by simp [tst]; omega
      have e22 : tst 22 c = false := by simp [tst]; omega
      rw [e17] at t17; rw [e18] at t18; rw [e19] at t19; rw [e20] at t20; rw [e21] at t21; rw [e22] at t22
      cases hO : ordB x y with
      | true =>
        rw [hO] at t19 t20 t21 t22
        exact cmp_l1 p0 p1 p2 p3 p4 p5 p6 p7 p8 q0 q1 q2 q3 q4 q5 q6 q7 q8 _ _ _ _ w ⟨rfl, rfl⟩ hSh hE1 hE2 t17 t18 t19 t20 t21 t22 (hTF (by omega)) (hO1 hO)
      | false =>
        rw [hO] at t19 t20 t21 t22
        exact cmp_l0 p0 p1 p2 p3 p4 p5 p6 p7 p8 q0 q1 q2 q3 q4 q5 q6 q7 q8 _ _ _ _ w ⟨rfl, rfl⟩ hSh hE1 hE2 t17 t18 t19 t20 t21 t22 (hTF (by omega)) (hO0 hO)
    · have e17 : tst 17 c = true := by simp [tst]; omega
      have e18 : tst 18 c = false := by simp [tst]; omega
      have e19 : tst 19 c = false := by simp [tst]; omega
      have e20 : tst 20 c = true := by simp [tst]; omega
      have e21 : tst 21 c = false := by simp [tst]; omega
      have e22 : tst 22 c = true := by simp [tst]; omega
      rw [e17] at t17; rw [e18] at t18; rw [e19] at t19; rw [e20] at t20; rw [e21] at t21; rw [e22] at t22
      cases hO : ordB x y with
      | true =>
        rw [hO] at t19 t20 t21 t22
        exact cmp_z1 p0 p1 p2 p3 p4 p5 p6 p7 p8 q0 q1 q2 q3 q4 q5 q6 q7 q8 _ _ _ _ w ⟨rfl, rfl⟩ hSh hE1 hE2 t17 t18 t19 t20 t21 t22 (hTT h0) (hO1 hO)
      | false =>
        rw [hO] at t19 t20 t21 t22
        exact cmp_z0 p0 p1 p2 p3 p4 p5 p6 p7 p8 q0 q1 q2 q3 q4 q5 q6 q7 q8 _ _ _ _ w ⟨rfl, rfl⟩ hSh hE1 hE2 t17 t18 t19 t20 t21 t22 (hTT h0) (hO0 hO)
    · have e17 : tst 17 c = false := by simp [tst]; omega
      have e18 : tst 18 c = true := by simp [tst]; omega
      have e19 : tst 19 c = false := by simp [tst]; omega
      have e20 : tst 20 c = false := by simp [tst]; omega
      have e21 : tst 21 c = true := by simp [tst]; omega
      have e22 : tst 22 c = true := by simp [tst]; omega
      rw [e17] at t17; rw [e18] at t18; rw [e19] at t19; rw [e20] at t20; rw [e21] at t21; rw [e22] at t22
      cases hO : ordB x y with
      | true =>
        rw [hO] at t19 t20 t21 t22
        exact cmp_g1 p0 p1 p2 p3 p4 p5 p6 p7 p8 q0 q1 q2 q3 q4 q5 q6 q7 q8 _ _ _ _ w ⟨rfl, rfl⟩ hSh hE1 hE2 t17 t18 t19 t20 t21 t22 (hTF (by omega)) (hO1 hO)
      | false =>
        rw [hO] at t19 t20 t21 t22
        exact cmp_g0 p0 p1 p2 p3 p4 p5 p6 p7 p8 q0 q1 q2 q3 q4 q5 q6 q7 q8 _ _ _ _ w ⟨rfl, rfl⟩ hSh hE1 hE2 t17 t18 t19 t20 t21 t22 (hTF (by omega)) (hO0 hO)
end Go.Proofs.YtghegjmmgcnabaaGreatDoor
