/-
  What is read as a module (layer 9) is right, and its bytes are those that were read; where bytes are wrong lies within them; no conditions.
-/
import Derived.Test.YtfdnhpmldnmncaaR31
import Derived.Test.YtfdnhpmldnmncaaR41
import Derived.Test.YtfdnhpmldnmncaaR28
namespace Go.Proofs.Ytfdnhpmldnmncaa
open Go.RowKit

theorem no_ok {bs : List Int} (hs : ∀ c ∈ bs, 0 ≤ c ∧ c ≤ 255) {a : Nat} {most above n : Int} {nx : Nat} (h : rdNo bs a most above = .ok (n, nx)) : 0 ≤ n ∧ n ≤ most ∧ a < nx ∧ nx ≤ bs.length ∧ encF 9 n = (bs.drop a).take (nx - a) := by
  unfold rdNo at h
  split at h
  · cases h
  · rename_i h0
    split at h
    · cases h
    · rename_i h1
      simp only [Except.ok.injEq, Prod.mk.injEq] at h
      obtain ⟨rfl, rfl⟩ := h
      obtain ⟨q, k, e1, e2, e3, e4, e5, e6, e7⟩ := uint_form bs (a : Int) hs (by simpa using h0)
      obtain rfl : a = q := by omega
      have e8 : (uintAt bs (a : Int)).2.1.toNat = a + k := by omega
      refine ⟨e7, by omega, by omega, by omega, ?_⟩
      rw [e6, e8, Nat.add_sub_cancel_left]

theorem tx_ok {bs : List Int} (hs : ∀ c ∈ bs, 0 ≤ c ∧ c ≤ 255) {a : Nat} {most : Int} {t : ByteArray} {nx : Nat} (h : rdTx bs a most = .ok (t, nx)) : (t.size : Int) ≤ most ∧ a ≤ nx ∧ nx ≤ bs.length ∧ encF 9 (t.size : Int) ++ nums t = (bs.drop a).take (nx - a) := by
  unfold rdTx at h
  split at h
  · cases h
  · split at h
    · cases h
    · rename_i h1
      simp only [Except.ok.injEq, Prod.mk.injEq] at h
      obtain ⟨rfl, rfl⟩ := h
      obtain ⟨b, b1, b2, b3, b4, b5⟩ := text_form bs most a hs (by simpa using h1)
      have e8 : (textOfU bs most (uintAt bs (a : Int))).2.1.toNat = b := by omega
      rw [e8]
      exact ⟨b4, b1, b2, b5⟩

theorem exs_snoc (nf : Nat) (x : Ex) : ∀ (p : ByteArray) (l : List Ex), exsB nf p (l ++ [x]) = (exsB nf p l && exB nf (match l.getLast? with | none => p | some y => y.1) x)
  | p, [] => by simp [exsB]
  | p, [y] => by simp [exsB]
  | p, y :: z :: r => by
    rw [List.cons_append, exsB, exs_snoc nf x y.1 (z :: r), exsB, List.getLast?_cons_cons, Bool.and_assoc]
    cases h : (z :: r).getLast? with
    | none => simp at h
    | some q => simp [exsB, Bool.and_assoc]

/-- what is known of a module that is being read -/
structure Ri (m : Md) : Prop where
  cs : ∀ v ∈ m.cs, rightB v = true ∧ fitB v = true
  fs : ∀ f ∈ m.fs, fnB f = true
  xs : exsB m.fs.length ⟨#[]⟩ m.xs = true

/-- what is known ahead of a part of a section -/
def Jk (i k : Nat) (m : Md) : Prop := Ri m ∧ ((i = 0 ∧ m.cs.length = k ∧ m.fs.length = 0 ∧ m.xs.length = 0) ∨ (i = 1 ∧ m.cs.length ≤ 100 ∧ m.fs.length = k ∧ m.xs.length = 0) ∨ (i = 2 ∧ m.cs.length ≤ 100 ∧ m.fs.length ≤ 24 ∧ m.xs.length = k))

theorem one_ok {bs : List Int} (hs : ∀ c ∈ bs, 0 ≤ c ∧ c ≤ 255) (i : Nat) (k : Nat) (m : Md) (a : Nat) (m' : Md) (a' : Nat) (hJ : Jk i k m) (_ha : a ≤ bs.length) (h : rdOne i bs m a = .ok (m', a')) :
    Jk i (k + 1) m' ∧ ∃ z, partsM m' i = partsM m i ++ [z] ∧ z = (bs.drop a).take (a' - a) ∧ a ≤ a' ∧ a' ≤ bs.length ∧ ∀ j, j ≠ i → j ≤ 2 → partsM m' j = partsM m j := by
  obtain ⟨R, hJ⟩ := hJ
  rcases hJ with ⟨rfl, j1, j2, j3⟩ | ⟨rfl, j1, j2, j3⟩ | ⟨rfl, j1, j2, j3⟩
  · unfold rdOne at h
    rw [if_pos rfl] at h
    unfold rdC at h
    cases hT : takeR bs (a : Int) with
    | error p => rw [hT] at h; cases h
    | ok q =>
      obtain ⟨v, n⟩ := q
      rw [hT] at h
      cases h
      obtain ⟨a0, h0, t, _, SN⟩ := take_bound hs hT
      obtain rfl : a = a0 := by omega
      refine ⟨⟨⟨fun x hx => ?_, R.fs, R.xs⟩, Or.inl ⟨rfl, by simp; omega, j2, j3⟩⟩, wenc v, by simp [partsM], SN.enc, by have := SN.lt; omega, SN.le, fun j hj hj2 => ?_⟩
      · rcases List.mem_append.1 hx with hx | hx
        · exact R.cs x hx
        · simp at hx; subst hx; exact ⟨right_of_snd SN, SN.fit⟩
      · unfold partsM; rw [if_neg hj]; rw [if_neg hj]
  · unfold rdOne at h
    rw [if_neg (by omega), if_pos rfl] at h
    unfold rdF at h
    cases h1 : rdNo bs a 8 92 with
    | error c => rw [h1] at h; cases h
    | ok r1 =>
      obtain ⟨p, a1⟩ := r1
      rw [h1] at h
      dsimp only at h
      obtain ⟨p0, p1, p2, p3, p4⟩ := no_ok hs h1
      cases h2 : rdNo bs a1 32 92 with
      | error c => rw [h2] at h; cases h
      | ok r2 =>
        obtain ⟨l, a2⟩ := r2
        rw [h2] at h
        dsimp only at h
        obtain ⟨l0, l1, l2, l3, l4⟩ := no_ok hs h2
        by_cases hlp : l < p
        · rw [if_pos hlp] at h; cases h
        rw [if_neg hlp] at h
        cases h3 : rdNo bs a2 40 92 with
        | error c => rw [h3] at h; cases h
        | ok r3 =>
          obtain ⟨s, a3⟩ := r3
          rw [h3] at h
          dsimp only at h
          obtain ⟨s0, s1, s2, s3, s4⟩ := no_ok hs h3
          cases h4 : rdTx bs a3 4000 with
          | error c => rw [h4] at h; cases h
          | ok r4 =>
            obtain ⟨t, a4⟩ := r4
            rw [h4] at h
            cases h
            obtain ⟨t0, t1, t2, t3⟩ := tx_ok hs h4
            refine ⟨⟨⟨R.cs, fun x hx => ?_, ?_⟩, Or.inr (Or.inl ⟨rfl, j1, by simp; omega, j3⟩)⟩, encFn (p, l, s, t), by simp [partsM], ?_, by omega, t2, fun j hj hj2 => ?_⟩
            · rcases List.mem_append.1 hx with hx | hx
              · exact R.fs x hx
              · simp at hx
                subst hx
                unfold fnB
                simp only [Bool.and_eq_true, decide_eq_true_eq]
                omega
            · have : m.xs = [] := List.eq_nil_of_length_eq_zero j3
              dsimp only
              rw [this]
              rfl
            · unfold encFn
              dsimp only
              rw [p4, l4, s4, t3, take_join _ _ _ _ (by omega) (by omega), take_join _ _ _ _ (by omega) (by omega), take_join _ _ _ _ (by omega) (by omega)]
            · unfold partsM
              by_cases h0 : j = 0
              · rw [if_pos h0, if_pos h0]
              · rw [if_neg h0, if_neg h0, if_neg hj, if_neg hj]
  · unfold rdOne at h
    rw [if_neg (by omega), if_neg (by omega)] at h
    unfold rdX at h
    cases h1 : rdTx bs a 20 with
    | error c => rw [h1] at h; cases h
    | ok r1 =>
      obtain ⟨t, a1⟩ := r1
      rw [h1] at h
      dsimp only at h
      obtain ⟨t0, t1, t2, t3⟩ := tx_ok hs h1
      by_cases hN : (nameB t && Op.bytesLess (lastN m).toList t.toList) = false
      · rw [if_pos hN] at h; cases h
      rw [if_neg hN] at h
      cases h2 : rdNo bs a1 ((m.fs.length : Int) - 1) 90 with
      | error c => rw [h2] at h; cases h
      | ok r2 =>
        obtain ⟨f, a2⟩ := r2
        rw [h2] at h
        cases h
        obtain ⟨f0, f1, f2, f3, f4⟩ := no_ok hs h2
        refine ⟨⟨⟨R.cs, R.fs, ?_⟩, Or.inr (Or.inr ⟨rfl, j1, j2, by simp; omega⟩)⟩, encEx (t, f), by simp [partsM], ?_, by omega, f3, fun j hj hj2 => ?_⟩
        · dsimp only
          rw [exs_snoc, R.xs]
          have hN' : nameB t = true ∧ Op.bytesLess (lastN m).toList t.toList = true := by simpa using hN
          unfold exB
          dsimp only
          have e : (match m.xs.getLast? with | none => (⟨#[]⟩ : ByteArray) | some y => y.1) = lastN m := rfl
          rw [e, hN'.1, hN'.2, decide_eq_true f0, decide_eq_true (show f < (m.fs.length : Int) by omega)]
          rfl
        · unfold encEx
          dsimp only
          rw [t3, f4, take_join _ _ _ _ (by omega) (by omega)]
        · unfold partsM
          by_cases h0 : j = 0
          · rw [if_pos h0, if_pos h0]
          · rw [if_neg h0, if_neg h0]
            by_cases h1 : j = 1
            · rw [if_pos h1, if_pos h1]
            · omega

theorem n_ok {bs : List Int} (hs : ∀ c ∈ bs, 0 ≤ c ∧ c ≤ 255) (i : Nat) : ∀ (n k : Nat) (m : Md) (a : Nat) (m' : Md) (a' : Nat), Jk i k m → a ≤ bs.length → rdN (rdOne i bs) n m a = .ok (m', a') →
    Jk i (k + n) m' ∧ ∃ L, partsM m' i = partsM m i ++ L ∧ L.length = n ∧ L.flatten = (bs.drop a).take (a' - a) ∧ a ≤ a' ∧ a' ≤ bs.length ∧ ∀ j, j ≠ i → j ≤ 2 → partsM m' j = partsM m j
  | 0, k, m, a, m', a', hJ, ha, h => by
    simp only [rdN] at h
    cases h
    exact ⟨hJ, [], by simp, rfl, by simp, Nat.le_refl _, ha, fun _ _ _ => rfl⟩
  | n + 1, k, m, a, m', a', hJ, ha, h => by
    simp only [rdN] at h
    cases h1 : rdOne i bs m a with
    | error e => rw [h1] at h; cases h
    | ok r =>
      obtain ⟨m1, a1⟩ := r
      rw [h1] at h
      obtain ⟨J1, z, z1, z2, z3, z4, z5⟩ := one_ok hs i k m a m1 a1 hJ ha h1
      obtain ⟨J2, L, l1, l2, l3, l4, l5, l6⟩ := n_ok hs i n (k + 1) m1 a1 m' a' J1 z4 h
      refine ⟨by rw [show k + (n + 1) = k + 1 + n by omega]; exact J2, z :: L, by rw [l1, z1]; simp, by simp [l2], ?_, by omega, l5, fun j hj hj2 => (l6 j hj hj2).trans (z5 j hj hj2)⟩
      rw [List.flatten_cons, l3, z2, take_join _ _ _ _ z3 l4]

/-- a section that was read -/
theorem s_ok {zs : List Int} (hs : ∀ c ∈ zs, 0 ≤ c ∧ c ≤ 255) (i : Nat) (hi : i ≤ 2) (m : Md) (a : Nat) (m' : Md) (a' : Nat) (hJ : Jk i 0 m) (h : rdS zs i m a = .ok (m', a')) :
    ∃ n : Nat, (n : Int) ≤ mostM i ∧ Jk i n m' ∧ secM i (partsM m' i) = (zs.drop a).take (a' - a) ∧ a ≤ a' ∧ a' ≤ zs.length ∧ ∀ j, j ≠ i → j ≤ 2 → partsM m' j = partsM m j := by
  unfold rdS rdO at h
  by_cases h0 : zs[a]? ≠ some ((i : Int) + 1)
  · rw [if_pos h0] at h; cases h
  rw [if_neg h0] at h
  have hz0 : zs[a]? = some ((i : Int) + 1) := by simpa using h0
  by_cases h1 : (uintAt zs ((a : Int) + 1)).2.2 ≠ 0 ∨ (zs.length : Int) - (uintAt zs ((a : Int) + 1)).2.1 < (uintAt zs ((a : Int) + 1)).1
  · rw [if_pos h1] at h; cases h
  rw [if_neg h1] at h
  dsimp only at h
  obtain ⟨q, kk, e1, e2, e3, e4, e5, e6, e7⟩ := uint_form zs ((a : Int) + 1) hs (by have := h1; simp at this; exact this.1)
  obtain rfl : q = a + 1 := by omega
  obtain ⟨S, hS⟩ : ∃ S : Nat, (uintAt zs ((a : Int) + 1)).1 = (S : Int) := ⟨_, (Int.toNat_of_nonneg e7).symm⟩
  rw [hS] at h e6 h1
  obtain ⟨b, hb⟩ : ∃ b, a + 1 + kk = b := ⟨_, rfl⟩
  rw [hb] at e5 e4
  rw [e5] at h h1
  rw [show ((b : Int)).toNat = b by omega, show ((b : Int) + (S : Int)).toNat = b + S by omega] at h
  have hle : b + S ≤ zs.length := by simp only [not_or, Int.not_lt] at h1; omega
  have hbl : (zs.take (b + S)).length = b + S := by rw [List.length_take]; omega
  have hbs : ∀ c ∈ zs.take (b + S), 0 ≤ c ∧ c ≤ 255 := fun c hc => hs c (List.mem_of_mem_take hc)
  unfold rdP at h
  cases h2 : rdNo (zs.take (b + S)) b (mostM i) 92 with
  | error c => rw [h2] at h; cases h
  | ok r2 =>
    obtain ⟨nI, a1⟩ := r2
    rw [h2] at h
    dsimp only at h
    obtain ⟨n0, n1, n2, n3, n4⟩ := no_ok hbs h2
    cases h3 : rdN (rdOne i (zs.take (b + S))) nI.toNat m a1 with
    | error e => rw [h3] at h; cases h
    | ok r3 =>
      obtain ⟨m2, a2⟩ := r3
      rw [h3] at h
      dsimp only at h
      by_cases h4 : a2 < (zs.take (b + S)).length
      · rw [if_pos h4] at h; cases h
      rw [if_neg h4] at h
      cases h
      obtain ⟨J2, L, l1, l2, l3, l4, l5, l6⟩ := n_ok hbs i nI.toNat 0 m a1 m' a' hJ n3 h3
      rw [hbl] at l5 h4 n3
      obtain rfl : a' = b + S := by omega
      have hp0 : partsM m i = [] := by
        obtain ⟨_, hJ⟩ := hJ
        rcases hJ with ⟨rfl, j1, _, _⟩ | ⟨rfl, _, j2, _⟩ | ⟨rfl, _, _, j3⟩
        · simp [partsM, List.eq_nil_of_length_eq_zero j1]
        · simp [partsM, List.eq_nil_of_length_eq_zero j2]
        · simp [partsM, List.eq_nil_of_length_eq_zero j3]
      rw [hp0, List.nil_append] at l1
      have hL : (L.length : Int) = nI := by omega
      have hbody : bodyM L = (zs.drop b).take S := by
        unfold bodyM
        rw [hL, n4, l3, take_join _ _ _ _ (by omega) (by omega), Nat.add_sub_cancel_left, List.drop_take, Nat.add_sub_cancel_left, List.take_take, Nat.min_self]
      have hbodyl : (bodyM L).length = S := by rw [hbody, List.length_take, List.length_drop]; omega
      refine ⟨nI.toNat, by omega, by rw [Nat.zero_add] at J2; exact J2, ?_, by omega, hle, l6⟩
      unfold secM
      have e9 := take_join zs (a + 1) b (b + S) (by omega) (by omega)
      rw [show b - (a + 1) = kk by omega, Nat.add_sub_cancel_left] at e9
      rw [l1, hbodyl, e6, hbody, take_cons zs a (b + S) _ hz0 (by omega), ← e9]

theorem J_next {i n : Nat} {m : Md} (hn : (n : Int) ≤ mostM i) (h : Jk i n m) (hi : i ≤ 1) : Jk (i + 1) 0 m := by
  obtain ⟨R, h⟩ := h
  unfold mostM at hn
  rcases h with ⟨rfl, j1, j2, j3⟩ | ⟨rfl, j1, j2, j3⟩ | ⟨rfl, j1, j2, j3⟩
  · rw [if_pos rfl] at hn
    exact ⟨R, Or.inr (Or.inl ⟨rfl, by omega, j2, j3⟩)⟩
  · rw [if_neg (by omega)] at hn
    exact ⟨R, Or.inr (Or.inr ⟨rfl, j1, by omega, j3⟩)⟩
  · omega

theorem J_start : Jk 0 0 ⟨[], [], []⟩ := ⟨⟨(fun v h => by cases h), (fun f h => by cases h), rfl⟩, Or.inl ⟨rfl, rfl, rfl, rfl⟩⟩

theorem decM_sound {zs : List Int} (hs : ∀ c ∈ zs, 0 ≤ c ∧ c ≤ 255) {m : Md} (h : decM zs = .ok m) : rightM m = true ∧ encM m = zs ∧ ∀ v ∈ m.cs, fitB v = true := by
  unfold decM at h
  by_cases h0 : 65536 < zs.length
  · rw [if_pos h0] at h; cases h
  rw [if_neg h0] at h
  by_cases h1 : zs.take 4 ≠ [83, 67, 77, 49]
  · rw [if_pos h1] at h; cases h
  rw [if_neg h1] at h
  have h1' : zs.take 4 = headM := Classical.not_not.1 h1
  have h4 : 4 ≤ zs.length := by
    have := congrArg List.length h1'
    rw [List.length_take] at this
    have e : headM.length = 4 := rfl
    omega
  simp only [rdAllM] at h
  cases r0 : rdS zs 0 ⟨[], [], []⟩ 4 with
  | error e => rw [r0] at h; cases h
  | ok q0 =>
    obtain ⟨m1, a1⟩ := q0
    rw [r0] at h
    dsimp only at h
    obtain ⟨n0, x0, x1, x2, x3, x4, x5⟩ := s_ok hs 0 (by omega) _ _ _ _ J_start r0
    cases r1 : rdS zs (0 + 1) m1 a1 with
    | error e => rw [r1] at h; cases h
    | ok q1 =>
      obtain ⟨m2, a2⟩ := q1
      rw [r1] at h
      dsimp only at h
      obtain ⟨n1, y0, y1, y2, y3, y4, y5⟩ := s_ok hs 1 (by omega) _ _ _ _ (J_next x0 x1 (by omega)) r1
      cases r2 : rdS zs (0 + 1 + 1) m2 a2 with
      | error e => rw [r2] at h; cases h
      | ok q2 =>
        obtain ⟨m3, a3⟩ := q2
        rw [r2] at h
        dsimp only at h
        obtain ⟨n2, z0, z1, z2, z3, z4, z5⟩ := s_ok hs 2 (by omega) _ _ _ _ (J_next y0 y1 (by omega)) r2
        by_cases h5 : a3 < zs.length
        · rw [if_pos h5] at h; cases h
        rw [if_neg h5] at h
        cases h
        have e0 : partsM m 0 = partsM m1 0 := (z5 0 (by omega) (by omega)).trans (y5 0 (by omega) (by omega))
        have e1 : partsM m 1 = partsM m2 1 := z5 1 (by omega) (by omega)
        have hE : encM m = zs := by
          unfold encM
          simp only [outM]
          rw [e0, e1, x2, y2, z2, ← h1']
          have q1 : zs.take 4 = (zs.drop 0).take (4 - 0) := by simp
          rw [q1, take_join _ _ _ _ (by omega) x3, take_join _ _ _ _ (by omega) y3, take_join _ _ _ _ (by omega) z3]
          rw [List.drop_zero, Nat.sub_zero, List.take_of_length_le (by omega)]
        obtain ⟨R, hz⟩ := z1
        refine ⟨?_, hE, fun v hv => (R.cs v hv).2⟩
        unfold rightM formedB
        rw [hE]
        have zz : m.cs.length ≤ 100 ∧ m.fs.length ≤ 24 ∧ m.xs.length ≤ 24 := by
          unfold mostM at z0
          rw [if_neg (by omega)] at z0
          rcases hz with ⟨h, _⟩ | ⟨h, _⟩ | ⟨_, h1, h2, h3⟩
          · omega
          · omega
          · exact ⟨h1, h2, by omega⟩
        rw [R.xs, List.all_eq_true.2 (fun v hv => (R.cs v hv).1), List.all_eq_true.2 R.fs, decide_eq_true zz.1, decide_eq_true zz.2.1, decide_eq_true zz.2.2, decide_eq_true (show zs.length ≤ 65536 by omega)]
        rfl

theorem one_code {bs : List Int} {i : Nat} {m : Md} {a : Nat} {p : Int × Int} (h : rdOne i bs m a = .error p) : p.1 = 90 ∨ p.1 = 91 ∨ p.1 = 92 := by
  have hno : ∀ {a : Nat} {most above c : Int}, above = 90 ∨ above = 92 → rdNo bs a most above = .error c → c = 90 ∨ c = 91 ∨ c = 92 := fun {a most above c} ha h => by
    unfold rdNo at h
    split at h
    · cases h; omega
    · split at h
      · cases h; omega
      · cases h
  have htx : ∀ {a : Nat} {most c : Int}, rdTx bs a most = .error c → c = 90 ∨ c = 91 ∨ c = 92 := fun {a most c} h => by
    unfold rdTx at h
    split at h
    · cases h; omega
    · split at h
      · cases h; omega
      · cases h
  unfold rdOne at h
  split at h
  · unfold rdC at h
    split at h
    · cases h; dsimp only; split <;> omega
    · cases h
  · split at h
    · unfold rdF at h
      split at h
      · rename_i h1; cases h; exact hno (Or.inr rfl) h1
      · split at h
        · rename_i h1; cases h; exact hno (Or.inr rfl) h1
        · split at h
          · cases h; omega
          · split at h
            · rename_i h1; cases h; exact hno (Or.inr rfl) h1
            · split at h
              · rename_i h1; cases h; exact htx h1
              · cases h
    · unfold rdX at h
      split at h
      · rename_i h1; cases h; exact htx h1
      · split at h
        · cases h; omega
        · split at h
          · rename_i h1; cases h; exact hno (Or.inl rfl) h1
          · cases h

theorem one_place {bs : List Int} (hs : ∀ c ∈ bs, 0 ≤ c ∧ c ≤ 255) {i : Nat} {m : Md} {a : Nat} (ha : a ≤ bs.length) {p : Int × Int} (h : rdOne i bs m a = .error p) : In bs p := by
  unfold rdOne at h
  split at h
  · unfold rdC at h
    cases hT : takeR bs (a : Int) with
    | error q => rw [hT] at h; cases h; exact ⟨(takeR_place hs hT).1, (takeR_place hs hT).2⟩
    | ok q => rw [hT] at h; cases h
  · split at h
    · unfold rdF at h
      cases h1 : rdNo bs a 8 92 with
      | error c => rw [h1] at h; cases h; exact in_at ha
      | ok r1 =>
        obtain ⟨p1, a1⟩ := r1
        rw [h1] at h
        dsimp only at h
        have b1 := (no_ok hs h1).2.2.2.1
        cases h2 : rdNo bs a1 32 92 with
        | error c => rw [h2] at h; cases h; exact in_at b1
        | ok r2 =>
          obtain ⟨p2, a2⟩ := r2
          rw [h2] at h
          dsimp only at h
          have b2 := (no_ok hs h2).2.2.2.1
          by_cases hl : p2 < p1
          · rw [if_pos hl] at h; cases h; exact in_at b1
          rw [if_neg hl] at h
          cases h3 : rdNo bs a2 40 92 with
          | error c => rw [h3] at h; cases h; exact in_at b2
          | ok r3 =>
            obtain ⟨p3, a3⟩ := r3
            rw [h3] at h
            dsimp only at h
            have b3 := (no_ok hs h3).2.2.2.1
            cases h4 : rdTx bs a3 4000 with
            | error c => rw [h4] at h; cases h; exact in_at b3
            | ok r4 => rw [h4] at h; cases h
    · unfold rdX at h
      cases h1 : rdTx bs a 20 with
      | error c => rw [h1] at h; cases h; exact in_at ha
      | ok r1 =>
        obtain ⟨t, a1⟩ := r1
        rw [h1] at h
        dsimp only at h
        have b1 := (tx_ok hs h1).2.2.1
        split at h
        · cases h; exact in_at ha
        · cases h2 : rdNo bs a1 ((m.fs.length : Int) - 1) 90 with
          | error c => rw [h2] at h; cases h; exact in_at b1
          | ok r2 => rw [h2] at h; cases h

theorem n_bad {bs : List Int} (hs : ∀ c ∈ bs, 0 ≤ c ∧ c ≤ 255) (i : Nat) : ∀ (n k : Nat) (m : Md) (a : Nat) (p : Int × Int), Jk i k m → a ≤ bs.length → rdN (rdOne i bs) n m a = .error p → In bs p ∧ (p.1 = 90 ∨ p.1 = 91 ∨ p.1 = 92)
  | 0, k, m, a, p, _, _, h => by simp only [rdN] at h; cases h
  | n + 1, k, m, a, p, hJ, ha, h => by
    simp only [rdN] at h
    cases h1 : rdOne i bs m a with
    | error e => rw [h1] at h; cases h; exact ⟨one_place hs ha h1, one_code h1⟩
    | ok r =>
      obtain ⟨m1, a1⟩ := r
      rw [h1] at h
      obtain ⟨J1, z, _, _, _, z4, _⟩ := one_ok hs i k m a m1 a1 hJ ha h1
      exact n_bad hs i n (k + 1) m1 a1 p J1 z4 h

theorem in_take {zs : List Int} {e : Nat} {p : Int × Int} (h : In (zs.take e) p) : In zs p := ⟨h.1, by have := h.2; rw [List.length_take] at this; omega⟩

theorem s_bad {zs : List Int} (hs : ∀ c ∈ zs, 0 ≤ c ∧ c ≤ 255) (i : Nat) (m : Md) (a : Nat) (ha : a ≤ zs.length) (p : Int × Int) (hJ : Jk i 0 m) (h : rdS zs i m a = .error p) : In zs p ∧ (p.1 = 90 ∨ p.1 = 91 ∨ p.1 = 92) := by
  unfold rdS rdO at h
  by_cases h0 : zs[a]? ≠ some ((i : Int) + 1)
  · rw [if_pos h0] at h; cases h; exact ⟨in_at ha, by omega⟩
  rw [if_neg h0] at h
  have hz0 : zs[a]? = some ((i : Int) + 1) := by simpa using h0
  have hal := (List.getElem?_eq_some_iff.1 hz0).1
  by_cases h1 : (uintAt zs ((a : Int) + 1)).2.2 ≠ 0 ∨ (zs.length : Int) - (uintAt zs ((a : Int) + 1)).2.1 < (uintAt zs ((a : Int) + 1)).1
  · rw [if_pos h1] at h; cases h; exact ⟨⟨by dsimp only; omega, by dsimp only; omega⟩, by omega⟩
  rw [if_neg h1] at h
  dsimp only at h
  obtain ⟨q, kk, e1, e2, e3, e4, e5, e6, e7⟩ := uint_form zs ((a : Int) + 1) hs (by have := h1; simp at this; exact this.1)
  obtain ⟨b, hb⟩ : ∃ b : Nat, (uintAt zs ((a : Int) + 1)).2.1 = (b : Int) := ⟨_, e5⟩
  obtain ⟨S, hS⟩ : ∃ S : Nat, (uintAt zs ((a : Int) + 1)).1 = (S : Int) := ⟨_, (Int.toNat_of_nonneg e7).symm⟩
  rw [hS, hb] at h h1
  rw [show ((b : Int)).toNat = b by omega, show ((b : Int) + (S : Int)).toNat = b + S by omega] at h
  have hle : b + S ≤ zs.length := by simp only [not_or, Int.not_lt] at h1; omega
  have hbl : (zs.take (b + S)).length = b + S := by rw [List.length_take]; omega
  have hbs : ∀ c ∈ zs.take (b + S), 0 ≤ c ∧ c ≤ 255 := fun c hc => hs c (List.mem_of_mem_take hc)
  unfold rdP at h
  cases h2 : rdNo (zs.take (b + S)) b (mostM i) 92 with
  | error c =>
    rw [h2] at h
    cases h
    refine ⟨in_at (by omega), ?_⟩
    unfold rdNo at h2
    split at h2
    · cases h2; omega
    · split at h2
      · cases h2; omega
      · cases h2
  | ok r2 =>
    obtain ⟨nI, a1⟩ := r2
    rw [h2] at h
    dsimp only at h
    obtain ⟨n0, n1, n2, n3, n4⟩ := no_ok hbs h2
    cases h3 : rdN (rdOne i (zs.take (b + S))) nI.toNat m a1 with
    | error e =>
      rw [h3] at h
      cases h
      obtain ⟨g1, g2⟩ := n_bad hbs i _ 0 m a1 _ hJ n3 h3
      exact ⟨in_take g1, g2⟩
    | ok r3 =>
      obtain ⟨m2, a2⟩ := r3
      rw [h3] at h
      dsimp only at h
      split at h
      · cases h
        exact ⟨in_at (by omega), by omega⟩
      · cases h

theorem decM_bad {zs : List Int} (hs : ∀ c ∈ zs, 0 ≤ c ∧ c ≤ 255) {p : Int × Int} (h : decM zs = .error p) : In zs p ∧ ¬ p.1 = 0 := by
  unfold decM at h
  split at h
  · cases h; exact ⟨⟨by dsimp only; omega, by dsimp only; omega⟩, by dsimp only; omega⟩
  split at h
  · cases h; exact ⟨⟨by dsimp only; omega, by dsimp only; omega⟩, by dsimp only; omega⟩
  rename_i h1
  have h1' : zs.take 4 = headM := Classical.not_not.1 h1
  have h4 : 4 ≤ zs.length := by
    have := congrArg List.length h1'
    rw [List.length_take] at this
    have e : headM.length = 4 := rfl
    omega
  simp only [rdAllM] at h
  cases r0 : rdS zs 0 ⟨[], [], []⟩ 4 with
  | error e =>
    rw [r0] at h
    cases h
    have q := s_bad hs 0 _ 4 h4 _ J_start r0
    exact ⟨q.1, by omega⟩
  | ok q0 =>
    obtain ⟨m1, a1⟩ := q0
    rw [r0] at h
    dsimp only at h
    obtain ⟨n0, x0, x1, x2, x3, x4, x5⟩ := s_ok hs 0 (by omega) _ _ _ _ J_start r0
    cases r1 : rdS zs (0 + 1) m1 a1 with
    | error e =>
      rw [r1] at h
      cases h
      have q := s_bad hs 1 _ a1 x4 _ (J_next x0 x1 (by omega)) r1
      exact ⟨q.1, by omega⟩
    | ok q1 =>
      obtain ⟨m2, a2⟩ := q1
      rw [r1] at h
      dsimp only at h
      obtain ⟨n1, y0, y1, y2, y3, y4, y5⟩ := s_ok hs 1 (by omega) _ _ _ _ (J_next x0 x1 (by omega)) r1
      cases r2 : rdS zs (0 + 1 + 1) m2 a2 with
      | error e =>
        rw [r2] at h
        cases h
        have q := s_bad hs 2 _ a2 y4 _ (J_next y0 y1 (by omega)) r2
        exact ⟨q.1, by omega⟩
      | ok q2 =>
        obtain ⟨m3, a3⟩ := q2
        rw [r2] at h
        dsimp only at h
        obtain ⟨n2, z0, z1, z2, z3, z4, z5⟩ := s_ok hs 2 (by omega) _ _ _ _ (J_next y0 y1 (by omega)) r2
        split at h
        · cases h; exact ⟨in_at z4, by dsimp only; omega⟩
        · cases h
end Go.Proofs.Ytfdnhpmldnmncaa
