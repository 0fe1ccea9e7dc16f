/-
  Tokens written with a blank between are read again; a quoted text is one token; no conditions.
-/
import Derived.Test.YtgalfhlclmkbfaaGreatDoorC12
set_option linter.unusedVariables false
set_option linter.unusedSimpArgs false
namespace Go.Proofs.YtgalfhlclmkbfaaGreatDoor
set_option linter.unusedVariables false
set_option linter.unusedSimpArgs false

/-- a token, as a source says it -/
def wrT (t : Tk) : List UInt8 := if t.k = 3 then Lib.decDigits t.n else if t.k = 4 then quoB t.t else t.t
/-- tokens, with a blank between each two -/
def jn : List Tk → List UInt8
  | [] => []
  | [t] => wrT t
  | t :: u :: ts => wrT t ++ 32 :: jn (u :: ts)
def plc : Nat → List Tk → List Tk
  | _, [] => []
  | p, t :: ts => t.at p :: plc (p + (wrT t).length + 1) ts

theorem wrT_at (t : Tk) (p : Nat) : wrT (t.at p) = wrT t := rfl

theorem tw_app (p : UInt8 → Bool) (w X : List UInt8) (b : UInt8) (h : w.all p = true) (hb : p b = false) : (w ++ b :: X).takeWhile p = w := by
  induction w with
  | nil => simp [List.takeWhile_cons, hb]
  | cons c r ih =>
    rw [List.all_cons, Bool.and_eq_true] at h
    rw [List.cons_append, List.takeWhile_cons, if_pos h.1, ih h.2]

theorem tw_allP (p : UInt8 → Bool) : ∀ l : List UInt8, (l.takeWhile p).all p = true
  | [] => rfl
  | c :: r => by
    rw [List.takeWhile_cons]
    split
    · rename_i h; rw [List.all_cons, h, tw_allP p r]; rfl
    · rfl

theorem hexV_hx' (d : Nat) (h : d < 16) : hexV (hx d) = some d := hexV_hx ⟨d, h⟩

theorem piece_q (c : UInt8) (X : List UInt8) : pcL (qB c ++ X) = some (c, (qB c).length) ∧ ∃ d r, qB c = d :: r ∧ ¬ d.toNat = 34 := by
  have hc := c.toNat_lt
  by_cases h1 : c.toNat = 34 ∨ c.toNat = 92
  · rw [qB_esc c h1]
    refine ⟨?_, 92, [c], rfl, by decide⟩
    show pcL (92 :: c :: X) = _
    rw [pcL_cons, if_neg (by decide), if_pos (by decide), escP_cons, if_pos h1]
    rfl
  · by_cases h2 : 32 ≤ c.toNat ∧ c.toNat ≤ 126
    · rw [qB_own c h2.1 h2.2 (by omega) (by omega)]
      refine ⟨?_, c, [], rfl, by omega⟩
      show pcL (c :: X) = _
      rw [pcL_cons, if_neg (by omega), if_neg (by omega)]
      rfl
    · rw [qB_num c (by omega)]
      refine ⟨?_, 92, _, rfl, by decide⟩
      show pcL (92 :: 120 :: hx (c.toNat / 16) :: hx (c.toNat % 16) :: X) = _
      rw [pcL_cons, if_neg (by decide), if_pos (by decide), escP_cons, if_neg (by decide), if_pos (by decide)]
      have e1 := hexV_hx' (c.toNat / 16) (by omega)
      have e2 := hexV_hx' (c.toNat % 16) (by omega)
      simp only [hexP, e1, e2]
      rw [show 16 * (c.toNat / 16) + c.toNat % 16 = c.toNat by omega]
      simp

theorem pcs_quote : ∀ (bs : List UInt8) (X : List UInt8) (f : Nat), (bs.flatMap qB ++ 34 :: X).length < f → pcs f (bs.flatMap qB ++ 34 :: X) = some (bs, (bs.flatMap qB).length + 1)
  | [], X, f, h => by
    obtain ⟨g, rfl⟩ : ∃ g, f = g + 1 := ⟨f - 1, by omega⟩
    simp [pcs]
  | c :: r, X, f, h => by
    obtain ⟨g, rfl⟩ : ∃ g, f = g + 1 := ⟨f - 1, by omega⟩
    obtain ⟨h1, d, q, hq, hd⟩ := piece_q c (r.flatMap qB ++ 34 :: X)
    rw [List.flatMap_cons, List.append_assoc] at h ⊢
    have hl := (qB_len c).2
    rw [List.length_append] at h
    have ih := pcs_quote r X g (by omega)
    have hdr : (qB c ++ (r.flatMap qB ++ 34 :: X)).drop (qB c).length = r.flatMap qB ++ 34 :: X := List.drop_left
    rw [hq, List.cons_append] at h1 hdr ⊢
    unfold pcs
    rw [if_neg hd, h1]
    simp only
    rw [← hq] at hdr ⊢
    rw [hdr, ih]
    simp [Nat.add_assoc]

theorem bytT_quote (bs X : List UInt8) : bytT (bs.flatMap qB ++ 34 :: X) = if bs.length ≤ 2047 then .ok (⟨4, bs, 0, 0⟩, (quoB bs).length) else .error 163 := by
  unfold bytT bytV
  rw [pcs_quote bs X _ (Nat.lt_succ_self _)]
  simp only [bytC]
  by_cases h : bs.length ≤ 2047
  · rw [if_pos h, if_pos h]
    simp [quoB]
  · rw [if_neg h, if_neg h]

theorem fst_quote (bs X : List UInt8) : fstT (quoB bs ++ X) = if bs.length ≤ 2047 then .ok (⟨4, bs, 0, 0⟩, (quoB bs).length) else .error 163 := by
  have e : quoB bs ++ X = 34 :: (bs.flatMap qB ++ 34 :: X) := by simp [quoB]
  rw [e, fst_cons, if_neg (by decide), if_neg (by decide), if_pos (by decide), bytT_quote]

def sgGood (g : List UInt8) : Bool := match g with
  | [a] => !lxLet a && !lxDig a && decide (a.toNat ≠ 34) && !lxB a && sgB [a] && !sgB [a, 32]
  | [a, b] => !lxLet a && !lxDig a && decide (a.toNat ≠ 34) && !lxB a && sgB [a, b] && decide (a.toNat ≠ 47)
  | _ => false
theorem sg_good : sgL.all sgGood = true := by decide +kernel

theorem blk_zero {c : UInt8} {r : List UInt8} (h1 : lxB c = false) (h2 : ¬ (c.toNat = 47 ∧ r.head? = some 47)) : blk false (c :: r) = 0 := by
  simp only [blk, h1, h2, if_false, Bool.false_eq_true]

theorem fst_sign (g : List UInt8) (X : List UInt8) (h : sgB g = true) : fstT (g ++ 32 :: X) = .ok (⟨5, g, 0, 0⟩, g.length) ∧ blk false (g ++ 32 :: X) = 0 ∧ g ≠ [] := by
  have hg : sgGood g = true := by
    have := sg_good
    rw [List.all_eq_true] at this
    exact this g (List.contains_iff_mem.1 h)
  match g, h, hg with
  | [], _, hg => cases hg
  | [a], h, hg =>
    simp only [sgGood, Bool.and_eq_true, Bool.not_eq_true', decide_eq_true_eq] at hg
    obtain ⟨⟨⟨⟨⟨h1, h2⟩, h3⟩, h4⟩, h5⟩, h6⟩ := hg
    have hN : sgN (a :: 32 :: X) = 1 := by
      unfold sgN
      rw [if_neg (by simp [h6]), if_pos (by simpa using h5)]
    refine ⟨?_, blk_zero h4 (by simp), by simp⟩
    show fstT (a :: 32 :: X) = _
    rw [fst_cons, if_neg (by rw [h1]; simp), if_neg (by rw [h2]; simp), if_neg h3]
    unfold sgnT
    rw [hN, if_neg (by decide)]
    rfl
  | [a, b], h, hg =>
    simp only [sgGood, Bool.and_eq_true, Bool.not_eq_true', decide_eq_true_eq] at hg
    obtain ⟨⟨⟨⟨⟨h1, h2⟩, h3⟩, h4⟩, h5⟩, h6⟩ := hg
    have hN : sgN (a :: b :: 32 :: X) = 2 := by
      unfold sgN
      rw [if_pos ⟨by simp, by simpa using h5⟩]
    refine ⟨?_, blk_zero h4 (fun h => h6 h.1), by simp⟩
    show fstT (a :: b :: 32 :: X) = _
    rw [fst_cons, if_neg (by rw [h1]; simp), if_neg (by rw [h2]; simp), if_neg h3]
    unfold sgnT
    rw [hN, if_neg (by decide)]
    rfl
  | _ :: _ :: _ :: _, _, hg => cases hg

theorem let_plain {c : UInt8} (h : lxW c = true) (r : List UInt8) : blk false (c :: r) = 0 := by
  have hc : ¬ (c.toNat = 32 ∨ c.toNat = 9 ∨ c.toNat = 10 ∨ c.toNat = 13) ∧ ¬ c.toNat = 47 := by
    unfold lxW lxLet lxDig at h
    simp only [Bool.or_eq_true, decide_eq_true_eq] at h
    omega
  exact blk_zero (decide_eq_false hc.1) (fun g => hc.2 g.1)

theorem dig_W {w : List UInt8} (h : w.all lxDig = true) : w.all lxW = true := by
  rw [List.all_eq_true] at h ⊢
  intro x hx
  unfold lxW
  rw [h x hx]
  simp

theorem intV_some {w : List UInt8} {n : Nat} (h : intV w = some n) : w.all lxDig = true ∧ (w.length ≤ 1 ∨ w.head? ≠ some 48) ∧ valD w = n ∧ n ≤ 9223372036854775807 := by
  unfold intV at h
  split at h
  · rename_i hh
    simp only [Option.some.injEq] at h
    exact ⟨hh.1, hh.2.1, h, by rw [← h]; exact hh.2.2⟩
  · cases h

/-- a token that was read, written ahead of a blank, is read again -/
theorem fst_wr {l : List UInt8} {t : Tk} {n : Nat} (h : fstT l = .ok (t, n)) (X : List UInt8) :
    fstT (wrT t ++ 32 :: X) = .ok (t, (wrT t).length) ∧ blk false (wrT t ++ 32 :: X) = 0 ∧ wrT t ≠ [] ∧ (l.length ≤ 8192 → (wrT t).length ≤ 8192) ∧ t.n ≤ 9223372036854775807 ∧ t.k ≤ 5 ∧ (t.k = 4 → t.t.length ≤ 2047) := by
  cases l with
  | nil => simp [fstT] at h
  | cons c r =>
    rw [fst_cons] at h
    have hb : lxW 32 = false := by decide
    by_cases h1 : lxLet c = true
    · rw [if_pos h1] at h
      have hw : lxW c = true := by unfold lxW; rw [h1]; rfl
      have htw : (c :: r).takeWhile lxW = c :: r.takeWhile lxW := by rw [List.takeWhile_cons, if_pos hw]
      have hall := tw_allP lxW (c :: r)
      have hle := tw_le lxW (c :: r)
      rw [htw] at h hall hle
      have hres : wrdT (c :: r.takeWhile lxW) = .ok (t, n) → wrT t = c :: r.takeWhile lxW ∧ n = (c :: r.takeWhile lxW).length ∧ t.n ≤ 9223372036854775807 ∧ t.k ≤ 5 ∧ (t.k = 4 → t.t.length ≤ 2047) := fun h => by
        unfold wrdT at h
        split at h
        · simp only [Except.ok.injEq, Prod.mk.injEq] at h
          obtain ⟨rfl, rfl⟩ := h
          exact ⟨rfl, rfl, by simp, by simp, by simp⟩
        · split at h
          · cases h
          · simp only [Except.ok.injEq, Prod.mk.injEq] at h
            obtain ⟨rfl, rfl⟩ := h
            exact ⟨rfl, rfl, by simp, by simp, by simp⟩
      obtain ⟨e1, e2, e3, e4, e5⟩ := hres h
      rw [e1]
      refine ⟨?_, let_plain hw _, by simp, fun hl => by omega, e3, e4, e5⟩
      rw [List.cons_append, fst_cons, if_pos h1, ← List.cons_append, tw_app lxW _ X 32 hall hb, h, e2]
    · rw [if_neg h1] at h
      by_cases h2 : lxDig c = true
      · rw [if_pos h2] at h
        unfold numT at h
        have hle := tw_le lxW (c :: r)
        cases hi : intV ((c :: r).takeWhile lxW) with
        | none => rw [hi] at h; cases h
        | some m =>
          rw [hi] at h
          simp only [Except.ok.injEq, Prod.mk.injEq] at h
          obtain ⟨rfl, rfl⟩ := h
          obtain ⟨g1, g2, g3, g4⟩ := intV_some hi
          have hne : (c :: r).takeWhile lxW ≠ [] := by
            rw [List.takeWhile_cons, if_pos (by unfold lxW; rw [h2]; simp)]
            simp
          have hdv := (dec_val _ _ rfl hne g1 g2).1
          rw [g3] at hdv
          obtain ⟨d1, d2, d3, d4, d5⟩ := dec_all m
          have hwr : wrT ⟨3, [], m, 0⟩ = Lib.decDigits m := rfl
          rw [hwr]
          obtain ⟨x, xs, hx⟩ : ∃ x xs, Lib.decDigits m = x :: xs := by
            cases hq : Lib.decDigits m with
            | nil => exact absurd hq d4
            | cons a b => exact ⟨a, b, rfl⟩
          have hxd : lxDig x = true := by
            rw [hx, List.all_cons, Bool.and_eq_true] at d1
            exact d1.1
          have hxl : lxLet x = false := by
            have := dig_range hxd
            unfold lxLet
            exact decide_eq_false (by omega)
          refine ⟨?_, ?_, d4, fun hl => by rw [hdv]; omega, g4, by simp, by simp⟩
          · have hta := tw_app lxW (Lib.decDigits m) X 32 (dig_W d1) hb
            have hiv := intV_dec m g4
            rw [hx, List.cons_append] at hta ⊢
            rw [fst_cons, if_neg (by rw [hxl]; simp), if_pos hxd, hta, ← hx]
            unfold numT
            rw [hiv]
          · rw [hx, List.cons_append]
            exact let_plain (by unfold lxW; rw [hxd]; simp) _
      · rw [if_neg h2] at h
        by_cases h3 : c.toNat = 34
        · rw [if_pos h3] at h
          unfold bytT bytV at h
          cases hp : pcs (r.length + 1) r with
          | none => rw [hp] at h; simp [bytC] at h
          | some x =>
            obtain ⟨bs, k⟩ := x
            rw [hp] at h
            by_cases hl : bs.length ≤ 2047
            · simp [bytC, hl] at h
              obtain ⟨rfl, rfl⟩ := h
              have hwr : wrT ⟨4, bs, 0, 0⟩ = quoB bs := rfl
              rw [hwr]
              have hfl := flatB_len bs
              refine ⟨?_, ?_, by simp [quoB], fun _ => by simp only [quoB, List.length_append, List.length_cons, List.length_nil]; omega, by simp, by simp, fun _ => hl⟩
              · rw [fst_quote, if_pos hl]
              · have e : quoB bs ++ 32 :: X = 34 :: (bs.flatMap qB ++ 34 :: 32 :: X) := by simp [quoB]
                rw [e]
                exact blk_zero (by decide) (by simp)
            · simp [bytC, hl] at h
        · rw [if_neg h3] at h
          unfold sgnT at h
          by_cases h4 : sgN (c :: r) = 0
          · rw [if_pos h4] at h; simp at h
          · rw [if_neg h4] at h
            simp only [Except.ok.injEq, Prod.mk.injEq] at h
            obtain ⟨rfl, rfl⟩ := h
            have hs : sgB ((c :: r).take (sgN (c :: r))) = true := by
              unfold sgN at h4 ⊢
              split
              · rename_i g; exact g.2
              · split
                · rename_i g; exact g
                · rename_i g1 g2
                  rw [if_neg g1, if_neg g2] at h4
                  exact absurd rfl h4
            obtain ⟨q1, q2, q3⟩ := fst_sign _ X hs
            have hwr : wrT ⟨5, (c :: r).take (sgN (c :: r)), 0, 0⟩ = (c :: r).take (sgN (c :: r)) := rfl
            rw [hwr]
            exact ⟨q1, q2, q3, fun hl => by rw [List.length_take]; omega, by simp, by simp, by simp⟩

theorem jn_two (t : Tk) (us : List Tk) (h : us ≠ []) : jn (t :: us) = wrT t ++ 32 :: jn us := by
  cases us with
  | nil => exact absurd rfl h
  | cons u us => rfl

theorem lp_again : ∀ (f : Nat) (p : Nat) (l : List UInt8) (ts : List Tk), l.length < f → lpT f p l = .ok ts →
    ts ≠ [] ∧ blk false (jn ts) = 0 ∧ ∀ f' p', (jn ts).length < f' → lpT f' p' (jn ts) = .ok (plc p' ts)
  | 0, p, l, ts, hf, _ => by omega
  | f + 1, p, [], ts, hf, h => by
    simp only [lpT, Except.ok.injEq] at h
    subst h
    refine ⟨by simp, rfl, fun f' p' hf' => ?_⟩
    obtain ⟨g, rfl⟩ : ∃ g, f' = g + 1 := ⟨f' - 1, by omega⟩
    rfl
  | f + 1, p, c :: r, ts, hf, h => by
    obtain ⟨t, n, us, h1, h2, rfl⟩ := lp_ok h
    have hn := fst_pos h1
    have hlen := rest_len (c :: r) n hn.2
    obtain ⟨ih1, ih2, ih3⟩ := lp_again f _ _ us (by simp only [List.length_cons] at hf hlen; omega) h2
    obtain ⟨w1, w2, w3, w4⟩ := fst_wr h1 (jn us)
    rw [jn_two _ us ih1, wrT_at]
    refine ⟨by simp, w2, fun f' p' hf' => ?_⟩
    obtain ⟨g, rfl⟩ : ∃ g, f' = g + 1 := ⟨f' - 1, by omega⟩
    obtain ⟨x, xs, hx⟩ : ∃ x xs, wrT t = x :: xs := by
      cases hq : wrT t with
      | nil => exact absurd hq w3
      | cons a b => exact ⟨a, b, rfl⟩
    have hdr : (wrT t ++ 32 :: jn us).drop (wrT t).length = 32 :: jn us := List.drop_left
    have hb : blk false (32 :: jn us) = 1 := by
      have : lxB 32 = true := by decide
      simp only [blk, this, if_true]
      rw [ih2]
    rw [List.length_append, List.length_cons] at hf'
    rw [hx, List.cons_append] at w1 hdr ⊢
    rw [lp_consP, w1]
    simp only
    rw [← hx] at hdr ⊢
    rw [hdr, hb, List.drop_succ_cons, List.drop_zero, ih3 g _ (by omega)]
    rfl

theorem lp_each : ∀ (f : Nat) (p : Nat) (l : List UInt8) (ts : List Tk), l.length < f → l.length ≤ 8192 → lpT f p l = .ok ts → ts.length ≤ l.length + 1 ∧ ∀ t ∈ ts, (wrT t).length ≤ 8192 ∧ t.n ≤ 9223372036854775807 ∧ t.k ≤ 5 ∧ (t.k = 4 → t.t.length ≤ 2047)
  | 0, p, l, ts, hf, _, _ => by omega
  | f + 1, p, [], ts, hf, _, h => by
    simp only [lpT, Except.ok.injEq] at h
    subst h
    refine ⟨by simp, fun t ht => ?_⟩
    simp at ht
    subst ht
    simp [wrT, endT]
  | f + 1, p, c :: r, ts, hf, hl, h => by
    obtain ⟨t, n, us, h1, h2, rfl⟩ := lp_ok h
    have hn := fst_pos h1
    have hlen := rest_len (c :: r) n hn.2
    obtain ⟨ih1, ih2⟩ := lp_each f _ _ us (by simp only [List.length_cons] at hf hlen; omega) (by omega) h2
    obtain ⟨w1, w2, w3, w4, w5, w6, w7⟩ := fst_wr h1 []
    refine ⟨by rw [List.length_cons]; omega, fun x hx => ?_⟩
    rcases List.mem_cons.1 hx with rfl | hx
    · exact ⟨w4 hl, w5, w6, w7⟩
    · exact ih2 x hx

/-- the tokens, written with a blank between each two, are the same tokens, but for their places -/
theorem all_again {l : List UInt8} {ts : List Tk} (h : allT l = .ok ts) :
    ts ≠ [] ∧ ts.length ≤ 8193 ∧ (∀ t ∈ ts, (wrT t).length ≤ 8192 ∧ t.n ≤ 9223372036854775807 ∧ t.k ≤ 5 ∧ (t.k = 4 → t.t.length ≤ 2047)) ∧ ((jn ts).length ≤ 8192 → allT (jn ts) = .ok (plc 0 ts)) := by
  have hl := all_small h
  rw [all_split hl] at h
  have hb := blk_le false l
  have hd : (l.drop (blk false l)).length < l.length + 1 := by rw [List.length_drop]; omega
  obtain ⟨h1, h2, h3⟩ := lp_again _ _ _ _ hd h
  obtain ⟨h4, h5⟩ := lp_each _ _ _ _ hd (by omega) h
  refine ⟨h1, by omega, h5, fun hj => ?_⟩
  rw [all_split hj, h2, List.drop_zero]
  exact h3 _ 0 (Nat.lt_succ_self _)

theorem jn_snoc : ∀ (ts : List Tk) (t : Tk), ts ≠ [] → jn (ts ++ [t]) = jn ts ++ 32 :: wrT t
  | [], t, h => absurd rfl h
  | [u], t, _ => rfl
  | u :: v :: ts, t, _ => by
    have ih := jn_snoc (v :: ts) t (by simp)
    show jn (u :: v :: (ts ++ [t])) = _
    rw [jn_two u (v :: (ts ++ [t])) (by simp)]
    show wrT u ++ 32 :: jn ((v :: ts) ++ [t]) = _
    rw [ih, jn_two u (v :: ts) (by simp)]
    simp

def offT (ts : List Tk) (i : Nat) : Nat := if i = 0 then 0 else (jn (ts.take i)).length + 1

theorem plc_at : ∀ (ts : List Tk) (p i : Nat) (t : Tk), ts[i]? = some t → (plc p ts)[i]? = some (t.at (p + offT ts i))
  | [], p, i, t, h => by simp at h
  | u :: us, p, 0, t, h => by
    simp at h
    subst h
    simp [plc, offT]
  | u :: us, p, i + 1, t, h => by
    have h' : us[i]? = some t := by simpa using h
    have ih := plc_at us (p + (wrT u).length + 1) i t h'
    show (plc (p + (wrT u).length + 1) us)[i]? = _
    rw [ih]
    have key : p + (wrT u).length + 1 + offT us i = p + offT (u :: us) (i + 1) := by
      unfold offT
      rw [if_neg (Nat.succ_ne_zero i)]
      cases i with
      | zero =>
        simp [jn]
        omega
      | succ i =>
        rw [if_neg (Nat.succ_ne_zero i), (show (u :: us).take (i + 1 + 1) = u :: us.take (i + 1) from List.take_succ_cons), jn_two u _ (by
          cases us with
          | nil => simp at h'
          | cons v us => simp), List.length_append, List.length_cons]
        omega
    rw [key]

theorem plc_len : ∀ (ts : List Tk) (p : Nat), (plc p ts).length = ts.length
  | [], _ => rfl
  | t :: ts, p => by simp [plc, plc_len ts]

def blL : List (List UInt8) := [[], [32], [10, 9], [47, 47, 32, 34, 120, 10], [13, 32, 10]]

theorem blk_one {c : UInt8} (h : lxB c = true) (Z : List UInt8) : blk false (c :: Z) = blk false Z + 1 := by
  simp only [blk, h, if_true]
theorem blk_rem (c : UInt8) (h : c.toNat ≠ 10) (Z : List UInt8) : blk true (c :: Z) = blk true Z + 1 := by
  simp only [blk]
  rw [decide_eq_true h]
theorem blk_nl (Z : List UInt8) : blk true (10 :: Z) = blk false Z + 1 := by
  simp only [blk]
  rw [decide_eq_false (by decide)]

theorem bl_ahead (Y : List UInt8) : ∀ A ∈ blL, blk false (A ++ 34 :: Y) = A.length := by
  have h34 : blk false (34 :: Y) = 0 := blk_zero (by decide) (by intro h; exact absurd h.1 (by decide))
  have b32 : ∀ Z, blk false (32 :: Z) = blk false Z + 1 := fun Z => blk_one (by decide) Z
  have b10 : ∀ Z, blk false (10 :: Z) = blk false Z + 1 := fun Z => blk_one (by decide) Z
  have b9 : ∀ Z, blk false (9 :: Z) = blk false Z + 1 := fun Z => blk_one (by decide) Z
  have b13 : ∀ Z, blk false (13 :: Z) = blk false Z + 1 := fun Z => blk_one (by decide) Z
  have brm : ∀ Z, blk false (47 :: 47 :: 32 :: 34 :: 120 :: 10 :: Z) = blk false Z + 6 := fun Z => by
    have h : lxB 47 = false := by decide
    have e : blk false (47 :: 47 :: 32 :: 34 :: 120 :: 10 :: Z) = blk true (47 :: 32 :: 34 :: 120 :: 10 :: Z) + 1 := by
      conv => lhs; unfold blk
      rw [if_neg (by rw [h]; simp), if_pos ⟨by decide, rfl⟩]
    rw [e, blk_rem 47 (by decide), blk_rem 32 (by decide), blk_rem 34 (by decide), blk_rem 120 (by decide), blk_nl]
  intro A hA
  simp only [blL, List.mem_cons, List.not_mem_nil, or_false] at hA
  rcases hA with rfl | rfl | rfl | rfl | rfl
  · exact h34
  · show blk false (32 :: 34 :: Y) = 1
    rw [b32, h34]
  · show blk false (10 :: 9 :: 34 :: Y) = 2
    rw [b10, b9, h34]
  · show blk false (47 :: 47 :: 32 :: 34 :: 120 :: 10 :: 34 :: Y) = 6
    rw [brm, h34]
  · show blk false (13 :: 32 :: 10 :: 34 :: Y) = 3
    rw [b13, b32, b10, h34]

theorem bl_behind : ∀ A ∈ blL, blk false A = A.length := by decide +kernel

/-- a quoted text between blanks -/
theorem all_back (A B s : List UInt8) (hA : A ∈ blL) (hB : B ∈ blL) : allT (A ++ quoB s ++ B) = if 8192 < (A ++ quoB s ++ B).length then .error (0, 160) else if s.length ≤ 2047 then .ok [⟨4, s, 0, A.length⟩, endT (A ++ quoB s ++ B).length] else .error (A.length, 163) := by
  by_cases h : 8192 < (A ++ quoB s ++ B).length
  · rw [if_pos h]
    unfold allT
    rw [if_pos h]
  · rw [if_neg h, all_split (by omega)]
    have e : A ++ quoB s ++ B = A ++ 34 :: (s.flatMap qB ++ 34 :: B) := by simp [quoB]
    have hb : blk false (A ++ quoB s ++ B) = A.length := by rw [e]; exact bl_ahead _ A hA
    rw [hb, List.append_assoc, List.drop_left]
    have hq : fstT (34 :: (s.flatMap qB ++ 34 :: B)) = if s.length ≤ 2047 then .ok (⟨4, s, 0, 0⟩, (quoB s).length) else .error 163 := by
      have := fst_quote s B
      rwa [show quoB s ++ B = 34 :: (s.flatMap qB ++ 34 :: B) by simp [quoB]] at this
    have e2 : quoB s ++ B = 34 :: (s.flatMap qB ++ 34 :: B) := by simp [quoB]
    by_cases hs : s.length ≤ 2047
    · rw [if_pos hs] at hq ⊢
      have hdr : (quoB s ++ B).drop (quoB s).length = B := List.drop_left
      have hbb := bl_behind B hB
      rw [e2] at hdr ⊢
      rw [lp_consP, hq]
      simp only
      rw [hdr, hbb, List.drop_length]
      rw [show (A ++ 34 :: (s.flatMap qB ++ 34 :: B)).length = (A ++ 34 :: (s.flatMap qB ++ 34 :: B)).length - 1 + 1 by rw [List.length_append, List.length_cons]; omega]
      simp only [lpT, preT]
      have hl : A.length + (quoB s).length + B.length = (A ++ 34 :: (s.flatMap qB ++ 34 :: B)).length - 1 + 1 := by
        simp only [quoB, List.length_append, List.length_cons, List.length_nil]
        omega
      rw [hl]
      rfl
    · rw [if_neg hs] at hq ⊢
      rw [e2, lp_consP, hq]
end Go.Proofs.YtgalfhlclmkbfaaGreatDoor
