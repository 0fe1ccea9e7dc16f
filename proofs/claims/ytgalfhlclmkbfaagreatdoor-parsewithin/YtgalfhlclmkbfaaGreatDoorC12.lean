/-
  What is so of a source's tokens: up to a token, or a fault, a source is read by itself; tokens written with a blank between are read again; a quoted text is one token; no conditions.
-/
import Derived.Test.YtgalfhlclmkbfaaGreatDoorC03
import Derived.Test.YtgalfhlclmkbfaaGreatDoorC07
set_option linter.unusedVariables false
set_option linter.unusedSimpArgs false
namespace Go.Proofs.YtgalfhlclmkbfaaGreatDoor
set_option linter.unusedVariables false
set_option linter.unusedSimpArgs false

theorem lp_consP (f p : Nat) (c : UInt8) (r : List UInt8) : lpT (f + 1) p (c :: r) = match fstT (c :: r) with
    | .error e => .error (p, e)
    | .ok (t, n) => preT [t.at p] (lpT f (p + n + blk false ((c :: r).drop n)) (((c :: r).drop n).drop (blk false ((c :: r).drop n)))) := rfl

theorem lp_ok {f p : Nat} {c : UInt8} {r : List UInt8} {ts : List Tk} (h : lpT (f + 1) p (c :: r) = .ok ts) : ∃ t n us, fstT (c :: r) = .ok (t, n) ∧ lpT f (p + n + blk false ((c :: r).drop n)) (((c :: r).drop n).drop (blk false ((c :: r).drop n))) = .ok us ∧ ts = t.at p :: us := by
  rw [lp_consP] at h
  cases hf : fstT (c :: r) with
  | error e => rw [hf] at h; cases h
  | ok x =>
    obtain ⟨t, n⟩ := x
    rw [hf] at h
    simp only at h
    cases hl : lpT f (p + n + blk false ((c :: r).drop n)) (((c :: r).drop n).drop (blk false ((c :: r).drop n))) with
    | error e => rw [hl] at h; cases h
    | ok us =>
      rw [hl] at h
      simp only [preT, Except.ok.injEq] at h
      exact ⟨t, n, us, rfl, hl, by rw [← h]; rfl⟩

/-- how long what is behind a token is -/
theorem rest_len (l : List UInt8) (n : Nat) (hn : n ≤ l.length) : (((l.drop n).drop (blk false (l.drop n))).length + n + blk false (l.drop n) = l.length) := by
  have := blk_le false (l.drop n)
  rw [List.length_drop] at this
  rw [List.length_drop, List.length_drop]
  omega

theorem lp_all : ∀ (f : Nat) (p : Nat) (l : List UInt8) (ts : List Tk), l.length < f → lpT f p l = .ok ts →
    (∃ us, ts = us ++ [endT (p + l.length)]) ∧ (∀ (i : Nat) (t : Tk), ts[i]? = some t → p ≤ t.p ∧ t.p ≤ p + l.length ∧ ∀ f', l.length < f' → lpT f' p (l.take (t.p - p)) = .ok (ts.take i ++ [endT t.p])) ∧ (∀ (i : Nat) (a b : Tk), ts[i]? = some a → ts[i + 1]? = some b → a.p < b.p)
  | 0, p, l, ts, hf, _ => by omega
  | f + 1, p, [], ts, hf, h => by
    simp only [lpT, Except.ok.injEq] at h
    subst h
    refine ⟨⟨[], rfl⟩, fun i t ht => ?_, fun i a b ha hb => by simp at hb⟩
    cases i with
    | zero =>
      simp at ht
      subst ht
      refine ⟨Nat.le_refl _, by simp [endT], fun f' hf' => ?_⟩
      obtain ⟨g, rfl⟩ : ∃ g, f' = g + 1 := ⟨f' - 1, by omega⟩
      simp [lpT, endT]
    | succ i => simp at ht
  | f + 1, p, c :: r, ts, hf, h => by
    obtain ⟨t, n, us, h1, h2, rfl⟩ := lp_ok h
    have hn := fst_pos h1
    have hlen := rest_len (c :: r) n hn.2
    obtain ⟨⟨vs, hvs⟩, ih2, ih3⟩ := lp_all f _ _ us (by simp only [List.length_cons] at hf hlen; omega) h2
    have hend : p + n + blk false ((c :: r).drop n) + (((c :: r).drop n).drop (blk false ((c :: r).drop n))).length = p + (c :: r).length := by omega
    refine ⟨⟨t.at p :: vs, by rw [hvs, hend]; rfl⟩, fun i x hx => ?_, fun i a b ha hb => ?_⟩
    · cases i with
      | zero =>
        simp at hx
        subst hx
        refine ⟨Nat.le_refl _, by simp [Tk.at], fun f' hf' => ?_⟩
        obtain ⟨g, rfl⟩ : ∃ g, f' = g + 1 := ⟨f' - 1, by omega⟩
        simp [lpT, Tk.at]
      | succ i =>
        have hx' : us[i]? = some x := by simpa using hx
        obtain ⟨g1, g2, g3⟩ := ih2 i x hx'
        refine ⟨by omega, by omega, fun f' hf' => ?_⟩
        obtain ⟨g, rfl⟩ : ∃ g, f' = g + 1 := ⟨f' - 1, by omega⟩
        obtain ⟨m, hm⟩ : ∃ m, x.p - p = m := ⟨_, rfl⟩
        have hnm : n ≤ m := by omega
        have ht := (fst_take m h1 hnm).2.2
        obtain ⟨q, rfl⟩ : ∃ q, m = q + 1 := ⟨m - 1, by omega⟩
        have hd : (c :: r.take q).drop n = ((c :: r).drop n).take (q + 1 - n) := by rw [← List.take_succ_cons, List.drop_take]
        have hb : blk false (((c :: r).drop n).take (q + 1 - n)) = blk false ((c :: r).drop n) := blk_take _ _ _ (by omega)
        have hdd : (((c :: r).drop n).take (q + 1 - n)).drop (blk false ((c :: r).drop n)) = (((c :: r).drop n).drop (blk false ((c :: r).drop n))).take (x.p - (p + n + blk false ((c :: r).drop n))) := by
          rw [List.drop_take]
          congr 1
          omega
        rw [hm, List.take_succ_cons] at *
        rw [lp_consP, ht]
        simp only
        rw [hd, hb, hdd, g3 g (by simp only [List.length_cons] at hf' hlen; omega)]
        simp [preT]
    · cases i with
      | zero =>
        simp at ha
        subst ha
        have hb' : us[0]? = some b := by simpa using hb
        have := (ih2 0 b hb').1
        simp only [Tk.at]
        omega
      | succ i => exact ih3 i a b (by simpa using ha) (by simpa using hb)

theorem lp_fuel : ∀ (f f' p : Nat) (l : List UInt8), l.length < f → l.length < f' → lpT f p l = lpT f' p l
  | 0, _, _, _, h, _ => by omega
  | f + 1, 0, _, _, _, h => by omega
  | f + 1, f' + 1, p, [], _, _ => rfl
  | f + 1, f' + 1, p, c :: r, h, h' => by
    rw [lp_consP, lp_consP]
    cases h1 : fstT (c :: r) with
    | error e => rfl
    | ok x =>
      obtain ⟨t, n⟩ := x
      have hn := fst_pos h1
      have hlen := rest_len (c :: r) n hn.2
      simp only
      rw [lp_fuel f f' _ _ (by simp only [List.length_cons] at h hlen; omega) (by simp only [List.length_cons] at h' hlen; omega)]

theorem fst_errP {l : List UInt8} {er : Nat} (h : fstT l = .error er) : 161 ≤ er ∧ er ≤ 164 := by
  cases l with
  | nil => simp [fstT] at h; omega
  | cons c r =>
    rw [fst_cons] at h
    split at h
    · unfold wrdT at h
      split at h
      · simp at h
      · split at h
        · simp at h; omega
        · simp at h
    · split at h
      · unfold numT at h
        split at h
        · simp at h; omega
        · simp at h
      · split at h
        · unfold bytT at h
          split at h
          · simp at h; omega
          · simp at h
        · unfold sgnT at h
          split at h
          · simp at h; omega
          · simp at h

theorem lp_fault : ∀ (f : Nat) (p : Nat) (l : List UInt8) (q e : Nat), l.length < f → lpT f p l = .error (q, e) →
    p ≤ q ∧ q < p + l.length ∧ 161 ≤ e ∧ e ≤ 164 ∧ ∃ ts, ∀ f', l.length < f' → lpT f' p (l.take (q - p)) = .ok (ts ++ [endT q])
  | 0, p, l, q, e, hf, _ => by omega
  | f + 1, p, [], q, e, hf, h => by simp [lpT] at h
  | f + 1, p, c :: r, q, e, hf, h => by
    rw [lp_consP] at h
    cases h1 : fstT (c :: r) with
    | error e' =>
      rw [h1] at h
      simp only [Except.error.injEq, Prod.mk.injEq] at h
      obtain ⟨rfl, rfl⟩ := h
      have := fst_errP h1
      refine ⟨Nat.le_refl _, by simp, this.1, this.2, [], fun f' hf' => ?_⟩
      obtain ⟨g, rfl⟩ : ∃ g, f' = g + 1 := ⟨f' - 1, by omega⟩
      simp [lpT]
    | ok x =>
      obtain ⟨t, n⟩ := x
      rw [h1] at h
      simp only at h
      have hn := fst_pos h1
      have hlen := rest_len (c :: r) n hn.2
      cases h2 : lpT f (p + n + blk false ((c :: r).drop n)) (((c :: r).drop n).drop (blk false ((c :: r).drop n))) with
      | ok us => rw [h2] at h; cases h
      | error qe =>
        rw [h2] at h
        simp only [preT, Except.error.injEq] at h
        subst h
        obtain ⟨g1, g2, g3, g4, ts, g5⟩ := lp_fault f _ _ q e (by simp only [List.length_cons] at hf hlen; omega) h2
        refine ⟨by omega, by omega, g3, g4, t.at p :: ts, fun f' hf' => ?_⟩
        obtain ⟨g, rfl⟩ : ∃ g, f' = g + 1 := ⟨f' - 1, by omega⟩
        obtain ⟨m, hm⟩ : ∃ m, q - p = m := ⟨_, rfl⟩
        have ht := (fst_take m h1 (by omega)).2.2
        obtain ⟨y, rfl⟩ : ∃ y, m = y + 1 := ⟨m - 1, by omega⟩
        have hd : (c :: r.take y).drop n = ((c :: r).drop n).take (y + 1 - n) := by rw [← List.take_succ_cons, List.drop_take]
        have hb : blk false (((c :: r).drop n).take (y + 1 - n)) = blk false ((c :: r).drop n) := blk_take _ _ _ (by omega)
        have hdd : (((c :: r).drop n).take (y + 1 - n)).drop (blk false ((c :: r).drop n)) = (((c :: r).drop n).drop (blk false ((c :: r).drop n))).take (q - (p + n + blk false ((c :: r).drop n))) := by
          rw [List.drop_take]
          congr 1
          omega
        rw [hm, List.take_succ_cons] at *
        rw [lp_consP, ht]
        simp only
        rw [hd, hb, hdd, g5 g (by simp only [List.length_cons] at hf' hlen; omega)]
        simp [preT]

theorem all_split {l : List UInt8} (h : l.length ≤ 8192) : allT l = lpT (l.length + 1) (blk false l) (l.drop (blk false l)) := by unfold allT; rw [if_neg (by omega)]

theorem all_small {l : List UInt8} {ts : List Tk} (h : allT l = .ok ts) : l.length ≤ 8192 := by
  unfold allT at h
  split at h
  · cases h
  · omega

/-- the tokens: the end, their places, a source up to a token -/
theorem all_ok {l : List UInt8} {ts : List Tk} (h : allT l = .ok ts) :
    (∃ us, ts = us ++ [endT l.length]) ∧ (∀ (i : Nat) (t : Tk), ts[i]? = some t → t.p ≤ l.length ∧ allT (l.take t.p) = .ok (ts.take i ++ [endT t.p])) ∧ (∀ (i : Nat) (a b : Tk), ts[i]? = some a → ts[i + 1]? = some b → a.p < b.p) := by
  have hl := all_small h
  rw [all_split hl] at h
  have hb := blk_le false l
  obtain ⟨h1, h2, h3⟩ := lp_all _ _ _ _ (by rw [List.length_drop]; omega) h
  have he : blk false l + (l.drop (blk false l)).length = l.length := by rw [List.length_drop]; omega
  rw [he] at h1
  refine ⟨h1, fun i t ht => ?_, h3⟩
  obtain ⟨g1, g2, g3⟩ := h2 i t ht
  rw [he] at g2
  refine ⟨g2, ?_⟩
  have hbt : blk false (l.take t.p) = blk false l := blk_take _ _ _ g1
  rw [all_split (by rw [List.length_take]; omega), hbt, List.drop_take]
  -- the fuel
  have := g3 ((l.take t.p).length + 1 + l.length) (by rw [List.length_drop]; omega)
  exact (lp_fuel _ _ _ _ (by rw [List.length_take, List.length_drop, List.length_take]; omega) (by rw [List.length_take, List.length_drop, List.length_take]; omega)).trans this

theorem all_err {l : List UInt8} {q e : Nat} (h : allT l = .error (q, e)) :
    (e = 160 ∧ q = 0 ∧ 8192 < l.length) ∨ (161 ≤ e ∧ e ≤ 164 ∧ l.length ≤ 8192 ∧ q < l.length ∧ ∃ ts, allT (l.take q) = .ok (ts ++ [endT q])) := by
  by_cases hl : 8192 < l.length
  · left
    unfold allT at h
    rw [if_pos hl] at h
    simp only [Except.error.injEq, Prod.mk.injEq] at h
    exact ⟨h.2.symm, h.1.symm, hl⟩
  · right
    rw [all_split (by omega)] at h
    have hb := blk_le false l
    obtain ⟨g1, g2, g3, g4, ts, g5⟩ := lp_fault _ _ _ _ _ (by rw [List.length_drop]; omega) h
    have he : blk false l + (l.drop (blk false l)).length = l.length := by rw [List.length_drop]; omega
    rw [he] at g2
    refine ⟨g3, g4, by omega, g2, ts, ?_⟩
    have hbt : blk false (l.take q) = blk false l := blk_take _ _ _ g1
    rw [all_split (by rw [List.length_take]; omega), hbt, List.drop_take]
    have := g5 ((l.take q).length + 1 + l.length) (by rw [List.length_drop]; omega)
    exact (lp_fuel _ _ _ _ (by rw [List.length_take, List.length_drop, List.length_take]; omega) (by rw [List.length_take, List.length_drop, List.length_take]; omega)).trans this
end Go.Proofs.YtgalfhlclmkbfaaGreatDoor
