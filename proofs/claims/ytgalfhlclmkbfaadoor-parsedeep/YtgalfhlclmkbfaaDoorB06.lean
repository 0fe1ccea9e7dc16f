/-
  What stands behind a source's tokens, a byte between that belongs to none of them, changes none of them; tokens at another place; plain lists, no conditions.
  Layer 17 (parse): what can't go on with a token can't, whatever stands behind it, of sources; plain lists, no conditions.
-/
import Derived.Test.YtgalfhlclmkbfaaDoorB05
import Derived.Test.YtgalfhlclmkbfaaDoorB04
set_option linter.unusedVariables false
set_option linter.unusedSimpArgs false
namespace Go.Proofs.YtgalfhlclmkbfaaDoor
set_option linter.unusedVariables false
set_option linter.unusedSimpArgs false

/-- a byte that no token goes on with -/
def frB (c : UInt8) : Bool := !lxW c && !(c.toNat == 47) && sgL.all (fun g => !(g.getD 1 0 == c && g.length == 2))

theorem fr_parts {c : UInt8} (h : frB c = true) : lxW c = false ∧ ¬ c.toNat = 47 ∧ ∀ d, sgB [d, c] = false := by
  unfold frB at h
  simp only [Bool.and_eq_true, Bool.not_eq_true', beq_eq_false_iff_ne, ne_eq] at h
  obtain ⟨⟨h1, h2⟩, h3⟩ := h
  refine ⟨h1, h2, fun d => ?_⟩
  cases e : sgB [d, c] with
  | false => rfl
  | true =>
    have hm : [d, c] ∈ sgL := by unfold sgB at e; simpa using e
    have := List.all_eq_true.1 h3 _ hm
    simp at this

theorem tw_fr (l X : List UInt8) {c : UInt8} (h : lxW c = false) : (l ++ c :: X).takeWhile lxW = l.takeWhile lxW := by
  induction l with
  | nil => rw [List.nil_append, List.takeWhile_cons, if_neg (by simp [h])]; rfl
  | cons a r ih =>
    rw [List.cons_append, List.takeWhile_cons, List.takeWhile_cons, ih]

theorem hexP_app {l : List UInt8} {x : UInt8 × Nat} (X : List UInt8) (h : hexP l = some x) : hexP (l ++ X) = some x := by
  match l, h with
  | [], h => cases h
  | [e], h => cases h
  | e :: f :: r, h => exact h
theorem escP_app {l : List UInt8} {x : UInt8 × Nat} (X : List UInt8) (h : escP l = some x) : escP (l ++ X) = some x := by
  match l, h with
  | [], h => cases h
  | d :: r, h =>
    rw [List.cons_append, escP_cons]
    rw [escP_cons] at h
    by_cases h1 : d.toNat = 34 ∨ d.toNat = 92
    · rw [if_pos h1] at h ⊢; exact h
    · rw [if_neg h1] at h ⊢
      by_cases h2 : d.toNat = 120
      · rw [if_pos h2] at h ⊢; exact hexP_app X h
      · rw [if_neg h2] at h; cases h
theorem pcL_app {l : List UInt8} {x : UInt8 × Nat} (X : List UInt8) (h : pcL l = some x) : pcL (l ++ X) = some x := by
  match l, h with
  | [], h => cases h
  | c :: r, h =>
    rw [List.cons_append, pcL_cons]
    rw [pcL_cons] at h
    by_cases h1 : c.toNat < 32 ∨ 126 < c.toNat
    · rw [if_pos h1] at h; cases h
    · rw [if_neg h1] at h ⊢
      by_cases h2 : c.toNat = 92
      · rw [if_pos h2] at h ⊢; exact escP_app X h
      · rw [if_neg h2] at h ⊢; exact h
theorem pcs_app : ∀ (f : Nat) {l : List UInt8} {x : List UInt8 × Nat} (f' : Nat) (X : List UInt8), pcs f l = some x → (l ++ X).length < f' → pcs f' (l ++ X) = some x
  | 0, _, _, _, _, h, _ => by simp [pcs] at h
  | f + 1, [], _, _, _, h, _ => by simp [pcs] at h
  | f + 1, c :: r, x, f', X, h, hf => by
    obtain ⟨g, rfl⟩ : ∃ g, f' = g + 1 := ⟨f' - 1, by omega⟩
    rw [List.cons_append] at hf ⊢
    unfold pcs at h ⊢
    by_cases h0 : c.toNat = 34
    · rw [if_pos h0] at h ⊢; exact h
    · rw [if_neg h0] at h ⊢
      cases hp : pcL (c :: r) with
      | none => rw [hp] at h; simp at h
      | some y =>
        obtain ⟨b, k⟩ := y
        rw [hp] at h
        have hk := pcL_pos hp
        have h1 : pcL (c :: (r ++ X)) = some (b, k) := pcL_app X hp
        rw [h1]
        simp only at h ⊢
        have h2 : (c :: (r ++ X)).drop k = (c :: r).drop k ++ X := by rw [← List.cons_append, List.drop_append_of_le_length hk.2]
        cases hq : pcs f ((c :: r).drop k) with
        | none => rw [hq] at h; simp at h
        | some z =>
          obtain ⟨bs, m⟩ := z
          rw [hq] at h
          rw [h2, pcs_app f g X hq (by
            rw [← h2, List.length_drop]
            simp only [List.length_cons] at hf ⊢
            omega)]
          exact h

theorem sgN_fr (l X : List UInt8) {c : UInt8} (hl : l ≠ []) (h : ∀ d, sgB [d, c] = false) : sgN (l ++ c :: X) = sgN l := by
  match l, hl with
  | [d], _ =>
    have e1 : ¬ (2 ≤ ([d] ++ c :: X).length ∧ sgB (([d] ++ c :: X).take 2) = true) := by
      rintro ⟨_, e⟩
      rw [show ([d] ++ c :: X).take 2 = [d, c] from rfl, h d] at e
      cases e
    have e2 : ¬ (2 ≤ [d].length ∧ sgB ([d].take 2) = true) := fun e => by
      have := e.1
      simp at this
    rw [show sgN ([d] ++ c :: X) = if 2 ≤ ([d] ++ c :: X).length ∧ sgB (([d] ++ c :: X).take 2) = true then 2 else if sgB (([d] ++ c :: X).take 1) = true then 1 else 0 from rfl, show sgN [d] = if 2 ≤ [d].length ∧ sgB ([d].take 2) = true then 2 else if sgB ([d].take 1) = true then 1 else 0 from rfl, if_neg e1, if_neg e2]
    rfl
  | d :: e :: r, _ =>
    have e1 : ((d :: e :: r) ++ c :: X).take 2 = (d :: e :: r).take 2 := rfl
    have e2 : ((d :: e :: r) ++ c :: X).take 1 = (d :: e :: r).take 1 := rfl
    have e3 : (2 ≤ ((d :: e :: r) ++ c :: X).length) = (2 ≤ (d :: e :: r).length) := by
      simp only [List.length_cons, List.length_append, eq_iff_iff]
      omega
    unfold sgN
    simp only [e1, e2, e3]

theorem fst_app {l : List UInt8} {t : Tk} {n : Nat} (h : fstT l = .ok (t, n)) {c : UInt8} (hc : frB c = true) (X : List UInt8) : fstT (l ++ c :: X) = .ok (t, n) := by
  obtain ⟨k1, k2, k3⟩ := fr_parts hc
  cases l with
  | nil => simp [fstT] at h
  | cons a r =>
    have hw := tw_fr (a :: r) X k1
    have hs := sgN_fr (a :: r) X (by simp) k3
    rw [List.cons_append] at hw hs ⊢
    rw [fst_cons] at h ⊢
    rw [hw]
    by_cases h1 : lxLet a = true
    · rw [if_pos h1] at h ⊢; exact h
    · rw [if_neg h1] at h ⊢
      by_cases h2 : lxDig a = true
      · rw [if_pos h2] at h ⊢; exact h
      · rw [if_neg h2] at h ⊢
        by_cases h3 : a.toNat = 34
        · rw [if_pos h3] at h ⊢
          unfold bytT bytV at h ⊢
          cases hp : pcs (r.length + 1) r with
          | none => rw [hp] at h; simp [bytC] at h
          | some x =>
            rw [hp] at h
            rw [pcs_app _ ((r ++ c :: X).length + 1) (c :: X) hp (Nat.lt_succ_self _)]
            exact h
        · rw [if_neg h3] at h ⊢
          unfold sgnT at h ⊢
          rw [hs]
          by_cases h4 : sgN (a :: r) = 0
          · rw [if_pos h4] at h; simp at h
          · rw [if_neg h4] at h ⊢
            have hle := sgN_le (a :: r)
            rw [← List.cons_append, List.take_append_of_le_length hle]
            exact h

/-- where a row that is blank ends: within a remark, or not -/
def gst : Bool → List UInt8 → Bool
  | b, [] => b
  | true, c :: r => gst (decide (c.toNat ≠ 10)) r
  | false, c :: r => if lxB c = true then gst false r else gst true r

theorem blk_fc (c : UInt8) (r : List UInt8) : blk false (c :: r) = if lxB c = true then blk false r + 1 else if c.toNat = 47 ∧ r.head? = some 47 then blk true r + 1 else 0 := rfl
theorem gst_fc (c : UInt8) (r : List UInt8) : gst false (c :: r) = if lxB c = true then gst false r else gst true r := rfl
theorem blk_full : ∀ (b : Bool) (l Y : List UInt8), blk b l = l.length → blk b (l ++ Y) = l.length + blk (gst b l) Y
  | b, [], Y, h => by simp [gst]
  | true, c :: r, Y, h => by
    simp only [blk, List.length_cons] at h
    have ih := blk_full (decide (c.toNat ≠ 10)) r Y (by omega)
    simp only [List.cons_append, blk, gst, List.length_cons, ih]
    omega
  | false, c :: r, Y, h => by
    rw [blk_fc] at h
    rw [List.cons_append, blk_fc, gst_fc]
    by_cases h1 : lxB c = true
    · rw [if_pos h1] at h
      simp only [List.length_cons] at h
      rw [if_pos h1, if_pos h1, blk_full false r Y (by omega), List.length_cons]
      omega
    · rw [if_neg h1] at h
      by_cases h2 : c.toNat = 47 ∧ r.head? = some 47
      · rw [if_pos h2] at h
        simp only [List.length_cons] at h
        have h3 : c.toNat = 47 ∧ (r ++ Y).head? = some 47 := ⟨h2.1, by cases r with
          | nil => simp at h2
          | cons a q => simpa using h2.2⟩
        rw [if_neg h1, if_neg h1, if_pos h3, blk_full true r Y (by omega), List.length_cons]
        omega
      · rw [if_neg h2] at h
        simp at h

theorem blk_part : ∀ (b : Bool) (l Y : List UInt8), blk b l < l.length → ¬ Y.head? = some 47 → blk b (l ++ Y) = blk b l
  | b, [], Y, h, _ => by simp at h
  | true, c :: r, Y, h, hy => by
    simp only [blk, List.length_cons] at h
    simp only [List.cons_append, blk]
    rw [blk_part _ r Y (by omega) hy]
  | false, c :: r, Y, h, hy => by
    rw [blk_fc] at h
    rw [List.cons_append, blk_fc, blk_fc]
    by_cases h1 : lxB c = true
    · rw [if_pos h1] at h
      simp only [List.length_cons] at h
      rw [if_pos h1, if_pos h1, blk_part false r Y (by omega) hy]
    · rw [if_neg h1] at h
      rw [if_neg h1, if_neg h1]
      by_cases h2 : c.toNat = 47 ∧ r.head? = some 47
      · rw [if_pos h2] at h
        simp only [List.length_cons] at h
        have h3 : c.toNat = 47 ∧ (r ++ Y).head? = some 47 := ⟨h2.1, by cases r with
          | nil => simp at h2
          | cons a q => simpa using h2.2⟩
        rw [if_pos h2, if_pos h3, blk_part true r Y (by omega) hy]
      · have h3 : ¬ (c.toNat = 47 ∧ (r ++ Y).head? = some 47) := fun e => h2 ⟨e.1, by cases r with
          | nil => exact absurd (by simpa using e.2) hy
          | cons a q => simpa using e.2⟩
        rw [if_neg h2, if_neg h3]

/-- tokens from a place on, where blanks may stand; within a remark, or not -/
def gpT (b : Bool) (p : Nat) (l : List UInt8) : Except (Nat × Nat) (List Tk) := lpT (l.length + 1) (p + blk b l) (l.drop (blk b l))

theorem gp_nil (b : Bool) (p : Nat) : gpT b p [] = .ok [endT p] := by cases b <;> rfl
theorem gp_all {l : List UInt8} (h : l.length ≤ 8192) : allT l = gpT false 0 l := by rw [all_split h]; unfold gpT; rw [Nat.zero_add]
theorem gp_lp {f p : Nat} {b : Bool} {l : List UInt8} (h : l.length < f) : lpT f (p + blk b l) (l.drop (blk b l)) = gpT b p l := lp_fuel _ _ _ _ (by rw [List.length_drop]; omega) (by rw [List.length_drop]; omega)
/-- all of it is blank -/
theorem gp_full {b : Bool} {p : Nat} {l : List UInt8} (h : blk b l = l.length) (Y : List UInt8) : gpT b p (l ++ Y) = gpT (gst b l) (p + l.length) Y := by
  rw [← gp_lp (f := (l ++ Y).length + 1) (p := p + l.length) (b := gst b l) (l := Y) (by rw [List.length_append]; omega)]
  unfold gpT
  rw [blk_full b l Y h, ← List.drop_drop, List.drop_left, Nat.add_assoc]
/-- a token is first -/
theorem gp_tok {b : Bool} {p : Nat} {l : List UInt8} {t : Tk} {n : Nat} (h : fstT (l.drop (blk b l)) = .ok (t, n)) : gpT b p l = preT [t.at (p + blk b l)] (gpT false (p + blk b l + n) ((l.drop (blk b l)).drop n)) := by
  have hn := fst_pos h
  unfold gpT
  cases hd : l.drop (blk b l) with
  | nil => rw [hd] at hn; simp at hn; omega
  | cons c r =>
    rw [hd] at h hn
    have hlen : (c :: r).length ≤ l.length := by rw [← hd, List.length_drop]; omega
    rw [lp_consP, h]
    simp only
    congr 1
    exact lp_fuel _ _ _ _ (by rw [List.length_drop, List.length_drop]; simp only [List.length_cons] at hlen ⊢; omega) (by rw [List.length_drop]; omega)

theorem gp_bad {b : Bool} {p : Nat} {l : List UInt8} (hl : blk b l < l.length) {e : Nat} (h : fstT (l.drop (blk b l)) = .error e) : gpT b p l = .error (p + blk b l, e) := by
  unfold gpT
  cases hd : l.drop (blk b l) with
  | nil =>
    have := congrArg List.length hd
    rw [List.length_drop] at this
    simp at this
    omega
  | cons c r =>
    rw [hd] at h
    rw [lp_consP, h]

theorem pre_ok {A : List Tk} {x : Except (Nat × Nat) (List Tk)} {ts : List Tk} (h : preT A x = .ok ts) : ∃ us, x = .ok us ∧ ts = A ++ us := by
  cases x with
  | error e => cases h
  | ok us => cases h; exact ⟨us, rfl, rfl⟩

theorem gp_len : ∀ (m : Nat) (b : Bool) (p : Nat) (l : List UInt8) (A : List Tk) (e : Nat), l.length ≤ m → gpT b p l = .ok (A ++ [endT e]) → e = p + l.length
  | m, b, p, l, A, e, hm, h => by
    have hb := blk_le b l
    have := (lp_all (l.length + 1) (p + blk b l) (l.drop (blk b l)) _ (by rw [List.length_drop]; omega) h).1
    obtain ⟨us, hu⟩ := this
    have h2 := (List.append_inj' hu rfl).2
    simp only [List.cons.injEq, endT, Tk.mk.injEq] at h2
    rw [List.length_drop] at h2
    omega

/-- what stands behind -/
theorem gp_app : ∀ (m : Nat) (b : Bool) (p : Nat) (l : List UInt8) (A : List Tk) (e : Nat), l.length ≤ m → gpT b p l = .ok (A ++ [endT e]) → ∃ b', ∀ (c : UInt8) (X : List UInt8), frB c = true → gpT b p (l ++ c :: X) = preT A (gpT b' (p + l.length) (c :: X))
  | m, b, p, l, A, e, hm, h => by
    have hb := blk_le b l
    by_cases h0 : blk b l = l.length
    · have hA : A = [] := by
        unfold gpT at h
        rw [h0, List.drop_length] at h
        simp only [lpT, Except.ok.injEq] at h
        have := congrArg List.length h
        simp at this
        exact this
      subst hA
      refine ⟨gst b l, fun c X hc => ?_⟩
      rw [gp_full h0, preT_nil]
    · have hlt : blk b l < l.length := by omega
      cases hf : fstT (l.drop (blk b l)) with
      | error er => rw [gp_bad hlt hf] at h; cases h
      | ok x =>
        obtain ⟨t, n⟩ := x
        have hn := fst_pos hf
        rw [List.length_drop] at hn
        obtain ⟨us, hu, hA⟩ := pre_ok ((gp_tok hf).symm.trans h)
        have hd : ((l.drop (blk b l)).drop n).length + blk b l + n = l.length := by rw [List.length_drop, List.length_drop]; omega
        obtain ⟨A', rfl, hA'⟩ : ∃ A', us = A' ++ [endT e] ∧ A = t.at (p + blk b l) :: A' := by
          cases A with
          | nil =>
            simp only [List.nil_append, List.singleton_append, List.cons.injEq] at hA
            obtain ⟨_, rfl⟩ := hA
            exfalso
            have := (lp_all _ _ _ _ (by rw [List.length_drop]; omega) hu).1
            obtain ⟨vs, hv⟩ := this
            simp at hv
          | cons a A' =>
            simp only [List.cons_append, List.nil_append, List.cons.injEq] at hA
            exact ⟨A', hA.2.symm, by rw [hA.1]⟩
        cases m with
        | zero => omega
        | succ m =>
          obtain ⟨b', ih⟩ := gp_app m false _ _ A' e (by omega) hu
          refine ⟨b', fun c X hc => ?_⟩
          have hbp : blk b (l ++ c :: X) = blk b l := blk_part b l (c :: X) hlt (by
            simp only [List.head?_cons, Option.some.injEq]
            intro e2
            exact (fr_parts hc).2.1 (by rw [e2]; rfl))
          have hdr : (l ++ c :: X).drop (blk b l) = l.drop (blk b l) ++ c :: X := List.drop_append_of_le_length hb
          have hf' : fstT ((l ++ c :: X).drop (blk b (l ++ c :: X))) = .ok (t, n) := by rw [hbp, hdr]; exact fst_app hf hc X
          rw [gp_tok hf', hbp, hdr, List.drop_append_of_le_length (by rw [List.length_drop]; omega), ih c X hc, preT_add, hA']
          congr 2
          omega

/-- tokens at another place -/
theorem lp_move : ∀ (f p q : Nat) (l : List UInt8) (ts : List Tk), lpT f p l = .ok ts → ∃ us, lpT f q l = .ok us ∧ us.map (fun t => (t.k, t.t, t.n)) = ts.map (fun t => (t.k, t.t, t.n))
  | 0, p, q, l, ts, h => by simp [lpT] at h
  | f + 1, p, q, [], ts, h => by
    simp only [lpT, Except.ok.injEq] at h
    subst h
    exact ⟨_, rfl, rfl⟩
  | f + 1, p, q, c :: r, ts, h => by
    obtain ⟨t, n, us, h1, h2, rfl⟩ := lp_ok h
    obtain ⟨vs, h3, h4⟩ := lp_move f _ (q + n + blk false ((c :: r).drop n)) _ us h2
    refine ⟨t.at q :: vs, ?_, ?_⟩
    · rw [lp_consP, h1]
      simp only
      rw [h3]
      rfl
    · rw [List.map_cons, List.map_cons, h4]
      rfl
theorem gp_move {b : Bool} {p : Nat} (q : Nat) {l : List UInt8} {ts : List Tk} (h : gpT b p l = .ok ts) : ∃ us, gpT b q l = .ok us ∧ us.map (fun t => (t.k, t.t, t.n)) = ts.map (fun t => (t.k, t.t, t.n)) := lp_move _ _ _ _ _ h
end Go.Proofs.YtgalfhlclmkbfaaDoor

namespace Go.Proofs.YtgalfhlclmkbfaaDoor
set_option linter.unusedVariables false
set_option linter.unusedSimpArgs false

theorem prL_end : ∀ (f x : Nat) (acc : List Nd) (l : List Tk) (d : Nat) (ns : List Nd) (l' : List Tk), PJ f 14 x acc l d = some (.ok (ns, l')) → (hdT l').k = 0
  | 0, _, _, _, _, _, _, h => by cases h
  | f + 1, x, acc, l, d, ns, l', h => by
    have h' : jPrL (PJ f) acc l d = some (.ok (ns, l')) := h
    unfold jPrL at h'
    by_cases hk : (hdT l).k = 0
    · rw [if_pos hk] at h'
      cases h'
      exact hk
    · rw [if_neg hk] at h'
      cases hb : PJ f 13 0 [] l d with
      | none => rw [hb] at h'; cases h'
      | some y =>
        rw [hb] at h'
        cases y with
        | error e => cases h'
        | ok z => exact prL_end f 0 _ _ d ns l' h'
theorem prog_end {f x : Nat} {acc : List Nd} {l : List Tk} {d : Nat} {ns : List Nd} {l' : List Tk} (h : PJ f 27 x acc l d = some (.ok (ns, l'))) : (hdT l').k = 0 := by
  cases f with
  | zero => cases h
  | succ f =>
    have h' : bnd (PJ f 14 0 [] l d) (fun ks l1 => okN [nd0 1 [] ks 0] l1) = some (.ok (ns, l')) := h
    cases hb : PJ f 14 0 [] l d with
    | none => rw [hb] at h'; cases h'
    | some y =>
      rw [hb] at h'
      cases y with
      | error e => cases h'
      | ok z =>
        have h2 := prL_end f 0 [] l d z.1 z.2 hb
        cases h'
        exact h2

theorem err_mem {f : Nat} {ts : List Tk} {c p : Nat} (hz : ∃ w q, ts = w ++ [endT q]) (h : PJ f 27 0 [] ts 0 = some (.error (c, p))) : ∃ t ∈ ts, t.p = p := by
  have hr := (rel_all (smS ts [] hz) f).1 false 27 0 [] [] ts ts 0 0 ⟨(fun e => by cases e), (by decide), (fun e => by cases e)⟩ (fun _ => rfl) ⟨by obtain ⟨w, q, rfl⟩ := hz; simp, [], rfl⟩ ⟨Nat.le_refl _, fun _ => rfl⟩
  rw [h] at hr
  exact hr

theorem inc_of {ts : List Tk} (h : ∀ (i : Nat) (a b : Tk), ts[i]? = some a → ts[i + 1]? = some b → a.p < b.p) (i : Nat) : ∀ (k : Nat) (a b : Tk), ts[i]? = some a → ts[i + 1 + k]? = some b → a.p < b.p
  | 0, a, b, ha, hb => h i a b ha hb
  | k + 1, a, b, ha, hb => by
    have hlt : i + 1 + k < ts.length := by
      have := (List.getElem?_eq_some_iff.1 hb).1
      omega
    have h1 := inc_of h i k a _ ha (List.getElem?_eq_getElem hlt)
    have h2 := h (i + 1 + k) _ b (List.getElem?_eq_getElem hlt) hb
    omega

theorem fr10 : frB 10 = true := by decide +kernel
theorem fr59 : frB 59 = true := by decide +kernel

theorem stops_all {s rest : List UInt8} {ts : List Tk} {f j : Nat} {t t2 : Tk} {c : Nat} (ha : allT s = .ok ts) (h1 : ts[j]? = some t) (h2 : ts[j + 1]? = some t2) (hp : PJ f 27 0 [] ts 0 = some (.error (c, t.p))) (hl : (s.take t2.p ++ 10 :: rest).length ≤ 8192) :
    (∃ q er, allT (s.take t2.p ++ 10 :: rest) = .error (q, er)) ∨ ∃ ts', allT (s.take t2.p ++ 10 :: rest) = .ok ts' ∧ PJ f 27 0 [] ts' 0 = some (.error (c, t.p)) := by
  obtain ⟨⟨us, hus⟩, g2, g3⟩ := all_ok ha
  have hu := (g2 (j + 1) t2 h2).2
  have hlen : (s.take t2.p).length ≤ 8192 := by
    rw [List.length_append] at hl
    omega
  rw [gp_all hlen] at hu
  obtain ⟨b', hb⟩ := gp_app _ _ _ _ _ _ (Nat.le_refl _) hu
  have hb2 := hb 10 rest fr10
  rw [← gp_all hl] at hb2
  have hj : j + 1 < ts.length := (List.getElem?_eq_some_iff.1 h2).1
  cases hx : gpT b' (0 + (s.take t2.p).length) (10 :: rest) with
  | error e =>
    rw [hx] at hb2
    exact .inl ⟨e.1, e.2, hb2⟩
  | ok z' =>
    rw [hx] at hb2
    refine .inr ⟨_, hb2, ?_⟩
    refine stops (z := ts.drop (j + 1)) rfl (by decide) ?_ ?_ (by rw [List.take_append_drop]; exact hp) ?_
    · rw [hus, List.length_append, List.length_cons, List.length_nil] at hj
      refine ⟨us.drop (j + 1), s.length, ?_⟩
      rw [hus, List.drop_append_of_le_length (by omega)]
    · intro e
      have := congrArg List.length e
      rw [List.length_take, List.length_nil] at this
      omega
    · intro x hx e
      obtain ⟨k, hk, rfl⟩ := List.getElem_of_mem hx
      rw [List.length_drop] at hk
      have h3 : ts[j + 1 + k]? = some ((ts.drop (j + 1))[k]'(by rw [List.length_drop]; exact hk)) := by
        rw [List.getElem_drop]
        exact List.getElem?_eq_getElem _
      have := inc_of g3 j k t _ h1 h3
      omega
end Go.Proofs.YtgalfhlclmkbfaaDoor
