/-
  Layer 17 (parse): two runs of the reader beside each other: every job; plain lists, no conditions.
-/
import Derived.Test.YtgalfhlclmkbfaaDoorB02
set_option linter.unusedVariables false
set_option linter.unusedSimpArgs false
namespace Go.Proofs.YtgalfhlclmkbfaaDoor
set_option linter.unusedVariables false
set_option linter.unusedSimpArgs false

/-- jobs that begin behind a token that was seen -/
def needK : Nat → Bool
  | 12 => true
  | 15 => true
  | 17 => true
  | 18 => true
  | 26 => true
  | _ => false
/-- jobs of expressions -/
def exprJ (j : Nat) : Bool := decide (j ≤ 8 ∨ (21 ≤ j ∧ j ≤ 25))
def okX (S : Sm) (j x : Nat) (l : List Tk) : Prop := (needK j = true → ¬ (hdT l).k = 0) ∧ (j = 2 ∨ j = 3 → 1 ≤ x) ∧ (S.sl = true → exprJ j = true)

/-- both runs of every job go together -/
def RelJ (S : Sm) (r : Jb) : Prop := ∀ (b : Bool) (j x : Nat) (acc acc' : List Nd) (l l' : List Tk) (d d' : Nat), okX S j x l → (b = true → npL acc = npL acc') → Stn S b l l' → dR S d d' → RU S b (r j x acc l d) (r j x acc' l' d')
/-- a name is passed over -/
def nmJ (j : Nat) : Bool := decide (j = 0 ∨ j = 1 ∨ j = 2 ∨ j = 5 ∨ j = 16 ∨ j = 19 ∨ j = 21 ∨ j = 24)
def NmeJ (S : Sm) (r : Jb) : Prop := ∀ (j x : Nat) (acc : List Nd) (l : List Tk) (d : Nat), nmJ j = true → (j = 2 → 1 ≤ x) → (hdT l).k = 1 → S.dd l.tail → UO S (r j x acc l d)

theorem okx {S : Sm} (j x : Nat) (l : List Tk) (h1 : needK j = false) (h2 : exprJ j = true) (h3 : j = 2 ∨ j = 3 → 1 ≤ x) : okX S j x l := ⟨(fun e => by rw [h1] at e; cases e), h3, fun _ => h2⟩
theorem okf {S : Sm} (j x : Nat) (l : List Tk) (h1 : needK j = true → ¬ (hdT l).k = 0) (hs : S.sl = false) (h3 : j = 2 ∨ j = 3 → 1 ≤ x) : okX S j x l := ⟨h1, h3, (fun e => by rw [hs] at e; cases e)⟩
theorem nsl {S : Sm} {j x : Nat} {l : List Tk} (h : okX S j x l) (hj : exprJ j = false) : S.sl = false := by
  cases hs : S.sl with
  | false => rfl
  | true => have := h.2.2 hs; rw [hj] at this; cases this
theorem nil_np (b : Bool) : b = true → npL [] = npL [] := fun _ => rfl
theorem app_np {b b1 : Bool} {a a' c c' : List Nd} (h : b = true → npL a = npL a') (hb : b1 = true → b = true) (h1 : b1 = true → npL c = npL c') : b1 = true → npL (a ++ c) = npL (a' ++ c') := fun e => by rw [npL_app, npL_app, h (hb e), h1 e]
theorem ns59 {S : Sm} {s : List UInt8} (h : ¬ s = [59]) : S.sl = true → ¬ s = [59] := fun _ => h
theorem nf59 {S : Sm} {s : List UInt8} (h : S.sl = false) : S.sl = true → ¬ s = [59] := fun e => by rw [h] at e; cases e

section
variable {S : Sm} {r : Jb}

theorem rl_unary (ih : RelJ S r) {b : Bool} {l l' : List Tk} {d d' : Nat} (h : Stn S b l l') (hd : dR S d d') : RU S b (jUnary r l d) (jUnary r l' d') := by
  unfold jUnary
  refine ru_ite (fun e => by rw [sE h [45] (ns59 (by decide)) e, sE h [33] (ns59 (by decide)) e]) (fun hi => ?_) (fun _ => ih b 24 0 [] [] l l' d d' (okx 24 0 l rfl rfl (by decide)) (nil_np b) h hd)
  have hk : ¬ (hdT l).k = 0 := by rcases hi with hi | hi <;> exact sK hi
  have ht : (hdT l).t = [45] ∨ (hdT l).t = [33] := by
    rcases hi with hi | hi
    · rw [isS_def] at hi; exact .inl (of_decide_eq_true hi).2
    · rw [isS_def] at hi; exact .inr (of_decide_eq_true hi).2
  refine ru_en h (tE h hk) (fun _ => by rcases ht with ht | ht <;> rw [ht] <;> decide) hd (fun b1 t t' l1 l1' hb he h1 => ?_)
  refine ru_bnd (ih b1 1 0 [] [] l1 l1' (d + 1) (d' + 1) (okx 1 0 l1 rfl rfl (by decide)) (nil_np b1) h1 (dR_one hd)) (fun b2 ns ns' l2 l2' hb2 hn h2 => ?_)
  exact ru_ok (fun e => npL_nd (he (hb2 e)) (hn e)) h2
theorem rl_binary (ih : RelJ S r) {b : Bool} {x : Nat} {l l' : List Tk} {d d' : Nat} (hx : 1 ≤ x) (h : Stn S b l l') (hd : dR S d d') : RU S b (jBinary r x l d) (jBinary r x l' d') := by
  unfold jBinary
  refine ru_ite (fun _ => Iff.rfl) (fun _ => ih b 1 0 [] [] l l' d d' (okx 1 0 l rfl rfl (by decide)) (nil_np b) h hd) (fun _ => ?_)
  refine ru_bnd (ih b 2 (x + 1) [] [] l l' d d' (okx 2 (x + 1) l rfl rfl (by omega)) (nil_np b) h hd) (fun b1 ns ns' l1 l1' hb hn h1 => ?_)
  exact ih b1 3 x ns ns' l1 l1' d d' (okx 3 x l1 rfl rfl (fun _ => hx)) hn h1 hd
theorem rl_binL (ih : RelJ S r) {b : Bool} {x : Nat} {acc acc' : List Nd} {l l' : List Tk} {d d' : Nat} (hx : 1 ≤ x) (ha : b = true → npL acc = npL acc') (h : Stn S b l l') (hd : dR S d d') : RU S b (jBinL r x acc l d) (jBinL r x acc' l' d') := by
  unfold jBinL
  refine ru_ite (fun e => by rw [rE h e]) (fun hi => ?_) (fun _ => ru_ok ha h)
  have hk := rK hi hx
  refine ru_tail h hk (fun b1 hb h1 => ?_)
  refine ru_bnd (ih b1 2 (x + 1) [] [] l.tail l'.tail d d' (okx 2 (x + 1) l.tail rfl rfl (by omega)) (nil_np b1) h1 hd) (fun b2 ns ns' l2 l2' hb2 hn h2 => ?_)
  have hq : b2 = true → npL [nd0 17 (hdT l).t (acc ++ ns) (hdT l).p] = npL [nd0 17 (hdT l').t (acc' ++ ns') (hdT l').p] := fun e => npL_nd (tE h hk (hb (hb2 e))) (app_np ha (fun e => hb (hb2 e)) hn e)
  exact ru_ite (fun _ => Iff.rfl) (fun _ => ru_ok hq h2) (fun _ => ih b2 3 x _ _ l2 l2' d d' (okx 3 x l2 rfl rfl (fun _ => hx)) hq h2 hd)
theorem rl_reached (ih : RelJ S r) {b : Bool} {l l' : List Tk} {d d' : Nat} (h : Stn S b l l') (hd : dR S d d') : RU S b (jReached r l d) (jReached r l' d') := by
  unfold jReached
  refine ru_bnd (ih b 5 0 [] [] l l' d d' (okx 5 0 l rfl rfl (by decide)) (nil_np b) h hd) (fun b1 ns ns' l1 l1' hb hn h1 => ?_)
  exact ih b1 4 0 ns ns' l1 l1' d d' (okx 4 0 l1 rfl rfl (by decide)) hn h1 hd
theorem rl_reL (ih : RelJ S r) {b : Bool} {acc acc' : List Nd} {l l' : List Tk} {d d' : Nat} (ha : b = true → npL acc = npL acc') (h : Stn S b l l') (hd : dR S d d') : RU S b (jReL r acc l d) (jReL r acc' l' d') := by
  unfold jReL
  refine ru_ite (bE (sE h [91] (ns59 (by decide)))) (fun _ => ?_) (fun _ => ru_ite (bE (sE h [46] (ns59 (by decide)))) (fun hi => ?_) (fun _ => ru_ok ha h))
  · refine ru_en h (fun _ => rfl) (ns59 (by decide)) hd (fun b1 t t' l1 l1' hb he h1 => ?_)
    refine ru_bnd (ih b1 0 0 [] [] l1 l1' (d + 1) (d' + 1) (okx 0 0 l1 rfl rfl (by decide)) (nil_np b1) h1 (dR_one hd)) (fun b2 ns ns' l2 l2' hb2 hn h2 => ?_)
    refine ru_sg h2 (ns59 (by decide)) (fun b3 t3 t3' l3 l3' hb3 he3 h3 => ?_)
    exact ih b3 4 0 _ _ l3 l3' d d' (okx 4 0 l3 rfl rfl (by decide)) (fun e => npL_nd rfl (app_np ha (fun e => hb (hb2 (hb3 e))) (fun e => hn (hb3 e)) e)) h3 hd
  · refine ru_tail h (sK hi) (fun b1 hb h1 => ?_)
    refine ru_nm h1 (fun b2 t t' l2 l2' hb2 he h2 => ?_)
    exact ih b2 4 0 _ _ l2 l2' d d' (okx 4 0 l2 rfl rfl (by decide)) (fun e => npL_nd (he e) (ha (hb (hb2 e)))) h2 hd
theorem rl_lit {b : Bool} {vk vn vn' : Nat} {vs vs' : List UInt8} {l l' : List Tk} (h : Stn S b l l') (hk : ¬ (hdT l).k = 0) (h1 : b = true → vn = vn') (h2 : b = true → vs = vs') : RU S b (litN vk vn vs l) (litN vk vn' vs' l') := by
  unfold litN
  refine ru_tail h hk (fun b1 hb h3 => ru_ok (fun e => ?_) h3)
  rw [h1 (hb e), h2 (hb e)]
  simp only [npL]
theorem rl_operand (ih : RelJ S r) {b : Bool} {l l' : List Tk} {d d' : Nat} (h : Stn S b l l') (hd : dR S d d') : RU S b (jOperand r l d) (jOperand r l' d') := by
  unfold jOperand
  refine ru_ite (nE h 1 (by decide) (by decide)) (fun _ => ih b 21 0 [] [] l l' d d' (okx 21 0 l rfl rfl (by decide)) (nil_np b) h hd) (fun _ => ?_)
  refine ru_ite (nE h 3 (by decide) (by decide)) (fun hi => rl_lit h (by omega) (vE h (by omega)) (fun _ => rfl)) (fun _ => ?_)
  refine ru_ite (nE h 4 (by decide) (by decide)) (fun hi => rl_lit h (by omega) (fun _ => rfl) (tE h (by omega))) (fun _ => ?_)
  refine ru_ite (bE (kE h _)) (fun hi => rl_lit h (kK hi) (fun _ => rfl) (fun _ => rfl)) (fun _ => ?_)
  refine ru_ite (bE (kE h _)) (fun hi => rl_lit h (kK hi) (fun _ => rfl) (fun _ => rfl)) (fun _ => ?_)
  refine ru_ite (bE (kE h _)) (fun hi => rl_lit h (kK hi) (fun _ => rfl) (fun _ => rfl)) (fun _ => ?_)
  refine ru_ite (bE (sE h [91] (ns59 (by decide)))) (fun _ => ih b 22 2 [] [] l l' d d' (okx 22 2 l rfl rfl (by decide)) (nil_np b) h hd) (fun _ => ?_)
  exact ru_ite (bE (sE h [123] (ns59 (by decide)))) (fun _ => ih b 22 3 [] [] l l' d d' (okx 22 3 l rfl rfl (by decide)) (nil_np b) h hd) (fun _ => ih b 23 0 [] [] l l' d d' (okx 23 0 l rfl rfl (by decide)) (nil_np b) h hd)
theorem rl_name (ih : RelJ S r) {b : Bool} {l l' : List Tk} {d d' : Nat} (h : Stn S b l l') (hd : dR S d d') : RU S b (jName r l d) (jName r l' d') := by
  unfold jName
  refine ru_nm h (fun b1 t t' l1 l1' hb he h1 => ?_)
  refine ru_ite (bE (sE h1 [40] (ns59 (by decide)))) (fun _ => ?_) (fun _ => ru_ok (fun e => npL_nd (he e) rfl) h1)
  refine ru_bnd (ih b1 22 1 [] [] l1 l1' d d' (okx 22 1 l1 rfl rfl (by decide)) (nil_np b1) h1 hd) (fun b2 ns ns' l2 l2' hb2 hn h2 => ?_)
  exact ru_ok (fun e => by rw [npL_map t.t t.p 0, npL_map t'.t t'.p 0, hn e, he (hb2 e)]) h2
theorem opX_ne (x : Nat) : ¬ opX x = [59] := by unfold opX; split <;> (try split) <;> decide
theorem clX_ne (x : Nat) : ¬ clX x = [59] := by unfold clX; split <;> (try split) <;> decide
theorem rl_within (ih : RelJ S r) {b : Bool} {x : Nat} {l l' : List Tk} {d d' : Nat} (h : Stn S b l l') (hd : dR S d d') : RU S b (jWithin r x l d) (jWithin r x l' d') := by
  unfold jWithin
  refine ru_en h (fun _ => rfl) (ns59 (opX_ne x)) hd (fun b1 t t' l1 l1' hb he h1 => ?_)
  refine ru_bnd (ih b1 6 x [] [] l1 l1' (d + 1) (d' + 1) (okx 6 x l1 rfl rfl (by omega)) (nil_np b1) h1 (dR_one hd)) (fun b2 ns ns' l2 l2' hb2 hn h2 => ?_)
  refine ru_sg h2 (ns59 (clX_ne x)) (fun b3 t3 t3' l3 l3' hb3 he3 h3 => ?_)
  exact ru_ok (fun e => npL_nd rfl (hn (hb3 e))) h3
theorem rl_part (ih : RelJ S r) {b : Bool} {x : Nat} {l l' : List Tk} {d d' : Nat} (h : Stn S b l l') (hd : dR S d d') : RU S b (jPart r x l d) (jPart r x l' d') := by
  unfold jPart
  refine ru_ite (fun _ => Iff.rfl) (fun _ => ih b 25 0 [] [] l l' d d' (okx 25 0 l rfl rfl (by decide)) (nil_np b) h hd) (fun _ => ?_)
  exact ru_ite (fun _ => Iff.rfl) (fun _ => ih b 8 0 [] [] l l' d d' (okx 8 0 l rfl rfl (by decide)) (nil_np b) h hd) (fun _ => ih b 0 0 [] [] l l' d d' (okx 0 0 l rfl rfl (by decide)) (nil_np b) h hd)
theorem rl_parts (ih : RelJ S r) {b : Bool} {x : Nat} {l l' : List Tk} {d d' : Nat} (h : Stn S b l l') (hd : dR S d d') : RU S b (jParts r x l d) (jParts r x l' d') := by
  unfold jParts
  refine ru_ite (bE (sE h (clX x) (ns59 (clX_ne x)))) (fun _ => ru_ok (nil_np b) h) (fun _ => ?_)
  refine ru_bnd (rl_part ih h hd) (fun b1 ns ns' l1 l1' hb hn h1 => ?_)
  exact ih b1 7 x ns ns' l1 l1' d d' (okx 7 x l1 rfl rfl (by omega)) hn h1 hd
theorem rl_paL (ih : RelJ S r) {b : Bool} {x : Nat} {acc acc' : List Nd} {l l' : List Tk} {d d' : Nat} (ha : b = true → npL acc = npL acc') (h : Stn S b l l') (hd : dR S d d') : RU S b (jPaL r x acc l d) (jPaL r x acc' l' d') := by
  unfold jPaL
  refine ru_ite (bE (sE h [44] (ns59 (by decide)))) (fun hi => ?_) (fun _ => ru_ok ha h)
  refine ru_tail h (sK hi) (fun b1 hb h1 => ?_)
  refine ru_bnd (rl_part ih h1 hd) (fun b2 ns ns' l2 l2' hb2 hn h2 => ?_)
  exact ih b2 7 x _ _ l2 l2' d d' (okx 7 x l2 rfl rfl (by omega)) (app_np ha (fun e => hb (hb2 e)) hn) h2 hd
theorem rl_param {b : Bool} {l l' : List Tk} (h : Stn S b l l') : RU S b (jParam l) (jParam l') := by
  unfold jParam
  exact ru_nm h (fun b1 t t' l1 l1' hb he h1 => ru_ok (fun e => npL_nd (he e) rfl) h1)
theorem rl_pair (ih : RelJ S r) {b : Bool} {l l' : List Tk} {d d' : Nat} (h : Stn S b l l') (hd : dR S d d') : RU S b (jPair r l d) (jPair r l' d') := by
  unfold jPair
  refine ru_ite (fun e => ?_) (fun _ => ru_err h) (fun hi => ?_)
  · subst e
    rcases S.hd h with ⟨h1, h2, h3⟩ | ⟨h0, h1, h2, h3⟩
    · rw [h1, h2]
    · rw [h1, h2]
      simp
  · have hk : ¬ (hdT l).k = 0 := fun e => hi ⟨by omega, .inl (by omega)⟩
    refine ru_tail h hk (fun b1 hb h1 => ?_)
    refine ru_sg h1 (ns59 (by decide)) (fun b2 t t' l2 l2' hb2 he h2 => ?_)
    refine ru_bnd (ih b2 0 0 [] [] l2 l2' d d' (okx 0 0 l2 rfl rfl (by decide)) (nil_np b2) h2 hd) (fun b3 ns ns' l3 l3' hb3 hn h3 => ?_)
    exact ru_ok (fun e => npL_nd (tE h hk (hb (hb2 (hb3 e)))) (hn e)) h3
theorem rl_group (ih : RelJ S r) {b : Bool} {l l' : List Tk} {d d' : Nat} (h : Stn S b l l') (hd : dR S d d') : RU S b (jGroup r l d) (jGroup r l' d') := by
  unfold jGroup
  refine ru_en h (fun _ => rfl) (ns59 (by decide)) hd (fun b1 t t' l1 l1' hb he h1 => ?_)
  refine ru_bnd (ih b1 0 0 [] [] l1 l1' (d + 1) (d' + 1) (okx 0 0 l1 rfl rfl (by decide)) (nil_np b1) h1 (dR_one hd)) (fun b2 ns ns' l2 l2' hb2 hn h2 => ?_)
  refine ru_sg h2 (ns59 (by decide)) (fun b3 t3 t3' l3 l3' hb3 he3 h3 => ?_)
  exact ru_ok (fun e => hn (hb3 e)) h3
theorem rl_stat (ih : RelJ S r) (im : NmeJ S r) (hs : S.sl = false) {b : Bool} {l l' : List Tk} {d d' : Nat} (h : Stn S b l l') (hd : dR S d d') : RU S b (jStat r l d) (jStat r l' d') := by
  have rest : RU S b (if isK [108, 101, 116] l = true then r 15 0 [] l d else if isK [105, 102] l = true then r 12 0 [] l d else
      if isK [119, 104, 105, 108, 101] l = true then r 17 0 [] l d else if isK [114, 101, 116, 117, 114, 110] l = true then r 18 0 [] l d else
      if isK [98, 114, 101, 97, 107] l = true then r 26 10 [] l d else if isK [99, 111, 110, 116, 105, 110, 117, 101] l = true then r 26 11 [] l d else r 19 0 [] l d)
      (if isK [108, 101, 116] l' = true then r 15 0 [] l' d' else if isK [105, 102] l' = true then r 12 0 [] l' d' else
      if isK [119, 104, 105, 108, 101] l' = true then r 17 0 [] l' d' else if isK [114, 101, 116, 117, 114, 110] l' = true then r 18 0 [] l' d' else
      if isK [98, 114, 101, 97, 107] l' = true then r 26 10 [] l' d' else if isK [99, 111, 110, 116, 105, 110, 117, 101] l' = true then r 26 11 [] l' d' else r 19 0 [] l' d') := by
    refine ru_ite (bE (kE h _)) (fun hi => ih b 15 0 [] [] l l' d d' (okf 15 0 l (fun _ => kK hi) hs (by decide)) (nil_np b) h hd) (fun _ => ?_)
    refine ru_ite (bE (kE h _)) (fun hi => ih b 12 0 [] [] l l' d d' (okf 12 0 l (fun _ => kK hi) hs (by decide)) (nil_np b) h hd) (fun _ => ?_)
    refine ru_ite (bE (kE h _)) (fun hi => ih b 17 0 [] [] l l' d d' (okf 17 0 l (fun _ => kK hi) hs (by decide)) (nil_np b) h hd) (fun _ => ?_)
    refine ru_ite (bE (kE h _)) (fun hi => ih b 18 0 [] [] l l' d d' (okf 18 0 l (fun _ => kK hi) hs (by decide)) (nil_np b) h hd) (fun _ => ?_)
    refine ru_ite (bE (kE h _)) (fun hi => ih b 26 10 [] [] l l' d d' (okf 26 10 l (fun _ => kK hi) hs (by decide)) (nil_np b) h hd) (fun _ => ?_)
    refine ru_ite (bE (kE h _)) (fun hi => ih b 26 11 [] [] l l' d d' (okf 26 11 l (fun _ => kK hi) hs (by decide)) (nil_np b) h hd) (fun _ => ?_)
    exact ih b 19 0 [] [] l l' d d' (okf 19 0 l (fun e => absurd e (by decide)) hs (by decide)) (nil_np b) h hd
  unfold jStat
  by_cases hk : (hdT l).k = 1
  · have nk : ∀ s, isK s l = true → False := fun s e => by rw [isK_def] at e; have := of_decide_eq_true e; omega
    have go : ∀ (x : List Tk) (dx : Nat), (hdT x).k = 1 → (if (hdT x).k = 1 ∧ isS [61] x.tail = true then r 16 0 [] x dx else
      if isK [108, 101, 116] x = true then r 15 0 [] x dx else if isK [105, 102] x = true then r 12 0 [] x dx else
      if isK [119, 104, 105, 108, 101] x = true then r 17 0 [] x dx else if isK [114, 101, 116, 117, 114, 110] x = true then r 18 0 [] x dx else
      if isK [98, 114, 101, 97, 107] x = true then r 26 10 [] x dx else if isK [99, 111, 110, 116, 105, 110, 117, 101] x = true then r 26 11 [] x dx else r 19 0 [] x dx) = if isS [61] x.tail = true then r 16 0 [] x dx else r 19 0 [] x dx := fun x dx hx => by
      have nx : ∀ s, ¬ isK s x = true := fun s e => by rw [isK_def] at e; have := of_decide_eq_true e; omega
      by_cases h1 : isS [61] x.tail = true
      · rw [if_pos ⟨hx, h1⟩, if_pos h1]
      · rw [if_neg (fun e => h1 e.2), if_neg h1, if_neg (nx _), if_neg (nx _), if_neg (nx _), if_neg (nx _), if_neg (nx _), if_neg (nx _)]
    rw [go l d hk]
    have r16 : RU S b (r 16 0 [] l d) (r 16 0 [] l' d') := ih b 16 0 [] [] l l' d d' (okf 16 0 l (fun e => absurd e (by decide)) hs (by decide)) (nil_np b) h hd
    have r19 : RU S b (r 19 0 [] l d) (r 19 0 [] l' d') := ih b 19 0 [] [] l l' d d' (okf 19 0 l (fun e => absurd e (by decide)) hs (by decide)) (nil_np b) h hd
    cases b with
    | false =>
      show UO S _
      split
      · exact r16
      · exact r19
    | true =>
      rw [go l' d' ((nE h 1 (by decide) (by decide) rfl).1 hk)]
      rcases S.tl h (by omega) with h1 | h1
      · exact ru_ite (b := true) (bE (sE (b := true) h1 [61] (ns59 (by decide)))) (fun _ => r16) (fun _ => r19)
      · refine uo_ro ?_
        split
        · exact im 16 0 [] l d rfl (by decide) hk h1
        · exact im 19 0 [] l d rfl (by decide) hk h1
  · rw [if_neg (fun e => hk e.1)]
    cases b with
    | false => exact rest
    | true =>
      rw [if_neg (c := (hdT l').k = 1 ∧ isS [61] l'.tail = true) (fun e => hk ((nE (b := true) h 1 (by decide) (by decide) rfl).2 e.1))]
      exact rest
theorem rl_let (ih : RelJ S r) (hs : S.sl = false) {b : Bool} {l l' : List Tk} {d d' : Nat} (hk : ¬ (hdT l).k = 0) (h : Stn S b l l') (hd : dR S d d') : RU S b (jLet r l d) (jLet r l' d') := by
  unfold jLet
  refine ru_tail h hk (fun b1 hb h1 => ?_)
  refine ru_nm h1 (fun b2 t t' l2 l2' hb2 he h2 => ?_)
  refine ru_ite (bE (sE h2 [61] (nf59 hs))) (fun hi => ?_) (fun _ => ?_)
  · refine ru_tail h2 (sK hi) (fun b3 hb3 h3 => ?_)
    refine ru_bnd (ih b3 0 0 [] [] l2.tail l2'.tail d d' (okf 0 0 l2.tail (fun e => absurd e (by decide)) hs (by decide)) (nil_np b3) h3 hd) (fun b4 ns ns' l4 l4' hb4 hn h4 => ?_)
    refine ru_sg h4 (nf59 hs) (fun b5 t5 t5' l5 l5' hb5 he5 h5 => ?_)
    exact ru_ok (fun e => npL_nd (he (hb3 (hb4 (hb5 e)))) (hn (hb5 e))) h5
  · refine ru_sg h2 (nf59 hs) (fun b5 t5 t5' l5 l5' hb5 he5 h5 => ?_)
    exact ru_ok (fun e => npL_nd (he (hb5 e)) rfl) h5
theorem rl_set (ih : RelJ S r) (hs : S.sl = false) {b : Bool} {l l' : List Tk} {d d' : Nat} (h : Stn S b l l') (hd : dR S d d') : RU S b (jSet r l d) (jSet r l' d') := by
  unfold jSet
  refine ru_nm h (fun b2 t t' l2 l2' hb2 he h2 => ?_)
  refine ru_sg h2 (nf59 hs) (fun b3 t3 t3' l3 l3' hb3 he3 h3 => ?_)
  refine ru_bnd (ih b3 0 0 [] [] l3 l3' d d' (okf 0 0 l3 (fun e => absurd e (by decide)) hs (by decide)) (nil_np b3) h3 hd) (fun b4 ns ns' l4 l4' hb4 hn h4 => ?_)
  refine ru_sg h4 (nf59 hs) (fun b5 t5 t5' l5 l5' hb5 he5 h5 => ?_)
  exact ru_ok (fun e => npL_nd (he (hb3 (hb4 (hb5 e)))) (hn (hb5 e))) h5
theorem rl_guard (ih : RelJ S r) (hs : S.sl = false) {b : Bool} {l l' : List Tk} {d d' : Nat} (h : Stn S b l l') (hd : dR S d d') : RU S b (jGuard r l d) (jGuard r l' d') := by
  unfold jGuard
  refine ru_sg h (nf59 hs) (fun b1 t t' l1 l1' hb he h1 => ?_)
  refine ru_bnd (ih b1 0 0 [] [] l1 l1' d d' (okf 0 0 l1 (fun e => absurd e (by decide)) hs (by decide)) (nil_np b1) h1 hd) (fun b2 ns ns' l2 l2' hb2 hn h2 => ?_)
  refine ru_sg h2 (nf59 hs) (fun b3 t3 t3' l3 l3' hb3 he3 h3 => ?_)
  refine ru_bnd (ih b3 10 0 [] [] l3 l3' d d' (okf 10 0 l3 (fun e => absurd e (by decide)) hs (by decide)) (nil_np b3) h3 hd) (fun b4 ms ms' l4 l4' hb4 hm h4 => ?_)
  exact ru_ok (app_np hn (fun e => hb3 (hb4 e)) hm) h4
theorem rl_choice (ih : RelJ S r) (hs : S.sl = false) {b : Bool} {l l' : List Tk} {d d' : Nat} (hk : ¬ (hdT l).k = 0) (h : Stn S b l l') (hd : dR S d d') : RU S b (jChoice r l d) (jChoice r l' d') := by
  unfold jChoice
  refine ru_tail h hk (fun b0 hb0 h0 => ?_)
  refine ru_bnd (ih b0 20 0 [] [] l.tail l'.tail d d' (okf 20 0 l.tail (fun e => absurd e (by decide)) hs (by decide)) (nil_np b0) h0 hd) (fun b1 ns ns' l1 l1' hb1 hn h1 => ?_)
  refine ru_ite (bE (kE h1 _)) (fun hi => ?_) (fun _ => ru_ok (fun e => npL_nd rfl (hn e)) h1)
  refine ru_tail h1 (kK hi) (fun b2 hb2 h2 => ?_)
  refine ru_ite (bE (kE h2 _)) (fun hj => ?_) (fun _ => ?_)
  · refine ru_bnd (ih b2 12 0 [] [] l1.tail l1'.tail d d' (okf 12 0 l1.tail (fun _ => kK hj) hs (by decide)) (nil_np b2) h2 hd) (fun b3 ms ms' l3 l3' hb3 hm h3 => ?_)
    exact ru_ok (fun e => npL_nd rfl (app_np hn (fun e => hb2 (hb3 e)) hm e)) h3
  · refine ru_bnd (ih b2 10 0 [] [] l1.tail l1'.tail d d' (okf 10 0 l1.tail (fun e => absurd e (by decide)) hs (by decide)) (nil_np b2) h2 hd) (fun b3 ms ms' l3 l3' hb3 hm h3 => ?_)
    exact ru_ok (fun e => npL_nd rfl (app_np hn (fun e => hb2 (hb3 e)) hm e)) h3
theorem rl_loop (ih : RelJ S r) (hs : S.sl = false) {b : Bool} {l l' : List Tk} {d d' : Nat} (hk : ¬ (hdT l).k = 0) (h : Stn S b l l') (hd : dR S d d') : RU S b (jLoop r l d) (jLoop r l' d') := by
  unfold jLoop
  refine ru_tail h hk (fun b0 hb0 h0 => ?_)
  refine ru_bnd (ih b0 20 0 [] [] l.tail l'.tail d d' (okf 20 0 l.tail (fun e => absurd e (by decide)) hs (by decide)) (nil_np b0) h0 hd) (fun b1 ns ns' l1 l1' hb1 hn h1 => ?_)
  exact ru_ok (fun e => npL_nd rfl (hn e)) h1
theorem rl_give (ih : RelJ S r) (hs : S.sl = false) {b : Bool} {l l' : List Tk} {d d' : Nat} (hk : ¬ (hdT l).k = 0) (h : Stn S b l l') (hd : dR S d d') : RU S b (jGive r l d) (jGive r l' d') := by
  unfold jGive
  refine ru_tail h hk (fun b0 hb0 h0 => ?_)
  refine ru_ite (bE (sE h0 [59] (nf59 hs))) (fun _ => ?_) (fun _ => ?_)
  · refine ru_sg h0 (nf59 hs) (fun b5 t5 t5' l5 l5' hb5 he5 h5 => ?_)
    exact ru_ok (fun e => npL_nd rfl rfl) h5
  · refine ru_bnd (ih b0 0 0 [] [] l.tail l'.tail d d' (okf 0 0 l.tail (fun e => absurd e (by decide)) hs (by decide)) (nil_np b0) h0 hd) (fun b1 ns ns' l1 l1' hb1 hn h1 => ?_)
    refine ru_sg h1 (nf59 hs) (fun b5 t5 t5' l5 l5' hb5 he5 h5 => ?_)
    exact ru_ok (fun e => npL_nd rfl (hn (hb5 e))) h5
theorem rl_word (hs : S.sl = false) {b : Bool} {x : Nat} {l l' : List Tk} (hk : ¬ (hdT l).k = 0) (h : Stn S b l l') : RU S b (jWord x l) (jWord x l') := by
  unfold jWord
  refine ru_tail h hk (fun b0 hb0 h0 => ?_)
  exact ru_sg h0 (nf59 hs) (fun b5 t5 t5' l5 l5' hb5 he5 h5 => ru_ok (fun e => npL_nd rfl rfl) h5)
theorem rl_do (ih : RelJ S r) (hs : S.sl = false) {b : Bool} {l l' : List Tk} {d d' : Nat} (h : Stn S b l l') (hd : dR S d d') : RU S b (jDo r l d) (jDo r l' d') := by
  unfold jDo
  refine ru_bnd (ih b 0 0 [] [] l l' d d' (okf 0 0 l (fun e => absurd e (by decide)) hs (by decide)) (nil_np b) h hd) (fun b1 ns ns' l1 l1' hb1 hn h1 => ?_)
  exact ru_sg h1 (nf59 hs) (fun b5 t5 t5' l5 l5' hb5 he5 h5 => ru_ok (fun e => npL_nd rfl (hn (hb5 e))) h5)
theorem rl_block (ih : RelJ S r) (hs : S.sl = false) {b : Bool} {l l' : List Tk} {d d' : Nat} (h : Stn S b l l') (hd : dR S d d') : RU S b (jBlock r l d) (jBlock r l' d') := by
  unfold jBlock
  refine ru_en h (fun _ => rfl) (nf59 hs) hd (fun b1 t t' l1 l1' hb he h1 => ?_)
  refine ru_bnd (ih b1 11 0 [] [] l1 l1' (d + 1) (d' + 1) (okf 11 0 l1 (fun e => absurd e (by decide)) hs (by decide)) (nil_np b1) h1 (dR_one hd)) (fun b2 ns ns' l2 l2' hb2 hn h2 => ?_)
  exact ru_sg h2 (nf59 hs) (fun b5 t5 t5' l5 l5' hb5 he5 h5 => ru_ok (fun e => npL_nd rfl (hn (hb5 e))) h5)
theorem rl_blL (ih : RelJ S r) (hs : S.sl = false) {b : Bool} {acc acc' : List Nd} {l l' : List Tk} {d d' : Nat} (ha : b = true → npL acc = npL acc') (h : Stn S b l l') (hd : dR S d d') : RU S b (jBlL r acc l d) (jBlL r acc' l' d') := by
  unfold jBlL
  refine ru_ite (bE (sE h [125] (nf59 hs))) (fun _ => ru_ok ha h) (fun _ => ?_)
  refine ru_bnd (ih b 9 0 [] [] l l' d d' (okf 9 0 l (fun e => absurd e (by decide)) hs (by decide)) (nil_np b) h hd) (fun b1 ns ns' l1 l1' hb1 hn h1 => ?_)
  exact ih b1 11 0 _ _ l1 l1' d d' (okf 11 0 l1 (fun e => absurd e (by decide)) hs (by decide)) (app_np ha hb1 hn) h1 hd
theorem rl_fn (ih : RelJ S r) (hs : S.sl = false) {b : Bool} (bf : Bool) {p p' : Nat} {l l' : List Tk} {d d' : Nat} (h : Stn S b l l') (hd : dR S d d') : RU S b (jFn r bf p l d) (jFn r bf p' l' d') := by
  unfold jFn
  refine ru_ky h (fun b2 t2 t2' l2 l2' hb2 he2 h2 => ?_)
  refine ru_nm h2 (fun b3 t t' l3 l3' hb3 he h3 => ?_)
  refine ru_sg h3 (nf59 hs) (fun b4 t4 t4' l4 l4' hb4 he4 h4 => ?_)
  refine ru_bnd (ih b4 6 0 [] [] l4 l4' d d' (okf 6 0 l4 (fun e => absurd e (by decide)) hs (by decide)) (nil_np b4) h4 hd) (fun b5 ns ns' l5 l5' hb5 hn h5 => ?_)
  refine ru_sg h5 (nf59 hs) (fun b6 t6 t6' l6 l6' hb6 he6 h6 => ?_)
  refine ru_bnd (ih b6 10 0 [] [] l6 l6' d d' (okf 10 0 l6 (fun e => absurd e (by decide)) hs (by decide)) (nil_np b6) h6 hd) (fun b7 ms ms' l7 l7' hb7 hm h7 => ?_)
  refine ru_ok (fun e => ?_) h7
  have h8 := app_np hn (fun e => hb6 (hb7 e)) hm e
  have h9 := he (hb4 (hb5 (hb6 (hb7 e))))
  simp only [npL, h8, h9]
theorem rl_fun (ih : RelJ S r) (hs : S.sl = false) {b : Bool} {l l' : List Tk} {d d' : Nat} (h : Stn S b l l') (hd : dR S d d') : RU S b (jFun r l d) (jFun r l' d') := by
  unfold jFun
  refine ru_ite (bE (kE h _)) (fun hi => ?_) (fun _ => rl_fn ih hs false h hd)
  exact ru_tail h (kK hi) (fun b1 hb1 h1 => rl_fn ih hs true h1 hd)
theorem rl_prL (ih : RelJ S r) (hs : S.sl = false) {b : Bool} {acc acc' : List Nd} {l l' : List Tk} {d d' : Nat} (ha : b = true → npL acc = npL acc') (h : Stn S b l l') (hd : dR S d d') : RU S b (jPrL r acc l d) (jPrL r acc' l' d') := by
  unfold jPrL
  refine ru_ite (zE h hs) (fun _ => ru_ok ha h) (fun _ => ?_)
  refine ru_bnd (ih b 13 0 [] [] l l' d d' (okf 13 0 l (fun e => absurd e (by decide)) hs (by decide)) (nil_np b) h hd) (fun b1 ns ns' l1 l1' hb1 hn h1 => ?_)
  exact ih b1 14 0 _ _ l1 l1' d d' (okf 14 0 l1 (fun e => absurd e (by decide)) hs (by decide)) (app_np ha hb1 hn) h1 hd

theorem rel_step (ih : RelJ S r) (im : S.sl = false → NmeJ S r) : RelJ S (stepJ r) := by
  intro b j x acc acc' l l' d d' hj ha h hd
  match j, hj with
  | 0, hj => exact ih b 2 1 [] [] l l' d d' (okx 2 1 l rfl rfl (by decide)) (nil_np b) h hd
  | 1, hj => exact rl_unary ih h hd
  | 2, hj => exact rl_binary ih (hj.2.1 (.inl rfl)) h hd
  | 3, hj => exact rl_binL ih (hj.2.1 (.inr rfl)) ha h hd
  | 4, hj => exact rl_reL ih ha h hd
  | 5, hj => exact rl_operand ih h hd
  | 6, hj => exact rl_parts ih h hd
  | 7, hj => exact rl_paL ih ha h hd
  | 8, hj => exact rl_pair ih h hd
  | 9, hj => exact rl_stat ih (im (nsl hj rfl)) (nsl hj rfl) h hd
  | 10, hj => exact rl_block ih (nsl hj rfl) h hd
  | 11, hj => exact rl_blL ih (nsl hj rfl) ha h hd
  | 12, hj => exact rl_choice ih (nsl hj rfl) (hj.1 rfl) h hd
  | 13, hj => exact rl_fun ih (nsl hj rfl) h hd
  | 14, hj => exact rl_prL ih (nsl hj rfl) ha h hd
  | 15, hj => exact rl_let ih (nsl hj rfl) (hj.1 rfl) h hd
  | 16, hj => exact rl_set ih (nsl hj rfl) h hd
  | 17, hj => exact rl_loop ih (nsl hj rfl) (hj.1 rfl) h hd
  | 18, hj => exact rl_give ih (nsl hj rfl) (hj.1 rfl) h hd
  | 19, hj => exact rl_do ih (nsl hj rfl) h hd
  | 20, hj => exact rl_guard ih (nsl hj rfl) h hd
  | 21, hj => exact rl_name ih h hd
  | 22, hj => exact rl_within ih h hd
  | 23, hj => exact rl_group ih h hd
  | 24, hj => exact rl_reached ih h hd
  | 25, hj => exact rl_param h
  | 26, hj => exact rl_word (nsl hj rfl) (hj.1 rfl) h
  | 27, hj =>
    have hs := nsl hj rfl
    exact ru_bnd (ih b 14 0 [] [] l l' d d' (okf 14 0 l (fun e => absurd e (by decide)) hs (by decide)) (nil_np b) h hd) (fun b1 ns ns' l1 l1' hb1 hn h1 => ru_ok (fun e => npL_nd rfl (hn e)) h1)
  | j + 28, hj => cases b <;> exact trivial

theorem un_of (ih : RelJ S r) {j x : Nat} {acc : List Nd} {l : List Tk} {d : Nat} (hj : okX S j x l) (h : S.dd l) : UO S (r j x acc l d) := ih false j x acc acc l l d d hj (fun e => by cases e) h ⟨Nat.le_refl _, fun _ => rfl⟩
theorem uo_bnd {o : Option (Rs (List Nd))} {k : List Nd → List Tk → Option (Rs (List Nd))} (h : UO S o) (hk : ∀ ns l, S.dd l → UO S (k ns l)) : UO S (bnd o k) :=
  ru_bnd (b := false) (o' := o) (k' := k) h (fun b1 ns ns' l l' hb hn h1 => by
    cases b1 with
    | false => exact hk ns l h1
    | true => exact absurd (hb rfl) (by decide))

theorem uo_sg {s : List UInt8} {l : List Tk} {k : Tk → List Tk → Option (Rs (List Nd))} (h : S.dd l) (hs : S.sl = true → ¬ s = [59]) (hk : ∀ t l1, S.dd l1 → UO S (k t l1)) : UO S (thn (pSg s l) k) :=
  ru_sg (b := false) (l' := l) (k' := k) h hs (fun b1 t t' l1 l1' hb he h1 => by
    cases b1 with
    | false => exact hk t l1 h1
    | true => exact absurd (hb rfl) (by decide))

theorem nme_step (hsl : S.sl = false) (ih : RelJ S r) (im : NmeJ S r) : NmeJ S (stepJ r) := by
  intro j x acc l d hj hx hk h
  have nS : ∀ s, ¬ isS s l = true := fun s e => by rw [isS_def] at e; have := of_decide_eq_true e; omega
  match j, hj, hx with
  | 0, _, _ => exact im 2 1 [] l d rfl (by decide) hk h
  | 1, _, _ =>
    show UO S (jUnary r l d)
    unfold jUnary
    rw [if_neg (fun e => by rcases e with e | e <;> exact nS _ e)]
    exact im 24 0 [] l d rfl (by decide) hk h
  | 2, _, hx =>
    show UO S (jBinary r x l d)
    unfold jBinary
    split
    · exact im 1 0 [] l d rfl (by decide) hk h
    · exact uo_bnd (im 2 (x + 1) [] l d rfl (by omega) hk h) (fun ns l1 h1 => un_of ih (okx 3 x l1 rfl rfl (fun _ => hx rfl)) h1)
  | 5, _, _ =>
    show UO S (jOperand r l d)
    unfold jOperand
    rw [if_pos hk]
    exact im 21 0 [] l d rfl (by decide) hk h
  | 16, _, _ =>
    show UO S (jSet r l d)
    unfold jSet
    rw [thn_nm', if_pos hk]
    refine uo_sg h (nf59 hsl) (fun t1 l1 h1 => ?_)
    refine uo_bnd (un_of ih (okx 0 0 l1 rfl rfl (by decide)) h1) (fun ns l2 h2 => ?_)
    exact uo_sg h2 (nf59 hsl) (fun t3 l3 h3 => h3)
  | 19, _, _ =>
    show UO S (jDo r l d)
    unfold jDo
    refine uo_bnd (im 0 0 [] l d rfl (by decide) hk h) (fun ns l1 h1 => ?_)
    exact uo_sg h1 (nf59 hsl) (fun t3 l3 h3 => h3)
  | 21, _, _ =>
    show UO S (jName r l d)
    unfold jName
    rw [thn_nm', if_pos hk]
    split
    · exact uo_bnd (un_of ih (okx 22 1 l.tail rfl rfl (by decide)) h) (fun ns l1 h1 => h1)
    · exact h
  | 24, _, _ =>
    show UO S (jReached r l d)
    unfold jReached
    exact uo_bnd (im 5 0 [] l d rfl (by decide) hk h) (fun ns l1 h1 => un_of ih (okx 4 0 l1 rfl rfl (by decide)) h1)
end

/-- over tokens that go together, the reader's runs go together -/
theorem rel_all (S : Sm) : ∀ f, RelJ S (PJ f) ∧ (S.sl = false → NmeJ S (PJ f))
  | 0 => ⟨fun b j x acc acc' l l' d d' _ _ _ _ => by cases b <;> exact trivial, fun _ j x acc l d _ _ _ _ => trivial⟩
  | f + 1 => by
    have ih := rel_all S f
    exact ⟨rel_step ih.1 ih.2, fun hs => nme_step hs ih.1 (ih.2 hs)⟩
end Go.Proofs.YtgalfhlclmkbfaaDoor
