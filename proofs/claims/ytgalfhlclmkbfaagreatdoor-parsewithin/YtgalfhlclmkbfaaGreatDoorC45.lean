/-
  Layer 17 (parse): what stands behind a token that is refused makes no difference; places make none; an expression within a function is read as it is alone; plain lists, no conditions.
  What stands behind a source's tokens, a byte between that belongs to none of them, changes none of them; tokens at another place; plain lists, no conditions.
-/
import Derived.Test.YtgalfhlclmkbfaaGreatDoorC44
import Derived.Test.YtgalfhlclmkbfaaGreatDoorC12
set_option linter.unusedVariables false
set_option linter.unusedSimpArgs false
namespace Go.Proofs.YtgalfhlclmkbfaaGreatDoor
set_option linter.unusedVariables false
set_option linter.unusedSimpArgs false

/-- behind a token that is refused there may stand anything -/
def smS (z z' : List Tk) (hz : ∃ w p, z = w ++ [endT p]) : Sm where
  lv := fun l l' => ∃ u, u ≠ [] ∧ l = u ++ z ∧ l' = u ++ z'
  dd := fun l => l ≠ [] ∧ ∃ v, z = v ++ l
  dp := fun p => ∃ t ∈ z, t.p = p
  pe := fun p p' => p = p'
  sl := false
  hd := by
    rintro l l' ⟨u, hu, rfl, rfl⟩
    cases u with
    | nil => exact absurd rfl hu
    | cons a u => exact .inl ⟨rfl, rfl, rfl⟩
  hp := by
    rintro l l' ⟨u, hu, rfl, rfl⟩
    cases u with
    | nil => exact absurd rfl hu
    | cons a u => rfl
  tl := by
    rintro l l' ⟨u, hu, rfl, rfl⟩ hk
    cases u with
    | nil => exact absurd rfl hu
    | cons a u =>
      by_cases h1 : u = []
      · subst h1
        refine .inr ⟨?_, [], rfl⟩
        obtain ⟨w, p, rfl⟩ := hz
        simp
      · exact .inl ⟨u, h1, rfl, rfl⟩
  dt := by
    rintro l ⟨hl, v, hv⟩ hk
    cases l with
    | nil => exact absurd rfl hl
    | cons a r =>
      refine ⟨fun e => ?_, v ++ [a], by rw [hv]; simp⟩
      obtain ⟨w, p, rfl⟩ := hz
      simp only [List.tail_cons] at e
      subst e
      have h2 := congrArg List.getLast? hv
      simp at h2
      subst h2
      exact hk rfl
  dh := by
    rintro l ⟨hl, v, rfl⟩
    cases l with
    | nil => exact absurd rfl hl
    | cons a r => exact ⟨a, by simp, rfl⟩

theorem stops {f j x d : Nat} {u z z' : List Tk} {c p : Nat} (hj : needK j = false) (hx : j = 2 ∨ j = 3 → 1 ≤ x) (hz : ∃ w p, z = w ++ [endT p]) (hu : u ≠ []) (h : PJ f j x [] (u ++ z) d = some (.error (c, p))) (hp : ∀ t ∈ z, ¬ t.p = p) :
    PJ f j x [] (u ++ z') d = some (.error (c, p)) := by
  have hr := (rel_all (smS z z' hz) f).1 true j x [] [] (u ++ z) (u ++ z') d d ⟨(fun e => by rw [hj] at e; cases e), hx, (fun e => by cases e)⟩ (fun _ => rfl) ⟨u, hu, rfl, rfl⟩ ⟨Nat.le_refl _, fun _ => rfl⟩
  rw [h] at hr
  rcases hr with ⟨t, ht, e⟩ | e | ⟨p', e, rfl⟩
  · exact absurd e (hp t ht)
  · cases e
  · exact e

def keyT (t : Tk) : Nat × List UInt8 × Nat := (t.k, t.t, t.n)
theorem key_hd {l l' : List Tk} (h : l.map keyT = l'.map keyT) : (hdT l).k = (hdT l').k ∧ (hdT l).t = (hdT l').t ∧ (hdT l).n = (hdT l').n := by
  cases l with
  | nil =>
    cases l' with
    | nil => exact ⟨rfl, rfl, rfl⟩
    | cons a r => cases h
  | cons a r =>
    cases l' with
    | nil => cases h
    | cons a' r' =>
      simp only [List.map_cons, List.cons.injEq, keyT, Prod.mk.injEq] at h
      exact h.1
theorem key_tl {l l' : List Tk} (h : l.map keyT = l'.map keyT) : l.tail.map keyT = l'.tail.map keyT := by rw [List.map_tail, List.map_tail, h]

/-- places make no difference -/
def smB : Sm where
  lv := fun l l' => l.map keyT = l'.map keyT
  dd := fun _ => False
  dp := fun _ => False
  pe := fun _ _ => True
  sl := false
  hd := fun h => .inl (key_hd h)
  hp := fun _ => trivial
  tl := fun h _ => .inl (key_tl h)
  dt := fun h _ => h
  dh := fun h => h

theorem blanks {f j x d : Nat} {l l' : List Tk} (hj : needK j = false) (hx : j = 2 ∨ j = 3 → 1 ≤ x) (h : l.map keyT = l'.map keyT) : (∀ c p, PJ f j x [] l d = some (.error (c, p)) → ∃ p', PJ f j x [] l' d = some (.error (c, p'))) ∧
    (∀ ns l1, PJ f j x [] l d = some (.ok (ns, l1)) → ∃ ns' l1', PJ f j x [] l' d = some (.ok (ns', l1')) ∧ npL ns = npL ns' ∧ l1.map keyT = l1'.map keyT) := by
  have hr := (rel_all smB f).1 true j x [] [] l l' d d ⟨(fun e => by rw [hj] at e; cases e), hx, (fun e => by cases e)⟩ (fun _ => rfl) h ⟨Nat.le_refl _, fun _ => rfl⟩
  refine ⟨fun c p e => ?_, fun ns l1 e => ?_⟩
  · rw [e] at hr
    rcases hr with e | e | ⟨p', e, _⟩
    · cases e
    · cases e
    · exact ⟨p', e⟩
  · rw [e] at hr
    rcases hr with e | e | ⟨e, _⟩
    · cases e
    · exact e
    · cases e

/-- an expression within a function -/
def smW (p : Nat) (z' : List Tk) (hz : z' ≠ []) (hk : ((hdT z').k = 0 ∧ (hdT z').t = [] ∧ (hdT z').n = 0) ∨ ((hdT z').k = 5 ∧ (hdT z').t = [59])) : Sm where
  lv := fun l l' => ∃ us us', l = us ++ [endT p] ∧ l' = us' ++ z' ∧ us.map keyT = us'.map keyT ∧ ∀ t ∈ us, 1 ≤ t.k
  dd := fun _ => False
  dp := fun _ => False
  pe := fun _ _ => True
  sl := true
  hd := by
    rintro l l' ⟨us, us', rfl, rfl, h, _⟩
    cases us with
    | nil =>
      cases us' with
      | nil =>
        rcases hk with ⟨h1, h2, h3⟩ | ⟨h1, h2⟩
        · exact .inl ⟨h1.symm, h2.symm, h3.symm⟩
        · exact .inr ⟨rfl, rfl, h1, h2⟩
      | cons a r => cases h
    | cons a r =>
      cases us' with
      | nil => cases h
      | cons a' r' => exact .inl (key_hd (l := a :: r) (l' := a' :: r') h)
  hp := fun _ => trivial
  tl := by
    rintro l l' ⟨us, us', rfl, rfl, h, hu⟩ h0
    cases us with
    | nil => exact absurd rfl h0
    | cons a r =>
      cases us' with
      | nil => cases h
      | cons a' r' => exact .inl ⟨r, r', rfl, rfl, key_tl h, fun t ht => hu t (List.mem_cons_of_mem _ ht)⟩
  dt := fun h _ => h
  dh := fun h => h

theorem within_fn {f d d' p : Nat} {us us' z' : List Tk} {ns : List Nd} {l1 : List Tk} (hz : z' ≠ []) (hk : ((hdT z').k = 0 ∧ (hdT z').t = [] ∧ (hdT z').n = 0) ∨ ((hdT z').k = 5 ∧ (hdT z').t = [59])) (hu : us.map keyT = us'.map keyT) (h1 : ∀ t ∈ us, 1 ≤ t.k) (hd : d ≤ d')
    (h : PJ f 0 0 [] (us ++ [endT p]) d = some (.ok (ns, l1))) (h0 : (hdT l1).k = 0) : (∃ ns', PJ f 0 0 [] (us' ++ z') d' = some (.ok (ns', z')) ∧ npL ns = npL ns') ∨ ∃ q, PJ f 0 0 [] (us' ++ z') d' = some (.error (171, q)) := by
  have hr := (rel_all (smW p z' hz hk) f).1 true 0 0 [] [] (us ++ [endT p]) (us' ++ z') d d' ⟨(fun e => by cases e), (by decide), fun _ => rfl⟩ (fun _ => rfl) ⟨us, us', rfl, rfl, hu, h1⟩ ⟨hd, fun e => by cases e⟩
  rw [h] at hr
  rcases hr with e | ⟨ns', l', e, hn, vs, vs', rfl, rfl, hv, h2⟩ | ⟨_, q, e⟩
  · cases e
  · refine .inl ⟨ns', ?_, hn⟩
    cases vs with
    | nil =>
      cases vs' with
      | nil => exact e
      | cons a r => cases hv
    | cons a r =>
      have h3 := h2 a (List.mem_cons_self ..)
      have h4 : a.k = 0 := h0
      omega
  · exact .inr ⟨q, e⟩
end Go.Proofs.YtgalfhlclmkbfaaGreatDoor

namespace Go.Proofs.YtgalfhlclmkbfaaGreatDoor
set_option linter.unusedVariables false
set_option linter.unusedSimpArgs false

/-- a byte that no token goes on with -/
def frB (c : UInt8) : Bool := !lxW c && !(c.toNat == 47) && sgL.all (fun g => !(g.getD 1 0 == c && g.length == 2))

theorem fr_parts {c : UInt8} (h : frB c = true) : lxW c = false ∧ ¬ c.toNat = 47 ∧ ∀ d, sgB [d, c] = false := by
  unfold frB at h
  simp only [Bool.and_eq_true, Bool.not_eq_true', beq_eq_false_iff_ne, ne_eq] at h
  obtain ⟨⟨h1, h2⟩, h3⟩ := h
  refine ⟨h1, h2, fun d => ?_⟩
  cases e : sgB [d, c] with
  | false => rfl
  | true =>
    have hm : [d, c] ∈ sgL := by unfold sgB at e; simpa using e
    have := List.all_eq_true.1 h3 _ hm
    simp at this

theorem tw_fr (l X : List UInt8) {c : UInt8} (h : lxW c = false) : (l ++ c :: X).takeWhile lxW = l.takeWhile lxW := by
  induction l with
  | nil => rw [List.nil_append, List.takeWhile_cons, if_neg (by simp [h])]; rfl
  | cons a r ih =>
    rw [List.cons_append, List.takeWhile_cons, List.takeWhile_cons, ih]

theorem hexP_app {l : List UInt8} {x : UInt8 × Nat} (X : List UInt8) (h : hexP l = some x) : hexP (l ++ X) = some x := by
  match l, h with
  | [], h => cases h
  | [e], h => cases h
  | e :: f :: r, h => exact h
theorem escP_app {l : List UInt8} {x : UInt8 × Nat} (X : List UInt8) (h : escP l = some x) : escP (l ++ X) = some x := by
  match l, h with
  | [], h => cases h
  | d :: r, h =>
    rw [List.cons_append, escP_cons]
    rw [escP_cons] at h
    by_cases h1 : d.toNat = 34 ∨ d.toNat = 92
    · rw [if_pos h1] at h ⊢; exact h
    · rw [if_neg h1] at h ⊢
      by_cases h2 : d.toNat = 120
      · rw [if_pos h2] at h ⊢; exact hexP_app X h
      · rw [if_neg h2] at h; cases h
theorem pcL_app {l : List UInt8} {x : UInt8 × Nat} (X : List UInt8) (h : pcL l = some x) : pcL (l ++ X) = some x := by
  match l, h with
  | [], h => cases h
  | c :: r, h =>
    rw [List.cons_append, pcL_cons]
    rw [pcL_cons] at h
    by_cases h1 : c.toNat < 32 ∨ 126 < c.toNat
    · rw [if_pos h1] at h; cases h
    · rw [if_neg h1] at h ⊢
      by_cases h2 : c.toNat = 92
      · rw [if_pos h2] at h ⊢; exact escP_app X h
      · rw [if_neg h2] at h ⊢; exact h
theorem pcs_app : ∀ (f : Nat) {l : List UInt8} {x : List UInt8 × Nat} (f' : Nat) (X : List UInt8), pcs f l = some x → (l ++ X).length < f' → pcs f' (l ++ X) = some x
  | 0, _, _, _, _, h, _ => by simp [pcs] at h
  | f + 1, [], _, _, _, h, _ => by simp [pcs] at h
  | f + 1, c :: r, x, f', X, h, hf => by
    obtain ⟨g, rfl⟩ : ∃ g, f' = g + 1 := ⟨f' - 1, by omega⟩
    rw [List.cons_append] at hf ⊢
    unfold pcs at h ⊢
    by_cases h0 : c.toNat = 34
    · rw [if_pos h0] at h ⊢; exact h
    · rw [if_neg h0] at h ⊢
      cases hp : pcL (c :: r) with
      | none => rw [hp] at h; simp at h
      | some y =>
        obtain ⟨b, k⟩ := y
        rw [hp] at h
        have hk := pcL_pos hp
        have h1 : pcL (c :: (r ++ X)) = some (b, k) := pcL_app X hp
        rw [h1]
        simp only at h ⊢
        have h2 : (c :: (r ++ X)).drop k = (c :: r).drop k ++ X := by rw [← List.cons_append, List.drop_append_of_le_length hk.2]
        cases hq : pcs f ((c :: r).drop k) with
        | none => rw [hq] at h; simp at h
        | some z =>
          obtain ⟨bs, m⟩ := z
          rw [hq] at h
          rw [h2, pcs_app f g X hq (by
            rw [← h2, List.length_drop]
            simp only [List.length_cons] at hf ⊢
            omega)]
          exact h

theorem sgN_fr (l X : List UInt8) {c : UInt8} (hl : l ≠ []) (h : ∀ d, sgB [d, c] = false) : sgN (l ++ c :: X) = sgN l := by
  match l, hl with
  | [d], _ =>
    have e1 : ¬ (2 ≤ ([d] ++ c :: X).length ∧ sgB (([d] ++ c :: X).take 2) = true) := by
      rintro ⟨_, e⟩
      rw [show ([d] ++ c :: X).take 2 = [d, c] from rfl, h d] at e
      cases e
    have e2 : ¬ (2 ≤ [d].length ∧ sgB ([d].take 2) = true) := fun e => by
      have := e.1
      simp at this
    rw [show sgN ([d] ++ c :: X) = if 2 ≤ ([d] ++ c :: X).length ∧ sgB (([d] ++ c :: X).take 2) = true then 2 else if sgB (([d] ++ c :: X).take 1) = true then 1 else 0 from rfl, show sgN [d] = if 2 ≤ [d].length ∧ sgB ([d].take 2) = true then 2 else if sgB ([d].take 1) = true then 1 else 0 from rfl, if_neg e1, if_neg e2]
    rfl
  | d :: e :: r, _ =>
    have e1 : ((d :: e :: r) ++ c :: X).take 2 = (d :: e :: r).take 2 := rfl
    have e2 : ((d :: e :: r) ++ c :: X).take 1 = (d :: e :: r).take 1 := rfl
    have e3 : (2 ≤ ((d :: e :: r) ++ c :: X).length) = (2 ≤ (d :: e :: r).length) := by
      simp only [List.length_cons, List.length_append, eq_iff_iff]
      omega
    unfold sgN
    simp only [e1, e2, e3]

theorem fst_app {l : List UInt8} {t : Tk} {n : Nat} (h : fstT l = .ok (t, n)) {c : UInt8} (hc : frB c = true) (X : List UInt8) : fstT (l ++ c :: X) = .ok (t, n) := by
  obtain ⟨k1, k2, k3⟩ := fr_parts hc
  cases l with
  | nil => simp [fstT] at h
  | cons a r =>
    have hw := tw_fr (a :: r) X k1
    have hs := sgN_fr (a :: r) X (by simp) k3
    rw [List.cons_append] at hw hs ⊢
    rw [fst_cons] at h ⊢
    rw [hw]
    by_cases h1 : lxLet a = true
    · rw [if_pos h1] at h ⊢; exact h
    · rw [if_neg h1] at h ⊢
      by_cases h2 : lxDig a = true
      · rw [if_pos h2] at h ⊢; exact h
      · rw [if_neg h2] at h ⊢
        by_cases h3 : a.toNat = 34
        · rw [if_pos h3] at h ⊢
          unfold bytT bytV at h ⊢
          cases hp : pcs (r.length + 1) r with
          | none => rw [hp] at h; simp [bytC] at h
          | some x =>
            rw [hp] at h
            rw [pcs_app _ ((r ++ c :: X).length + 1) (c :: X) hp (Nat.lt_succ_self _)]
            exact h
        · rw [if_neg h3] at h ⊢
          unfold sgnT at h ⊢
          rw [hs]
          by_cases h4 : sgN (a :: r) = 0
          · rw [if_pos h4] at h; simp at h
          · rw [if_neg h4] at h ⊢
            have hle := sgN_le (a :: r)
            rw [← List.cons_append, List.take_append_of_le_length hle]
            exact h

/-- where a row that is blank ends: within a remark, or not -/
def gst : Bool → List UInt8 → Bool
  | b, [] => b
  | true, c :: r => gst (decide (c.toNat ≠ 10)) r
  | false, c :: r => if lxB c = true then gst false r else gst true r

theorem blk_fc (c : UInt8) (r : List UInt8) : blk false (c :: r) = if lxB c = true then blk false r + 1 else if c.toNat = 47 ∧ r.head? = some 47 then blk true r + 1 else 0 := rfl
theorem gst_fc (c : UInt8) (r : List UInt8) : gst false (c :: r) = if lxB c = true then gst false r else gst true r := rfl
theorem blk_full : ∀ (b : Bool) (l Y : List UInt8), blk b l = l.length → blk b (l ++ Y) = l.length + blk (gst b l) Y
  | b, [], Y, h => by simp [gst]
  | true, c :: r, Y, h => by
    simp only [blk, List.length_cons] at h
    have ih := blk_full (decide (c.toNat ≠ 10)) r Y (by omega)
    simp only [List.cons_append, blk, gst, List.length_cons, ih]
    omega
  | false, c :: r, Y, h => by
    rw [blk_fc] at h
    rw [List.cons_append, blk_fc, gst_fc]
    by_cases h1 : lxB c = true
    · rw [if_pos h1] at h
      simp only [List.length_cons] at h
      rw [if_pos h1, if_pos h1, blk_full false r Y (by omega), List.length_cons]
      omega
    · rw [if_neg h1] at h
      by_cases h2 : c.toNat = 47 ∧ r.head? = some 47
      · rw [if_pos h2] at h
        simp only [List.length_cons] at h
        have h3 : c.toNat = 47 ∧ (r ++ Y).head? = some 47 := ⟨h2.1, by cases r with
          | nil => simp at h2
          | cons a q => simpa using h2.2⟩
        rw [if_neg h1, if_neg h1, if_pos h3, blk_full true r Y (by omega), List.length_cons]
        omega
      · rw [if_neg h2] at h
        simp at h

theorem blk_part : ∀ (b : Bool) (l Y : List UInt8), blk b l < l.length → ¬ Y.head? = some 47 → blk b (l ++ Y) = blk b l
  | b, [], Y, h, _ => by simp at h
  | true, c :: r, Y, h, hy => by
    simp only [blk, List.length_cons] at h
    simp only [List.cons_append, blk]
    rw [blk_part _ r Y (by omega) hy]
  | false, c :: r, Y, h, hy => by
    rw [blk_fc] at h
    rw [List.cons_append, blk_fc, blk_fc]
    by_cases h1 : lxB c = true
    · rw [if_pos h1] at h
      simp only [List.length_cons] at h
      rw [if_pos h1, if_pos h1, blk_part false r Y (by omega) hy]
    · rw [if_neg h1] at h
      rw [if_neg h1, if_neg h1]
      by_cases h2 : c.toNat = 47 ∧ r.head? = some 47
      · rw [if_pos h2] at h
        simp only [List.length_cons] at h
        have h3 : c.toNat = 47 ∧ (r ++ Y).head? = some 47 := ⟨h2.1, by cases r with
          | nil => simp at h2
          | cons a q => simpa using h2.2⟩
        rw [if_pos h2, if_pos h3, blk_part true r Y (by omega) hy]
      · have h3 : ¬ (c.toNat = 47 ∧ (r ++ Y).head? = some 47) := fun e => h2 ⟨e.1, by cases r with
          | nil => exact absurd (by simpa using e.2) hy
          | cons a q => simpa using e.2⟩
        rw [if_neg h2, if_neg h3]

/-- tokens from a place on, where blanks may stand; within a remark, or not -/
def gpT (b : Bool) (p : Nat) (l : List UInt8) : Except (Nat × Nat) (List Tk) := lpT (l.length + 1) (p + blk b l) (l.drop (blk b l))

theorem gp_nil (b : Bool) (p : Nat) : gpT b p [] = .ok [endT p] := by cases b <;> rfl
theorem gp_all {l : List UInt8} (h : l.length ≤ 8192) : allT l = gpT false 0 l := by rw [all_split h]; unfold gpT; rw [Nat.zero_add]
theorem gp_lp {f p : Nat} {b : Bool} {l : List UInt8} (h : l.length < f) : lpT f (p + blk b l) (l.drop (blk b l)) = gpT b p l := lp_fuel _ _ _ _ (by rw [List.length_drop]; omega) (by rw [List.length_drop]; omega)
/-- all of it is blank -/
theorem gp_full {b : Bool} {p : Nat} {l : List UInt8} (h : blk b l = l.length) (Y : List UInt8) : gpT b p (l ++ Y) = gpT (gst b l) (p + l.length) Y := by
  rw [← gp_lp (f := (l ++ Y).length + 1) (p := p + l.length) (b := gst b l) (l := Y) (by rw [List.length_append]; omega)]
  unfold gpT
  rw [blk_full b l Y h, ← List.drop_drop, List.drop_left, Nat.add_assoc]
/-- a token is first -/
theorem gp_tok {b : Bool} {p : Nat} {l : List UInt8} {t : Tk} {n : Nat} (h : fstT (l.drop (blk b l)) = .ok (t, n)) : gpT b p l = preT [t.at (p + blk b l)] (gpT false (p + blk b l + n) ((l.drop (blk b l)).drop n)) := by
  have hn := fst_pos h
  unfold gpT
  cases hd : l.drop (blk b l) with
  | nil => rw [hd] at hn; simp at hn; omega
  | cons c r =>
    rw [hd] at h hn
    have hlen : (c :: r).length ≤ l.length := by rw [← hd, List.length_drop]; omega
    rw [lp_consP, h]
    simp only
    congr 1
    exact lp_fuel _ _ _ _ (by rw [List.length_drop, List.length_drop]; simp only [List.length_cons] at hlen ⊢; omega) (by rw [List.length_drop]; omega)

theorem gp_bad {b : Bool} {p : Nat} {l : List UInt8} (hl : blk b l < l.length) {e : Nat} (h : fstT (l.drop (blk b l)) = .error e) : gpT b p l = .error (p + blk b l, e) := by
  unfold gpT
  cases hd : l.drop (blk b l) with
  | nil =>
    have := congrArg List.length hd
    rw [List.length_drop] at this
    simp at this
    omega
  | cons c r =>
    rw [hd] at h
    rw [lp_consP, h]

theorem pre_ok {A : List Tk} {x : Except (Nat × Nat) (List Tk)} {ts : List Tk} (h : preT A x = .ok ts) : ∃ us, x = .ok us ∧ ts = A ++ us := by
  cases x with
  | error e => cases h
  | ok us => cases h; exact ⟨us, rfl, rfl⟩

theorem gp_len : ∀ (m : Nat) (b : Bool) (p : Nat) (l : List UInt8) (A : List Tk) (e : Nat), l.length ≤ m → gpT b p l = .ok (A ++ [endT e]) → e = p + l.length
  | m, b, p, l, A, e, hm, h => by
    have hb := blk_le b l
    have := (lp_all (l.length + 1) (p + blk b l) (l.drop (blk b l)) _ (by rw [List.length_drop]; omega) h).1
    obtain ⟨us, hu⟩ := this
    have h2 := (List.append_inj' hu rfl).2
    simp only [List.cons.injEq, endT, Tk.mk.injEq] at h2
    rw [List.length_drop] at h2
    omega

/-- what stands behind -/
theorem gp_app : ∀ (m : Nat) (b : Bool) (p : Nat) (l : List UInt8) (A : List Tk) (e : Nat), l.length ≤ m → gpT b p l = .ok (A ++ [endT e]) → ∃ b', ∀ (c : UInt8) (X : List UInt8), frB c = true → gpT b p (l ++ c :: X) = preT A (gpT b' (p + l.length) (c :: X))
  | m, b, p, l, A, e, hm, h => by
    have hb := blk_le b l
    by_cases h0 : blk b l = l.length
    · have hA : A = [] := by
        unfold gpT at h
        rw [h0, List.drop_length] at h
        simp only [lpT, Except.ok.injEq] at h
        have := congrArg List.length h
        simp at this
        exact this
      subst hA
      refine ⟨gst b l, fun c X hc => ?_⟩
      rw [gp_full h0, preT_nil]
    · have hlt : blk b l < l.length := by omega
      cases hf : fstT (l.drop (blk b l)) with
      | error er => rw [gp_bad hlt hf] at h; cases h
      | ok x =>
        obtain ⟨t, n⟩ := x
        have hn := fst_pos hf
        rw [List.length_drop] at hn
        obtain ⟨us, hu, hA⟩ := pre_ok ((gp_tok hf).symm.trans h)
        have hd : ((l.drop (blk b l)).drop n).length + blk b l + n = l.length := by rw [List.length_drop, List.length_drop]; omega
        obtain ⟨A', rfl, hA'⟩ : ∃ A', us = A' ++ [endT e] ∧ A = t.at (p + blk b l) :: A' := by
          cases A with
          | nil =>
            simp only [List.nil_append, List.singleton_append, List.cons.injEq] at hA
            obtain ⟨_, rfl⟩ := hA
            exfalso
            have := (lp_all _ _ _ _ (by rw [List.length_drop]; omega) hu).1
            obtain ⟨vs, hv⟩ := this
            simp at hv
          | cons a A' =>
            simp only [List.cons_append, List.nil_append, List.cons.injEq] at hA
            exact ⟨A', hA.2.symm, by rw [hA.1]⟩
        cases m with
        | zero => omega
        | succ m =>
          obtain ⟨b', ih⟩ := gp_app m false _ _ A' e (by omega) hu
          refine ⟨b', fun c X hc => ?_⟩
          have hbp : blk b (l ++ c :: X) = blk b l := blk_part b l (c :: X) hlt (by
            simp only [List.head?_cons, Option.some.injEq]
            intro e2
            exact (fr_parts hc).2.1 (by rw [e2]; rfl))
          have hdr : (l ++ c :: X).drop (blk b l) = l.drop (blk b l) ++ c :: X := List.drop_append_of_le_length hb
          have hf' : fstT ((l ++ c :: X).drop (blk b (l ++ c :: X))) = .ok (t, n) := by rw [hbp, hdr]; exact fst_app hf hc X
          rw [gp_tok hf', hbp, hdr, List.drop_append_of_le_length (by rw [List.length_drop]; omega), ih c X hc, preT_add, hA']
          congr 2
          omega

/-- tokens at another place -/
theorem lp_move : ∀ (f p q : Nat) (l : List UInt8) (ts : List Tk), lpT f p l = .ok ts → ∃ us, lpT f q l = .ok us ∧ us.map (fun t => (t.k, t.t, t.n)) = ts.map (fun t => (t.k, t.t, t.n))
  | 0, p, q, l, ts, h => by simp [lpT] at h
  | f + 1, p, q, [], ts, h => by
    simp only [lpT, Except.ok.injEq] at h
    subst h
    exact ⟨_, rfl, rfl⟩
  | f + 1, p, q, c :: r, ts, h => by
    obtain ⟨t, n, us, h1, h2, rfl⟩ := lp_ok h
    obtain ⟨vs, h3, h4⟩ := lp_move f _ (q + n + blk false ((c :: r).drop n)) _ us h2
    refine ⟨t.at q :: vs, ?_, ?_⟩
    · rw [lp_consP, h1]
      simp only
      rw [h3]
      rfl
    · rw [List.map_cons, List.map_cons, h4]
      rfl
theorem gp_move {b : Bool} {p : Nat} (q : Nat) {l : List UInt8} {ts : List Tk} (h : gpT b p l = .ok ts) : ∃ us, gpT b q l = .ok us ∧ us.map (fun t => (t.k, t.t, t.n)) = ts.map (fun t => (t.k, t.t, t.n)) := lp_move _ _ _ _ _ h
end Go.Proofs.YtgalfhlclmkbfaaGreatDoor
