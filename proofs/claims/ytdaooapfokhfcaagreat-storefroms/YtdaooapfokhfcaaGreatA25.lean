/-
  Lists by rising texts: what a store's weight is, and what a checkpoint keeps; plain lists.
  store's keep, forget, hand, and what undoes a change, over a store; conditions: the form's own reach.
-/
import Derived.Test.YtdaooapfokhfcaaGreatA24
namespace Go.Proofs.YtdaooapfokhfcaaGreat
open Go.RowKit
set_option linter.unusedVariables false
set_option linter.unusedSimpArgs false

abbrev Xs := List (ByteArray × Vl)
abbrev Us := List (ByteArray × Option Vl)

def oldT (l : Xs) (k : ByteArray) : Nat := match lookK l k with | some y => ew (k, y) | none => 0

theorem tot_cons (p : ByteArray × Vl) (r : Xs) : tot (p :: r) = ew p + tot r := by simp [tot]

theorem tot_del : ∀ (l : Xs) (k : ByteArray), tot (delK l k) + oldT l k = tot l
  | [], k => rfl
  | p :: r, k => by
    obtain ⟨a, y⟩ := p
    have ih := tot_del r k
    unfold oldT at ih ⊢
    unfold delK lookK
    by_cases h : a = k
    · subst h
      simp [tot_cons]
      omega
    · simp only [h, if_false]
      rw [tot_cons, tot_cons]
      omega

theorem tot_put : ∀ (l : Xs) (k : ByteArray) (y : Vl), Rk l → tot (putK l k y) + oldT l k = tot l + ew (k, y)
  | [], k, y, _ => by simp [putK, oldT, lookK, tot]
  | p :: r, k, y, hr => by
    obtain ⟨a, z⟩ := p
    have ih := tot_put r k y (rk_tail hr)
    unfold oldT at ih ⊢
    unfold putK lookK
    by_cases h1 : bl a k = true
    · have hne : a ≠ k := bl_ne h1
      simp only [h1, if_true, hne, if_false]
      rw [tot_cons, tot_cons]
      omega
    · by_cases h2 : a = k
      · subst h2
        simp only [kl_irr, Bool.false_eq_true, if_false, if_true]
        rw [tot_cons, tot_cons]
        omega
      · have h3 : bl k a = true := by
          rcases kl_tri a k with e | e | e
          · exact absurd e h1
          · exact absurd e h2
          · exact e
        have hn : lookK r k = none := look_none_lt (fun q hq => kl_trans h3 (rk_head hr q hq))
        have h1' : bl a k = false := by simpa using h1
        simp only [h1', Bool.false_eq_true, h2, if_false, hn]
        rw [tot_cons, tot_cons]
        omega

theorem tot_le (l : Xs) (h : ∀ p ∈ l, p.1.size ≤ 32) : tot l ≤ 2081 * l.length := by
  induction l with
  | nil => simp [tot]
  | cons p r ih =>
    have h1 := ih (fun q hq => h q (List.mem_cons_of_mem _ hq))
    have h2 := ew_le p.1 p.2 (h p List.mem_cons_self)
    rw [tot_cons, List.length_cons]
    have : ew p = ew (p.1, p.2) := rfl
    omega

/-- the last one turns -/
def updLast {α : Type} (f : α → α) (l : List α) : List α := match l.getLast? with | some x => l.dropLast ++ [f x] | none => []
theorem updLast_nil {α : Type} (f : α → α) : updLast f [] = [] := rfl
theorem updLast_snoc {α : Type} (f : α → α) (r : List α) (x : α) : updLast f (r ++ [x]) = r ++ [f x] := by simp [updLast]

/-- what a checkpoint keeps when a key is changed -/
def keepL (k : ByteArray) (o : Option Vl) (l : Us) : Us := match lookK l k with | none => putK l k o | some _ => l
/-- what it need not keep any more -/
def forgetL (X : Xs) (k : ByteArray) (l : Us) : Us := match lookK l k, lookK X k with | some none, none => delK l k | _, _ => l
/-- a key is let be as it was -/
def backL (X : Xs) (p : ByteArray × Option Vl) : Xs := match p.2 with | none => delK X p.1 | some y => putK X p.1 y
/-- what is kept is handed on -/
def handL (X : Xs) (l : Us) (p : ByteArray × Option Vl) : Us := forgetL X p.1 (keepL p.1 p.2 l)

theorem keepL_rk {k : ByteArray} {o : Option Vl} {l : Us} (h : Rk l) : Rk (keepL k o l) := by
  unfold keepL
  split
  · exact put_rk _ _ h
  · exact h
theorem forgetL_rk {X : Xs} {k : ByteArray} {l : Us} (h : Rk l) : Rk (forgetL X k l) := by
  unfold forgetL
  split
  · exact del_rk _ h
  · exact h
theorem backL_rk {X : Xs} {p : ByteArray × Option Vl} (h : Rk X) : Rk (backL X p) := by
  unfold backL
  split
  · exact del_rk _ h
  · exact put_rk _ _ h

theorem keepL_look {k k' : ByteArray} {o : Option Vl} {l : Us} (h : Rk l) : lookK (keepL k o l) k' = if k = k' then some ((lookK l k).getD o) else lookK l k' := by
  unfold keepL
  split
  · rename_i e
    rw [look_put _ _ _ _ h, e]
    rfl
  · rename_i z e
    split
    · rename_i hk
      subst hk
      rw [e]
      rfl
    · rfl

open Classical in
theorem forgetL_look {X : Xs} {k k' : ByteArray} {l : Us} (h : Rk l) : lookK (forgetL X k l) k' = if k = k' ∧ lookK l k = some none ∧ lookK X k = none then none else lookK l k' := by
  unfold forgetL
  split
  · rename_i e1 e2
    rw [look_del _ _ _ h]
    by_cases hk : k = k'
    · simp [hk]
      intro h3
      subst hk
      exact absurd e2 (h3 e1)
    · simp [hk]
  · rename_i h1
    split
    · rename_i h2
      exact absurd h2.2.2 (by
        intro h3
        exact h1 h2.2.1 h3)
    · rfl

theorem backL_look {X : Xs} {p : ByteArray × Option Vl} {k : ByteArray} (h : Rk X) : lookK (backL X p) k = if p.1 = k then p.2 else lookK X k := by
  obtain ⟨a, o⟩ := p
  unfold backL
  cases o with
  | none => exact look_del _ _ _ h
  | some y => exact look_put _ _ _ _ h

theorem backs_rk : ∀ (m : Us) (X : Xs), Rk X → Rk (m.foldl backL X)
  | [], X, h => h
  | p :: r, X, h => backs_rk r _ (backL_rk h)

theorem backs_look : ∀ (m : Us) (X : Xs) (k : ByteArray), Rk m → Rk X → lookK (m.foldl backL X) k = match lookK m k with | some o => o | none => lookK X k
  | [], X, k, _, _ => rfl
  | p :: r, X, k, hm, hX => by
    rw [List.foldl_cons, backs_look r _ k (rk_tail hm) (backL_rk hX), backL_look hX]
    by_cases h : p.1 = k
    · have hn : lookK r k = none := look_none_lt (fun q hq => by rw [← h]; exact rk_head hm q hq)
      have e : lookK (p :: r) k = some p.2 := by simp [lookK, h]
      rw [e, hn]
      simp [h]
    · have e : lookK (p :: r) k = lookK r k := by simp [lookK, h]
      rw [e]
      simp [h]

theorem backL_len (X : Xs) (p : ByteArray × Option Vl) : (backL X p).length ≤ X.length + 1 := by
  unfold backL
  split
  · have := del_len X p.1
    omega
  · rename_i y _
    rw [put_len]
    split <;> omega
theorem backs_len : ∀ (m : Us) (X : Xs), (m.foldl backL X).length ≤ X.length + m.length
  | [], X => by simp
  | p :: r, X => by
    have h1 := backs_len r (backL X p)
    have h2 := backL_len X p
    rw [List.foldl_cons, List.length_cons]
    omega

def hnd (x : Option Vl) (a : Option (Option Vl)) (o : Option Vl) : Option (Option Vl) := if ((a.getD o).isNone && x.isNone) = true then none else some (a.getD o)
open Classical in
theorem hnd_eq (x : Option Vl) (a : Option (Option Vl)) (o : Option Vl) : hnd x a o = if a.getD o = none ∧ x = none then none else some (a.getD o) := by
  unfold hnd
  simp only [Bool.and_eq_true, Option.isNone_iff_eq_none]

open Classical in
theorem handL_look {X : Xs} {l : Us} {p : ByteArray × Option Vl} {k : ByteArray} (h : Rk l) : lookK (handL X l p) k = if p.1 = k then hnd (lookK X k) (lookK l k) p.2 else lookK l k := by
  unfold handL
  rw [forgetL_look (keepL_rk h), keepL_look h, keepL_look h]
  by_cases hk : p.1 = k
  · subst hk
    simp only [if_true, true_and, Option.some.injEq, hnd_eq]
  · simp [hk]
theorem handL_rk {X : Xs} {l : Us} {p : ByteArray × Option Vl} (h : Rk l) : Rk (handL X l p) := forgetL_rk (keepL_rk h)
theorem hands_rk : ∀ (m : Us) (X : Xs) (l : Us), Rk l → Rk (m.foldl (handL X) l)
  | [], X, l, h => h
  | p :: r, X, l, h => hands_rk r X _ (handL_rk h)
theorem hands_look : ∀ (m : Us) (X : Xs) (l : Us) (k : ByteArray), Rk m → Rk l → lookK (m.foldl (handL X) l) k = match lookK m k with | some o => hnd (lookK X k) (lookK l k) o | none => lookK l k
  | [], X, l, k, _, _ => rfl
  | p :: r, X, l, k, hm, hl => by
    rw [List.foldl_cons, hands_look r X _ k (rk_tail hm) (handL_rk hl), handL_look hl]
    by_cases h : p.1 = k
    · have hn : lookK r k = none := look_none_lt (fun q hq => by rw [← h]; exact rk_head hm q hq)
      have e : lookK (p :: r) k = some p.2 := by simp [lookK, h]
      rw [e, hn]
      simp [h]
    · have e : lookK (p :: r) k = lookK r k := by simp [lookK, h]
      rw [e]
      simp [h]

/-- what a checkpoint holds: what lets all be as it was -/
structure Lv (X : Xs) (m : Us) (B : Xs) : Prop where
  rm : Rk m
  rb : Rk B
  back : ∀ k, (match lookK m k with | some o => o | none => lookK X k) = lookK B k
  bare : ∀ k, lookK m k = some none → lookK X k ≠ none
  len : B.length ≤ 128
  wt : tot B ≤ 32768

def Chain : Xs → List Us → List Xs → Prop
  | _, [], [] => True
  | X, m :: r, B :: s => Lv X m B ∧ Chain B r s
  | _, _, _ => False

theorem lv_put {X : Xs} {m : Us} {B : Xs} (h : Lv X m B) (hX : Rk X) (k : ByteArray) (y : Vl) : Lv (putK X k y) (keepL k (lookK X k) m) B := by
  refine ⟨keepL_rk h.rm, h.rb, fun k' => ?_, fun k' hk' => ?_, h.len, h.wt⟩
  · have hb := h.back k'
    rw [keepL_look h.rm, look_put _ _ _ _ hX]
    by_cases e : k = k'
    · subst e
      simp only [if_true]
      rw [← hb]
      cases lookK m k <;> rfl
    · simp only [e, if_false]
      exact hb
  · rw [look_put _ _ _ _ hX]
    by_cases e : k = k'
    · simp [e]
    · rw [keepL_look h.rm] at hk'
      simp only [e, if_false] at hk' ⊢
      exact h.bare k' hk'

open Classical in
theorem lv_del {X : Xs} {m : Us} {B : Xs} (h : Lv X m B) (hX : Rk X) (k : ByteArray) (hk : lookK X k ≠ none) : Lv (delK X k) (forgetL (delK X k) k (keepL k (lookK X k) m)) B := by
  refine ⟨forgetL_rk (keepL_rk h.rm), h.rb, fun k' => ?_, fun k' hk' => ?_, h.len, h.wt⟩
  · have hb := h.back k'
    rw [forgetL_look (keepL_rk h.rm), keepL_look h.rm, keepL_look h.rm, look_del _ _ _ hX, look_del _ _ _ hX]
    by_cases e : k = k'
    · subst e
      simp only [if_true, true_and, and_true, Option.some.injEq]
      rw [← hb]
      cases hm : lookK m k with
      | none =>
        simp only [Option.getD_none]
        rw [if_neg hk]
      | some z =>
        simp only [Option.getD_some]
        by_cases hz : z = none
        · rw [if_pos hz]
          exact hz.symm
        · rw [if_neg hz]
    · simp only [e, if_false, false_and]
      exact hb
  · rw [forgetL_look (keepL_rk h.rm), keepL_look h.rm, keepL_look h.rm, look_del _ _ _ hX] at hk'
    rw [look_del _ _ _ hX]
    by_cases e : k = k'
    · subst e
      simp only [if_true, true_and, and_true, Option.some.injEq] at hk'
      split at hk'
      · cases hk'
      · rename_i hn
        exact absurd (Option.some.inj hk') hn
    · simp only [e, if_false, false_and] at hk' ⊢
      exact h.bare k' hk'

open Classical in
theorem lv_commit {X : Xs} {m m2 : Us} {B B2 : Xs} (h : Lv X m B) (h2 : Lv B m2 B2) : Lv X (m.foldl (handL X) m2) B2 := by
  refine ⟨hands_rk _ _ _ h2.rm, h2.rb, fun k => ?_, fun k hk => ?_, h2.len, h2.wt⟩
  · have hb := h.back k
    have hb2 := h2.back k
    rw [hands_look _ _ _ _ h.rm h2.rm]
    cases hm : lookK m k with
    | none =>
      rw [hm] at hb
      dsimp only at hb ⊢
      rw [hb]
      exact hb2
    | some o =>
      rw [hm] at hb
      dsimp only at hb ⊢
      rw [hnd_eq]
      cases hm2 : lookK m2 k with
      | none =>
        rw [hm2] at hb2
        dsimp only at hb2
        simp only [Option.getD_none]
        by_cases hc : o = none ∧ lookK X k = none
        · rw [if_pos hc]
          dsimp only
          rw [hc.2, ← hb2, ← hb, hc.1]
        · rw [if_neg hc]
          dsimp only
          rw [← hb2, ← hb]
      | some z =>
        rw [hm2] at hb2
        dsimp only at hb2
        simp only [Option.getD_some]
        by_cases hc : z = none ∧ lookK X k = none
        · rw [if_pos hc]
          dsimp only
          rw [hc.2, ← hb2, hc.1]
        · rw [if_neg hc]
          exact hb2
  · have hb := h.back k
    rw [hands_look _ _ _ _ h.rm h2.rm] at hk
    cases hm : lookK m k with
    | none =>
      rw [hm] at hb hk
      dsimp only at hb hk
      rw [hb]
      exact h2.bare k hk
    | some o =>
      rw [hm] at hk
      dsimp only at hk
      rw [hnd_eq] at hk
      split at hk
      · cases hk
      · rename_i hc
        intro hx
        exact hc ⟨Option.some.inj hk, hx⟩

theorem lv_back {X : Xs} {m : Us} {B : Xs} (h : Lv X m B) (hX : Rk X) : m.foldl backL X = B :=
  rk_ext _ _ (backs_rk _ _ hX) h.rb (fun k => by rw [backs_look _ _ _ h.rm hX]; exact h.back k)

theorem lv_new {X : Xs} (hX : Rk X) (hl : X.length ≤ 128) (hw : tot X ≤ 32768) : Lv X [] X := ⟨List.Pairwise.nil, hX, fun k => rfl, (fun k h => by cases h), hl, hw⟩

theorem sub_len {α : Type} [DecidableEq α] : ∀ (l l' : List α), l.Nodup → (∀ x ∈ l, x ∈ l') → l.length ≤ l'.length
  | [], l', _, _ => by simp
  | a :: r, l', hd, hs => by
    have ha : a ∈ l' := hs a List.mem_cons_self
    have h1 := sub_len r (l'.erase a) (List.nodup_cons.1 hd).2 (fun x hx => by
      have hne : x ≠ a := fun e => (List.nodup_cons.1 hd).1 (e ▸ hx)
      exact (List.mem_erase_of_ne hne).2 (hs x (List.mem_cons_of_mem _ hx)))
    rw [List.length_erase_of_mem ha] at h1
    have := List.length_pos_of_mem ha
    rw [List.length_cons]
    omega

theorem rk_nodup {α : Type} {l : List (ByteArray × α)} (h : Rk l) : (l.map Prod.fst).Nodup := by
  unfold List.Nodup
  rw [List.pairwise_map]
  exact h.imp (fun e => bl_ne e)

theorem mem_keys {α : Type} {l : List (ByteArray × α)} {k : ByteArray} (h : lookK l k ≠ none) : k ∈ l.map Prod.fst := by
  cases e : lookK l k with
  | none => exact absurd e h
  | some x => exact List.mem_map.2 ⟨_, look_mem e, rfl⟩

theorem lv_len {X : Xs} {m : Us} {B : Xs} (h : Lv X m B) : m.length ≤ X.length + B.length := by
  have h1 := sub_len (m.map Prod.fst) (X.map Prod.fst ++ B.map Prod.fst) (rk_nodup h.rm) (fun k hk => by
    obtain ⟨p, hp, rfl⟩ := List.mem_map.1 hk
    have hl := mem_look h.rm hp
    have hb := h.back p.1
    rw [hl] at hb
    dsimp only at hb
    cases ho : p.2 with
    | none =>
      rw [ho] at hl
      exact List.mem_append_left _ (mem_keys (h.bare _ hl))
    | some z =>
      rw [ho] at hb
      exact List.mem_append_right _ (mem_keys (by rw [← hb]; simp)))
  simpa using h1

end Go.Proofs.YtdaooapfokhfcaaGreat

namespace Go.Proofs.YtdaooapfokhfcaaGreat
open Go.RowKit
set_option linter.unusedVariables false
set_option linter.unusedSimpArgs false

/-- what a store has; what its checkpoints keep -/
def Sx.X (t : Sx) : Xs := mapK Prod.snd t.l
def absM (ms : List Mk) : List Us := ms.map fun m => mapK Prod.snd m.l
theorem absM_snoc (r : List Mk) (m : Mk) : absM (r ++ [m]) = absM r ++ [mapK Prod.snd m.l] := by simp [absM]
theorem upd_absM (f : Us → Us) (r : List Mk) (m m' : Mk) (h : mapK Prod.snd m'.l = f (mapK Prod.snd m.l)) : absM (r ++ [m']) = updLast f (absM (r ++ [m])) := by
  rw [absM_snoc, absM_snoc, updLast_snoc, h]

section
variable {w : World} {V : Nat → Prop} {t : Sx}

theorem keep_any (h : Sto w V t) (k : ByteArray) (c : ThU) (o : Option Vl) (hu : UOk w V t.s k (c, o)) (hb : ∀ m ∈ t.ms, m.l.length ≤ 1000000) :
    Calls Tryz.prog 46 #[.pointer (some ⟨t.s, 0, none⟩), .string k, .agg (thU c).toArray] w fun e w' => (∃ r, e = .returned r) ∧ ∃ ms', Sto w' V { t with ms := ms' } ∧ Adv w w' V V t { t with ms := ms' } ∧ absM ms' = updLast (keepL k o) (absM t.ms) := by
  have CL : ∀ u, Below w.heap.size w u → Calls Tryz.prog 77 #[.pointer (some ⟨t.s, 0, none⟩)] u fun e w' => e = .returned (.pointer (lastP t.ms)) ∧ ∃ q, w' = u.drewN q := fun u hu => last_any (h.later hu)
  obtain ⟨c0, c1, c2, c3⟩ := c
  rcases List.eq_nil_or_concat t.ms with hms | ⟨r, m, hms⟩
  · rw [hms, lastP_nil] at CL
    refine keep_not (P := fun w' => ∃ ms', Sto w' V { t with ms := ms' } ∧ Adv w w' V V t { t with ms := ms' } ∧ absM ms' = updLast (keepL k o) (absM t.ms)) c0 c1 c2 c3 CL (fun u hu => get_nilU k u) (fun u hu => ?_)
    refine (put_nilU k (c0, c1, c2, c3) u).mono ?_
    rintro e w' ⟨rfl, b⟩
    have hb' : Below w.heap.size w w' := hu.trans (b.mono hu.size)
    refine ⟨⟨_, rfl⟩, t.ms, h.later hb', Adv.of' hb' t V, ?_⟩
    rw [hms]
    rfl
  · rw [List.concat_eq_append] at hms
    rw [hms, lastP_snoc] at CL
    have hm : m ∈ t.ms := by rw [hms]; simp
    have hmo := h.mks m hm
    cases hO : lookK m.l k with
    | some x =>
      obtain ⟨⟨x0, x1, x2, x3⟩, xo⟩ := x
      refine (keep_known c0 c1 c2 c3 x0 x1 x2 x3 CL (fun u hu => ?_)).mono ?_
      · have := get_inU ((h.later hu).mks m hm).tab (mapK_rk _ hmo.rk) k (x0, x1, x2, x3) (by rw [mapK_look, hO]; rfl)
        exact this
      · rintro e w' ⟨hr, b⟩
        refine ⟨hr, t.ms, h.later b, Adv.of' b t V, ?_⟩
        rw [hms]
        refine upd_absM _ r m m ?_
        unfold keepL
        rw [mapK_look, hO]
        rfl
    | none =>
      refine keep_not (P := fun w' => ∃ ms', Sto w' V { t with ms := ms' } ∧ Adv w w' V V t { t with ms := ms' } ∧ absM ms' = updLast (keepL k o) (absM t.ms)) c0 c1 c2 c3 CL (fun u hu => ?_) (fun u hu' => ?_)
      · have := get_U ((h.later hu).mks m hm).tab (mapK_rk _ hmo.rk) k
        rw [mapK_look, hO] at this
        exact this
      · have hs := h.later hu'
        refine (put_U (hs.mks m hm).tab (mapK_rk _ hmo.rk) k (c0, c1, c2, c3) (by rw [mapK_len]; have := hb m hm; omega)).mono ?_
        rintro e w' ⟨v', rfl, ht, hv, hf⟩
        have e1 : putK (mapK Prod.fst m.l) k ((c0, c1, c2, c3) : ThU) = mapK Prod.fst (putK m.l k ((c0, c1, c2, c3), o)) := by rw [mapK_put]
        rw [e1] at ht
        obtain ⟨a, b⟩ := hs.last hms hf ht (put_rk _ _ hmo.rk) (fun k' x' hx => by
          rcases put_mem hx with e | e
          · cases e
            exact hu.to (fun j hj => hu'.block j (h.vs j hj).1) (fun _ h => h)
          · exact (hs.mks m hm).ok k' x' e) hv
        refine ⟨⟨_, rfl⟩, _, a, (Adv.of' hu' t V).trans b, ?_⟩
        rw [hms]
        refine upd_absM _ r m _ ?_
        show mapK Prod.snd (putK m.l k _) = _
        unfold keepL
        rw [mapK_look, hO, mapK_put]
        rfl

theorem uok_bare {s : Nat} {k : ByteArray} {x0 : Fn} {x1 x2 : Array Value} {x3 : Bool} {o : Option Vl} (h : UOk w V s k ((x0, x1, x2, x3), o)) : x3 = o.isNone := by
  obtain ⟨_, bs, bk, _, _, _, _, h5⟩ := h
  cases o with
  | none =>
    simp only [UHow, Prod.mk.injEq] at h5
    rw [h5.2.2.2]
    rfl
  | some x =>
    obtain ⟨bn, c, _, _, _, _, h6⟩ := h5
    simp only [Prod.mk.injEq] at h6
    rw [h6.2.2.2]
    rfl

theorem forget_any (h : Sto w V t) (k : ByteArray) :
    Calls Tryz.prog 64 #[.pointer (some ⟨t.s, 0, none⟩), .string k] w fun e w' => (∃ r, e = .returned r) ∧ ∃ ms', Sto w' V { t with ms := ms' } ∧ Adv w w' V V t { t with ms := ms' } ∧ absM ms' = updLast (forgetL t.X k) (absM t.ms) := by
  have CL : ∀ u, Below w.heap.size w u → Calls Tryz.prog 77 #[.pointer (some ⟨t.s, 0, none⟩)] u fun e w' => e = .returned (.pointer (lastP t.ms)) ∧ ∃ q, w' = u.drewN q := fun u hu => last_any (h.later hu)
  obtain ⟨t0, t1, t2, t3, t4, t5, t6, t7, t8, th, hth, CV⟩ : ∃ (t0 t1 : Int) (t2 : ByteArray) (t3 : Option Addr) (t4 t5 : Nat) (t6 : Option Addr) (t7 t8 : Nat) (th : Bool), (th = true ↔ lookK t.X k ≠ none) ∧ ∀ u, Below w.heap.size w u → Calls Tryz.prog 55 #[.pointer (some ⟨t.g, 0, none⟩), .string k] u fun e w' => e = .returned (.tuple #[.agg #[.int .i64 t0, .int .i64 t1, .string t2, .slice t3 t4 t5, .slice t6 t7 t8], .bool th]) ∧ Below u.heap.size u w' := by
    have CV : ∀ u, Below w.heap.size w u → _ := fun u hu => get_V (h.later hu).tab (mapK_rk _ h.rk) k
    unfold Sx.X
    rw [mapK_look]
    rw [mapK_look] at CV
    cases hO : lookK t.l k with
    | none =>
      rw [hO] at CV
      exact ⟨0, 0, ⟨#[]⟩, none, 0, 0, none, 0, 0, false, by simp, CV⟩
    | some x =>
      rw [hO] at CV
      obtain ⟨⟨t0, t1, t2, t3, t4, t5, t6, t7, t8⟩, xv⟩ := x
      exact ⟨t0, t1, t2, t3, t4, t5, t6, t7, t8, true, by simp, CV⟩
  rcases List.eq_nil_or_concat t.ms with hms | ⟨r, m, hms⟩
  · rw [hms, lastP_nil] at CL
    refine (forget_un t0 t1 t2 t3 t4 t5 t6 t7 t8 th h.c0 CV CL (fun u hu => get_nilU k u)).mono ?_
    rintro e w' ⟨hr, b⟩
    refine ⟨hr, t.ms, h.later b, Adv.of' b t V, ?_⟩
    rw [hms]
    rfl
  · rw [List.concat_eq_append] at hms
    rw [hms, lastP_snoc] at CL
    have hm : m ∈ t.ms := by rw [hms]; simp
    have hmo := h.mks m hm
    have same : forgetL t.X k (mapK Prod.snd m.l) = mapK Prod.snd m.l → absM t.ms = updLast (forgetL t.X k) (absM t.ms) := fun e => by
      rw [hms]
      exact upd_absM _ r m m e.symm
    cases hO : lookK m.l k with
    | none =>
      refine (forget_un t0 t1 t2 t3 t4 t5 t6 t7 t8 th h.c0 CV CL (fun u hu => ?_)).mono ?_
      · have := get_U ((h.later hu).mks m hm).tab (mapK_rk _ hmo.rk) k
        rw [mapK_look, hO] at this
        exact this
      · rintro e w' ⟨hr, b⟩
        refine ⟨hr, t.ms, h.later b, Adv.of' b t V, same ?_⟩
        unfold forgetL
        rw [mapK_look, hO]
        rfl
    | some x =>
      obtain ⟨⟨x0, x1, x2, x3⟩, xo⟩ := x
      have hx3 := uok_bare (hmo.ok k _ (look_mem hO))
      have CG : ∀ u, Below w.heap.size w u → Calls Tryz.prog 78 #[.pointer (some ⟨m.g, 0, none⟩), .string k] u fun e w' => e = .returned (.tuple #[.agg #[.func x0 x1 x2, .bool x3], .bool true]) ∧ Below u.heap.size u w' := fun u hu => get_inU ((h.later hu).mks m hm).tab (mapK_rk _ hmo.rk) k (x0, x1, x2, x3) (by rw [mapK_look, hO]; rfl)
      cases xo with
      | some y =>
        have hx3' : x3 = false := hx3
        subst hx3'
        refine (forget_full t0 t1 t2 t3 t4 t5 t6 t7 t8 th x0 x1 x2 h.c0 CV CL CG).mono ?_
        rintro e w' ⟨hr, b⟩
        refine ⟨hr, t.ms, h.later b, Adv.of' b t V, same ?_⟩
        unfold forgetL
        rw [mapK_look, hO]
        rfl
      | none =>
        have hx3' : x3 = true := hx3
        subst hx3'
        cases th with
        | true =>
          refine (forget_there t0 t1 t2 t3 t4 t5 t6 t7 t8 true x0 x1 x2 rfl h.c0 CV CL CG).mono ?_
          rintro e w' ⟨hr, b⟩
          refine ⟨hr, t.ms, h.later b, Adv.of' b t V, same ?_⟩
          unfold forgetL
          have hne := hth.1 rfl
          cases hx : lookK t.X k with
          | none => exact absurd hx hne
          | some z =>
            rw [mapK_look, hO]
            rfl
        | false =>
          have hxn : lookK t.X k = none := by
            cases hx : lookK t.X k with
            | none => rfl
            | some z => exact absurd (hth.2 (by rw [hx]; simp)) (by simp)
          refine forget_do (P := fun w' => ∃ ms', Sto w' V { t with ms := ms' } ∧ Adv w w' V V t { t with ms := ms' } ∧ absM ms' = updLast (forgetL t.X k) (absM t.ms)) t0 t1 t2 t3 t4 t5 t6 t7 t8 false x0 x1 x2 rfl h.c0 CV CL CG (fun u hu' => ?_)
          have hs := h.later hu'
          refine (del_inU (hs.mks m hm).tab (mapK_rk _ hmo.rk) k (x0, x1, x2, true) (by rw [mapK_look, hO]; rfl)).mono ?_
          rintro e w' ⟨v', rfl, ht, hv, hf⟩
          rw [← mapK_del] at ht
          obtain ⟨a, b⟩ := hs.last hms hf ht (del_rk _ hmo.rk) (fun k' x' hx => (hs.mks m hm).ok k' x' (del_mem hx)) (fun b hb => .inl (by rw [← hv]; exact hb))
          refine ⟨⟨_, rfl⟩, _, a, (Adv.of' hu' t V).trans b, ?_⟩
          rw [hms]
          refine upd_absM _ r m _ ?_
          show mapK Prod.snd (delK m.l k) = _
          unfold forgetL
          rw [mapK_look, hO, hxn, mapK_del]
          rfl
end
end Go.Proofs.YtdaooapfokhfcaaGreat
