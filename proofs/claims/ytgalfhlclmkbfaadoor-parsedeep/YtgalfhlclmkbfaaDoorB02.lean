/-
  Layer 17 (parse): two runs of the reader beside each other, over tokens that are alike as far as both have them; plain lists, no conditions.
-/
import Derived.Test.YtgalfhlclmkbfaaDoorB01
set_option linter.unusedVariables false
set_option linter.unusedSimpArgs false
namespace Go.Proofs.YtgalfhlclmkbfaaDoor
set_option linter.unusedVariables false
set_option linter.unusedSimpArgs false

/-- trees without their places -/
def npL : List Nd → List Nd
  | [] => []
  | .mk k t vk vn vs f ks _ :: r => ⟨k, t, vk, vn, vs, f, npL ks, 0⟩ :: npL r

theorem npL_app : ∀ (a b : List Nd), npL (a ++ b) = npL a ++ npL b
  | [], b => by simp only [npL, List.nil_append]
  | .mk k t vk vn vs f ks p :: r, b => by simp only [npL, List.cons_append, npL_app r b]
theorem npL_map (t : List UInt8) (p q : Nat) : ∀ (a : List Nd), npL (a.map (fun n => ⟨n.k, t, n.vk, n.vn, n.vs, n.f, n.ks, p⟩)) = (npL a).map (fun n => ⟨n.k, t, n.vk, n.vn, n.vs, n.f, n.ks, 0⟩)
  | [] => by simp only [npL, List.map_nil]
  | .mk k t' vk vn vs f ks p' :: r => by simp only [npL, List.map_cons, npL_map t p q r]
theorem npL_nd {k : Nat} {t t' : List UInt8} {ks ks' : List Nd} {p p' : Nat} (ht : t = t') (hk : npL ks = npL ks') : npL [nd0 k t ks p] = npL [nd0 k t' ks' p'] := by
  subst ht
  simp only [npL, nd0, hk]

/-- two runs: how their tokens go together; where the first has left what both have -/
structure Sm where
  lv : List Tk → List Tk → Prop
  dd : List Tk → Prop
  dp : Nat → Prop
  pe : Nat → Nat → Prop
  sl : Bool
  hd : ∀ {l l' : List Tk}, lv l l' → ((hdT l).k = (hdT l').k ∧ (hdT l).t = (hdT l').t ∧ (hdT l).n = (hdT l').n) ∨ (sl = true ∧ (hdT l).k = 0 ∧ (hdT l').k = 5 ∧ (hdT l').t = [59])
  hp : ∀ {l l' : List Tk}, lv l l' → pe (hdT l).p (hdT l').p
  tl : ∀ {l l' : List Tk}, lv l l' → ¬ (hdT l).k = 0 → lv l.tail l'.tail ∨ dd l.tail
  dt : ∀ {l : List Tk}, dd l → ¬ (hdT l).k = 0 → dd l.tail
  dh : ∀ {l : List Tk}, dd l → dp (hdT l).p

def UO (S : Sm) : Option (Rs (List Nd)) → Prop
  | none => True
  | some (.ok (_, l)) => S.dd l
  | some (.error (_, p)) => S.dp p
def RO (S : Sm) (o o' : Option (Rs (List Nd))) : Prop := match o with
  | none => True
  | some (.ok (ns, l)) => S.dd l ∨ (∃ ns' l', o' = some (.ok (ns', l')) ∧ npL ns = npL ns' ∧ S.lv l l') ∨ (S.sl = true ∧ ∃ p, o' = some (.error (171, p)))
  | some (.error (c, p)) => S.dp p ∨ S.sl = true ∨ (∃ p', o' = some (.error (c, p')) ∧ S.pe p p')
def RU (S : Sm) (b : Bool) (o o' : Option (Rs (List Nd))) : Prop := match b with
  | true => RO S o o'
  | false => UO S o
def Stn (S : Sm) (b : Bool) (l l' : List Tk) : Prop := match b with
  | true => S.lv l l'
  | false => S.dd l

theorem uo_ro {S : Sm} {o o' : Option (Rs (List Nd))} (h : UO S o) : RO S o o' := by
  unfold RO
  split
  · trivial
  · exact .inl h
  · exact .inl h
theorem ru_low {S : Sm} {b : Bool} {o o' : Option (Rs (List Nd))} (h : UO S o) : RU S b o o' := by
  cases b with
  | false => exact h
  | true => exact uo_ro h

theorem ru_ok {S : Sm} {b : Bool} {ns ns' : List Nd} {l l' : List Tk} (hn : b = true → npL ns = npL ns') (h : Stn S b l l') : RU S b (okN ns l) (okN ns' l') := by
  cases b with
  | false => exact h
  | true => exact .inr (.inl ⟨ns', l', rfl, hn rfl, h⟩)
theorem ru_err {S : Sm} {b : Bool} {c : Nat} {l l' : List Tk} (h : Stn S b l l') : RU S b (some (.error (c, (hdT l).p))) (some (.error (c, (hdT l').p))) := by
  cases b with
  | false => exact S.dh h
  | true => exact .inr (.inr ⟨_, rfl, S.hp h⟩)
theorem ru_ite {S : Sm} {b : Bool} {p p' : Prop} [Decidable p] [Decidable p'] {A A' B B' : Option (Rs (List Nd))} (hp : b = true → (p ↔ p')) (h1 : p → RU S b A A') (h2 : ¬ p → RU S b B B') : RU S b (if p then A else B) (if p' then A' else B') := by
  cases b with
  | false =>
    show UO S _
    by_cases h : p
    · rw [if_pos h]; exact h1 h
    · rw [if_neg h]; exact h2 h
  | true =>
    by_cases h : p
    · rw [if_pos h, if_pos ((hp rfl).1 h)]; exact h1 h
    · rw [if_neg h, if_neg (fun e => h ((hp rfl).2 e))]; exact h2 h
theorem ru_bnd {S : Sm} {b : Bool} {o o' : Option (Rs (List Nd))} {k k' : List Nd → List Tk → Option (Rs (List Nd))} (h : RU S b o o')
    (hk : ∀ (b1 : Bool) (ns ns' : List Nd) (l l' : List Tk), (b1 = true → b = true) → (b1 = true → npL ns = npL ns') → Stn S b1 l l' → RU S b1 (k ns l) (k' ns' l')) : RU S b (bnd o k) (bnd o' k') := by
  match o, h with
  | none, _ => cases b <;> exact trivial
  | some (.error (c, p)), h =>
    cases b with
    | false => exact h
    | true =>
      rcases h with h | h | ⟨p', rfl, h1⟩
      · exact .inl h
      · exact .inr (.inl h)
      · exact .inr (.inr ⟨p', rfl, h1⟩)
  | some (.ok (ns, l)), h =>
    show RU S b (k ns l) (bnd o' k')
    cases b with
    | false => exact hk false ns ns l l (fun e => e) (fun e => by cases e) h
    | true =>
      rcases h with h | ⟨ns', l', rfl, hn, h⟩ | ⟨hs, p, rfl⟩
      · exact uo_ro (hk false ns ns l l (fun e => rfl) (fun e => by cases e) h)
      · exact hk true ns ns' l l' (fun e => e) (fun _ => hn) h
      · show RO S (k ns l) (some (.error (171, p)))
        unfold RO
        split
        · trivial
        · exact .inr (.inr ⟨hs, p, rfl⟩)
        · exact .inr (.inl hs)
theorem ru_tail {S : Sm} {b : Bool} {l l' : List Tk} {o o' : Option (Rs (List Nd))} (h : Stn S b l l') (hk : ¬ (hdT l).k = 0) (hc : ∀ b1 : Bool, (b1 = true → b = true) → Stn S b1 l.tail l'.tail → RU S b1 o o') : RU S b o o' := by
  cases b with
  | false => exact hc false (fun e => e) (S.dt h hk)
  | true =>
    rcases S.tl h hk with h1 | h1
    · exact hc true (fun e => e) h1
    · exact uo_ro (hc false (fun e => rfl) h1)

theorem isS_def (s : List UInt8) (l : List Tk) : isS s l = decide ((hdT l).k = 5 ∧ (hdT l).t = s) := rfl
theorem isK_def (s : List UInt8) (l : List Tk) : isK s l = decide ((hdT l).k = 2 ∧ (hdT l).t = s) := rfl
theorem sE {S : Sm} {b : Bool} {l l' : List Tk} (h : Stn S b l l') (s : List UInt8) (hs : S.sl = true → ¬ s = [59]) : b = true → isS s l = isS s l' := by
  rintro rfl
  rw [isS_def, isS_def]
  rcases S.hd h with ⟨h1, h2, h3⟩ | ⟨h0, h1, h2, h3⟩
  · rw [h1, h2]
  · rw [h1, h2, h3]
    have := hs h0
    simp [Ne.symm this]
theorem kE {S : Sm} {b : Bool} {l l' : List Tk} (h : Stn S b l l') (s : List UInt8) : b = true → isK s l = isK s l' := by
  rintro rfl
  rw [isK_def, isK_def]
  rcases S.hd h with ⟨h1, h2, h3⟩ | ⟨h0, h1, h2, h3⟩
  · rw [h1, h2]
  · rw [h1, h2]
    simp
theorem nE {S : Sm} {b : Bool} {l l' : List Tk} (h : Stn S b l l') (c : Nat) (h0 : ¬ c = 0) (h5 : ¬ c = 5) : b = true → ((hdT l).k = c ↔ (hdT l').k = c) := by
  rintro rfl
  rcases S.hd h with ⟨h1, h2, h3⟩ | ⟨h0, h1, h2, h3⟩
  · rw [h1]
  · rw [h1, h2]
    omega
theorem zE {S : Sm} {b : Bool} {l l' : List Tk} (h : Stn S b l l') (hs : S.sl = false) : b = true → ((hdT l).k = 0 ↔ (hdT l').k = 0) := by
  rintro rfl
  rcases S.hd h with ⟨h1, h2, h3⟩ | ⟨h0, h1, h2, h3⟩
  · rw [h1]
  · rw [hs] at h0; cases h0
theorem tE {S : Sm} {b : Bool} {l l' : List Tk} (h : Stn S b l l') (hk : ¬ (hdT l).k = 0) : b = true → (hdT l).t = (hdT l').t := by
  rintro rfl
  rcases S.hd h with ⟨h1, h2, h3⟩ | ⟨h0, h1, h2, h3⟩
  · exact h2
  · exact absurd h1 hk
theorem vE {S : Sm} {b : Bool} {l l' : List Tk} (h : Stn S b l l') (hk : ¬ (hdT l).k = 0) : b = true → (hdT l).n = (hdT l').n := by
  rintro rfl
  rcases S.hd h with ⟨h1, h2, h3⟩ | ⟨h0, h1, h2, h3⟩
  · exact h3
  · exact absurd h1 hk
theorem rE {S : Sm} {b : Bool} {l l' : List Tk} (h : Stn S b l l') : b = true → rowT l = rowT l' := by
  rintro rfl
  unfold rowT
  rcases S.hd h with ⟨h1, h2, h3⟩ | ⟨h0, h1, h2, h3⟩
  · rw [h1, h2]
  · rw [h1, h2, h3, if_neg (by decide), if_pos rfl]
    decide
theorem sK {s : List UInt8} {l : List Tk} (h : isS s l = true) : ¬ (hdT l).k = 0 := by rw [isS_def] at h; have := of_decide_eq_true h; omega
theorem kK {s : List UInt8} {l : List Tk} (h : isK s l = true) : ¬ (hdT l).k = 0 := by rw [isK_def] at h; have := of_decide_eq_true h; omega
theorem rK {x : Nat} {l : List Tk} (h : rowT l = x) (hx : 1 ≤ x) : ¬ (hdT l).k = 0 := by unfold rowT at h; split at h <;> omega
theorem bE {b : Bool} {p q : Bool} (h : b = true → p = q) : b = true → (p = true ↔ q = true) := fun e => by rw [h e]

theorem ru_sg {S : Sm} {b : Bool} {s : List UInt8} {l l' : List Tk} {k k' : Tk → List Tk → Option (Rs (List Nd))} (h : Stn S b l l') (hs : S.sl = true → ¬ s = [59])
    (hk : ∀ (b1 : Bool) (t t' : Tk) (l1 l1' : List Tk), (b1 = true → b = true) → (b1 = true → t.t = t'.t) → Stn S b1 l1 l1' → RU S b1 (k t l1) (k' t' l1')) : RU S b (thn (pSg s l) k) (thn (pSg s l') k') := by
  have e : ∀ (x : List Tk) (q : Tk → List Tk → Option (Rs (List Nd))), thn (pSg s x) q = if isS s x = true then q (hdT x) x.tail else some (.error (170, (hdT x).p)) := fun x q => by
    unfold pSg
    by_cases hx : isS s x = true
    · rw [if_pos hx, if_pos hx]; rfl
    · rw [if_neg hx, if_neg hx]; rfl
  rw [e, e]
  exact ru_ite (bE (sE h s hs)) (fun hi => ru_tail h (sK hi) (fun b1 hb h1 => hk b1 _ _ _ _ hb (fun e => tE h (sK hi) (hb e)) h1)) (fun _ => ru_err h)
theorem ru_ky {S : Sm} {b : Bool} {s : List UInt8} {l l' : List Tk} {k k' : Tk → List Tk → Option (Rs (List Nd))} (h : Stn S b l l')
    (hk : ∀ (b1 : Bool) (t t' : Tk) (l1 l1' : List Tk), (b1 = true → b = true) → (b1 = true → t.t = t'.t) → Stn S b1 l1 l1' → RU S b1 (k t l1) (k' t' l1')) : RU S b (thn (pKy s l) k) (thn (pKy s l') k') := by
  have e : ∀ (x : List Tk) (q : Tk → List Tk → Option (Rs (List Nd))), thn (pKy s x) q = if isK s x = true then q (hdT x) x.tail else some (.error (170, (hdT x).p)) := fun x q => by
    unfold pKy
    by_cases hx : isK s x = true
    · rw [if_pos hx, if_pos hx]; rfl
    · rw [if_neg hx, if_neg hx]; rfl
  rw [e, e]
  exact ru_ite (bE (kE h s)) (fun hi => ru_tail h (kK hi) (fun b1 hb h1 => hk b1 _ _ _ _ hb (fun e => tE h (kK hi) (hb e)) h1)) (fun _ => ru_err h)
theorem thn_nm' (x : List Tk) (q : Tk → List Tk → Option (Rs (List Nd))) : thn (pNm x) q = if (hdT x).k = 1 then q (hdT x) x.tail else some (.error (170, (hdT x).p)) := by
  unfold pNm
  by_cases hx : (hdT x).k = 1
  · rw [if_pos hx, if_pos hx]; rfl
  · rw [if_neg hx, if_neg hx]; rfl
theorem ru_nm {S : Sm} {b : Bool} {l l' : List Tk} {k k' : Tk → List Tk → Option (Rs (List Nd))} (h : Stn S b l l')
    (hk : ∀ (b1 : Bool) (t t' : Tk) (l1 l1' : List Tk), (b1 = true → b = true) → (b1 = true → t.t = t'.t) → Stn S b1 l1 l1' → RU S b1 (k t l1) (k' t' l1')) : RU S b (thn (pNm l) k) (thn (pNm l') k') := by
  rw [thn_nm', thn_nm']
  exact ru_ite (nE h 1 (by decide) (by decide)) (fun hi => ru_tail h (by omega) (fun b1 hb h1 => hk b1 _ _ _ _ hb (fun e => tE h (by omega) (hb e)) h1)) (fun _ => ru_err h)

/-- how many are open: the same, or, where that is let, more in the second run -/
def dR (S : Sm) (d d' : Nat) : Prop := d ≤ d' ∧ (S.sl = false → d = d')
theorem dR_one {S : Sm} {d d' : Nat} (h : dR S d d') : dR S (d + 1) (d' + 1) := ⟨by have := h.1; omega, fun e => by rw [h.2 e]⟩

theorem ru_en {S : Sm} {b : Bool} {s s' : List UInt8} {d d' : Nat} {l l' : List Tk} {k k' : Tk → List Tk → Option (Rs (List Nd))} (h : Stn S b l l') (he : b = true → s = s') (hs : S.sl = true → ¬ s = [59]) (hd : dR S d d')
    (hk : ∀ (b1 : Bool) (t t' : Tk) (l1 l1' : List Tk), (b1 = true → b = true) → (b1 = true → t.t = t'.t) → Stn S b1 l1 l1' → RU S b1 (k t l1) (k' t' l1')) : RU S b (thn (ent s d l) k) (thn (ent s' d' l') k') := by
  have e : ∀ (s : List UInt8) (d : Nat) (x : List Tk) (q : Tk → List Tk → Option (Rs (List Nd))), thn (ent s d x) q = if isS s x = true then (if d = 24 then some (.error (171, (hdT x).p)) else q (hdT x) x.tail) else some (.error (170, (hdT x).p)) := fun s d x q => by
    unfold ent
    by_cases hx : isS s x = true
    · rw [if_pos hx, if_pos hx]
      by_cases hd : d = 24
      · rw [if_pos hd, if_pos hd]; rfl
      · rw [if_neg hd, if_neg hd]; rfl
    · rw [if_neg hx, if_neg hx]; rfl
  rw [e, e]
  refine ru_ite (fun e => by rw [sE h s hs e, he e]) (fun hi => ?_) (fun _ => ru_err h)
  by_cases hq : S.sl = true
  · by_cases h1 : d = 24
    · rw [if_pos h1]
      cases b with
      | false => exact S.dh h
      | true => exact .inr (.inl hq)
    · rw [if_neg h1]
      by_cases h2 : d' = 24
      · rw [if_pos h2]
        have hu := ru_tail (o := k (hdT l) l.tail) (o' := some (.error (171, (hdT l').p))) h (sK hi) (fun b1 hb h1 => ?_)
        · exact hu
        · have h3 := hk false (hdT l) (hdT l') l.tail l'.tail (fun e => by cases e) (fun e => by cases e)
          cases b1 with
          | false => exact h3 h1
          | true =>
            show RO S (k (hdT l) l.tail) (some (.error (171, (hdT l').p)))
            unfold RO
            split
            · trivial
            · exact .inr (.inr ⟨hq, _, rfl⟩)
            · exact .inr (.inl hq)
      · rw [if_neg h2]
        exact ru_tail h (sK hi) (fun b1 hb h1 => hk b1 _ _ _ _ hb (fun e => tE h (sK hi) (hb e)) h1)
  · have := hd.2 (by cases hS : S.sl with | true => exact absurd hS hq | false => rfl)
    subst this
    exact ru_ite (fun _ => Iff.rfl) (fun _ => ru_err h) (fun _ => ru_tail h (sK hi) (fun b1 hb h1 => hk b1 _ _ _ _ hb (fun e => tE h (sK hi) (hb e)) h1))
end Go.Proofs.YtgalfhlclmkbfaaDoor
