/-
  Layer 17 (parse): what stands behind a token that is refused makes no difference; places make none; an expression within a function is read as it is alone; plain lists, no conditions.
-/
import Derived.Test.YtgalfhlclmkbfaaDoorA45
set_option linter.unusedVariables false
set_option linter.unusedSimpArgs false
namespace Go.Proofs.YtgalfhlclmkbfaaDoor
set_option linter.unusedVariables false
set_option linter.unusedSimpArgs false

/-- behind a token that is refused there may stand anything -/
def smS (z z' : List Tk) (hz : ∃ w p, z = w ++ [endT p]) : Sm where
  lv := fun l l' => ∃ u, u ≠ [] ∧ l = u ++ z ∧ l' = u ++ z'
  dd := fun l => l ≠ [] ∧ ∃ v, z = v ++ l
  dp := fun p => ∃ t ∈ z, t.p = p
  pe := fun p p' => p = p'
  sl := false
  hd := by
    rintro l l' ⟨u, hu, rfl, rfl⟩
    cases u with
    | nil => exact absurd rfl hu
    | cons a u => exact .inl ⟨rfl, rfl, rfl⟩
  hp := by
    rintro l l' ⟨u, hu, rfl, rfl⟩
    cases u with
    | nil => exact absurd rfl hu
    | cons a u => rfl
  tl := by
    rintro l l' ⟨u, hu, rfl, rfl⟩ hk
    cases u with
    | nil => exact absurd rfl hu
    | cons a u =>
      by_cases h1 : u = []
      · subst h1
        refine .inr ⟨?_, [], rfl⟩
        obtain ⟨w, p, rfl⟩ := hz
        simp
      · exact .inl ⟨u, h1, rfl, rfl⟩
  dt := by
    rintro l ⟨hl, v, hv⟩ hk
    cases l with
    | nil => exact absurd rfl hl
    | cons a r =>
      refine ⟨fun e => ?_, v ++ [a], by rw [hv]; simp⟩
      obtain ⟨w, p, rfl⟩ := hz
      simp only [List.tail_cons] at e
      subst e
      have h2 := congrArg List.getLast? hv
      simp at h2
      subst h2
      exact hk rfl
  dh := by
    rintro l ⟨hl, v, rfl⟩
    cases l with
    | nil => exact absurd rfl hl
    | cons a r => exact ⟨a, by simp, rfl⟩

theorem stops {f j x d : Nat} {u z z' : List Tk} {c p : Nat} (hj : needK j = false) (hx : j = 2 ∨ j = 3 → 1 ≤ x) (hz : ∃ w p, z = w ++ [endT p]) (hu : u ≠ []) (h : PJ f j x [] (u ++ z) d = some (.error (c, p))) (hp : ∀ t ∈ z, ¬ t.p = p) :
    PJ f j x [] (u ++ z') d = some (.error (c, p)) := by
  have hr := (rel_all (smS z z' hz) f).1 true j x [] [] (u ++ z) (u ++ z') d d ⟨(fun e => by rw [hj] at e; cases e), hx, (fun e => by cases e)⟩ (fun _ => rfl) ⟨u, hu, rfl, rfl⟩ ⟨Nat.le_refl _, fun _ => rfl⟩
  rw [h] at hr
  rcases hr with ⟨t, ht, e⟩ | e | ⟨p', e, rfl⟩
  · exact absurd e (hp t ht)
  · cases e
  · exact e

def keyT (t : Tk) : Nat × List UInt8 × Nat := (t.k, t.t, t.n)
theorem key_hd {l l' : List Tk} (h : l.map keyT = l'.map keyT) : (hdT l).k = (hdT l').k ∧ (hdT l).t = (hdT l').t ∧ (hdT l).n = (hdT l').n := by
  cases l with
  | nil =>
    cases l' with
    | nil => exact ⟨rfl, rfl, rfl⟩
    | cons a r => cases h
  | cons a r =>
    cases l' with
    | nil => cases h
    | cons a' r' =>
      simp only [List.map_cons, List.cons.injEq, keyT, Prod.mk.injEq] at h
      exact h.1
theorem key_tl {l l' : List Tk} (h : l.map keyT = l'.map keyT) : l.tail.map keyT = l'.tail.map keyT := by rw [List.map_tail, List.map_tail, h]

/-- places make no difference -/
def smB : Sm where
  lv := fun l l' => l.map keyT = l'.map keyT
  dd := fun _ => False
  dp := fun _ => False
  pe := fun _ _ => True
  sl := false
  hd := fun h => .inl (key_hd h)
  hp := fun _ => trivial
  tl := fun h _ => .inl (key_tl h)
  dt := fun h _ => h
  dh := fun h => h

theorem blanks {f j x d : Nat} {l l' : List Tk} (hj : needK j = false) (hx : j = 2 ∨ j = 3 → 1 ≤ x) (h : l.map keyT = l'.map keyT) : (∀ c p, PJ f j x [] l d = some (.error (c, p)) → ∃ p', PJ f j x [] l' d = some (.error (c, p'))) ∧
    (∀ ns l1, PJ f j x [] l d = some (.ok (ns, l1)) → ∃ ns' l1', PJ f j x [] l' d = some (.ok (ns', l1')) ∧ npL ns = npL ns' ∧ l1.map keyT = l1'.map keyT) := by
  have hr := (rel_all smB f).1 true j x [] [] l l' d d ⟨(fun e => by rw [hj] at e; cases e), hx, (fun e => by cases e)⟩ (fun _ => rfl) h ⟨Nat.le_refl _, fun _ => rfl⟩
  refine ⟨fun c p e => ?_, fun ns l1 e => ?_⟩
  · rw [e] at hr
    rcases hr with e | e | ⟨p', e, _⟩
    · cases e
    · cases e
    · exact ⟨p', e⟩
  · rw [e] at hr
    rcases hr with e | e | ⟨e, _⟩
    · cases e
    · exact e
    · cases e

/-- an expression within a function -/
def smW (p : Nat) (z' : List Tk) (hz : z' ≠ []) (hk : ((hdT z').k = 0 ∧ (hdT z').t = [] ∧ (hdT z').n = 0) ∨ ((hdT z').k = 5 ∧ (hdT z').t = [59])) : Sm where
  lv := fun l l' => ∃ us us', l = us ++ [endT p] ∧ l' = us' ++ z' ∧ us.map keyT = us'.map keyT ∧ ∀ t ∈ us, 1 ≤ t.k
  dd := fun _ => False
  dp := fun _ => False
  pe := fun _ _ => True
  sl := true
  hd := by
    rintro l l' ⟨us, us', rfl, rfl, h, _⟩
    cases us with
    | nil =>
      cases us' with
      | nil =>
        rcases hk with ⟨h1, h2, h3⟩ | ⟨h1, h2⟩
        · exact .inl ⟨h1.symm, h2.symm, h3.symm⟩
        · exact .inr ⟨rfl, rfl, h1, h2⟩
      | cons a r => cases h
    | cons a r =>
      cases us' with
      | nil => cases h
      | cons a' r' => exact .inl (key_hd (l := a :: r) (l' := a' :: r') h)
  hp := fun _ => trivial
  tl := by
    rintro l l' ⟨us, us', rfl, rfl, h, hu⟩ h0
    cases us with
    | nil => exact absurd rfl h0
    | cons a r =>
      cases us' with
      | nil => cases h
      | cons a' r' => exact .inl ⟨r, r', rfl, rfl, key_tl h, fun t ht => hu t (List.mem_cons_of_mem _ ht)⟩
  dt := fun h _ => h
  dh := fun h => h

theorem within_fn {f d d' p : Nat} {us us' z' : List Tk} {ns : List Nd} {l1 : List Tk} (hz : z' ≠ []) (hk : ((hdT z').k = 0 ∧ (hdT z').t = [] ∧ (hdT z').n = 0) ∨ ((hdT z').k = 5 ∧ (hdT z').t = [59])) (hu : us.map keyT = us'.map keyT) (h1 : ∀ t ∈ us, 1 ≤ t.k) (hd : d ≤ d')
    (h : PJ f 0 0 [] (us ++ [endT p]) d = some (.ok (ns, l1))) (h0 : (hdT l1).k = 0) : (∃ ns', PJ f 0 0 [] (us' ++ z') d' = some (.ok (ns', z')) ∧ npL ns = npL ns') ∨ ∃ q, PJ f 0 0 [] (us' ++ z') d' = some (.error (171, q)) := by
  have hr := (rel_all (smW p z' hz hk) f).1 true 0 0 [] [] (us ++ [endT p]) (us' ++ z') d d' ⟨(fun e => by cases e), (by decide), fun _ => rfl⟩ (fun _ => rfl) ⟨us, us', rfl, rfl, hu, h1⟩ ⟨hd, fun e => by cases e⟩
  rw [h] at hr
  rcases hr with e | ⟨ns', l', e, hn, vs, vs', rfl, rfl, hv, h2⟩ | ⟨_, q, e⟩
  · cases e
  · refine .inl ⟨ns', ?_, hn⟩
    cases vs with
    | nil =>
      cases vs' with
      | nil => exact e
      | cons a r => cases hv
    | cons a r =>
      have h3 := h2 a (List.mem_cons_self ..)
      have h4 : a.k = 0 := h0
      omega
  · exact .inr ⟨q, e⟩
end Go.Proofs.YtgalfhlclmkbfaaDoor
