/-
  Layer 17 (parse): what stands behind a token that is refused makes no difference; places make none; an expression within a function is read as it is alone; plain lists, no conditions.
  Bytes as a source says them; no conditions.
  Whole numbers as a source says them; no conditions.
-/
import Derived.Test.YtgalfhlclmkbfaaDoorB03
import Derived.Test.YtgalfhlclmkbfaaDoorB00
import Derived.Lib.ItoaNum
import Derived.Lib.ParseIntB
set_option linter.unusedVariables false
set_option linter.unusedSimpArgs false
namespace Go.Proofs.YtgalfhlclmkbfaaDoor
set_option linter.unusedVariables false
set_option linter.unusedSimpArgs false

/-- behind a token that is refused there may stand anything -/
def smS (z z' : List Tk) (hz : ∃ w p, z = w ++ [endT p]) : Sm where
  lv := fun l l' => ∃ u, u ≠ [] ∧ l = u ++ z ∧ l' = u ++ z'
  dd := fun l => l ≠ [] ∧ ∃ v, z = v ++ l
  dp := fun p => ∃ t ∈ z, t.p = p
  pe := fun p p' => p = p'
  sl := false
  hd := by
    rintro l l' ⟨u, hu, rfl, rfl⟩
    cases u with
    | nil => exact absurd rfl hu
    | cons a u => exact .inl ⟨rfl, rfl, rfl⟩
  hp := by
    rintro l l' ⟨u, hu, rfl, rfl⟩
    cases u with
    | nil => exact absurd rfl hu
    | cons a u => rfl
  tl := by
    rintro l l' ⟨u, hu, rfl, rfl⟩ hk
    cases u with
    | nil => exact absurd rfl hu
    | cons a u =>
      by_cases h1 : u = []
      · subst h1
        refine .inr ⟨?_, [], rfl⟩
        obtain ⟨w, p, rfl⟩ := hz
        simp
      · exact .inl ⟨u, h1, rfl, rfl⟩
  dt := by
    rintro l ⟨hl, v, hv⟩ hk
    cases l with
    | nil => exact absurd rfl hl
    | cons a r =>
      refine ⟨fun e => ?_, v ++ [a], by rw [hv]; simp⟩
      obtain ⟨w, p, rfl⟩ := hz
      simp only [List.tail_cons] at e
      subst e
      have h2 := congrArg List.getLast? hv
      simp at h2
      subst h2
      exact hk rfl
  dh := by
    rintro l ⟨hl, v, rfl⟩
    cases l with
    | nil => exact absurd rfl hl
    | cons a r => exact ⟨a, by simp, rfl⟩

theorem stops {f j x d : Nat} {u z z' : List Tk} {c p : Nat} (hj : needK j = false) (hx : j = 2 ∨ j = 3 → 1 ≤ x) (hz : ∃ w p, z = w ++ [endT p]) (hu : u ≠ []) (h : PJ f j x [] (u ++ z) d = some (.error (c, p))) (hp : ∀ t ∈ z, ¬ t.p = p) :
    PJ f j x [] (u ++ z') d = some (.error (c, p)) := by
  have hr := (rel_all (smS z z' hz) f).1 true j x [] [] (u ++ z) (u ++ z') d d ⟨(fun e => by rw [hj] at e; cases e), hx, (fun e => by cases e)⟩ (fun _ => rfl) ⟨u, hu, rfl, rfl⟩ ⟨Nat.le_refl _, fun _ => rfl⟩
  rw [h] at hr
  rcases hr with ⟨t, ht, e⟩ | e | ⟨p', e, rfl⟩
  · exact absurd e (hp t ht)
  · cases e
  · exact e

def keyT (t : Tk) : Nat × List UInt8 × Nat := (t.k, t.t, t.n)
theorem key_hd {l l' : List Tk} (h : l.map keyT = l'.map keyT) : (hdT l).k = (hdT l').k ∧ (hdT l).t = (hdT l').t ∧ (hdT l).n = (hdT l').n := by
  cases l with
  | nil =>
    cases l' with
    | nil => exact ⟨rfl, rfl, rfl⟩
    | cons a r => cases h
  | cons a r =>
    cases l' with
    | nil => cases h
    | cons a' r' =>
      simp only [List.map_cons, List.cons.injEq, keyT, Prod.mk.injEq] at h
      exact h.1
theorem key_tl {l l' : List Tk} (h : l.map keyT = l'.map keyT) : l.tail.map keyT = l'.tail.map keyT := by rw [List.map_tail, List.map_tail, h]

/-- places make no difference -/
def smB : Sm where
  lv := fun l l' => l.map keyT = l'.map keyT
  dd := fun _ => False
  dp := fun _ => False
  pe := fun _ _ => True
  sl := false
  hd := fun h => .inl (key_hd h)
  hp := fun _ => trivial
  tl := fun h _ => .inl (key_tl h)
  dt := fun h _ => h
  dh := fun h => h

theorem blanks {f j x d : Nat} {l l' : List Tk} (hj : needK j = false) (hx : j = 2 ∨ j = 3 → 1 ≤ x) (h : l.map keyT = l'.map keyT) : (∀ c p, PJ f j x [] l d = some (.error (c, p)) → ∃ p', PJ f j x [] l' d = some (.error (c, p'))) ∧
    (∀ ns l1, PJ f j x [] l d = some (.ok (ns, l1)) → ∃ ns' l1', PJ f j x [] l' d = some (.ok (ns', l1')) ∧ npL ns = npL ns' ∧ l1.map keyT = l1'.map keyT) := by
  have hr := (rel_all smB f).1 true j x [] [] l l' d d ⟨(fun e => by rw [hj] at e; cases e), hx, (fun e => by cases e)⟩ (fun _ => rfl) h ⟨Nat.le_refl _, fun _ => rfl⟩
  refine ⟨fun c p e => ?_, fun ns l1 e => ?_⟩
  · rw [e] at hr
    rcases hr with e | e | ⟨p', e, _⟩
    · cases e
    · cases e
    · exact ⟨p', e⟩
  · rw [e] at hr
    rcases hr with e | e | ⟨e, _⟩
    · cases e
    · exact e
    · cases e

/-- an expression within a function -/
def smW (p : Nat) (z' : List Tk) (hz : z' ≠ []) (hk : ((hdT z').k = 0 ∧ (hdT z').t = [] ∧ (hdT z').n = 0) ∨ ((hdT z').k = 5 ∧ (hdT z').t = [59])) : Sm where
  lv := fun l l' => ∃ us us', l = us ++ [endT p] ∧ l' = us' ++ z' ∧ us.map keyT = us'.map keyT ∧ ∀ t ∈ us, 1 ≤ t.k
  dd := fun _ => False
  dp := fun _ => False
  pe := fun _ _ => True
  sl := true
  hd := by
    rintro l l' ⟨us, us', rfl, rfl, h, _⟩
    cases us with
    | nil =>
      cases us' with
      | nil =>
        rcases hk with ⟨h1, h2, h3⟩ | ⟨h1, h2⟩
        · exact .inl ⟨h1.symm, h2.symm, h3.symm⟩
        · exact .inr ⟨rfl, rfl, h1, h2⟩
      | cons a r => cases h
    | cons a r =>
      cases us' with
      | nil => cases h
      | cons a' r' => exact .inl (key_hd (l := a :: r) (l' := a' :: r') h)
  hp := fun _ => trivial
  tl := by
    rintro l l' ⟨us, us', rfl, rfl, h, hu⟩ h0
    cases us with
    | nil => exact absurd rfl h0
    | cons a r =>
      cases us' with
      | nil => cases h
      | cons a' r' => exact .inl ⟨r, r', rfl, rfl, key_tl h, fun t ht => hu t (List.mem_cons_of_mem _ ht)⟩
  dt := fun h _ => h
  dh := fun h => h

theorem within_fn {f d d' p : Nat} {us us' z' : List Tk} {ns : List Nd} {l1 : List Tk} (hz : z' ≠ []) (hk : ((hdT z').k = 0 ∧ (hdT z').t = [] ∧ (hdT z').n = 0) ∨ ((hdT z').k = 5 ∧ (hdT z').t = [59])) (hu : us.map keyT = us'.map keyT) (h1 : ∀ t ∈ us, 1 ≤ t.k) (hd : d ≤ d')
    (h : PJ f 0 0 [] (us ++ [endT p]) d = some (.ok (ns, l1))) (h0 : (hdT l1).k = 0) : (∃ ns', PJ f 0 0 [] (us' ++ z') d' = some (.ok (ns', z')) ∧ npL ns = npL ns') ∨ ∃ q, PJ f 0 0 [] (us' ++ z') d' = some (.error (171, q)) := by
  have hr := (rel_all (smW p z' hz hk) f).1 true 0 0 [] [] (us ++ [endT p]) (us' ++ z') d d' ⟨(fun e => by cases e), (by decide), fun _ => rfl⟩ (fun _ => rfl) ⟨us, us', rfl, rfl, hu, h1⟩ ⟨hd, fun e => by cases e⟩
  rw [h] at hr
  rcases hr with e | ⟨ns', l', e, hn, vs, vs', rfl, rfl, hv, h2⟩ | ⟨_, q, e⟩
  · cases e
  · refine .inl ⟨ns', ?_, hn⟩
    cases vs with
    | nil =>
      cases vs' with
      | nil => exact e
      | cons a r => cases hv
    | cons a r =>
      have h3 := h2 a (List.mem_cons_self ..)
      have h4 : a.k = 0 := h0
      omega
  · exact .inr ⟨q, e⟩
end Go.Proofs.YtgalfhlclmkbfaaDoor

namespace Go.Proofs.YtgalfhlclmkbfaaDoor
set_option linter.unusedVariables false
set_option linter.unusedSimpArgs false

def hx (n : Nat) : UInt8 := if n < 10 then UInt8.ofNat (48 + n) else UInt8.ofNat (87 + n)
/-- a byte, as a source says it -/
def qB (c : UInt8) : List UInt8 := if c.toNat = 34 ∨ c.toNat = 92 then [92, c] else if 32 ≤ c.toNat ∧ c.toNat ≤ 126 then [c] else [92, 120, hx (c.toNat / 16), hx (c.toNat % 16)]
/-- bytes, as a source says them -/
def quoB (l : List UInt8) : List UInt8 := 34 :: l.flatMap qB ++ [34]

theorem qB_num (c : UInt8) (h : c.toNat < 32 ∨ 126 < c.toNat) : qB c = [92, 120, hx (c.toNat / 16), hx (c.toNat % 16)] := by
  unfold qB
  rw [if_neg (by omega), if_neg (by omega)]
theorem qB_esc (c : UInt8) (h : c.toNat = 34 ∨ c.toNat = 92) : qB c = [92, c] := by
  unfold qB
  rw [if_pos (by omega)]
theorem qB_own (c : UInt8) (h0 : 32 ≤ c.toNat) (h1 : c.toNat ≤ 126) (h2 : c.toNat ≠ 34) (h3 : c.toNat ≠ 92) : qB c = [c] := by
  unfold qB
  rw [if_neg (by omega), if_pos (by omega)]

theorem qB_len (c : UInt8) : (qB c).length ≤ 4 ∧ 1 ≤ (qB c).length := by
  unfold qB
  split
  · simp
  · split <;> simp

theorem flatB_len (l : List UInt8) : (l.flatMap qB).length ≤ 4 * l.length := by
  induction l with
  | nil => exact Nat.le_refl _
  | cons c l ih =>
    rw [List.flatMap_cons, List.length_append, List.length_cons]
    have := qB_len c
    omega

theorem flatB_next (s : ByteArray) (i : Nat) (h : i < s.size) : (s.data.toList.take (i + 1)).flatMap qB = (s.data.toList.take i).flatMap qB ++ qB (s[i]'h) := by
  have e : s.data.toList[i]? = some (s[i]'h) := by rw [Array.getElem?_toList]; exact Array.getElem?_eq_getElem h
  rw [List.take_add_one, e, List.flatMap_append]
  simp

def hexB : ByteArray := ⟨#[48, 49, 50, 51, 52, 53, 54, 55, 56, 57, 97, 98, 99, 100, 101, 102]⟩
theorem hexB_fin : ∀ d : Fin 16, hexB[d.val]'(by have := d.isLt; show d.val < 16; omega) = hx d.val := by decide +kernel
theorem hexB_at (k : Nat) (h : k < 16) (hh : k < hexB.size) : hexB[k]'hh = hx k := hexB_fin ⟨k, h⟩
theorem hexV_hx : ∀ d : Fin 16, hexV (hx d.val) = some d.val := by decide +kernel
end Go.Proofs.YtgalfhlclmkbfaaDoor

namespace Go.Proofs.YtgalfhlclmkbfaaDoor
set_option linter.unusedVariables false
set_option linter.unusedSimpArgs false

def valF (a : Nat) (w : List UInt8) : Nat := w.foldl (fun n c => 10 * n + (c.toNat - 48)) a
theorem valF_nil (a : Nat) : valF a [] = a := rfl
theorem valF_cons (a : Nat) (c : UInt8) (r : List UInt8) : valF a (c :: r) = valF (10 * a + (c.toNat - 48)) r := by unfold valF; rw [List.foldl_cons]
theorem valF_one (a : Nat) (w : List UInt8) (c : UInt8) : valF a (w ++ [c]) = 10 * valF a w + (c.toNat - 48) := by unfold valF; rw [List.foldl_append, List.foldl_cons, List.foldl_nil]
theorem valD_F (w : List UInt8) : valD w = valF 0 w := rfl

theorem valF_ge : ∀ (w : List UInt8) (a : Nat), a ≤ valF a w
  | [], a => Nat.le_refl _
  | c :: r, a => by
    rw [valF_cons]
    have := valF_ge r (10 * a + (c.toNat - 48))
    omega

theorem dig_range {c : UInt8} (h : lxDig c = true) : 48 ≤ c.toNat ∧ c.toNat ≤ 57 := of_decide_eq_true h
theorem dig_not {c : UInt8} (h : lxDig c = false) : ¬ (48 ≤ c.toNat ∧ c.toNat ≤ 57) := of_decide_eq_false h

theorem parse_ok : ∀ (w : List UInt8) (a u : Nat), Lib.parseUintM 18446744073709551615 a w = .ok u → w.all lxDig = true ∧ u = valF a w
  | [], a, u, h => by
    simp only [Lib.parseUintM] at h
    injection h with h
    exact ⟨rfl, by rw [valF_nil, h]⟩
  | c :: r, a, u, h => by
    simp only [Lib.parseUintM] at h
    split at h
    · rename_i hc
      split at h
      · cases h
      · split at h
        · cases h
        · have ih := parse_ok r _ u h
          refine ⟨?_, ?_⟩
          · rw [List.all_cons, ih.1]
            have : lxDig c = true := decide_eq_true hc
            rw [this]
            rfl
          · rw [valF_cons, ih.2, Nat.mul_comm]
    · cases h

theorem parse_is : ∀ (w : List UInt8) (a : Nat), w.all lxDig = true → valF a w ≤ 9223372036854775807 → Lib.parseUintM 18446744073709551615 a w = .ok (valF a w)
  | [], a, _, _ => rfl
  | c :: r, a, h, hv => by
    rw [List.all_cons, Bool.and_eq_true] at h
    have hc := dig_range h.1
    rw [valF_cons] at hv
    have h2 := valF_ge r (10 * a + (c.toNat - 48))
    simp only [Lib.parseUintM]
    rw [if_pos hc, if_neg (by omega), if_neg (by omega), Nat.mul_comm a 10, parse_is r _ h.2 hv, valF_cons]

theorem parseB_dig {c : UInt8} {r : List UInt8} (hc : lxDig c = true) : Lib.parseIntB 64 (c :: r) = match Lib.parseUintM 18446744073709551615 0 (c :: r) with
    | .syntax => .syntax
    | .range => .range
    | .ok u => if 9223372036854775808 ≤ u then .range else .ok (u : Int) := by
  have h := dig_range hc
  have n1 : ¬ (c.toNat = 43 ∨ c.toNat = 45) := by omega
  have n2 : ¬ c.toNat = 45 := by omega
  have e1 : (if c.toNat = 43 ∨ c.toNat = 45 then r else c :: r) = c :: r := if_neg n1
  have e2 : Lib.parseUintB 64 (c :: r) = Lib.parseUintM 18446744073709551615 0 (c :: r) := by
    unfold Lib.parseUintB
    rw [if_neg (by simp)]
  unfold Lib.parseIntB
  simp only [e1, e2]
  cases Lib.parseUintM 18446744073709551615 0 (c :: r) with
  | «syntax» => rfl
  | range => rfl
  | ok u => simp only [n2, not_false_eq_true, true_and, false_and, if_false]

theorem dec_lt {n : Nat} (h : n < 10) : Lib.decDigits n = [UInt8.ofNat (48 + n)] := Lib.decDigits_one h
theorem dec_ge {n : Nat} (h : ¬ n < 10) : Lib.decDigits n = Lib.decDigits (n / 10) ++ [UInt8.ofNat (48 + n % 10)] := by rw [Lib.decDigits, dif_neg h]

theorem of_dig {c : UInt8} (h : lxDig c = true) : UInt8.ofNat (48 + (c.toNat - 48)) = c := by
  have := dig_range h
  rw [show 48 + (c.toNat - 48) = c.toNat by omega]
  simp

theorem dig_of (n : Nat) (h : n < 10) : lxDig (UInt8.ofNat (48 + n)) = true ∧ (UInt8.ofNat (48 + n)).toNat = 48 + n := by
  have e : (UInt8.ofNat (48 + n)).toNat = 48 + n := by
    rw [UInt8.toNat_ofNat']
    omega
  refine ⟨?_, e⟩
  unfold lxDig
  rw [e]
  exact decide_eq_true (by omega)

/-- the digits of a number: digits, its value, no nought ahead -/
theorem dec_all (n : Nat) : (Lib.decDigits n).all lxDig = true ∧ valD (Lib.decDigits n) = n ∧ ((Lib.decDigits n).length ≤ 1 ∨ (Lib.decDigits n).head? ≠ some 48) ∧ Lib.decDigits n ≠ [] ∧ (1 ≤ n → (Lib.decDigits n).head? ≠ some 48) := by
  induction n using Nat.strongRecOn with
  | _ n ih =>
    by_cases h : n < 10
    · rw [dec_lt h]
      have h1 := dig_of n h
      refine ⟨by rw [List.all_cons, List.all_nil, h1.1]; rfl, ?_, Or.inl (by simp), by simp, fun h2 => ?_⟩
      · rw [valD_F, valF_cons, valF_nil, h1.2]; omega
      · simp only [List.head?_cons, ne_eq, Option.some.injEq]
        intro e
        have h3 := congrArg UInt8.toNat e
        rw [h1.2] at h3
        have h4 : (48 : UInt8).toNat = 48 := rfl
        omega
    · have ihx := ih (n / 10) (by omega)
      have h1 := dig_of (n % 10) (by omega)
      rw [dec_ge h]
      have hd : (Lib.decDigits (n / 10) ++ [UInt8.ofNat (48 + n % 10)]).head? = (Lib.decDigits (n / 10)).head? := by
        cases hq : Lib.decDigits (n / 10) with
        | nil => exact absurd hq ihx.2.2.2.1
        | cons a b => rfl
      have hne := ihx.2.2.2.2 (by omega)
      refine ⟨by rw [List.all_append, ihx.1, List.all_cons, List.all_nil, h1.1]; rfl, ?_, Or.inr (by rw [hd]; exact hne), by simp, fun _ => by rw [hd]; exact hne⟩
      rw [valD_F, valF_one, ← valD_F, ihx.2.1, h1.2]
      omega

/-- digits without a nought ahead are their number's -/
theorem dec_val : ∀ (k : Nat) (w : List UInt8), w.length = k → w ≠ [] → w.all lxDig = true → (w.length ≤ 1 ∨ w.head? ≠ some 48) → Lib.decDigits (valD w) = w ∧ (w.head? ≠ some 48 → 1 ≤ valD w)
  | 0, w, hk, hne, _, _ => absurd (List.eq_nil_of_length_eq_zero hk) hne
  | 1, w, hk, hne, ha, _ => by
    match w, hk with
    | [c], _ =>
      have hc : lxDig c = true := by simpa using ha
      have hr := dig_range hc
      have hv : valD [c] = c.toNat - 48 := by rw [valD_F, valF_cons, valF_nil]; omega
      rw [hv, dec_lt (by omega), of_dig hc]
      refine ⟨rfl, fun h => ?_⟩
      simp only [List.head?_cons, ne_eq, Option.some.injEq] at h
      rcases Nat.lt_or_ge 48 c.toNat with g | g
      · omega
      · exact absurd (UInt8.toNat_inj.1 (show c.toNat = (48 : UInt8).toNat by show c.toNat = 48; omega)) h
  | k + 2, w, hk, hne, ha, hz => by
    obtain ⟨v, c, rfl⟩ : ∃ v c, w = v ++ [c] := ⟨w.dropLast, w.getLast hne, (List.dropLast_concat_getLast hne).symm⟩
    have hl : v.length = k + 1 := by simpa using hk
    have hv0 : v ≠ [] := by intro e; rw [e] at hl; simp at hl
    rw [List.all_append, Bool.and_eq_true] at ha
    have hc : lxDig c = true := by simpa using ha.2
    have hr := dig_range hc
    have hd : (v ++ [c]).head? = v.head? := by
      cases v with
      | nil => exact absurd rfl hv0
      | cons a b => rfl
    have hz' : v.head? ≠ some 48 := by
      rcases hz with h | h
      · rw [List.length_append] at h; simp only [List.length_cons, List.length_nil] at h; omega
      · rwa [hd] at h
    have ih := dec_val (k + 1) v hl hv0 ha.1 (Or.inr hz')
    have h1 := ih.2 hz'
    have he : valD (v ++ [c]) = 10 * valD v + (c.toNat - 48) := by rw [valD_F, valF_one]; rfl
    rw [he, dec_ge (by omega), show (10 * valD v + (c.toNat - 48)) / 10 = valD v by omega, show (10 * valD v + (c.toNat - 48)) % 10 = c.toNat - 48 by omega, ih.1, of_dig hc]
    exact ⟨rfl, fun _ => by omega⟩

theorem intV_dec (n : Nat) (h : n ≤ 9223372036854775807) : intV (Lib.decDigits n) = some n := by
  have hd := dec_all n
  unfold intV
  rw [if_pos ⟨hd.1, hd.2.2.1, by rw [hd.2.1]; exact h⟩, hd.2.1]

/-- what ParseInt and FormatInt say of a word that begins with a digit -/
theorem int_ok {c : UInt8} {r : List UInt8} {v : Int} (hc : lxDig c = true) (h : Lib.parseIntB 64 (c :: r) = .ok v) :
    0 ≤ v ∧ v ≤ 9223372036854775807 ∧ (Lib.itoa v = c :: r → intV (c :: r) = some v.toNat) ∧ (Lib.itoa v ≠ c :: r → intV (c :: r) = none) := by
  rw [parseB_dig hc] at h
  cases hp : Lib.parseUintM 18446744073709551615 0 (c :: r) with
  | «syntax» => rw [hp] at h; cases h
  | range => rw [hp] at h; cases h
  | ok u =>
    rw [hp] at h
    simp only at h
    split at h
    · cases h
    · rename_i hu
      injection h with h
      subst h
      have hk := parse_ok _ _ _ hp
      have hi : Lib.itoa (u : Int) = Lib.decDigits u := by
        unfold Lib.itoa
        rw [if_neg (by omega)]
        rfl
      rw [hi]
      have hv : valD (c :: r) = u := hk.2.symm
      refine ⟨by omega, by omega, fun e => ?_, fun e => ?_⟩
      · rw [← e, intV_dec u (by omega)]
        rfl
      · unfold intV
        rw [if_neg]
        rintro ⟨h1, h2, h3⟩
        exact e (by rw [← hv]; exact (dec_val _ (c :: r) rfl (by simp) h1 h2).1)

theorem int_bad {c : UInt8} {r : List UInt8} (hc : lxDig c = true) (h : ∀ v, Lib.parseIntB 64 (c :: r) ≠ .ok v) : intV (c :: r) = none := by
  unfold intV
  rw [if_neg]
  rintro ⟨h1, h2, h3⟩
  refine h (valD (c :: r) : Int) ?_
  rw [parseB_dig hc, parse_is _ 0 h1 h3]
  simp only
  rw [if_neg (by have := h3; rw [valD_F] at this; omega)]
  rfl

theorem valF_big : ∀ (w : List UInt8) (a : Nat), w.all lxDig = true → a * 10 ^ w.length ≤ valF a w
  | [], a, _ => by simp [valF_nil]
  | c :: r, a, h => by
    rw [List.all_cons, Bool.and_eq_true] at h
    have ih := valF_big r (10 * a + (c.toNat - 48)) h.2
    rw [valF_cons, List.length_cons, Nat.pow_succ]
    refine Nat.le_trans ?_ ih
    rw [show a * (10 ^ r.length * 10) = 10 * a * 10 ^ r.length by rw [Nat.mul_comm (10 ^ r.length) 10, ← Nat.mul_assoc, Nat.mul_comm a 10]]
    exact Nat.mul_le_mul_right _ (by omega)

theorem valF_small : ∀ (w : List UInt8) (a : Nat), w.all lxDig = true → valF a w < (a + 1) * 10 ^ w.length
  | [], a, _ => by simp [valF_nil]
  | c :: r, a, h => by
    rw [List.all_cons, Bool.and_eq_true] at h
    have hr := dig_range h.1
    have ih := valF_small r (10 * a + (c.toNat - 48)) h.2
    rw [valF_cons, List.length_cons, Nat.pow_succ]
    refine Nat.lt_of_lt_of_le ih ?_
    rw [show (a + 1) * (10 ^ r.length * 10) = (a + 1) * 10 * 10 ^ r.length by rw [Nat.mul_comm (10 ^ r.length) 10, ← Nat.mul_assoc]]
    exact Nat.mul_le_mul_right _ (by omega)

/-- more than nineteen digits without a nought ahead are too many -/
theorem int_long {c : UInt8} {r : List UInt8} (h : 19 < (c :: r).length) : intV (c :: r) = none := by
  unfold intV
  rw [if_neg]
  rintro ⟨h1, h2, h3⟩
  have hne : (c :: r).head? ≠ some 48 := by
    rcases h2 with h2 | h2
    · omega
    · exact h2
  rw [List.all_cons, Bool.and_eq_true] at h1
  have hr := dig_range h1.1
  have hc : 1 ≤ c.toNat - 48 := by
    rcases Nat.lt_or_ge 48 c.toNat with g | g
    · omega
    · exact absurd (by rw [List.head?_cons, UInt8.toNat_inj.1 (show c.toNat = (48 : UInt8).toNat by show c.toNat = 48; omega)]) hne
  rw [valD_F, valF_cons] at h3
  have hb := valF_big r (10 * 0 + (c.toNat - 48)) h1.2
  have hp : 10 ^ 19 ≤ 10 ^ r.length := Nat.pow_le_pow_right (by omega) (by rw [List.length_cons] at h; omega)
  have hm : 1 * 10 ^ 19 ≤ (10 * 0 + (c.toNat - 48)) * 10 ^ r.length := Nat.mul_le_mul (by omega) hp
  omega
end Go.Proofs.YtgalfhlclmkbfaaDoor
