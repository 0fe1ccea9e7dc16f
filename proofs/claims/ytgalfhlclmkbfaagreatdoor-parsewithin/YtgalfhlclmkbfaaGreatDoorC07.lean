/-
  Whole numbers as a source says them; no conditions.
-/
import Derived.Test.YtgalfhlclmkbfaaGreatDoorC00
import Derived.Lib.ItoaNum
import Derived.Lib.ParseIntB
set_option linter.unusedVariables false
set_option linter.unusedSimpArgs false
namespace Go.Proofs.YtgalfhlclmkbfaaGreatDoor
set_option linter.unusedVariables false
set_option linter.unusedSimpArgs false

def valF (a : Nat) (w : List UInt8) : Nat := w.foldl (fun n c => 10 * n + (c.toNat - 48)) a
theorem valF_nil (a : Nat) : valF a [] = a := rfl
theorem valF_cons (a : Nat) (c : UInt8) (r : List UInt8) : valF a (c :: r) = valF (10 * a + (c.toNat - 48)) r := by unfold valF; rw [List.foldl_cons]
theorem valF_one (a : Nat) (w : List UInt8) (c : UInt8) : valF a (w ++ [c]) = 10 * valF a w + (c.toNat - 48) := by unfold valF; rw [List.foldl_append, List.foldl_cons, List.foldl_nil]
theorem valD_F (w : List UInt8) : valD w = valF 0 w := rfl

theorem valF_ge : ∀ (w : List UInt8) (a : Nat), a ≤ valF a w
  | [], a => Nat.le_refl _
  | c :: r, a => by
    rw [valF_cons]
    have := valF_ge r (10 * a + (c.toNat - 48))
    omega

theorem dig_range {c : UInt8} (h : lxDig c = true) : 48 ≤ c.toNat ∧ c.toNat ≤ 57 := of_decide_eq_true h
theorem dig_not {c : UInt8} (h : lxDig c = false) : ¬ (48 ≤ c.toNat ∧ c.toNat ≤ 57) := of_decide_eq_false h

theorem parse_ok : ∀ (w : List UInt8) (a u : Nat), Lib.parseUintM 18446744073709551615 a w = .ok u → w.all lxDig = true ∧ u = valF a w
  | [], a, u, h => by
    simp only [Lib.parseUintM] at h
    injection h with h
    exact ⟨rfl, by rw [valF_nil, h]⟩
  | c :: r, a, u, h => by
    simp only [Lib.parseUintM] at h
    split at h
    · rename_i hc
      split at h
      · cases h
      · split at h
        · cases h
        · have ih := parse_ok r _ u h
          refine ⟨?_, ?_⟩
          · rw [List.all_cons, ih.1]
            have : lxDig c = true := decide_eq_true hc
            rw [this]
            rfl
          · rw [valF_cons, ih.2, Nat.mul_comm]
    · cases h

theorem parse_is : ∀ (w : List UInt8) (a : Nat), w.all lxDig = true → valF a w ≤ 9223372036854775807 → Lib.parseUintM 18446744073709551615 a w = .ok (valF a w)
  | [], a, _, _ => rfl
  | c :: r, a, h, hv => by
    rw [List.all_cons, Bool.and_eq_true] at h
    have hc := dig_range h.1
    rw [valF_cons] at hv
    have h2 := valF_ge r (10 * a + (c.toNat - 48))
    simp only [Lib.parseUintM]
    rw [if_pos hc, if_neg (by omega), if_neg (by omega), Nat.mul_comm a 10, parse_is r _ h.2 hv, valF_cons]

theorem parseB_dig {c : UInt8} {r : List UInt8} (hc : lxDig c = true) : Lib.parseIntB 64 (c :: r) = match Lib.parseUintM 18446744073709551615 0 (c :: r) with
    | .syntax => .syntax
    | .range => .range
    | .ok u => if 9223372036854775808 ≤ u then .range else .ok (u : Int) := by
  have h := dig_range hc
  have n1 : ¬ (c.toNat = 43 ∨ c.toNat = 45) := by omega
  have n2 : ¬ c.toNat = 45 := by omega
  have e1 : (if c.toNat = 43 ∨ c.toNat = 45 then r else c :: r) = c :: r := if_neg n1
  have e2 : Lib.parseUintB 64 (c :: r) = Lib.parseUintM 18446744073709551615 0 (c :: r) := by
    unfold Lib.parseUintB
    rw [if_neg (by simp)]
  unfold Lib.parseIntB
  simp only [e1, e2]
  cases Lib.parseUintM 18446744073709551615 0 (c :: r) with
  | «syntax» => rfl
  | range => rfl
  | ok u => simp only [n2, not_false_eq_true, true_and, false_and, if_false]

theorem dec_lt {n : Nat} (h : n < 10) : Lib.decDigits n = [UInt8.ofNat (48 + n)] := Lib.decDigits_one h
theorem dec_ge {n : Nat} (h : ¬ n < 10) : Lib.decDigits n = Lib.decDigits (n / 10) ++ [UInt8.ofNat (48 + n % 10)] := by rw [Lib.decDigits, dif_neg h]

theorem of_dig {c : UInt8} (h : lxDig c = true) : UInt8.ofNat (48 + (c.toNat - 48)) = c := by
  have := dig_range h
  rw [show 48 + (c.toNat - 48) = c.toNat by omega]
  simp

theorem dig_of (n : Nat) (h : n < 10) : lxDig (UInt8.ofNat (48 + n)) = true ∧ (UInt8.ofNat (48 + n)).toNat = 48 + n := by
  have e : (UInt8.ofNat (48 + n)).toNat = 48 + n := by
    rw [UInt8.toNat_ofNat']
    omega
  refine ⟨?_, e⟩
  unfold lxDig
  rw [e]
  exact decide_eq_true (by omega)

/-- the digits of a number: digits, its value, no nought ahead -/
theorem dec_all (n : Nat) : (Lib.decDigits n).all lxDig = true ∧ valD (Lib.decDigits n) = n ∧ ((Lib.decDigits n).length ≤ 1 ∨ (Lib.decDigits n).head? ≠ some 48) ∧ Lib.decDigits n ≠ [] ∧ (1 ≤ n → (Lib.decDigits n).head? ≠ some 48) := by
  induction n using Nat.strongRecOn with
  | _ n ih =>
    by_cases h : n < 10
    · rw [dec_lt h]
      have h1 := dig_of n h
      refine ⟨by rw [List.all_cons, List.all_nil, h1.1]; rfl, ?_, Or.inl (by simp), by simp, fun h2 => ?_⟩
      · rw [valD_F, valF_cons, valF_nil, h1.2]; omega
      · simp only [List.head?_cons, ne_eq, Option.some.injEq]
        intro e
        have h3 := congrArg UInt8.toNat e
        rw [h1.2] at h3
        have h4 : (48 : UInt8).toNat = 48 := rfl
        omega
    · have ihx := ih (n / 10) (by omega)
      have h1 := dig_of (n % 10) (by omega)
      rw [dec_ge h]
      have hd : (Lib.decDigits (n / 10) ++ [UInt8.ofNat (48 + n % 10)]).head? = (Lib.decDigits (n / 10)).head? := by
        cases hq : Lib.decDigits (n / 10) with
        | nil => exact absurd hq ihx.2.2.2.1
        | cons a b => rfl
      have hne := ihx.2.2.2.2 (by omega)
      refine ⟨by rw [List.all_append, ihx.1, List.all_cons, List.all_nil, h1.1]; rfl, ?_, Or.inr (by rw [hd]; exact hne), by simp, fun _ => by rw [hd]; exact hne⟩
      rw [valD_F, valF_one, ← valD_F, ihx.2.1, h1.2]
      omega

/-- digits without a nought ahead are their number's -/
theorem dec_val : ∀ (k : Nat) (w : List UInt8), w.length = k → w ≠ [] → w.all lxDig = true → (w.length ≤ 1 ∨ w.head? ≠ some 48) → Lib.decDigits (valD w) = w ∧ (w.head? ≠ some 48 → 1 ≤ valD w)
  | 0, w, hk, hne, _, _ => absurd (List.eq_nil_of_length_eq_zero hk) hne
  | 1, w, hk, hne, ha, _ => by
    match w, hk with
    | [c], _ =>
      have hc : lxDig c = true := by simpa using ha
      have hr := dig_range hc
      have hv : valD [c] = c.toNat - 48 := by rw [valD_F, valF_cons, valF_nil]; omega
      rw [hv, dec_lt (by omega), of_dig hc]
      refine ⟨rfl, fun h => ?_⟩
      simp only [List.head?_cons, ne_eq, Option.some.injEq] at h
      rcases Nat.lt_or_ge 48 c.toNat with g | g
      · omega
      · exact absurd (UInt8.toNat_inj.1 (show c.toNat = (48 : UInt8).toNat by show c.toNat = 48; omega)) h
  | k + 2, w, hk, hne, ha, hz => by
    obtain ⟨v, c, rfl⟩ : ∃ v c, w = v ++ [c] := ⟨w.dropLast, w.getLast hne, (List.dropLast_concat_getLast hne).symm⟩
    have hl : v.length = k + 1 := by simpa using hk
    have hv0 : v ≠ [] := by intro e; rw [e] at hl; simp at hl
    rw [List.all_append, Bool.and_eq_true] at ha
    have hc : lxDig c = true := by simpa using ha.2
    have hr := dig_range hc
    have hd : (v ++ [c]).head? = v.head? := by
      cases v with
      | nil => exact absurd rfl hv0
      | cons a b => rfl
    have hz' : v.head? ≠ some 48 := by
      rcases hz with h | h
      · rw [List.length_append] at h; simp only [List.length_cons, List.length_nil] at h; omega
      · rwa [hd] at h
    have ih := dec_val (k + 1) v hl hv0 ha.1 (Or.inr hz')
    have h1 := ih.2 hz'
    have he : valD (v ++ [c]) = 10 * valD v + (c.toNat - 48) := by rw [valD_F, valF_one]; rfl
    rw [he, dec_ge (by omega), show (10 * valD v + (c.toNat - 48)) / 10 = valD v by omega, show (10 * valD v + (c.toNat - 48)) % 10 = c.toNat - 48 by omega, ih.1, of_dig hc]
    exact ⟨rfl, fun _ => by omega⟩

theorem intV_dec (n : Nat) (h : n ≤ 9223372036854775807) : intV (Lib.decDigits n) = some n := by
  have hd := dec_all n
  unfold intV
  rw [if_pos ⟨hd.1, hd.2.2.1, by rw [hd.2.1]; exact h⟩, hd.2.1]

/-- what ParseInt and FormatInt say of a word that begins with a digit -/
theorem int_ok {c : UInt8} {r : List UInt8} {v : Int} (hc : lxDig c = true) (h : Lib.parseIntB 64 (c :: r) = .ok v) :
    0 ≤ v ∧ v ≤ 9223372036854775807 ∧ (Lib.itoa v = c :: r → intV (c :: r) = some v.toNat) ∧ (Lib.itoa v ≠ c :: r → intV (c :: r) = none) := by
  rw [parseB_dig hc] at h
  cases hp : Lib.parseUintM 18446744073709551615 0 (c :: r) with
  | «syntax» => rw [hp] at h; cases h
  | range => rw [hp] at h; cases h
  | ok u =>
    rw [hp] at h
    simp only at h
    split at h
    · cases h
    · rename_i hu
      injection h with h
      subst h
      have hk := parse_ok _ _ _ hp
      have hi : Lib.itoa (u : Int) = Lib.decDigits u := by
        unfold Lib.itoa
        rw [if_neg (by omega)]
        rfl
      rw [hi]
      have hv : valD (c :: r) = u := hk.2.symm
      refine ⟨by omega, by omega, fun e => ?_, fun e => ?_⟩
      · rw [← e, intV_dec u (by omega)]
        rfl
      · unfold intV
        rw [if_neg]
        rintro ⟨h1, h2, h3⟩
        exact e (by rw [← hv]; exact (dec_val _ (c :: r) rfl (by simp) h1 h2).1)

theorem int_bad {c : UInt8} {r : List UInt8} (hc : lxDig c = true) (h : ∀ v, Lib.parseIntB 64 (c :: r) ≠ .ok v) : intV (c :: r) = none := by
  unfold intV
  rw [if_neg]
  rintro ⟨h1, h2, h3⟩
  refine h (valD (c :: r) : Int) ?_
  rw [parseB_dig hc, parse_is _ 0 h1 h3]
  simp only
  rw [if_neg (by have := h3; rw [valD_F] at this; omega)]
  rfl

theorem valF_big : ∀ (w : List UInt8) (a : Nat), w.all lxDig = true → a * 10 ^ w.length ≤ valF a w
  | [], a, _ => by simp [valF_nil]
  | c :: r, a, h => by
    rw [List.all_cons, Bool.and_eq_true] at h
    have ih := valF_big r (10 * a + (c.toNat - 48)) h.2
    rw [valF_cons, List.length_cons, Nat.pow_succ]
    refine Nat.le_trans ?_ ih
    rw [show a * (10 ^ r.length * 10) = 10 * a * 10 ^ r.length by rw [Nat.mul_comm (10 ^ r.length) 10, ← Nat.mul_assoc, Nat.mul_comm a 10]]
    exact Nat.mul_le_mul_right _ (by omega)

theorem valF_small : ∀ (w : List UInt8) (a : Nat), w.all lxDig = true → valF a w < (a + 1) * 10 ^ w.length
  | [], a, _ => by simp [valF_nil]
  | c :: r, a, h => by
    rw [List.all_cons, Bool.and_eq_true] at h
    have hr := dig_range h.1
    have ih := valF_small r (10 * a + (c.toNat - 48)) h.2
    rw [valF_cons, List.length_cons, Nat.pow_succ]
    refine Nat.lt_of_lt_of_le ih ?_
    rw [show (a + 1) * (10 ^ r.length * 10) = (a + 1) * 10 * 10 ^ r.length by rw [Nat.mul_comm (10 ^ r.length) 10, ← Nat.mul_assoc]]
    exact Nat.mul_le_mul_right _ (by omega)

/-- more than nineteen digits without a nought ahead are too many -/
theorem int_long {c : UInt8} {r : List UInt8} (h : 19 < (c :: r).length) : intV (c :: r) = none := by
  unfold intV
  rw [if_neg]
  rintro ⟨h1, h2, h3⟩
  have hne : (c :: r).head? ≠ some 48 := by
    rcases h2 with h2 | h2
    · omega
    · exact h2
  rw [List.all_cons, Bool.and_eq_true] at h1
  have hr := dig_range h1.1
  have hc : 1 ≤ c.toNat - 48 := by
    rcases Nat.lt_or_ge 48 c.toNat with g | g
    · omega
    · exact absurd (by rw [List.head?_cons, UInt8.toNat_inj.1 (show c.toNat = (48 : UInt8).toNat by show c.toNat = 48; omega)]) hne
  rw [valD_F, valF_cons] at h3
  have hb := valF_big r (10 * 0 + (c.toNat - 48)) h1.2
  have hp : 10 ^ 19 ≤ 10 ^ r.length := Nat.pow_le_pow_right (by omega) (by rw [List.length_cons] at h; omega)
  have hm : 1 * 10 ^ 19 ≤ (10 * 0 + (c.toNat - 48)) * 10 ^ r.length := Nat.mul_le_mul (by omega) hp
  omega
end Go.Proofs.YtgalfhlclmkbfaaGreatDoor
