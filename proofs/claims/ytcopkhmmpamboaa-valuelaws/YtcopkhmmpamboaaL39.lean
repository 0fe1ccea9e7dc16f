/-
  value.With, Without and Get, each with one contract; conditions: the form's own reach.
-/
import Derived.Test.YtcopkhmmpamboaaL30
import Derived.Test.YtcopkhmmpamboaaL37
import Derived.Test.YtcopkhmmpamboaaL38
namespace Go.Proofs.Ytcopkhmmpamboaa
open Go.RowKit
set_option linter.unusedVariables false
set_option linter.unusedSimpArgs false

/-- what With answers -/
def withE (v : Vl) (key : ByteArray) (x : Vl) : Int := if withC v key x = 0 then (if rightB (withV v.l v.ks key x) = true then 0 else 33) else withC v key x

theorem withC_zero {v x : Vl} {key : ByteArray} (h : withC v key x = 0) : rightB v = true ∧ rightB x = true ∧ v.kind = 5 ∧ key.size ≤ 32 := by
  unfold withC at h
  split at h
  · next h1 =>
    split at h
    · next h2 =>
      split at h
      · next h3 => exact ⟨h1.1, h1.2, h2, h3⟩
      · cases h
    · cases h
  · cases h

theorem with_any (v x : Vl) (vv xx : Value) (B : Nat) (key : ByteArray) (w : World) (hv : IsV w B v vv) (hx : IsV w B x xx) (hBs : B ≤ w.heap.size) :
    Calls Try.prog 15 #[vv, .string key, xx] w fun e w' => ∃ x', e = .returned (.tuple #[x', .int .i64 (withE v key x)]) ∧ Below w.heap.size w w' ∧ (withE v key x = 0 → IsQ w' (fun b => w.heap.size ≤ b ∧ b < w'.heap.size) (withV v.l v.ks key x) x') ∧ (withE v key x ≠ 0 → x' = .agg #[.int .i64 0, .int .i64 0, .string ⟨#[]⟩, .slice none 0 0, .slice none 0 0]) := by
  by_cases h0 : withC v key x = 0
  · obtain ⟨h1, h2, h3, h4⟩ := withC_zero h0
    obtain ⟨k, n, s, l, ks, al, ak, cl, ck, rfl, rfl⟩ := hv.shape
    have h3' : k = 5 := h3
    subst h3'
    have he : withE (.mk 5 n s l ks) key x = if rightB (withV l ks key x) = true then 0 else 33 := by unfold withE; rw [if_pos h0]
    refine (with_in n s l ks al ak cl ck x xx B key w hv hx hBs h1 h2 h4).mono ?_
    rintro e w' ⟨x', rfl, b, q1, q2⟩
    rw [he]
    refine ⟨x', rfl, b, fun h => q1 ?_, fun h => q2 ?_⟩
    · cases hR : rightB (withV l ks key x) with
      | true => rfl
      | false => rw [hR] at h; simp at h
    · cases hR : rightB (withV l ks key x) with
      | true => rw [hR] at h; simp at h
      | false => rfl
  · have he : withE v key x = withC v key x := by unfold withE; rw [if_neg h0]
    rw [he]
    refine (with_no v x vv xx B key w hv hx hBs h0).mono ?_
    rintro e w' ⟨rfl, b⟩
    exact ⟨_, rfl, b, fun h => absurd h h0, fun _ => rfl⟩

theorem withoutC_zero {v : Vl} {key : ByteArray} (h : withoutC v key = 0) : rightB v = true ∧ v.kind = 5 ∧ ∃ I, placeK v.ks key = some I := by
  unfold withoutC at h
  split at h
  · next h1 =>
    split at h
    · next h2 =>
      split at h
      · cases h
      · next h3 =>
        cases hp : placeK v.ks key with
        | none => exact absurd hp h3
        | some I => exact ⟨h1, h2, I, rfl⟩
    · cases h
  · cases h

theorem without_any (v : Vl) (vv : Value) (B : Nat) (key : ByteArray) (w : World) (hv : IsV w B v vv) (hBs : B ≤ w.heap.size) :
    Calls Try.prog 17 #[vv, .string key] w fun e w' => ∃ x', e = .returned (.tuple #[x', .int .i64 (withoutC v key)]) ∧ Below w.heap.size w w' ∧ (∀ I, withoutC v key = 0 → placeK v.ks key = some I → IsQ w' (fun b => w.heap.size ≤ b ∧ b < w'.heap.size) (.mk 5 v.n v.s (v.l.eraseIdx I) (v.ks.eraseIdx I)) x') ∧ (withoutC v key ≠ 0 → x' = .agg #[.int .i64 0, .int .i64 0, .string ⟨#[]⟩, .slice none 0 0, .slice none 0 0]) := by
  by_cases h0 : withoutC v key = 0
  · obtain ⟨h1, h2, I, hI⟩ := withoutC_zero h0
    obtain ⟨k, n, s, l, ks, al, ak, cl, ck, rfl, rfl⟩ := hv.shape
    have h2' : k = 5 := h2
    subst h2'
    rw [h0]
    refine (without_in n s l ks al ak cl ck B key I w hv hBs h1 hI).mono ?_
    rintro e w' ⟨x', rfl, b, q⟩
    refine ⟨x', rfl, b, fun J _ hJ => ?_, fun h => absurd rfl h⟩
    have e1 : some I = some J := hI.symm.trans hJ
    cases e1
    exact q
  · refine (without_no v vv B key w hv hBs h0).mono ?_
    rintro e w' ⟨rfl, b⟩
    exact ⟨_, rfl, b, fun _ h => absurd h h0, fun _ => rfl⟩

theorem get_any (v : Vl) (vv : Value) (B : Nat) (key : ByteArray) (w : World) (hv : IsV w B v vv) (hBs : B ≤ w.heap.size) :
    Calls Try.prog 13 #[vv, .string key] w fun e w' => ∃ x', e = .returned (.tuple #[x', .bool (getR v key).isSome]) ∧ Below w.heap.size w w' ∧ IsV w' w'.heap.size ((getR v key).getD (.mk 0 0 ⟨#[]⟩ [] [])) x' := by
  cases h : getR v key with
  | none =>
    refine (get_no v vv B w hv hBs key h).mono ?_
    rintro e w' ⟨rfl, b⟩
    exact ⟨_, rfl, b, IsP.of (V := fun _ => []) ⟨by omega, by omega, by decide, fun _ => ⟨rfl, rfl⟩, fun _ => ⟨rfl, rfl⟩, Nat.le_refl _, Nat.le_refl _, by decide, by decide, by decide, fun a ha => by (cases ha), fun i hi => by (simp at hi), fun a ha => by (cases ha), fun t ht => by (cases ht)⟩ (fun i y hy => by simp at hy)⟩
  | some y =>
    refine (get_is v vv B w hv hBs key y h).mono ?_
    rintro e w' ⟨x', rfl, b, q⟩
    exact ⟨x', rfl, b, q.isV (fun b hb => hb.2)⟩
end Go.Proofs.Ytcopkhmmpamboaa
