/-
  The two rows of a value that is its owner's, as rows of the call's own; no conditions.
-/
import Derived.Test.YtfbpaeddfonfbaaDoorXMid
namespace Go.Proofs.YtfbpaeddfonfbaaDoor
open Go.RowKit
set_option linter.unusedVariables false
set_option linter.unusedSimpArgs false

theorem add_at0 (b j : Nat) : (⟨b, 0, none⟩ : Addr).add j = ⟨b, j, none⟩ := by
  unfold Addr.add
  split <;> simp_all

theorem keys_own {w : World} {P : Nat → Prop} {base : Nat} {kind n : Int} {s : ByteArray} {l : List Vl} {ks : List ByteArray} {al ak : Option Addr} {cl ck : Nat} {V : Nat → List Value} (hk : TyK w P ak ks.length ck) (hf : VF w P kind n s l ks al ak cl ck V) (hb : ∀ b, P b → base ≤ b) :
    w.ownsRow base 9 1 (.slice ak ks.length ck) ks.length (ks.map Value.string) := by
  refine ⟨by simp, ?_⟩
  rcases hk with ⟨rfl, h0, rfl⟩ | ⟨b, cs, rfl, hp, hg, hs, hm, hc, _⟩
  · exact .inl ⟨by rw [h0], h0⟩
  · refine .inr ⟨b, ck, cs, rfl, hb b hp, hg, hm, hc, by omega, ?_⟩
    apply List.ext_getElem?
    intro i
    rw [Nat.mul_one, List.getElem?_take]
    by_cases hi : i < ks.length
    · rw [if_pos hi, List.getElem?_map, List.getElem?_eq_getElem hi]
      have h1 := (hf.hk _ rfl i ks[i] (List.getElem?_eq_getElem hi)).2
      rw [add_at0, cell_of_row w b i cs 9 (0, 0) hg] at h1
      simpa using h1
    · rw [if_neg hi, List.getElem?_eq_none (by simpa using Nat.le_of_not_lt hi)]

theorem els_own {w : World} {P : Nat → Prop} {R : Value → Prop} {base : Nat} {kind n : Int} {s : ByteArray} {l : List Vl} {ks : List ByteArray} {al ak : Option Addr} {cl ck : Nat} {V : Nat → List Value} (hk : TyL w P R al l.length cl) (hf : VF w P kind n s l ks al ak cl ck V) (hb : ∀ b, P b → base ≤ b) :
    w.ownsRow base 25 5 (.slice al l.length cl) l.length (flat V l.length) := by
  refine ⟨flat_len V l.length hf.hv, ?_⟩
  rcases hk with ⟨rfl, h0, rfl⟩ | ⟨b, cs, rfl, hp, hg, hs, hm, hc, _⟩
  · exact .inl ⟨by rw [h0], h0⟩
  · refine .inr ⟨b, cl, cs, rfl, hb b hp, hg, hm, hc, hs, ?_⟩
    have hfl := flat_len V l.length hf.hv
    apply List.ext_getElem?
    intro q
    rw [List.getElem?_take]
    by_cases hq : q < l.length * 5
    · rw [if_pos hq]
      have h5 := hf.hv (q / 5) (by omega)
      have h1 := (hf.hl _ rfl (q / 5) (by omega)).2 (q % 5) ((V (q / 5))[q % 5]'(by omega)) (List.getElem?_eq_getElem (by omega))
      have h2 := flat_at V l.length hf.hv (q / 5) (by omega) (q % 5) ((V (q / 5))[q % 5]'(by omega)) (List.getElem?_eq_getElem (by omega))
      have e : q / 5 * 5 + q % 5 = q := by omega
      rw [e] at h2
      rw [h2]
      have ea : ((⟨b, 0, none⟩ : Addr).add (q / 5 * 5)).add (q % 5) = ⟨b, q, none⟩ := by
        rw [add_at0]
        unfold Addr.add
        split
        all_goals (simp; try omega)
      rw [ea, cell_of_row w b q cs _ (0, 0) hg] at h1
      simpa using h1
    · rw [if_neg hq, List.getElem?_eq_none (by omega)]

/-- a value that is its owner's: its two rows, and what its elements are -/
theorem IsQ.rows {w : World} {P : Nat → Prop} {base : Nat} {kind n k' n' : Int} {s s' : ByteArray} {l : List Vl} {ks : List ByteArray} {al ak : Option Addr} {ll m cl ck : Nat} (h : IsQ w P (.mk kind n s l ks) (.agg #[.int .i64 k', .int .i64 n', .string s', .slice al ll cl, .slice ak m ck])) (hb : ∀ b, P b → base ≤ b) :
    ll = l.length ∧ m = ks.length ∧ ∃ V, w.ownsRow base 25 5 (.slice al l.length cl) l.length (flat V l.length) ∧ w.ownsRow base 9 1 (.slice ak ks.length ck) ks.length (ks.map Value.string) ∧ VF w P kind n s l ks al ak cl ck V ∧ ∀ i y, l[i]? = some y → IsP w P y (.agg (V i).toArray) := by
  obtain ⟨rfl, rfl, rfl, rfl, rfl, V, hf, el⟩ := h.1.at
  have hd := dep_pos (.mk k' n' s' l ks)
  obtain ⟨r, hr⟩ : ∃ r, dep (.mk k' n' s' l ks) = r + 1 := ⟨dep (.mk k' n' s' l ks) - 1, by omega⟩
  have ht := h.2
  rw [hr] at ht
  obtain ⟨_, _, _, _, _, _, _, _, _, e, hl, hk⟩ := ht
  simp only [Value.agg.injEq, Array.mk.injEq, List.cons.injEq, Value.int.injEq, Value.string.injEq, Value.slice.injEq, and_true, true_and] at e
  obtain ⟨_, _, _, ⟨rfl, rfl, rfl⟩, rfl, rfl, rfl⟩ := e
  exact ⟨rfl, rfl, V, els_own hl hf hb, keys_own hk hf hb, hf, el⟩
end Go.Proofs.YtfbpaeddfonfbaaDoor
