/-
  The order of bytes: it is one; no conditions.
-/
import Derived.Test.YtcopkhmmpamboaaL01
import Derived.Laws.Strings
import Derived.ProofKit
import Derived.ShutString
namespace Go.Proofs.Ytcopkhmmpamboaa

/-- less, by bytes -/
abbrev bl (a b : ByteArray) : Bool := Op.bytesLess a.toList b.toList

theorem kl_tr : ∀ (a b c : List UInt8), Op.bytesLess a b = true → Op.bytesLess b c = true → Op.bytesLess a c = true
  | [], b, [], _, h => by cases b <;> simp [Op.bytesLess] at h
  | [], _, c :: z, _, _ => by simp [Op.bytesLess]
  | a :: x, [], _, h, _ => by simp [Op.bytesLess] at h
  | a :: x, b :: y, [], _, h => by simp [Op.bytesLess] at h
  | a :: x, b :: y, c :: z, h1, h2 => by
    have ih := kl_tr x y z
    simp only [Op.bytesLess, Bool.or_eq_true, Bool.and_eq_true, decide_eq_true_eq, beq_iff_eq] at h1 h2 ⊢
    rcases h1 with h1 | ⟨rfl, h1⟩
    · rcases h2 with h2 | ⟨rfl, h2⟩
      · exact .inl (UInt8.lt_trans h1 h2)
      · exact .inl h1
    · rcases h2 with h2 | ⟨rfl, h2⟩
      · exact .inl h2
      · exact .inr ⟨rfl, ih h1 h2⟩

theorem kb_inj {a b : ByteArray} (h : a.toList = b.toList) : a = b := by
  rw [ByteArray.toList_eq, ByteArray.toList_eq] at h
  exact Go.WideShapes.bytes_inj h

theorem kb_beq (a b : ByteArray) : (a.toList == b.toList) = true ↔ a = b := by
  rw [beq_iff_eq]
  exact ⟨kb_inj, fun h => by rw [h]⟩

theorem kl_irr (a : ByteArray) : bl a a = false := by
  have h := bl_not a.toList a.toList
  cases hb : Op.bytesLess a.toList a.toList with
  | false => exact hb
  | true => rw [hb] at h; simp at h

theorem kl_trans {a b c : ByteArray} (h1 : bl a b = true) (h2 : bl b c = true) : bl a c = true := kl_tr _ _ _ h1 h2

theorem kl_tri (a b : ByteArray) : bl a b = true ∨ a = b ∨ bl b a = true := by
  have h := bl_not a.toList b.toList
  cases h1 : bl a b with
  | true => exact .inl rfl
  | false =>
    cases h2 : bl b a with
    | true => exact .inr (.inr rfl)
    | false =>
      have h1' : Op.bytesLess a.toList b.toList = false := h1
      have h2' : Op.bytesLess b.toList a.toList = false := h2
      rw [h1', h2'] at h
      simp at h
      exact .inr (.inl (kb_inj h.symm))

theorem kl_asym {a b : ByteArray} (h : bl a b = true) : bl b a = false := by
  cases hb : bl b a with
  | false => rfl
  | true => have := kl_trans h hb; rw [kl_irr] at this; cases this
end Go.Proofs.Ytcopkhmmpamboaa
