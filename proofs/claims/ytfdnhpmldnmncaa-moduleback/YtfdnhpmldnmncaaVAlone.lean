/-
  The walk of alone: what a value weighs without its elements; conditions: keys of at most 32 bytes, the form's own reach.
-/
import Derived.Test.YtfdnhpmldnmncaaVKeys
namespace Go.Proofs.Ytfdnhpmldnmncaa
open Go.RowKit

theorem keysW_app (a b : List ByteArray) : keysW (a ++ b) = keysW a + keysW b := by
  induction a with
  | nil => simp [keysW]
  | cons x r ih => simp [keysW, ih]; omega

theorem keysW_next (l : List ByteArray) (i : Nat) (t : ByteArray) (h : l[i]? = some t) : keysW (l.take (i + 1)) = keysW (l.take i) + (1 + t.size) := by
  obtain ⟨hi, rfl⟩ := List.getElem?_eq_some_iff.1 h
  rw [List.take_succ_eq_append_getElem hi, keysW_app]
  simp [keysW]

theorem keysW_le (l : List ByteArray) (h : ∀ t ∈ l, t.size ≤ 32) : keysW l ≤ 33 * l.length := by
  induction l with
  | nil => simp [keysW]
  | cons x r ih =>
    have h1 := h x (by simp)
    have h2 := ih (fun t ht => h t (by simp [ht]))
    simp [keysW]
    omega

set_option maxRecDepth 100000 in
set_option maxHeartbeats 400000 in
theorem alone_any (kind n : Int) (s : ByteArray) (ll : Nat) (ks : List ByteArray) (al ak : Option Addr) (cl ck : Nat) (w : World) (h : IsK w ks ak ck) (hs : s.size ≤ 140737488351232) (h32 : ∀ t ∈ ks, t.size ≤ 32) :
    Calls Try.prog 74 #[.agg #[.int .i64 kind, .int .i64 n, .string s, .slice al ll cl, .slice ak ks.length ck]] w fun e w' => e = .returned (.int .i64 ((1 + s.size + keysW ks : Nat) : Int)) ∧ Below w.heap.size w w' := by
  obtain ⟨m, hm⟩ : ∃ m, ks.length = m := ⟨_, rfl⟩
  obtain ⟨w1, hw1⟩ : ∃ w1, w.alloc (.cells #[.int .i64 kind, .int .i64 n, .string s, .slice al ll cl, .slice ak m ck] 51) = w1 := ⟨_, rfl⟩
  have BX := Box.mk' w (.int .i64 kind) (.int .i64 n) (.string s) (.slice al ll cl) (.slice ak m ck)
  rw [hw1] at BX
  obtain ⟨c0, c1, c2, c3, c4⟩ := row_cell BX.row
  have HH := hide (h.mono BX.below)
  have HB := hide BX.below
  have hn := h.len
  have hb := h.bnd
  have HKW := hide (fun i => keysW_le (ks.take i) (fun t ht => h32 t (List.mem_of_mem_take ht)))
  have HS := hide h32
  rw [hm] at hn hb ⊢
  have HM := hide hm
  clear BX h h32 hm
  obtain ⟨S, hS⟩ : ∃ S, s.size = S := ⟨_, rfl⟩
  rw [hS] at hs ⊢
  go_enter Try.func74, Try.ntmps74
  go_wp2_with fail
  go_loopw [3, 13] (fun y x wr => ∃ i : Nat, i ≤ m ∧ x = .int .i64 i ∧ y = .int .i64 ((1 + S + keysW (ks.take i) : Nat) : Int) ∧ wr = w1) (fun _ x _ => m - (intOf x).toNat)
  case atStart => exact ⟨0, by omega, rfl, by simp [keysW], rfl⟩
  case round =>
    obtain ⟨i, hi, rfl, rfl, rfl⟩ := hrel
    by_cases hlt : i < m
    · obtain ⟨t, ht⟩ : ∃ t, ks[i]? = some t := ⟨_, List.getElem?_eq_getElem (by have := unhide HM; omega)⟩
      obtain ⟨a, rfl⟩ : ∃ a, ak = some a := by
        cases ak with
        | none => have := (unhide HH).none rfl; have := unhide HM; omega
        | some a => exact ⟨a, rfl⟩
      have c5 := (unhide HH).cell a rfl i t ht
      have t32 := unhide HS t (List.mem_of_getElem? ht)
      have hnx := keysW_next ks i t ht
      have hkw := unhide HKW i
      rw [List.length_take, Nat.min_eq_left (by have := unhide HM; omega)] at hkw
      obtain ⟨X, hX⟩ : ∃ X, keysW (ks.take i) = X := ⟨_, rfl⟩
      obtain ⟨u, hu⟩ : ∃ u, t.size = u := ⟨_, rfl⟩
      rw [hX, hu] at hnx
      rw [hX] at hkw ⊢
      rw [hu] at t32
      have HNX := hide hnx
      have e1 : (((1 + S + X : Nat) : Int) + (1 + (u : Int))) = ((1 + S + (X + (1 + u)) : Nat) : Int) := by omega
      have e2 : IntKind.i64.wrap (1 + (u : Int)) = 1 + (u : Int) := by rw [IntKind.wrap_i64]; omega
      have e3 : IntKind.i64.wrap (((1 + S + X : Nat) : Int) + (1 + (u : Int))) = ((1 + S + (X + (1 + u)) : Nat) : Int) := by rw [IntKind.wrap_i64]; omega
      clear hnx ht
      obtain ⟨Y, hY⟩ : ∃ Y, 1 + S + X = Y := ⟨_, rfl⟩
      rw [hY] at e1 e3 ⊢
      go_wp2_with fail
      go_roundw
      case rel => exact ⟨i + 1, by omega, by go_num, by rw [unhide HNX]; go_num, trivial⟩
      case measure => simp [intOf]; omega
    · have hi' : i = m := by omega
      subst hi'
      go_wp2_with fail
      go_ret
      exact ⟨by rw [List.take_of_length_le (by have := unhide HM; omega)]; rfl, unhide HB⟩
end Go.Proofs.Ytfdnhpmldnmncaa
