/-
  The walks of many and few: how many parts a value has; no conditions but the form's own reach.
-/
import Derived.Test.YtfdnhpmldnmncaaWEnc
import Derived.WalkSpells
import Derived.WalkSmall
namespace Go.Proofs.Ytfdnhpmldnmncaa
open Go.RowKit

def cntL : List Vl → Nat
  | [] => 0
  | .mk _ _ _ l _ :: r => (1 + cntL l) + cntL r
def cnt : Vl → Nat
  | .mk _ _ _ l _ => 1 + cntL l
theorem cntL_nil : cntL [] = 0 := by simp only [cntL]
theorem cntL_cons (x : Vl) (r : List Vl) : cntL (x :: r) = cnt x + cntL r := by cases x; simp only [cntL, cnt]

theorem cntL_app (a b : List Vl) : cntL (a ++ b) = cntL a + cntL b := by
  induction a with
  | nil => simp [cntL_nil]
  | cons x r ih => simp [cntL_cons, ih]; omega

theorem cntL_next (l : List Vl) (i : Nat) (x : Vl) (h : l[i]? = some x) : cntL (l.take (i + 1)) = cntL (l.take i) + cnt x := by
  obtain ⟨hi, rfl⟩ := List.getElem?_eq_some_iff.1 h
  rw [List.take_succ_eq_append_getElem hi, cntL_app, cntL_cons, cntL_nil, Nat.add_zero]

theorem cntL_take_le (l : List Vl) (i : Nat) : cntL (l.take i) ≤ cntL l := by
  have h := cntL_app (l.take i) (l.drop i)
  rw [List.take_append_drop] at h
  omega

theorem cnt_pos (v : Vl) : 1 ≤ cnt v := by cases v; simp only [cnt]; omega

theorem len_cntL (l : List Vl) : l.length ≤ cntL l := by
  induction l with
  | nil => simp [cntL_nil]
  | cons x r ih => have := cnt_pos x; simp [cntL_cons]; omega

theorem cntL_wt : ∀ (l : List Vl), cntL l ≤ wtL l
  | [] => by simp [cntL_nil]
  | .mk _ _ s l ks :: r => by have := cntL_wt l; have := cntL_wt r; simp only [cntL, wtL]; omega
theorem cnt_wt (v : Vl) : cnt v ≤ wt v := by
  cases v with
  | mk k n s l ks => have := cntL_wt l; simp only [cnt, wt]; omega

theorem dep_elem (l : List Vl) (i : Nat) (x : Vl) (h : l[i]? = some x) : dep x ≤ depL l := by
  have h1 := depL_next l i x h
  have h2 := depL_app (l.take (i + 1)) (l.drop (i + 1))
  rw [List.take_append_drop] at h2
  omega

end Go.Proofs.Ytfdnhpmldnmncaa
