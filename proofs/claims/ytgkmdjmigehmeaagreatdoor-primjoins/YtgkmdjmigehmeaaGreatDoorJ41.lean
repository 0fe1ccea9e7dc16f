/-
  Do of whole numbers (prim); conditions: the package's variables.
-/
import Derived.Test.YtgkmdjmigehmeaaGreatDoorJ40
import Derived.Shelf.Abstract
set_option linter.unusedVariables false
set_option linter.unusedSimpArgs false
namespace Go.Proofs.YtgkmdjmigehmeaaGreatDoor
open Go.RowKit Go.Shelf
set_option linter.unusedVariables false
set_option linter.unusedSimpArgs false

def nm (p : Int) : Vl := .mk 2 p ⟨#[]⟩ [] []
def vlz : Vl := .mk 0 0 ⟨#[]⟩ [] []

theorem plain_is (w : World) (P : Nat → Prop) (k n : Int) (bk : 0 ≤ k ∧ k ≤ 5) (bn : -9223372036854775808 ≤ n ∧ n ≤ 9223372036854775807) :
    IsP w P (.mk k n ⟨#[]⟩ [] []) (.agg #[.int .i64 k, .int .i64 n, .string ⟨#[]⟩, .slice none 0 0, .slice none 0 0]) := by
  have hs : (⟨#[]⟩ : ByteArray).size = 0 := rfl
  refine ⟨none, none, 0, 0, fun _ => [], rfl, ⟨by dsimp only; omega, bn, by dsimp only; omega, fun _ => ⟨rfl, rfl⟩, fun _ => ⟨rfl, rfl⟩, Nat.le_refl _, Nat.le_refl _, by simp, by simp, by simp, (fun a h => by cases h), (fun i h => by simp at h), (fun a h => by cases h), fun t h => by cases h⟩, ?_⟩
  simp only [IsPL]

theorem right_nm (p : Int) : rightB (nm p) = true := by
  have hs : (⟨#[]⟩ : ByteArray).size = 0 := rfl
  simp [rightB, nm, okB, okL, formB, formM, wt, wtL, dep, depL, risingFrom, keysW, hs]
theorem right_z : rightB vlz = true := by
  have hs : (⟨#[]⟩ : ByteArray).size = 0 := rfl
  simp [rightB, vlz, okB, okL, formB, formM, wt, wtL, dep, depL, risingFrom, keysW, hs]

/-- two whole numbers in a row of their own -/
theorem two_is {w : World} {g : Nat} {p q : Int} {T : TypeId} (hp : -9223372036854775808 ≤ p ∧ p ≤ 9223372036854775807) (hq : -9223372036854775808 ≤ q ∧ q ≤ 9223372036854775807) (h : w.heap[g]? = some (.cells #[.int .i64 2, .int .i64 (p), .string ⟨#[]⟩, .slice none 0 0, .slice none 0 0, .int .i64 2, .int .i64 (q), .string ⟨#[]⟩, .slice none 0 0, .slice none 0 0] T (0, 0))) : ArV w w.heap.size [nm p, nm q] (some ⟨g, 0, none⟩) 2 2 := by
  have hl : g < w.heap.size := (Array.getElem?_eq_some_iff.1 h).1
  have hs : (⟨#[]⟩ : ByteArray).size = 0 := rfl
  refine ⟨rfl, some ⟨g, 0, none⟩, none, 2, 0, fun i => if i = 0 then [.int .i64 2, .int .i64 (p), .string ⟨#[]⟩, .slice none 0 0, .slice none 0 0] else [.int .i64 2, .int .i64 (q), .string ⟨#[]⟩, .slice none 0 0, .slice none 0 0], rfl, ⟨by dsimp only; omega, by dsimp only; omega, by dsimp only; omega, (fun e => by cases e), fun _ => ⟨rfl, rfl⟩, Nat.le_refl _, Nat.le_refl _, by simp, by simp, by simp, ?_, ?_, (fun a h => by cases h), fun t h => by cases h⟩, ?_⟩
  · intro a ha i hi
    cases ha
    refine ⟨hl, fun j v hv => ?_⟩
    have hi2 : i = 0 ∨ i = 1 := by simp at hi; omega
    have hj : j < 5 := by
      have := (List.getElem?_eq_some_iff.1 hv).1
      rcases hi2 with rfl | rfl <;> simpa using this
    have hadd : (((⟨g, 0, none⟩ : Addr).add (i * 5)).add j) = ⟨g, i * 5 + j, none⟩ := by
      simp only [Addr.add]
      split <;> split <;> simp_all
    rw [hadd, cell_of_row w g (i * 5 + j) _ _ (0, 0) h]
    rcases hi2 with rfl | rfl
    · rcases (show j = 0 ∨ j = 1 ∨ j = 2 ∨ j = 3 ∨ j = 4 by omega) with rfl | rfl | rfl | rfl | rfl <;> simpa using hv
    · rcases (show j = 0 ∨ j = 1 ∨ j = 2 ∨ j = 3 ∨ j = 4 by omega) with rfl | rfl | rfl | rfl | rfl <;> simpa using hv
  · intro i hi
    have hi2 : i = 0 ∨ i = 1 := by simp at hi; omega
    rcases hi2 with rfl | rfl <;> rfl
  · rw [IsPL_iff]
    intro i y hy
    rcases i with _ | _ | i
    · simp at hy
      subst hy
      exact plain_is w _ 2 p (by omega) hp
    · simp at hy
      subst hy
      exact plain_is w _ 2 q (by omega) hq
    · simp at hy

/-- one whole number in a row of its own, which may be longer -/
theorem one_is {w : World} {g cl : Nat} {p : Int} {T : TypeId} {cs : Array Value} (hp : -9223372036854775808 ≤ p ∧ p ≤ 9223372036854775807) (hcl : 1 ≤ cl) (h : w.heap[g]? = some (.cells cs T (0, 0))) (hc : ∀ (j : Nat) (v : Value), ([.int .i64 2, .int .i64 (p), .string ⟨#[]⟩, .slice none 0 0, .slice none 0 0] : List Value)[j]? = some v → cs[j]? = some v) : ArV w w.heap.size [nm p] (some ⟨g, 0, none⟩) 1 cl := by
  have hl : g < w.heap.size := (Array.getElem?_eq_some_iff.1 h).1
  have hs : (⟨#[]⟩ : ByteArray).size = 0 := rfl
  refine ⟨rfl, some ⟨g, 0, none⟩, none, cl, 0, fun i => [.int .i64 2, .int .i64 (p), .string ⟨#[]⟩, .slice none 0 0, .slice none 0 0], rfl, ⟨by dsimp only; omega, by dsimp only; omega, by dsimp only; omega, (fun e => by cases e), fun _ => ⟨rfl, rfl⟩, hcl, Nat.le_refl _, by simp, by simp, by simp, ?_, fun _ _ => rfl, (fun a h => by cases h), fun t h => by cases h⟩, ?_⟩
  · intro a ha i hi
    cases ha
    obtain rfl : i = 0 := by simp at hi; omega
    refine ⟨hl, fun j v hv => ?_⟩
    have hadd : (((⟨g, 0, none⟩ : Addr).add (0 * 5)).add j) = ⟨g, j, none⟩ := by
      simp only [Addr.add]
      split <;> split <;> simp_all
    rw [hadd, cell_of_row w g j _ _ (0, 0) h]
    exact hc j v hv
  · rw [IsPL_iff]
    intro i y hy
    rcases i with _ | i
    · simp at hy
      subst hy
      exact plain_is w _ 2 p (by omega) hp
    · simp at hy

theorem kd_two (p q : Int) : kdAt [nm p, nm q] 0 = 2 ∧ kdAt [nm p, nm q] 1 = 2 ∧ ∀ i, 0 ≤ kdAt [nm p, nm q] i ∧ kdAt [nm p, nm q] i ≤ 5 := by
  refine ⟨rfl, rfl, fun i => ?_⟩
  have e0 : kdAt [nm p, nm q] 0 = 2 := rfl
  have e1 : kdAt [nm p, nm q] 1 = 2 := rfl
  rcases i with _ | _ | i
  · rw [e0]; exact ⟨by decide, by decide⟩
  · rw [e1]; exact ⟨by decide, by decide⟩
  · have : kdAt [nm p, nm q] (i + 1 + 1) = 0 := by simp [kdAt]
    rw [this]
    exact ⟨by decide, by decide⟩
theorem kd_one (p : Int) : kdAt [nm p] 0 = 2 ∧ ∀ i, 0 ≤ kdAt [nm p] i ∧ kdAt [nm p] i ≤ 5 := by
  refine ⟨rfl, fun i => ?_⟩
  have e0 : kdAt [nm p] 0 = 2 := rfl
  rcases i with _ | i
  · rw [e0]; exact ⟨by decide, by decide⟩
  · have : kdAt [nm p] (i + 1) = 0 := by simp [kdAt]
    rw [this]
    exact ⟨by decide, by decide⟩

theorem b28 : bitK 28 2 = true := by kernel_rfl
theorem b4 : bitK 4 2 = true := by kernel_rfl
theorem wr64 (x : Int) : -9223372036854775808 ≤ wrap64 x ∧ wrap64 x ≤ 9223372036854775807 := by
  simp only [wrap64]
  omega

theorem may_add (p q : Int) : mayB 10 vlz [nm p, nm q] = true := by
  have h : takesA 10 2 vlz = 2 := by
    unfold takesA
    rw [if_pos (by decide), if_neg (by decide), if_neg (by decide)]
    kernel_rfl
  unfold mayB
  simp [h, right_z, right_nm]
theorem fit_add (p q : Int) : fitsB 28 0 0 true [nm p, nm q] = true := by
  unfold fitsB fit1
  rw [(kd_two p q).1, (kd_two p q).2.1]
  simp [b28, b4]

set_option maxRecDepth 100000 in
theorem do_add (p q : Int) (g cl : Nat) (T : TypeId) (w : World) (ht : Tab w) (hr : w.heap[g]? = some (.cells #[.int .i64 2, .int .i64 (p), .string ⟨#[]⟩, .slice none 0 0, .slice none 0 0, .int .i64 2, .int .i64 (q), .string ⟨#[]⟩, .slice none 0 0, .slice none 0 0] T (0, 0))) (hb : (-9223372036854775808 ≤ p ∧ p ≤ 9223372036854775807) ∧ -9223372036854775808 ≤ q ∧ q ≤ 9223372036854775807) :
    Calls Tryz.prog 12 #[.int .i64 10, .agg #[.int .i64 0, .int .i64 0, .string ⟨#[]⟩, .slice none 0 0, .slice none 0 0], .slice (some ⟨g, 0, none⟩) 2 2] w fun e w' => e = .returned (.tuple #[.agg #[.int .i64 2, .int .i64 (wrap64 (p + q)), .string ⟨#[]⟩, .slice none 0 0, .slice none 0 0], .int .i64 0]) ∧ Below w.heap.size w w' := by
  have hl : g < w.heap.size := (Array.getElem?_eq_some_iff.1 hr).1
  refine (do_go 10 28 0 0 true 48 op_add vlz 0 0 ⟨#[]⟩ none 0 0 none 0 0 [nm p, nm q] (some ⟨g, 0, none⟩) 2 2 w.heap.size w ht (plain_is w _ 0 0 (by omega) (by omega)) (two_is hb.1 hb.2 hr) (Nat.le_refl _) (may_add p q) ((kd_two p q).2.2) (by omega) (by omega) (by omega) (by intro; omega) (fit_add p q) (enters_of Tryz.func48 (by kernel_rfl) rfl)
    (fun y0 y1 y2 y3 y4 y5 y6 y7 y8 t _ _ => (.tuple #[.agg #[.int .i64 y0, .int .i64 y1, .string y2, .slice y3 y4 y5, .slice y6 y7 y8], .int .i64 t] : Value) = .tuple #[.agg #[.int .i64 2, .int .i64 (wrap64 (p + q)), .string ⟨#[]⟩, .slice none 0 0, .slice none 0 0], .int .i64 0]) (fun u hu => ?_)).mono ?_
  · have hcell : ∀ j v, ([.int .i64 2, .int .i64 (p), .string ⟨#[]⟩, .slice none 0 0, .slice none 0 0, .int .i64 2, .int .i64 (q), .string ⟨#[]⟩, .slice none 0 0, .slice none 0 0] : List Value)[j]? = some v → u.cell? ⟨g, 0 + j, none⟩ = some v := fun j v hv => by
      rw [Nat.zero_add, cell_of_row u g j _ _ (0, 0) ((hu.block g hl).trans hr)]
      simpa using hv
    refine (add_num 0 0 ⟨#[]⟩ none 0 0 none 0 0 ⟨g, 0, none⟩ 2 2 p ⟨#[]⟩ none 0 0 none 0 0 q ⟨#[]⟩ none 0 0 none 0 0 u (by omega) (Nat.lt_of_lt_of_le hl hu.size) (hcell 0 _ rfl) (hcell 1 _ rfl) (hcell 2 _ rfl) (hcell 3 _ rfl) (hcell 4 _ rfl) (hcell 5 _ rfl) (hcell 6 _ rfl) (hcell 7 _ rfl) (hcell 8 _ rfl) (hcell 9 _ rfl)).mono ?_
    rintro e w' ⟨rfl, hb⟩
    exact ⟨_, _, _, _, _, _, _, _, _, _, rfl, rfl, hb⟩
  · rintro e w' ⟨y0, y1, y2, y3, y4, y5, y6, y7, y8, t, rfl, ⟨u, u', _, hQ, _⟩, hb⟩
    exact ⟨by rw [hQ], hb⟩
theorem may_sub (p q : Int) : mayB 11 vlz [nm p, nm q] = true := by
  have h : takesA 11 2 vlz = 2 := by
    unfold takesA
    rw [if_pos (by decide), if_neg (by decide), if_neg (by decide)]
    kernel_rfl
  unfold mayB
  simp [h, right_z, right_nm]
theorem fit_sub (p q : Int) : fitsB 4 4 0 false [nm p, nm q] = true := by
  unfold fitsB fit1
  rw [(kd_two p q).1, (kd_two p q).2.1]
  simp [b28, b4]

set_option maxRecDepth 100000 in
theorem do_sub (p q : Int) (g cl : Nat) (T : TypeId) (w : World) (ht : Tab w) (hr : w.heap[g]? = some (.cells #[.int .i64 2, .int .i64 (p), .string ⟨#[]⟩, .slice none 0 0, .slice none 0 0, .int .i64 2, .int .i64 (q), .string ⟨#[]⟩, .slice none 0 0, .slice none 0 0] T (0, 0))) (hb : (-9223372036854775808 ≤ p ∧ p ≤ 9223372036854775807) ∧ -9223372036854775808 ≤ q ∧ q ≤ 9223372036854775807) :
    Calls Tryz.prog 12 #[.int .i64 11, .agg #[.int .i64 0, .int .i64 0, .string ⟨#[]⟩, .slice none 0 0, .slice none 0 0], .slice (some ⟨g, 0, none⟩) 2 2] w fun e w' => e = .returned (.tuple #[.agg #[.int .i64 2, .int .i64 (IntKind.wrap .i64 (p - q)), .string ⟨#[]⟩, .slice none 0 0, .slice none 0 0], .int .i64 0]) ∧ Below w.heap.size w w' := by
  have hl : g < w.heap.size := (Array.getElem?_eq_some_iff.1 hr).1
  refine (do_go 11 4 4 0 false 49 op_sub vlz 0 0 ⟨#[]⟩ none 0 0 none 0 0 [nm p, nm q] (some ⟨g, 0, none⟩) 2 2 w.heap.size w ht (plain_is w _ 0 0 (by omega) (by omega)) (two_is hb.1 hb.2 hr) (Nat.le_refl _) (may_sub p q) ((kd_two p q).2.2) (by omega) (by omega) (by omega) (by intro h; cases h) (fit_sub p q) (enters_of Tryz.func49 (by kernel_rfl) rfl)
    (fun y0 y1 y2 y3 y4 y5 y6 y7 y8 t _ _ => (.tuple #[.agg #[.int .i64 y0, .int .i64 y1, .string y2, .slice y3 y4 y5, .slice y6 y7 y8], .int .i64 t] : Value) = .tuple #[.agg #[.int .i64 2, .int .i64 (IntKind.wrap .i64 (p - q)), .string ⟨#[]⟩, .slice none 0 0, .slice none 0 0], .int .i64 0]) (fun u hu => ?_)).mono ?_
  · have hcell : ∀ j v, ([.int .i64 2, .int .i64 (p), .string ⟨#[]⟩, .slice none 0 0, .slice none 0 0, .int .i64 2, .int .i64 (q), .string ⟨#[]⟩, .slice none 0 0, .slice none 0 0] : List Value)[j]? = some v → u.cell? ⟨g, 0 + j, none⟩ = some v := fun j v hv => by
      rw [Nat.zero_add, cell_of_row u g j _ _ (0, 0) ((hu.block g hl).trans hr)]
      simpa using hv
    refine (sub_num 0 0 ⟨#[]⟩ none 0 0 none 0 0 ⟨g, 0, none⟩ 2 2 p q u (by omega) (Nat.lt_of_lt_of_le hl hu.size) (hcell 1 _ rfl) (hcell 6 _ rfl)).mono ?_
    rintro e w' ⟨rfl, hb⟩
    exact ⟨_, _, _, _, _, _, _, _, _, _, rfl, rfl, hb⟩
  · rintro e w' ⟨y0, y1, y2, y3, y4, y5, y6, y7, y8, t, rfl, ⟨u, u', _, hQ, _⟩, hb⟩
    exact ⟨by rw [hQ], hb⟩
theorem may_mul (p q : Int) : mayB 12 vlz [nm p, nm q] = true := by
  have h : takesA 12 2 vlz = 2 := by
    unfold takesA
    rw [if_pos (by decide), if_neg (by decide), if_neg (by decide)]
    kernel_rfl
  unfold mayB
  simp [h, right_z, right_nm]
theorem fit_mul (p q : Int) : fitsB 4 4 0 false [nm p, nm q] = true := by
  unfold fitsB fit1
  rw [(kd_two p q).1, (kd_two p q).2.1]
  simp [b28, b4]

set_option maxRecDepth 100000 in
theorem do_mul (p q : Int) (g cl : Nat) (T : TypeId) (w : World) (ht : Tab w) (hr : w.heap[g]? = some (.cells #[.int .i64 2, .int .i64 (p), .string ⟨#[]⟩, .slice none 0 0, .slice none 0 0, .int .i64 2, .int .i64 (q), .string ⟨#[]⟩, .slice none 0 0, .slice none 0 0] T (0, 0))) (hb : (-9223372036854775808 ≤ p ∧ p ≤ 9223372036854775807) ∧ -9223372036854775808 ≤ q ∧ q ≤ 9223372036854775807) :
    Calls Tryz.prog 12 #[.int .i64 12, .agg #[.int .i64 0, .int .i64 0, .string ⟨#[]⟩, .slice none 0 0, .slice none 0 0], .slice (some ⟨g, 0, none⟩) 2 2] w fun e w' => e = .returned (.tuple #[.agg #[.int .i64 2, .int .i64 (IntKind.wrap .i64 (p * q)), .string ⟨#[]⟩, .slice none 0 0, .slice none 0 0], .int .i64 0]) ∧ Below w.heap.size w w' := by
  have hl : g < w.heap.size := (Array.getElem?_eq_some_iff.1 hr).1
  refine (do_go 12 4 4 0 false 50 op_mul vlz 0 0 ⟨#[]⟩ none 0 0 none 0 0 [nm p, nm q] (some ⟨g, 0, none⟩) 2 2 w.heap.size w ht (plain_is w _ 0 0 (by omega) (by omega)) (two_is hb.1 hb.2 hr) (Nat.le_refl _) (may_mul p q) ((kd_two p q).2.2) (by omega) (by omega) (by omega) (by intro h; cases h) (fit_mul p q) (enters_of Tryz.func50 (by kernel_rfl) rfl)
    (fun y0 y1 y2 y3 y4 y5 y6 y7 y8 t _ _ => (.tuple #[.agg #[.int .i64 y0, .int .i64 y1, .string y2, .slice y3 y4 y5, .slice y6 y7 y8], .int .i64 t] : Value) = .tuple #[.agg #[.int .i64 2, .int .i64 (IntKind.wrap .i64 (p * q)), .string ⟨#[]⟩, .slice none 0 0, .slice none 0 0], .int .i64 0]) (fun u hu => ?_)).mono ?_
  · have hcell : ∀ j v, ([.int .i64 2, .int .i64 (p), .string ⟨#[]⟩, .slice none 0 0, .slice none 0 0, .int .i64 2, .int .i64 (q), .string ⟨#[]⟩, .slice none 0 0, .slice none 0 0] : List Value)[j]? = some v → u.cell? ⟨g, 0 + j, none⟩ = some v := fun j v hv => by
      rw [Nat.zero_add, cell_of_row u g j _ _ (0, 0) ((hu.block g hl).trans hr)]
      simpa using hv
    refine (mul_num 0 0 ⟨#[]⟩ none 0 0 none 0 0 ⟨g, 0, none⟩ 2 2 p q u (by omega) (Nat.lt_of_lt_of_le hl hu.size) (hcell 1 _ rfl) (hcell 6 _ rfl)).mono ?_
    rintro e w' ⟨rfl, hb⟩
    exact ⟨_, _, _, _, _, _, _, _, _, _, rfl, rfl, hb⟩
  · rintro e w' ⟨y0, y1, y2, y3, y4, y5, y6, y7, y8, t, rfl, ⟨u, u', _, hQ, _⟩, hb⟩
    exact ⟨by rw [hQ], hb⟩
theorem may_div (p q : Int) : mayB 13 vlz [nm p, nm q] = true := by
  have h : takesA 13 2 vlz = 2 := by
    unfold takesA
    rw [if_pos (by decide), if_neg (by decide), if_neg (by decide)]
    kernel_rfl
  unfold mayB
  simp [h, right_z, right_nm]
theorem fit_div (p q : Int) : fitsB 4 4 0 false [nm p, nm q] = true := by
  unfold fitsB fit1
  rw [(kd_two p q).1, (kd_two p q).2.1]
  simp [b28, b4]

set_option maxRecDepth 100000 in
theorem do_div (p q : Int) (g cl : Nat) (T : TypeId) (w : World) (ht : Tab w) (hr : w.heap[g]? = some (.cells #[.int .i64 2, .int .i64 (p), .string ⟨#[]⟩, .slice none 0 0, .slice none 0 0, .int .i64 2, .int .i64 (q), .string ⟨#[]⟩, .slice none 0 0, .slice none 0 0] T (0, 0))) (hb : (-9223372036854775808 ≤ p ∧ p ≤ 9223372036854775807) ∧ -9223372036854775808 ≤ q ∧ q ≤ 9223372036854775807) (hq : ¬ q = 0) :
    Calls Tryz.prog 12 #[.int .i64 13, .agg #[.int .i64 0, .int .i64 0, .string ⟨#[]⟩, .slice none 0 0, .slice none 0 0], .slice (some ⟨g, 0, none⟩) 2 2] w fun e w' => e = .returned (.tuple #[.agg #[.int .i64 2, .int .i64 (IntKind.wrap .i64 (p.tdiv q)), .string ⟨#[]⟩, .slice none 0 0, .slice none 0 0], .int .i64 0]) ∧ Below w.heap.size w w' := by
  have hl : g < w.heap.size := (Array.getElem?_eq_some_iff.1 hr).1
  refine (do_go 13 4 4 0 false 51 op_div vlz 0 0 ⟨#[]⟩ none 0 0 none 0 0 [nm p, nm q] (some ⟨g, 0, none⟩) 2 2 w.heap.size w ht (plain_is w _ 0 0 (by omega) (by omega)) (two_is hb.1 hb.2 hr) (Nat.le_refl _) (may_div p q) ((kd_two p q).2.2) (by omega) (by omega) (by omega) (by intro h; cases h) (fit_div p q) (enters_of Tryz.func51 (by kernel_rfl) rfl)
    (fun y0 y1 y2 y3 y4 y5 y6 y7 y8 t _ _ => (.tuple #[.agg #[.int .i64 y0, .int .i64 y1, .string y2, .slice y3 y4 y5, .slice y6 y7 y8], .int .i64 t] : Value) = .tuple #[.agg #[.int .i64 2, .int .i64 (IntKind.wrap .i64 (p.tdiv q)), .string ⟨#[]⟩, .slice none 0 0, .slice none 0 0], .int .i64 0]) (fun u hu => ?_)).mono ?_
  · have hcell : ∀ j v, ([.int .i64 2, .int .i64 (p), .string ⟨#[]⟩, .slice none 0 0, .slice none 0 0, .int .i64 2, .int .i64 (q), .string ⟨#[]⟩, .slice none 0 0, .slice none 0 0] : List Value)[j]? = some v → u.cell? ⟨g, 0 + j, none⟩ = some v := fun j v hv => by
      rw [Nat.zero_add, cell_of_row u g j _ _ (0, 0) ((hu.block g hl).trans hr)]
      simpa using hv
    refine (div_num 0 0 ⟨#[]⟩ none 0 0 none 0 0 ⟨g, 0, none⟩ 2 2 p q u (by omega) (Nat.lt_of_lt_of_le hl hu.size) (hcell 1 _ rfl) (hcell 6 _ rfl) hq).mono ?_
    rintro e w' ⟨rfl, hb⟩
    exact ⟨_, _, _, _, _, _, _, _, _, _, rfl, rfl, hb⟩
  · rintro e w' ⟨y0, y1, y2, y3, y4, y5, y6, y7, y8, t, rfl, ⟨u, u', _, hQ, _⟩, hb⟩
    exact ⟨by rw [hQ], hb⟩

set_option maxRecDepth 100000 in
theorem do_div0 (p q : Int) (g cl : Nat) (T : TypeId) (w : World) (ht : Tab w) (hr : w.heap[g]? = some (.cells #[.int .i64 2, .int .i64 (p), .string ⟨#[]⟩, .slice none 0 0, .slice none 0 0, .int .i64 2, .int .i64 (q), .string ⟨#[]⟩, .slice none 0 0, .slice none 0 0] T (0, 0))) (hb : (-9223372036854775808 ≤ p ∧ p ≤ 9223372036854775807) ∧ -9223372036854775808 ≤ q ∧ q ≤ 9223372036854775807) (hq : q = 0) :
    Calls Tryz.prog 12 #[.int .i64 13, .agg #[.int .i64 0, .int .i64 0, .string ⟨#[]⟩, .slice none 0 0, .slice none 0 0], .slice (some ⟨g, 0, none⟩) 2 2] w fun e w' => e = .returned (.tuple #[.agg #[.int .i64 0, .int .i64 0, .string ⟨#[]⟩, .slice none 0 0, .slice none 0 0], .int .i64 1]) ∧ Below w.heap.size w w' := by
  have hl : g < w.heap.size := (Array.getElem?_eq_some_iff.1 hr).1
  refine (do_go 13 4 4 0 false 51 op_div vlz 0 0 ⟨#[]⟩ none 0 0 none 0 0 [nm p, nm q] (some ⟨g, 0, none⟩) 2 2 w.heap.size w ht (plain_is w _ 0 0 (by omega) (by omega)) (two_is hb.1 hb.2 hr) (Nat.le_refl _) (may_div p q) ((kd_two p q).2.2) (by omega) (by omega) (by omega) (by intro h; cases h) (fit_div p q) (enters_of Tryz.func51 (by kernel_rfl) rfl)
    (fun y0 y1 y2 y3 y4 y5 y6 y7 y8 t _ _ => (.tuple #[.agg #[.int .i64 y0, .int .i64 y1, .string y2, .slice y3 y4 y5, .slice y6 y7 y8], .int .i64 t] : Value) = .tuple #[.agg #[.int .i64 0, .int .i64 0, .string ⟨#[]⟩, .slice none 0 0, .slice none 0 0], .int .i64 1]) (fun u hu => ?_)).mono ?_
  · have hcell : ∀ j v, ([.int .i64 2, .int .i64 (p), .string ⟨#[]⟩, .slice none 0 0, .slice none 0 0, .int .i64 2, .int .i64 (q), .string ⟨#[]⟩, .slice none 0 0, .slice none 0 0] : List Value)[j]? = some v → u.cell? ⟨g, 0 + j, none⟩ = some v := fun j v hv => by
      rw [Nat.zero_add, cell_of_row u g j _ _ (0, 0) ((hu.block g hl).trans hr)]
      simpa using hv
    refine (div_zero 0 0 ⟨#[]⟩ none 0 0 none 0 0 ⟨g, 0, none⟩ 2 2 p q u (by omega) (Nat.lt_of_lt_of_le hl hu.size) (hcell 1 _ rfl) (hcell 6 _ rfl) hq).mono ?_
    rintro e w' ⟨rfl, hb⟩
    exact ⟨_, _, _, _, _, _, _, _, _, _, rfl, rfl, hb⟩
  · rintro e w' ⟨y0, y1, y2, y3, y4, y5, y6, y7, y8, t, rfl, ⟨u, u', _, hQ, _⟩, hb⟩
    exact ⟨by rw [hQ], hb⟩
theorem may_rem (p q : Int) : mayB 14 vlz [nm p, nm q] = true := by
  have h : takesA 14 2 vlz = 2 := by
    unfold takesA
    rw [if_pos (by decide), if_neg (by decide), if_neg (by decide)]
    kernel_rfl
  unfold mayB
  simp [h, right_z, right_nm]
theorem fit_rem (p q : Int) : fitsB 4 4 0 false [nm p, nm q] = true := by
  unfold fitsB fit1
  rw [(kd_two p q).1, (kd_two p q).2.1]
  simp [b28, b4]

set_option maxRecDepth 100000 in
theorem do_rem (p q : Int) (g cl : Nat) (T : TypeId) (w : World) (ht : Tab w) (hr : w.heap[g]? = some (.cells #[.int .i64 2, .int .i64 (p), .string ⟨#[]⟩, .slice none 0 0, .slice none 0 0, .int .i64 2, .int .i64 (q), .string ⟨#[]⟩, .slice none 0 0, .slice none 0 0] T (0, 0))) (hb : (-9223372036854775808 ≤ p ∧ p ≤ 9223372036854775807) ∧ -9223372036854775808 ≤ q ∧ q ≤ 9223372036854775807) (hq : ¬ q = 0) :
    Calls Tryz.prog 12 #[.int .i64 14, .agg #[.int .i64 0, .int .i64 0, .string ⟨#[]⟩, .slice none 0 0, .slice none 0 0], .slice (some ⟨g, 0, none⟩) 2 2] w fun e w' => e = .returned (.tuple #[.agg #[.int .i64 2, .int .i64 (p.tmod q), .string ⟨#[]⟩, .slice none 0 0, .slice none 0 0], .int .i64 0]) ∧ Below w.heap.size w w' := by
  have hl : g < w.heap.size := (Array.getElem?_eq_some_iff.1 hr).1
  refine (do_go 14 4 4 0 false 52 op_rem vlz 0 0 ⟨#[]⟩ none 0 0 none 0 0 [nm p, nm q] (some ⟨g, 0, none⟩) 2 2 w.heap.size w ht (plain_is w _ 0 0 (by omega) (by omega)) (two_is hb.1 hb.2 hr) (Nat.le_refl _) (may_rem p q) ((kd_two p q).2.2) (by omega) (by omega) (by omega) (by intro h; cases h) (fit_rem p q) (enters_of Tryz.func52 (by kernel_rfl) rfl)
    (fun y0 y1 y2 y3 y4 y5 y6 y7 y8 t _ _ => (.tuple #[.agg #[.int .i64 y0, .int .i64 y1, .string y2, .slice y3 y4 y5, .slice y6 y7 y8], .int .i64 t] : Value) = .tuple #[.agg #[.int .i64 2, .int .i64 (p.tmod q), .string ⟨#[]⟩, .slice none 0 0, .slice none 0 0], .int .i64 0]) (fun u hu => ?_)).mono ?_
  · have hcell : ∀ j v, ([.int .i64 2, .int .i64 (p), .string ⟨#[]⟩, .slice none 0 0, .slice none 0 0, .int .i64 2, .int .i64 (q), .string ⟨#[]⟩, .slice none 0 0, .slice none 0 0] : List Value)[j]? = some v → u.cell? ⟨g, 0 + j, none⟩ = some v := fun j v hv => by
      rw [Nat.zero_add, cell_of_row u g j _ _ (0, 0) ((hu.block g hl).trans hr)]
      simpa using hv
    refine (rem_num 0 0 ⟨#[]⟩ none 0 0 none 0 0 ⟨g, 0, none⟩ 2 2 p q u (by omega) (Nat.lt_of_lt_of_le hl hu.size) (hcell 1 _ rfl) (hcell 6 _ rfl) hq).mono ?_
    rintro e w' ⟨rfl, hb⟩
    exact ⟨_, _, _, _, _, _, _, _, _, _, rfl, rfl, hb⟩
  · rintro e w' ⟨y0, y1, y2, y3, y4, y5, y6, y7, y8, t, rfl, ⟨u, u', _, hQ, _⟩, hb⟩
    exact ⟨by rw [hQ], hb⟩

set_option maxRecDepth 100000 in
theorem do_rem0 (p q : Int) (g cl : Nat) (T : TypeId) (w : World) (ht : Tab w) (hr : w.heap[g]? = some (.cells #[.int .i64 2, .int .i64 (p), .string ⟨#[]⟩, .slice none 0 0, .slice none 0 0, .int .i64 2, .int .i64 (q), .string ⟨#[]⟩, .slice none 0 0, .slice none 0 0] T (0, 0))) (hb : (-9223372036854775808 ≤ p ∧ p ≤ 9223372036854775807) ∧ -9223372036854775808 ≤ q ∧ q ≤ 9223372036854775807) (hq : q = 0) :
    Calls Tryz.prog 12 #[.int .i64 14, .agg #[.int .i64 0, .int .i64 0, .string ⟨#[]⟩, .slice none 0 0, .slice none 0 0], .slice (some ⟨g, 0, none⟩) 2 2] w fun e w' => e = .returned (.tuple #[.agg #[.int .i64 0, .int .i64 0, .string ⟨#[]⟩, .slice none 0 0, .slice none 0 0], .int .i64 1]) ∧ Below w.heap.size w w' := by
  have hl : g < w.heap.size := (Array.getElem?_eq_some_iff.1 hr).1
  refine (do_go 14 4 4 0 false 52 op_rem vlz 0 0 ⟨#[]⟩ none 0 0 none 0 0 [nm p, nm q] (some ⟨g, 0, none⟩) 2 2 w.heap.size w ht (plain_is w _ 0 0 (by omega) (by omega)) (two_is hb.1 hb.2 hr) (Nat.le_refl _) (may_rem p q) ((kd_two p q).2.2) (by omega) (by omega) (by omega) (by intro h; cases h) (fit_rem p q) (enters_of Tryz.func52 (by kernel_rfl) rfl)
    (fun y0 y1 y2 y3 y4 y5 y6 y7 y8 t _ _ => (.tuple #[.agg #[.int .i64 y0, .int .i64 y1, .string y2, .slice y3 y4 y5, .slice y6 y7 y8], .int .i64 t] : Value) = .tuple #[.agg #[.int .i64 0, .int .i64 0, .string ⟨#[]⟩, .slice none 0 0, .slice none 0 0], .int .i64 1]) (fun u hu => ?_)).mono ?_
  · have hcell : ∀ j v, ([.int .i64 2, .int .i64 (p), .string ⟨#[]⟩, .slice none 0 0, .slice none 0 0, .int .i64 2, .int .i64 (q), .string ⟨#[]⟩, .slice none 0 0, .slice none 0 0] : List Value)[j]? = some v → u.cell? ⟨g, 0 + j, none⟩ = some v := fun j v hv => by
      rw [Nat.zero_add, cell_of_row u g j _ _ (0, 0) ((hu.block g hl).trans hr)]
      simpa using hv
    refine (rem_zero 0 0 ⟨#[]⟩ none 0 0 none 0 0 ⟨g, 0, none⟩ 2 2 p q u (by omega) (Nat.lt_of_lt_of_le hl hu.size) (hcell 1 _ rfl) (hcell 6 _ rfl) hq).mono ?_
    rintro e w' ⟨rfl, hb⟩
    exact ⟨_, _, _, _, _, _, _, _, _, _, rfl, rfl, hb⟩
  · rintro e w' ⟨y0, y1, y2, y3, y4, y5, y6, y7, y8, t, rfl, ⟨u, u', _, hQ, _⟩, hb⟩
    exact ⟨by rw [hQ], hb⟩
theorem may_neg (p q : Int) : mayB 15 vlz [nm p] = true := by
  have h : takesA 15 1 vlz = 1 := by
    unfold takesA
    rw [if_pos (by decide), if_neg (by decide), if_neg (by decide)]
    kernel_rfl
  unfold mayB
  simp [h, right_z, right_nm]
theorem fit_neg (p q : Int) : fitsB 4 0 0 false [nm p] = true := by
  unfold fitsB fit1
  rw [(kd_one p).1]
  simp [b28, b4]

set_option maxRecDepth 100000 in
theorem do_neg (p q : Int) (g cl : Nat) (T : TypeId) (w : World) (ht : Tab w) (cs : Array Value) (hr : w.heap[g]? = some (.cells cs T (0, 0))) (hc : ∀ (j : Nat) (v : Value), ([.int .i64 2, .int .i64 (p), .string ⟨#[]⟩, .slice none 0 0, .slice none 0 0] : List Value)[j]? = some v → cs[j]? = some v) (hcl : 1 ≤ cl) (hb : -9223372036854775808 ≤ p ∧ p ≤ 9223372036854775807) :
    Calls Tryz.prog 12 #[.int .i64 15, .agg #[.int .i64 0, .int .i64 0, .string ⟨#[]⟩, .slice none 0 0, .slice none 0 0], .slice (some ⟨g, 0, none⟩) 1 cl] w fun e w' => e = .returned (.tuple #[.agg #[.int .i64 2, .int .i64 (wrap64 (-p)), .string ⟨#[]⟩, .slice none 0 0, .slice none 0 0], .int .i64 0]) ∧ Below w.heap.size w w' := by
  have hl : g < w.heap.size := (Array.getElem?_eq_some_iff.1 hr).1
  refine (do_go 15 4 0 0 false 53 op_neg vlz 0 0 ⟨#[]⟩ none 0 0 none 0 0 [nm p] (some ⟨g, 0, none⟩) 1 cl w.heap.size w ht (plain_is w _ 0 0 (by omega) (by omega)) (one_is hb hcl hr hc) (Nat.le_refl _) (may_neg p q) ((kd_one p).2) (by omega) (by omega) (by omega) (by intro h; cases h) (fit_neg p q) (enters_of Tryz.func53 (by kernel_rfl) rfl)
    (fun y0 y1 y2 y3 y4 y5 y6 y7 y8 t _ _ => (.tuple #[.agg #[.int .i64 y0, .int .i64 y1, .string y2, .slice y3 y4 y5, .slice y6 y7 y8], .int .i64 t] : Value) = .tuple #[.agg #[.int .i64 2, .int .i64 (wrap64 (-p)), .string ⟨#[]⟩, .slice none 0 0, .slice none 0 0], .int .i64 0]) (fun u hu => ?_)).mono ?_
  · have hcell : ∀ j v, ([.int .i64 2, .int .i64 (p), .string ⟨#[]⟩, .slice none 0 0, .slice none 0 0] : List Value)[j]? = some v → u.cell? ⟨g, 0 + j, none⟩ = some v := fun j v hv => by
      rw [Nat.zero_add, cell_of_row u g j _ _ (0, 0) ((hu.block g hl).trans hr)]
      exact hc j v hv
    refine (neg_num 0 0 ⟨#[]⟩ none 0 0 none 0 0 ⟨g, 0, none⟩ 1 cl p u (by omega) (Nat.lt_of_lt_of_le hl hu.size) (hcell 1 _ rfl)).mono ?_
    rintro e w' ⟨rfl, hb⟩
    exact ⟨_, _, _, _, _, _, _, _, _, _, rfl, rfl, hb⟩
  · rintro e w' ⟨y0, y1, y2, y3, y4, y5, y6, y7, y8, t, rfl, ⟨u, u', _, hQ, _⟩, hb⟩
    exact ⟨by rw [hQ], hb⟩
end Go.Proofs.YtgkmdjmigehmeaaGreatDoor
