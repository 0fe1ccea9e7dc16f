/-
  Do of comparisons of any two values (prim), and how a law asks for them; conditions: the package's variables.
-/
import Derived.Test.YtgkmdjmigehmeaaGreatDoorJ43
set_option linter.unusedVariables false
set_option linter.unusedSimpArgs false
namespace Go.Proofs.YtgkmdjmigehmeaaGreatDoor
open Go.RowKit Go.Shelf
set_option linter.unusedVariables false
set_option linter.unusedSimpArgs false

theorem right_kind {v : Vl} (h : rightB v = true) : 0 ≤ v.kind ∧ v.kind ≤ 5 := by
  obtain ⟨k, n, s, l, ks⟩ := v
  unfold rightB at h
  rw [Bool.and_eq_true] at h
  have h1 := h.1
  unfold okB at h1
  rw [Bool.and_eq_true] at h1
  have h2 := h1.1
  unfold formB formM at h2
  show 0 ≤ k ∧ k ≤ 5
  by_cases hk : 0 ≤ k ∧ k ≤ 5
  · exact hk
  · rw [if_neg (by omega), if_neg (by omega), if_neg (by omega), if_neg (by omega), if_neg (by omega), if_neg (by omega)] at h2
    cases h2

theorem kdAt_two (x y : Vl) : kdAt [x, y] 0 = x.kind ∧ kdAt [x, y] 1 = y.kind ∧ ∀ i, kdAt [x, y] (i + 2) = 0 := ⟨rfl, rfl, fun i => by simp [kdAt]⟩

theorem kd_right {x y : Vl} (hx : rightB x = true) (hy : rightB y = true) : ∀ i, 0 ≤ kdAt [x, y] i ∧ kdAt [x, y] i ≤ 5 := by
  obtain ⟨k0, k1, k2⟩ := kdAt_two x y
  intro i
  rcases i with _ | _ | i
  · rw [k0]; exact right_kind hx
  · rw [k1]; exact right_kind hy
  · rw [k2 i]; omega

/-- two values in a row of their own -/
theorem two_of {w : World} {g B : Nat} {T : TypeId} {p0 p1 : Int} {p2 : ByteArray} {p3 : Option Addr} {p4 p5 : Nat} {p6 : Option Addr} {p7 p8 : Nat} {q0 q1 : Int} {q2 : ByteArray} {q3 : Option Addr} {q4 q5 : Nat} {q6 : Option Addr} {q7 q8 : Nat} {x y : Vl} (hx : IsV w B x (.agg #[.int .i64 p0, .int .i64 p1, .string p2, .slice p3 p4 p5, .slice p6 p7 p8])) (hy : IsV w B y (.agg #[.int .i64 q0, .int .i64 q1, .string q2, .slice q3 q4 q5, .slice q6 q7 q8])) (hBs : B ≤ w.heap.size) (h : w.heap[g]? = some (.cells #[.int .i64 p0, .int .i64 p1, .string p2, .slice p3 p4 p5, .slice p6 p7 p8, .int .i64 q0, .int .i64 q1, .string q2, .slice q3 q4 q5, .slice q6 q7 q8] T (0, 0))) : ArV w w.heap.size [x, y] (some ⟨g, 0, none⟩) 2 2 := by
  have hl : g < w.heap.size := (Array.getElem?_eq_some_iff.1 h).1
  have hs : (⟨#[]⟩ : ByteArray).size = 0 := rfl
  refine ⟨rfl, some ⟨g, 0, none⟩, none, 2, 0, fun i => if i = 0 then [.int .i64 p0, .int .i64 p1, .string p2, .slice p3 p4 p5, .slice p6 p7 p8] else [.int .i64 q0, .int .i64 q1, .string q2, .slice q3 q4 q5, .slice q6 q7 q8], rfl, ⟨by dsimp only; omega, by dsimp only; omega, by dsimp only; omega, (fun e => by cases e), fun _ => ⟨rfl, rfl⟩, Nat.le_refl _, Nat.le_refl _, by simp, by simp, by simp, ?_, ?_, (fun a h => by cases h), fun t h => by cases h⟩, ?_⟩
  · intro a ha i hi
    cases ha
    refine ⟨hl, fun j v hv => ?_⟩
    have hi2 : i = 0 ∨ i = 1 := by simp at hi; omega
    have hj : j < 5 := by
      have := (List.getElem?_eq_some_iff.1 hv).1
      rcases hi2 with rfl | rfl <;> simpa using this
    have hadd : (((⟨g, 0, none⟩ : Addr).add (i * 5)).add j) = ⟨g, i * 5 + j, none⟩ := by
      simp only [Addr.add]
      split <;> split <;> simp_all
    rw [hadd, cell_of_row w g (i * 5 + j) _ _ (0, 0) h]
    rcases hi2 with rfl | rfl
    · rcases (show j = 0 ∨ j = 1 ∨ j = 2 ∨ j = 3 ∨ j = 4 by omega) with rfl | rfl | rfl | rfl | rfl <;> simpa using hv
    · rcases (show j = 0 ∨ j = 1 ∨ j = 2 ∨ j = 3 ∨ j = 4 by omega) with rfl | rfl | rfl | rfl | rfl <;> simpa using hv
  · intro i hi
    have hi2 : i = 0 ∨ i = 1 := by simp at hi; omega
    rcases hi2 with rfl | rfl <;> rfl
  · rw [IsPL_iff]
    intro i v hv
    rcases i with _ | _ | i
    · simp at hv
      subst hv
      exact IsV.lift hBs hx
    · simp at hv
      subst hv
      exact IsV.lift hBs hy
    · simp at hv

/-- do two values have an order? -/
def ordB (x y : Vl) : Bool := x.kind == y.kind && (x.kind == 2 || x.kind == 3)
/-- does a comparison answer? -/
def okC (k : Nat) (x y : Vl) : Bool := (rightB x && rightB y) && (decide (k < 19) || ordB x y)

theorem fits_none (vs : List Vl) : fitsB 0 0 0 false vs = true := by simp [fitsB, fit1]
theorem fits_ord {x y : Vl} (hx : rightB x = true) : fitsB 12 0 0 true [x, y] = ordB x y := by
  obtain ⟨k0, k1, _⟩ := kdAt_two x y
  have hk := right_kind hx
  unfold fitsB fit1 ordB
  rw [k0, k1]
  have hb : bitK 12 x.kind = (x.kind == 2 || x.kind == 3) := by
    rcases (show x.kind = 0 ∨ x.kind = 1 ∨ x.kind = 2 ∨ x.kind = 3 ∨ x.kind = 4 ∨ x.kind = 5 by omega) with e | e | e | e | e | e <;> (rw [e]; kernel_rfl)
  rw [hb]
  cases h1 : (x.kind == y.kind) <;> cases h2 : (x.kind == 2 || x.kind == 3) <;> simp

def cmpV (k : Nat) (x y : Vl) : Value := if okC k x y then .tuple #[.agg #[.int .i64 1, .int .i64 (tN (tst k (ord0 x y))), .string ⟨#[]⟩, .slice none 0 0, .slice none 0 0], .int .i64 0] else .tuple #[.agg #[.int .i64 0, .int .i64 0, .string ⟨#[]⟩, .slice none 0 0, .slice none 0 0], .int .i64 3]

theorem may_eq (x y : Vl) : mayB 17 vlz [x, y] = (rightB x && rightB y) := by
  have h : takesA 17 2 vlz = 2 := by
    unfold takesA
    rw [if_pos (by decide), if_neg (by decide), if_neg (by decide)]
    kernel_rfl
  unfold mayB
  simp [h, right_z]

set_option maxRecDepth 100000 in
theorem do_eq (x y : Vl) (p0 p1 : Int) (p2 : ByteArray) (p3 : Option Addr) (p4 p5 : Nat) (p6 : Option Addr) (p7 p8 : Nat) (q0 q1 : Int) (q2 : ByteArray) (q3 : Option Addr) (q4 q5 : Nat) (q6 : Option Addr) (q7 q8 : Nat) (g B : Nat) (T : TypeId) (w : World) (ht : Tab w) (hx : IsV w B x (.agg #[.int .i64 p0, .int .i64 p1, .string p2, .slice p3 p4 p5, .slice p6 p7 p8])) (hy : IsV w B y (.agg #[.int .i64 q0, .int .i64 q1, .string q2, .slice q3 q4 q5, .slice q6 q7 q8])) (hBs : B ≤ w.heap.size) (hr : w.heap[g]? = some (.cells #[.int .i64 p0, .int .i64 p1, .string p2, .slice p3 p4 p5, .slice p6 p7 p8, .int .i64 q0, .int .i64 q1, .string q2, .slice q3 q4 q5, .slice q6 q7 q8] T (0, 0))) :
    Calls Tryz.prog 12 #[.int .i64 17, .agg #[.int .i64 0, .int .i64 0, .string ⟨#[]⟩, .slice none 0 0, .slice none 0 0], .slice (some ⟨g, 0, none⟩) 2 2] w fun e w' => e = .returned (cmpV 17 x y) ∧ Below w.heap.size w w' := by
  have hl : g < w.heap.size := (Array.getElem?_eq_some_iff.1 hr).1
  have hA := two_of hx hy hBs hr
  have hz : IsV w w.heap.size vlz (.agg #[.int .i64 0, .int .i64 0, .string ⟨#[]⟩, .slice none 0 0, .slice none 0 0]) := plain_is w _ 0 0 (by omega) (by omega)
  cases hm : (rightB x && rightB y) with
  | false =>
    have e : cmpV 17 x y = .tuple #[.agg #[.int .i64 0, .int .i64 0, .string ⟨#[]⟩, .slice none 0 0, .slice none 0 0], .int .i64 3] := by unfold cmpV okC; rw [hm]; rfl
    rw [e]
    exact do_bad 17 vlz 0 0 ⟨#[]⟩ none 0 0 none 0 0 [x, y] (some ⟨g, 0, none⟩) 2 2 w.heap.size w ht hz hA (Nat.le_refl _) ((may_eq x y).trans hm)
  | true =>
    have hxy := hm
    rw [Bool.and_eq_true] at hxy
    cases hf : fitsB 0 0 0 false [x, y] with
    | false =>
      have e : cmpV 17 x y = .tuple #[.agg #[.int .i64 0, .int .i64 0, .string ⟨#[]⟩, .slice none 0 0, .slice none 0 0], .int .i64 3] := by
        rw [fits_none] at hf; cases hf
      rw [e]
      exact do_unfit 17 0 0 0 false 55 op_eq vlz 0 0 ⟨#[]⟩ none 0 0 none 0 0 [x, y] (some ⟨g, 0, none⟩) 2 2 w.heap.size w ht hz hA (Nat.le_refl _) ((may_eq x y).trans hm) (kd_right hxy.1 hxy.2) (by omega) (by omega) (by omega) (by intro; omega) hf
    | true =>
      have e : cmpV 17 x y = .tuple #[.agg #[.int .i64 1, .int .i64 (tN (tst 17 (ord0 x y))), .string ⟨#[]⟩, .slice none 0 0, .slice none 0 0], .int .i64 0] := by
        unfold cmpV okC; rw [hm]; rfl
      rw [e]
      refine (do_go 17 0 0 0 false 55 op_eq vlz 0 0 ⟨#[]⟩ none 0 0 none 0 0 [x, y] (some ⟨g, 0, none⟩) 2 2 w.heap.size w ht hz hA (Nat.le_refl _) ((may_eq x y).trans hm) (kd_right hxy.1 hxy.2) (by omega) (by omega) (by omega) (by intro; omega) hf (enters_of Tryz.func55 (by kernel_rfl) rfl)
        (fun y0 y1 y2 y3 y4 y5 y6 y7 y8 t _ _ => (.tuple #[.agg #[.int .i64 y0, .int .i64 y1, .string y2, .slice y3 y4 y5, .slice y6 y7 y8], .int .i64 t] : Value) = .tuple #[.agg #[.int .i64 1, .int .i64 (tN (tst 17 (ord0 x y))), .string ⟨#[]⟩, .slice none 0 0, .slice none 0 0], .int .i64 0]) (fun u hu => ?_)).mono ?_
      · have hcell : ∀ j v, ([.int .i64 p0, .int .i64 p1, .string p2, .slice p3 p4 p5, .slice p6 p7 p8, .int .i64 q0, .int .i64 q1, .string q2, .slice q3 q4 q5, .slice q6 q7 q8] : List Value)[j]? = some v → u.cell? ⟨g, 0 + j, none⟩ = some v := fun j v hv => by
          rw [Nat.zero_add, cell_of_row u g j _ _ (0, 0) ((hu.block g hl).trans hr)]
          simpa using hv
        refine (eq_any 0 0 ⟨#[]⟩ none 0 0 none 0 0 ⟨g, 0, none⟩ 2 2 p0 p1 p2 p3 p4 p5 p6 p7 p8 q0 q1 q2 q3 q4 q5 q6 q7 q8 x y B u (by omega) (Nat.lt_of_lt_of_le hl hu.size) (hcell 0 _ rfl) (hcell 1 _ rfl) (hcell 2 _ rfl) (hcell 3 _ rfl) (hcell 4 _ rfl) (hcell 5 _ rfl) (hcell 6 _ rfl) (hcell 7 _ rfl) (hcell 8 _ rfl) (hcell 9 _ rfl) (IsV.mono (hu.mono hBs) hx) (IsV.mono (hu.mono hBs) hy) (Nat.le_trans hBs hu.size)).mono ?_
        rintro e w' ⟨rfl, hb⟩
        exact ⟨_, _, _, _, _, _, _, _, _, _, rfl, rfl, hb⟩
      · rintro e w' ⟨y0, y1, y2, y3, y4, y5, y6, y7, y8, t, rfl, ⟨u, u', _, hQ, _⟩, hb⟩
        exact ⟨by rw [hQ], hb⟩

theorem may_ne (x y : Vl) : mayB 18 vlz [x, y] = (rightB x && rightB y) := by
  have h : takesA 18 2 vlz = 2 := by
    unfold takesA
    rw [if_pos (by decide), if_neg (by decide), if_neg (by decide)]
    kernel_rfl
  unfold mayB
  simp [h, right_z]

set_option maxRecDepth 100000 in
theorem do_ne (x y : Vl) (p0 p1 : Int) (p2 : ByteArray) (p3 : Option Addr) (p4 p5 : Nat) (p6 : Option Addr) (p7 p8 : Nat) (q0 q1 : Int) (q2 : ByteArray) (q3 : Option Addr) (q4 q5 : Nat) (q6 : Option Addr) (q7 q8 : Nat) (g B : Nat) (T : TypeId) (w : World) (ht : Tab w) (hx : IsV w B x (.agg #[.int .i64 p0, .int .i64 p1, .string p2, .slice p3 p4 p5, .slice p6 p7 p8])) (hy : IsV w B y (.agg #[.int .i64 q0, .int .i64 q1, .string q2, .slice q3 q4 q5, .slice q6 q7 q8])) (hBs : B ≤ w.heap.size) (hr : w.heap[g]? = some (.cells #[.int .i64 p0, .int .i64 p1, .string p2, .slice p3 p4 p5, .slice p6 p7 p8, .int .i64 q0, .int .i64 q1, .string q2, .slice q3 q4 q5, .slice q6 q7 q8] T (0, 0))) :
    Calls Tryz.prog 12 #[.int .i64 18, .agg #[.int .i64 0, .int .i64 0, .string ⟨#[]⟩, .slice none 0 0, .slice none 0 0], .slice (some ⟨g, 0, none⟩) 2 2] w fun e w' => e = .returned (cmpV 18 x y) ∧ Below w.heap.size w w' := by
  have hl : g < w.heap.size := (Array.getElem?_eq_some_iff.1 hr).1
  have hA := two_of hx hy hBs hr
  have hz : IsV w w.heap.size vlz (.agg #[.int .i64 0, .int .i64 0, .string ⟨#[]⟩, .slice none 0 0, .slice none 0 0]) := plain_is w _ 0 0 (by omega) (by omega)
  cases hm : (rightB x && rightB y) with
  | false =>
    have e : cmpV 18 x y = .tuple #[.agg #[.int .i64 0, .int .i64 0, .string ⟨#[]⟩, .slice none 0 0, .slice none 0 0], .int .i64 3] := by unfold cmpV okC; rw [hm]; rfl
    rw [e]
    exact do_bad 18 vlz 0 0 ⟨#[]⟩ none 0 0 none 0 0 [x, y] (some ⟨g, 0, none⟩) 2 2 w.heap.size w ht hz hA (Nat.le_refl _) ((may_ne x y).trans hm)
  | true =>
    have hxy := hm
    rw [Bool.and_eq_true] at hxy
    cases hf : fitsB 0 0 0 false [x, y] with
    | false =>
      have e : cmpV 18 x y = .tuple #[.agg #[.int .i64 0, .int .i64 0, .string ⟨#[]⟩, .slice none 0 0, .slice none 0 0], .int .i64 3] := by
        rw [fits_none] at hf; cases hf
      rw [e]
      exact do_unfit 18 0 0 0 false 56 op_ne vlz 0 0 ⟨#[]⟩ none 0 0 none 0 0 [x, y] (some ⟨g, 0, none⟩) 2 2 w.heap.size w ht hz hA (Nat.le_refl _) ((may_ne x y).trans hm) (kd_right hxy.1 hxy.2) (by omega) (by omega) (by omega) (by intro; omega) hf
    | true =>
      have e : cmpV 18 x y = .tuple #[.agg #[.int .i64 1, .int .i64 (tN (tst 18 (ord0 x y))), .string ⟨#[]⟩, .slice none 0 0, .slice none 0 0], .int .i64 0] := by
        unfold cmpV okC; rw [hm]; rfl
      rw [e]
      refine (do_go 18 0 0 0 false 56 op_ne vlz 0 0 ⟨#[]⟩ none 0 0 none 0 0 [x, y] (some ⟨g, 0, none⟩) 2 2 w.heap.size w ht hz hA (Nat.le_refl _) ((may_ne x y).trans hm) (kd_right hxy.1 hxy.2) (by omega) (by omega) (by omega) (by intro; omega) hf (enters_of Tryz.func56 (by kernel_rfl) rfl)
        (fun y0 y1 y2 y3 y4 y5 y6 y7 y8 t _ _ => (.tuple #[.agg #[.int .i64 y0, .int .i64 y1, .string y2, .slice y3 y4 y5, .slice y6 y7 y8], .int .i64 t] : Value) = .tuple #[.agg #[.int .i64 1, .int .i64 (tN (tst 18 (ord0 x y))), .string ⟨#[]⟩, .slice none 0 0, .slice none 0 0], .int .i64 0]) (fun u hu => ?_)).mono ?_
      · have hcell : ∀ j v, ([.int .i64 p0, .int .i64 p1, .string p2, .slice p3 p4 p5, .slice p6 p7 p8, .int .i64 q0, .int .i64 q1, .string q2, .slice q3 q4 q5, .slice q6 q7 q8] : List Value)[j]? = some v → u.cell? ⟨g, 0 + j, none⟩ = some v := fun j v hv => by
          rw [Nat.zero_add, cell_of_row u g j _ _ (0, 0) ((hu.block g hl).trans hr)]
          simpa using hv
        refine (ne_any 0 0 ⟨#[]⟩ none 0 0 none 0 0 ⟨g, 0, none⟩ 2 2 p0 p1 p2 p3 p4 p5 p6 p7 p8 q0 q1 q2 q3 q4 q5 q6 q7 q8 x y B u (by omega) (Nat.lt_of_lt_of_le hl hu.size) (hcell 0 _ rfl) (hcell 1 _ rfl) (hcell 2 _ rfl) (hcell 3 _ rfl) (hcell 4 _ rfl) (hcell 5 _ rfl) (hcell 6 _ rfl) (hcell 7 _ rfl) (hcell 8 _ rfl) (hcell 9 _ rfl) (IsV.mono (hu.mono hBs) hx) (IsV.mono (hu.mono hBs) hy) (Nat.le_trans hBs hu.size)).mono ?_
        rintro e w' ⟨rfl, hb⟩
        exact ⟨_, _, _, _, _, _, _, _, _, _, rfl, rfl, hb⟩
      · rintro e w' ⟨y0, y1, y2, y3, y4, y5, y6, y7, y8, t, rfl, ⟨u, u', _, hQ, _⟩, hb⟩
        exact ⟨by rw [hQ], hb⟩

theorem may_lt (x y : Vl) : mayB 19 vlz [x, y] = (rightB x && rightB y) := by
  have h : takesA 19 2 vlz = 2 := by
    unfold takesA
    rw [if_pos (by decide), if_neg (by decide), if_neg (by decide)]
    kernel_rfl
  unfold mayB
  simp [h, right_z]

set_option maxRecDepth 100000 in
theorem do_lt (x y : Vl) (p0 p1 : Int) (p2 : ByteArray) (p3 : Option Addr) (p4 p5 : Nat) (p6 : Option Addr) (p7 p8 : Nat) (q0 q1 : Int) (q2 : ByteArray) (q3 : Option Addr) (q4 q5 : Nat) (q6 : Option Addr) (q7 q8 : Nat) (g B : Nat) (T : TypeId) (w : World) (ht : Tab w) (hx : IsV w B x (.agg #[.int .i64 p0, .int .i64 p1, .string p2, .slice p3 p4 p5, .slice p6 p7 p8])) (hy : IsV w B y (.agg #[.int .i64 q0, .int .i64 q1, .string q2, .slice q3 q4 q5, .slice q6 q7 q8])) (hBs : B ≤ w.heap.size) (hr : w.heap[g]? = some (.cells #[.int .i64 p0, .int .i64 p1, .string p2, .slice p3 p4 p5, .slice p6 p7 p8, .int .i64 q0, .int .i64 q1, .string q2, .slice q3 q4 q5, .slice q6 q7 q8] T (0, 0))) :
    Calls Tryz.prog 12 #[.int .i64 19, .agg #[.int .i64 0, .int .i64 0, .string ⟨#[]⟩, .slice none 0 0, .slice none 0 0], .slice (some ⟨g, 0, none⟩) 2 2] w fun e w' => e = .returned (cmpV 19 x y) ∧ Below w.heap.size w w' := by
  have hl : g < w.heap.size := (Array.getElem?_eq_some_iff.1 hr).1
  have hA := two_of hx hy hBs hr
  have hz : IsV w w.heap.size vlz (.agg #[.int .i64 0, .int .i64 0, .string ⟨#[]⟩, .slice none 0 0, .slice none 0 0]) := plain_is w _ 0 0 (by omega) (by omega)
  cases hm : (rightB x && rightB y) with
  | false =>
    have e : cmpV 19 x y = .tuple #[.agg #[.int .i64 0, .int .i64 0, .string ⟨#[]⟩, .slice none 0 0, .slice none 0 0], .int .i64 3] := by unfold cmpV okC; rw [hm]; rfl
    rw [e]
    exact do_bad 19 vlz 0 0 ⟨#[]⟩ none 0 0 none 0 0 [x, y] (some ⟨g, 0, none⟩) 2 2 w.heap.size w ht hz hA (Nat.le_refl _) ((may_lt x y).trans hm)
  | true =>
    have hxy := hm
    rw [Bool.and_eq_true] at hxy
    cases hf : fitsB 12 0 0 true [x, y] with
    | false =>
      have e : cmpV 19 x y = .tuple #[.agg #[.int .i64 0, .int .i64 0, .string ⟨#[]⟩, .slice none 0 0, .slice none 0 0], .int .i64 3] := by
        rw [fits_ord hxy.1] at hf; unfold cmpV okC; rw [hm, hf]; rfl
      rw [e]
      exact do_unfit 19 12 0 0 true 57 op_lt vlz 0 0 ⟨#[]⟩ none 0 0 none 0 0 [x, y] (some ⟨g, 0, none⟩) 2 2 w.heap.size w ht hz hA (Nat.le_refl _) ((may_lt x y).trans hm) (kd_right hxy.1 hxy.2) (by omega) (by omega) (by omega) (by intro; omega) hf
    | true =>
      have e : cmpV 19 x y = .tuple #[.agg #[.int .i64 1, .int .i64 (tN (tst 19 (ord0 x y))), .string ⟨#[]⟩, .slice none 0 0, .slice none 0 0], .int .i64 0] := by
        rw [fits_ord hxy.1] at hf; unfold cmpV okC; rw [hm, hf]; rfl
      rw [e]
      refine (do_go 19 12 0 0 true 57 op_lt vlz 0 0 ⟨#[]⟩ none 0 0 none 0 0 [x, y] (some ⟨g, 0, none⟩) 2 2 w.heap.size w ht hz hA (Nat.le_refl _) ((may_lt x y).trans hm) (kd_right hxy.1 hxy.2) (by omega) (by omega) (by omega) (by intro; omega) hf (enters_of Tryz.func57 (by kernel_rfl) rfl)
        (fun y0 y1 y2 y3 y4 y5 y6 y7 y8 t _ _ => (.tuple #[.agg #[.int .i64 y0, .int .i64 y1, .string y2, .slice y3 y4 y5, .slice y6 y7 y8], .int .i64 t] : Value) = .tuple #[.agg #[.int .i64 1, .int .i64 (tN (tst 19 (ord0 x y))), .string ⟨#[]⟩, .slice none 0 0, .slice none 0 0], .int .i64 0]) (fun u hu => ?_)).mono ?_
      · have hcell : ∀ j v, ([.int .i64 p0, .int .i64 p1, .string p2, .slice p3 p4 p5, .slice p6 p7 p8, .int .i64 q0, .int .i64 q1, .string q2, .slice q3 q4 q5, .slice q6 q7 q8] : List Value)[j]? = some v → u.cell? ⟨g, 0 + j, none⟩ = some v := fun j v hv => by
          rw [Nat.zero_add, cell_of_row u g j _ _ (0, 0) ((hu.block g hl).trans hr)]
          simpa using hv
        refine (lt_any 0 0 ⟨#[]⟩ none 0 0 none 0 0 ⟨g, 0, none⟩ 2 2 p0 p1 p2 p3 p4 p5 p6 p7 p8 q0 q1 q2 q3 q4 q5 q6 q7 q8 x y B u (by omega) (Nat.lt_of_lt_of_le hl hu.size) (hcell 0 _ rfl) (hcell 1 _ rfl) (hcell 2 _ rfl) (hcell 3 _ rfl) (hcell 4 _ rfl) (hcell 5 _ rfl) (hcell 6 _ rfl) (hcell 7 _ rfl) (hcell 8 _ rfl) (hcell 9 _ rfl) (IsV.mono (hu.mono hBs) hx) (IsV.mono (hu.mono hBs) hy) (Nat.le_trans hBs hu.size)).mono ?_
        rintro e w' ⟨rfl, hb⟩
        exact ⟨_, _, _, _, _, _, _, _, _, _, rfl, rfl, hb⟩
      · rintro e w' ⟨y0, y1, y2, y3, y4, y5, y6, y7, y8, t, rfl, ⟨u, u', _, hQ, _⟩, hb⟩
        exact ⟨by rw [hQ], hb⟩

theorem may_le (x y : Vl) : mayB 20 vlz [x, y] = (rightB x && rightB y) := by
  have h : takesA 20 2 vlz = 2 := by
    unfold takesA
    rw [if_pos (by decide), if_neg (by decide), if_neg (by decide)]
    kernel_rfl
  unfold mayB
  simp [h, right_z]

set_option maxRecDepth 100000 in
theorem do_le (x y : Vl) (p0 p1 : Int) (p2 : ByteArray) (p3 : Option Addr) (p4 p5 : Nat) (p6 : Option Addr) (p7 p8 : Nat) (q0 q1 : Int) (q2 : ByteArray) (q3 : Option Addr) (q4 q5 : Nat) (q6 : Option Addr) (q7 q8 : Nat) (g B : Nat) (T : TypeId) (w : World) (ht : Tab w) (hx : IsV w B x (.agg #[.int .i64 p0, .int .i64 p1, .string p2, .slice p3 p4 p5, .slice p6 p7 p8])) (hy : IsV w B y (.agg #[.int .i64 q0, .int .i64 q1, .string q2, .slice q3 q4 q5, .slice q6 q7 q8])) (hBs : B ≤ w.heap.size) (hr : w.heap[g]? = some (.cells #[.int .i64 p0, .int .i64 p1, .string p2, .slice p3 p4 p5, .slice p6 p7 p8, .int .i64 q0, .int .i64 q1, .string q2, .slice q3 q4 q5, .slice q6 q7 q8] T (0, 0))) :
    Calls Tryz.prog 12 #[.int .i64 20, .agg #[.int .i64 0, .int .i64 0, .string ⟨#[]⟩, .slice none 0 0, .slice none 0 0], .slice (some ⟨g, 0, none⟩) 2 2] w fun e w' => e = .returned (cmpV 20 x y) ∧ Below w.heap.size w w' := by
  have hl : g < w.heap.size := (Array.getElem?_eq_some_iff.1 hr).1
  have hA := two_of hx hy hBs hr
  have hz : IsV w w.heap.size vlz (.agg #[.int .i64 0, .int .i64 0, .string ⟨#[]⟩, .slice none 0 0, .slice none 0 0]) := plain_is w _ 0 0 (by omega) (by omega)
  cases hm : (rightB x && rightB y) with
  | false =>
    have e : cmpV 20 x y = .tuple #[.agg #[.int .i64 0, .int .i64 0, .string ⟨#[]⟩, .slice none 0 0, .slice none 0 0], .int .i64 3] := by unfold cmpV okC; rw [hm]; rfl
    rw [e]
    exact do_bad 20 vlz 0 0 ⟨#[]⟩ none 0 0 none 0 0 [x, y] (some ⟨g, 0, none⟩) 2 2 w.heap.size w ht hz hA (Nat.le_refl _) ((may_le x y).trans hm)
  | true =>
    have hxy := hm
    rw [Bool.and_eq_true] at hxy
    cases hf : fitsB 12 0 0 true [x, y] with
    | false =>
      have e : cmpV 20 x y = .tuple #[.agg #[.int .i64 0, .int .i64 0, .string ⟨#[]⟩, .slice none 0 0, .slice none 0 0], .int .i64 3] := by
        rw [fits_ord hxy.1] at hf; unfold cmpV okC; rw [hm, hf]; rfl
      rw [e]
      exact do_unfit 20 12 0 0 true 58 op_le vlz 0 0 ⟨#[]⟩ none 0 0 none 0 0 [x, y] (some ⟨g, 0, none⟩) 2 2 w.heap.size w ht hz hA (Nat.le_refl _) ((may_le x y).trans hm) (kd_right hxy.1 hxy.2) (by omega) (by omega) (by omega) (by intro; omega) hf
    | true =>
      have e : cmpV 20 x y = .tuple #[.agg #[.int .i64 1, .int .i64 (tN (tst 20 (ord0 x y))), .string ⟨#[]⟩, .slice none 0 0, .slice none 0 0], .int .i64 0] := by
        rw [fits_ord hxy.1] at hf; unfold cmpV okC; rw [hm, hf]; rfl
      rw [e]
      refine (do_go 20 12 0 0 true 58 op_le vlz 0 0 ⟨#[]⟩ none 0 0 none 0 0 [x, y] (some ⟨g, 0, none⟩) 2 2 w.heap.size w ht hz hA (Nat.le_refl _) ((may_le x y).trans hm) (kd_right hxy.1 hxy.2) (by omega) (by omega) (by omega) (by intro; omega) hf (enters_of Tryz.func58 (by kernel_rfl) rfl)
        (fun y0 y1 y2 y3 y4 y5 y6 y7 y8 t _ _ => (.tuple #[.agg #[.int .i64 y0, .int .i64 y1, .string y2, .slice y3 y4 y5, .slice y6 y7 y8], .int .i64 t] : Value) = .tuple #[.agg #[.int .i64 1, .int .i64 (tN (tst 20 (ord0 x y))), .string ⟨#[]⟩, .slice none 0 0, .slice none 0 0], .int .i64 0]) (fun u hu => ?_)).mono ?_
      · have hcell : ∀ j v, ([.int .i64 p0, .int .i64 p1, .string p2, .slice p3 p4 p5, .slice p6 p7 p8, .int .i64 q0, .int .i64 q1, .string q2, .slice q3 q4 q5, .slice q6 q7 q8] : List Value)[j]? = some v → u.cell? ⟨g, 0 + j, none⟩ = some v := fun j v hv => by
          rw [Nat.zero_add, cell_of_row u g j _ _ (0, 0) ((hu.block g hl).trans hr)]
          simpa using hv
        refine (le_any 0 0 ⟨#[]⟩ none 0 0 none 0 0 ⟨g, 0, none⟩ 2 2 p0 p1 p2 p3 p4 p5 p6 p7 p8 q0 q1 q2 q3 q4 q5 q6 q7 q8 x y B u (by omega) (Nat.lt_of_lt_of_le hl hu.size) (hcell 0 _ rfl) (hcell 1 _ rfl) (hcell 2 _ rfl) (hcell 3 _ rfl) (hcell 4 _ rfl) (hcell 5 _ rfl) (hcell 6 _ rfl) (hcell 7 _ rfl) (hcell 8 _ rfl) (hcell 9 _ rfl) (IsV.mono (hu.mono hBs) hx) (IsV.mono (hu.mono hBs) hy) (Nat.le_trans hBs hu.size)).mono ?_
        rintro e w' ⟨rfl, hb⟩
        exact ⟨_, _, _, _, _, _, _, _, _, _, rfl, rfl, hb⟩
      · rintro e w' ⟨y0, y1, y2, y3, y4, y5, y6, y7, y8, t, rfl, ⟨u, u', _, hQ, _⟩, hb⟩
        exact ⟨by rw [hQ], hb⟩

theorem may_gt (x y : Vl) : mayB 21 vlz [x, y] = (rightB x && rightB y) := by
  have h : takesA 21 2 vlz = 2 := by
    unfold takesA
    rw [if_pos (by decide), if_neg (by decide), if_neg (by decide)]
    kernel_rfl
  unfold mayB
  simp [h, right_z]

set_option maxRecDepth 100000 in
theorem do_gt (x y : Vl) (p0 p1 : Int) (p2 : ByteArray) (p3 : Option Addr) (p4 p5 : Nat) (p6 : Option Addr) (p7 p8 : Nat) (q0 q1 : Int) (q2 : ByteArray) (q3 : Option Addr) (q4 q5 : Nat) (q6 : Option Addr) (q7 q8 : Nat) (g B : Nat) (T : TypeId) (w : World) (ht : Tab w) (hx : IsV w B x (.agg #[.int .i64 p0, .int .i64 p1, .string p2, .slice p3 p4 p5, .slice p6 p7 p8])) (hy : IsV w B y (.agg #[.int .i64 q0, .int .i64 q1, .string q2, .slice q3 q4 q5, .slice q6 q7 q8])) (hBs : B ≤ w.heap.size) (hr : w.heap[g]? = some (.cells #[.int .i64 p0, .int .i64 p1, .string p2, .slice p3 p4 p5, .slice p6 p7 p8, .int .i64 q0, .int .i64 q1, .string q2, .slice q3 q4 q5, .slice q6 q7 q8] T (0, 0))) :
    Calls Tryz.prog 12 #[.int .i64 21, .agg #[.int .i64 0, .int .i64 0, .string ⟨#[]⟩, .slice none 0 0, .slice none 0 0], .slice (some ⟨g, 0, none⟩) 2 2] w fun e w' => e = .returned (cmpV 21 x y) ∧ Below w.heap.size w w' := by
  have hl : g < w.heap.size := (Array.getElem?_eq_some_iff.1 hr).1
  have hA := two_of hx hy hBs hr
  have hz : IsV w w.heap.size vlz (.agg #[.int .i64 0, .int .i64 0, .string ⟨#[]⟩, .slice none 0 0, .slice none 0 0]) := plain_is w _ 0 0 (by omega) (by omega)
  cases hm : (rightB x && rightB y) with
  | false =>
    have e : cmpV 21 x y = .tuple #[.agg #[.int .i64 0, .int .i64 0, .string ⟨#[]⟩, .slice none 0 0, .slice none 0 0], .int .i64 3] := by unfold cmpV okC; rw [hm]; rfl
    rw [e]
    exact do_bad 21 vlz 0 0 ⟨#[]⟩ none 0 0 none 0 0 [x, y] (some ⟨g, 0, none⟩) 2 2 w.heap.size w ht hz hA (Nat.le_refl _) ((may_gt x y).trans hm)
  | true =>
    have hxy := hm
    rw [Bool.and_eq_true] at hxy
    cases hf : fitsB 12 0 0 true [x, y] with
    | false =>
      have e : cmpV 21 x y = .tuple #[.agg #[.int .i64 0, .int .i64 0, .string ⟨#[]⟩, .slice none 0 0, .slice none 0 0], .int .i64 3] := by
        rw [fits_ord hxy.1] at hf; unfold cmpV okC; rw [hm, hf]; rfl
      rw [e]
      exact do_unfit 21 12 0 0 true 59 op_gt vlz 0 0 ⟨#[]⟩ none 0 0 none 0 0 [x, y] (some ⟨g, 0, none⟩) 2 2 w.heap.size w ht hz hA (Nat.le_refl _) ((may_gt x y).trans hm) (kd_right hxy.1 hxy.2) (by omega) (by omega) (by omega) (by intro; omega) hf
    | true =>
      have e : cmpV 21 x y = .tuple #[.agg #[.int .i64 1, .int .i64 (tN (tst 21 (ord0 x y))), .string ⟨#[]⟩, .slice none 0 0, .slice none 0 0], .int .i64 0] := by
        rw [fits_ord hxy.1] at hf; unfold cmpV okC; rw [hm, hf]; rfl
      rw [e]
      refine (do_go 21 12 0 0 true 59 op_gt vlz 0 0 ⟨#[]⟩ none 0 0 none 0 0 [x, y] (some ⟨g, 0, none⟩) 2 2 w.heap.size w ht hz hA (Nat.le_refl _) ((may_gt x y).trans hm) (kd_right hxy.1 hxy.2) (by omega) (by omega) (by omega) (by intro; omega) hf (enters_of Tryz.func59 (by kernel_rfl) rfl)
        (fun y0 y1 y2 y3 y4 y5 y6 y7 y8 t _ _ => (.tuple #[.agg #[.int .i64 y0, .int .i64 y1, .string y2, .slice y3 y4 y5, .slice y6 y7 y8], .int .i64 t] : Value) = .tuple #[.agg #[.int .i64 1, .int .i64 (tN (tst 21 (ord0 x y))), .string ⟨#[]⟩, .slice none 0 0, .slice none 0 0], .int .i64 0]) (fun u hu => ?_)).mono ?_
      · have hcell : ∀ j v, ([.int .i64 p0, .int .i64 p1, .string p2, .slice p3 p4 p5, .slice p6 p7 p8, .int .i64 q0, .int .i64 q1, .string q2, .slice q3 q4 q5, .slice q6 q7 q8] : List Value)[j]? = some v → u.cell? ⟨g, 0 + j, none⟩ = some v := fun j v hv => by
          rw [Nat.zero_add, cell_of_row u g j _ _ (0, 0) ((hu.block g hl).trans hr)]
          simpa using hv
        refine (gt_any 0 0 ⟨#[]⟩ none 0 0 none 0 0 ⟨g, 0, none⟩ 2 2 p0 p1 p2 p3 p4 p5 p6 p7 p8 q0 q1 q2 q3 q4 q5 q6 q7 q8 x y B u (by omega) (Nat.lt_of_lt_of_le hl hu.size) (hcell 0 _ rfl) (hcell 1 _ rfl) (hcell 2 _ rfl) (hcell 3 _ rfl) (hcell 4 _ rfl) (hcell 5 _ rfl) (hcell 6 _ rfl) (hcell 7 _ rfl) (hcell 8 _ rfl) (hcell 9 _ rfl) (IsV.mono (hu.mono hBs) hx) (IsV.mono (hu.mono hBs) hy) (Nat.le_trans hBs hu.size)).mono ?_
        rintro e w' ⟨rfl, hb⟩
        exact ⟨_, _, _, _, _, _, _, _, _, _, rfl, rfl, hb⟩
      · rintro e w' ⟨y0, y1, y2, y3, y4, y5, y6, y7, y8, t, rfl, ⟨u, u', _, hQ, _⟩, hb⟩
        exact ⟨by rw [hQ], hb⟩

theorem may_ge (x y : Vl) : mayB 22 vlz [x, y] = (rightB x && rightB y) := by
  have h : takesA 22 2 vlz = 2 := by
    unfold takesA
    rw [if_pos (by decide), if_neg (by decide), if_neg (by decide)]
    kernel_rfl
  unfold mayB
  simp [h, right_z]

set_option maxRecDepth 100000 in
theorem do_ge (x y : Vl) (p0 p1 : Int) (p2 : ByteArray) (p3 : Option Addr) (p4 p5 : Nat) (p6 : Option Addr) (p7 p8 : Nat) (q0 q1 : Int) (q2 : ByteArray) (q3 : Option Addr) (q4 q5 : Nat) (q6 : Option Addr) (q7 q8 : Nat) (g B : Nat) (T : TypeId) (w : World) (ht : Tab w) (hx : IsV w B x (.agg #[.int .i64 p0, .int .i64 p1, .string p2, .slice p3 p4 p5, .slice p6 p7 p8])) (hy : IsV w B y (.agg #[.int .i64 q0, .int .i64 q1, .string q2, .slice q3 q4 q5, .slice q6 q7 q8])) (hBs : B ≤ w.heap.size) (hr : w.heap[g]? = some (.cells #[.int .i64 p0, .int .i64 p1, .string p2, .slice p3 p4 p5, .slice p6 p7 p8, .int .i64 q0, .int .i64 q1, .string q2, .slice q3 q4 q5, .slice q6 q7 q8] T (0, 0))) :
    Calls Tryz.prog 12 #[.int .i64 22, .agg #[.int .i64 0, .int .i64 0, .string ⟨#[]⟩, .slice none 0 0, .slice none 0 0], .slice (some ⟨g, 0, none⟩) 2 2] w fun e w' => e = .returned (cmpV 22 x y) ∧ Below w.heap.size w w' := by
  have hl : g < w.heap.size := (Array.getElem?_eq_some_iff.1 hr).1
  have hA := two_of hx hy hBs hr
  have hz : IsV w w.heap.size vlz (.agg #[.int .i64 0, .int .i64 0, .string ⟨#[]⟩, .slice none 0 0, .slice none 0 0]) := plain_is w _ 0 0 (by omega) (by omega)
  cases hm : (rightB x && rightB y) with
  | false =>
    have e : cmpV 22 x y = .tuple #[.agg #[.int .i64 0, .int .i64 0, .string ⟨#[]⟩, .slice none 0 0, .slice none 0 0], .int .i64 3] := by unfold cmpV okC; rw [hm]; rfl
    rw [e]
    exact do_bad 22 vlz 0 0 ⟨#[]⟩ none 0 0 none 0 0 [x, y] (some ⟨g, 0, none⟩) 2 2 w.heap.size w ht hz hA (Nat.le_refl _) ((may_ge x y).trans hm)
  | true =>
    have hxy := hm
    rw [Bool.and_eq_true] at hxy
    cases hf : fitsB 12 0 0 true [x, y] with
    | false =>
      have e : cmpV 22 x y = .tuple #[.agg #[.int .i64 0, .int .i64 0, .string ⟨#[]⟩, .slice none 0 0, .slice none 0 0], .int .i64 3] := by
        rw [fits_ord hxy.1] at hf; unfold cmpV okC; rw [hm, hf]; rfl
      rw [e]
      exact do_unfit 22 12 0 0 true 60 op_ge vlz 0 0 ⟨#[]⟩ none 0 0 none 0 0 [x, y] (some ⟨g, 0, none⟩) 2 2 w.heap.size w ht hz hA (Nat.le_refl _) ((may_ge x y).trans hm) (kd_right hxy.1 hxy.2) (by omega) (by omega) (by omega) (by intro; omega) hf
    | true =>
      have e : cmpV 22 x y = .tuple #[.agg #[.int .i64 1, .int .i64 (tN (tst 22 (ord0 x y))), .string ⟨#[]⟩, .slice none 0 0, .slice none 0 0], .int .i64 0] := by
        rw [fits_ord hxy.1] at hf; unfold cmpV okC; rw [hm, hf]; rfl
      rw [e]
      refine (do_go 22 12 0 0 true 60 op_ge vlz 0 0 ⟨#[]⟩ none 0 0 none 0 0 [x, y] (some ⟨g, 0, none⟩) 2 2 w.heap.size w ht hz hA (Nat.le_refl _) ((may_ge x y).trans hm) (kd_right hxy.1 hxy.2) (by omega) (by omega) (by omega) (by intro; omega) hf (enters_of Tryz.func60 (by kernel_rfl) rfl)
        (fun y0 y1 y2 y3 y4 y5 y6 y7 y8 t _ _ => (.tuple #[.agg #[.int .i64 y0, .int .i64 y1, .string y2, .slice y3 y4 y5, .slice y6 y7 y8], .int .i64 t] : Value) = .tuple #[.agg #[.int .i64 1, .int .i64 (tN (tst 22 (ord0 x y))), .string ⟨#[]⟩, .slice none 0 0, .slice none 0 0], .int .i64 0]) (fun u hu => ?_)).mono ?_
      · have hcell : ∀ j v, ([.int .i64 p0, .int .i64 p1, .string p2, .slice p3 p4 p5, .slice p6 p7 p8, .int .i64 q0, .int .i64 q1, .string q2, .slice q3 q4 q5, .slice q6 q7 q8] : List Value)[j]? = some v → u.cell? ⟨g, 0 + j, none⟩ = some v := fun j v hv => by
          rw [Nat.zero_add, cell_of_row u g j _ _ (0, 0) ((hu.block g hl).trans hr)]
          simpa using hv
        refine (ge_any 0 0 ⟨#[]⟩ none 0 0 none 0 0 ⟨g, 0, none⟩ 2 2 p0 p1 p2 p3 p4 p5 p6 p7 p8 q0 q1 q2 q3 q4 q5 q6 q7 q8 x y B u (by omega) (Nat.lt_of_lt_of_le hl hu.size) (hcell 0 _ rfl) (hcell 1 _ rfl) (hcell 2 _ rfl) (hcell 3 _ rfl) (hcell 4 _ rfl) (hcell 5 _ rfl) (hcell 6 _ rfl) (hcell 7 _ rfl) (hcell 8 _ rfl) (hcell 9 _ rfl) (IsV.mono (hu.mono hBs) hx) (IsV.mono (hu.mono hBs) hy) (Nat.le_trans hBs hu.size)).mono ?_
        rintro e w' ⟨rfl, hb⟩
        exact ⟨_, _, _, _, _, _, _, _, _, _, rfl, rfl, hb⟩
      · rintro e w' ⟨y0, y1, y2, y3, y4, y5, y6, y7, y8, t, rfl, ⟨u, u', _, hQ, _⟩, hb⟩
        exact ⟨by rw [hQ], hb⟩

/-- how a law asks for a comparison -/
def DoC (k : Nat) (x y : Vl) : Prop := ∀ (p0 p1 : Int) (p2 : ByteArray) (p3 : Option Addr) (p4 p5 : Nat) (p6 : Option Addr) (p7 p8 : Nat) (q0 q1 : Int) (q2 : ByteArray) (q3 : Option Addr) (q4 q5 : Nat) (q6 : Option Addr) (q7 q8 : Nat) (g B : Nat) (T : TypeId) (w : World) (ht : Tab w) (hx : IsV w B x (.agg #[.int .i64 p0, .int .i64 p1, .string p2, .slice p3 p4 p5, .slice p6 p7 p8])) (hy : IsV w B y (.agg #[.int .i64 q0, .int .i64 q1, .string q2, .slice q3 q4 q5, .slice q6 q7 q8])) (hBs : B ≤ w.heap.size) (hr : w.heap[g]? = some (.cells #[.int .i64 p0, .int .i64 p1, .string p2, .slice p3 p4 p5, .slice p6 p7 p8, .int .i64 q0, .int .i64 q1, .string q2, .slice q3 q4 q5, .slice q6 q7 q8] T (0, 0))),
    Calls Tryz.prog 12 #[.int .i64 k, .agg #[.int .i64 0, .int .i64 0, .string ⟨#[]⟩, .slice none 0 0, .slice none 0 0], .slice (some ⟨g, 0, none⟩) 2 2] w fun e w' => e = .returned (cmpV k x y) ∧ Below w.heap.size w w'

set_option maxRecDepth 100000 in
set_option maxHeartbeats 2000000 in
theorem truthL_any (k : Nat) (x y : Vl) (hD : DoC k x y) (p0 p1 : Int) (p2 : ByteArray) (p3 : Option Addr) (p4 p5 : Nat) (p6 : Option Addr) (p7 p8 : Nat) (q0 q1 : Int) (q2 : ByteArray) (q3 : Option Addr) (q4 q5 : Nat) (q6 : Option Addr) (q7 q8 : Nat) (B : Nat) (w : World) (ht : Tab w) (hx : IsV w B x (.agg #[.int .i64 p0, .int .i64 p1, .string p2, .slice p3 p4 p5, .slice p6 p7 p8])) (hy : IsV w B y (.agg #[.int .i64 q0, .int .i64 q1, .string q2, .slice q3 q4 q5, .slice q6 q7 q8])) (hBs : B ≤ w.heap.size) :
    Calls Tryz.prog 24 #[.int .i64 k, .agg #[.int .i64 p0, .int .i64 p1, .string p2, .slice p3 p4 p5, .slice p6 p7 p8], .agg #[.int .i64 q0, .int .i64 q1, .string q2, .slice q3 q4 q5, .slice q6 q7 q8]] w fun e w' => e = .returned (.tuple #[.bool (okC k x y && tst k (ord0 x y)), .bool (okC k x y)]) ∧ Below w.heap.size w w' := by
  obtain ⟨ga, hga⟩ : ∃ g, w.heap.size = g := ⟨_, rfl⟩
  obtain ⟨v1, hv1⟩ : ∃ v1, w.alloc (.cells #[.int .i64 p0, .int .i64 p1, .string p2, .slice p3 p4 p5, .slice p6 p7 p8] 25) = v1 := ⟨_, rfl⟩
  obtain ⟨gb, hgb⟩ : ∃ g, v1.heap.size = g := ⟨_, rfl⟩
  obtain ⟨v2, hv2⟩ : ∃ v2, v1.alloc (.cells #[.int .i64 q0, .int .i64 q1, .string q2, .slice q3 q4 q5, .slice q6 q7 q8] 25) = v2 := ⟨_, rfl⟩
  obtain ⟨gc, hgc⟩ : ∃ g, v2.heap.size = g := ⟨_, rfl⟩
  obtain ⟨v3, hv3⟩ : ∃ v3, v2.alloc (.cells #[.int .i64 p0, .int .i64 p1, .string p2, .slice p3 p4 p5, .slice p6 p7 p8, .int .i64 q0, .int .i64 q1, .string q2, .slice q3 q4 q5, .slice q6 q7 q8] 25) = v3 := ⟨_, rfl⟩
  have n1 : v1.heap[ga]? = some (.cells #[.int .i64 p0, .int .i64 p1, .string p2, .slice p3 p4 p5, .slice p6 p7 p8] 25 (0, 0)) := by rw [← hv1, ← hga]; exact heap_alloc_new w _
  have n2 : v2.heap[gb]? = some (.cells #[.int .i64 q0, .int .i64 q1, .string q2, .slice q3 q4 q5, .slice q6 q7 q8] 25 (0, 0)) := by rw [← hv2, ← hgb]; exact heap_alloc_new v1 _
  have n3 : v3.heap[gc]? = some (.cells #[.int .i64 p0, .int .i64 p1, .string p2, .slice p3 p4 p5, .slice p6 p7 p8, .int .i64 q0, .int .i64 q1, .string q2, .slice q3 q4 q5, .slice q6 q7 q8] 25 (0, 0)) := by rw [← hv3, ← hgc]; exact heap_alloc_new v2 _
  have b1 : Below w.heap.size w v1 := by rw [← hv1]; exact (Below.refl _ _).alloc (Nat.le_refl _) _
  have b2 : Below v1.heap.size v1 v2 := by rw [← hv2]; exact (Below.refl _ _).alloc (Nat.le_refl _) _
  have b3 : Below v2.heap.size v2 v3 := by rw [← hv3]; exact (Below.refl _ _).alloc (Nat.le_refl _) _
  have b13 : Below w.heap.size w v3 := b1.trans ((b2.trans (b3.mono b2.size)).mono b1.size)
  obtain ⟨a0, a1, a2, a3, a4⟩ := block5 ((b2.block ga (Array.getElem?_eq_some_iff.1 n1).1).trans n1)
  obtain ⟨c0, c1, c2, c3, c4⟩ := block5 n2
  have CD := hide (hD p0 p1 p2 p3 p4 p5 p6 p7 p8 q0 q1 q2 q3 q4 q5 q6 q7 q8 gc B 25 v3 (ht.later b13 ht.big b13.size) (IsV.mono (b13.mono hBs) hx) (IsV.mono (b13.mono hBs) hy) (Nat.le_trans hBs b13.size) n3)
  have HB := hide b13
  obtain ⟨t, htt⟩ : ∃ t, tst k (ord0 x y) = t := ⟨_, rfl⟩
  obtain ⟨o, ho⟩ : ∃ o, okC k x y = o := ⟨_, rfl⟩
  unfold cmpV at CD
  rw [htt, ho] at CD
  rw [htt, ho]
  clear n1 n2 n3 b1 b2 b3 b13 hx hy ht hD htt ho
  cases o with
  | false =>
    rw [if_neg (by decide)] at CD
    go_enter Tryz.func24, Tryz.ntmps24
    go_wp2_with fail
    refine (unhide CD).mono ?_
    rintro e u ⟨rfl, d1⟩
    have D1 := hide ((unhide HB).trans (d1.mono (unhide HB).size))
    clear d1 CD a0 a1 a2 a3 a4 c0 c1 c2 c3 c4
    go_upto_region 2 with fail
    obtain ⟨g8, hg8⟩ : ∃ g, u.heap.size = g := ⟨_, rfl⟩
    obtain ⟨u2, hu2⟩ : ∃ u2, u.alloc (.cells #[.int .i64 0, .int .i64 0, .string ⟨#[]⟩, .slice none 0 0, .slice none 0 0] 25) = u2 := ⟨_, rfl⟩
    try rw [hu2]
    try rw [hg8]
    obtain ⟨z0, z1, z2, z3, z4⟩ := block5 (show u2.heap[g8]? = some (.cells #[.int .i64 0, .int .i64 0, .string ⟨#[]⟩, .slice none 0 0, .slice none 0 0] 25 (0, 0)) by rw [← hu2, ← hg8]; exact heap_alloc_new u _)
    have D2 : Hid (Below w.heap.size w u2) := hide (by rw [← hu2]; exact (unhide D1).alloc (unhide D1).size _)
    clear hu2 hg8
    go_quiet (fail)
    go_wp2_with fail
    go_ret2
    have hb := below_drewN (unhide D2)
    exact ⟨rfl, by first | exact hb _ | (rw [← hga]; exact hb _)⟩
  | true =>
    rw [if_pos rfl] at CD
    cases t with
    | true =>
      go_enter Tryz.func24, Tryz.ntmps24
      go_wp2_with fail
      refine (unhide CD).mono ?_
      rintro e u ⟨rfl, d1⟩
      have D1 := hide ((unhide HB).trans (d1.mono (unhide HB).size))
      clear d1 CD a0 a1 a2 a3 a4 c0 c1 c2 c3 c4
      go_upto_region 2 with fail
      obtain ⟨g8, hg8⟩ : ∃ g, u.heap.size = g := ⟨_, rfl⟩
      obtain ⟨u2, hu2⟩ : ∃ u2, u.alloc (.cells #[.int .i64 1, .int .i64 (tN true), .string ⟨#[]⟩, .slice none 0 0, .slice none 0 0] 25) = u2 := ⟨_, rfl⟩
      try rw [hu2]
      try rw [hg8]
      obtain ⟨z0, z1, z2, z3, z4⟩ := block5 (show u2.heap[g8]? = some (.cells #[.int .i64 1, .int .i64 (tN true), .string ⟨#[]⟩, .slice none 0 0, .slice none 0 0] 25 (0, 0)) by rw [← hu2, ← hg8]; exact heap_alloc_new u _)
      rw [show tN true = 1 from rfl] at z1
      have D2 : Hid (Below w.heap.size w u2) := hide (by rw [← hu2]; exact (unhide D1).alloc (unhide D1).size _)
      clear hu2 hg8
      go_quiet (fail)
      go_wp2_with fail
      go_ret2
      have hb := below_drewN (unhide D2)
      exact ⟨rfl, by first | exact hb _ | (rw [← hga]; exact hb _)⟩
    | false =>
      go_enter Tryz.func24, Tryz.ntmps24
      go_wp2_with fail
      refine (unhide CD).mono ?_
      rintro e u ⟨rfl, d1⟩
      have D1 := hide ((unhide HB).trans (d1.mono (unhide HB).size))
      clear d1 CD a0 a1 a2 a3 a4 c0 c1 c2 c3 c4
      go_upto_region 2 with fail
      obtain ⟨g8, hg8⟩ : ∃ g, u.heap.size = g := ⟨_, rfl⟩
      obtain ⟨u2, hu2⟩ : ∃ u2, u.alloc (.cells #[.int .i64 1, .int .i64 (tN false), .string ⟨#[]⟩, .slice none 0 0, .slice none 0 0] 25) = u2 := ⟨_, rfl⟩
      try rw [hu2]
      try rw [hg8]
      obtain ⟨z0, z1, z2, z3, z4⟩ := block5 (show u2.heap[g8]? = some (.cells #[.int .i64 1, .int .i64 (tN false), .string ⟨#[]⟩, .slice none 0 0, .slice none 0 0] 25 (0, 0)) by rw [← hu2, ← hg8]; exact heap_alloc_new u _)
      rw [show tN false = 0 from rfl] at z1
      have D2 : Hid (Below w.heap.size w u2) := hide (by rw [← hu2]; exact (unhide D1).alloc (unhide D1).size _)
      clear hu2 hg8
      go_quiet (fail)
      go_wp2_with fail
      go_ret2
      have hb := below_drewN (unhide D2)
      exact ⟨rfl, by first | exact hb _ | (rw [← hga]; exact hb _)⟩
end Go.Proofs.YtgkmdjmigehmeaaGreatDoor
