/-
  Two rows side by side as lists; the order of keys; no conditions.
  The walks of blank and leads; no conditions but the form's own reach.
-/
import Derived.Test.YtjhnbopejnpbeaaA37
import Derived.Test.YtjhnbopejnpbeaaA27
import Derived.Test.YtjhnbopejnpbeaaA41
set_option linter.unusedVariables false
set_option linter.unusedSimpArgs false
namespace Go.Proofs.Ytjhnbopejnpbeaa
open Go.RowKit
set_option linter.unusedVariables false
set_option linter.unusedSimpArgs false

/-- does a key stand ahead of another? -/
def ltK (a b : ByteArray) : Bool := Op.bytesLess a.toList b.toList

theorem blo_trM : ∀ (a b c : List UInt8), Op.bytesLess a b = true → Op.bytesLess b c = true → Op.bytesLess a c = true
  | [], b, [], _, h => by cases b <;> simp [Op.bytesLess] at h
  | [], _, c :: z, _, _ => by simp [Op.bytesLess]
  | a :: x, [], _, h, _ => by simp [Op.bytesLess] at h
  | a :: x, b :: y, [], _, h => by simp [Op.bytesLess] at h
  | a :: x, b :: y, c :: z, h1, h2 => by
    simp only [Op.bytesLess, Bool.or_eq_true, Bool.and_eq_true, decide_eq_true_eq, beq_iff_eq] at h1 h2 ⊢
    rcases h1 with h1 | ⟨rfl, h1⟩
    · rcases h2 with h2 | ⟨rfl, h2⟩
      · exact .inl (UInt8.lt_trans h1 h2)
      · exact .inl h1
    · rcases h2 with h2 | ⟨rfl, h2⟩
      · exact .inl h2
      · exact .inr ⟨rfl, blo_trM x y z h1 h2⟩

theorem ltK_tr {a b c : ByteArray} (h : ltK a b = true) (h' : ltK b c = true) : ltK a c = true := blo_trM _ _ _ h h'
theorem ltK_irr (a : ByteArray) : ltK a a = false := bl_irr _
theorem ltK_asym {a b : ByteArray} (h : ltK a b = true) : ltK b a = false := by
  cases h2 : ltK b a with
  | false => rfl
  | true => have := ltK_tr h h2; rw [ltK_irr] at this; cases this
theorem ltK_same {a b : ByteArray} (h : ltK a b = false) (h' : ltK b a = false) : a = b := by
  have := bl_not a.toList b.toList
  unfold ltK at h h'
  rw [h, h', Bool.false_or] at this
  cases he : (b.toList == a.toList) with
  | false => rw [he] at this; cases this
  | true => exact (toList_injZ (eq_of_beq he)).symm

section
variable {α β : Type} (ka : α → ByteArray) (kb : β → ByteArray)

/-- the items of two rows, key by key -/
def mg : Nat → List α → List β → List (Option α × Option β)
  | 0, _, _ => []
  | _ + 1, [], [] => []
  | f + 1, x :: r, [] => (some x, none) :: mg f r []
  | f + 1, [], y :: s => (none, some y) :: mg f [] s
  | f + 1, x :: r, y :: s => if ltK (kb y) (ka x) then (none, some y) :: mg f (x :: r) s else if ltK (ka x) (kb y) then (some x, none) :: mg f r (y :: s) else (some x, some y) :: mg f r s

theorem sdN_mg (es : List α) (fs : List β) : ∀ (f i j : Nat), (sdN (es.map ka) (fs.map kb) f i j).map (fun x => (x.1.bind (fun a => es[a]?), x.2.bind (fun b => fs[b]?))) = mg ka kb f (es.drop i) (fs.drop j)
  | 0, i, j => rfl
  | f + 1, i, j => by
    rcases Nat.lt_or_ge i es.length with hi | hi
    · have hx : (es.map ka)[i]? = some (ka es[i]) := by rw [List.getElem?_map, List.getElem?_eq_getElem hi]; rfl
      rcases Nat.lt_or_ge j fs.length with hj | hj
      · have hy : (fs.map kb)[j]? = some (kb fs[j]) := by rw [List.getElem?_map, List.getElem?_eq_getElem hj]; rfl
        obtain ⟨q1, q2⟩ := inA_two hx hy
        have ih1 := sdN_mg es fs f i (j + 1)
        have ih2 := sdN_mg es fs f (i + 1) j
        have ih3 := sdN_mg es fs f (i + 1) (j + 1)
        unfold sdN
        rw [if_pos (by simp; omega), q1, q2]
        rw [List.drop_eq_getElem_cons hi] at ih1
        rw [List.drop_eq_getElem_cons hj] at ih2
        rw [List.drop_eq_getElem_cons hi, List.drop_eq_getElem_cons hj]
        unfold mg
        cases h1 : ltK (kb fs[j]) (ka es[i]) with
        | true =>
          have h2 := ltK_asym h1
          unfold ltK at h1 h2
          rw [h1, h2]
          simp only [Bool.not_true, Bool.not_false, if_true, List.map_cons, Option.bind_some, Option.bind_none, List.getElem?_eq_getElem hj, Bool.false_eq_true, if_false]
          rw [ih1]
        | false =>
          cases h2 : ltK (ka es[i]) (kb fs[j]) with
          | true =>
            unfold ltK at h1 h2
            rw [h1, h2]
            simp only [Bool.not_true, Bool.not_false, if_true, List.map_cons, Option.bind_some, Option.bind_none, List.getElem?_eq_getElem hi, Bool.false_eq_true, if_false]
            rw [ih2]
          | false =>
            unfold ltK at h1 h2
            rw [h1, h2]
            simp only [Bool.not_true, Bool.not_false, if_true, List.map_cons, Option.bind_some, Option.bind_none, List.getElem?_eq_getElem hi, List.getElem?_eq_getElem hj, Bool.false_eq_true, if_false]
            rw [ih3]
      · have hy : (fs.map kb)[j]? = none := List.getElem?_eq_none (by simpa using hj)
        obtain ⟨q1, q2⟩ := inA_one hx hy
        have ih2 := sdN_mg es fs f (i + 1) j
        unfold sdN
        rw [if_pos (by simp; omega), q1, q2, List.drop_eq_getElem_cons hi]
        rw [List.drop_of_length_le hj] at ih2 ⊢
        unfold mg
        simp only [if_true, List.map_cons, Option.bind_some, Option.bind_none, List.getElem?_eq_getElem hi, Bool.false_eq_true, if_false]
        rw [ih2]
    · have hx : (es.map ka)[i]? = none := List.getElem?_eq_none (by simpa using hi)
      rcases Nat.lt_or_ge j fs.length with hj | hj
      · have hy : (fs.map kb)[j]? = some (kb fs[j]) := by rw [List.getElem?_map, List.getElem?_eq_getElem hj]; rfl
        obtain ⟨q1, q2⟩ := inB_one hx hy
        have ih1 := sdN_mg es fs f i (j + 1)
        unfold sdN
        rw [if_pos (by simp; omega), q1, q2, List.drop_eq_getElem_cons hj]
        rw [List.drop_of_length_le hi] at ih1 ⊢
        unfold mg
        simp only [if_true, List.map_cons, Option.bind_some, Option.bind_none, List.getElem?_eq_getElem hj, Bool.false_eq_true, if_false]
        rw [ih1]
      · rw [sdN_end _ _ _ _ _ (by simpa using hi) (by simpa using hj), List.drop_of_length_le hi, List.drop_of_length_le hj]
        rfl
end
end Go.Proofs.Ytjhnbopejnpbeaa

namespace Go.Proofs.Ytjhnbopejnpbeaa
open Go.RowKit Go.Shelf
set_option linter.unusedVariables false
set_option linter.unusedSimpArgs false

/-- is it the zero value? -/
def blankB (v : Vl) : Bool := match v with
  | .mk k n s l ks => (k == 0) && rightB (.mk k n s l ks)

set_option maxRecDepth 100000 in
set_option maxHeartbeats 1000000 in
theorem blank_any (v : Vl) (x : Value) (B : Nat) (w : World) (hv : IsV w B v x) (hBs : B ≤ w.heap.size) :
    Calls Try.prog 53 #[x] w fun e w' => e = .returned (.bool (blankB v)) ∧ Below w.heap.size w w' := by
  obtain ⟨k', n', s', l', ks', al', ak', cl', ck', hy', hx⟩ := hv.shape
  obtain ⟨ll, hll⟩ : ∃ ll, l'.length = ll := ⟨_, rfl⟩
  obtain ⟨m, hm⟩ : ∃ m, ks'.length = m := ⟨_, rfl⟩
  rw [hll, hm] at hx
  subst hx
  obtain ⟨w1, hw1⟩ : ∃ w1, w.alloc (.cells #[.int .i64 k', .int .i64 n', .string s', .slice al' ll cl', .slice ak' m ck'] 34) = w1 := ⟨_, rfl⟩
  have BX := Box.mk' w (.int .i64 k') (.int .i64 n') (.string s') (.slice al' ll cl') (.slice ak' m ck')
  rw [hw1] at BX
  obtain ⟨c0, c1, c2, c3, c4⟩ := row_cell BX.row
  have HB := hide BX.below
  have CR := hide (right_code v _ B w1 (hv.mono (BX.below.mono hBs)) (by have := BX.size; omega))
  obtain ⟨R, hR⟩ : ∃ R, rightB v = R := ⟨_, rfl⟩
  rw [hR] at CR
  have HBL : Hid (blankB v = ((k' == 0) && R)) := hide (by subst hy'; rw [← hR]; rfl)
  obtain ⟨S, hS⟩ : ∃ S, blankB v = S := ⟨_, rfl⟩
  have HS := hide hS
  rw [hS]
  clear BX hv hy' hR hll hm hS
  by_cases hz : k' = 0
  · subst hz
    go_enter Try.func53, Try.ntmps53
    go_wp2_with fail
    refine (unhide CR).mono ?_
    rintro e w2 ⟨rfl, b2⟩
    have B2 := hide ((unhide HB).trans (b2.mono (unhide HB).size))
    clear b2 CR
    go_wp2_with fail
    go_ret
    exact ⟨by rw [← unhide HS, unhide HBL]; simp, unhide B2⟩
  · have hz1 : (k' == 0) = false := beq_eq_false_iff_ne.2 hz
    go_enter Try.func53, Try.ntmps53
    go_wp2_with fail
    go_ret
    exact ⟨by rw [← unhide HS, unhide HBL, hz1]; rfl, unhide HB⟩

/-- is this what leads from what stands there to something else? -/
def leadsB (xh : Bool) (xv : Vl) (yg yh : Bool) (yv : Vl) : Bool := if yh then (if yg then (xh && blankB yv) else (!xh || !(ord0 xv yv == 0))) else true

set_option maxRecDepth 100000 in
set_option maxHeartbeats 2000000 in
theorem leads_any (xk : ByteArray) (xt0 xt1 : Int) (xt2 : ByteArray) (xt3 : Option Addr) (xt4 xt5 : Nat) (xt6 : Option Addr) (xt7 xt8 : Nat) (xh : Bool) (yk : ByteArray) (yt0 yt1 : Int) (yt2 : ByteArray) (yt3 : Option Addr) (yt4 yt5 : Nat) (yt6 : Option Addr) (yt7 yt8 : Nat) (yg yh : Bool) (xv yv : Vl) (B : Nat) (w : World) (hx : xh = true → IsV w B xv (.agg #[.int .i64 xt0, .int .i64 xt1, .string xt2, .slice xt3 xt4 xt5, .slice xt6 xt7 xt8])) (hy : yh = true → IsV w B yv (.agg #[.int .i64 yt0, .int .i64 yt1, .string yt2, .slice yt3 yt4 yt5, .slice yt6 yt7 yt8])) (hBs : B ≤ w.heap.size) :
    Calls Try.prog 35 #[.agg #[.string xk, .int .i64 xt0, .int .i64 xt1, .string xt2, .slice xt3 xt4 xt5, .slice xt6 xt7 xt8, .bool xh], .agg #[.string yk, .bool yg, .int .i64 yt0, .int .i64 yt1, .string yt2, .slice yt3 yt4 yt5, .slice yt6 yt7 yt8, .bool yh]] w fun e w' => e = .returned (.bool (leadsB xh xv yg yh yv)) ∧ Below w.heap.size w w' := by
  obtain ⟨q, hq⟩ : ∃ q, w.heap.size = q := ⟨_, rfl⟩
  obtain ⟨w1, hw1⟩ : ∃ w1, w.alloc (.cells #[.string xk, .int .i64 xt0, .int .i64 xt1, .string xt2, .slice xt3 xt4 xt5, .slice xt6 xt7 xt8, .bool xh] 55) = w1 := ⟨_, rfl⟩
  obtain ⟨q2, hq2⟩ : ∃ q2, w1.heap.size = q2 := ⟨_, rfl⟩
  obtain ⟨w2, hw2⟩ : ∃ w2, w1.alloc (.cells #[.string yk, .bool yg, .int .i64 yt0, .int .i64 yt1, .string yt2, .slice yt3 yt4 yt5, .slice yt6 yt7 yt8, .bool yh] 68) = w2 := ⟨_, rfl⟩
  have n1 : w1.heap[q]? = some (.cells #[.string xk, .int .i64 xt0, .int .i64 xt1, .string xt2, .slice xt3 xt4 xt5, .slice xt6 xt7 xt8, .bool xh] 55 (0, 0)) := by rw [← hw1, ← hq]; exact heap_alloc_new w _
  have b1 : Below w.heap.size w w1 := by rw [← hw1]; exact (Below.refl _ _).alloc (Nat.le_refl _) _
  have n2 : w2.heap[q2]? = some (.cells #[.string yk, .bool yg, .int .i64 yt0, .int .i64 yt1, .string yt2, .slice yt3 yt4 yt5, .slice yt6 yt7 yt8, .bool yh] 68 (0, 0)) := by rw [← hw2, ← hq2]; exact heap_alloc_new w1 _
  have b2 : Below w1.heap.size w1 w2 := by rw [← hw2]; exact (Below.refl _ _).alloc (Nat.le_refl _) _
  have HB : Hid (Below w.heap.size w w2) := hide (b1.trans (b2.mono b1.size))
  obtain ⟨x0, x1, x2, x3, x4, x5, x6⟩ := row_cell7 ((b2.block q (Array.getElem?_eq_some_iff.1 n1).1).trans n1)
  obtain ⟨y0, y1, y2, y3, y4, y5, y6, y7⟩ := row_cell8 n2
  have HX : Hid (xh = true → IsV w2 B xv (.agg #[.int .i64 xt0, .int .i64 xt1, .string xt2, .slice xt3 xt4 xt5, .slice xt6 xt7 xt8])) := hide (fun e => IsV.mono ((unhide HB).mono hBs) (hx e))
  have HY : Hid (yh = true → IsV w2 B yv (.agg #[.int .i64 yt0, .int .i64 yt1, .string yt2, .slice yt3 yt4 yt5, .slice yt6 yt7 yt8])) := hide (fun e => IsV.mono ((unhide HB).mono hBs) (hy e))
  have HBs : Hid (B ≤ w2.heap.size) := hide (Nat.le_trans hBs (unhide HB).size)
  obtain ⟨S, hS⟩ : ∃ S, leadsB xh xv yg yh yv = S := ⟨_, rfl⟩
  have HS := hide hS
  rw [hS]
  clear n1 n2 b1 b2 hx hy hBs hS
  cases yh with
  | false =>
    go_enter Try.func35, Try.ntmps35
    go_wp2_with fail
    go_ret
    exact ⟨by rw [← unhide HS]; rfl, by first | exact unhide HB | (rw [← hq]; exact unhide HB)⟩
  | true =>
    cases yg with
    | true =>
      cases xh with
      | false =>
        go_enter Try.func35, Try.ntmps35
        go_wp2_with fail
        go_ret
        exact ⟨by rw [← unhide HS]; rfl, by first | exact unhide HB | (rw [← hq]; exact unhide HB)⟩
      | true =>
        have CB := hide (blank_any yv _ B w2 (unhide HY rfl) (unhide HBs))
        go_enter Try.func35, Try.ntmps35
        go_wp2_with fail
        refine (unhide CB).mono ?_
        rintro e w3 ⟨rfl, b3⟩
        have B3 := hide ((unhide HB).trans (b3.mono (unhide HB).size))
        clear b3 CB
        go_wp2_with fail
        go_ret
        exact ⟨by rw [← unhide HS]; simp [leadsB], by first | exact unhide B3 | (rw [← hq]; exact unhide B3)⟩
    | false =>
      cases xh with
      | false =>
        go_enter Try.func35, Try.ntmps35
        go_wp2_with fail
        go_ret
        exact ⟨by rw [← unhide HS]; rfl, by first | exact unhide HB | (rw [← hq]; exact unhide HB)⟩
      | true =>
        have CC := hide (compare_code xv yv _ _ B w2 (unhide HX rfl) (unhide HY rfl) (unhide HBs))
        obtain ⟨O, hO⟩ : ∃ O, ord0 xv yv = O := ⟨_, rfl⟩
        rw [hO] at CC
        have HO := hide hO
        clear hO
        have HL : Hid (S = !(O == 0)) := hide (by rw [← unhide HS, ← unhide HO]; simp [leadsB])
        go_enter Try.func35, Try.ntmps35
        go_wp2_with fail
        refine (unhide CC).mono ?_
        rintro e w3 ⟨rfl, b3⟩
        have B3 := hide ((unhide HB).trans (b3.mono (unhide HB).size))
        clear b3 CC
        by_cases hz : O = 0
        · subst hz
          go_wp2_with fail
          go_ret
          exact ⟨by rw [unhide HL]; rfl, by first | exact unhide B3 | (rw [← hq]; exact unhide B3)⟩
        · have hz1 : (O == 0) = false := beq_eq_false_iff_ne.2 hz
          go_wp2_with fail
          go_ret
          exact ⟨by rw [unhide HL]; rfl, by first | exact unhide B3 | (rw [← hq]; exact unhide B3)⟩
end Go.Proofs.Ytjhnbopejnpbeaa
