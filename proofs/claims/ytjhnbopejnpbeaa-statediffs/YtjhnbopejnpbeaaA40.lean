/-
  The walks of blank and leads; no conditions but the form's own reach.
  What leads from some entries to others leads there, as lists; no conditions.
-/
import Derived.Test.YtjhnbopejnpbeaaA39
import Derived.Test.YtjhnbopejnpbeaaA19
import Derived.Test.YtjhnbopejnpbeaaA38
set_option linter.unusedVariables false
set_option linter.unusedSimpArgs false
namespace Go.Proofs.Ytjhnbopejnpbeaa
open Go.RowKit Go.Shelf
set_option linter.unusedVariables false
set_option linter.unusedSimpArgs false

/-- is it the zero value? -/
def blankB (v : Vl) : Bool := match v with
  | .mk k n s l ks => (k == 0) && rightB (.mk k n s l ks)

set_option maxRecDepth 100000 in
set_option maxHeartbeats 1000000 in
theorem blank_any (v : Vl) (x : Value) (B : Nat) (w : World) (hv : IsV w B v x) (hBs : B ≤ w.heap.size) :
    Calls Try.prog 53 #[x] w fun e w' => e = .returned (.bool (blankB v)) ∧ Below w.heap.size w w' := by
  obtain ⟨k', n', s', l', ks', al', ak', cl', ck', hy', hx⟩ := hv.shape
  obtain ⟨ll, hll⟩ : ∃ ll, l'.length = ll := ⟨_, rfl⟩
  obtain ⟨m, hm⟩ : ∃ m, ks'.length = m := ⟨_, rfl⟩
  rw [hll, hm] at hx
  subst hx
  obtain ⟨w1, hw1⟩ : ∃ w1, w.alloc (.cells #[.int .i64 k', .int .i64 n', .string s', .slice al' ll cl', .slice ak' m ck'] 34) = w1 := ⟨_, rfl⟩
  have BX := Box.mk' w (.int .i64 k') (.int .i64 n') (.string s') (.slice al' ll cl') (.slice ak' m ck')
  rw [hw1] at BX
  obtain ⟨c0, c1, c2, c3, c4⟩ := row_cell BX.row
  have HB := hide BX.below
  have CR := hide (right_code v _ B w1 (hv.mono (BX.below.mono hBs)) (by have := BX.size; omega))
  obtain ⟨R, hR⟩ : ∃ R, rightB v = R := ⟨_, rfl⟩
  rw [hR] at CR
  have HBL : Hid (blankB v = ((k' == 0) && R)) := hide (by subst hy'; rw [← hR]; rfl)
  obtain ⟨S, hS⟩ : ∃ S, blankB v = S := ⟨_, rfl⟩
  have HS := hide hS
  rw [hS]
  clear BX hv hy' hR hll hm hS
  by_cases hz : k' = 0
  · subst hz
    go_enter Try.func53, Try.ntmps53
    go_wp2_with fail
    refine (unhide CR).mono ?_
    rintro e w2 ⟨rfl, b2⟩
    have B2 := hide ((unhide HB).trans (b2.mono (unhide HB).size))
    clear b2 CR
    go_wp2_with fail
    go_ret
    exact ⟨by rw [← unhide HS, unhide HBL]; simp, unhide B2⟩
  · have hz1 : (k' == 0) = false := beq_eq_false_iff_ne.2 hz
    go_enter Try.func53, Try.ntmps53
    go_wp2_with fail
    go_ret
    exact ⟨by rw [← unhide HS, unhide HBL, hz1]; rfl, unhide HB⟩

/-- is this what leads from what stands there to something else? -/
def leadsB (xh : Bool) (xv : Vl) (yg yh : Bool) (yv : Vl) : Bool := if yh then (if yg then (xh && blankB yv) else (!xh || !(ord0 xv yv == 0))) else true

set_option maxRecDepth 100000 in
set_option maxHeartbeats 2000000 in
theorem leads_any (xk : ByteArray) (xt0 xt1 : Int) (xt2 : ByteArray) (xt3 : Option Addr) (xt4 xt5 : Nat) (xt6 : Option Addr) (xt7 xt8 : Nat) (xh : Bool) (yk : ByteArray) (yt0 yt1 : Int) (yt2 : ByteArray) (yt3 : Option Addr) (yt4 yt5 : Nat) (yt6 : Option Addr) (yt7 yt8 : Nat) (yg yh : Bool) (xv yv : Vl) (B : Nat) (w : World) (hx : xh = true → IsV w B xv (.agg #[.int .i64 xt0, .int .i64 xt1, .string xt2, .slice xt3 xt4 xt5, .slice xt6 xt7 xt8])) (hy : yh = true → IsV w B yv (.agg #[.int .i64 yt0, .int .i64 yt1, .string yt2, .slice yt3 yt4 yt5, .slice yt6 yt7 yt8])) (hBs : B ≤ w.heap.size) :
    Calls Try.prog 35 #[.agg #[.string xk, .int .i64 xt0, .int .i64 xt1, .string xt2, .slice xt3 xt4 xt5, .slice xt6 xt7 xt8, .bool xh], .agg #[.string yk, .bool yg, .int .i64 yt0, .int .i64 yt1, .string yt2, .slice yt3 yt4 yt5, .slice yt6 yt7 yt8, .bool yh]] w fun e w' => e = .returned (.bool (leadsB xh xv yg yh yv)) ∧ Below w.heap.size w w' := by
  obtain ⟨q, hq⟩ : ∃ q, w.heap.size = q := ⟨_, rfl⟩
  obtain ⟨w1, hw1⟩ : ∃ w1, w.alloc (.cells #[.string xk, .int .i64 xt0, .int .i64 xt1, .string xt2, .slice xt3 xt4 xt5, .slice xt6 xt7 xt8, .bool xh] 55) = w1 := ⟨_, rfl⟩
  obtain ⟨q2, hq2⟩ : ∃ q2, w1.heap.size = q2 := ⟨_, rfl⟩
  obtain ⟨w2, hw2⟩ : ∃ w2, w1.alloc (.cells #[.string yk, .bool yg, .int .i64 yt0, .int .i64 yt1, .string yt2, .slice yt3 yt4 yt5, .slice yt6 yt7 yt8, .bool yh] 68) = w2 := ⟨_, rfl⟩
  have n1 : w1.heap[q]? = some (.cells #[.string xk, .int .i64 xt0, .int .i64 xt1, .string xt2, .slice xt3 xt4 xt5, .slice xt6 xt7 xt8, .bool xh] 55 (0, 0)) := by rw [← hw1, ← hq]; exact heap_alloc_new w _
  have b1 : Below w.heap.size w w1 := by rw [← hw1]; exact (Below.refl _ _).alloc (Nat.le_refl _) _
  have n2 : w2.heap[q2]? = some (.cells #[.string yk, .bool yg, .int .i64 yt0, .int .i64 yt1, .string yt2, .slice yt3 yt4 yt5, .slice yt6 yt7 yt8, .bool yh] 68 (0, 0)) := by rw [← hw2, ← hq2]; exact heap_alloc_new w1 _
  have b2 : Below w1.heap.size w1 w2 := by rw [← hw2]; exact (Below.refl _ _).alloc (Nat.le_refl _) _
  have HB : Hid (Below w.heap.size w w2) := hide (b1.trans (b2.mono b1.size))
  obtain ⟨x0, x1, x2, x3, x4, x5, x6⟩ := row_cell7 ((b2.block q (Array.getElem?_eq_some_iff.1 n1).1).trans n1)
  obtain ⟨y0, y1, y2, y3, y4, y5, y6, y7⟩ := row_cell8 n2
  have HX : Hid (xh = true → IsV w2 B xv (.agg #[.int .i64 xt0, .int .i64 xt1, .string xt2, .slice xt3 xt4 xt5, .slice xt6 xt7 xt8])) := hide (fun e => IsV.mono ((unhide HB).mono hBs) (hx e))
  have HY : Hid (yh = true → IsV w2 B yv (.agg #[.int .i64 yt0, .int .i64 yt1, .string yt2, .slice yt3 yt4 yt5, .slice yt6 yt7 yt8])) := hide (fun e => IsV.mono ((unhide HB).mono hBs) (hy e))
  have HBs : Hid (B ≤ w2.heap.size) := hide (Nat.le_trans hBs (unhide HB).size)
  obtain ⟨S, hS⟩ : ∃ S, leadsB xh xv yg yh yv = S := ⟨_, rfl⟩
  have HS := hide hS
  rw [hS]
  clear n1 n2 b1 b2 hx hy hBs hS
  cases yh with
  | false =>
    go_enter Try.func35, Try.ntmps35
    go_wp2_with fail
    go_ret
    exact ⟨by rw [← unhide HS]; rfl, by first | exact unhide HB | (rw [← hq]; exact unhide HB)⟩
  | true =>
    cases yg with
    | true =>
      cases xh with
      | false =>
        go_enter Try.func35, Try.ntmps35
        go_wp2_with fail
        go_ret
        exact ⟨by rw [← unhide HS]; rfl, by first | exact unhide HB | (rw [← hq]; exact unhide HB)⟩
      | true =>
        have CB := hide (blank_any yv _ B w2 (unhide HY rfl) (unhide HBs))
        go_enter Try.func35, Try.ntmps35
        go_wp2_with fail
        refine (unhide CB).mono ?_
        rintro e w3 ⟨rfl, b3⟩
        have B3 := hide ((unhide HB).trans (b3.mono (unhide HB).size))
        clear b3 CB
        go_wp2_with fail
        go_ret
        exact ⟨by rw [← unhide HS]; simp [leadsB], by first | exact unhide B3 | (rw [← hq]; exact unhide B3)⟩
    | false =>
      cases xh with
      | false =>
        go_enter Try.func35, Try.ntmps35
        go_wp2_with fail
        go_ret
        exact ⟨by rw [← unhide HS]; rfl, by first | exact unhide HB | (rw [← hq]; exact unhide HB)⟩
      | true =>
        have CC := hide (compare_code xv yv _ _ B w2 (unhide HX rfl) (unhide HY rfl) (unhide HBs))
        obtain ⟨O, hO⟩ : ∃ O, ord0 xv yv = O := ⟨_, rfl⟩
        rw [hO] at CC
        have HO := hide hO
        clear hO
        have HL : Hid (S = !(O == 0)) := hide (by rw [← unhide HS, ← unhide HO]; simp [leadsB])
        go_enter Try.func35, Try.ntmps35
        go_wp2_with fail
        refine (unhide CC).mono ?_
        rintro e w3 ⟨rfl, b3⟩
        have B3 := hide ((unhide HB).trans (b3.mono (unhide HB).size))
        clear b3 CC
        by_cases hz : O = 0
        · subst hz
          go_wp2_with fail
          go_ret
          exact ⟨by rw [unhide HL]; rfl, by first | exact unhide B3 | (rw [← hq]; exact unhide B3)⟩
        · have hz1 : (O == 0) = false := beq_eq_false_iff_ne.2 hz
          go_wp2_with fail
          go_ret
          exact ⟨by rw [unhide HL]; rfl, by first | exact unhide B3 | (rw [← hq]; exact unhide B3)⟩
end Go.Proofs.Ytjhnbopejnpbeaa

namespace Go.Proofs.Ytjhnbopejnpbeaa
open Go.RowKit
set_option linter.unusedVariables false
set_option linter.unusedSimpArgs false

def chE : Option En × Option En → List Ch
  | (some x, none) => [(x.1, true, vl0)]
  | (none, some y) => [(y.1, false, y.2)]
  | (some x, some y) => if ord0 x.2 y.2 = 0 then [] else [(y.1, false, y.2)]
  | (none, none) => []

theorem chE_two (x y : En) : chE (some x, some y) = if ord0 x.2 y.2 = 0 then [] else [(y.1, false, y.2)] := rfl

/-- what leads from some entries to others -/
def dfL (f : Nat) (a b : List En) : List Ch := (mg (fun e : En => e.1) (fun e : En => e.1) f a b).flatMap chE

/-- what stands under a key behind the changes -/
def outA : Option En × Option Ch → List En
  | (some x, none) => [x]
  | (_, some (k, g, v)) => if g then [] else [(k, v)]
  | (none, none) => []

/-- does each lead to something else? -/
def leadE : Option En × Option Ch → Bool
  | (some x, some (k, g, v)) => leadsB true x.2 g true v
  | (none, some (k, g, v)) => leadsB false vl0 g true v
  | _ => true

def apL (f : Nat) (a : List En) (c : List Ch) : List En := (mg (fun e : En => e.1) (fun e : Ch => e.1) f a c).flatMap outA
def apB (f : Nat) (a : List En) (c : List Ch) : Bool := (mg (fun e : En => e.1) (fun e : Ch => e.1) f a c).all leadE

/-- keys rise, all behind k -/
def upE (k : Option ByteArray) : List En → Prop
  | [] => True
  | x :: r => (∀ q, k = some q → ltK q x.1 = true) ∧ upE (some x.1) r

theorem upE_all {k : ByteArray} : ∀ {a : List En}, upE (some k) a → ∀ x ∈ a, ltK k x.1 = true
  | [], _, x, hx => by cases hx
  | y :: r, h, x, hx => by
    have h1 := h.1 k rfl
    rcases List.mem_cons.1 hx with rfl | hx
    · exact h1
    · exact ltK_tr h1 (upE_all h.2 x hx)

theorem upE_weak {k : Option ByteArray} {a : List En} (h : upE k a) : upE none a := by
  cases a with
  | nil => trivial
  | cons x r => exact ⟨(fun q hq => by cases hq), h.2⟩

theorem upE_low {k : Option ByteArray} {q : ByteArray} {a : List En} (h : upE k a) (hq : ∀ x ∈ a, ltK q x.1 = true) : upE (some q) a := by
  cases a with
  | nil => trivial
  | cons x r => exact ⟨(fun p hp => by cases hp; exact hq x List.mem_cons_self), h.2⟩

theorem dfL_cons (f : Nat) (x : En) (r : List En) (y : En) (s : List En) : dfL (f + 1) (x :: r) (y :: s) = if ltK y.1 x.1 then (y.1, false, y.2) :: dfL f (x :: r) s else if ltK x.1 y.1 then (x.1, true, vl0) :: dfL f r (y :: s) else chE (some x, some y) ++ dfL f r s := by
  unfold dfL
  rw [mg]
  split
  · rw [List.flatMap_cons]; rfl
  · split
    · rw [List.flatMap_cons]; rfl
    · rw [List.flatMap_cons]
theorem dfL_left (f : Nat) (x : En) (r : List En) : dfL (f + 1) (x :: r) [] = (x.1, true, vl0) :: dfL f r [] := by unfold dfL; rw [mg, List.flatMap_cons]; rfl
theorem dfL_right (f : Nat) (y : En) (s : List En) : dfL (f + 1) [] (y :: s) = (y.1, false, y.2) :: dfL f [] s := by unfold dfL; rw [mg, List.flatMap_cons]; rfl
theorem dfL_nil (f : Nat) : dfL f [] [] = [] := by cases f <;> rfl

/-- changes stand behind what the entries stand behind -/
theorem dfL_gt (k : ByteArray) : ∀ (f : Nat) (a b : List En), (∀ x ∈ a, ltK k x.1 = true) → (∀ y ∈ b, ltK k y.1 = true) → ∀ c ∈ dfL f a b, ltK k c.1 = true
  | 0, a, b, _, _, c, hc => by simp [dfL, mg] at hc
  | f + 1, [], [], _, _, c, hc => by rw [dfL_nil] at hc; cases hc
  | f + 1, x :: r, [], ha, hb, c, hc => by
    rw [dfL_left] at hc
    rcases List.mem_cons.1 hc with rfl | hc
    · exact ha x List.mem_cons_self
    · exact dfL_gt k f r [] (fun z hz => ha z (List.mem_cons_of_mem _ hz)) hb c hc
  | f + 1, [], y :: s, ha, hb, c, hc => by
    rw [dfL_right] at hc
    rcases List.mem_cons.1 hc with rfl | hc
    · exact hb y List.mem_cons_self
    · exact dfL_gt k f [] s ha (fun z hz => hb z (List.mem_cons_of_mem _ hz)) c hc
  | f + 1, x :: r, y :: s, ha, hb, c, hc => by
    rw [dfL_cons] at hc
    split at hc
    · rcases List.mem_cons.1 hc with rfl | hc
      · exact hb y List.mem_cons_self
      · exact dfL_gt k f (x :: r) s ha (fun z hz => hb z (List.mem_cons_of_mem _ hz)) c hc
    · split at hc
      · rcases List.mem_cons.1 hc with rfl | hc
        · exact ha x List.mem_cons_self
        · exact dfL_gt k f r (y :: s) (fun z hz => ha z (List.mem_cons_of_mem _ hz)) hb c hc
      · rcases List.mem_append.1 hc with hc | hc
        · rw [chE_two] at hc
          split at hc
          · cases hc
          · rw [List.mem_singleton] at hc
            subst hc
            exact hb y List.mem_cons_self
        · exact dfL_gt k f r s (fun z hz => ha z (List.mem_cons_of_mem _ hz)) (fun z hz => hb z (List.mem_cons_of_mem _ hz)) c hc

theorem e0sM : (⟨#[]⟩ : ByteArray).size = 0 := rfl
theorem blank0 : blankB vl0 = true := by
  simp [blankB, vl0, rightB, okB, okL, formB, formM, wt, wtL, keysW, e0sM]

theorem ap_low (g : Nat) (x : En) (r : List En) (c : List Ch) (h : ∀ d ∈ c, ltK x.1 d.1 = true) : apL (g + 1) (x :: r) c = x :: apL g r c ∧ apB (g + 1) (x :: r) c = apB g r c := by
  unfold apL apB
  cases c with
  | nil => rw [mg, List.flatMap_cons, List.all_cons]; exact ⟨rfl, rfl⟩
  | cons d s =>
    have h1 := h d List.mem_cons_self
    have h2 := ltK_asym h1
    rw [mg, if_neg (by rw [h2]; simp), if_pos h1, List.flatMap_cons, List.all_cons]
    exact ⟨rfl, rfl⟩

/-- what leads there leads there -/
theorem ap_df : ∀ (f g : Nat) (a b : List En), upE none a → upE none b → (∀ x ∈ a, rightB x.2 = true) → (∀ y ∈ b, rightB y.2 = true) → a.length + b.length ≤ f → a.length + (dfL f a b).length ≤ g → apL g a (dfL f a b) = b ∧ apB g a (dfL f a b) = true
  | f, g, [], [], _, _, _, _, _, _ => by
    rw [dfL_nil]
    cases g <;> exact ⟨rfl, rfl⟩
  | 0, g, x :: r, b, _, _, _, _, hf, _ => by simp at hf
  | 0, g, [], y :: s, _, _, _, _, hf, _ => by simp at hf
  | f + 1, g, x :: r, [], ha, hb, ra, rb, hf, hg => by
    rw [dfL_left] at hg ⊢
    obtain ⟨g', rfl⟩ : ∃ g', g = g' + 1 := ⟨g - 1, by simp at hg; omega⟩
    have ih := ap_df f g' r [] (upE_weak ha.2) hb (fun z hz => ra z (List.mem_cons_of_mem _ hz)) rb (by simp at hf ⊢; omega) (by simp at hg ⊢; omega)
    unfold apL apB at ih ⊢
    rw [mg, if_neg (by rw [ltK_irr]; simp), if_neg (by rw [ltK_irr]; simp), List.flatMap_cons, List.all_cons, ih.1, ih.2]
    exact ⟨rfl, by simp [leadE, leadsB, blank0]⟩
  | f + 1, g, [], y :: s, ha, hb, ra, rb, hf, hg => by
    rw [dfL_right] at hg ⊢
    obtain ⟨g', rfl⟩ : ∃ g', g = g' + 1 := ⟨g - 1, by simp at hg; omega⟩
    have ih := ap_df f g' [] s ha (upE_weak hb.2) ra (fun z hz => rb z (List.mem_cons_of_mem _ hz)) (by simp at hf ⊢; omega) (by simp at hg ⊢; omega)
    unfold apL apB at ih ⊢
    rw [mg, List.flatMap_cons, List.all_cons, ih.1, ih.2]
    exact ⟨rfl, by simp [leadE, leadsB]⟩
  | f + 1, g, x :: r, y :: s, ha, hb, ra, rb, hf, hg => by
    rw [dfL_cons] at hg ⊢
    cases h1 : ltK y.1 x.1 with
    | true =>
      rw [h1, if_pos rfl] at hg
      rw [if_pos rfl]
      obtain ⟨g', rfl⟩ : ∃ g', g = g' + 1 := ⟨g - 1, by simp at hg; omega⟩
      have ih := ap_df f g' (x :: r) s ha (upE_weak hb.2) ra (fun z hz => rb z (List.mem_cons_of_mem _ hz)) (by simp at hf ⊢; omega) (by simp at hg ⊢; omega)
      unfold apL apB at ih ⊢
      rw [mg, if_pos h1, List.flatMap_cons, List.all_cons, ih.1, ih.2]
      exact ⟨rfl, by simp [leadE, leadsB]⟩
    | false =>
      rw [h1, if_neg (by simp)] at hg
      rw [if_neg (by simp)]
      cases h2 : ltK x.1 y.1 with
      | true =>
        rw [h2, if_pos rfl] at hg
        rw [if_pos rfl]
        obtain ⟨g', rfl⟩ : ∃ g', g = g' + 1 := ⟨g - 1, by simp at hg; omega⟩
        have ih := ap_df f g' r (y :: s) (upE_weak ha.2) hb (fun z hz => ra z (List.mem_cons_of_mem _ hz)) rb (by simp at hf ⊢; omega) (by simp at hg ⊢; omega)
        unfold apL apB at ih ⊢
        rw [mg, if_neg (by rw [ltK_irr]; simp), if_neg (by rw [ltK_irr]; simp), List.flatMap_cons, List.all_cons, ih.1, ih.2]
        exact ⟨rfl, by simp [leadE, leadsB, blank0]⟩
      | false =>
        rw [h2, if_neg (by simp)] at hg
        rw [if_neg (by simp)]
        have hk : x.1 = y.1 := ltK_same h2 h1
        obtain ⟨g', rfl⟩ : ∃ g', g = g' + 1 := ⟨g - 1, by simp at hg; omega⟩
        by_cases hz : ord0 x.2 y.2 = 0
        · have hv := (ord0_zero (ra x List.mem_cons_self) (rb y List.mem_cons_self)).1 hz
          have hxy : x = y := Prod.ext hk hv
          have hc : chE (some x, some y) = [] := by simp [chE, hz]
          rw [hc, List.nil_append] at hg ⊢
          have ih := ap_df f g' r s (upE_weak ha.2) (upE_weak hb.2) (fun z hz => ra z (List.mem_cons_of_mem _ hz)) (fun z hz => rb z (List.mem_cons_of_mem _ hz)) (by simp at hf ⊢; omega) (by simp at hg ⊢; omega)
          have hlow := ap_low g' x r (dfL f r s) (dfL_gt x.1 f r s (upE_all ha.2) (by rw [hk]; exact upE_all hb.2))
          rw [hlow.1, hlow.2, ih.1, ih.2, hxy]
          exact ⟨rfl, rfl⟩
        · have hc : chE (some x, some y) = [(y.1, false, y.2)] := by simp [chE, hz]
          rw [hc, List.singleton_append] at hg ⊢
          have ih := ap_df f g' r s (upE_weak ha.2) (upE_weak hb.2) (fun z hz => ra z (List.mem_cons_of_mem _ hz)) (fun z hz => rb z (List.mem_cons_of_mem _ hz)) (by simp at hf ⊢; omega) (by simp at hg ⊢; omega)
          unfold apL apB at ih ⊢
          rw [mg, if_neg (by dsimp only; rw [h1]; simp), if_neg (by dsimp only; rw [h2]; simp), List.flatMap_cons, List.all_cons, ih.1, ih.2]
          exact ⟨rfl, by simp [leadE, leadsB, hz]⟩
end Go.Proofs.Ytjhnbopejnpbeaa
