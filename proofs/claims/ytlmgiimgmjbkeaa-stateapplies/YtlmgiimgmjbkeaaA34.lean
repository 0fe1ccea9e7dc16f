/-
  The walk of the document's fits: may a change stand among those from some entries on? conditions: the form's own reach.
-/
import Derived.Test.YtlmgiimgmjbkeaaA33
import Derived.Test.YtlmgiimgmjbkeaaA21
set_option linter.unusedVariables false
set_option linter.unusedSimpArgs false
namespace Go.Proofs.Ytlmgiimgmjbkeaa
open Go.RowKit
set_option linter.unusedVariables false
set_option linter.unusedSimpArgs false

theorem below_drewR {B : Nat} {a w : World} (h : Below B a w) (q : Nat) : Below B a (w.drewN q) := ⟨h.os, h.tape, h.output, h.size, h.block⟩
theorem below_drewR1 {B : Nat} {a w : World} (h : Below B a w) : Below B a w.drew := ⟨h.os, h.tape, h.output, h.size, h.block⟩

/-- is it the zero Value, part by part? -/
def blkB (v : Vl) : Bool := v.kind == 0 && (v.n == 0 && (v.s.toList == [] && (v.l.length == 0 && v.ks.length == 0)))
/-- what fits answers, by where the key stands -/
def fitsR (es : List En) (g : Bool) (v : Vl) (r : Int) : Bool := if g then decide (0 ≤ r) && blkB v else rightB v && (decide (r < 0) || !(ord0 ((es[r.toNat]?.map (·.2)).getD vl0) v == 0))

set_option maxRecDepth 100000 in
set_option maxHeartbeats 4000000 in
theorem fits_anyR (es : List En) (s : ByteArray) (gg : Bool) (v : Vl) (t0 t1 : Int) (t2 : ByteArray) (t3 : Option Addr) (t4 t5 : Nat) (t6 : Option Addr) (t7 t8 : Nat) (al : Option Addr) (n cl B : Nat) (w : World) (hn : es.length = n) (h : IsE w (fun b => b < B) es al cl) (hv : IsV w B v (.agg #[.int .i64 t0, .int .i64 t1, .string t2, .slice t3 t4 t5, .slice t6 t7 t8])) (hB : B ≤ w.heap.size) :
    Calls Try.prog 37 #[.slice al n cl, .agg #[.string s, .bool gg, .int .i64 t0, .int .i64 t1, .string t2, .slice t3 t4 t5, .slice t6 t7 t8]] w fun e w' => ∃ r : Int, e = .returned (.bool (fitsR es gg v r)) ∧ FindR es s r ∧ Below w.heap.size w w' := by
  obtain ⟨kd, kn, ks0, l, ks, hal, hak, hcl, hck, rfl, hxe⟩ := hv.shape
  have hxe' := congrArg Array.toList (Value.agg.inj hxe)
  simp only [List.cons.injEq, Value.int.injEq, Value.string.injEq, Value.slice.injEq, true_and, and_true] at hxe'
  obtain ⟨rfl, rfl, rfl, ⟨rfl, rfl, rfl⟩, ⟨rfl, rfl, rfl⟩⟩ := hxe'
  clear hxe
  obtain ⟨t4, ht4⟩ : ∃ t, l.length = t := ⟨_, rfl⟩
  obtain ⟨t7, ht7⟩ : ∃ t, ks.length = t := ⟨_, rfl⟩
  rw [ht4, ht7] at hv
  rw [ht4, ht7]
  obtain ⟨gb, hgb⟩ : ∃ gb, w.heap.size = gb := ⟨_, rfl⟩
  obtain ⟨w1, hw1⟩ : ∃ w1, w.alloc (.cells #[.string s, .bool gg, .int .i64 t0, .int .i64 t1, .string t2, .slice t3 t4 t5, .slice t6 t7 t8] 36) = w1 := ⟨_, rfl⟩
  have n1 : w1.heap[gb]? = some (.cells #[.string s, .bool gg, .int .i64 t0, .int .i64 t1, .string t2, .slice t3 t4 t5, .slice t6 t7 t8] 36 (0, 0)) := by rw [← hw1, ← hgb]; exact heap_alloc_new w _
  have b1 : Below w.heap.size w w1 := by rw [← hw1]; exact (Below.refl _ _).alloc (Nat.le_refl _) _
  have HB := hide (And.intro b1 n1)
  obtain ⟨c0, c1, c2, c3, c4, c5, c6⟩ := row_cell7 n1
  have CF := hide (find_any es s al n cl B w1 hn (h.later (b1.mono hB)) (Nat.le_trans hB b1.size))
  obtain ⟨v, hvv⟩ : ∃ v, Vl.mk t0 t1 t2 l ks = v := ⟨_, rfl⟩
  have HBK : Hid (blkB v = (t0 == 0 && (t1 == 0 && (t2.toList == [] && (t4 == 0 && t7 == 0))))) := hide (by rw [← hvv, ← ht4, ← ht7]; rfl)
  rw [hvv] at hv ⊢
  have HE : Hid (∀ u, Below w.heap.size w u → IsE u (fun b => b < B) es al cl ∧ IsV u B v (.agg #[.int .i64 t0, .int .i64 t1, .string t2, .slice t3 t4 t5, .slice t6 t7 t8])) := hide (fun u hu => ⟨h.later (hu.mono hB), IsV.mono (hu.mono hB) hv⟩)
  have HBs := hide hB
  have HN := hide hn
  clear n1 b1 h hv hn hB hvv ht4 ht7
  go_enter Try.func37, Try.ntmps37
  go_wp2_with fail
  refine (unhide CF).mono ?_
  rintro e u1 ⟨r, rfl, hr, d1⟩
  have HR := hide hr
  have D1 : Hid (Below w.heap.size w u1) := hide ((unhide HB).1.trans (d1.mono (unhide HB).1.size))
  obtain ⟨z0, z1, z2, z3, z4, z5, z6⟩ := row_cell7 ((d1.block gb (Array.getElem?_eq_some_iff.1 (unhide HB).2).1).trans (unhide HB).2)
  have hgl : gb < u1.heap.size := Nat.lt_of_lt_of_le (Array.getElem?_eq_some_iff.1 (unhide HB).2).1 d1.size
  clear hr d1 CF c0 c1 c2 c3 c4 c5 c6
  go_upto_region 3 with fail
  obtain ⟨g6, hg6⟩ : ∃ g, u1.heap.size = g := ⟨_, rfl⟩
  obtain ⟨u2, hu2⟩ : ∃ u, u1.alloc (.cells #[.int .i64 t0, .int .i64 t1, .string t2, .slice t3 t4 t5, .slice t6 t7 t8] 34) = u := ⟨_, rfl⟩
  try rw [hu2]
  try rw [hg6]
  have n2 : u2.heap[g6]? = some (.cells #[.int .i64 t0, .int .i64 t1, .string t2, .slice t3 t4 t5, .slice t6 t7 t8] 34 (0, 0)) := by rw [← hu2, ← hg6]; exact heap_alloc_new u1 _
  have d2 : Below u1.heap.size u1 u2 := by rw [← hu2]; exact (Below.refl _ _).alloc (Nat.le_refl _) _
  obtain ⟨q0, q1, q2, q3, q4⟩ := row_cell n2
  have q7 : u2.cell? ⟨gb, 1, none⟩ = some (.bool gg) := cell_later d2 z1
  have D2 : Hid (Below w.heap.size w u2) := hide ((unhide D1).trans (d2.mono (unhide D1).size))
  have HN2 := hide n2
  clear n2 d2 hu2 hg6 z0 z1 z2 z3 z4 z5 z6 D1 hgl
  cases gg with
  | true =>
    by_cases hr0 : 0 ≤ r
    · by_cases hk : t0 = 0
      · subst hk
        by_cases hn0 : t1 = 0
        · subst hn0
          cases hs : (t2.toList == []) with
          | true =>
            by_cases hl0 : t4 = 0
            · subst hl0
              by_cases hm0 : t7 = 0
              · subst hm0
                have HF : Hid (fitsR es true v r = true) := hide (by unfold fitsR; rw [if_pos rfl, unhide HBK, decide_eq_true hr0, hs]; simp)
                go_wp2_with fail
                go_ret
                exact ⟨r, by rw [unhide HF]; rfl, unhide HR, by first | exact unhide D2 | (rw [← hgb]; exact unhide D2)⟩
              · have hm0b : (t7 == 0) = false := beq_eq_false_iff_ne.2 hm0
                have hm0i : ¬ (t7 : Int) = 0 := by omega
                have hm0j : ((t7 : Int) == 0) = false := beq_eq_false_iff_ne.2 hm0i
                have HF : Hid (fitsR es true v r = false) := hide (by unfold fitsR; rw [if_pos rfl, unhide HBK, hm0b]; simp)
                go_wp2_with fail
                go_ret
                exact ⟨r, by rw [unhide HF]; rfl, unhide HR, by first | exact unhide D2 | (rw [← hgb]; exact unhide D2)⟩
            · have hl0b : (t4 == 0) = false := beq_eq_false_iff_ne.2 hl0
              have hl0i : ¬ (t4 : Int) = 0 := by omega
              have hl0j : ((t4 : Int) == 0) = false := beq_eq_false_iff_ne.2 hl0i
              have HF : Hid (fitsR es true v r = false) := hide (by unfold fitsR; rw [if_pos rfl, unhide HBK, hl0b]; simp)
              go_wp2_with fail
              go_ret
              exact ⟨r, by rw [unhide HF]; rfl, unhide HR, by first | exact unhide D2 | (rw [← hgb]; exact unhide D2)⟩
          | false =>
            have HF : Hid (fitsR es true v r = false) := hide (by unfold fitsR; rw [if_pos rfl, unhide HBK, hs]; simp)
            go_wp2_with fail
            go_ret
            exact ⟨r, by rw [unhide HF]; rfl, unhide HR, by first | exact unhide D2 | (rw [← hgb]; exact unhide D2)⟩
        · have hn0b : (t1 == 0) = false := beq_eq_false_iff_ne.2 hn0
          have HF : Hid (fitsR es true v r = false) := hide (by unfold fitsR; rw [if_pos rfl, unhide HBK, hn0b]; simp)
          go_wp2_with fail
          go_ret
          exact ⟨r, by rw [unhide HF]; rfl, unhide HR, by first | exact unhide D2 | (rw [← hgb]; exact unhide D2)⟩
      · have hkb : (t0 == 0) = false := beq_eq_false_iff_ne.2 hk
        have HF : Hid (fitsR es true v r = false) := hide (by unfold fitsR; rw [if_pos rfl, unhide HBK, hkb]; simp)
        go_wp2_with fail
        go_ret
        exact ⟨r, by rw [unhide HF]; rfl, unhide HR, by first | exact unhide D2 | (rw [← hgb]; exact unhide D2)⟩
    · have HF : Hid (fitsR es true v r = false) := hide (by unfold fitsR; rw [if_pos rfl, decide_eq_false hr0]; rfl)
      go_wp2_with fail
      go_ret
      exact ⟨r, by rw [unhide HF]; rfl, unhide HR, by first | exact unhide D2 | (rw [← hgb]; exact unhide D2)⟩
  | false =>
    have CX := hide (right_ref v _ B u2 (unhide HE u2 (unhide D2)).2 (Nat.le_trans (unhide HBs) (unhide D2).size))
    obtain ⟨R, hRv⟩ : ∃ R, rightB v = R := ⟨_, rfl⟩
    rw [hRv] at CX
    have HRV := hide hRv
    clear hRv
    go_wp2_with fail
    refine (unhide CX).mono ?_
    rintro e u3 ⟨rfl, d3⟩
    have D3 : Hid (Below w.heap.size w u3) := hide ((unhide D2).trans (d3.mono (unhide D2).size))
    obtain ⟨p0, p1, p2, p3, p4⟩ := row_cell ((d3.block g6 (Array.getElem?_eq_some_iff.1 (unhide HN2)).1).trans (unhide HN2))
    clear d3 CX q0 q1 q2 q3 q4 q7
    cases R with
    | false =>
      have HF : Hid (fitsR es false v r = false) := hide (by unfold fitsR; rw [if_neg (by decide), unhide HRV]; rfl)
      go_upto_region 6 with fail
      go_quiet (fail)
      go_wp2_with fail
      go_ret
      exact ⟨r, by rw [unhide HF]; rfl, unhide HR, by first | exact below_drewR (unhide D3) _ | (rw [← hgb]; exact below_drewR (unhide D3) _)⟩
    | true =>
      by_cases hr0 : r < 0
      · have HF : Hid (fitsR es false v r = true) := hide (by unfold fitsR; rw [if_neg (by decide), unhide HRV, decide_eq_true hr0]; rfl)
        go_upto_region 6 with fail
        go_quiet (fail)
        go_wp2_with fail
        go_ret
        exact ⟨r, by rw [unhide HF]; rfl, unhide HR, by first | exact below_drewR (unhide D3) _ | (rw [← hgb]; exact below_drewR (unhide D3) _)⟩
      · obtain ⟨i, xv, hri, hx⟩ : ∃ (i : Nat) (xv : Vl), r = (i : Int) ∧ es[i]? = some (s, xv) := by
          rcases unhide HR with h | h
          · exact h
          · have := h.1
            omega
        subst hri
        obtain ⟨a, x0, x1, x2, x3, x6, x4, x7, x5, x8, rfl, _, _, hcx, hpx⟩ := (unhide HE u3 (unhide D3)).1.elem i _ hx
        dsimp only at hcx hpx
        have e1 : u3.cell? ⟨(a.add (i * 6)).block, (a.add (i * 6)).off + 1, none⟩ = some (.int .i64 x0) := hcx 1 _ rfl
        have e2 : u3.cell? ⟨(a.add (i * 6)).block, (a.add (i * 6)).off + 2, none⟩ = some (.int .i64 x1) := hcx 2 _ rfl
        have e3 : u3.cell? ⟨(a.add (i * 6)).block, (a.add (i * 6)).off + 3, none⟩ = some (.string x2) := hcx 3 _ rfl
        have e4 : u3.cell? ⟨(a.add (i * 6)).block, (a.add (i * 6)).off + 4, none⟩ = some (.slice x3 x4 x5) := hcx 4 _ rfl
        have e5 : u3.cell? ⟨(a.add (i * 6)).block, (a.add (i * 6)).off + 5, none⟩ = some (.slice x6 x7 x8) := hcx 5 _ rfl
        have j1 : (i : Int) < (n : Int) := by have h1 := (List.getElem?_eq_some_iff.1 hx).1; have h2 := unhide HN; omega
        have CC := hide (compare_ref xv v _ _ B u3.drew (IsV.mono (below_drewR1 (Below.refl _ _)) hpx) (IsV.mono (below_drewR1 (Below.refl _ _)) (unhide HE u3 (unhide D3)).2) (Nat.le_trans (unhide HBs) (unhide D3).size))
        obtain ⟨c, hcc⟩ : ∃ c, ord0 xv v = c := ⟨_, rfl⟩
        have HFc : Hid (fitsR es false v (i : Int) = !(c == 0)) := hide (by
          unfold fitsR
          rw [if_neg (by decide), unhide HRV, decide_eq_false hr0, Int.toNat_natCast, hx]
          show (true && (false || !(ord0 xv v == 0))) = _
          rw [hcc]
          simp)
        rw [hcc] at CC
        clear hcx hpx hx hcc
        by_cases hc0 : c = 0
        · subst hc0
          have HF : Hid (fitsR es false v (i : Int) = false) := hide (by rw [unhide HFc]; rfl)
          go_upto_region 6 with fail
          go_region_held3 (fun w' => w'.cell? ⟨(a.add (i * 6)).block, (a.add (i * 6)).off + 1, none⟩ = some (.int .i64 x0) ∧ w'.cell? ⟨(a.add (i * 6)).block, (a.add (i * 6)).off + 2, none⟩ = some (.int .i64 x1) ∧ w'.cell? ⟨(a.add (i * 6)).block, (a.add (i * 6)).off + 3, none⟩ = some (.string x2) ∧ w'.cell? ⟨(a.add (i * 6)).block, (a.add (i * 6)).off + 4, none⟩ = some (.slice x3 x4 x5) ∧ w'.cell? ⟨(a.add (i * 6)).block, (a.add (i * 6)).off + 5, none⟩ = some (.slice x6 x7 x8) ∧ w'.cell? ⟨g6, 0, none⟩ = some (.int .i64 t0) ∧ w'.cell? ⟨g6, 1, none⟩ = some (.int .i64 t1) ∧ w'.cell? ⟨g6, 2, none⟩ = some (.string t2) ∧ w'.cell? ⟨g6, 3, none⟩ = some (.slice t3 t4 t5) ∧ w'.cell? ⟨g6, 4, none⟩ = some (.slice t6 t7 t8))
            (first | go_keep | (have hb6 := below_drew_of' b5; exact ⟨cell_later hb6 e1, cell_later hb6 e2, cell_later hb6 e3, cell_later hb6 e4, cell_later hb6 e5, cell_later hb6 p0, cell_later hb6 p1, cell_later hb6 p2, cell_later hb6 p3, cell_later hb6 p4⟩))
            (first | (go_at_call 28; refine (unhide CC).mono ?_; rintro e w5 ⟨rfl, b5⟩))
          have HX5 : Hid (Below w.heap.size w w5) := hide ((unhide D3).trans ((below_drew_of' b5).mono (unhide D3).size))
          clear b5 CC
          go_wp2_with fail
          go_ret
          exact ⟨(i : Int), by rw [unhide HF]; rfl, unhide HR, by first | exact unhide HX5 | (rw [← hgb]; exact unhide HX5)⟩
        · have hc1 : (c == 0) = false := beq_eq_false_iff_ne.2 hc0
          have HF : Hid (fitsR es false v (i : Int) = true) := hide (by rw [unhide HFc, hc1]; rfl)
          go_upto_region 6 with fail
          go_region_held3 (fun w' => w'.cell? ⟨(a.add (i * 6)).block, (a.add (i * 6)).off + 1, none⟩ = some (.int .i64 x0) ∧ w'.cell? ⟨(a.add (i * 6)).block, (a.add (i * 6)).off + 2, none⟩ = some (.int .i64 x1) ∧ w'.cell? ⟨(a.add (i * 6)).block, (a.add (i * 6)).off + 3, none⟩ = some (.string x2) ∧ w'.cell? ⟨(a.add (i * 6)).block, (a.add (i * 6)).off + 4, none⟩ = some (.slice x3 x4 x5) ∧ w'.cell? ⟨(a.add (i * 6)).block, (a.add (i * 6)).off + 5, none⟩ = some (.slice x6 x7 x8) ∧ w'.cell? ⟨g6, 0, none⟩ = some (.int .i64 t0) ∧ w'.cell? ⟨g6, 1, none⟩ = some (.int .i64 t1) ∧ w'.cell? ⟨g6, 2, none⟩ = some (.string t2) ∧ w'.cell? ⟨g6, 3, none⟩ = some (.slice t3 t4 t5) ∧ w'.cell? ⟨g6, 4, none⟩ = some (.slice t6 t7 t8))
            (first | go_keep | (have hb6 := below_drew_of' b5; exact ⟨cell_later hb6 e1, cell_later hb6 e2, cell_later hb6 e3, cell_later hb6 e4, cell_later hb6 e5, cell_later hb6 p0, cell_later hb6 p1, cell_later hb6 p2, cell_later hb6 p3, cell_later hb6 p4⟩))
            (first | (go_at_call 28; refine (unhide CC).mono ?_; rintro e w5 ⟨rfl, b5⟩))
          have HX5 : Hid (Below w.heap.size w w5) := hide ((unhide D3).trans ((below_drew_of' b5).mono (unhide D3).size))
          clear b5 CC
          go_wp2_with fail
          go_ret
          exact ⟨(i : Int), by rw [unhide HF]; first | rfl | simp [bne, hc1], unhide HR, by first | exact unhide HX5 | (rw [← hgb]; exact unhide HX5)⟩
end Go.Proofs.Ytlmgiimgmjbkeaa
