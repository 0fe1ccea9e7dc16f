/-
  The walk of LexBack; conditions: a text of at most 2^30 bytes; what the variables of strconv hold.
-/
import Derived.Test.YtnflbgejjgjpcaaDoorLxAh
import Derived.Test.YtnflbgejjgjpcaaDoorLxQ1
namespace Go.Proofs.YtnflbgejjgjpcaaDoor
open Go.RowKit
set_option linter.unusedVariables false
set_option linter.unusedSimpArgs false

def blC : Array Value := #[.string ⟨#[]⟩, .string ⟨#[32]⟩, .string ⟨#[10, 9]⟩, .string ⟨#[47, 47, 32, 34, 120, 10]⟩, .string ⟨#[13, 32, 10]⟩]

/-- the remainder by five, without its sign -/
theorem rem5 (x : Int) (h1 : -9223372036854775808 ≤ x) (h2 : x ≤ 9223372036854775807) : ∃ (A : Nat) (LA : List UInt8), A < 5 ∧ blL[A]? = some LA ∧ LA.length ≤ 6 ∧ LA ∈ blL ∧ blC[A]? = some (.string (bA LA)) ∧ ((x.tmod 5 < 0 ∧ IntKind.i64.wrap (-(x.tmod 5)) = (A : Int) ∧ -(x.tmod 5) = (A : Int)) ∨ (¬ x.tmod 5 < 0 ∧ x.tmod 5 = (A : Int))) := by
  have hb : -5 < x.tmod 5 ∧ x.tmod 5 < 5 := by
    constructor
    · by_cases h : 0 ≤ x
      · have := Int.tmod_nonneg 5 h; omega
      · have e : x.tmod 5 = -((-x).tmod 5) := by rw [Int.neg_tmod]; omega
        have := Int.tmod_lt_of_pos (-x) (show (0 : Int) < 5 by decide)
        omega
    · exact Int.tmod_lt_of_pos x (by decide)
  obtain ⟨A, hA⟩ : ∃ A : Nat, (x.tmod 5).natAbs = A := ⟨_, rfl⟩
  have hA5 : A < 5 := by omega
  have hin : ∃ LA, blL[A]? = some LA ∧ LA.length ≤ 6 ∧ LA ∈ blL ∧ blC[A]? = some (.string (bA LA)) := by
    match A, hA5 with
    | 0, _ => exact ⟨_, rfl, by decide, by decide, rfl⟩
    | 1, _ => exact ⟨_, rfl, by decide, by decide, rfl⟩
    | 2, _ => exact ⟨_, rfl, by decide, by decide, rfl⟩
    | 3, _ => exact ⟨_, rfl, by decide, by decide, rfl⟩
    | 4, _ => exact ⟨_, rfl, by decide, by decide, rfl⟩
  obtain ⟨LA, q1, q2, q3, q4⟩ := hin
  refine ⟨A, LA, hA5, q1, q2, q3, q4, ?_⟩
  by_cases h : x.tmod 5 < 0
  · exact Or.inl ⟨h, by rw [IntKind.wrap_i64]; omega, by omega⟩
  · exact Or.inr ⟨h, by omega⟩

set_option maxRecDepth 100000 in
set_option maxHeartbeats 4000000 in
theorem back_walk (s : ByteArray) (x y : Int) (hx1 : -9223372036854775808 ≤ x) (hx2 : x ≤ 9223372036854775807) (hy1 : -9223372036854775808 ≤ y) (hy2 : y ≤ 9223372036854775807) (hs : s.size ≤ 1073741824) (w : World) (he : Ev w) (hw6 : 5 < w.heap.size) :
    Calls Tryd.prog 4 #[.string s, .int .i64 x, .int .i64 y] w fun e w' => e = .returned (.bool true) ∧ Below w.heap.size w w' := by
  obtain ⟨A, LA, hA5, _, hAl, hAm, hAc, hAr⟩ := rem5 x hx1 hx2
  obtain ⟨B, LB, hB5, _, hBl, hBm, hBc, hBr⟩ := rem5 y hy1 hy2
  obtain ⟨g, hg⟩ : ∃ g, w.heap.size = g := ⟨_, rfl⟩
  obtain ⟨w1, hw1⟩ : ∃ w1, w.alloc (.cells #[.string ⟨#[]⟩, .string ⟨#[32]⟩, .string ⟨#[10, 9]⟩, .string ⟨#[47, 47, 32, 34, 120, 10]⟩, .string ⟨#[13, 32, 10]⟩] 32) = w1 := ⟨_, rfl⟩
  have hA1 : w1.heap[g]? = some (.cells blC 32 (0, 0)) := by rw [← hw1, ← hg]; exact heap_alloc_new w _
  have hz1 : w1.heap.size = g + 1 := by rw [← hw1, ← hg]; simp
  have HB1 : Hid (Below w.heap.size w w1) := hide (by rw [← hw1]; exact (Below.refl _ _).alloc (Nat.le_refl _) _)
  obtain ⟨VA, hVA⟩ : ∃ V, bA LA = V := ⟨_, rfl⟩
  obtain ⟨VB, hVB⟩ : ∃ V, bA LB = V := ⟨_, rfl⟩
  have hVAs : VA.size = LA.length := by rw [← hVA, bA_size]
  have hVBs : VB.size = LB.length := by rw [← hVB, bA_size]
  have HCELL : Hid (∀ u, Below w1.heap.size w1 u → u.cell? ⟨g, A, none⟩ = some (.string VA) ∧ u.cell? ⟨g, B, none⟩ = some (.string VB) ∧ g < u.heap.size ∧ Below w.heap.size w u) := hide (fun u hu => by
    have h1 : u.heap[g]? = some (.cells blC 32 (0, 0)) := (hu.block g (by omega)).trans hA1
    refine ⟨?_, ?_, (Array.getElem?_eq_some_iff.1 h1).1, (unhide HB1).trans (hu.mono (unhide HB1).size)⟩
    · rw [cell_of_row u g A _ _ (0, 0) h1, hAc, hVA]
    · rw [cell_of_row u g B _ _ (0, 0) h1, hBc, hVB])
  have CQ := hide (quoteL_any s hs w1)
  obtain ⟨Q, hQ⟩ : ∃ Q, bA (quoB s.data.toList) = Q := ⟨_, rfl⟩
  have hQs : Q.size ≤ 4 * s.size + 2 := by
    rw [← hQ, bA_size]
    have := flatB_len s.data.toList
    rw [len_list] at this
    simp only [quoB, List.length_append, List.length_cons, List.length_nil]
    omega
  rw [hQ] at CQ
  obtain ⟨T, hT⟩ : ∃ T, VA ++ Q ++ VB = T := ⟨_, rfl⟩
  have hTs : T.size = VA.size + Q.size + VB.size := by rw [← hT, ByteArray.size_append, ByteArray.size_append]
  have hTd : T.data.toList = LA ++ quoB s.data.toList ++ LB := by
    rw [← hT, ByteArray.data_append, Array.toList_append, ByteArray.data_append, Array.toList_append, ← hVA, ← hVB, ← hQ, bA_data, bA_data, bA_data]
  have hall := all_back LA LB s.data.toList hAm hBm
  rw [← hTd, len_list, len_list] at hall
  have HEV : Hid (∀ u, Below w.heap.size w u → Ev u ∧ 5 < u.heap.size) := hide (fun u hu => ⟨he.below hu hw6, Nat.lt_of_lt_of_le hw6 hu.size⟩)
  have CS := hide (fun u (hu : Below w.heap.size w u) => shown_any u (unhide HEV u hu).1 (unhide HEV u hu).2)
  have HALL := hide hall
  have HLA := hide (And.intro hVAs (And.intro hAl hVA))
  have HTT := hide hT
  have z1 : ¬ 9223372036854775807 < VA.size + Q.size := by omega
  have z2 : ¬ 9223372036854775807 < (VA ++ Q).size + VB.size := by rw [ByteArray.size_append]; omega
  have z3 : ¬ 9223372036854775807 < VA.size + Q.size + VB.size := by omega
  have hTi : (T.size : Int) ≤ 4294967400 := by omega
  have hsi : (s.size : Int) ≤ 1073741824 := by omega
  have ra : (⟨g, 0, none⟩ : Addr).add A = ⟨g, A, none⟩ := add_row g A
  have rb : (⟨g, 0, none⟩ : Addr).add B = ⟨g, B, none⟩ := add_row g B
  have ra1 : A * 1 = A := Nat.mul_one A
  have rb1 : B * 1 = B := Nat.mul_one B
  have a5 : (A : Int) < 5 := by omega
  have b5 : (B : Int) < 5 := by omega
  have a0 : (0 : Int) ≤ (A : Int) := by omega
  have b0 : (0 : Int) ≤ (B : Int) := by omega
  obtain ⟨rx, hrx⟩ : ∃ r, x.tmod 5 = r := ⟨_, rfl⟩
  obtain ⟨ry, hry⟩ : ∃ r, y.tmod 5 = r := ⟨_, rfl⟩
  rw [hrx] at hAr
  rw [hry] at hBr
  have HG := hide hg
  have hTe : (VA ++ Q ++ VB) = T := hT
  clear hall he hA1 hz1 hAc hBc hQ hQs hTd hTs hx1 hx2 hy1 hy2 hA5 hB5 hVA hVB hAm hBm hVAs hVBs hT HB1
  rcases hAr with ⟨hA1, hA2, hA3⟩ | ⟨hA1, hA3⟩ <;> rcases hBr with ⟨hB1, hB2, hB3⟩ | ⟨hB1, hB3⟩
  all_goals
    first
    | (rw [hA3] at hrx; clear hA3; have hA1' : ¬ (A : Int) < 0 := by omega)
    | skip
    first
    | (rw [hB3] at hry; clear hB3; have hB1' : ¬ (B : Int) < 0 := by omega)
    | skip
    go_enter Tryd.func4, Tryd.ntmps4
    go_upto_region 8 with fail
    go_wp2_with fail
    refine (unhide CQ).mono ?_
    rintro e uA ⟨rfl, b1⟩
    have HUA := hide b1
    clear b1
    obtain ⟨cA, cB, hgl, hbw⟩ := unhide HCELL uA (unhide HUA)
    clear hbw
    go_upto_region 9 with fail
    go_quiet (fail)
    have HUB : Hid (Below w1.heap.size w1 (uA.drewN nq)) := hide ((unhide HUA).trans ((below_drewN' nq uA).mono (unhide HUA).size))
    obtain ⟨uB, huB⟩ : ∃ uB, uA.drewN nq = uB := ⟨_, rfl⟩
    rw [huB] at HUB ⊢
    clear huB cA cB hgl HUA
    obtain ⟨cA, cB, hgl, hbw⟩ := unhide HCELL uB (unhide HUB)
    have HBW := hide hbw
    clear hbw
    by_cases hbig : 8192 < T.size
    · have j1 : (8192 : Int) < (T.size : Int) := by omega
      have CA := hide (all_bad T 0 160 uB (unhide HEV uB (unhide HBW)).1 (unhide HEV uB (unhide HBW)).2 (by rw [unhide HALL, if_pos hbig]))
      clear hbig
      go_wp2_with fail
      refine (unhide CA).mono ?_
      rintro e uC ⟨rfl, b3⟩
      have HBC : Hid (Below w.heap.size w uC) := hide ((unhide HBW).trans (b3.mono (unhide HBW).size))
      clear b3
      have CS2 := hide ((unhide CS) uC (unhide HBC))
      go_wp2_with fail
      refine (unhide CS2).mono ?_
      rintro e uD ⟨rfl, b4⟩
      have HBD : Hid (Below w.heap.size w uD) := hide ((unhide HBC).trans (b4.mono (unhide HBC).size))
      clear b4
      go_wp2_with fail
      go_ret
      exact ⟨rfl, by first | exact unhide HBD | (rw [← unhide HG]; exact unhide HBD)⟩
    · have j1 : ¬ (8192 : Int) < (T.size : Int) := by omega
      by_cases hlong : s.size ≤ 2047
      · have j2 : ¬ (2047 : Int) < (s.size : Int) := by omega
        have CA := hide (all_toks T [⟨4, s.data.toList, 0, LA.length⟩, endT T.size] uB (unhide HEV uB (unhide HBW)).1 (unhide HEV uB (unhide HBW)).2 (by rw [unhide HALL, if_neg hbig, if_pos hlong]) 1 rfl)
        clear hbig hlong
        go_wp2_with fail
        refine (unhide CA).mono ?_
        rintro e uC ⟨b, c, rfl, hc, hbb, hcm, HK⟩
        have HBC : Hid (Below w.heap.size w uC) := hide ((unhide HBW).trans ((unhide HK).2.2.mono (unhide HBW).size))
        have HWC : Hid (Below w1.heap.size w1 uC) := hide ((unhide HUB).trans ((unhide HK).2.2.mono (unhide HUB).size))
        have CS2 := hide ((unhide CS) uC (unhide HBC))
        clear cA cB hgl
        go_wp2_with fail
        refine (unhide CS2).mono ?_
        rintro e uD ⟨rfl, b4⟩
        have HBD : Hid (Below w.heap.size w uD) := hide ((unhide HBC).trans (b4.mono (unhide HBC).size))
        have hTR := (unhide HK).2.1.later b4
        obtain ⟨cA, cB, hgl, _⟩ := unhide HCELL uD ((unhide HWC).trans (b4.mono (unhide HWC).size))
        obtain ⟨hb1, x0, x1, x2, x3⟩ := hTR.at (i := 0) rfl
        obtain ⟨hb2, y0, y1, y2, y3⟩ := hTR.at (i := 1) rfl
        have hLA : (LA.length : Int) = (VA.size : Int) := by have := (unhide HLA).1; omega
        simp only [endT, bA_nil, bA_self, hLA, Nat.zero_mul, Nat.one_mul, Nat.zero_add] at x0 x1 x2 x3 y0 y1 y2 y3
        have n1 := eql_tok 4 0 (VA.size : Int) s
        have n2 := eql_tok 0 0 (T.size : Int) ⟨#[]⟩
        have g1 := fun (k n p : Int) (t : ByteArray) (w : World) (x y : Operand) => run_eqGuard_agg (P := Tryd.prog) w .eql 29 x y #[.int .i64 k, .string t, .int .i64 n, .int .i64 p] #[.int .i64 k, .string t, .int .i64 n, .int .i64 p] guard_tok
        have hc2 : (2 : Int) ≤ (c : Int) := by omega
        have q0 := add_row b 0
        have q4 := add_row b 4
        have HBE : Hid (∀ z, Below w.heap.size w (uD.drewN z)) := hide (fun z => (unhide HBD).trans ((below_drewN' z uD).mono (unhide HBD).size))
        clear b4 hTR hLA
        go_upto_region 18 with fail
        go_quiet (fail)
        go_wp2_with fail
        go_ret
        exact ⟨rfl, by first | exact unhide HBE _ | (rw [← unhide HG]; exact unhide HBE _)⟩
      · have j2 : (2047 : Int) < (s.size : Int) := by omega
        have CA := hide (all_bad T LA.length 163 uB (unhide HEV uB (unhide HBW)).1 (unhide HEV uB (unhide HBW)).2 (by rw [unhide HALL, if_neg hbig, if_neg hlong]))
        have hLA : (LA.length : Int) = (VA.size : Int) := by have := (unhide HLA).1; omega
        rw [hLA] at CA
        clear hbig hlong hLA
        go_wp2_with fail
        refine (unhide CA).mono ?_
        rintro e uC ⟨rfl, b3⟩
        have HBC : Hid (Below w.heap.size w uC) := hide ((unhide HBW).trans (b3.mono (unhide HBW).size))
        have HWC : Hid (Below w1.heap.size w1 uC) := hide ((unhide HUB).trans (b3.mono (unhide HUB).size))
        clear b3 cA cB hgl
        have CS2 := hide ((unhide CS) uC (unhide HBC))
        go_wp2_with fail
        refine (unhide CS2).mono ?_
        rintro e uD ⟨rfl, b4⟩
        have HBD : Hid (Below w.heap.size w uD) := hide ((unhide HBC).trans (b4.mono (unhide HBC).size))
        obtain ⟨cA, cB, hgl, _⟩ := unhide HCELL uD ((unhide HWC).trans (b4.mono (unhide HWC).size))
        clear b4
        go_wp2_with fail
        go_ret
        exact ⟨rfl, by first | exact unhide HBD | (rw [← unhide HG]; exact unhide HBD)⟩
end Go.Proofs.YtnflbgejjgjpcaaDoor
