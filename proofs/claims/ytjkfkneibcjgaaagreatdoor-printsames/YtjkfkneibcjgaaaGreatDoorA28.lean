/-
  Layer 18 (print): Same, the code's and the document's; conditions: the nodes lie in memory.
-/
import Derived.Test.YtjkfkneibcjgaaaGreatDoorA20
import Derived.Test.YtjkfkneibcjgaaaGreatDoorA27
set_option linter.unusedVariables false
set_option linter.unusedSimpArgs false
namespace Go.Proofs.YtjkfkneibcjgaaaGreatDoor
open Go.RowKit
set_option linter.unusedVariables false
set_option linter.unusedSimpArgs false

/-- are two trees small, and the same but for places? -/
def saB (y z : Tn) : Bool := decide (cns [y] ≤ 20000) && decide (cns [z] ≤ 20000) && smN y z


set_option maxRecDepth 100000 in
set_option maxHeartbeats 2000000 in
theorem same_any (y z : Tn) (x x' : List Value) (B : Nat) (w : World) (hx : IsN w (fun b => b < B) y x) (hx' : IsN w (fun b => b < B) z x') (hB : B ≤ w.heap.size) : Calls Tryz.prog 15 #[.agg x.toArray, .agg x'.toArray] w fun e w' => e = .returned (.bool (saB y z)) ∧ Below w.heap.size w w' := by
  obtain ⟨vk, vn, vs, al, ak, a, ll, cl, lk, ck, cc, rfl, hv, hr, -, -⟩ := hx.opn
  obtain ⟨vk', vn', vs', al', ak', a', ll', cl', lk', ck', cc', rfl, hv', hr', -, -⟩ := hx'.opn
  obtain ⟨k, t, v, f, ks, p⟩ := y
  obtain ⟨k', t', v', f', ks', p'⟩ := z
  simp only at hv hr hv' hr' hx hx' ⊢
  obtain ⟨n, hn⟩ : ∃ n, ks.length = n := ⟨_, rfl⟩
  obtain ⟨n', hn'⟩ : ∃ n, ks'.length = n := ⟨_, rfl⟩
  simp only [hn, hn'] at hx hx' ⊢
  have TW := TwoL.mk' w 28 #[.int .i64 k, .string t, .int .i64 vk, .int .i64 vn, .string vs, .slice al ll cl, .slice ak lk ck, .bool f, .slice a n cc, .int .i64 p] #[.int .i64 k', .string t', .int .i64 vk', .int .i64 vn', .string vs', .slice al' ll' cl', .slice ak' lk' ck', .bool f', .slice a' n' cc', .int .i64 p']
  obtain ⟨w2, hw2⟩ : ∃ w2, (w.alloc (.cells #[.int .i64 k, .string t, .int .i64 vk, .int .i64 vn, .string vs, .slice al ll cl, .slice ak lk ck, .bool f, .slice a n cc, .int .i64 p] 28)).alloc (.cells #[.int .i64 k', .string t', .int .i64 vk', .int .i64 vn', .string vs', .slice al' ll' cl', .slice ak' lk' ck', .bool f', .slice a' n' cc', .int .i64 p'] 28) = w2 := ⟨_, rfl⟩
  rw [hw2] at TW
  obtain ⟨g, hg⟩ : ∃ g, w.heap.size = g := ⟨_, rfl⟩
  rw [hg] at TW
  have HT := hide TW
  have HV : Hid (∀ u, Below w2.heap.size w2 u → IsN u (fun b => b < B) ⟨k, t, v, f, ks, p⟩ [.int .i64 k, .string t, .int .i64 vk, .int .i64 vn, .string vs, .slice al ll cl, .slice ak lk ck, .bool f, .slice a n cc, .int .i64 p] ∧ IsN u (fun b => b < B) ⟨k', t', v', f', ks', p'⟩ [.int .i64 k', .string t', .int .i64 vk', .int .i64 vn', .string vs', .slice al' ll' cl', .slice ak' lk' ck', .bool f', .slice a' n' cc', .int .i64 p'] ∧ RowN u B ks a cc ∧ RowN u B ks' a' cc' ∧ B ≤ u.heap.size ∧ Below w.heap.size w u ∧ IsV u B v (.agg #[.int .i64 vk, .int .i64 vn, .string vs, .slice al ll cl, .slice ak lk ck]) ∧ IsV u B v' (.agg #[.int .i64 vk', .int .i64 vn', .string vs', .slice al' ll' cl', .slice ak' lk' ck'])) :=
    hide (fun u hu => by
      have h0 : Below w.heap.size w u := TW.below.trans (hu.mono (by have := TW.size; omega))
      have h1 : Below B w u := h0.mono hB
      exact ⟨hx.laterB h1, hx'.laterB h1, hr.later h1, hr'.later h1, by have := TW.size; have := hu.size; omega, h0, hv.mono h1, hv'.mono h1⟩)
  have HB : Hid (Below w.heap.size w w2) := hide TW.below
  have HGs : Hid (g ≤ w2.heap.size) := hide (by have := TW.size; omega)
  obtain ⟨R, hR⟩ : ∃ R, saB ⟨k, t, v, f, ks, p⟩ ⟨k', t', v', f', ks', p'⟩ = R := ⟨_, rfl⟩
  rw [hR]
  have HR := hide hR
  clear TW hx hx' hr hr' hn hn' hR hB hv hv'
  obtain ⟨c0, c1, c2, c3, c4, c5, c6, c7, c8, c9⟩ := row_ten (unhide HT).at0
  obtain ⟨d0, d1, d2, d3, d4, d5, d6, d7, d8, d9⟩ := row_ten (unhide HT).at1
  have C1 := hide (small_any B ⟨k, t, v, f, ks, p⟩ _ w2 ((unhide HV) w2 (Below.refl _ _)).2.2.2.2.1 ((unhide HV) w2 (Below.refl _ _)).1)
  obtain ⟨q1, hq1⟩ : ∃ q, decide (cns [⟨k, t, v, f, ks, p⟩] ≤ 20000) = q := ⟨_, rfl⟩
  rw [hq1] at C1
  have HQ1 := hide hq1
  clear hq1
  go_enter Tryz.func15, Tryz.ntmps15
  go_wp2_with fail
  refine (unhide C1).mono ?_
  rintro e w3 ⟨rfl, b3⟩
  have X3 := hide b3
  clear b3 C1 c0 c1 c2 c3 c4 c5 c6 c7 c8 c9 d0 d1 d2 d3 d4 d5 d6 d7 d8 d9
  cases q1 with
  | false =>
    have HG : Hid (R = false) := hide (by rw [← unhide HR]; unfold saB; rw [unhide HQ1]; simp)
    have XX := hide ((unhide HV) w3 (unhide X3)).2.2.2.2.2.1
    go_wp2_with fail
    go_ret
    exact ⟨by rw [unhide HG] <;> rfl, by first | exact unhide XX | (rw [← hg]; exact unhide XX)⟩
  | true =>
    have V4 := (unhide HV) w3 (unhide X3)
    have C2 := hide (small_any B ⟨k', t', v', f', ks', p'⟩ _ w3 V4.2.2.2.2.1 V4.2.1)
    obtain ⟨q2, hq2⟩ : ∃ q, decide (cns [⟨k', t', v', f', ks', p'⟩] ≤ 20000) = q := ⟨_, rfl⟩
    rw [hq2] at C2
    have HQ2 := hide hq2
    obtain ⟨c0, c1, c2, c3, c4, c5, c6, c7, c8, c9⟩ := row_ten ((unhide HT).later (unhide X3)).1
    obtain ⟨d0, d1, d2, d3, d4, d5, d6, d7, d8, d9⟩ := row_ten ((unhide HT).later (unhide X3)).2
    clear V4 hq2
    go_wp2_with fail
    refine (unhide C2).mono ?_
    rintro e w4 ⟨rfl, b4⟩
    have X4 := hide ((unhide X3).trans (b4.mono (unhide X3).size))
    clear b4 C2 c0 c1 c2 c3 c4 c5 c6 c7 c8 c9 d0 d1 d2 d3 d4 d5 d6 d7 d8 d9
    cases q2 with
    | false =>
      have HG : Hid (R = false) := hide (by rw [← unhide HR]; unfold saB; rw [unhide HQ2]; simp)
      have XX := hide ((unhide HV) w4 (unhide X4)).2.2.2.2.2.1
      go_wp2_with fail
      go_ret
      exact ⟨by rw [unhide HG] <;> rfl, by first | exact unhide XX | (rw [← hg]; exact unhide XX)⟩
    | true =>
      have V5 := (unhide HV) w4 (unhide X4)
      have C3 := hide (smn_all _ ⟨k, t, v, f, ks, p⟩ ⟨k', t', v', f', ks', p'⟩ _ _ B w4 (Nat.le_refl _) V5.1 V5.2.1 V5.2.2.2.2.1)
      obtain ⟨q3, hq3⟩ : ∃ q, smN ⟨k, t, v, f, ks, p⟩ ⟨k', t', v', f', ks', p'⟩ = q := ⟨_, rfl⟩
      rw [hq3] at C3
      have HG : Hid (R = q3) := hide (by rw [← unhide HR, ← hq3]; unfold saB; rw [unhide HQ1, unhide HQ2]; rfl)
      obtain ⟨c0, c1, c2, c3, c4, c5, c6, c7, c8, c9⟩ := row_ten ((unhide HT).later (unhide X4)).1
      obtain ⟨d0, d1, d2, d3, d4, d5, d6, d7, d8, d9⟩ := row_ten ((unhide HT).later (unhide X4)).2
      clear V5 hq3
      go_wp2_with fail
      refine (unhide C3).mono ?_
      rintro e w5 ⟨rfl, b5⟩
      have X5 := hide ((unhide X4).trans (b5.mono (unhide X4).size))
      clear b5 C3 c0 c1 c2 c3 c4 c5 c6 c7 c8 c9 d0 d1 d2 d3 d4 d5 d6 d7 d8 d9
      have XX := hide ((unhide HV) w5 (unhide X5)).2.2.2.2.2.1
      go_wp2_with fail
      go_ret
      exact ⟨by rw [unhide HG] <;> rfl, by first | exact unhide XX | (rw [← hg]; exact unhide XX)⟩

def AlkAt (N : Nat) : Prop := ∀ (y z : Tn) (x x' : List Value) (B : Nat) (w : World) (hx : IsN w (fun b => b < B) y x) (hx' : IsN w (fun b => b < B) z x') (hB : B ≤ w.heap.size), cns [y] ≤ N → Calls Tryz.prog 32 #[.agg x.toArray, .agg x'.toArray] w fun e w' => e = .returned (.bool (smN y z)) ∧ Below w.heap.size w w'

set_option maxRecDepth 100000 in
set_option maxHeartbeats 4000000 in
theorem alk_step (N : Nat) (ih : AlkAt N) : AlkAt (N + 1) := by
  intro y z x x' B w hx hx' hB hN
  obtain ⟨vk, vn, vs, al, ak, a, ll, cl, lk, ck, cc, rfl, hv, hr, -, -⟩ := hx.opn
  obtain ⟨vk', vn', vs', al', ak', a', ll', cl', lk', ck', cc', rfl, hv', hr', -, -⟩ := hx'.opn
  obtain ⟨k, t, v, f, ks, p⟩ := y
  obtain ⟨k', t', v', f', ks', p'⟩ := z
  simp only at hv hr hv' hr' hx hx' ⊢
  obtain ⟨n, hn⟩ : ∃ n, ks.length = n := ⟨_, rfl⟩
  obtain ⟨n', hn'⟩ : ∃ n, ks'.length = n := ⟨_, rfl⟩
  simp only [hn, hn'] at hx hx' ⊢
  have TW := TwoL.mk' w 28 #[.int .i64 k, .string t, .int .i64 vk, .int .i64 vn, .string vs, .slice al ll cl, .slice ak lk ck, .bool f, .slice a n cc, .int .i64 p] #[.int .i64 k', .string t', .int .i64 vk', .int .i64 vn', .string vs', .slice al' ll' cl', .slice ak' lk' ck', .bool f', .slice a' n' cc', .int .i64 p']
  obtain ⟨w2, hw2⟩ : ∃ w2, (w.alloc (.cells #[.int .i64 k, .string t, .int .i64 vk, .int .i64 vn, .string vs, .slice al ll cl, .slice ak lk ck, .bool f, .slice a n cc, .int .i64 p] 28)).alloc (.cells #[.int .i64 k', .string t', .int .i64 vk', .int .i64 vn', .string vs', .slice al' ll' cl', .slice ak' lk' ck', .bool f', .slice a' n' cc', .int .i64 p'] 28) = w2 := ⟨_, rfl⟩
  rw [hw2] at TW
  obtain ⟨g, hg⟩ : ∃ g, w.heap.size = g := ⟨_, rfl⟩
  rw [hg] at TW
  have HT := hide TW
  have HV : Hid (∀ u, Below w2.heap.size w2 u → IsN u (fun b => b < B) ⟨k, t, v, f, ks, p⟩ [.int .i64 k, .string t, .int .i64 vk, .int .i64 vn, .string vs, .slice al ll cl, .slice ak lk ck, .bool f, .slice a n cc, .int .i64 p] ∧ IsN u (fun b => b < B) ⟨k', t', v', f', ks', p'⟩ [.int .i64 k', .string t', .int .i64 vk', .int .i64 vn', .string vs', .slice al' ll' cl', .slice ak' lk' ck', .bool f', .slice a' n' cc', .int .i64 p'] ∧ RowN u B ks a cc ∧ RowN u B ks' a' cc' ∧ B ≤ u.heap.size ∧ Below w.heap.size w u ∧ IsV u B v (.agg #[.int .i64 vk, .int .i64 vn, .string vs, .slice al ll cl, .slice ak lk ck]) ∧ IsV u B v' (.agg #[.int .i64 vk', .int .i64 vn', .string vs', .slice al' ll' cl', .slice ak' lk' ck'])) :=
    hide (fun u hu => by
      have h0 : Below w.heap.size w u := TW.below.trans (hu.mono (by have := TW.size; omega))
      have h1 : Below B w u := h0.mono hB
      exact ⟨hx.laterB h1, hx'.laterB h1, hr.later h1, hr'.later h1, by have := TW.size; have := hu.size; omega, h0, hv.mono h1, hv'.mono h1⟩)
  have HB : Hid (Below w.heap.size w w2) := hide TW.below
  have HGs : Hid (g ≤ w2.heap.size) := hide (by have := TW.size; omega)
  have hsub : ∀ z ∈ ks, cns [z] ≤ N := fun z hz => by
    have h1 := cns_mem ks z hz
    have h2 : cns [⟨k, t, v, f, ks, p⟩] = 1 + cvs v.l + cns ks := cns_one _
    omega
  have hnb : n ≤ 140737488351232 := by rw [← hn]; exact hr.len
  have hnb' : n' ≤ 140737488351232 := by rw [← hn']; exact hr'.len
  have CV0 := hide (sval_any (dep v) v v' _ _ B w2 (Nat.le_refl _) ((unhide HV) w2 (Below.refl _ _)).2.2.2.2.2.2.1 ((unhide HV) w2 (Below.refl _ _)).2.2.2.2.2.2.2 ((unhide HV) w2 (Below.refl _ _)).2.2.2.2.1)
  obtain ⟨Q, hQ⟩ : ∃ Q, sameB v v' = Q := ⟨_, rfl⟩
  rw [hQ] at CV0
  obtain ⟨R, hR⟩ : ∃ R, smN ⟨k, t, v, f, ks, p⟩ ⟨k', t', v', f', ks', p'⟩ = R := ⟨_, rfl⟩
  have HS : Hid (R = (decide (k = k') && (t.toList == t'.toList) && decide (f = f') && Q && smL ks ks')) := hide (by rw [← hR, ← hQ]; rfl)
  have HL := hide (And.intro hn (And.intro hn' hsub))
  rw [hR]
  clear TW hx hx' hr hr' hn hn' hR hB hQ hsub hN hv hv'
  obtain ⟨c0, c1, c2, c3, c4, c5, c6, c7, c8, c9⟩ := row_ten (unhide HT).at0
  obtain ⟨d0, d1, d2, d3, d4, d5, d6, d7, d8, d9⟩ := row_ten (unhide HT).at1
  go_enter Tryz.func32, Tryz.ntmps32
  go_wp2_with fail
  refine (unhide CV0).mono ?_
  rintro e w3 ⟨rfl, b3⟩
  have X3 := hide b3
  clear b3 CV0 c0 c1 c2 c3 c4 c5 c6 c7 c8 c9 d0 d1 d2 d3 d4 d5 d6 d7 d8 d9
  obtain ⟨c0, c1, c2, c3, c4, c5, c6, c7, c8, c9⟩ := row_ten ((unhide HT).later (unhide X3)).1
  obtain ⟨d0, d1, d2, d3, d4, d5, d6, d7, d8, d9⟩ := row_ten ((unhide HT).later (unhide X3)).2
  have XX := hide ((unhide HV) w3 (unhide X3)).2.2.2.2.2.1
  cases Q with
  | false =>
    have HG : Hid (R = false) := hide (by rw [unhide HS]; simp)
    go_wp2_with fail
    go_ret
    exact ⟨by rw [unhide HG] <;> rfl, by first | exact unhide XX | (rw [← hg]; exact unhide XX)⟩
  | true =>
    by_cases h1 : k = k'
    · subst h1
      cases h3 : (t.toList == t'.toList) with
      | true =>
        have hx3 : (!(t.toList == t'.toList)) = false := by rw [h3]; rfl
        have HTE := hide h3
        by_cases h2 : f = f'
        · subst h2
          by_cases h4 : n = n'
          · subst h4
            have hff : (f != f) = false := by simp
            go_wp2_with fail
            clear c0 c1 c2 c3 c4 c5 c6 c7 c8 c9 d0 d1 d2 d3 d4 d5 d6 d7 d8 d9
            go_loopw [6] (fun x wr => ∃ (i : Nat), i ≤ n ∧ x = .int .i64 i ∧ Hid (Below w2.heap.size w2 wr) ∧ Hid (smL (ks.take i) (ks'.take i) = true)) (fun x _ => n - (intOf x).toNat)
            case atStart => exact ⟨0, Nat.zero_le _, rfl, X3, hide (by simp [smL])⟩
            case round =>
              obtain ⟨i, hi, rfl, HX, HTT⟩ := hrel
              obtain ⟨wq, hwq⟩ : ∃ wq, wq = wr := ⟨_, rfl⟩
              subst hwq
              clear XX
              have XX := hide ((unhide HV) wq (unhide HX)).2.2.2.2.2.1
              obtain ⟨c0, c1, c2, c3, c4, c5, c6, c7, c8, c9⟩ := row_ten ((unhide HT).later (unhide HX)).1
              obtain ⟨d0, d1, d2, d3, d4, d5, d6, d7, d8, d9⟩ := row_ten ((unhide HT).later (unhide HX)).2
              by_cases hlt : i < n
              · have i3 : (i : Int) < (n : Int) := by omega
                obtain ⟨_, _, v1, v2, hBq, _⟩ := (unhide HV) wq (unhide HX)
                obtain ⟨y1, hy⟩ : ∃ y, ks[i]? = some y := ⟨_, List.getElem?_eq_getElem (by have := (unhide HL).1; omega)⟩
                obtain ⟨y2, hy'⟩ : ∃ y, ks'[i]? = some y := ⟨_, List.getElem?_eq_getElem (by have := (unhide HL).2.1; omega)⟩
                obtain ⟨b, vk1, vn1, vs1, al1, ak1, a1, ll1, cl1, lk1, ck1, n1, cc1, rfl, hc1, hb1, hn1, hz1, hcell1⟩ := v1.ten hy
                obtain ⟨b', vk2, vn2, vs2, al2, ak2, a2, ll2, cl2, lk2, ck2, n2, cc2, rfl, hc2, hb2, hn2, hz2, hcell2⟩ := v2.ten hy'
                have hblt : b.block < wq.heap.size := by omega
                have hblt' : b'.block < wq.heap.size := by omega
                have HF : Hid (∀ u, Below wq.heap.size wq u → u.cell? ⟨g, 8, none⟩ = some (.slice (some b) n cc) ∧ u.cell? ⟨g + 1, 8, none⟩ = some (.slice (some b') n cc') ∧ u.cell? (b.add (i * 10)) = some (.int .i64 y1.k) ∧ u.cell? ⟨(b.add (i * 10)).block, (b.add (i * 10)).off + 1, none⟩ = some (.string y1.t) ∧ u.cell? ⟨(b.add (i * 10)).block, (b.add (i * 10)).off + 2, none⟩ = some (.int .i64 vk1) ∧ u.cell? ⟨(b.add (i * 10)).block, (b.add (i * 10)).off + 3, none⟩ = some (.int .i64 vn1) ∧ u.cell? ⟨(b.add (i * 10)).block, (b.add (i * 10)).off + 4, none⟩ = some (.string vs1) ∧ u.cell? ⟨(b.add (i * 10)).block, (b.add (i * 10)).off + 5, none⟩ = some (.slice al1 ll1 cl1) ∧ u.cell? ⟨(b.add (i * 10)).block, (b.add (i * 10)).off + 6, none⟩ = some (.slice ak1 lk1 ck1) ∧ u.cell? ⟨(b.add (i * 10)).block, (b.add (i * 10)).off + 7, none⟩ = some (.bool y1.f) ∧ u.cell? ⟨(b.add (i * 10)).block, (b.add (i * 10)).off + 8, none⟩ = some (.slice a1 n1 cc1) ∧ u.cell? ⟨(b.add (i * 10)).block, (b.add (i * 10)).off + 9, none⟩ = some (.int .i64 y1.p) ∧ u.cell? (b'.add (i * 10)) = some (.int .i64 y2.k) ∧ u.cell? ⟨(b'.add (i * 10)).block, (b'.add (i * 10)).off + 1, none⟩ = some (.string y2.t) ∧ u.cell? ⟨(b'.add (i * 10)).block, (b'.add (i * 10)).off + 2, none⟩ = some (.int .i64 vk2) ∧ u.cell? ⟨(b'.add (i * 10)).block, (b'.add (i * 10)).off + 3, none⟩ = some (.int .i64 vn2) ∧ u.cell? ⟨(b'.add (i * 10)).block, (b'.add (i * 10)).off + 4, none⟩ = some (.string vs2) ∧ u.cell? ⟨(b'.add (i * 10)).block, (b'.add (i * 10)).off + 5, none⟩ = some (.slice al2 ll2 cl2) ∧ u.cell? ⟨(b'.add (i * 10)).block, (b'.add (i * 10)).off + 6, none⟩ = some (.slice ak2 lk2 ck2) ∧ u.cell? ⟨(b'.add (i * 10)).block, (b'.add (i * 10)).off + 7, none⟩ = some (.bool y2.f) ∧ u.cell? ⟨(b'.add (i * 10)).block, (b'.add (i * 10)).off + 8, none⟩ = some (.slice a2 n2 cc2) ∧ u.cell? ⟨(b'.add (i * 10)).block, (b'.add (i * 10)).off + 9, none⟩ = some (.int .i64 y2.p)) := hide (fun u hu => by
                  have c := row_ten (Below.cellsAt hu ((unhide HT).later (unhide HX)).1)
                  have d := row_ten (Below.cellsAt hu ((unhide HT).later (unhide HX)).2)
                  have h1 : ∀ j v, ([.int .i64 y1.k, .string y1.t, .int .i64 vk1, .int .i64 vn1, .string vs1, .slice al1 ll1 cl1, .slice ak1 lk1 ck1, .bool y1.f, .slice a1 n1 cc1, .int .i64 y1.p] : List Value)[j]? = some v → u.cell? ((b.add (i * 10)).add j) = some v := fun j v hj => (World.cell?_of_block (hu.block _ (by rw [block_add, block_add]; exact hblt))).trans (hcell1 j v hj)
                  have h2 : ∀ j v, ([.int .i64 y2.k, .string y2.t, .int .i64 vk2, .int .i64 vn2, .string vs2, .slice al2 ll2 cl2, .slice ak2 lk2 ck2, .bool y2.f, .slice a2 n2 cc2, .int .i64 y2.p] : List Value)[j]? = some v → u.cell? ((b'.add (i * 10)).add j) = some v := fun j v hj => (World.cell?_of_block (hu.block _ (by rw [block_add, block_add]; exact hblt'))).trans (hcell2 j v hj)
                  exact ⟨c.2.2.2.2.2.2.2.2.1, d.2.2.2.2.2.2.2.2.1, h1 0 _ rfl, h1 1 _ rfl, h1 2 _ rfl, h1 3 _ rfl, h1 4 _ rfl, h1 5 _ rfl, h1 6 _ rfl, h1 7 _ rfl, h1 8 _ rfl, h1 9 _ rfl, h2 0 _ rfl, h2 1 _ rfl, h2 2 _ rfl, h2 3 _ rfl, h2 4 _ rfl, h2 5 _ rfl, h2 6 _ rfl, h2 7 _ rfl, h2 8 _ rfl, h2 9 _ rfl⟩)
                have CR : Hid (∀ u, Below wq.heap.size wq u → Calls Tryz.prog 32 #[.agg #[.int .i64 y1.k, .string y1.t, .int .i64 vk1, .int .i64 vn1, .string vs1, .slice al1 ll1 cl1, .slice ak1 lk1 ck1, .bool y1.f, .slice a1 n1 cc1, .int .i64 y1.p], .agg #[.int .i64 y2.k, .string y2.t, .int .i64 vk2, .int .i64 vn2, .string vs2, .slice al2 ll2 cl2, .slice ak2 lk2 ck2, .bool y2.f, .slice a2 n2 cc2, .int .i64 y2.p]] u fun e u' => e = .returned (.bool (smN y1 y2)) ∧ Below u.heap.size u u') := hide (fun u hu => ih y1 y2 _ _ B u (hz1.laterB (hu.mono hBq)) (hz2.laterB (hu.mono hBq)) (Nat.le_trans hBq hu.size) ((unhide HL).2.2 y1 (List.mem_of_getElem? hy)))
                have HY := hide (And.intro hy hy')
                obtain ⟨Q1, hQ1⟩ : ∃ Q, smN y1 y2 = Q := ⟨_, rfl⟩
                rw [hQ1] at CR
                have HQ1 := hide hQ1
                clear v1 v2 hBq hy hy' hc1 hb1 hn1 hz1 hcell1 hc2 hb2 hn2 hz2 hcell2 hblt hblt' hQ1
                go_upto_region 7 with fail
                clear c0 c1 c2 c3 c4 c5 c6 c7 c8 c9 d0 d1 d2 d3 d4 d5 d6 d7 d8 d9
                have HS0 : Hid (Below wq.heap.size wq wq.drew) := hide ((Below.refl _ _).drew)
                refine till_begin (S := fun w' => Below wq.heap.size wq w') 11 (by kernel_rfl) ?_
                obtain ⟨W0, hW0⟩ : ∃ W0, wq.drew = W0 := ⟨_, rfl⟩
                try rw [hW0]
                rw [hW0] at HS0
                clear hW0
                refine till_take 0 (v := .pointer (some ⟨g, 8, none⟩)) (some 51) rfl rfl rfl (by kernel_rfl) (by kernel_rfl) (by kernel_rfl) (by kernel_rfl) (fun _ _ _ h => h) (Or.inl ⟨by rfl, fun u hu => by obtain ⟨h8, i8, e0, e1, e2, e3, e4, e5, e6, e7, e8, e9, f0, f1, f2, f3, f4, f5, f6, f7, f8, f9⟩ := unhide HF u hu; go_simp⟩) (unhide HS0) ?_
                try simp only [Act.put, List.setIfInBounds_toArray, List.set_cons_zero, List.set_cons_succ]
                refine till_take 1 (v := .slice (some b) n cc) (some 52) rfl rfl rfl (by kernel_rfl) (by kernel_rfl) (by kernel_rfl) (by kernel_rfl) (fun _ _ _ h => h) (Or.inl ⟨by rfl, fun u hu => by obtain ⟨h8, i8, e0, e1, e2, e3, e4, e5, e6, e7, e8, e9, f0, f1, f2, f3, f4, f5, f6, f7, f8, f9⟩ := unhide HF u hu; go_simp⟩) (unhide HS0) ?_
                try simp only [Act.put, List.setIfInBounds_toArray, List.set_cons_zero, List.set_cons_succ]
                refine till_take 2 (v := .int .i64 (i : Int)) (some 53) rfl rfl rfl (by kernel_rfl) (by kernel_rfl) (by kernel_rfl) (by kernel_rfl) (fun _ _ _ h => h) (Or.inl ⟨by rfl, fun u hu => by obtain ⟨h8, i8, e0, e1, e2, e3, e4, e5, e6, e7, e8, e9, f0, f1, f2, f3, f4, f5, f6, f7, f8, f9⟩ := unhide HF u hu; go_simp⟩) (unhide HS0) ?_
                try simp only [Act.put, List.setIfInBounds_toArray, List.set_cons_zero, List.set_cons_succ]
                refine till_take 3 (v := .pointer (some (b.add (i * 10)))) (some 54) rfl rfl rfl (by kernel_rfl) (by kernel_rfl) (by kernel_rfl) (by kernel_rfl) (fun _ _ _ h => h) (Or.inl ⟨by rfl, fun u hu => by obtain ⟨h8, i8, e0, e1, e2, e3, e4, e5, e6, e7, e8, e9, f0, f1, f2, f3, f4, f5, f6, f7, f8, f9⟩ := unhide HF u hu; go_simp⟩) (unhide HS0) ?_
                try simp only [Act.put, List.setIfInBounds_toArray, List.set_cons_zero, List.set_cons_succ]
                refine till_take 4 (v := .agg #[.int .i64 y1.k, .string y1.t, .int .i64 vk1, .int .i64 vn1, .string vs1, .slice al1 ll1 cl1, .slice ak1 lk1 ck1, .bool y1.f, .slice a1 n1 cc1, .int .i64 y1.p]) (some 55) rfl rfl rfl (by kernel_rfl) (by kernel_rfl) (by kernel_rfl) (by kernel_rfl) (fun _ _ _ h => h) (Or.inl ⟨by rfl, fun u hu => by obtain ⟨h8, i8, e0, e1, e2, e3, e4, e5, e6, e7, e8, e9, f0, f1, f2, f3, f4, f5, f6, f7, f8, f9⟩ := unhide HF u hu; go_simp⟩) (unhide HS0) ?_
                try simp only [Act.put, List.setIfInBounds_toArray, List.set_cons_zero, List.set_cons_succ]
                refine till_take 5 (v := .pointer (some ⟨g + 1, 8, none⟩)) (some 56) rfl rfl rfl (by kernel_rfl) (by kernel_rfl) (by kernel_rfl) (by kernel_rfl) (fun _ _ _ h => h) (Or.inl ⟨by rfl, fun u hu => by obtain ⟨h8, i8, e0, e1, e2, e3, e4, e5, e6, e7, e8, e9, f0, f1, f2, f3, f4, f5, f6, f7, f8, f9⟩ := unhide HF u hu; go_simp⟩) (unhide HS0) ?_
                try simp only [Act.put, List.setIfInBounds_toArray, List.set_cons_zero, List.set_cons_succ]
                refine till_take 6 (v := .slice (some b') n cc') (some 57) rfl rfl rfl (by kernel_rfl) (by kernel_rfl) (by kernel_rfl) (by kernel_rfl) (fun _ _ _ h => h) (Or.inl ⟨by rfl, fun u hu => by obtain ⟨h8, i8, e0, e1, e2, e3, e4, e5, e6, e7, e8, e9, f0, f1, f2, f3, f4, f5, f6, f7, f8, f9⟩ := unhide HF u hu; go_simp⟩) (unhide HS0) ?_
                try simp only [Act.put, List.setIfInBounds_toArray, List.set_cons_zero, List.set_cons_succ]
                refine till_take 7 (v := .int .i64 (i : Int)) (some 58) rfl rfl rfl (by kernel_rfl) (by kernel_rfl) (by kernel_rfl) (by kernel_rfl) (fun _ _ _ h => h) (Or.inl ⟨by rfl, fun u hu => by obtain ⟨h8, i8, e0, e1, e2, e3, e4, e5, e6, e7, e8, e9, f0, f1, f2, f3, f4, f5, f6, f7, f8, f9⟩ := unhide HF u hu; go_simp⟩) (unhide HS0) ?_
                try simp only [Act.put, List.setIfInBounds_toArray, List.set_cons_zero, List.set_cons_succ]
                refine till_take 8 (v := .pointer (some (b'.add (i * 10)))) (some 59) rfl rfl rfl (by kernel_rfl) (by kernel_rfl) (by kernel_rfl) (by kernel_rfl) (fun _ _ _ h => h) (Or.inl ⟨by rfl, fun u hu => by obtain ⟨h8, i8, e0, e1, e2, e3, e4, e5, e6, e7, e8, e9, f0, f1, f2, f3, f4, f5, f6, f7, f8, f9⟩ := unhide HF u hu; go_simp⟩) (unhide HS0) ?_
                try simp only [Act.put, List.setIfInBounds_toArray, List.set_cons_zero, List.set_cons_succ]
                refine till_take 9 (v := .agg #[.int .i64 y2.k, .string y2.t, .int .i64 vk2, .int .i64 vn2, .string vs2, .slice al2 ll2 cl2, .slice ak2 lk2 ck2, .bool y2.f, .slice a2 n2 cc2, .int .i64 y2.p]) (some 60) rfl rfl rfl (by kernel_rfl) (by kernel_rfl) (by kernel_rfl) (by kernel_rfl) (fun _ _ _ h => h) (Or.inl ⟨by rfl, fun u hu => by obtain ⟨h8, i8, e0, e1, e2, e3, e4, e5, e6, e7, e8, e9, f0, f1, f2, f3, f4, f5, f6, f7, f8, f9⟩ := unhide HF u hu; go_simp⟩) (unhide HS0) ?_
                try simp only [Act.put, List.setIfInBounds_toArray, List.set_cons_zero, List.set_cons_succ]
                refine till_one 10 (by kernel_rfl) rfl (fun K hK => ?_)
                go_simp
                refine ((unhide CR) W0 (unhide HS0)).mono ?_
                rintro e w5 ⟨rfl, b5⟩
                have HS1 := hide ((unhide HS0).trans (b5.mono (unhide HS0).size))
                clear b5 CR
                go_wp2_with fail
                refine hK.out _ _ (Or.inr (unhide HS1)) ?_
                clear hK K HS0
                try simp only [Act.put, List.setIfInBounds_toArray, List.set_cons_zero, List.set_cons_succ]
                refine till_one 11 (by kernel_rfl) rfl (fun K hK => ?_)
                go_simp
                refine hK.out _ _ (Or.inl (by first | rfl | trivial)) ?_
                clear hK K
                try simp only [Act.put, List.setIfInBounds_toArray, List.set_cons_zero, List.set_cons_succ]
                refine till_done (by kernel_rfl) ?_ _
                have HX5 : Hid (Below w2.heap.size w2 w5) := hide ((unhide HX).trans ((unhide HS1).mono (unhide HX).size))
                have HI1 : Hid (i + 1 ≤ n) := hide (by omega)
                clear HS1
                cases Q1 with
                | true =>
                  have HT' : Hid (smL (ks.take (i + 1)) (ks'.take (i + 1)) = true) := hide (by
                    rw [smL_next ks ks' i y1 y2 (unhide HY).1 (unhide HY).2, unhide HTT, unhide HQ1]; rfl)
                  go_wp2_with fail
                  go_roundw
                  case rel => exact ⟨i + 1, unhide HI1, by go_num, HX5, HT'⟩
                  case measure => have := unhide HI1; simp [intOf]; omega
                | false =>
                  have HG2 : Hid (R = false) := hide (by
                    rw [unhide HS, smL_no ks ks' i y1 y2 (unhide HY).1 (unhide HY).2 (unhide HQ1), Bool.and_false])
                  clear XX
                  have XX := hide ((unhide HV) w5 (unhide HX5)).2.2.2.2.2.1
                  go_wp2_with fail
                  go_ret
                  exact ⟨by rw [unhide HG2] <;> rfl, by first | exact unhide XX | (rw [← hg]; exact unhide XX)⟩
              · have i3 : ¬ (i : Int) < (n : Int) := by omega
                have HG2 : Hid (R = true) := hide (by
                  obtain ⟨e1, e2, _⟩ := unhide HL
                  have h := unhide HTT
                  rw [List.take_of_length_le (by omega), List.take_of_length_le (by omega)] at h
                  rw [unhide HS, h, unhide HTE]
                  simp)
                go_wp2_with fail
                go_ret
                exact ⟨by rw [unhide HG2] <;> rfl, by first | exact unhide XX | (rw [← hg]; exact unhide XX)⟩
          · have h4' : (n : Int) ≠ (n' : Int) := by omega
            have hb : ((n : Int) != (n' : Int)) = true := by simpa using h4'
            have hff : (f != f) = false := by simp
            have HG : Hid (R = false) := hide (by rw [unhide HS]; rw [smL_ne (by have := (unhide HL).1; have := (unhide HL).2.1; omega), Bool.and_false])
            go_wp2_with fail
            go_ret
            exact ⟨by rw [unhide HG] <;> rfl, by first | exact unhide XX | (rw [← hg]; exact unhide XX)⟩
        · have hb : (f != f') = true := by simpa using h2
          have HG : Hid (R = false) := hide (by rw [unhide HS]; simp [h2])
          go_wp2_with fail
          go_ret
          exact ⟨by rw [unhide HG] <;> rfl, by first | exact unhide XX | (rw [← hg]; exact unhide XX)⟩
      | false =>
        have hx3 : (!(t.toList == t'.toList)) = true := by rw [h3]; rfl
        have HG : Hid (R = false) := hide (by rw [unhide HS]; rw [h3]; simp)
        go_wp2_with fail
        go_ret
        exact ⟨by rw [unhide HG] <;> rfl, by first | exact unhide XX | (rw [← hg]; exact unhide XX)⟩
    · have hb : (k != k') = true := by simpa using h1
      have HG : Hid (R = false) := hide (by rw [unhide HS]; simp [h1])
      go_wp2_with fail
      go_ret
      exact ⟨by rw [unhide HG] <;> rfl, by first | exact unhide XX | (rw [← hg]; exact unhide XX)⟩
theorem alk_all : ∀ N, AlkAt N
  | 0 => fun y z x x' B w _ _ _ hN => by rw [cns_one] at hN; omega
  | N + 1 => alk_step N (alk_all N)

set_option maxRecDepth 100000 in
set_option maxHeartbeats 2000000 in
theorem rsame_any (y z : Tn) (x x' : List Value) (B : Nat) (w : World) (hx : IsN w (fun b => b < B) y x) (hx' : IsN w (fun b => b < B) z x') (hB : B ≤ w.heap.size) : Calls Tryz.prog 16 #[.agg x.toArray, .agg x'.toArray] w fun e w' => e = .returned (.bool (saB y z)) ∧ Below w.heap.size w w' := by
  obtain ⟨vk, vn, vs, al, ak, a, ll, cl, lk, ck, cc, rfl, hv, hr, -, -⟩ := hx.opn
  obtain ⟨vk', vn', vs', al', ak', a', ll', cl', lk', ck', cc', rfl, hv', hr', -, -⟩ := hx'.opn
  obtain ⟨k, t, v, f, ks, p⟩ := y
  obtain ⟨k', t', v', f', ks', p'⟩ := z
  simp only at hv hr hv' hr' hx hx' ⊢
  obtain ⟨n, hn⟩ : ∃ n, ks.length = n := ⟨_, rfl⟩
  obtain ⟨n', hn'⟩ : ∃ n, ks'.length = n := ⟨_, rfl⟩
  simp only [hn, hn'] at hx hx' ⊢
  have TW := TwoL.mk' w 28 #[.int .i64 k, .string t, .int .i64 vk, .int .i64 vn, .string vs, .slice al ll cl, .slice ak lk ck, .bool f, .slice a n cc, .int .i64 p] #[.int .i64 k', .string t', .int .i64 vk', .int .i64 vn', .string vs', .slice al' ll' cl', .slice ak' lk' ck', .bool f', .slice a' n' cc', .int .i64 p']
  obtain ⟨w2, hw2⟩ : ∃ w2, (w.alloc (.cells #[.int .i64 k, .string t, .int .i64 vk, .int .i64 vn, .string vs, .slice al ll cl, .slice ak lk ck, .bool f, .slice a n cc, .int .i64 p] 28)).alloc (.cells #[.int .i64 k', .string t', .int .i64 vk', .int .i64 vn', .string vs', .slice al' ll' cl', .slice ak' lk' ck', .bool f', .slice a' n' cc', .int .i64 p'] 28) = w2 := ⟨_, rfl⟩
  rw [hw2] at TW
  obtain ⟨g, hg⟩ : ∃ g, w.heap.size = g := ⟨_, rfl⟩
  rw [hg] at TW
  have HT := hide TW
  have HV : Hid (∀ u, Below w2.heap.size w2 u → IsN u (fun b => b < B) ⟨k, t, v, f, ks, p⟩ [.int .i64 k, .string t, .int .i64 vk, .int .i64 vn, .string vs, .slice al ll cl, .slice ak lk ck, .bool f, .slice a n cc, .int .i64 p] ∧ IsN u (fun b => b < B) ⟨k', t', v', f', ks', p'⟩ [.int .i64 k', .string t', .int .i64 vk', .int .i64 vn', .string vs', .slice al' ll' cl', .slice ak' lk' ck', .bool f', .slice a' n' cc', .int .i64 p'] ∧ RowN u B ks a cc ∧ RowN u B ks' a' cc' ∧ B ≤ u.heap.size ∧ Below w.heap.size w u ∧ IsV u B v (.agg #[.int .i64 vk, .int .i64 vn, .string vs, .slice al ll cl, .slice ak lk ck]) ∧ IsV u B v' (.agg #[.int .i64 vk', .int .i64 vn', .string vs', .slice al' ll' cl', .slice ak' lk' ck'])) :=
    hide (fun u hu => by
      have h0 : Below w.heap.size w u := TW.below.trans (hu.mono (by have := TW.size; omega))
      have h1 : Below B w u := h0.mono hB
      exact ⟨hx.laterB h1, hx'.laterB h1, hr.later h1, hr'.later h1, by have := TW.size; have := hu.size; omega, h0, hv.mono h1, hv'.mono h1⟩)
  have HB : Hid (Below w.heap.size w w2) := hide TW.below
  have HGs : Hid (g ≤ w2.heap.size) := hide (by have := TW.size; omega)
  obtain ⟨R, hR⟩ : ∃ R, saB ⟨k, t, v, f, ks, p⟩ ⟨k', t', v', f', ks', p'⟩ = R := ⟨_, rfl⟩
  rw [hR]
  have HR := hide hR
  clear TW hx hx' hr hr' hn hn' hR hB hv hv'
  obtain ⟨c0, c1, c2, c3, c4, c5, c6, c7, c8, c9⟩ := row_ten (unhide HT).at0
  obtain ⟨d0, d1, d2, d3, d4, d5, d6, d7, d8, d9⟩ := row_ten (unhide HT).at1
  have C1 := hide (fits_any B ⟨k, t, v, f, ks, p⟩ _ w2 ((unhide HV) w2 (Below.refl _ _)).2.2.2.2.1 ((unhide HV) w2 (Below.refl _ _)).1)
  obtain ⟨q1, hq1⟩ : ∃ q, decide (cns [⟨k, t, v, f, ks, p⟩] ≤ 20000) = q := ⟨_, rfl⟩
  rw [hq1] at C1
  have HQ1 := hide hq1
  clear hq1
  go_enter Tryz.func16, Tryz.ntmps16
  go_wp2_with fail
  refine (unhide C1).mono ?_
  rintro e w3 ⟨rfl, b3⟩
  have X3 := hide b3
  clear b3 C1 c0 c1 c2 c3 c4 c5 c6 c7 c8 c9 d0 d1 d2 d3 d4 d5 d6 d7 d8 d9
  have V4 := (unhide HV) w3 (unhide X3)
  have C2 := hide (fits_any B ⟨k', t', v', f', ks', p'⟩ _ w3 V4.2.2.2.2.1 V4.2.1)
  obtain ⟨q2, hq2⟩ : ∃ q, decide (cns [⟨k', t', v', f', ks', p'⟩] ≤ 20000) = q := ⟨_, rfl⟩
  rw [hq2] at C2
  have HQ2 := hide hq2
  obtain ⟨c0, c1, c2, c3, c4, c5, c6, c7, c8, c9⟩ := row_ten ((unhide HT).later (unhide X3)).1
  obtain ⟨d0, d1, d2, d3, d4, d5, d6, d7, d8, d9⟩ := row_ten ((unhide HT).later (unhide X3)).2
  clear V4 hq2
  go_wp2_with fail
  refine (unhide C2).mono ?_
  rintro e w4 ⟨rfl, b4⟩
  have X4 := hide ((unhide X3).trans (b4.mono (unhide X3).size))
  clear b4 C2 c0 c1 c2 c3 c4 c5 c6 c7 c8 c9 d0 d1 d2 d3 d4 d5 d6 d7 d8 d9
  cases q1 with
  | false =>
    have HG : Hid (R = false) := hide (by rw [← unhide HR]; unfold saB; rw [unhide HQ1]; simp)
    have XX := hide ((unhide HV) w4 (unhide X4)).2.2.2.2.2.1
    go_wp2_with fail
    go_ret
    exact ⟨by rw [unhide HG] <;> rfl, by first | exact unhide XX | (rw [← hg]; exact unhide XX)⟩
  | true =>
    cases q2 with
    | false =>
      have HG : Hid (R = false) := hide (by rw [← unhide HR]; unfold saB; rw [unhide HQ2]; simp)
      have XX := hide ((unhide HV) w4 (unhide X4)).2.2.2.2.2.1
      go_wp2_with fail
      go_ret
      exact ⟨by rw [unhide HG] <;> rfl, by first | exact unhide XX | (rw [← hg]; exact unhide XX)⟩
    | true =>
      have V5 := (unhide HV) w4 (unhide X4)
      have C3 := hide (alk_all _ ⟨k, t, v, f, ks, p⟩ ⟨k', t', v', f', ks', p'⟩ _ _ B w4 V5.1 V5.2.1 V5.2.2.2.2.1 (Nat.le_refl _))
      obtain ⟨q3, hq3⟩ : ∃ q, smN ⟨k, t, v, f, ks, p⟩ ⟨k', t', v', f', ks', p'⟩ = q := ⟨_, rfl⟩
      rw [hq3] at C3
      have HG : Hid (R = q3) := hide (by rw [← unhide HR, ← hq3]; unfold saB; rw [unhide HQ1, unhide HQ2]; rfl)
      obtain ⟨c0, c1, c2, c3, c4, c5, c6, c7, c8, c9⟩ := row_ten ((unhide HT).later (unhide X4)).1
      obtain ⟨d0, d1, d2, d3, d4, d5, d6, d7, d8, d9⟩ := row_ten ((unhide HT).later (unhide X4)).2
      clear V5 hq3
      go_wp2_with fail
      refine (unhide C3).mono ?_
      rintro e w5 ⟨rfl, b5⟩
      have X5 := hide ((unhide X4).trans (b5.mono (unhide X4).size))
      clear b5 C3 c0 c1 c2 c3 c4 c5 c6 c7 c8 c9 d0 d1 d2 d3 d4 d5 d6 d7 d8 d9
      have XX := hide ((unhide HV) w5 (unhide X5)).2.2.2.2.2.1
      go_wp2_with fail
      go_ret
      exact ⟨by rw [unhide HG] <;> rfl, by first | exact unhide XX | (rw [← hg]; exact unhide XX)⟩
end Go.Proofs.YtjkfkneibcjgaaaGreatDoor
