/-
  The walk of ParseStops; conditions: what the variables of strconv hold.
-/
import Derived.Test.YtgalfhlclmkbfaaDoorA48
set_option linter.unusedVariables false
set_option linter.unusedSimpArgs false
namespace Go.Proofs.YtgalfhlclmkbfaaDoor
open Go.RowKit
set_option linter.unusedVariables false
set_option linter.unusedSimpArgs false

set_option maxRecDepth 100000 in
set_option maxHeartbeats 4000000 in
theorem stops_a (s rest : ByteArray) (w : World) (he : Ev w) (hw6 : 5 < w.heap.size) {q er : Nat} (hE : allT s.data.toList = .error (q, er)) :
    Calls Tryd.prog 3 #[.string s, .string rest] w fun e w' => e = .returned (.bool true) ∧ Below w.heap.size w w' := by
  have hz := all_er hE
  have CS := hide (shown_any w he hw6)
  have CA := hide (fun u (hu : Below w.heap.size w u) => all_bad s q er u (he.below hu hw6) (Nat.lt_of_lt_of_le hw6 hu.size) hE)
  have CP := hide (fun u (hu : Below w.heap.size w u) => program_er s u (he.below hu hw6) (Nat.lt_of_lt_of_le hw6 hu.size) (r := .error (er, q)) (.inl ⟨q, er, hE, rfl⟩) (E := er) (P := q) rfl)
  have k3 : ((er : Int) == 0) = false := beq_eq_false_iff_ne.2 (by omega)
  have k4 : ((er : Int) != 0) = true := by simp; omega
  have k5 : ¬ (er : Int) = 0 := by omega
  clear he hw6 hE hz
  go_enter Tryd.func3, Tryd.ntmps3
  go_wp2_with fail
  refine (unhide CS).mono ?_
  rintro e u1 ⟨rfl, b1⟩
  have B1 := hide b1
  clear b1 CS
  go_wp2_with fail
  refine ((unhide CA) u1 (unhide B1)).mono ?_
  rintro e u2 ⟨rfl, b2⟩
  have B2 : Hid (Below w.heap.size w u2) := hide ((unhide B1).trans (b2.mono (unhide B1).size))
  clear b2 CA
  go_wp2_with fail
  refine ((unhide CP) u2 (unhide B2)).mono ?_
  rintro e u3 ⟨k, t, vk, vn, vs, f, n, ak, ck, p, rfl, b⟩
  have B3 : Hid (Below w.heap.size w u3) := hide ((unhide B2).trans (b.mono (unhide B2).size))

  clear b
  obtain ⟨Au4, Gu4⟩ := bx u3 #[.int .i64 (k : Int), .string (bA t), .int .i64 (vk : Int), .int .i64 (vn : Int), .string (bA vs), .slice none 0 0, .slice none 0 0, .bool f, .slice ak n ck, .int .i64 (p : Int)] 33
  obtain ⟨u4, hu4⟩ : ∃ u4, u3.alloc (.cells #[.int .i64 (k : Int), .string (bA t), .int .i64 (vk : Int), .int .i64 (vn : Int), .string (bA vs), .slice none 0 0, .slice none 0 0, .bool f, .slice ak n ck, .int .i64 (p : Int)] 33) = u4 := ⟨_, rfl⟩
  rw [hu4] at Au4 Gu4
  have B4 : Hid (Below w.heap.size w u4) := hide ((unhide B3).trans (Gu4.mono (unhide B3).size))
  have Wu4 := hide hu4

  clear Au4 Gu4 hu4
  go_upto_region 4 with fail
  rw [unhide Wu4]
  clear Wu4
  go_wp2_with fail
  go_ret
  exact ⟨rfl, unhide B4⟩

set_option maxRecDepth 100000 in
set_option maxHeartbeats 4000000 in
theorem stops_b (s rest : ByteArray) (w : World) (he : Ev w) (hw6 : 5 < w.heap.size) {ts : List Tk} (hE : allT s.data.toList = .ok ts) {r : Rs (List Nd)} (hr : PgOf 27 s.data.toList r) {E P : Nat} (hx : erOf r = (E, P)) (h17 : ¬ E = 170) :
    Calls Tryd.prog 3 #[.string s, .string rest] w fun e w' => e = .returned (.bool true) ∧ Below w.heap.size w w' := by
  obtain ⟨N, hN⟩ : ∃ N, ts.length = N + 1 := ⟨ts.length - 1, by obtain ⟨us, q, rfl⟩ := (all_fin hE).2; simp⟩
  have CS := hide (shown_any w he hw6)
  have CA := hide (fun u (hu : Below w.heap.size w u) => all_toks s ts u (he.below hu hw6) (Nat.lt_of_lt_of_le hw6 hu.size) hE N hN)
  have CP := hide (fun u (hu : Below w.heap.size w u) => program_er s u (he.below hu hw6) (Nat.lt_of_lt_of_le hw6 hu.size) hr hx)
  have k3 : ((E : Int) == 170) = false := beq_eq_false_iff_ne.2 (by omega)
  have k4 : ((E : Int) != 170) = true := by simp; omega
  have k5 : ¬ (E : Int) = 170 := by omega
  clear he hw6 hE hr hx h17 hN
  go_enter Tryd.func3, Tryd.ntmps3
  go_wp2_with fail
  refine (unhide CS).mono ?_
  rintro e u1 ⟨rfl, b1⟩
  have B1 := hide b1
  clear b1 CS
  go_wp2_with fail
  refine ((unhide CA) u1 (unhide B1)).mono ?_
  rintro e u2 ⟨tb, tc, rfl, hc, hbb, hcm, HK⟩
  have B2 : Hid (Below w.heap.size w u2) := hide ((unhide B1).trans ((unhide HK).2.2.mono (unhide B1).size))
  clear CA
  go_wp2_with fail
  refine ((unhide CP) u2 (unhide B2)).mono ?_
  rintro e u3 ⟨k, t, vk, vn, vs, f, n, ak, ck, p, rfl, b⟩
  have B3 : Hid (Below w.heap.size w u3) := hide ((unhide B2).trans (b.mono (unhide B2).size))

  clear b
  clear HK hc hbb hcm
  obtain ⟨Au4, Gu4⟩ := bx u3 #[.int .i64 (k : Int), .string (bA t), .int .i64 (vk : Int), .int .i64 (vn : Int), .string (bA vs), .slice none 0 0, .slice none 0 0, .bool f, .slice ak n ck, .int .i64 (p : Int)] 33
  obtain ⟨u4, hu4⟩ : ∃ u4, u3.alloc (.cells #[.int .i64 (k : Int), .string (bA t), .int .i64 (vk : Int), .int .i64 (vn : Int), .string (bA vs), .slice none 0 0, .slice none 0 0, .bool f, .slice ak n ck, .int .i64 (p : Int)] 33) = u4 := ⟨_, rfl⟩
  rw [hu4] at Au4 Gu4
  have B4 : Hid (Below w.heap.size w u4) := hide ((unhide B3).trans (Gu4.mono (unhide B3).size))
  have Wu4 := hide hu4

  clear Au4 Gu4 hu4
  go_upto_region 4 with fail
  rw [unhide Wu4]
  clear Wu4
  go_wp2_with fail
  go_ret
  exact ⟨rfl, unhide B4⟩

theorem program_170 (s : ByteArray) (w : World) (he : Ev w) (hw6 : 5 < w.heap.size) {P : Nat} {r : Rs (List Nd)} (h : PgOf 27 s.data.toList r) (hr : erOf r = (170, P)) :
    Calls Tryd.prog 7 #[.string s] w fun e w' => ∃ (k : Nat) (t : List UInt8) (vk vn : Nat) (vs : List UInt8) (f : Bool) (n : Nat) (ak : Option Addr) (ck p : Nat), e = .returned (.tuple #[.agg #[.int .i64 (k : Int), .string (bA t), .int .i64 (vk : Int), .int .i64 (vn : Int), .string (bA vs), .slice none 0 0, .slice none 0 0, .bool f, .slice ak n ck, .int .i64 (p : Int)], .int .i64 (P : Int), .int .i64 170]) ∧ Below w.heap.size w w' := program_er s w he hw6 h hr

set_option maxRecDepth 100000 in
set_option maxHeartbeats 4000000 in
theorem stops_c (s rest : ByteArray) (w : World) (he : Ev w) (hw6 : 5 < w.heap.size) {ts : List Tk} (hE : allT s.data.toList = .ok ts) {r : Rs (List Nd)} (hr : PgOf 27 s.data.toList r) (hx : erOf r = (170, s.size)) :
    Calls Tryd.prog 3 #[.string s, .string rest] w fun e w' => e = .returned (.bool true) ∧ Below w.heap.size w w' := by
  have hs : s.size ≤ 8192 := all_small hE
  obtain ⟨⟨us, hus⟩, hall, hrise⟩ := all_ok hE
  obtain ⟨N, hN⟩ : ∃ N, us.length = N := ⟨_, rfl⟩
  have htl : ts.length = N + 1 := by rw [hus, List.length_append, hN]; rfl
  have hlast : ts[N]? = some (endT s.size) := by rw [hus, List.getElem?_append_right (by omega), hN, Nat.sub_self]; rfl
  have hl := (all_again hE).2.1
  have hN2 : N ≤ 8192 := by omega
  have hs2 : (s.size : Int) ≤ 8192 := by omega
  have CS := hide (shown_any w he hw6)
  have CA := hide (fun u (hu : Below w.heap.size w u) => all_toks s ts u (he.below hu hw6) (Nat.lt_of_lt_of_le hw6 hu.size) hE N htl)
  have CP := hide (fun u (hu : Below w.heap.size w u) => program_170 s u (he.below hu hw6) (Nat.lt_of_lt_of_le hw6 hu.size) hr hx)
  have HRI := hide (And.intro (inc_of hrise) (And.intro htl hlast))
  have q1 : ((s.size : Int) == (s.size : Int)) = true := beq_self_eq_true _
  clear he hw6 hE hr hx hall hrise hus hlast htl hN hl
  go_enter Tryd.func3, Tryd.ntmps3
  go_wp2_with fail
  refine (unhide CS).mono ?_
  rintro e u1 ⟨rfl, b1⟩
  have B1 := hide b1
  clear b1 CS
  go_wp2_with fail
  refine ((unhide CA) u1 (unhide B1)).mono ?_
  rintro e u2 ⟨tb, tc, rfl, hc, hbb, hcm, HK⟩
  have B2 : Hid (Below w.heap.size w u2) := hide ((unhide B1).trans ((unhide HK).2.2.mono (unhide B1).size))
  have T2 := hide (unhide HK).2.1
  clear CA HK
  go_wp2_with fail
  refine ((unhide CP) u2 (unhide B2)).mono ?_
  rintro e u3 ⟨k, t, vk, vn, vs, f, n, ak, ck, p, rfl, b⟩
  have B3 : Hid (Below w.heap.size w u3) := hide ((unhide B2).trans (b.mono (unhide B2).size))
  have T3 := hide ((unhide T2).later b)
  clear b
  obtain ⟨Au4, Gu4⟩ := bx u3 #[.int .i64 (k : Int), .string (bA t), .int .i64 (vk : Int), .int .i64 (vn : Int), .string (bA vs), .slice none 0 0, .slice none 0 0, .bool f, .slice ak n ck, .int .i64 (p : Int)] 33
  obtain ⟨u4, hu4⟩ : ∃ u4, u3.alloc (.cells #[.int .i64 (k : Int), .string (bA t), .int .i64 (vk : Int), .int .i64 (vn : Int), .string (bA vs), .slice none 0 0, .slice none 0 0, .bool f, .slice ak n ck, .int .i64 (p : Int)] 33) = u4 := ⟨_, rfl⟩
  rw [hu4] at Au4 Gu4
  have B4 : Hid (Below w.heap.size w u4) := hide ((unhide B3).trans (Gu4.mono (unhide B3).size))
  have Wu4 := hide hu4
  have T4 := hide ((unhide T3).later Gu4)
  clear Au4 Gu4 hu4
  go_upto_region 4 with fail
  rw [unhide Wu4]
  clear Wu4
  clear T2 T3 B1 B2 B3
  have hc2 : (N : Int) + 1 ≤ (tc : Int) := by omega
  have q2 : ¬ (s.size : Int) < 0 := by omega
  have q3 : ¬ (s.size : Int) < (s.size : Int) := by omega
  go_upto_region 9 with fail
  go_loopw [12, 13, 14] (fun x y z wr => ∃ i : Nat, z = .int .i64 (i : Int) ∧ i ≤ N ∧ x = .int .i64 (s.size : Int) ∧ y = .bool true ∧ wr = u4) (fun x y z _ => N + 1 - (intOf z).toNat)
  case atStart => exact ⟨0, rfl, by omega, rfl, rfl, rfl⟩
  case round =>
    obtain ⟨i, rfl, hi, rfl, rfl, hwr⟩ := hrel
    rw [hwr]
    clear hwr
    by_cases hlt : i < N
    · have j1 : (i : Int) + 1 < (N : Int) + 1 := by omega
      have j2 : (i : Int) < (N : Int) + 1 := by omega
      obtain ⟨t1, ht⟩ : ∃ v, ts[i]? = some v := ⟨_, List.getElem?_eq_getElem (by have := (unhide HRI).2.1; omega)⟩
      obtain ⟨hb1, _, _, _, x3⟩ := (unhide T4).at ht
      have hp := (unhide HRI).1 i (N - i - 1) t1 _ ht (by rw [show i + 1 + (N - i - 1) = N by omega]; exact (unhide HRI).2.2)
      obtain ⟨tp, htpe⟩ : ∃ p, t1.p = p := ⟨_, rfl⟩
      rw [htpe] at x3 hp
      simp only [endT] at hp
      have p1 : ((tp : Int) == (s.size : Int)) = false := beq_eq_false_iff_ne.2 (by omega)
      have p2 : ¬ (tp : Int) = (s.size : Int) := by omega
      obtain ⟨o, ho⟩ : ∃ o, i * 4 = o := ⟨_, rfl⟩
      have r1 := add_row tb (i * 4)
      rw [ho] at r1 x3
      have HLT := hide hlt
      clear hlt ht htpe hp
      go_wp2_with fail
      go_roundw
      case rel => exact ⟨i + 1, by go_num, unhide HLT, (by first | rfl | trivial), (by first | rfl | trivial), (by first | rfl | trivial)⟩
      case measure => have := unhide HLT; simp [intOf]; omega
    · have j1 : ¬ (i : Int) + 1 < (N : Int) + 1 := by omega
      clear hlt
      go_wp2_with fail
      go_ret
      exact ⟨rfl, unhide B4⟩

theorem cat_list (s rest : ByteArray) (ep : Nat) : (s.extract 0 ep ++ ⟨#[10]⟩ ++ rest).data.toList = s.data.toList.take ep ++ 10 :: rest.data.toList := by
  rw [ByteArray.data_append, ByteArray.data_append, Array.toList_append, Array.toList_append, ext_take, bA_data]
  simp
theorem cat_size (s rest : ByteArray) (ep : Nat) : (s.extract 0 ep ++ ⟨#[10]⟩ ++ rest).size = (s.data.toList.take ep ++ 10 :: rest.data.toList).length := by
  rw [← cat_list]
  rfl

set_option maxRecDepth 100000 in
set_option maxHeartbeats 4000000 in
theorem stops_d (s rest : ByteArray) (w : World) (he : Ev w) (hw6 : 5 < w.heap.size) {ts : List Tk} (hE : allT s.data.toList = .ok ts) {r : Rs (List Nd)} (hr : PgOf 27 s.data.toList r) {fu j : Nat} {tj tk : Tk} (hj : ts[j]? = some tj) (hk : ts[j + 1]? = some tk) (hx : erOf r = (170, tj.p)) (hrP : PJ fu 27 0 [] ts 0 = some (.error (170, tj.p))) (z1 : rest.size ≤ 140737488351232) :
    Calls Tryd.prog 3 #[.string s, .string rest] w fun e w' => e = .returned (.bool true) ∧ Below w.heap.size w w' := by
  have hs : s.size ≤ 8192 := all_small hE
  obtain ⟨⟨us, hus⟩, hall, hrise⟩ := all_ok hE
  obtain ⟨N, hN⟩ : ∃ N, us.length = N := ⟨_, rfl⟩
  have htl : ts.length = N + 1 := by rw [hus, List.length_append, hN]; rfl
  have hlast : ts[N]? = some (endT s.size) := by rw [hus, List.getElem?_append_right (by omega), hN, Nat.sub_self]; rfl
  have hl := (all_again hE).2.1
  have hN2 : N ≤ 8192 := by omega
  have hs2 : (s.size : Int) ≤ 8192 := by omega
  have CS := hide (shown_any w he hw6)
  have CA := hide (fun u (hu : Below w.heap.size w u) => all_toks s ts u (he.below hu hw6) (Nat.lt_of_lt_of_le hw6 hu.size) hE N htl)
  have CP := hide (fun u (hu : Below w.heap.size w u) => program_170 s u (he.below hu hw6) (Nat.lt_of_lt_of_le hw6 hu.size) hr hx)
  obtain ⟨P, hP⟩ : ∃ P, tj.p = P := ⟨_, rfl⟩
  obtain ⟨ep, hep⟩ : ∃ P, tk.p = P := ⟨_, rfl⟩
  have hPe : P < ep := by rw [← hP, ← hep]; exact hrise j tj tk hj hk
  have hes : ep ≤ s.size := by rw [← hep]; exact (hall (j + 1) tk hk).1
  have hjN : j < N := by have := (List.getElem?_eq_some_iff.1 hk).1; omega
  rw [hP] at CP
  have HST : Hid ((s.data.toList.take ep ++ 10 :: rest.data.toList).length ≤ 8192 → (∃ q er, allT (s.data.toList.take ep ++ 10 :: rest.data.toList) = .error (q, er)) ∨ ∃ ts', allT (s.data.toList.take ep ++ 10 :: rest.data.toList) = .ok ts' ∧ PJ fu 27 0 [] ts' 0 = some (.error (170, P))) := hide (fun hl => by
    rw [← hep] at hl ⊢
    rw [← hP]
    exact stops_all hE hj hk hrP hl)
  have HEV : Hid (∀ u, Below w.heap.size w u → Ev u ∧ 5 < u.heap.size) := hide (fun u hu => ⟨he.below hu hw6, Nat.lt_of_lt_of_le hw6 hu.size⟩)
  have HRI := hide (And.intro (inc_of hrise) (And.intro htl (And.intro hj (And.intro hk (And.intro hP hep)))))
  clear he hw6 hE hr hx hrP hall hrise hus hlast htl hN hl hj hk hP hep
  go_enter Tryd.func3, Tryd.ntmps3
  go_wp2_with fail
  refine (unhide CS).mono ?_
  rintro e u1 ⟨rfl, b1⟩
  have B1 := hide b1
  clear b1 CS
  go_wp2_with fail
  refine ((unhide CA) u1 (unhide B1)).mono ?_
  rintro e u2 ⟨tb, tc, rfl, hc, hbb, hcm, HK⟩
  have B2 : Hid (Below w.heap.size w u2) := hide ((unhide B1).trans ((unhide HK).2.2.mono (unhide B1).size))
  have T2 := hide (unhide HK).2.1
  clear CA HK
  go_wp2_with fail
  refine ((unhide CP) u2 (unhide B2)).mono ?_
  rintro e u3 ⟨k, t, vk, vn, vs, f, n, ak, ck, p, rfl, b⟩
  have B3 : Hid (Below w.heap.size w u3) := hide ((unhide B2).trans (b.mono (unhide B2).size))
  have T3 := hide ((unhide T2).later b)
  clear b
  obtain ⟨Au4, Gu4⟩ := bx u3 #[.int .i64 (k : Int), .string (bA t), .int .i64 (vk : Int), .int .i64 (vn : Int), .string (bA vs), .slice none 0 0, .slice none 0 0, .bool f, .slice ak n ck, .int .i64 (p : Int)] 33
  obtain ⟨u4, hu4⟩ : ∃ u4, u3.alloc (.cells #[.int .i64 (k : Int), .string (bA t), .int .i64 (vk : Int), .int .i64 (vn : Int), .string (bA vs), .slice none 0 0, .slice none 0 0, .bool f, .slice ak n ck, .int .i64 (p : Int)] 33) = u4 := ⟨_, rfl⟩
  rw [hu4] at Au4 Gu4
  have B4 : Hid (Below w.heap.size w u4) := hide ((unhide B3).trans (Gu4.mono (unhide B3).size))
  have Wu4 := hide hu4
  have T4 := hide ((unhide T3).later Gu4)
  clear Au4 Gu4 hu4
  go_upto_region 4 with fail
  rw [unhide Wu4]
  clear Wu4
  clear T2 T3 B1 B2 B3
  have hc2 : (N : Int) + 1 ≤ (tc : Int) := by omega
  have q1 : ((P : Int) == (s.size : Int)) = false := beq_eq_false_iff_ne.2 (by omega)
  have q0 : ¬ (P : Int) = (s.size : Int) := by omega
  have q2 : ¬ (P : Int) < 0 := by omega
  have q3 : ¬ (s.size : Int) < (P : Int) := by omega
  go_upto_region 9 with fail
  go_loopw [12, 13, 14] (fun x y z wr => ∃ i : Nat, z = .int .i64 (i : Int) ∧ i ≤ N ∧ Hid ((i ≤ j ∧ x = .int .i64 (s.size : Int) ∧ y = .bool false) ∨ (j < i ∧ x = .int .i64 (ep : Int) ∧ y = .bool true)) ∧ wr = u4) (fun x y z _ => N + 1 - (intOf z).toNat)
  case atStart => exact ⟨0, rfl, by omega, hide (.inl ⟨by omega, rfl, rfl⟩), rfl⟩
  case round =>
    obtain ⟨i, rfl, hi, HI, hwr⟩ := hrel
    rw [hwr]
    clear hwr
    by_cases hlt : i < N
    · have j1 : (i : Int) + 1 < (N : Int) + 1 := by omega
      have j2 : (i : Int) < (N : Int) + 1 := by omega
      obtain ⟨t1, ht⟩ : ∃ v, ts[i]? = some v := ⟨_, List.getElem?_eq_getElem (by have := (unhide HRI).2.1; omega)⟩
      obtain ⟨hb1, _, _, _, x3⟩ := (unhide T4).at ht
      obtain ⟨o, ho⟩ : ∃ o, i * 4 = o := ⟨_, rfl⟩
      have r1 := add_row tb (i * 4)
      rw [ho] at r1 x3
      obtain ⟨tp, htpe⟩ : ∃ p, t1.p = p := ⟨_, rfl⟩
      rw [htpe] at x3
      have HLT := hide hlt
      by_cases hij : i = j
      · obtain ⟨h1, h2, h3, h4, h5, h6⟩ := unhide HRI
        obtain ⟨_, _, _, _, y3⟩ := (unhide T4).at (show ts[i + 1]? = some tk by rw [hij]; exact h4)
        have htP : tp = P := by
          rw [← htpe, ← h5]
          rw [hij] at ht
          rw [ht] at h3
          injection h3 with h3
          rw [h3]
        rw [h6] at y3
        obtain ⟨o2, ho2⟩ : ∃ o, (i + 1) * 4 = o := ⟨_, rfl⟩
        have r2 := add_row tb ((i + 1) * 4)
        rw [ho2] at r2 y3
        rw [htP] at x3
        have p1 : ((P : Int) == (P : Int)) = true := beq_self_eq_true _
        have HN : Hid (j < i + 1 ∧ i = j) := hide ⟨by omega, hij⟩
        clear hlt ht htpe h1 h2 h3 h4 h5 h6 hij htP
        rcases unhide HI with ⟨_, rfl, rfl⟩ | ⟨hbad, _, _⟩
        · clear HI
          go_wp2_with fail
          go_roundw
          case rel => exact ⟨i + 1, by go_num, unhide HLT, hide (.inr ⟨(unhide HN).1, rfl, rfl⟩), (by first | rfl | trivial)⟩
          case measure => have := unhide HLT; simp [intOf]; omega
        · exfalso; have := unhide HN; omega
      · have htP : ¬ tp = P := by
          obtain ⟨h1, h2, h3, h4, h5, h6⟩ := unhide HRI
          rcases Nat.lt_or_ge i j with h | h
          · have := h1 i (j - i - 1) t1 tj ht (by rw [show i + 1 + (j - i - 1) = j by omega]; exact h3)
            omega
          · have := h1 j (i - j - 1) tj t1 h3 (by rw [show j + 1 + (i - j - 1) = i by omega]; exact ht)
            omega
        have p1 : ((tp : Int) == (P : Int)) = false := beq_eq_false_iff_ne.2 (by omega)
        have p2 : ¬ (tp : Int) = (P : Int) := by omega
        rcases unhide HI with ⟨hle, rfl, rfl⟩ | ⟨hle, rfl, rfl⟩
        · have HN : Hid (i + 1 ≤ j) := hide (by omega)
          clear hlt ht htpe hij htP HI hle
          go_wp2_with fail
          go_roundw
          case rel => exact ⟨i + 1, by go_num, unhide HLT, hide (.inl ⟨unhide HN, rfl, rfl⟩), (by first | rfl | trivial)⟩
          case measure => have := unhide HLT; simp [intOf]; omega
        · have HN : Hid (j < i + 1) := hide (by omega)
          clear hlt ht htpe hij htP HI hle
          go_wp2_with fail
          go_roundw
          case rel => exact ⟨i + 1, by go_num, unhide HLT, hide (.inr ⟨unhide HN, rfl, rfl⟩), (by first | rfl | trivial)⟩
          case measure => have := unhide HLT; simp [intOf]; omega
    · have j1 : ¬ (i : Int) + 1 < (N : Int) + 1 := by omega
      rcases unhide HI with ⟨hbad, _, _⟩ | ⟨_, rfl, rfl⟩
      · exfalso; omega
      have sz : (s.extract 0 ep).size = ep := by rw [ByteArray.size_extract]; omega
      have sz1 : (s.extract 0 ep ++ ⟨#[10]⟩).size = ep + 1 := by rw [ByteArray.size_append, sz]; rfl
      have sz2 : (s.extract 0 ep ++ ⟨#[10]⟩ ++ rest).size = ep + 1 + rest.size := by rw [ByteArray.size_append, sz1]
      have e1 : (ep : Int) ≤ (s.size : Int) := by omega
      have e2 : (0 : Int) ≤ (ep : Int) := by omega
      have z2 : (rest.size : Int) ≤ 140737488351232 := by omega
      clear hlt HI
      by_cases hbig : 8192 < ep + 1 + rest.size
      · have b1 : (8192 : Int) < (ep : Int) + 1 + (rest.size : Int) := by omega
        clear hbig
        go_wp2_with fail
        go_ret
        exact ⟨rfl, unhide B4⟩
      · have b1 : ¬ (8192 : Int) < (ep : Int) + 1 + (rest.size : Int) := by omega
        have hst := unhide HST (by rw [← cat_size, sz2]; omega)
        have n1 : ¬ 9223372036854775807 < ep + 1 := by omega
        have n2 : ¬ 9223372036854775807 < ep + 1 + rest.size := by omega
        obtain ⟨h1, h2⟩ := unhide HEV u4 (unhide B4)
        rcases hst with ⟨q, er, hA⟩ | ⟨ts', hA, hP2⟩
        · rw [← cat_list] at hA
          have hz := all_er hA
          have k3 : ((er : Int) == 0) = false := beq_eq_false_iff_ne.2 (by omega)
          have k4 : ((er : Int) != 0) = true := by simp; omega
          have k5 : ¬ (er : Int) = 0 := by omega
          have k6 : ((er : Int) == (er : Int)) = true := beq_self_eq_true _
          have C1 := hide (all_bad _ q er u4 h1 h2 hA)
          have C2 := hide (fun u (hu : Below w.heap.size w u) => program_er _ u (unhide HEV u hu).1 (unhide HEV u hu).2 (r := .error (er, q)) (.inl ⟨q, er, hA, rfl⟩) (E := er) (P := q) rfl)
          clear hA hz hbig h1 h2
          go_wp2_with fail
          refine (unhide C1).mono ?_
          rintro e u5 ⟨rfl, b5⟩
          have B5 : Hid (Below w.heap.size w u5) := hide ((unhide B4).trans (b5.mono (unhide B4).size))
          clear b5 C1
          go_wp2_with fail
          refine ((unhide C2) u5 (unhide B5)).mono ?_
          rintro e u6 ⟨k, t, vk, vn, vs, f, n, ak, ck, p, rfl, b⟩
          have B6 : Hid (Below w.heap.size w u6) := hide ((unhide B5).trans (b.mono (unhide B5).size))

          clear b
          obtain ⟨Au7, Gu7⟩ := bx u6 #[.int .i64 (k : Int), .string (bA t), .int .i64 (vk : Int), .int .i64 (vn : Int), .string (bA vs), .slice none 0 0, .slice none 0 0, .bool f, .slice ak n ck, .int .i64 (p : Int)] 33
          obtain ⟨u7, hu7⟩ : ∃ u7, u6.alloc (.cells #[.int .i64 (k : Int), .string (bA t), .int .i64 (vk : Int), .int .i64 (vn : Int), .string (bA vs), .slice none 0 0, .slice none 0 0, .bool f, .slice ak n ck, .int .i64 (p : Int)] 33) = u7 := ⟨_, rfl⟩
          rw [hu7] at Au7 Gu7
          have B7 : Hid (Below w.heap.size w u7) := hide ((unhide B6).trans (Gu7.mono (unhide B6).size))
          have Wu7 := hide hu7

          clear Au7 Gu7 hu7
          go_upto_region 20 with fail
          rw [unhide Wu7]
          clear Wu7
          go_wp2_with fail
          go_ret
          exact ⟨rfl, unhide B7⟩
        · rw [← cat_list] at hA
          obtain ⟨M, hM⟩ : ∃ M, ts'.length = M + 1 := ⟨ts'.length - 1, by obtain ⟨us, q, rfl⟩ := (all_fin hA).2; simp⟩
          have C1 := hide (all_toks _ ts' u4 h1 h2 hA M hM)
          have C2 := hide (fun u (hu : Below w.heap.size w u) => program_170 _ u (unhide HEV u hu).1 (unhide HEV u hu).2 (r := .error (170, P)) (.inr ⟨ts', fu, hA, hP2⟩) rfl)
          have k6 : ((P : Int) == (P : Int)) = true := beq_self_eq_true _
          clear hA hbig h1 h2 hM hP2
          go_wp2_with fail
          refine (unhide C1).mono ?_
          rintro e u5 ⟨tb2, tc2, rfl, _, _, _, HK⟩
          have B5 : Hid (Below w.heap.size w u5) := hide ((unhide B4).trans ((unhide HK).2.2.mono (unhide B4).size))
          clear HK C1
          go_wp2_with fail
          refine ((unhide C2) u5 (unhide B5)).mono ?_
          rintro e u6 ⟨k, t, vk, vn, vs, f, n, ak, ck, p, rfl, b⟩
          have B6 : Hid (Below w.heap.size w u6) := hide ((unhide B5).trans (b.mono (unhide B5).size))

          clear b
          obtain ⟨Au7, Gu7⟩ := bx u6 #[.int .i64 (k : Int), .string (bA t), .int .i64 (vk : Int), .int .i64 (vn : Int), .string (bA vs), .slice none 0 0, .slice none 0 0, .bool f, .slice ak n ck, .int .i64 (p : Int)] 33
          obtain ⟨u7, hu7⟩ : ∃ u7, u6.alloc (.cells #[.int .i64 (k : Int), .string (bA t), .int .i64 (vk : Int), .int .i64 (vn : Int), .string (bA vs), .slice none 0 0, .slice none 0 0, .bool f, .slice ak n ck, .int .i64 (p : Int)] 33) = u7 := ⟨_, rfl⟩
          rw [hu7] at Au7 Gu7
          have B7 : Hid (Below w.heap.size w u7) := hide ((unhide B6).trans (Gu7.mono (unhide B6).size))
          have Wu7 := hide hu7

          clear Au7 Gu7 hu7
          go_upto_region 20 with fail
          rw [unhide Wu7]
          clear Wu7
          go_wp2_with fail
          go_ret
          exact ⟨rfl, unhide B7⟩
end Go.Proofs.YtgalfhlclmkbfaaDoor
