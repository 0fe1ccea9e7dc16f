/-
  Layer 17 (parse): the walk of ParseWithin; conditions: what the variables of strconv hold; the text's length.
-/
import Derived.Test.YtgalfhlclmkbfaaGreatDoorC47
import Derived.Test.YtgalfhlclmkbfaaGreatDoorC48
set_option linter.unusedVariables false
set_option linter.unusedSimpArgs false
namespace Go.Proofs.YtgalfhlclmkbfaaGreatDoor
open Go.RowKit
set_option linter.unusedVariables false
set_option linter.unusedSimpArgs false

theorem er_ne {j : Nat} {s : List UInt8} {r : Rs (List Nd)} (h : PgOf j s r) {a q : Nat} (hr : r = .error (a, q)) : ¬ a = 0 := by
  rcases h with ⟨p, er, h1, rfl⟩ | ⟨ts, f, h1, h2⟩
  · cases hr; exact all_er h1
  · subst hr; exact PJ_err f j 0 [] ts 0 a q h2
theorem TrR.bad {w : World} {r : Rs (List Nd)} {e : Ending} {w' : World} (h : TrR w r e w') {E P : Nat} (hr : erOf r = (E, P)) (hE : ¬ E = 0) :
    e = .returned (.tuple #[.agg #[.int .i64 0, .string ⟨#[]⟩, .int .i64 0, .int .i64 0, .string ⟨#[]⟩, .slice none 0 0, .slice none 0 0, .bool false, .slice none 0 0, .int .i64 0], .int .i64 (P : Int), .int .i64 (E : Int)]) := by
  obtain ⟨k, t, vk, vn, vs, f, n, ak, ck, p, pl, er, S, rfl, h⟩ := h
  replace h := unhide h
  match r, h, hr with
  | .error (a, q), h, hr =>
    obtain ⟨⟨rfl, rfl, rfl, rfl, rfl, rfl, rfl, rfl, rfl, rfl⟩, rfl, rfl⟩ := h
    cases hr
    rfl
  | .ok (ns, l), h, hr =>
    unfold erOf at hr
    by_cases hk : (hdT l).k = 0
    · simp only [hk, if_true] at hr
      cases hr
      exact absurd rfl hE
    · simp only [hk, if_false] at hr
      cases hr
      obtain ⟨⟨rfl, rfl, rfl, rfl, rfl, rfl, rfl, rfl, rfl, rfl⟩, rfl, rfl⟩ := h.2 hk
      rfl
def wA : ByteArray := ⟨#[102, 110, 32, 102, 40, 41, 32, 123, 32, 114, 101, 116, 117, 114, 110, 32]⟩
def wZ : ByteArray := ⟨#[59, 32, 125]⟩

set_option maxRecDepth 100000 in
theorem wrapped_any (s : ByteArray) (w : World) (z0 : s.size ≤ 140737488351232) : Calls Tryz.prog 14 #[.string s] w fun e w' => e = .returned (.string (wA ++ s ++ wZ)) ∧ w' = w := by
  have s1 : ((⟨#[102, 110, 32, 102, 40, 41, 32, 123, 32, 114, 101, 116, 117, 114, 110, 32]⟩ : ByteArray) ++ s).size = 16 + s.size := by rw [ByteArray.size_append]; rfl
  have n1 : ¬ 9223372036854775807 < 16 + s.size := by omega
  have n2 : ¬ 9223372036854775807 < 16 + s.size + 3 := by omega
  go_enter Tryz.func14, Tryz.ntmps14
  go_wp2_with fail
  go_ret
  exact ⟨rfl, rfl⟩
theorem wr_list (s : ByteArray) : (wA ++ s ++ wZ).data.toList = wrA ++ (s.data.toList ++ wrZ) := by
  rw [ByteArray.data_append, ByteArray.data_append, Array.toList_append, Array.toList_append, List.append_assoc]
  rfl

set_option maxRecDepth 100000 in
set_option maxHeartbeats 4000000 in
theorem within_a (s : ByteArray) (w : World) (he : Ev w) (hw6 : 5 < w.heap.size) (z0 : s.size ≤ 140737488351232) {r r2 : Rs (List Nd)} (hr : PgOf 0 s.data.toList r) (hr2 : PgOf 27 (wA ++ s ++ wZ).data.toList r2) {E P E2 P2 : Nat} (hx : erOf r = (E, P)) (hx2 : erOf r2 = (E2, P2)) (hE : ¬ E = 0) (hE2 : ¬ E2 = 0) :
    Calls Tryz.prog 5 #[.string s] w fun e w' => e = .returned (.bool true) ∧ Below w.heap.size w w' := by
  have CS := hide (shown_any w he hw6)
  have CW := hide (fun u => wrapped_any s u z0)
  have CE : Hid (∀ u, Below w.heap.size w u → Calls Tryz.prog 12 #[.string s] u fun e w' => e = .returned (.tuple #[.agg #[.int .i64 0, .string ⟨#[]⟩, .int .i64 0, .int .i64 0, .string ⟨#[]⟩, .slice none 0 0, .slice none 0 0, .bool false, .slice none 0 0, .int .i64 0], .int .i64 (P : Int), .int .i64 (E : Int)]) ∧ Below u.heap.size u w') := hide (fun u hu => (expr_any s u (he.below hu hw6) (Nat.lt_of_lt_of_le hw6 hu.size) hr).mono (fun e w' h => ⟨h.1.bad hx hE, h.2⟩))
  have k3 : ((E : Int) == 0) = false := beq_eq_false_iff_ne.2 (by omega)
  have k4 : ((E : Int) != 0) = true := by simp; omega
  have k5 : ¬ (E : Int) = 0 := by omega
  have CP : Hid (∀ u, Below w.heap.size w u → Calls Tryz.prog 8 #[.string (wA ++ s ++ wZ)] u fun e w' => e = .returned (.tuple #[.agg #[.int .i64 0, .string ⟨#[]⟩, .int .i64 0, .int .i64 0, .string ⟨#[]⟩, .slice none 0 0, .slice none 0 0, .bool false, .slice none 0 0, .int .i64 0], .int .i64 (P2 : Int), .int .i64 (E2 : Int)]) ∧ Below u.heap.size u w') := hide (fun u hu => (program_any _ u (he.below hu hw6) (Nat.lt_of_lt_of_le hw6 hu.size) hr2).mono (fun e w' h => ⟨h.1.bad hx2 hE2, h.2⟩))
  have l3 : ((E2 : Int) == 0) = false := beq_eq_false_iff_ne.2 (by omega)
  have l4 : ((E2 : Int) != 0) = true := by simp; omega
  have l5 : ¬ (E2 : Int) = 0 := by omega
  clear he hw6 hr hr2 hx hx2 hE hE2
  go_enter Tryz.func5, Tryz.ntmps5
  go_wp2_with fail
  refine (unhide CS).mono ?_
  rintro e u1 ⟨rfl, b1⟩
  have B1 := hide b1
  clear b1 CS
  go_wp2_with fail
  refine ((unhide CE) u1 (unhide B1)).mono ?_
  rintro e u2 ⟨rfl, b2⟩
  have B2 : Hid (Below w.heap.size w u2) := hide ((unhide B1).trans (b2.mono (unhide B1).size))
  clear b2 CE
  obtain ⟨Au3, Gu3⟩ := bx u2 #[.int .i64 0, .string ⟨#[]⟩, .int .i64 0, .int .i64 0, .string ⟨#[]⟩, .slice none 0 0, .slice none 0 0, .bool false, .slice none 0 0, .int .i64 0] 29
  obtain ⟨u3, hu3⟩ : ∃ u3, u2.alloc (.cells #[.int .i64 0, .string ⟨#[]⟩, .int .i64 0, .int .i64 0, .string ⟨#[]⟩, .slice none 0 0, .slice none 0 0, .bool false, .slice none 0 0, .int .i64 0] 29) = u3 := ⟨_, rfl⟩
  rw [hu3] at Au3 Gu3
  have B3 : Hid (Below w.heap.size w u3) := hide ((unhide B2).trans (Gu3.mono (unhide B2).size))
  have Wu3 := hide hu3
  have Xu3 := hide (And.intro Au3 Gu3)
  clear Au3 Gu3 hu3
  go_upto_region 3 with fail
  rw [unhide Wu3]
  clear Wu3
  go_wp2_with fail
  refine ((unhide CW) _).mono ?_
  rintro e ux ⟨rfl, hux⟩
  obtain rfl := hux.symm
  go_wp2_with fail
  refine ((unhide CP) _ (unhide B3)).mono ?_
  rintro e u4 ⟨rfl, b4⟩
  have B34 := hide b4
  have B4 : Hid (Below w.heap.size w u4) := hide ((unhide B3).trans (b4.mono (unhide B3).size))
  clear b4 CP
  obtain ⟨Au5, Gu5⟩ := bx u4 #[.int .i64 0, .string ⟨#[]⟩, .int .i64 0, .int .i64 0, .string ⟨#[]⟩, .slice none 0 0, .slice none 0 0, .bool false, .slice none 0 0, .int .i64 0] 29
  obtain ⟨u5, hu5⟩ : ∃ u5, u4.alloc (.cells #[.int .i64 0, .string ⟨#[]⟩, .int .i64 0, .int .i64 0, .string ⟨#[]⟩, .slice none 0 0, .slice none 0 0, .bool false, .slice none 0 0, .int .i64 0] 29) = u5 := ⟨_, rfl⟩
  rw [hu5] at Au5 Gu5
  have B5 : Hid (Below w.heap.size w u5) := hide ((unhide B4).trans (Gu5.mono (unhide B4).size))
  have Wu5 := hide hu5
  have Xu5 := hide (And.intro Au5 Gu5)
  clear Au5 Gu5 hu5
  go_upto_region 4 with fail
  rw [unhide Wu5]
  clear Wu5
  have hc3 : u5.heap[u2.heap.size]? = u3.heap[u2.heap.size]? := by
    have h1 : u2.heap.size < u3.heap.size := (Array.getElem?_eq_some_iff.1 (unhide Xu3).1).1
    have h2 := (unhide B34).size
    rw [(unhide Xu5).2.block _ (by omega), (unhide B34).block _ h1]
  have N3 := hc3.trans (unhide Xu3).1
  obtain ⟨x0, x1, x2, x3, x4, x5, x6, x7, x8, x9⟩ := row_cell10 N3
  obtain ⟨y0, y1, y2, y3, y4, y5, y6, y7, y8, y9⟩ := row_cell10 (unhide Xu5).1
  obtain ⟨g3, hg3⟩ : ∃ g, u2.heap.size = g := ⟨_, rfl⟩
  obtain ⟨g5, hg5⟩ : ∃ g, u4.heap.size = g := ⟨_, rfl⟩
  rw [hg3] at x0 x1 x2 x3 x4 x5 x6 x7 x8 x9 ⊢
  rw [hg5] at y0 y1 y2 y3 y4 y5 y6 y7 y8 y9 ⊢
  clear hc3 N3 hg3 hg5
  go_wp2_with fail
  go_ret
  exact ⟨rfl, unhide B5⟩

set_option maxRecDepth 100000 in
set_option maxHeartbeats 4000000 in
theorem within_b (s : ByteArray) (w : World) (he : Ev w) (hw6 : 5 < w.heap.size) (z0 : s.size ≤ 140737488351232) {r r2 : Rs (List Nd)} (hr : PgOf 0 s.data.toList r) (hr2 : PgOf 27 (wA ++ s ++ wZ).data.toList r2) {E P : Nat} (hx : erOf r = (E, P)) (hx2 : erOf r2 = (0, 0)) (hE : ¬ E = 0) :
    Calls Tryz.prog 5 #[.string s] w fun e w' => e = .returned (.bool true) ∧ Below w.heap.size w w' := by
  have CS := hide (shown_any w he hw6)
  have CW := hide (fun u => wrapped_any s u z0)
  have CE : Hid (∀ u, Below w.heap.size w u → Calls Tryz.prog 12 #[.string s] u fun e w' => e = .returned (.tuple #[.agg #[.int .i64 0, .string ⟨#[]⟩, .int .i64 0, .int .i64 0, .string ⟨#[]⟩, .slice none 0 0, .slice none 0 0, .bool false, .slice none 0 0, .int .i64 0], .int .i64 (P : Int), .int .i64 (E : Int)]) ∧ Below u.heap.size u w') := hide (fun u hu => (expr_any s u (he.below hu hw6) (Nat.lt_of_lt_of_le hw6 hu.size) hr).mono (fun e w' h => ⟨h.1.bad hx hE, h.2⟩))
  have k3 : ((E : Int) == 0) = false := beq_eq_false_iff_ne.2 (by omega)
  have k4 : ((E : Int) != 0) = true := by simp; omega
  have k5 : ¬ (E : Int) = 0 := by omega
  have CP : Hid (∀ u, Below w.heap.size w u → Calls Tryz.prog 8 #[.string (wA ++ s ++ wZ)] u fun e w' => ∃ (k : Nat) (t : List UInt8) (vk vn : Nat) (vs : List UInt8) (f : Bool) (n : Nat) (ak : Option Addr) (ck p : Nat), e = .returned (.tuple #[.agg #[.int .i64 (k : Int), .string (bA t), .int .i64 (vk : Int), .int .i64 (vn : Int), .string (bA vs), .slice none 0 0, .slice none 0 0, .bool f, .slice ak n ck, .int .i64 (p : Int)], .int .i64 0, .int .i64 0]) ∧ Below u.heap.size u w') := hide (fun u hu => program_er _ u (he.below hu hw6) (Nat.lt_of_lt_of_le hw6 hu.size) hr2 hx2)
  clear he hw6 hr hr2 hx hx2 hE
  go_enter Tryz.func5, Tryz.ntmps5
  go_wp2_with fail
  refine (unhide CS).mono ?_
  rintro e u1 ⟨rfl, b1⟩
  have B1 := hide b1
  clear b1 CS
  go_wp2_with fail
  refine ((unhide CE) u1 (unhide B1)).mono ?_
  rintro e u2 ⟨rfl, b2⟩
  have B2 : Hid (Below w.heap.size w u2) := hide ((unhide B1).trans (b2.mono (unhide B1).size))
  clear b2 CE
  obtain ⟨Au3, Gu3⟩ := bx u2 #[.int .i64 0, .string ⟨#[]⟩, .int .i64 0, .int .i64 0, .string ⟨#[]⟩, .slice none 0 0, .slice none 0 0, .bool false, .slice none 0 0, .int .i64 0] 29
  obtain ⟨u3, hu3⟩ : ∃ u3, u2.alloc (.cells #[.int .i64 0, .string ⟨#[]⟩, .int .i64 0, .int .i64 0, .string ⟨#[]⟩, .slice none 0 0, .slice none 0 0, .bool false, .slice none 0 0, .int .i64 0] 29) = u3 := ⟨_, rfl⟩
  rw [hu3] at Au3 Gu3
  have B3 : Hid (Below w.heap.size w u3) := hide ((unhide B2).trans (Gu3.mono (unhide B2).size))
  have Wu3 := hide hu3
  have Xu3 := hide (And.intro Au3 Gu3)
  clear Au3 Gu3 hu3
  go_upto_region 3 with fail
  rw [unhide Wu3]
  clear Wu3
  go_wp2_with fail
  refine ((unhide CW) _).mono ?_
  rintro e ux ⟨rfl, hux⟩
  obtain rfl := hux.symm
  go_wp2_with fail
  refine ((unhide CP) _ (unhide B3)).mono ?_
  rintro e u4 ⟨k, t, vk, vn, vs, f, n, ak, ck, p, rfl, b4⟩
  have B34 := hide b4
  have B4 : Hid (Below w.heap.size w u4) := hide ((unhide B3).trans (b4.mono (unhide B3).size))
  clear b4 CP
  obtain ⟨Au5, Gu5⟩ := bx u4 #[.int .i64 (k : Int), .string (bA t), .int .i64 (vk : Int), .int .i64 (vn : Int), .string (bA vs), .slice none 0 0, .slice none 0 0, .bool f, .slice ak n ck, .int .i64 (p : Int)] 29
  obtain ⟨u5, hu5⟩ : ∃ u5, u4.alloc (.cells #[.int .i64 (k : Int), .string (bA t), .int .i64 (vk : Int), .int .i64 (vn : Int), .string (bA vs), .slice none 0 0, .slice none 0 0, .bool f, .slice ak n ck, .int .i64 (p : Int)] 29) = u5 := ⟨_, rfl⟩
  rw [hu5] at Au5 Gu5
  have B5 : Hid (Below w.heap.size w u5) := hide ((unhide B4).trans (Gu5.mono (unhide B4).size))
  have Wu5 := hide hu5
  have Xu5 := hide (And.intro Au5 Gu5)
  clear Au5 Gu5 hu5
  go_upto_region 4 with fail
  rw [unhide Wu5]
  clear Wu5
  have hc3 : u5.heap[u2.heap.size]? = u3.heap[u2.heap.size]? := by
    have h1 : u2.heap.size < u3.heap.size := (Array.getElem?_eq_some_iff.1 (unhide Xu3).1).1
    have h2 := (unhide B34).size
    rw [(unhide Xu5).2.block _ (by omega), (unhide B34).block _ h1]
  have N3 := hc3.trans (unhide Xu3).1
  obtain ⟨x0, x1, x2, x3, x4, x5, x6, x7, x8, x9⟩ := row_cell10 N3
  obtain ⟨y0, y1, y2, y3, y4, y5, y6, y7, y8, y9⟩ := row_cell10 (unhide Xu5).1
  obtain ⟨g3, hg3⟩ : ∃ g, u2.heap.size = g := ⟨_, rfl⟩
  obtain ⟨g5, hg5⟩ : ∃ g, u4.heap.size = g := ⟨_, rfl⟩
  rw [hg3] at x0 x1 x2 x3 x4 x5 x6 x7 x8 x9 ⊢
  rw [hg5] at y0 y1 y2 y3 y4 y5 y6 y7 y8 y9 ⊢
  clear hc3 N3 hg3 hg5
  go_wp2_with fail
  go_ret
  exact ⟨rfl, unhide B5⟩

set_option maxRecDepth 100000 in
set_option maxHeartbeats 4000000 in
theorem within_c (s : ByteArray) (w : World) (he : Ev w) (hw6 : 5 < w.heap.size) (z0 : s.size ≤ 140737488351232) {r r2 : Rs (List Nd)} (hr : PgOf 0 s.data.toList r) (hr2 : PgOf 27 (wA ++ s ++ wZ).data.toList r2) {E2 P2 : Nat} (hx : erOf r = (0, 0)) (hx2 : erOf r2 = (E2, P2)) (hE2 : ¬ E2 = 0) :
    Calls Tryz.prog 5 #[.string s] w fun e w' => e = .returned (.bool true) ∧ Below w.heap.size w w' := by
  have CS := hide (shown_any w he hw6)
  have CW := hide (fun u => wrapped_any s u z0)
  have CE : Hid (∀ u, Below w.heap.size w u → Calls Tryz.prog 12 #[.string s] u fun e w' => ∃ (k : Nat) (t : List UInt8) (vk vn : Nat) (vs : List UInt8) (f : Bool) (n : Nat) (ak : Option Addr) (ck p : Nat), e = .returned (.tuple #[.agg #[.int .i64 (k : Int), .string (bA t), .int .i64 (vk : Int), .int .i64 (vn : Int), .string (bA vs), .slice none 0 0, .slice none 0 0, .bool f, .slice ak n ck, .int .i64 (p : Int)], .int .i64 0, .int .i64 0]) ∧ Below u.heap.size u w') := hide (fun u hu => expr_er _ u (he.below hu hw6) (Nat.lt_of_lt_of_le hw6 hu.size) hr hx)
  have CP : Hid (∀ u, Below w.heap.size w u → Calls Tryz.prog 8 #[.string (wA ++ s ++ wZ)] u fun e w' => e = .returned (.tuple #[.agg #[.int .i64 0, .string ⟨#[]⟩, .int .i64 0, .int .i64 0, .string ⟨#[]⟩, .slice none 0 0, .slice none 0 0, .bool false, .slice none 0 0, .int .i64 0], .int .i64 (P2 : Int), .int .i64 (E2 : Int)]) ∧ Below u.heap.size u w') := hide (fun u hu => (program_any _ u (he.below hu hw6) (Nat.lt_of_lt_of_le hw6 hu.size) hr2).mono (fun e w' h => ⟨h.1.bad hx2 hE2, h.2⟩))
  have l3 : ((E2 : Int) == 0) = false := beq_eq_false_iff_ne.2 (by omega)
  have l4 : ((E2 : Int) != 0) = true := by simp; omega
  have l5 : ¬ (E2 : Int) = 0 := by omega
  clear he hw6 hr hr2 hx hx2 hE2
  go_enter Tryz.func5, Tryz.ntmps5
  go_wp2_with fail
  refine (unhide CS).mono ?_
  rintro e u1 ⟨rfl, b1⟩
  have B1 := hide b1
  clear b1 CS
  go_wp2_with fail
  refine ((unhide CE) u1 (unhide B1)).mono ?_
  rintro e u2 ⟨k, t, vk, vn, vs, f, n, ak, ck, p, rfl, b2⟩
  have B2 : Hid (Below w.heap.size w u2) := hide ((unhide B1).trans (b2.mono (unhide B1).size))
  clear b2 CE
  obtain ⟨Au3, Gu3⟩ := bx u2 #[.int .i64 (k : Int), .string (bA t), .int .i64 (vk : Int), .int .i64 (vn : Int), .string (bA vs), .slice none 0 0, .slice none 0 0, .bool f, .slice ak n ck, .int .i64 (p : Int)] 29
  obtain ⟨u3, hu3⟩ : ∃ u3, u2.alloc (.cells #[.int .i64 (k : Int), .string (bA t), .int .i64 (vk : Int), .int .i64 (vn : Int), .string (bA vs), .slice none 0 0, .slice none 0 0, .bool f, .slice ak n ck, .int .i64 (p : Int)] 29) = u3 := ⟨_, rfl⟩
  rw [hu3] at Au3 Gu3
  have B3 : Hid (Below w.heap.size w u3) := hide ((unhide B2).trans (Gu3.mono (unhide B2).size))
  have Wu3 := hide hu3
  have Xu3 := hide (And.intro Au3 Gu3)
  clear Au3 Gu3 hu3
  go_upto_region 3 with fail
  rw [unhide Wu3]
  clear Wu3
  go_wp2_with fail
  refine ((unhide CW) _).mono ?_
  rintro e ux ⟨rfl, hux⟩
  obtain rfl := hux.symm
  go_wp2_with fail
  refine ((unhide CP) _ (unhide B3)).mono ?_
  rintro e u4 ⟨rfl, b4⟩
  have B34 := hide b4
  have B4 : Hid (Below w.heap.size w u4) := hide ((unhide B3).trans (b4.mono (unhide B3).size))
  clear b4 CP
  obtain ⟨Au5, Gu5⟩ := bx u4 #[.int .i64 0, .string ⟨#[]⟩, .int .i64 0, .int .i64 0, .string ⟨#[]⟩, .slice none 0 0, .slice none 0 0, .bool false, .slice none 0 0, .int .i64 0] 29
  obtain ⟨u5, hu5⟩ : ∃ u5, u4.alloc (.cells #[.int .i64 0, .string ⟨#[]⟩, .int .i64 0, .int .i64 0, .string ⟨#[]⟩, .slice none 0 0, .slice none 0 0, .bool false, .slice none 0 0, .int .i64 0] 29) = u5 := ⟨_, rfl⟩
  rw [hu5] at Au5 Gu5
  have B5 : Hid (Below w.heap.size w u5) := hide ((unhide B4).trans (Gu5.mono (unhide B4).size))
  have Wu5 := hide hu5
  have Xu5 := hide (And.intro Au5 Gu5)
  clear Au5 Gu5 hu5
  go_upto_region 4 with fail
  rw [unhide Wu5]
  clear Wu5
  have hc3 : u5.heap[u2.heap.size]? = u3.heap[u2.heap.size]? := by
    have h1 : u2.heap.size < u3.heap.size := (Array.getElem?_eq_some_iff.1 (unhide Xu3).1).1
    have h2 := (unhide B34).size
    rw [(unhide Xu5).2.block _ (by omega), (unhide B34).block _ h1]
  have N3 := hc3.trans (unhide Xu3).1
  obtain ⟨x0, x1, x2, x3, x4, x5, x6, x7, x8, x9⟩ := row_cell10 N3
  obtain ⟨y0, y1, y2, y3, y4, y5, y6, y7, y8, y9⟩ := row_cell10 (unhide Xu5).1
  obtain ⟨g3, hg3⟩ : ∃ g, u2.heap.size = g := ⟨_, rfl⟩
  obtain ⟨g5, hg5⟩ : ∃ g, u4.heap.size = g := ⟨_, rfl⟩
  rw [hg3] at x0 x1 x2 x3 x4 x5 x6 x7 x8 x9 ⊢
  rw [hg5] at y0 y1 y2 y3 y4 y5 y6 y7 y8 y9 ⊢
  clear hc3 N3 hg3 hg5
  go_wp2_with fail
  go_ret
  exact ⟨rfl, unhide B5⟩
end Go.Proofs.YtgalfhlclmkbfaaGreatDoor
