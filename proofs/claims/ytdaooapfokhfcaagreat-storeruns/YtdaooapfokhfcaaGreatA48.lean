/-
  The walk of held: those that hand out no values; conditions: the form's own reach.
-/
import Derived.Test.YtdaooapfokhfcaaGreatA46
import Derived.Test.YtdaooapfokhfcaaGreatA38
import Derived.Test.YtdaooapfokhfcaaGreatA47
namespace Go.Proofs.YtdaooapfokhfcaaGreat
open Go.RowKit
set_option linter.unusedVariables false
set_option linter.unusedSimpArgs false

section
variable {wk w w' : World} {K : Nat → Prop} {s r : Nat} {X X' Y Y' B : Xs} {Bs Bs' Cs Cs' : List Xs} {N N' : Nat}

theorem Duo.up (h : Duo wk K w s X Bs r Y Cs N) : Duo wk K w s X Bs r Y Cs (N + 1) := by
  obtain ⟨V, t, V2, t2, e1, e2, h1, h2, h3, h4, h5, h6⟩ := h
  exact ⟨V, t, V2, t2, e1, e2, h1, h2.more (Nat.le_succ _), h3, h4, h5, h6⟩

/-- what held leaves -/
def HeldPost (wk : World) (K : Nat → Prop) (s r : Nat) (N : Nat) (e : Ending) (w' : World) : Prop := e = .returned (.bool true) ∧ ∃ X' Bs', Duo wk K w' s X' Bs' r X' Bs' (N + 1)

/-- something new is written over -/
theorem Duo.over {Q : Nat → Prop} {w8 w9 : World} (h : Duo wk K w s X Bs r Y Cs N) (hb : Below w.heap.size w w8) (hw : Wiped Q w8 w9) (hQ : ∀ j, Q j → w.heap.size ≤ j ∧ j < w8.heap.size) : Duo wk K w9 s X Bs r Y Cs N := by
  have h0 := h.fr.size
  have hnK : ∀ j, Q j → ¬ K j := fun j hj e => by
    have h1 := h.base j e
    have h2 := (hQ j hj).1
    omega
  refine ((h.more hb).wipe hw (fun j hj => .inr (hQ j hj))).back ?_ (fun j hj => ⟨h.base j hj, .inl hj, fun e => hnK j e hj⟩)
  exact (h.fr.then hb).trans (G' := Q) ⟨hw.os, hw.tape, hw.output, hw.size, fun j hj hn => hw.far hj hn⟩ (fun j _ hj => hnK j hj)

set_option maxRecDepth 100000 in
set_option maxHeartbeats 1600000 in
theorem held_after {P : Nat → Prop} (h : Duo wk K w s X Bs r X Bs N) (hN : N ≤ 1353245080318) (kd : Int) (key : ByteArray) (v : Vl) (x0 x1 : Int) (x2 : ByteArray) (x3 : Option Addr) (x4 x5 : Nat) (x6 : Option Addr) (x7 x8 : Nat) (bk : -9223372036854775808 ≤ kd ∧ kd ≤ 9223372036854775807) (hv : IsP w P v (.agg #[.int .i64 x0, .int .i64 x1, .string x2, .slice x3 x4 x5, .slice x6 x7 x8])) (hP : ∀ j, P j → K j) (hk : pickI kd 9 = 3) :
    Calls Tryz.prog 8 #[.pointer (some ⟨s, 0, none⟩), .pointer (some ⟨r, 0, none⟩), .agg #[.int .i64 kd, .string key, .int .i64 x0, .int .i64 x1, .string x2, .slice x3 x4 x5, .slice x6 x7 x8]] w fun e w' => HeldPost wk K s r N e w' := by
  obtain ⟨w1, hw1⟩ : ∃ w1, w.alloc (.cells #[.int .i64 kd, .string key, .int .i64 x0, .int .i64 x1, .string x2, .slice x3 x4 x5, .slice x6 x7 x8] 34) = w1 := ⟨_, rfl⟩
  obtain ⟨G, hG⟩ : ∃ G, w.heap.size = G := ⟨_, rfl⟩
  have B1 : Below w.heap.size w w1 := by rw [← hw1]; exact (Below.refl _ _).alloc (Nat.le_refl _) _
  have N1 : w1.heap[G]? = some (.cells #[.int .i64 kd, .string key, .int .i64 x0, .int .i64 x1, .string x2, .slice x3 x4 x5, .slice x6 x7 x8] 34 (0, 0)) := by rw [← hw1, ← hG]; exact heap_alloc_new w _
  have g0 : w1.cell? ⟨G, 0, none⟩ = some (.int .i64 kd) := by rw [cell_of_row w1 G 0 _ _ (0, 0) N1]; rfl
  have g1 : w1.cell? ⟨G, 1, none⟩ = some (.string key) := by rw [cell_of_row w1 G 1 _ _ (0, 0) N1]; rfl
  have CP := pick_any kd 9 w1 bk.1 bk.2 (by omega) (by omega)
  rw [hk] at CP
  have CPH := hide CP
  have D1 := h.later B1
  have CA := hide (duo_after D1 key)
  have CB : Hid (∀ u, Below w1.heap.size w1 u → Calls Tryz.prog 33 #[.pointer (some ⟨r, 0, none⟩), .string key] u fun e w' => e = .returned (.tuple #[.string ((aft X key).getD ⟨#[]⟩), .bool (aft X key).isSome]) ∧ w' = u) := hide (fun u hu => duo_rafter (D1.later hu) key)
  have HQ : Hid (∀ u, Below w1.heap.size w1 u → ∃ X' Bs', Duo wk K u s X' Bs' r X' Bs' (N + 1)) := hide (fun u hu => ⟨X, Bs, (D1.later hu).up⟩)
  have HG : Hid (∀ u, Below w1.heap.size w1 u → u.cell? ⟨G, 1, none⟩ = some (.string key)) := hide (fun u hu => (hu.cell (Array.getElem?_eq_some_iff.1 N1).1).trans g1)
  obtain ⟨A, hA⟩ : ∃ A, (aft X key).getD ⟨#[]⟩ = A := ⟨_, rfl⟩
  obtain ⟨I, hI⟩ : ∃ I, (aft X key).isSome = I := ⟨_, rfl⟩
  rw [hA, hI] at CA CB
  clear h hv hP B1 N1 hk CP D1 hA hI
  go_enter Tryz.func8, Tryz.ntmps8
  go_wp2_with fail
  refine (unhide CPH).mono ?_
  rintro e u1 ⟨rfl, hu1⟩
  obtain rfl := hu1.symm
  clear hu1 CPH
  go_wp2_with fail
  refine (unhide CA).mono ?_
  rintro e u2 ⟨rfl, b2⟩
  have H2 := hide b2
  have g2 := unhide HG u2 b2
  clear b2 CA g0 g1
  go_wp2_with fail
  refine (unhide CB u2 (unhide H2)).mono ?_
  rintro e u3 ⟨rfl, hu3⟩
  obtain rfl := hu3.symm
  clear hu3
  go_wp2_with fail
  go_ret
  exact ⟨by simp, unhide HQ _ (unhide H2)⟩

set_option maxRecDepth 100000 in
set_option maxHeartbeats 1600000 in
theorem held_check {P : Nat → Prop} (h : Duo wk K w s X Bs r X Bs N) (hN : N ≤ 1353245080318) (kd : Int) (key : ByteArray) (v : Vl) (x0 x1 : Int) (x2 : ByteArray) (x3 : Option Addr) (x4 x5 : Nat) (x6 : Option Addr) (x7 x8 : Nat) (bk : -9223372036854775808 ≤ kd ∧ kd ≤ 9223372036854775807) (hv : IsP w P v (.agg #[.int .i64 x0, .int .i64 x1, .string x2, .slice x3 x4 x5, .slice x6 x7 x8])) (hP : ∀ j, P j → K j) (hk : pickI kd 9 = 4) :
    Calls Tryz.prog 8 #[.pointer (some ⟨s, 0, none⟩), .pointer (some ⟨r, 0, none⟩), .agg #[.int .i64 kd, .string key, .int .i64 x0, .int .i64 x1, .string x2, .slice x3 x4 x5, .slice x6 x7 x8]] w fun e w' => HeldPost wk K s r N e w' := by
  obtain ⟨w1, hw1⟩ : ∃ w1, w.alloc (.cells #[.int .i64 kd, .string key, .int .i64 x0, .int .i64 x1, .string x2, .slice x3 x4 x5, .slice x6 x7 x8] 34) = w1 := ⟨_, rfl⟩
  obtain ⟨G, hG⟩ : ∃ G, w.heap.size = G := ⟨_, rfl⟩
  have B1 : Below w.heap.size w w1 := by rw [← hw1]; exact (Below.refl _ _).alloc (Nat.le_refl _) _
  have N1 : w1.heap[G]? = some (.cells #[.int .i64 kd, .string key, .int .i64 x0, .int .i64 x1, .string x2, .slice x3 x4 x5, .slice x6 x7 x8] 34 (0, 0)) := by rw [← hw1, ← hG]; exact heap_alloc_new w _
  have g0 : w1.cell? ⟨G, 0, none⟩ = some (.int .i64 kd) := by rw [cell_of_row w1 G 0 _ _ (0, 0) N1]; rfl
  have g1 : w1.cell? ⟨G, 1, none⟩ = some (.string key) := by rw [cell_of_row w1 G 1 _ _ (0, 0) N1]; rfl
  have CP := pick_any kd 9 w1 bk.1 bk.2 (by omega) (by omega)
  rw [hk] at CP
  have CPH := hide CP
  have D1 := h.later B1
  have CA : Hid (Calls Tryz.prog 24 #[.pointer (some ⟨s, 0, none⟩)] w1 fun e w' => e = .returned (.int .i64 ((Bs.length : Int) + 1)) ∧ Hid (Calls Tryz.prog 34 #[.pointer (some ⟨r, 0, none⟩)] w' fun e2 w2 => e2 = .returned (.int .i64 ((Bs.length : Int) + 1)) ∧ Hid (∃ X' Bs', Duo wk K w2 s X' Bs' r X' Bs' (N + 1)))) := hide ((duo_check D1 (by have := h.few; omega)).mono (by
    rintro e w' ⟨rfl, d⟩
    refine ⟨rfl, hide ((duo_rcheck d hN).mono ?_)⟩
    rintro e2 w2 ⟨rfl, d2⟩
    exact ⟨rfl, hide ⟨_, _, d2⟩⟩))
  clear h hv hP B1 N1 hk CP D1
  go_enter Tryz.func8, Tryz.ntmps8
  go_wp2_with fail
  refine (unhide CPH).mono ?_
  rintro e u1 ⟨rfl, hu1⟩
  obtain rfl := hu1.symm
  clear hu1 CPH
  go_wp2_with fail
  refine (unhide CA).mono ?_
  rintro e u2 ⟨rfl, CB⟩
  clear CA g0 g1
  go_wp2_with fail
  refine (unhide CB).mono ?_
  rintro e u3 ⟨rfl, HQ⟩
  clear CB
  go_wp2_with fail
  go_ret
  exact ⟨by simp, unhide HQ⟩

set_option maxRecDepth 100000 in
set_option maxHeartbeats 1600000 in
theorem held_roll0 {P : Nat → Prop} (h : Duo wk K w s X [] r X [] N) (hN : N ≤ 1353245080318) (kd : Int) (key : ByteArray) (v : Vl) (x0 x1 : Int) (x2 : ByteArray) (x3 : Option Addr) (x4 x5 : Nat) (x6 : Option Addr) (x7 x8 : Nat) (bk : -9223372036854775808 ≤ kd ∧ kd ≤ 9223372036854775807) (hv : IsP w P v (.agg #[.int .i64 x0, .int .i64 x1, .string x2, .slice x3 x4 x5, .slice x6 x7 x8])) (hP : ∀ j, P j → K j) (hk : pickI kd 9 = 5) :
    Calls Tryz.prog 8 #[.pointer (some ⟨s, 0, none⟩), .pointer (some ⟨r, 0, none⟩), .agg #[.int .i64 kd, .string key, .int .i64 x0, .int .i64 x1, .string x2, .slice x3 x4 x5, .slice x6 x7 x8]] w fun e w' => HeldPost wk K s r N e w' := by
  obtain ⟨w1, hw1⟩ : ∃ w1, w.alloc (.cells #[.int .i64 kd, .string key, .int .i64 x0, .int .i64 x1, .string x2, .slice x3 x4 x5, .slice x6 x7 x8] 34) = w1 := ⟨_, rfl⟩
  obtain ⟨G, hG⟩ : ∃ G, w.heap.size = G := ⟨_, rfl⟩
  have B1 : Below w.heap.size w w1 := by rw [← hw1]; exact (Below.refl _ _).alloc (Nat.le_refl _) _
  have N1 : w1.heap[G]? = some (.cells #[.int .i64 kd, .string key, .int .i64 x0, .int .i64 x1, .string x2, .slice x3 x4 x5, .slice x6 x7 x8] 34 (0, 0)) := by rw [← hw1, ← hG]; exact heap_alloc_new w _
  have g0 : w1.cell? ⟨G, 0, none⟩ = some (.int .i64 kd) := by rw [cell_of_row w1 G 0 _ _ (0, 0) N1]; rfl
  have g1 : w1.cell? ⟨G, 1, none⟩ = some (.string key) := by rw [cell_of_row w1 G 1 _ _ (0, 0) N1]; rfl
  have CP := pick_any kd 9 w1 bk.1 bk.2 (by omega) (by omega)
  rw [hk] at CP
  have CPH := hide CP
  have D1 := h.later B1
  have CA : Hid (Calls Tryz.prog 19 #[.pointer (some ⟨s, 0, none⟩)] w1 fun e w' => e = .returned (.int .i64 (63)) ∧ Hid (Calls Tryz.prog 35 #[.pointer (some ⟨r, 0, none⟩)] w' fun e2 w2 => e2 = .returned (.int .i64 (63)) ∧ Hid (∃ X' Bs', Duo wk K w2 s X' Bs' r X' Bs' (N + 1)))) := hide ((duo_roll0 D1).mono (by
    rintro e w' ⟨rfl, d⟩
    refine ⟨rfl, hide ((duo_rroll0 d).mono ?_)⟩
    rintro e2 w2 ⟨rfl, d2⟩
    exact ⟨rfl, hide ⟨_, _, d2.up⟩⟩))
  clear h hv hP B1 N1 hk CP D1
  go_enter Tryz.func8, Tryz.ntmps8
  go_wp2_with fail
  refine (unhide CPH).mono ?_
  rintro e u1 ⟨rfl, hu1⟩
  obtain rfl := hu1.symm
  clear hu1 CPH
  go_wp2_with fail
  refine (unhide CA).mono ?_
  rintro e u2 ⟨rfl, CB⟩
  clear CA g0 g1
  go_wp2_with fail
  refine (unhide CB).mono ?_
  rintro e u3 ⟨rfl, HQ⟩
  clear CB
  go_wp2_with fail
  go_ret
  exact ⟨by simp, unhide HQ⟩

set_option maxRecDepth 100000 in
set_option maxHeartbeats 1600000 in
theorem held_roll {P : Nat → Prop} (h : Duo wk K w s X (B :: Bs) r X (B :: Bs) N) (hN : N ≤ 1353245080318) (kd : Int) (key : ByteArray) (v : Vl) (x0 x1 : Int) (x2 : ByteArray) (x3 : Option Addr) (x4 x5 : Nat) (x6 : Option Addr) (x7 x8 : Nat) (bk : -9223372036854775808 ≤ kd ∧ kd ≤ 9223372036854775807) (hv : IsP w P v (.agg #[.int .i64 x0, .int .i64 x1, .string x2, .slice x3 x4 x5, .slice x6 x7 x8])) (hP : ∀ j, P j → K j) (hk : pickI kd 9 = 5) :
    Calls Tryz.prog 8 #[.pointer (some ⟨s, 0, none⟩), .pointer (some ⟨r, 0, none⟩), .agg #[.int .i64 kd, .string key, .int .i64 x0, .int .i64 x1, .string x2, .slice x3 x4 x5, .slice x6 x7 x8]] w fun e w' => HeldPost wk K s r N e w' := by
  obtain ⟨w1, hw1⟩ : ∃ w1, w.alloc (.cells #[.int .i64 kd, .string key, .int .i64 x0, .int .i64 x1, .string x2, .slice x3 x4 x5, .slice x6 x7 x8] 34) = w1 := ⟨_, rfl⟩
  obtain ⟨G, hG⟩ : ∃ G, w.heap.size = G := ⟨_, rfl⟩
  have B1 : Below w.heap.size w w1 := by rw [← hw1]; exact (Below.refl _ _).alloc (Nat.le_refl _) _
  have N1 : w1.heap[G]? = some (.cells #[.int .i64 kd, .string key, .int .i64 x0, .int .i64 x1, .string x2, .slice x3 x4 x5, .slice x6 x7 x8] 34 (0, 0)) := by rw [← hw1, ← hG]; exact heap_alloc_new w _
  have g0 : w1.cell? ⟨G, 0, none⟩ = some (.int .i64 kd) := by rw [cell_of_row w1 G 0 _ _ (0, 0) N1]; rfl
  have g1 : w1.cell? ⟨G, 1, none⟩ = some (.string key) := by rw [cell_of_row w1 G 1 _ _ (0, 0) N1]; rfl
  have CP := pick_any kd 9 w1 bk.1 bk.2 (by omega) (by omega)
  rw [hk] at CP
  have CPH := hide CP
  have D1 := h.later B1
  have CA : Hid (Calls Tryz.prog 19 #[.pointer (some ⟨s, 0, none⟩)] w1 fun e w' => e = .returned (.int .i64 (0)) ∧ Hid (Calls Tryz.prog 35 #[.pointer (some ⟨r, 0, none⟩)] w' fun e2 w2 => e2 = .returned (.int .i64 (0)) ∧ Hid (∃ X' Bs', Duo wk K w2 s X' Bs' r X' Bs' (N + 1)))) := hide ((duo_roll D1).mono (by
    rintro e w' ⟨rfl, d⟩
    refine ⟨rfl, hide ((duo_rroll d hN).mono ?_)⟩
    rintro e2 w2 ⟨rfl, d2⟩
    exact ⟨rfl, hide ⟨_, _, d2.up⟩⟩))
  clear h hv hP B1 N1 hk CP D1
  go_enter Tryz.func8, Tryz.ntmps8
  go_wp2_with fail
  refine (unhide CPH).mono ?_
  rintro e u1 ⟨rfl, hu1⟩
  obtain rfl := hu1.symm
  clear hu1 CPH
  go_wp2_with fail
  refine (unhide CA).mono ?_
  rintro e u2 ⟨rfl, CB⟩
  clear CA g0 g1
  go_wp2_with fail
  refine (unhide CB).mono ?_
  rintro e u3 ⟨rfl, HQ⟩
  clear CB
  go_wp2_with fail
  go_ret
  exact ⟨by simp, unhide HQ⟩

set_option maxRecDepth 100000 in
set_option maxHeartbeats 1600000 in
theorem held_commit0 {P : Nat → Prop} (h : Duo wk K w s X [] r X [] N) (hN : N ≤ 1353245080318) (kd : Int) (key : ByteArray) (v : Vl) (x0 x1 : Int) (x2 : ByteArray) (x3 : Option Addr) (x4 x5 : Nat) (x6 : Option Addr) (x7 x8 : Nat) (bk : -9223372036854775808 ≤ kd ∧ kd ≤ 9223372036854775807) (hv : IsP w P v (.agg #[.int .i64 x0, .int .i64 x1, .string x2, .slice x3 x4 x5, .slice x6 x7 x8])) (hP : ∀ j, P j → K j) (hk : pickI kd 9 = 6) :
    Calls Tryz.prog 8 #[.pointer (some ⟨s, 0, none⟩), .pointer (some ⟨r, 0, none⟩), .agg #[.int .i64 kd, .string key, .int .i64 x0, .int .i64 x1, .string x2, .slice x3 x4 x5, .slice x6 x7 x8]] w fun e w' => HeldPost wk K s r N e w' := by
  obtain ⟨w1, hw1⟩ : ∃ w1, w.alloc (.cells #[.int .i64 kd, .string key, .int .i64 x0, .int .i64 x1, .string x2, .slice x3 x4 x5, .slice x6 x7 x8] 34) = w1 := ⟨_, rfl⟩
  obtain ⟨G, hG⟩ : ∃ G, w.heap.size = G := ⟨_, rfl⟩
  have B1 : Below w.heap.size w w1 := by rw [← hw1]; exact (Below.refl _ _).alloc (Nat.le_refl _) _
  have N1 : w1.heap[G]? = some (.cells #[.int .i64 kd, .string key, .int .i64 x0, .int .i64 x1, .string x2, .slice x3 x4 x5, .slice x6 x7 x8] 34 (0, 0)) := by rw [← hw1, ← hG]; exact heap_alloc_new w _
  have g0 : w1.cell? ⟨G, 0, none⟩ = some (.int .i64 kd) := by rw [cell_of_row w1 G 0 _ _ (0, 0) N1]; rfl
  have g1 : w1.cell? ⟨G, 1, none⟩ = some (.string key) := by rw [cell_of_row w1 G 1 _ _ (0, 0) N1]; rfl
  have CP := pick_any kd 9 w1 bk.1 bk.2 (by omega) (by omega)
  rw [hk] at CP
  have CPH := hide CP
  have D1 := h.later B1
  have CA : Hid (Calls Tryz.prog 20 #[.pointer (some ⟨s, 0, none⟩)] w1 fun e w' => e = .returned (.int .i64 (63)) ∧ Hid (Calls Tryz.prog 36 #[.pointer (some ⟨r, 0, none⟩)] w' fun e2 w2 => e2 = .returned (.int .i64 (63)) ∧ Hid (∃ X' Bs', Duo wk K w2 s X' Bs' r X' Bs' (N + 1)))) := hide ((duo_commit0 D1).mono (by
    rintro e w' ⟨rfl, d⟩
    refine ⟨rfl, hide ((duo_rcommit0 d).mono ?_)⟩
    rintro e2 w2 ⟨rfl, d2⟩
    exact ⟨rfl, hide ⟨_, _, d2.up⟩⟩))
  clear h hv hP B1 N1 hk CP D1
  go_enter Tryz.func8, Tryz.ntmps8
  go_wp2_with fail
  refine (unhide CPH).mono ?_
  rintro e u1 ⟨rfl, hu1⟩
  obtain rfl := hu1.symm
  clear hu1 CPH
  go_wp2_with fail
  refine (unhide CA).mono ?_
  rintro e u2 ⟨rfl, CB⟩
  clear CA g0 g1
  go_wp2_with fail
  refine (unhide CB).mono ?_
  rintro e u3 ⟨rfl, HQ⟩
  clear CB
  go_wp2_with fail
  go_ret
  exact ⟨by simp, unhide HQ⟩

set_option maxRecDepth 100000 in
set_option maxHeartbeats 1600000 in
theorem held_commit {P : Nat → Prop} (h : Duo wk K w s X (B :: Bs) r X (B :: Bs) N) (hN : N ≤ 1353245080318) (kd : Int) (key : ByteArray) (v : Vl) (x0 x1 : Int) (x2 : ByteArray) (x3 : Option Addr) (x4 x5 : Nat) (x6 : Option Addr) (x7 x8 : Nat) (bk : -9223372036854775808 ≤ kd ∧ kd ≤ 9223372036854775807) (hv : IsP w P v (.agg #[.int .i64 x0, .int .i64 x1, .string x2, .slice x3 x4 x5, .slice x6 x7 x8])) (hP : ∀ j, P j → K j) (hk : pickI kd 9 = 6) :
    Calls Tryz.prog 8 #[.pointer (some ⟨s, 0, none⟩), .pointer (some ⟨r, 0, none⟩), .agg #[.int .i64 kd, .string key, .int .i64 x0, .int .i64 x1, .string x2, .slice x3 x4 x5, .slice x6 x7 x8]] w fun e w' => HeldPost wk K s r N e w' := by
  obtain ⟨w1, hw1⟩ : ∃ w1, w.alloc (.cells #[.int .i64 kd, .string key, .int .i64 x0, .int .i64 x1, .string x2, .slice x3 x4 x5, .slice x6 x7 x8] 34) = w1 := ⟨_, rfl⟩
  obtain ⟨G, hG⟩ : ∃ G, w.heap.size = G := ⟨_, rfl⟩
  have B1 : Below w.heap.size w w1 := by rw [← hw1]; exact (Below.refl _ _).alloc (Nat.le_refl _) _
  have N1 : w1.heap[G]? = some (.cells #[.int .i64 kd, .string key, .int .i64 x0, .int .i64 x1, .string x2, .slice x3 x4 x5, .slice x6 x7 x8] 34 (0, 0)) := by rw [← hw1, ← hG]; exact heap_alloc_new w _
  have g0 : w1.cell? ⟨G, 0, none⟩ = some (.int .i64 kd) := by rw [cell_of_row w1 G 0 _ _ (0, 0) N1]; rfl
  have g1 : w1.cell? ⟨G, 1, none⟩ = some (.string key) := by rw [cell_of_row w1 G 1 _ _ (0, 0) N1]; rfl
  have CP := pick_any kd 9 w1 bk.1 bk.2 (by omega) (by omega)
  rw [hk] at CP
  have CPH := hide CP
  have D1 := h.later B1
  have CA : Hid (Calls Tryz.prog 20 #[.pointer (some ⟨s, 0, none⟩)] w1 fun e w' => e = .returned (.int .i64 (0)) ∧ Hid (Calls Tryz.prog 36 #[.pointer (some ⟨r, 0, none⟩)] w' fun e2 w2 => e2 = .returned (.int .i64 (0)) ∧ Hid (∃ X' Bs', Duo wk K w2 s X' Bs' r X' Bs' (N + 1)))) := hide ((duo_commit D1).mono (by
    rintro e w' ⟨rfl, d⟩
    refine ⟨rfl, hide ((duo_rcommit d hN).mono ?_)⟩
    rintro e2 w2 ⟨rfl, d2⟩
    exact ⟨rfl, hide ⟨_, _, d2.up⟩⟩))
  clear h hv hP B1 N1 hk CP D1
  go_enter Tryz.func8, Tryz.ntmps8
  go_wp2_with fail
  refine (unhide CPH).mono ?_
  rintro e u1 ⟨rfl, hu1⟩
  obtain rfl := hu1.symm
  clear hu1 CPH
  go_wp2_with fail
  refine (unhide CA).mono ?_
  rintro e u2 ⟨rfl, CB⟩
  clear CA g0 g1
  go_wp2_with fail
  refine (unhide CB).mono ?_
  rintro e u3 ⟨rfl, HQ⟩
  clear CB
  go_wp2_with fail
  go_ret
  exact ⟨by simp, unhide HQ⟩

set_option maxRecDepth 100000 in
set_option maxHeartbeats 1600000 in
theorem held_len {P : Nat → Prop} (h : Duo wk K w s X Bs r X Bs N) (hN : N ≤ 1353245080318) (kd : Int) (key : ByteArray) (v : Vl) (x0 x1 : Int) (x2 : ByteArray) (x3 : Option Addr) (x4 x5 : Nat) (x6 : Option Addr) (x7 x8 : Nat) (bk : -9223372036854775808 ≤ kd ∧ kd ≤ 9223372036854775807) (hv : IsP w P v (.agg #[.int .i64 x0, .int .i64 x1, .string x2, .slice x3 x4 x5, .slice x6 x7 x8])) (hP : ∀ j, P j → K j) (hk : pickI kd 9 = 8) :
    Calls Tryz.prog 8 #[.pointer (some ⟨s, 0, none⟩), .pointer (some ⟨r, 0, none⟩), .agg #[.int .i64 kd, .string key, .int .i64 x0, .int .i64 x1, .string x2, .slice x3 x4 x5, .slice x6 x7 x8]] w fun e w' => HeldPost wk K s r N e w' := by
  obtain ⟨w1, hw1⟩ : ∃ w1, w.alloc (.cells #[.int .i64 kd, .string key, .int .i64 x0, .int .i64 x1, .string x2, .slice x3 x4 x5, .slice x6 x7 x8] 34) = w1 := ⟨_, rfl⟩
  obtain ⟨G, hG⟩ : ∃ G, w.heap.size = G := ⟨_, rfl⟩
  have B1 : Below w.heap.size w w1 := by rw [← hw1]; exact (Below.refl _ _).alloc (Nat.le_refl _) _
  have N1 : w1.heap[G]? = some (.cells #[.int .i64 kd, .string key, .int .i64 x0, .int .i64 x1, .string x2, .slice x3 x4 x5, .slice x6 x7 x8] 34 (0, 0)) := by rw [← hw1, ← hG]; exact heap_alloc_new w _
  have g0 : w1.cell? ⟨G, 0, none⟩ = some (.int .i64 kd) := by rw [cell_of_row w1 G 0 _ _ (0, 0) N1]; rfl
  have g1 : w1.cell? ⟨G, 1, none⟩ = some (.string key) := by rw [cell_of_row w1 G 1 _ _ (0, 0) N1]; rfl
  have CP := pick_any kd 9 w1 bk.1 bk.2 (by omega) (by omega)
  rw [hk] at CP
  have CPH := hide CP
  have D1 := h.later B1
  have C1 := hide (duo_len D1)
  have C2 := hide (duo_rlen D1)
  have C3 := hide (duo_weight D1)
  have C4 := hide (duo_rweight D1)
  have C5 : Hid (∀ u, Below w1.heap.size w1 u → Calls Tryz.prog 25 #[.pointer (some ⟨s, 0, none⟩)] u fun e w' => e = .returned (.int .i64 (Bs.length : Int)) ∧ w' = u) := hide (fun u hu => duo_open (D1.later hu))
  have C6 : Hid (∀ u, Below w1.heap.size w1 u → Calls Tryz.prog 40 #[.pointer (some ⟨r, 0, none⟩)] u fun e w' => e = .returned (.int .i64 (Bs.length : Int)) ∧ w' = u) := hide (fun u hu => duo_ropen (D1.later hu))
  have HQ : Hid (∀ u, Below w1.heap.size w1 u → ∃ X' Bs', Duo wk K u s X' Bs' r X' Bs' (N + 1)) := hide (fun u hu => ⟨X, Bs, (D1.later hu).up⟩)
  clear h hv hP B1 N1 hk CP D1
  go_enter Tryz.func8, Tryz.ntmps8
  go_wp2_with fail
  refine (unhide CPH).mono ?_
  rintro e u1 ⟨rfl, hu1⟩
  obtain rfl := hu1.symm
  clear hu1 CPH
  go_wp2_with fail
  refine (unhide C1).mono ?_
  rintro e u2 ⟨rfl, hu2⟩
  obtain rfl := hu2.symm
  clear hu2
  clear g0 g1
  go_wp2_with fail
  refine (unhide C2).mono ?_
  rintro e u3 ⟨rfl, hu3⟩
  obtain rfl := hu3.symm
  clear hu3
  go_wp2_with fail
  refine (unhide C3).mono ?_
  rintro e u4 ⟨rfl, hu4⟩
  obtain rfl := hu4.symm
  clear hu4
  go_wp2_with fail
  refine (unhide C4).mono ?_
  rintro e u5 ⟨rfl, b5⟩
  have H5 := hide b5
  clear b5
  go_wp2_with fail
  refine (unhide C5 u5 (unhide H5)).mono ?_
  rintro e u6 ⟨rfl, hu6⟩
  obtain rfl := hu6.symm
  clear hu6
  go_wp2_with fail
  refine (unhide C6 u5 (unhide H5)).mono ?_
  rintro e u7 ⟨rfl, hu7⟩
  obtain rfl := hu7.symm
  clear hu7
  go_wp2_with fail
  go_ret
  exact ⟨by simp, unhide HQ _ (unhide H5)⟩

set_option maxRecDepth 100000 in
set_option maxHeartbeats 1600000 in
theorem held_del {P : Nat → Prop} (h : Duo wk K w s X Bs r X Bs N) (hN : N ≤ 1353245080318) (kd : Int) (key : ByteArray) (v : Vl) (x0 x1 : Int) (x2 : ByteArray) (x3 : Option Addr) (x4 x5 : Nat) (x6 : Option Addr) (x7 x8 : Nat) (bk : -9223372036854775808 ≤ kd ∧ kd ≤ 9223372036854775807) (hv : IsP w P v (.agg #[.int .i64 x0, .int .i64 x1, .string x2, .slice x3 x4 x5, .slice x6 x7 x8])) (hP : ∀ j, P j → K j) (hk : pickI kd 9 = 2) :
    Calls Tryz.prog 8 #[.pointer (some ⟨s, 0, none⟩), .pointer (some ⟨r, 0, none⟩), .agg #[.int .i64 kd, .string key, .int .i64 x0, .int .i64 x1, .string x2, .slice x3 x4 x5, .slice x6 x7 x8]] w fun e w' => HeldPost wk K s r N e w' := by
  obtain ⟨w1, hw1⟩ : ∃ w1, w.alloc (.cells #[.int .i64 kd, .string key, .int .i64 x0, .int .i64 x1, .string x2, .slice x3 x4 x5, .slice x6 x7 x8] 34) = w1 := ⟨_, rfl⟩
  obtain ⟨G, hG⟩ : ∃ G, w.heap.size = G := ⟨_, rfl⟩
  have B1 : Below w.heap.size w w1 := by rw [← hw1]; exact (Below.refl _ _).alloc (Nat.le_refl _) _
  have N1 : w1.heap[G]? = some (.cells #[.int .i64 kd, .string key, .int .i64 x0, .int .i64 x1, .string x2, .slice x3 x4 x5, .slice x6 x7 x8] 34 (0, 0)) := by rw [← hw1, ← hG]; exact heap_alloc_new w _
  have g0 : w1.cell? ⟨G, 0, none⟩ = some (.int .i64 kd) := by rw [cell_of_row w1 G 0 _ _ (0, 0) N1]; rfl
  have g1 : w1.cell? ⟨G, 1, none⟩ = some (.string key) := by rw [cell_of_row w1 G 1 _ _ (0, 0) N1]; rfl
  have CP := pick_any kd 9 w1 bk.1 bk.2 (by omega) (by omega)
  rw [hk] at CP
  have CPH := hide CP
  have D1 := h.later B1
  have C1 : Below w.heap.size w w1.drew := B1.drew
  have DD := h.more C1
  have hGK : w.heap.size ≤ G ∧ G < w1.drew.heap.size := ⟨by omega, (Array.getElem?_eq_some_iff.1 N1).1⟩
  have HGK : Hid (∀ (u : World) (X1 : Xs) (Bs1 : List Xs) (Y1 : Xs) (Cs1 : List Xs) (M : Nat), Duo w1.drew (fun j => K j ∨ (w.heap.size ≤ j ∧ j < w1.drew.heap.size)) u s X1 Bs1 r Y1 Cs1 M → u.cell? ⟨G, 1, none⟩ = some (.string key)) := hide (fun u X1 Bs1 Y1 Cs1 M d => by
    rw [cell_of_row u G 1 _ _ (0, 0) ((d.kept (j := G) (.inr hGK)).trans (show w1.drew.heap[G]? = _ from N1))]
    rfl)
  have HBK : Hid (∀ (u : World) (X1 : Xs) (Bs1 : List Xs) (M : Nat), Duo w1.drew (fun j => K j ∨ (w.heap.size ≤ j ∧ j < w1.drew.heap.size)) u s X1 Bs1 r X1 Bs1 M → Duo wk K u s X1 Bs1 r X1 Bs1 M) := hide (fun u X1 Bs1 M d => d.back (h.fr.then C1) (fun j hj => ⟨h.base j hj, .inl hj⟩))
  have DA := hide (duo_del DD key)
  have DB := hide (duo_rdel DD hN key)
  have HNN := hide hN
  obtain ⟨I, hI⟩ : ∃ I, (lookK X key).isSome = I := ⟨_, rfl⟩
  have HI := hide hI
  rw [hI] at DA DB
  have HS0 : Hid (w1.drew.cell? ⟨G, 1, none⟩ = some (.string key)) := hide (unhide HGK _ _ _ _ _ _ DD)
  clear h hv hP B1 N1 hk CP D1 hI DD C1 hGK hN
  go_enter Tryz.func8, Tryz.ntmps8
  go_wp2_with fail
  refine (unhide CPH).mono ?_
  rintro e u1 ⟨rfl, hu1⟩
  obtain rfl := hu1.symm
  clear hu1 CPH
  go_upto_region 17 with fail
  clear g0 g1
  go_region_held3 (fun w' => w'.cell? ⟨G, 1, none⟩ = some (.string key))
    (first | assumption | exact unhide HS0 | exact unhide HS5 | exact unhide HS6)
    (first | (go_at_call 22; refine (unhide DA).mono ?_; rintro e w5 ⟨rfl, d5⟩; have HS5 : Hid (w5.cell? ⟨G, 1, none⟩ = some (.string key)) := hide (unhide HGK _ _ _ _ _ _ d5); have DB2 := hide (duo_rdel d5 (unhide HNN) key); rw [unhide HI] at DB2; clear d5 DA DB) | (go_at_call 32; refine (unhide DB2).mono ?_; rintro e w6 ⟨rfl, d6⟩; have HS6 : Hid (w6.cell? ⟨G, 1, none⟩ = some (.string key)) := hide (unhide HGK _ _ _ _ _ _ d6); have H6 := hide d6; clear d6 DB2 HS5) | (go_at_call 32; refine (unhide DB).mono ?_; rintro e w5 ⟨rfl, d5⟩; have HS5 : Hid (w5.cell? ⟨G, 1, none⟩ = some (.string key)) := hide (unhide HGK _ _ _ _ _ _ d5); have DA2 := hide (duo_del d5 key); rw [unhide HI] at DA2; clear d5 DA DB) | (go_at_call 22; refine (unhide DA2).mono ?_; rintro e w6 ⟨rfl, d6⟩; have HS6 : Hid (w6.cell? ⟨G, 1, none⟩ = some (.string key)) := hide (unhide HGK _ _ _ _ _ _ d6); have H6 := hide d6; clear d6 DA2 HS5))
  all_goals
    go_wp2_with fail
    go_ret
    exact ⟨by simp, _, _, unhide HBK _ _ _ _ (unhide H6)⟩

end
end Go.Proofs.YtdaooapfokhfcaaGreat
