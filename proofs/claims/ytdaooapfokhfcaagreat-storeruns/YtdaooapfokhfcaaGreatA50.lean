/-
  The walk of held: Put, Get; conditions: the form's own reach.
-/
import Derived.Test.YtdaooapfokhfcaaGreatA48
import Derived.Test.YtdaooapfokhfcaaGreatA38
import Derived.Test.YtdaooapfokhfcaaGreatA49
namespace Go.Proofs.YtdaooapfokhfcaaGreat
open Go.RowKit
set_option linter.unusedVariables false
set_option linter.unusedSimpArgs false

theorem smB_refl (v : Vl) : smB v v = true := by
  unfold smB
  rw [(sameB_iff v v).2 rfl, Bool.or_true]

set_option maxRecDepth 100000 in
/-- what has too many parts is not written over -/
theorem over_no (v : Vl) (x : Value) (s : ByteArray) (w : World) (h : IsV w w.heap.size v x) (hF : fewB v = false) :
    Calls Tryz.prog 30 #[x, .string s] w fun e w' => e = .returned (.tuple #[]) ∧ Below w.heap.size w w' := by
  obtain ⟨k, n, t, l, ks, al, ak, cl, ck, hvv, hx⟩ := h.shape
  clear hvv
  obtain ⟨m, hm⟩ : ∃ m, ks.length = m := ⟨_, rfl⟩
  obtain ⟨ln, hln⟩ : ∃ ln, l.length = ln := ⟨_, rfl⟩
  rw [hm, hln] at hx
  subst hx
  obtain ⟨w1, hw1⟩ : ∃ w1, w.alloc (.cells #[.int .i64 k, .int .i64 n, .string t, .slice al ln cl, .slice ak m ck] 32) = w1 := ⟨_, rfl⟩
  have BX := Box.mk' w (.int .i64 k) (.int .i64 n) (.string t) (.slice al ln cl) (.slice ak m ck)
  rw [hw1] at BX
  obtain ⟨c0, c1, c2, c3, c4⟩ := row_cell BX.row
  have CF := few_any v _ w.heap.size w1 (h.mono BX.below) BX.below.size
  rw [hF] at CF
  have CFH := hide CF
  have H1 := hide BX.below
  clear BX CF h hm hln
  go_enter Tryz.func30, Tryz.ntmps30
  go_wp2_with fail
  refine (unhide CFH).mono ?_
  rintro e u ⟨rfl, b⟩
  have HB := hide ((unhide H1).trans (b.mono (unhide H1).size))
  clear b CFH
  go_wp2_with fail
  go_end0
  exact ⟨rfl, unhide HB⟩

section
variable {wk w w' : World} {K : Nat → Prop} {s r : Nat} {X X' Y Y' B : Xs} {Bs Bs' Cs Cs' : List Xs} {N N' : Nat}

/-- the cells of a box -/
def Five (u : World) (b : Nat) (c : ThV) : Prop := u.cell? ⟨b, 0, none⟩ = some (.int .i64 c.1) ∧ u.cell? ⟨b, 1, none⟩ = some (.int .i64 c.2.1) ∧ u.cell? ⟨b, 2, none⟩ = some (.string c.2.2.1) ∧ u.cell? ⟨b, 3, none⟩ = some (.slice c.2.2.2.1 c.2.2.2.2.1 c.2.2.2.2.2.1) ∧ u.cell? ⟨b, 4, none⟩ = some (.slice c.2.2.2.2.2.2.1 c.2.2.2.2.2.2.2.1 c.2.2.2.2.2.2.2.2)
theorem Five.of {u : World} {b : Nat} {c : ThV} (h : u.heap[b]? = some (.cells (thV c).toArray 32 (0, 0))) : Five u b c := row_cell h
def Six (u : World) (G : Nat) (key : ByteArray) (x : ThV) : Prop := u.cell? ⟨G, 1, none⟩ = some (.string key) ∧ u.cell? ⟨G, 2, none⟩ = some (.int .i64 x.1) ∧ u.cell? ⟨G, 3, none⟩ = some (.int .i64 x.2.1) ∧ u.cell? ⟨G, 4, none⟩ = some (.string x.2.2.1) ∧ u.cell? ⟨G, 5, none⟩ = some (.slice x.2.2.2.1 x.2.2.2.2.1 x.2.2.2.2.2.1) ∧ u.cell? ⟨G, 6, none⟩ = some (.slice x.2.2.2.2.2.2.1 x.2.2.2.2.2.2.2.1 x.2.2.2.2.2.2.2.2)
theorem Six.of {u : World} {G : Nat} {kd : Int} {key : ByteArray} {x : ThV} (h : u.heap[G]? = some (.cells (.int .i64 kd :: .string key :: thV x).toArray 34 (0, 0))) : Six u G key x :=
  ⟨by rw [cell_of_row u G 1 _ _ (0, 0) h]; rfl, by rw [cell_of_row u G 2 _ _ (0, 0) h]; rfl, by rw [cell_of_row u G 3 _ _ (0, 0) h]; rfl, by rw [cell_of_row u G 4 _ _ (0, 0) h]; rfl, by rw [cell_of_row u G 5 _ _ (0, 0) h]; rfl, by rw [cell_of_row u G 6 _ _ (0, 0) h]; rfl⟩

/-- what follows the copy -/
def PutChain (wk : World) (K : Nat → Prop) (s r N : Nat) (key : ByteArray) (G b7 : Nat) (x c : ThV) (w3 : World) : Prop :=
  ∃ E : Int, Six w3 G key x ∧ Five w3 b7 c ∧ Hid (Calls Tryz.prog 9 #[.pointer (some ⟨s, 0, none⟩), .string key, .agg (thV c).toArray] w3 fun e w4 => e = .returned (.int .i64 E) ∧ Six w4 G key x ∧ Five w4 b7 c ∧
    Hid (Calls Tryz.prog 29 #[.pointer (some ⟨r, 0, none⟩), .string key, .agg (thV x).toArray] w4 fun e w5 => e = .returned (.int .i64 E) ∧ Six w5 G key x ∧ Five w5 b7 c ∧
      Hid (Calls Tryz.prog 21 #[.agg (thV c).toArray, .agg (thV x).toArray] w5 fun e w6 => e = .returned (.bool true) ∧ Six w6 G key x ∧ Five w6 b7 c ∧
        Hid (Calls Tryz.prog 30 #[.agg (thV c).toArray, .string ⟨#[112]⟩] w6 fun e w7 => e = .returned (.tuple #[]) ∧ Hid (∃ X' Bs', Duo wk K w7 s X' Bs' r X' Bs' (N + 1))))))

theorem put_chain {P : Nat → Prop} (h : Duo wk K w s X Bs r X Bs N) (hN : N ≤ 1353245080318) {kd : Int} {key : ByteArray} {v : Vl} {x c : ThV} (hv : IsP w P v (.agg (thV x).toArray)) (hP : ∀ j, P j → K j) {G : Nat} {w1 w2 : World} (hG : w.heap.size = G) (B1 : Below w.heap.size w w1) (N1 : w1.heap[G]? = some (.cells (.int .i64 kd :: .string key :: thV x).toArray 34 (0, 0))) (b2 : Below w1.heap.size w1 w2) (f1 : fewB v = true → IsQ w2 (fun b => w1.heap.size ≤ b ∧ b < w2.heap.size) v (.agg (thV c).toArray)) (f2 : fewB v = false → (.agg (thV c).toArray : Value) = .agg (thV x).toArray) :
    PutChain wk K s r N key G w2.heap.size x c (w2.alloc (.cells (thV c).toArray 32)) := by
  obtain ⟨w3, hw3⟩ : ∃ w3, w2.alloc (.cells (thV c).toArray 32) = w3 := ⟨_, rfl⟩
  have b3 : Below w2.heap.size w2 w3 := by rw [← hw3]; exact (Below.refl _ _).alloc (Nat.le_refl _) _
  have n3 : w3.heap[w2.heap.size]? = some (.cells (thV c).toArray 32 (0, 0)) := by rw [← hw3]; exact heap_alloc_new w2 _
  rw [hw3]
  have lG : G < w1.heap.size := (Array.getElem?_eq_some_iff.1 N1).1
  have l3 : w2.heap.size < w3.heap.size := (Array.getElem?_eq_some_iff.1 n3).1
  have z1 := B1.size
  have z2 := b2.size
  have z3 := b3.size
  have g3 : w3.heap[G]? = some (.cells (.int .i64 kd :: .string key :: thV x).toArray 34 (0, 0)) := (b3.block G (by omega)).trans ((b2.block G lG).trans N1)
  have bw3 : Below w.heap.size w w3 := B1.trans ((b2.mono z1).trans (b3.mono (by omega)))
  have d3 := h.more bw3
  obtain ⟨K3, hK3⟩ : ∃ K3 : Nat → Prop, (fun j => K j ∨ (w.heap.size ≤ j ∧ j < w3.heap.size)) = K3 := ⟨_, rfl⟩
  rw [hK3] at d3
  have kG : K3 G := by rw [← hK3]; exact .inr ⟨by omega, by omega⟩
  have k7 : K3 w2.heap.size := by rw [← hK3]; exact .inr ⟨by omega, by omega⟩
  have kK : ∀ j, K j → K3 j := fun j hj => by rw [← hK3]; exact .inl hj
  have rows : ∀ {u : World} {X1 : Xs} {Bs1 : List Xs} {Y1 : Xs} {Cs1 : List Xs} {M : Nat}, Duo w3 K3 u s X1 Bs1 r Y1 Cs1 M → Six u G key x ∧ Five u w2.heap.size c := fun d => ⟨Six.of ((d.kept kG).trans g3), Five.of ((d.kept k7).trans n3)⟩
  have hx3 : IsP w3 P v (.agg (thV x).toArray) := hv.move (fun b hb => bw3.block b (h.inK (hP b hb)))
  have hxu : ∀ {u : World} {X1 : Xs} {Bs1 : List Xs} {Y1 : Xs} {Cs1 : List Xs} {M : Nat}, Duo w3 K3 u s X1 Bs1 r Y1 Cs1 M → IsP u P v (.agg (thV x).toArray) := fun d => hx3.move (fun b hb => d.kept (kK b (hP b hb)))
  have back : ∀ {wk' : World} {K' : Nat → Prop} {u : World} {X1 : Xs} {Bs1 : List Xs} {M : Nat}, Duo wk' K' u s X1 Bs1 r X1 Bs1 M → Fr (fun j => ¬ K j) wk wk' → (∀ j, K j → K' j) → Duo wk K u s X1 Bs1 r X1 Bs1 M := fun d hf hK => d.back hf (fun j hj => ⟨h.base j hj, hK j hj⟩)
  have key3 : ∃ Q : Nat → Prop, IsP w3 Q v (.agg (thV c).toArray) ∧ (∀ j, Q j → K3 j) ∧ (fewB v = true → IsQ w3 Q v (.agg (thV c).toArray) ∧ ∀ j, Q j → w.heap.size ≤ j) := by
    cases hf : fewB v with
    | true =>
      have q3 := (f1 hf).move (w' := w3) (fun b hb => b3.block b hb.2)
      exact ⟨_, q3.1, fun j hj => by rw [← hK3]; exact .inr ⟨by have := hj.1; omega, by have := hj.2; omega⟩, fun _ => ⟨q3, fun j hj => by have := hj.1; omega⟩⟩
    | false =>
      rw [f2 hf]
      exact ⟨P, hx3, fun j hj => kK j (hP j hj), fun e => by cases e⟩
  obtain ⟨Q, hQ1, hQ2, hQ3⟩ := key3
  have hcu : ∀ {u : World} {X1 : Xs} {Bs1 : List Xs} {Y1 : Xs} {Cs1 : List Xs} {M : Nat}, Duo w3 K3 u s X1 Bs1 r Y1 Cs1 M → IsP u Q v (.agg (thV c).toArray) := fun d => hQ1.move (fun b hb => d.kept (hQ2 b hb))
  refine ⟨putE X key v, (rows d3).1, (rows d3).2, hide ((duo_put d3 key v _ hQ1 hQ2).mono ?_)⟩
  rintro e w4 ⟨rfl, d4⟩
  refine ⟨rfl, (rows d4).1, (rows d4).2, hide ((duo_rput d4 hN key v _ (hxu d4) (fun j hj => kK j (hP j hj))).mono ?_)⟩
  rintro e w5 ⟨rfl, d5⟩
  refine ⟨rfl, (rows d5).1, (rows d5).2, hide ((same_any v v _ _ w5.heap.size w5 ((hcu d5).isV (fun j hj => d5.inK (hQ2 j hj))) ((hxu d5).isV (fun j hj => d5.inK (kK j (hP j hj)))) (Nat.le_refl _)).mono ?_)⟩
  rintro e w6 ⟨rfl, b6⟩
  have d6 := d5.later b6
  have hfr6 : Fr (fun j => ¬ K j) wk w6 := (h.fr.then bw3).trans d6.fr (fun j _ hn e => hn (kK j e))
  refine ⟨by rw [smB_refl], (rows d6).1, (rows d6).2, hide ?_⟩
  cases hf : fewB v with
  | true =>
    obtain ⟨q3, hlow⟩ := hQ3 hf
    refine (over_any v _ ⟨#[112]⟩ Q w6 (q3.move (fun b hb => d6.kept (hQ2 b hb))) (fun b hb => d6.inK (hQ2 b hb))).mono ?_
    rintro e w7 ⟨rfl, hw7⟩
    have hz := h.fr.size
    have hnK : ∀ j, Q j → ¬ K j := fun j hj e => by
      have h1 := h.base j e
      have h2 := hlow j hj
      omega
    refine ⟨rfl, hide ⟨_, _, back (d6.wipe hw7 hQ2) ?_ (fun j hj => ⟨kK j hj, fun e => hnK j e hj⟩)⟩⟩
    exact hfr6.trans (G' := Q) ⟨hw7.os, hw7.tape, hw7.output, hw7.size, fun j hj hn => hw7.far hj hn⟩ (fun j _ hj => hnK j hj)
  | false =>
    refine (over_no v _ ⟨#[112]⟩ w6 ((hcu d6).isV (fun j hj => d6.inK (hQ2 j hj))) hf).mono ?_
    rintro e w7 ⟨rfl, b7⟩
    exact ⟨rfl, hide ⟨_, _, back (d6.later b7) (h.fr.then bw3) kK⟩⟩

set_option maxRecDepth 100000 in
set_option maxHeartbeats 1600000 in
theorem held_put {P : Nat → Prop} (h : Duo wk K w s X Bs r X Bs N) (hN : N ≤ 1353245080318) (kd : Int) (key : ByteArray) (v : Vl) (x0 x1 : Int) (x2 : ByteArray) (x3 : Option Addr) (x4 x5 : Nat) (x6 : Option Addr) (x7 x8 : Nat) (bk : -9223372036854775808 ≤ kd ∧ kd ≤ 9223372036854775807) (hv : IsP w P v (.agg #[.int .i64 x0, .int .i64 x1, .string x2, .slice x3 x4 x5, .slice x6 x7 x8])) (hP : ∀ j, P j → K j) (hk : pickI kd 9 = 0) :
    Calls Tryz.prog 8 #[.pointer (some ⟨s, 0, none⟩), .pointer (some ⟨r, 0, none⟩), .agg #[.int .i64 kd, .string key, .int .i64 x0, .int .i64 x1, .string x2, .slice x3 x4 x5, .slice x6 x7 x8]] w fun e w' => HeldPost wk K s r N e w' := by
  obtain ⟨w1, hw1⟩ : ∃ w1, w.alloc (.cells #[.int .i64 kd, .string key, .int .i64 x0, .int .i64 x1, .string x2, .slice x3 x4 x5, .slice x6 x7 x8] 34) = w1 := ⟨_, rfl⟩
  obtain ⟨G, hG⟩ : ∃ G, w.heap.size = G := ⟨_, rfl⟩
  have B1 : Below w.heap.size w w1 := by rw [← hw1]; exact (Below.refl _ _).alloc (Nat.le_refl _) _
  have N1 : w1.heap[G]? = some (.cells #[.int .i64 kd, .string key, .int .i64 x0, .int .i64 x1, .string x2, .slice x3 x4 x5, .slice x6 x7 x8] 34 (0, 0)) := by rw [← hw1, ← hG]; exact heap_alloc_new w _
  have g0 : w1.cell? ⟨G, 0, none⟩ = some (.int .i64 kd) := by rw [cell_of_row w1 G 0 _ _ (0, 0) N1]; rfl
  have g1 : w1.cell? ⟨G, 1, none⟩ = some (.string key) := by rw [cell_of_row w1 G 1 _ _ (0, 0) N1]; rfl
  have CP := pick_any kd 9 w1 bk.1 bk.2 (by omega) (by omega)
  rw [hk] at CP
  have CPH := hide CP
  have D1 := h.later B1
  have CC : Hid (Calls Tryz.prog 28 #[.agg #[.int .i64 x0, .int .i64 x1, .string x2, .slice x3 x4 x5, .slice x6 x7 x8]] w1 fun e w' => ∃ y0 y1 y2 y3 y4 y5 y6 y7 y8, e = .returned (.agg #[.int .i64 y0, .int .i64 y1, .string y2, .slice y3 y4 y5, .slice y6 y7 y8]) ∧ Hid (PutChain wk K s r N key G w'.heap.size (x0, x1, x2, x3, x4, x5, x6, x7, x8) (y0, y1, y2, y3, y4, y5, y6, y7, y8) (w'.alloc (.cells #[.int .i64 y0, .int .i64 y1, .string y2, .slice y3 y4 y5, .slice y6 y7 y8] 32)))) := hide (by
    have hvv : IsV w1 w1.heap.size v (.agg #[.int .i64 x0, .int .i64 x1, .string x2, .slice x3 x4 x5, .slice x6 x7 x8]) := (hv.move (fun j hj => B1.block j (h.inK (hP j hj)))).isV (fun j hj => Nat.lt_of_lt_of_le (h.inK (hP j hj)) B1.size)
    refine (copied_two v _ _ w1 hvv (Nat.le_refl _)).mono ?_
    rintro e w' ⟨x', rfl, i1, b, f1, f2⟩
    obtain ⟨⟨y0, y1, y2, y3, y4, y5, y6, y7, y8⟩, rfl⟩ := isP_th i1
    exact ⟨_, _, _, _, _, _, _, _, _, rfl, hide (put_chain h hN (x := (x0, x1, x2, x3, x4, x5, x6, x7, x8)) hv hP hG B1 N1 b f1 f2)⟩)
  have S1 : Six w1 G key (x0, x1, x2, x3, x4, x5, x6, x7, x8) := Six.of N1
  obtain ⟨-, a2, a3, a4, a5, a6⟩ := S1
  dsimp only at a2 a3 a4 a5 a6
  clear h hv hP B1 N1 hk CP D1
  go_enter Tryz.func8, Tryz.ntmps8
  go_wp2_with fail
  refine (unhide CPH).mono ?_
  rintro e u1 ⟨rfl, hu1⟩
  obtain rfl := hu1.symm
  clear hu1 CPH
  go_wp2_with fail
  refine (unhide CC).mono ?_
  rintro e u2 ⟨y0, y1, y2, y3, y4, y5, y6, y7, y8, rfl, HCH⟩
  obtain ⟨b7, hb7⟩ : ∃ b7, u2.heap.size = b7 := ⟨_, rfl⟩
  rw [hb7] at HCH
  obtain ⟨w3, hw3⟩ : ∃ w3, u2.alloc (.cells #[.int .i64 y0, .int .i64 y1, .string y2, .slice y3 y4 y5, .slice y6 y7 y8] 32) = w3 := ⟨_, rfl⟩
  rw [hw3] at HCH
  clear a2 a3 a4 a5 a6 g0 g1 CC
  obtain ⟨E, ⟨a1, a2, a3, a4, a5, a6⟩, ⟨c0, c1, c2, c3, c4⟩, CA⟩ := unhide HCH
  clear HCH
  dsimp only [thV] at a1 a2 a3 a4 a5 a6 c0 c1 c2 c3 c4 CA
  go_wp2_with fail
  refine (unhide CA).mono ?_
  clear a1 a2 a3 a4 a5 a6 c0 c1 c2 c3 c4 hw3
  rintro e u4 ⟨rfl, ⟨a1, a2, a3, a4, a5, a6⟩, ⟨c0, c1, c2, c3, c4⟩, CB⟩
  clear CA
  dsimp only [thV] at a1 a2 a3 a4 a5 a6 c0 c1 c2 c3 c4 CB
  go_wp2_with fail
  refine (unhide CB).mono ?_
  clear a1 a2 a3 a4 a5 a6 c0 c1 c2 c3 c4
  rintro e u5 ⟨rfl, ⟨a1, a2, a3, a4, a5, a6⟩, ⟨c0, c1, c2, c3, c4⟩, CD⟩
  clear CB
  dsimp only [thV] at a1 a2 a3 a4 a5 a6 c0 c1 c2 c3 c4 CD
  go_wp2_with fail
  refine (unhide CD).mono ?_
  clear a1 a2 a3 a4 a5 a6 c0 c1 c2 c3 c4
  rintro e u6 ⟨rfl, ⟨a1, a2, a3, a4, a5, a6⟩, ⟨c0, c1, c2, c3, c4⟩, CE⟩
  clear CD
  dsimp only [thV] at a1 a2 a3 a4 a5 a6 c0 c1 c2 c3 c4 CE
  go_wp2_with fail
  refine (unhide CE).mono ?_
  clear a1 a2 a3 a4 a5 a6 c0 c1 c2 c3 c4
  rintro e u7 ⟨rfl, HQ⟩
  clear CE
  go_wp2_with fail
  go_ret
  exact ⟨by simp, unhide HQ⟩

/-- what follows the first Get -/
def GetChain (wk : World) (K : Nat → Prop) (s r N : Nat) (key : ByteArray) (G : Nat) (I : Bool) (x : ThV) (u2 : World) (c : ThV) : Prop :=
  ∃ w3, u2.alloc (.cells (thV c).toArray 32) = w3 ∧ Six w3 G key x ∧ Hid (Calls Tryz.prog 17 #[.pointer (some ⟨s, 0, none⟩), .string key] w3 fun e u4 => ∃ d : ThV, e = .returned (.tuple #[.agg (thV d).toArray, .bool I]) ∧ Hid (∃ w5, u4.alloc (.cells (thV d).toArray 32) = w5 ∧ Six w5 G key x ∧
    Hid (Calls Tryz.prog 31 #[.pointer (some ⟨r, 0, none⟩), .string key] w5 fun e u6 => ∃ f : ThV, e = .returned (.tuple #[.agg (thV f).toArray, .bool I]) ∧ Hid (∃ w7, u6.alloc (.cells (thV f).toArray 32) = w7 ∧ Five w7 u2.heap.size c ∧ Five w7 u6.heap.size f ∧
      Hid (Calls Tryz.prog 21 #[.agg (thV c).toArray, .agg (thV f).toArray] w7 fun e w8 => e = .returned (.bool true) ∧ Five w8 u2.heap.size c ∧
        Hid (Calls Tryz.prog 30 #[.agg (thV c).toArray, .string ⟨#[103]⟩] w8 fun e w9 => e = .returned (.tuple #[]) ∧ Five w9 u4.heap.size d ∧ Five w9 u6.heap.size f ∧
          Hid (Calls Tryz.prog 21 #[.agg (thV d).toArray, .agg (thV f).toArray] w9 fun e wA => e = .returned (.bool true) ∧ Hid (∃ X' Bs', Duo wk K wA s X' Bs' r X' Bs' (N + 1)))))))))

theorem get_chain (h : Duo wk K w s X Bs r X Bs N) {kd : Int} {key : ByteArray} {x c : ThV} {G : Nat} {w1 w2 : World} (hG : w.heap.size = G) (B1 : Below w.heap.size w w1) (N1 : w1.heap[G]? = some (.cells (.int .i64 kd :: .string key :: thV x).toArray 34 (0, 0))) (b2 : Below w1.heap.size w1 w2) (q2 : IsQ w2 (fun b => w1.heap.size ≤ b ∧ b < w2.heap.size) ((lookK X key).getD vz) (.agg (thV c).toArray)) :
    GetChain wk K s r N key G (lookK X key).isSome x w2 c := by
  obtain ⟨v, hv⟩ : ∃ v, (lookK X key).getD vz = v := ⟨_, rfl⟩
  rw [hv] at q2
  obtain ⟨w3, hw3⟩ : ∃ w3, w2.alloc (.cells (thV c).toArray 32) = w3 := ⟨_, rfl⟩
  have b3 : Below w2.heap.size w2 w3 := by rw [← hw3]; exact (Below.refl _ _).alloc (Nat.le_refl _) _
  have n3 : w3.heap[w2.heap.size]? = some (.cells (thV c).toArray 32 (0, 0)) := by rw [← hw3]; exact heap_alloc_new w2 _
  have l3 : w2.heap.size < w3.heap.size := (Array.getElem?_eq_some_iff.1 n3).1
  have lG : G < w1.heap.size := (Array.getElem?_eq_some_iff.1 N1).1
  have z1 := B1.size
  have z2 := b2.size
  have bw2 : Below w.heap.size w w2 := B1.trans (b2.mono z1)
  have bw3 : Below w.heap.size w w3 := bw2.trans (b3.mono bw2.size)
  have g3 : w3.heap[G]? = some (.cells (.int .i64 kd :: .string key :: thV x).toArray 34 (0, 0)) := (b3.block G (by omega)).trans ((b2.block G lG).trans N1)
  refine ⟨w3, hw3, Six.of g3, hide ((duo_get (h.later bw3) key).mono ?_)⟩
  rintro e w4 ⟨x4, rfl, b4, q4⟩
  rw [hv] at q4
  obtain ⟨d, rfl⟩ := isP_th q4.1
  obtain ⟨w5, hw5⟩ : ∃ w5, w4.alloc (.cells (thV d).toArray 32) = w5 := ⟨_, rfl⟩
  have b5 : Below w4.heap.size w4 w5 := by rw [← hw5]; exact (Below.refl _ _).alloc (Nat.le_refl _) _
  have n5 : w5.heap[w4.heap.size]? = some (.cells (thV d).toArray 32 (0, 0)) := by rw [← hw5]; exact heap_alloc_new w4 _
  have l5 : w4.heap.size < w5.heap.size := (Array.getElem?_eq_some_iff.1 n5).1
  have z4 := b4.size
  have bw4 : Below w.heap.size w w4 := bw3.trans (b4.mono bw3.size)
  have bw5 : Below w.heap.size w w5 := bw4.trans (b5.mono bw4.size)
  have g5 := (b5.block G (by omega)).trans ((b4.block G (by omega)).trans g3)
  refine ⟨d, rfl, hide ⟨w5, hw5, Six.of g5, hide ((duo_rget (h.later bw5) key).mono ?_)⟩⟩
  rintro e w6 ⟨x6, rfl, b6, p6⟩
  rw [hv] at p6
  obtain ⟨f, rfl⟩ := isP_th p6
  obtain ⟨w7, hw7⟩ : ∃ w7, w6.alloc (.cells (thV f).toArray 32) = w7 := ⟨_, rfl⟩
  have b7 : Below w6.heap.size w6 w7 := by rw [← hw7]; exact (Below.refl _ _).alloc (Nat.le_refl _) _
  have n7 : w7.heap[w6.heap.size]? = some (.cells (thV f).toArray 32 (0, 0)) := by rw [← hw7]; exact heap_alloc_new w6 _
  have l7 : w6.heap.size < w7.heap.size := (Array.getElem?_eq_some_iff.1 n7).1
  have z6 := b6.size
  have bw6 : Below w.heap.size w w6 := bw5.trans (b6.mono bw5.size)
  have bw7 : Below w.heap.size w w7 := bw6.trans (b7.mono bw6.size)
  have m3 : w7.heap[w2.heap.size]? = some (.cells (thV c).toArray 32 (0, 0)) := (b7.block _ (by omega)).trans ((b6.block _ (by omega)).trans ((b5.block _ (by omega)).trans ((b4.block _ l3).trans n3)))
  have m5 : w7.heap[w4.heap.size]? = some (.cells (thV d).toArray 32 (0, 0)) := (b7.block _ (by omega)).trans ((b6.block _ (by omega)).trans n5)
  have q27 : IsQ w7 (fun b => w1.heap.size ≤ b ∧ b < w2.heap.size) v (.agg (thV c).toArray) := q2.move (fun b hb => (b7.block b (by have := hb.2; omega)).trans ((b6.block b (by have := hb.2; omega)).trans ((b5.block b (by have := hb.2; omega)).trans ((b4.block b (by have := hb.2; omega)).trans (b3.block b hb.2)))))
  have q47 : IsP w7 (fun b => w3.heap.size ≤ b ∧ b < w4.heap.size) v (.agg (thV d).toArray) := q4.1.move (fun b hb => (b7.block b (by have := hb.2; omega)).trans ((b6.block b (by have := hb.2; omega)).trans (b5.block b hb.2)))
  have p67 : IsP w7 (fun b => w5.heap.size ≤ b ∧ b < w6.heap.size) v (.agg (thV f).toArray) := p6.move (fun b hb => b7.block b hb.2)
  refine ⟨f, rfl, hide ⟨w7, hw7, Five.of m3, Five.of n7, hide ((same_any v v _ _ w7.heap.size w7 (q27.isV (fun b hb => by have := hb.2; omega)) (p67.isV (fun b hb => by have := hb.2; omega)) (Nat.le_refl _)).mono ?_)⟩⟩
  rintro e w8 ⟨rfl, b8⟩
  have z8 := b8.size
  have bw8 : Below w.heap.size w w8 := bw7.trans (b8.mono bw7.size)
  refine ⟨by rw [smB_refl], Five.of ((b8.block _ (by omega)).trans m3), hide ((over_any v _ ⟨#[103]⟩ (fun b => w1.heap.size ≤ b ∧ b < w2.heap.size) w8 (q27.move (fun b hb => b8.block b (by have := hb.2; omega))) (fun b hb => by have := hb.2; omega)).mono ?_)⟩
  rintro e w9 ⟨rfl, hw9⟩
  have d9 := h.over bw8 hw9 (fun j hj => ⟨by have := hj.1; omega, by have := hj.2; omega⟩)
  have far : ∀ j, w2.heap.size ≤ j → j < w7.heap.size → w9.heap[j]? = w7.heap[j]? := fun j h1 h2 => (hw9.far (by omega) (fun e => by have := e.2; omega)).trans (b8.block j h2)
  have z9 := hw9.size
  refine ⟨rfl, Five.of ((far _ (by omega) (by omega)).trans m5), Five.of ((far _ (by omega) (by omega)).trans n7), hide ((same_any v v _ _ w9.heap.size w9 ((q47.move (fun b hb => far b (by have := hb.1; omega) (by have := hb.2; omega))).isV (fun b hb => by have := hb.2; omega)) ((p67.move (fun b hb => far b (by have := hb.1; omega) (by have := hb.2; omega))).isV (fun b hb => by have := hb.2; omega)) (Nat.le_refl _)).mono ?_)⟩
  rintro e wA ⟨rfl, bA⟩
  exact ⟨by rw [smB_refl], hide ⟨X, Bs, (d9.later bA).up⟩⟩

set_option maxRecDepth 100000 in
set_option maxHeartbeats 1600000 in
theorem held_get {P : Nat → Prop} (h : Duo wk K w s X Bs r X Bs N) (hN : N ≤ 1353245080318) (kd : Int) (key : ByteArray) (v : Vl) (x0 x1 : Int) (x2 : ByteArray) (x3 : Option Addr) (x4 x5 : Nat) (x6 : Option Addr) (x7 x8 : Nat) (bk : -9223372036854775808 ≤ kd ∧ kd ≤ 9223372036854775807) (hv : IsP w P v (.agg #[.int .i64 x0, .int .i64 x1, .string x2, .slice x3 x4 x5, .slice x6 x7 x8])) (hP : ∀ j, P j → K j) (hk : pickI kd 9 = 1) :
    Calls Tryz.prog 8 #[.pointer (some ⟨s, 0, none⟩), .pointer (some ⟨r, 0, none⟩), .agg #[.int .i64 kd, .string key, .int .i64 x0, .int .i64 x1, .string x2, .slice x3 x4 x5, .slice x6 x7 x8]] w fun e w' => HeldPost wk K s r N e w' := by
  obtain ⟨w1, hw1⟩ : ∃ w1, w.alloc (.cells #[.int .i64 kd, .string key, .int .i64 x0, .int .i64 x1, .string x2, .slice x3 x4 x5, .slice x6 x7 x8] 34) = w1 := ⟨_, rfl⟩
  obtain ⟨G, hG⟩ : ∃ G, w.heap.size = G := ⟨_, rfl⟩
  have B1 : Below w.heap.size w w1 := by rw [← hw1]; exact (Below.refl _ _).alloc (Nat.le_refl _) _
  have N1 : w1.heap[G]? = some (.cells #[.int .i64 kd, .string key, .int .i64 x0, .int .i64 x1, .string x2, .slice x3 x4 x5, .slice x6 x7 x8] 34 (0, 0)) := by rw [← hw1, ← hG]; exact heap_alloc_new w _
  have g0 : w1.cell? ⟨G, 0, none⟩ = some (.int .i64 kd) := by rw [cell_of_row w1 G 0 _ _ (0, 0) N1]; rfl
  have g1 : w1.cell? ⟨G, 1, none⟩ = some (.string key) := by rw [cell_of_row w1 G 1 _ _ (0, 0) N1]; rfl
  have CP := pick_any kd 9 w1 bk.1 bk.2 (by omega) (by omega)
  rw [hk] at CP
  have CPH := hide CP
  have D1 := h.later B1
  obtain ⟨I, hI⟩ : ∃ I, (lookK X key).isSome = I := ⟨_, rfl⟩
  have CC : Hid (Calls Tryz.prog 17 #[.pointer (some ⟨s, 0, none⟩), .string key] w1 fun e w' => ∃ y0 y1 y2 y3 y4 y5 y6 y7 y8, e = .returned (.tuple #[.agg #[.int .i64 y0, .int .i64 y1, .string y2, .slice y3 y4 y5, .slice y6 y7 y8], .bool I]) ∧ Hid (GetChain wk K s r N key G I (x0, x1, x2, x3, x4, x5, x6, x7, x8) w' (y0, y1, y2, y3, y4, y5, y6, y7, y8))) := hide (by
    have := duo_get D1 key
    rw [hI] at this
    refine this.mono ?_
    rintro e w' ⟨x', rfl, b, q⟩
    obtain ⟨⟨y0, y1, y2, y3, y4, y5, y6, y7, y8⟩, rfl⟩ := isP_th q.1
    have hc := get_chain h (x := (x0, x1, x2, x3, x4, x5, x6, x7, x8)) hG B1 N1 b q
    rw [hI] at hc
    exact ⟨_, _, _, _, _, _, _, _, _, rfl, hide hc⟩)
  clear h hv hP B1 N1 hk CP D1 hI
  go_enter Tryz.func8, Tryz.ntmps8
  go_wp2_with fail
  refine (unhide CPH).mono ?_
  rintro e u1 ⟨rfl, hu1⟩
  obtain rfl := hu1.symm
  clear hu1 CPH
  go_wp2_with fail
  refine (unhide CC).mono ?_
  rintro e u2 ⟨y0, y1, y2, y3, y4, y5, y6, y7, y8, rfl, HCH⟩
  obtain ⟨w3, hw3, ⟨a1, -⟩, CA⟩ := unhide HCH
  clear HCH CC g0 g1
  obtain ⟨p2, hp2⟩ : ∃ p2, u2.heap.size = p2 := ⟨_, rfl⟩
  rw [hp2] at CA
  dsimp only [thV] at hw3 CA
  go_wp2_with fail
  refine (unhide CA).mono ?_
  clear a1 hw3 hp2 CA
  rintro e u4 ⟨⟨d0, d1, d2, d3, d4, d5, d6, d7, d8⟩, rfl, HCH⟩
  obtain ⟨w5, hw5, ⟨a1, -⟩, CB⟩ := unhide HCH
  clear HCH
  obtain ⟨p4, hp4⟩ : ∃ p4, u4.heap.size = p4 := ⟨_, rfl⟩
  rw [hp4] at CB
  dsimp only [thV] at hw5 CB ⊢
  go_wp2_with fail
  refine (unhide CB).mono ?_
  clear a1 hw5 hp4 CB
  rintro e u6 ⟨⟨f0, f1, f2, f3, f4, f5, f6, f7, f8⟩, rfl, HCH⟩
  obtain ⟨w7, hw7, ⟨a0, a1, a2, a3, a4⟩, ⟨b0, b1, b2, b3, b4⟩, CD⟩ := unhide HCH
  clear HCH
  obtain ⟨p6, hp6⟩ : ∃ p6, u6.heap.size = p6 := ⟨_, rfl⟩
  rw [hp6] at CD b0 b1 b2 b3 b4
  dsimp only [thV] at hw7 CD a0 a1 a2 a3 a4 b0 b1 b2 b3 b4 ⊢
  go_wp2_with fail
  refine (unhide CD).mono ?_
  clear a0 a1 a2 a3 a4 b0 b1 b2 b3 b4 hw7 hp6 CD
  rintro e u8 ⟨rfl, ⟨a0, a1, a2, a3, a4⟩, CE⟩
  dsimp only [thV] at CE a0 a1 a2 a3 a4
  go_wp2_with fail
  refine (unhide CE).mono ?_
  clear a0 a1 a2 a3 a4 CE
  rintro e u9 ⟨rfl, ⟨a0, a1, a2, a3, a4⟩, ⟨b0, b1, b2, b3, b4⟩, CF⟩
  dsimp only [thV] at CF a0 a1 a2 a3 a4 b0 b1 b2 b3 b4
  go_wp2_with fail
  refine (unhide CF).mono ?_
  clear a0 a1 a2 a3 a4 b0 b1 b2 b3 b4 CF
  rintro e uA ⟨rfl, HQ⟩
  go_wp2_with fail
  go_ret
  exact ⟨by simp, unhide HQ⟩

end
end Go.Proofs.YtdaooapfokhfcaaGreat
