/-
  Layer 17 (parse): the walk of ParseWithin where both are read, and whatever the text; conditions: what the variables of strconv hold; the text's length.
  Layer 17 (parse): an expression is one node; plain lists, no conditions.
  Layer 17 (parse): the walk of ParseWithin, whatever the text; conditions: what the variables of strconv hold; the text's length.
  What the listed package variables of the seat give the walks of lex; a world that has them; no conditions.
-/
import Derived.Test.YtgalfhlclmkbfaaGreatDoorC49
import Derived.Test.YtgalfhlclmkbfaaGreatDoorC01
import Derived.Test.YtgalfhlclmkbfaaGreatDoorC05
import Derived.Test.YtgalfhlclmkbfaaGreatDoorRows
import Derived.ProofKit
import Derived.LaidMore
import Derived.OpenShut
import Derived.Stop.Joined
import Derived.Stop.LaidErr
import Derived.Lib.LaidTab
set_option linter.unusedVariables false
set_option linter.unusedSimpArgs false
namespace Go.Proofs.YtgalfhlclmkbfaaGreatDoor
open Go.RowKit
set_option linter.unusedVariables false
set_option linter.unusedSimpArgs false

set_option maxRecDepth 100000 in
set_option maxHeartbeats 4000000 in
theorem within_d (s : ByteArray) (w : World) (he : Ev w) (hw6 : 5 < w.heap.size) (z0 : s.size ≤ 140737488351232) {k : Nat} {t : List UInt8} {vk vn : Nat} {vs : List UInt8} {f : Bool} {ks : List Nd} {p : Nat} {k2 : Nat} {t2 : List UInt8} {vk2 vn2 : Nat} {vs2 : List UInt8} {f2 : Bool} {ks2 : List Nd} {p2 : Nat} {l1 : List Tk} {qe : Nat} (hr : PgOf 0 s.data.toList (.ok ([⟨k, t, vk, vn, vs, f, ks, p⟩], l1))) (hk : (hdT l1).k = 0) (hr2 : PgOf 27 (wA ++ s ++ wZ).data.toList (.ok ([wrN [⟨k2, t2, vk2, vn2, vs2, f2, ks2, p2⟩]], [endT qe]))) (hnp : npL [⟨k, t, vk, vn, vs, f, ks, p⟩] = npL [⟨k2, t2, vk2, vn2, vs2, f2, ks2, p2⟩]) :
    Calls Tryz.prog 5 #[.string s] w fun e w' => e = .returned (.bool true) ∧ Below w.heap.size w w' := by
  have CS := hide (shown_any w he hw6)
  have CW := hide (fun u => wrapped_any s u z0)
  obtain ⟨n, hn⟩ : ∃ n, ks.length = n := ⟨_, rfl⟩
  obtain ⟨n2, hn2⟩ : ∃ n, ks2.length = n := ⟨_, rfl⟩
  have CE : Hid (∀ u, Below w.heap.size w u → Calls Tryz.prog 12 #[.string s] u fun e w' => ∃ (ak : Option Addr) (ck : Nat) (S : List Nat), e = .returned (.tuple #[.agg #[.int .i64 (k : Int), .string (bA t), .int .i64 (vk : Int), .int .i64 (vn : Int), .string (bA vs), .slice none 0 0, .slice none 0 0, .bool f, .slice ak n ck, .int .i64 (p : Int)], .int .i64 0, .int .i64 0]) ∧ Hid (NdS w' [⟨k, t, vk, vn, vs, f, ks, p⟩] (cN ⟨k, t, vk, vn, vs, f, ks, p⟩ ak ck) S) ∧ Below u.heap.size u w') := hide (fun u hu => (expr_any s u (he.below hu hw6) (Nat.lt_of_lt_of_le hw6 hu.size) hr).mono (fun e w' h => by
    obtain ⟨ak, ck, S, e1, h2⟩ := TrR.yes hk h.1
    rw [hn] at e1
    exact ⟨ak, ck, S, e1, hide h2.s, h.2⟩))
  have CP : Hid (∀ u, Below w.heap.size w u → Calls Tryz.prog 8 #[.string (wA ++ s ++ wZ)] u fun e w' => ∃ (mak : Option Addr) (mck : Nat) (MS : List Nat), e = .returned (.tuple #[.agg #[.int .i64 1, .string (bA []), .int .i64 0, .int .i64 0, .string (bA []), .slice none 0 0, .slice none 0 0, .bool false, .slice mak 1 mck, .int .i64 0], .int .i64 0, .int .i64 0]) ∧ Hid (NdS w' [wrN [⟨k2, t2, vk2, vn2, vs2, f2, ks2, p2⟩]] (cN (wrN [⟨k2, t2, vk2, vn2, vs2, f2, ks2, p2⟩]) mak mck) MS) ∧ Below u.heap.size u w') := hide (fun u hu => (program_any _ u (he.below hu hw6) (Nat.lt_of_lt_of_le hw6 hu.size) hr2).mono (fun e w' h => by
    obtain ⟨ak, ck, S, e1, h2⟩ := TrR.yes rfl h.1
    exact ⟨ak, ck, S, e1, hide h2.s, h.2⟩))
  have HN := hide (And.intro hn (And.intro hn2 hnp))
  clear he hw6 hr hr2 hk hn hn2 hnp
  go_enter Tryz.func5, Tryz.ntmps5
  go_wp2_with fail
  refine (unhide CS).mono ?_
  rintro e u1 ⟨rfl, b1⟩
  have B1 := hide b1
  clear b1 CS
  go_wp2_with fail
  refine ((unhide CE) u1 (unhide B1)).mono ?_
  rintro e u2 ⟨ak, ck, S, rfl, HS, b2⟩
  have B2 : Hid (Below w.heap.size w u2) := hide ((unhide B1).trans (b2.mono (unhide B1).size))
  clear b2 CE
  obtain ⟨Au3, Gu3⟩ := bx u2 #[.int .i64 (k : Int), .string (bA t), .int .i64 (vk : Int), .int .i64 (vn : Int), .string (bA vs), .slice none 0 0, .slice none 0 0, .bool f, .slice ak n ck, .int .i64 (p : Int)] 29
  obtain ⟨u3, hu3⟩ : ∃ u3, u2.alloc (.cells #[.int .i64 (k : Int), .string (bA t), .int .i64 (vk : Int), .int .i64 (vn : Int), .string (bA vs), .slice none 0 0, .slice none 0 0, .bool f, .slice ak n ck, .int .i64 (p : Int)] 29) = u3 := ⟨_, rfl⟩
  rw [hu3] at Au3 Gu3
  have B3 : Hid (Below w.heap.size w u3) := hide ((unhide B2).trans (Gu3.mono (unhide B2).size))
  have Wu3 := hide hu3
  have Xu3 := hide (And.intro Au3 Gu3)
  have S3 := hide ((unhide HS).later Gu3)
  clear Au3 Gu3 hu3
  go_upto_region 3 with fail
  rw [unhide Wu3]
  clear Wu3
  go_wp2_with fail
  refine ((unhide CW) _).mono ?_
  rintro e ux ⟨rfl, hux⟩
  obtain rfl := hux.symm
  go_wp2_with fail
  refine ((unhide CP) _ (unhide B3)).mono ?_
  rintro e u4 ⟨mak, mck, MS, rfl, HM, b4⟩
  have B34 := hide b4
  have S4 := hide ((unhide S3).later b4)
  have B4 : Hid (Below w.heap.size w u4) := hide ((unhide B3).trans (b4.mono (unhide B3).size))
  clear b4 CP
  obtain ⟨Au5, Gu5⟩ := bx u4 #[.int .i64 1, .string (bA []), .int .i64 0, .int .i64 0, .string (bA []), .slice none 0 0, .slice none 0 0, .bool false, .slice mak 1 mck, .int .i64 0] 29
  obtain ⟨u5, hu5⟩ : ∃ u5, u4.alloc (.cells #[.int .i64 1, .string (bA []), .int .i64 0, .int .i64 0, .string (bA []), .slice none 0 0, .slice none 0 0, .bool false, .slice mak 1 mck, .int .i64 0] 29) = u5 := ⟨_, rfl⟩
  rw [hu5] at Au5 Gu5
  have B5 : Hid (Below w.heap.size w u5) := hide ((unhide B4).trans (Gu5.mono (unhide B4).size))
  have Wu5 := hide hu5
  have Xu5 := hide (And.intro Au5 Gu5)
  have S5 := hide ((unhide S4).later Gu5)
  have M5 := hide ((unhide HM).later Gu5)
  clear Au5 Gu5 hu5
  go_upto_region 4 with fail
  rw [unhide Wu5]
  clear Wu5
  have hc3 : u5.heap[u2.heap.size]? = u3.heap[u2.heap.size]? := by
    have h1 : u2.heap.size < u3.heap.size := (Array.getElem?_eq_some_iff.1 (unhide Xu3).1).1
    have h2 := (unhide B34).size
    rw [(unhide Xu5).2.block _ (by omega), (unhide B34).block _ h1]
  have N3 := hc3.trans (unhide Xu3).1
  obtain ⟨x0, x1, x2, x3, x4, x5, x6, x7, x8, x9⟩ := row_cell10 N3
  obtain ⟨y0, y1, y2, y3, y4, y5, y6, y7, y8, y9⟩ := row_cell10 (unhide Xu5).1
  obtain ⟨g3, hg3⟩ : ∃ g, u2.heap.size = g := ⟨_, rfl⟩
  obtain ⟨g5, hg5⟩ : ∃ g, u4.heap.size = g := ⟨_, rfl⟩
  rw [hg3] at x0 x1 x2 x3 x4 x5 x6 x7 x8 x9 ⊢
  rw [hg5] at y0 y1 y2 y3 y4 y5 y6 y7 y8 y9 ⊢
  clear hc3 N3 hg3 hg5
  obtain ⟨b1, a1, c1, S1, rfl, _, hc1, hm1, d1, z1, _⟩ := nd_kid (unhide M5) 0 _ rfl
  obtain ⟨b2, a2, c2, S2, rfl, _, hc2, hm2, d2, z2, _⟩ := nd_kid d1 0 _ rfl
  obtain ⟨b3, a3, c3, S30, rfl, _, hc3, hm3, d3, z3, _⟩ := nd_kid d2 0 _ rfl
  obtain ⟨b4, a4, c4, S40, rfl, _, hc4, hm4, d4, z4, _⟩ := nd_kid d3 0 _ rfl
  obtain ⟨hn, hn2, hnp⟩ := unhide HN
  have CM : Hid (∀ u, Below u5.heap.size u5 u → Calls Tryz.prog 10 #[.agg #[.int .i64 (k : Int), .string (bA t), .int .i64 (vk : Int), .int .i64 (vn : Int), .string (bA vs), .slice none 0 0, .slice none 0 0, .bool f, .slice ak n ck, .int .i64 (p : Int)], .agg #[.int .i64 (k2 : Int), .string (bA t2), .int .i64 (vk2 : Int), .int .i64 (vn2 : Int), .string (bA vs2), .slice none 0 0, .slice none 0 0, .bool f2, .slice a4 n2 c4, .int .i64 (p2 : Int)], .bool false] u fun e w' => e = .returned (.bool true) ∧ Below u.heap.size u w') := hide (fun u hu => by
    have h := same_any _ ⟨k, t, vk, vn, vs, f, ks, p⟩ ⟨k2, t2, vk2, vn2, vs2, f2, ks2, p2⟩ false ak a4 ck c4 S S40 u (Nat.le_refl _) ((unhide S5).later hu) (d4.later hu) ⟨hnp, fun e => by cases e⟩
    simp only [cN, ndC, hn, hn2] at h
    exact h)
  replace z1 : u5.cell? ⟨b1, 8, none⟩ = some (.slice (some ⟨b2, 0, none⟩) 1 c1) := z1 8 _ rfl
  replace z2 : u5.cell? ⟨b2, 8, none⟩ = some (.slice (some ⟨b3, 0, none⟩) 1 c2) := z2 8 _ rfl
  replace z3 : u5.cell? ⟨b3, 8, none⟩ = some (.slice (some ⟨b4, 0, none⟩) 1 c3) := z3 8 _ rfl
  simp only [cN, ndC, hn2] at z4
  have q0 : u5.cell? ⟨b4, 0, none⟩ = some (.int .i64 (k2 : Int)) := z4 0 _ rfl
  have q1 : u5.cell? ⟨b4, 1, none⟩ = some (.string (bA t2)) := z4 1 _ rfl
  have q2 : u5.cell? ⟨b4, 2, none⟩ = some (.int .i64 (vk2 : Int)) := z4 2 _ rfl
  have q3 : u5.cell? ⟨b4, 3, none⟩ = some (.int .i64 (vn2 : Int)) := z4 3 _ rfl
  have q4 : u5.cell? ⟨b4, 4, none⟩ = some (.string (bA vs2)) := z4 4 _ rfl
  have q5 : u5.cell? ⟨b4, 5, none⟩ = some (.slice none 0 0) := z4 5 _ rfl
  have q6 : u5.cell? ⟨b4, 6, none⟩ = some (.slice none 0 0) := z4 6 _ rfl
  have q7 : u5.cell? ⟨b4, 7, none⟩ = some (.bool f2) := z4 7 _ rfl
  have q8 : u5.cell? ⟨b4, 8, none⟩ = some (.slice a4 n2 c4) := z4 8 _ rfl
  have q9 : u5.cell? ⟨b4, 9, none⟩ = some (.int .i64 (p2 : Int)) := z4 9 _ rfl
  have i1 : (1 : Int) ≤ (mck : Int) := by
    have h : 1 ≤ mck := hc1
    omega
  clear d1 d2 d3 d4 z4 hn hn2 hnp hm1 hm2 hm3 hm4 HN S5 M5
  go_upto_region 8 with fail
  have CM1 := hide ((unhide CM) u5.drew (Below.refl _ _).drew)
  clear CM
  go_region_held3 (fun w' => w'.cell? ⟨g3, 0, none⟩ = some (.int .i64 (k : Int)) ∧ w'.cell? ⟨g3, 1, none⟩ = some (.string (bA t)) ∧ w'.cell? ⟨g3, 2, none⟩ = some (.int .i64 (vk : Int)) ∧ w'.cell? ⟨g3, 3, none⟩ = some (.int .i64 (vn : Int)) ∧ w'.cell? ⟨g3, 4, none⟩ = some (.string (bA vs)) ∧ w'.cell? ⟨g3, 5, none⟩ = some (.slice none 0 0) ∧ w'.cell? ⟨g3, 6, none⟩ = some (.slice none 0 0) ∧ w'.cell? ⟨g3, 7, none⟩ = some (.bool f) ∧ w'.cell? ⟨g3, 8, none⟩ = some (.slice ak n ck) ∧ w'.cell? ⟨g3, 9, none⟩ = some (.int .i64 (p : Int)) ∧ w'.cell? ⟨g5, 8, none⟩ = some (.slice (some ⟨b1, 0, none⟩) 1 mck) ∧ w'.cell? ⟨b1, 8, none⟩ = some (.slice (some ⟨b2, 0, none⟩) 1 c1) ∧ w'.cell? ⟨b2, 8, none⟩ = some (.slice (some ⟨b3, 0, none⟩) 1 c2) ∧ w'.cell? ⟨b3, 8, none⟩ = some (.slice (some ⟨b4, 0, none⟩) 1 c3) ∧ w'.cell? ⟨b4, 0, none⟩ = some (.int .i64 (k2 : Int)) ∧ w'.cell? ⟨b4, 1, none⟩ = some (.string (bA t2)) ∧ w'.cell? ⟨b4, 2, none⟩ = some (.int .i64 (vk2 : Int)) ∧ w'.cell? ⟨b4, 3, none⟩ = some (.int .i64 (vn2 : Int)) ∧ w'.cell? ⟨b4, 4, none⟩ = some (.string (bA vs2)) ∧ w'.cell? ⟨b4, 5, none⟩ = some (.slice none 0 0) ∧ w'.cell? ⟨b4, 6, none⟩ = some (.slice none 0 0) ∧ w'.cell? ⟨b4, 7, none⟩ = some (.bool f2) ∧ w'.cell? ⟨b4, 8, none⟩ = some (.slice a4 n2 c4) ∧ w'.cell? ⟨b4, 9, none⟩ = some (.int .i64 (p2 : Int)))
    (first | go_keep | (have hb6 := below_drew_of' b9; exact ⟨cell_latr hb6 x0, cell_latr hb6 x1, cell_latr hb6 x2, cell_latr hb6 x3, cell_latr hb6 x4, cell_latr hb6 x5, cell_latr hb6 x6, cell_latr hb6 x7, cell_latr hb6 x8, cell_latr hb6 x9, cell_latr hb6 y8, cell_latr hb6 z1, cell_latr hb6 z2, cell_latr hb6 z3, cell_latr hb6 q0, cell_latr hb6 q1, cell_latr hb6 q2, cell_latr hb6 q3, cell_latr hb6 q4, cell_latr hb6 q5, cell_latr hb6 q6, cell_latr hb6 q7, cell_latr hb6 q8, cell_latr hb6 q9⟩))
    (first | (go_at_call 10; refine (unhide CM1).mono ?_; rintro e w9 ⟨rfl, b9⟩))
  have BF : Hid (Below w.heap.size w w9) := hide ((unhide B5).trans ((below_drew_of' b9).mono (unhide B5).size))
  clear b9 CM1
  go_wp2_with fail
  go_ret
  exact ⟨rfl, unhide BF⟩
end Go.Proofs.YtgalfhlclmkbfaaGreatDoor

namespace Go.Proofs.YtgalfhlclmkbfaaGreatDoor
set_option linter.unusedVariables false
set_option linter.unusedSimpArgs false

def L1 (o : Option (Rs (List Nd))) : Prop := ∀ ns l, o = some (.ok (ns, l)) → ns.length = 1
theorem l1_none : L1 none := fun c p h => by cases h
theorem l1_ok {n : List Nd} (hn : n.length = 1) (l : List Tk) : L1 (okN n l) := fun c p h => by cases h; exact hn
theorem l1_err (e : Nat × Nat) : L1 (some (.error e)) := fun c q h => by cases h
theorem l1_thn {y : Rs Tk} {k : Tk → List Tk → Option (Rs (List Nd))} (hk : ∀ a l, L1 (k a l)) : L1 (thn y k) := by
  cases y with
  | error e => exact l1_err e
  | ok x => exact hk x.1 x.2
theorem l1_any {o : Option (Rs (List Nd))} {k : List Nd → List Tk → Option (Rs (List Nd))} (hk : ∀ a l, L1 (k a l)) : L1 (bnd o k) := by
  cases o with
  | none => exact l1_none
  | some y =>
    cases y with
    | error e => exact l1_err e
    | ok x => exact hk x.1 x.2
theorem l1_bnd {o : Option (Rs (List Nd))} {k : List Nd → List Tk → Option (Rs (List Nd))} (h : L1 o) (hk : ∀ a l, a.length = 1 → L1 (k a l)) : L1 (bnd o k) := by
  cases o with
  | none => exact l1_none
  | some y =>
    cases y with
    | error e => exact l1_err e
    | ok x => exact hk x.1 x.2 (h _ _ rfl)
theorem l1_ite {p : Prop} [Decidable p] {a b : Option (Rs (List Nd))} (h1 : L1 a) (h2 : L1 b) : L1 (if p then a else b) := by split <;> assumption
def jbF (j : Nat) : Bool := j == 0 || j == 1 || j == 2 || j == 3 || j == 4 || j == 5 || j == 21 || j == 22 || j == 23 || j == 24
theorem one_e : ∀ (f j x : Nat) (acc : List Nd) (l : List Tk) (d : Nat), jbF j = true → (j = 3 ∨ j = 4 → acc.length = 1) → L1 (PJ f j x acc l d)
  | 0, _, _, _, _, _, _, _ => l1_none
  | f + 1, j, x, acc, l, d, hj, ha => by
    have ih := one_e f
    have i0 : ∀ x l d, L1 (PJ f 0 x [] l d) := fun x l d => ih 0 x [] l d rfl (by decide)
    have i1 : ∀ x l d, L1 (PJ f 1 x [] l d) := fun x l d => ih 1 x [] l d rfl (by decide)
    have i2 : ∀ x l d, L1 (PJ f 2 x [] l d) := fun x l d => ih 2 x [] l d rfl (by decide)
    have i3 : ∀ x acc l d, acc.length = 1 → L1 (PJ f 3 x acc l d) := fun x acc l d h => ih 3 x acc l d rfl (fun _ => h)
    have i4 : ∀ x acc l d, acc.length = 1 → L1 (PJ f 4 x acc l d) := fun x acc l d h => ih 4 x acc l d rfl (fun _ => h)
    have i5 : ∀ x l d, L1 (PJ f 5 x [] l d) := fun x l d => ih 5 x [] l d rfl (by decide)
    have i21 : ∀ x l d, L1 (PJ f 21 x [] l d) := fun x l d => ih 21 x [] l d rfl (by decide)
    have i22 : ∀ x l d, L1 (PJ f 22 x [] l d) := fun x l d => ih 22 x [] l d rfl (by decide)
    have i23 : ∀ x l d, L1 (PJ f 23 x [] l d) := fun x l d => ih 23 x [] l d rfl (by decide)
    have i24 : ∀ x l d, L1 (PJ f 24 x [] l d) := fun x l d => ih 24 x [] l d rfl (by decide)
    have hc : j = 0 ∨ j = 1 ∨ j = 2 ∨ j = 3 ∨ j = 4 ∨ j = 5 ∨ j = 21 ∨ j = 22 ∨ j = 23 ∨ j = 24 := by
      unfold jbF at hj
      simp only [Bool.or_eq_true, beq_iff_eq] at hj
      omega
    rcases hc with rfl | rfl | rfl | rfl | rfl | rfl | rfl | rfl | rfl | rfl
    · exact i2 1 l d
    · show L1 (jUnary (PJ f) l d)
      exact l1_ite (l1_thn (fun t l1 => l1_any (fun ns l2 => l1_ok rfl l2))) (i24 0 l d)
    · show L1 (jBinary (PJ f) x l d)
      exact l1_ite (i1 0 l d) (l1_bnd (i2 (x + 1) l d) (fun ns l1 h => i3 x ns l1 d h))
    · show L1 (jBinL (PJ f) x acc l d)
      exact l1_ite (l1_any (fun ns l1 => l1_ite (l1_ok rfl l1) (i3 x _ l1 d rfl))) (l1_ok (ha (.inl rfl)) l)
    · show L1 (jReL (PJ f) acc l d)
      exact l1_ite (l1_thn (fun t l1 => l1_any (fun ns l2 => l1_thn (fun _ l3 => i4 0 _ l3 d rfl)))) (l1_ite (l1_thn (fun t l2 => i4 0 _ l2 d rfl)) (l1_ok (ha (.inr rfl)) l))
    · show L1 (jOperand (PJ f) l d)
      have hl : ∀ vk vn vs, L1 (litN vk vn vs l) := fun vk vn vs => l1_ok rfl _
      exact l1_ite (i21 0 l d) (l1_ite (hl _ _ _) (l1_ite (hl _ _ _) (l1_ite (hl _ _ _) (l1_ite (hl _ _ _) (l1_ite (hl _ _ _) (l1_ite (i22 2 l d) (l1_ite (i22 3 l d) (i23 0 l d))))))))
    · show L1 (jName (PJ f) l d)
      exact l1_thn (fun t l1 => l1_ite (l1_bnd (i22 1 l1 d) (fun ns l2 h => l1_ok (by rw [List.length_map]; exact h) l2)) (l1_ok rfl l1))
    · show L1 (jWithin (PJ f) x l d)
      exact l1_thn (fun t l1 => l1_any (fun ns l2 => l1_thn (fun _ l3 => l1_ok rfl l3)))
    · show L1 (jGroup (PJ f) l d)
      exact l1_thn (fun t l1 => l1_bnd (i0 0 l1 (d + 1)) (fun ns l2 h => l1_thn (fun _ l3 => l1_ok h l3)))
    · show L1 (jReached (PJ f) l d)
      exact l1_bnd (i5 0 l d) (fun ns l1 h => i4 0 ns l1 d h)
end Go.Proofs.YtgalfhlclmkbfaaGreatDoor

namespace Go.Proofs.YtgalfhlclmkbfaaGreatDoor
open Go.RowKit
set_option linter.unusedVariables false
set_option linter.unusedSimpArgs false

theorem er_zero {j : Nat} {s : List UInt8} {r : Rs (List Nd)} (h : PgOf j s r) {E P : Nat} (hx : erOf r = (E, P)) (hE : E = 0) : erOf r = (0, 0) ∧ ∃ ns l, r = .ok (ns, l) ∧ (hdT l).k = 0 := by
  match r, h, hx with
  | .error (a, q), h, hx =>
    exfalso
    cases hx
    exact er_ne h rfl hE
  | .ok (ns, l), h, hx =>
    unfold erOf at hx
    by_cases hk : (hdT l).k = 0
    · exact ⟨by unfold erOf; simp only [hk, if_true], ns, l, rfl, hk⟩
    · exfalso
      simp only [hk, if_false] at hx
      cases hx
      cases hE

theorem within_walk (s : ByteArray) (w : World) (he : Ev w) (hw6 : 5 < w.heap.size) (z0 : s.size ≤ 140737488351232) :
    Calls Tryz.prog 5 #[.string s] w fun e w' => e = .returned (.bool true) ∧ Below w.heap.size w w' := by
  obtain ⟨r, hr⟩ := PgOf.tot 0 (by decide) s.data.toList
  obtain ⟨⟨E, P⟩, hx⟩ : ∃ x, erOf r = x := ⟨_, rfl⟩
  by_cases hE : E = 0
  · obtain ⟨hx0, ns, l, hrr, hk⟩ := er_zero hr hx hE
    subst hrr
    rcases hr with ⟨p, er, _, e⟩ | ⟨ts, f, h1, h2⟩
    · cases e
    · have hpg : PgOf 0 s.data.toList (.ok (ns, l)) := .inr ⟨ts, f, h1, h2⟩
      by_cases hl : (wrA ++ (s.data.toList ++ wrZ)).length ≤ 8192
      · obtain ⟨ts', hw, hc⟩ := wr_both h1 h2 hk hl
        rw [← wr_list] at hw
        rcases hc with ⟨c, p, h3, hc0⟩ | ⟨ns', q, h3, hnp⟩
        · exact within_c s w he hw6 z0 hpg (r2 := .error (c, p)) (.inr ⟨ts', _, hw, h3⟩) hx0 rfl hc0
        · obtain ⟨n0, rfl⟩ := List.length_eq_one_iff.1 (one_e f 0 0 [] ts 0 rfl (by decide) _ _ h2)
          have hl1 := npL_len _ _ hnp
          obtain ⟨n1, rfl⟩ := List.length_eq_one_iff.1 hl1.symm
          obtain ⟨k, t, vk, vn, vs, f', ks, p⟩ := n0
          obtain ⟨k2, t2, vk2, vn2, vs2, f2, ks2, p2⟩ := n1
          exact within_d s w he hw6 z0 hpg hk (.inr ⟨ts', _, hw, h3⟩) hnp
      · have hw : allT (wA ++ s ++ wZ).data.toList = .error (0, 160) := by
          rw [wr_list]
          unfold allT
          rw [if_pos (by omega)]
        exact within_c s w he hw6 z0 hpg (r2 := .error (160, 0)) (.inl ⟨0, 160, hw, rfl⟩) hx0 rfl (by decide)
  · obtain ⟨r2, hr2⟩ := PgOf.tot 27 (by decide) (wA ++ s ++ wZ).data.toList
    obtain ⟨⟨E2, P2⟩, hx2⟩ : ∃ x, erOf r2 = x := ⟨_, rfl⟩
    by_cases hE2 : E2 = 0
    · exact within_b s w he hw6 z0 hr hr2 hx (er_zero hr2 hx2 hE2).1 hE
    · exact within_a s w he hw6 z0 hr hr2 hx hx2 hE hE2
end Go.Proofs.YtgalfhlclmkbfaaGreatDoor

namespace Go.Proofs.YtgalfhlclmkbfaaGreatDoor
open Go.ChangeShapes Go.WideShapes Go.ChangeAt Go.RowKit
set_option linter.unusedVariables false

theorem own : ownKnob Tryz.prog.godebug = none := by kernel_rfl
theorem laidOut : laidOutB Tryz.prog = true := by kernel_rfl
theorem tPow : (Tryz.prog.globals[2]?).map (·.type) = some 127 := by kernel_rfl
theorem tab_pow : (Rows.laid_internal_strconv_uint64pow10 : DataW Unit) = Lib.tabData .u64 Lib.pow10Tab := by kernel_rfl
theorem gSyn : Tryz.prog.globalNamed "strconv.ErrSyntax" = some 0 := by kernel_rfl
theorem tSyn : (Tryz.prog.globals[0]?).map (·.type) = some 82 := by kernel_rfl
theorem gRng : Tryz.prog.globalNamed "strconv.ErrRange" = some 1 := by kernel_rfl
theorem tRng : (Tryz.prog.globals[1]?).map (·.type) = some 82 := by kernel_rfl
theorem gBits : Tryz.prog.globalNamed "math/bits.deBruijn64tab" = some 5 := by kernel_rfl
theorem cellsES : Tryz.prog.cellsOf 134 = 1 := by kernel_rfl
theorem cellsSt : Tryz.prog.cellsOf 9 = 1 := by kernel_rfl
theorem starES : "*" ++ "errors.errorString" = "*errors.errorString" := by decide
theorem rowES (u : TypeId) (h : Tryz.prog.typeName? 3 u = some "*errors.errorString") : u = 132 :=
  typeName_ptr_named (nm := "errors.errorString") (by rw [starES]; kernel_rfl) (by kernel_rfl) (by decide) u (by rw [starES]; exact h)

def seatLaid : List (String × DataW Unit) := [("math/bits.deBruijn32tab", Rows.laid_math_bits_deBruijn32tab), ("math/bits.deBruijn64tab", Rows.laid_math_bits_deBruijn64tab), ("internal/strconv.uint64pow10", Rows.laid_internal_strconv_uint64pow10), ("strconv.ErrRange", Rows.laid_strconv_ErrRange), ("strconv.ErrSyntax", Rows.laid_strconv_ErrSyntax)]

theorem laid_tail {P : Program} {x : String × DataW Unit} {l : List (String × DataW Unit)} {w : World} (h : laidMet P (x :: l) w) : laidMet P l w := by
  obtain ⟨ps, ⟨g0, t0, cs0, f0, p0, q0, hg0, ht0, hv0, hd0, hl, hps⟩, hn, hf⟩ := h
  subst hps
  exact ⟨q0, hl, (List.nodup_append.1 hn).2.1, fun b off hm => hf b off (List.mem_append_right _ hm)⟩

theorem of_laid {W : World} (h : laidMetH Tryz.prog seatLaid W) : Ev W ∧ 5 < W.heap.size := by
  rw [MakeChecks.laidMetH_plain _ _ _ (by kernel_rfl)] at h
  have h1 := laid_tail h
  have h2 := laid_tail h1
  have h3 := laid_tail h2
  have h4 := laid_tail h3
  obtain ⟨ar, sr, hvr, -, -, -⟩ := laid_sentinel h3 gRng tRng Tryz.underlying82 rowES Tryz.underlying132 Tryz.underlying134 rfl rfl Tryz.underlying9 cellsES cellsSt
  obtain ⟨asy, ssy, hvs, -, -, -⟩ := laid_sentinel h4 gSyn tSyn Tryz.underlying82 rowES Tryz.underlying132 Tryz.underlying134 rfl rfl Tryz.underlying9 cellsES cellsSt
  obtain ⟨ps, ⟨g2, t2, cs2, f2, p2, q2, hg2, ht2, hv2, hd2, _, hq2⟩, _, _⟩ := h2
  obtain ⟨ps1, ⟨g1, t1, cs1, f1, p1, q1, hg1, ht1, hv1, hd1, _, hq1⟩, _, _⟩ := h1
  obtain rfl := Option.some.inj (gPow.symm.trans hg2)
  obtain rfl := Option.some.inj (tPow.symm.trans ht2)
  rw [tab_pow] at hd2
  have e2 := Lib.cells_of_tab Tryz.underlying127 Tryz.underlying94 (by kernel_rfl) (by kernel_rfl) hd2
  refine ⟨⟨?_, ⟨_, by have h0 := World.var?_cell gSyn hvs 0; simpa using h0, Or.inr ⟨_, _, rfl⟩⟩, ⟨_, by have h0 := World.var?_cell gRng hvr 0; simpa using h0, Or.inr ⟨_, _, rfl⟩⟩⟩, ?_⟩
  · unfold Lib.TabIs
    rw [hv2, ← e2]
  · rcases Nat.lt_or_ge 5 W.heap.size with h | h
    · exact h
    · unfold World.var? at hv1
      rw [gBits] at hv1
      simp only [Option.bind_some] at hv1
      rw [Array.getElem?_eq_none h] at hv1
      cases hv1

/-- the door's own heap meets the condition -/
theorem door_met (os : Os) (args : Array Value) : laidMetH Tryz.prog seatLaid ((World.doorLaid Tryz.prog 400 os).forCall (fun _ _ => 0) ⟨#[], args, []⟩).memory :=
  laidMetH_of_parts3 (fuel := 8) (laidMet_of_run' 8 (by kernel_rfl) (by kernel_rfl)) (by kernel_rfl) (by kernel_rfl)
end Go.Proofs.YtgalfhlclmkbfaaGreatDoor
