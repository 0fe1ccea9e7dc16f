/-
  push (prim); no conditions but the form's own reach.
-/
import Derived.Test.YtgkmdjmigehmeaaGreatDoorR39
namespace Go.Proofs.YtgkmdjmigehmeaaGreatDoor
set_option linter.unusedVariables false
set_option linter.unusedSimpArgs false
set_option maxRecDepth 100000
set_option maxHeartbeats 16000000
open Go.RowKit Go.Shelf
def pushV (x y : Vl) : Vl × Int := szV (.mk 4 0 ⟨#[]⟩ (x.l ++ [y]) [])
theorem push_op (e0 e1 : Int) (e2 : ByteArray) (e3 : Option Addr) (e4 e5 : Nat) (e6 : Option Addr) (e7 e8 : Nat) (a : Addr) (n cl : Nat) (p0 p1 : Int) (p2 : ByteArray) (p3 : Option Addr) (p4 p5 : Nat) (p6 : Option Addr) (p7 p8 : Nat) (q0 q1 : Int) (q2 : ByteArray) (q3 : Option Addr) (q4 q5 : Nat) (q6 : Option Addr) (q7 q8 : Nat) (x y : Vl) (B : Nat) (w : World) (hn : 2 ≤ n) (ha : a.block < w.heap.size) (h00 : w.cell? a = some (.int .i64 p0)) (h01 : w.cell? ⟨a.block, a.off + 1, none⟩ = some (.int .i64 p1)) (h02 : w.cell? ⟨a.block, a.off + 2, none⟩ = some (.string p2)) (h03 : w.cell? ⟨a.block, a.off + 3, none⟩ = some (.slice p3 p4 p5)) (h04 : w.cell? ⟨a.block, a.off + 4, none⟩ = some (.slice p6 p7 p8)) (h10 : w.cell? ⟨a.block, a.off + 5, none⟩ = some (.int .i64 q0)) (h11 : w.cell? ⟨a.block, a.off + 5 + 1, none⟩ = some (.int .i64 q1)) (h12 : w.cell? ⟨a.block, a.off + 5 + 2, none⟩ = some (.string q2)) (h13 : w.cell? ⟨a.block, a.off + 5 + 3, none⟩ = some (.slice q3 q4 q5)) (h14 : w.cell? ⟨a.block, a.off + 5 + 4, none⟩ = some (.slice q6 q7 q8)) (hx : IsV w B x (.agg #[.int .i64 p0, .int .i64 p1, .string p2, .slice p3 p4 p5, .slice p6 p7 p8])) (hy : IsV w B y (.agg #[.int .i64 q0, .int .i64 q1, .string q2, .slice q3 q4 q5, .slice q6 q7 q8])) (hBs : B ≤ w.heap.size) (hn2 : n = 2) (hcl : 2 ≤ cl) (hrx : rightB x = true) :
  Calls Tryz.prog 66 #[.agg #[.int .i64 e0, .int .i64 e1, .string e2, .slice e3 e4 e5, .slice e6 e7 e8, .slice (some a) n cl]] w fun e w' => OpPost w (pushV x y) e w' := by
 subst hn2
 obtain ⟨gb, hgb⟩ : ∃ gb, w.heap.size = gb := ⟨_, rfl⟩
 obtain ⟨v1, hv1⟩ : ∃ v1, w.alloc (.cells #[.int .i64 e0, .int .i64 e1, .string e2, .slice e3 e4 e5, .slice e6 e7 e8, .slice (some a) 2 cl] 50) = v1 := ⟨_, rfl⟩
 obtain ⟨gr, hgr⟩ : ∃ gr, v1.heap.size = gr := ⟨_, rfl⟩
 obtain ⟨v2, hv2⟩ : ∃ v2, v1.alloc (.cells #[.int .i64 0, .int .i64 0, .string ⟨#[]⟩, .slice none 0 0, .slice none 0 0] 25) = v2 := ⟨_, rfl⟩
 have n1 : v1.heap[gb]? = some (.cells #[.int .i64 e0, .int .i64 e1, .string e2, .slice e3 e4 e5, .slice e6 e7 e8, .slice (some a) 2 cl] 50 (0, 0)) := by rw [← hv1, ← hgb]; exact heap_alloc_new w _
 have n2 : v2.heap[gr]? = some (.cells #[.int .i64 0, .int .i64 0, .string ⟨#[]⟩, .slice none 0 0, .slice none 0 0] 25 (0, 0)) := by rw [← hv2, ← hgr]; exact heap_alloc_new v1 _
 have b1 : Below w.heap.size w v1 := by rw [← hv1]; exact (Below.refl _ _).alloc (Nat.le_refl _) _
 have b2 : Below v1.heap.size v1 v2 := by rw [← hv2]; exact (Below.refl _ _).alloc (Nat.le_refl _) _
 have s1 : v1.heap.size = w.heap.size + 1 := by rw [← hv1]; simp
 have HM : Hid (Below w.heap.size w v2 ∧ v2.heap[gb]? = some (.cells #[.int .i64 e0, .int .i64 e1, .string e2, .slice e3 e4 e5, .slice e6 e7 e8, .slice (some a) 2 cl] 50 (0, 0)) ∧ v2.heap[gr]? = some (.cells #[.int .i64 0, .int .i64 0, .string ⟨#[]⟩, .slice none 0 0, .slice none 0 0] 25 (0, 0)) ∧ w.heap.size ≤ gr ∧ gr < v2.heap.size) := hide ⟨b1.trans (b2.mono b1.size), (b2.block gb (by omega)).trans n1, n2, by omega, (Array.getElem?_eq_some_iff.1 n2).1⟩
 obtain ⟨t0, t1, t2, t3, t4, t5⟩ := block6 (uh HM).2.1
 have hA00 : v2.cell? a = some (.int .i64 p0) := ((uh HM).1.cell (p := a) ha).trans h00
 have hA01 : v2.cell? ⟨a.block, a.off + 1, none⟩ = some (.int .i64 p1) := ((uh HM).1.cell (p := ⟨a.block, a.off + 1, none⟩) ha).trans h01
 have hA02 : v2.cell? ⟨a.block, a.off + 2, none⟩ = some (.string p2) := ((uh HM).1.cell (p := ⟨a.block, a.off + 2, none⟩) ha).trans h02
 have hA03 : v2.cell? ⟨a.block, a.off + 3, none⟩ = some (.slice p3 p4 p5) := ((uh HM).1.cell (p := ⟨a.block, a.off + 3, none⟩) ha).trans h03
 have hA04 : v2.cell? ⟨a.block, a.off + 4, none⟩ = some (.slice p6 p7 p8) := ((uh HM).1.cell (p := ⟨a.block, a.off + 4, none⟩) ha).trans h04
 have hA10 : v2.cell? ⟨a.block, a.off + 5, none⟩ = some (.int .i64 q0) := ((uh HM).1.cell (p := ⟨a.block, a.off + 5, none⟩) ha).trans h10
 have hA11 : v2.cell? ⟨a.block, a.off + 5 + 1, none⟩ = some (.int .i64 q1) := ((uh HM).1.cell (p := ⟨a.block, a.off + 5 + 1, none⟩) ha).trans h11
 have hA12 : v2.cell? ⟨a.block, a.off + 5 + 2, none⟩ = some (.string q2) := ((uh HM).1.cell (p := ⟨a.block, a.off + 5 + 2, none⟩) ha).trans h12
 have hA13 : v2.cell? ⟨a.block, a.off + 5 + 3, none⟩ = some (.slice q3 q4 q5) := ((uh HM).1.cell (p := ⟨a.block, a.off + 5 + 3, none⟩) ha).trans h13
 have hA14 : v2.cell? ⟨a.block, a.off + 5 + 4, none⟩ = some (.slice q6 q7 q8) := ((uh HM).1.cell (p := ⟨a.block, a.off + 5 + 4, none⟩) ha).trans h14
 have hlt0 : gb < v2.heap.size := (Array.getElem?_eq_some_iff.1 (uh HM).2.1).1
 have hlt1 : a.block < v2.heap.size := Nat.lt_of_lt_of_le ha (uh HM).1.size
 have hne0 : gb ≠ gr := by omega
 have hne1 : a.block ≠ gr := by omega
 have hc1 : ¬ cl = 1 := by omega
 obtain ⟨R, hR⟩ : ∃ R, pushV x y = R := ⟨_, rfl⟩
 rw [hR]
 have HRR : Hid (R = szV (.mk 4 0 ⟨#[]⟩ (x.l ++ [y]) [])) := hide hR.symm
 have hp4 : p4 = x.l.length ∧ p4 ≤ 2048 := by
  have h1 := (right_sz hrx).2.1
  obtain ⟨k1, n1, s1, l1, ks1⟩ := x
  obtain ⟨_, _, _, r4, _⟩ := IsP.at hx
  exact ⟨r4, by rw [r4]; exact h1⟩
 have CC : Hid (∀ u g, Below v2.heap.size v2 u → u.heap[g]? = some (.cells #[.slice p3 p4 p5, .slice (some ⟨a.block, a.off + 5, none⟩) 1 (cl - 1)] 22 (0, 0)) → Calls Tryz.prog 100 #[.slice (some ⟨g, 0, none⟩) 2 2] u fun e w' => ∃ a6 c6, e = .returned (.slice a6 (p4 + 1) c6) ∧ IsV w' w'.heap.size (.mk 4 0 ⟨#[]⟩ (x.l ++ [y]) []) (.agg #[.int .i64 4, .int .i64 0, .string ⟨#[]⟩, .slice a6 (p4 + 1) c6, .slice none 0 0]) ∧ Below u.heap.size u w') := hide (fun u g hu hr9 => by
  have hwu := (uh HM).1.trans (hu.mono (uh HM).1.size)
  have hxu := IsV.mono (hwu.mono hBs) hx
  have hyu := IsV.mono (hwu.mono hBs) hy
  obtain ⟨C, c1, c2⟩ : ∃ C, ElsV u B x.l C ∧ Shows u p3 p4 p5 5 C.flatten := by
   obtain ⟨k1, n1, s1, l1, ks1⟩ := x
   obtain ⟨_, C, c1, c2⟩ := els_of hxu
   exact ⟨C, c1, c2⟩
  have hD : ElsV u B [y] [[.int .i64 q0, .int .i64 q1, .string q2, .slice q3 q4 q5, .slice q6 q7 q8]] := ⟨rfl, fun i y9 hy9 => by
   match i, hy9 with
   | 0, hy9 => cases hy9; exact ⟨_, rfl, rfl, hyu⟩
   | i + 1, hy9 => simp at hy9⟩
  have hS : Shows u (some ⟨a.block, a.off + 5, none⟩) 1 (cl - 1) 5 ([[.int .i64 q0, .int .i64 q1, .string q2, .slice q3 q4 q5, .slice q6 q7 q8]] : List (List Value)).flatten := ⟨rfl, (fun h => by cases h), fun a9 ha9 j v hv => by
   cases ha9
   have hj : j < 5 := (List.getElem?_eq_some_iff.1 hv).1
   have hcell : ∀ k v, ([.int .i64 q0, .int .i64 q1, .string q2, .slice q3 q4 q5, .slice q6 q7 q8] : List Value)[k]? = some v → u.cell? (((⟨a.block, a.off + 5, none⟩) : Addr).add k) = some v := fun k v hv => by
    have hk : k < 5 := (List.getElem?_eq_some_iff.1 hv).1
    rcases (show k = 0 ∨ k = 1 ∨ k = 2 ∨ k = 3 ∨ k = 4 by omega) with rfl | rfl | rfl | rfl | rfl
    all_goals (simp at hv; subst hv)
    ·exact (hwu.cell (p := ⟨a.block, a.off + 5, none⟩) ha).trans h10
    ·exact (hwu.cell (p := ⟨a.block, a.off + 5 + 1, none⟩) ha).trans h11
    ·exact (hwu.cell (p := ⟨a.block, a.off + 5 + 2, none⟩) ha).trans h12
    ·exact (hwu.cell (p := ⟨a.block, a.off + 5 + 3, none⟩) ha).trans h13
    ·exact (hwu.cell (p := ⟨a.block, a.off + 5 + 4, none⟩) ha).trans h14
   exact hcell j v hv, hD.one⟩
  refine (concatV_two g _ p3 (some ⟨a.block, a.off + 5, none⟩) p4 p5 1 (cl - 1) C.flatten _ u hr9 c2 hS (by omega)).mono ?_
  rintro e w' ⟨sv, rfl, own6, d6⟩
  have hE := (c1.app hD).later (d6.mono (Nat.le_trans hBs hwu.size))
  obtain ⟨a6, c6, hsv, V6⟩ := own_val (C := C ++ [[.int .i64 q0, .int .i64 q1, .string q2, .slice q3 q4 q5, .slice q6 q7 q8]]) (by rw [List.flatten_append]; exact own6) hE (by rw [List.length_append, ← hp4.1]; rfl) (Nat.le_trans (Nat.le_trans hBs hwu.size) d6.size) (by omega)
  subst hsv
  exact ⟨a6, c6, rfl, V6, d6⟩)
 clear n1 n2 b1 b2 s1 h00 h01 h02 h03 h04 h10 h11 h12 h13 h14 hx hy hBs hrx hR hp4
 obtain ⟨W0, hW0⟩ : ∃ W0, v2.drew = W0 := ⟨_, rfl⟩
 have HY0 : Hid (Below v2.heap.size v2 W0) := hide (by rw [← hW0]; exact below_drew_of' (Below.refl _ _))
 go_enter Tryz.func66, Tryz.ntmps66
 go_upto_region 1 with fail
 have HS0 : Hid (v2.drew.cell? ⟨gb, 5, none⟩ = some (.slice (some a) 2 cl) ∧ v2.drew.cell? ⟨a.block, a.off + 3, none⟩ = some (.slice p3 p4 p5)) := hide ⟨t5, hA03⟩
 refine till_begin (S := fun w' => w'.cell? ⟨gb, 5, none⟩ = some (.slice (some a) 2 cl) ∧ w'.cell? ⟨a.block, a.off + 3, none⟩ = some (.slice p3 p4 p5)) 15 (by kernel_rfl) ?_
 refine till_take 0 (v := .pointer (some ⟨gb, 5, none⟩)) (some 4) rfl rfl rfl (by kernel_rfl) (by kernel_rfl) (by kernel_rfl) (by kernel_rfl) (fun _ _ _ h => h) (Or.inl ⟨by rfl, fun u hu => by obtain ⟨b0, b1⟩ := hu; go_simp⟩) (uh HS0) ?_
 try simp only [Act.put, setX]
 refine till_take 1 (v := .slice (some a) 2 cl) (some 5) rfl rfl rfl (by kernel_rfl) (by kernel_rfl) (by kernel_rfl) (by kernel_rfl) (fun _ _ _ h => h) (Or.inl ⟨by rfl, fun u hu => by obtain ⟨b0, b1⟩ := hu; go_simp⟩) (uh HS0) ?_
 try simp only [Act.put, setX]
 refine till_take 2 (v := .pointer (some a)) (some 6) rfl rfl rfl (by kernel_rfl) (by kernel_rfl) (by kernel_rfl) (by kernel_rfl) (fun _ _ _ h => h) (Or.inl ⟨by rfl, fun u hu => by obtain ⟨b0, b1⟩ := hu; go_simp⟩) (uh HS0) ?_
 try simp only [Act.put, setX]
 refine till_take 3 (v := .pointer (some ⟨a.block, a.off + 3, none⟩)) (some 7) rfl rfl rfl (by kernel_rfl) (by kernel_rfl) (by kernel_rfl) (by kernel_rfl) (fun _ _ _ h => h) (Or.inl ⟨by rfl, fun u hu => by obtain ⟨b0, b1⟩ := hu; go_simp⟩) (uh HS0) ?_
 try simp only [Act.put, setX]
 refine till_take 4 (v := .slice p3 p4 p5) (some 8) rfl rfl rfl (by kernel_rfl) (by kernel_rfl) (by kernel_rfl) (by kernel_rfl) (fun _ _ _ h => h) (Or.inl ⟨by rfl, fun u hu => by obtain ⟨b0, b1⟩ := hu; go_simp⟩) (uh HS0) ?_
 try simp only [Act.put, setX]
 refine till_take 5 (v := .pointer (some ⟨gb, 5, none⟩)) (some 9) rfl rfl rfl (by kernel_rfl) (by kernel_rfl) (by kernel_rfl) (by kernel_rfl) (fun _ _ _ h => h) (Or.inl ⟨by rfl, fun u hu => by obtain ⟨b0, b1⟩ := hu; go_simp⟩) (uh HS0) ?_
 try simp only [Act.put, setX]
 refine till_take 6 (v := .slice (some a) 2 cl) (some 10) rfl rfl rfl (by kernel_rfl) (by kernel_rfl) (by kernel_rfl) (by kernel_rfl) (fun _ _ _ h => h) (Or.inl ⟨by rfl, fun u hu => by obtain ⟨b0, b1⟩ := hu; go_simp⟩) (uh HS0) ?_
 try simp only [Act.put, setX]
 refine till_take 7 (v := .slice (some ⟨a.block, a.off + 5, none⟩) 1 (cl - 1)) (some 11) rfl rfl rfl (by kernel_rfl) (by kernel_rfl) (by kernel_rfl) (by kernel_rfl) (fun _ _ _ h => h) (Or.inl ⟨by rfl, fun u hu => by obtain ⟨b0, b1⟩ := hu; go_simp⟩) (uh HS0) ?_
 try simp only [Act.put, setX]
 try rw [hW0]
 rw [hW0] at HS0
 clear hW0
 refine till_one 8 (by kernel_rfl) rfl (fun K hK => ?_)
 go_simp
 obtain ⟨W1, hW1⟩ : ∃ W, W0.alloc (.cells #[.slice p3 p4 p5, .slice (some ⟨a.block, a.off + 5, none⟩) 1 (cl - 1)] 22) = W := ⟨_, rfl⟩
 obtain ⟨gs, hgs⟩ : ∃ gs, W0.heap.size = gs := ⟨_, rfl⟩
 have dd : Below W0.heap.size W0 W1 := by rw [← hW1]; exact (Below.refl _ _).alloc (Nat.le_refl _) _
 have HG1 : Hid (W1.heap[gs]? = some (.cells #[.slice p3 p4 p5, .slice (some ⟨a.block, a.off + 5, none⟩) 1 (cl - 1)] 22 (0, 0))) := hide (by rw [← hW1, ← hgs]; exact heap_alloc_new W0 _)
 have HY1 : Hid (Below v2.heap.size v2 W1) := hide ((uh HY0).trans (dd.mono (uh HY0).size))
 try rw [hW1]
 try rw [hgs]
 have HS1 : Hid (W1.cell? ⟨gb, 5, none⟩ = some (.slice (some a) 2 cl) ∧ W1.cell? ⟨a.block, a.off + 3, none⟩ = some (.slice p3 p4 p5)) := hide ⟨cell_later dd ((uh HS0).1), cell_later dd ((uh HS0).2)⟩
 refine hK.out _ _ (Or.inr (uh HS1)) ?_
 clear hK K HS0 HY0 dd hW1 hgs
 try simp only [Act.put, setX]
 refine till_one 9 (by kernel_rfl) rfl (fun K hK => ?_)
 go_simp
 refine (uh CC W1 gs (uh HY1) (uh HG1)).mono ?_
 rintro e W2 ⟨a6, c6, rfl, V6, d2⟩
 have HY2 : Hid (Below v2.heap.size v2 W2) := hide ((uh HY1).trans (d2.mono (uh HY1).size))
 have HV6 := hide V6
 have HS2 : Hid (W2.cell? ⟨gb, 5, none⟩ = some (.slice (some a) 2 cl) ∧ W2.cell? ⟨a.block, a.off + 3, none⟩ = some (.slice p3 p4 p5)) := hide ⟨cell_later d2 ((uh HS1).1), cell_later d2 ((uh HS1).2)⟩
 clear d2 V6
 go_wp2_with fail
 refine hK.out _ _ (Or.inr (uh HS2)) ?_
 clear hK K HS1 HY1 HG1 CC
 try simp only [Act.put, setX]
 refine till_take 10 (v := .agg #[.int .i64 4, .int .i64 0, .string ⟨#[]⟩, .slice a6 (p4 + 1) c6, .slice none 0 0]) (some 14) rfl rfl rfl (by kernel_rfl) (by kernel_rfl) (by kernel_rfl) (by kernel_rfl) (fun _ _ _ h => h) (Or.inl ⟨by rfl, fun u hu => by obtain ⟨b0, b1⟩ := hu; go_simp⟩) (uh HS2) ?_
 try simp only [Act.put, setX]
 refine till_one 11 (by kernel_rfl) rfl (fun K hK => ?_)
 go_simp
 refine (sized_op (.mk 4 0 ⟨#[]⟩ (x.l ++ [y]) []) _ W2.heap.size W2 (uh HV6) (Nat.le_refl _)).mono ?_
 rintro e W3 ⟨y0, y1, y2, y3, y4, y5, y6, y7, y8, t, rfl, ⟨ht, q5⟩, d3⟩
 have HF9 : Hid (IsQ W3 (fun b => v2.heap.size ≤ b ∧ b < W3.heap.size) R.1 (.agg #[.int .i64 y0, .int .i64 y1, .string y2, .slice y3 y4 y5, .slice y6 y7 y8]) ∧ t = R.2 ∧ Below v2.heap.size v2 W3) := hide ⟨by rw [uh HRR]; exact q5.weak (fun b hb => ⟨Nat.le_trans (uh HY2).size hb.1, hb.2⟩), by rw [uh HRR]; exact ht, (uh HY2).trans (d3.mono (uh HY2).size)⟩
 have HS3 : Hid (W3.cell? ⟨gb, 5, none⟩ = some (.slice (some a) 2 cl) ∧ W3.cell? ⟨a.block, a.off + 3, none⟩ = some (.slice p3 p4 p5)) := hide ⟨cell_later d3 ((uh HS2).1), cell_later d3 ((uh HS2).2)⟩
 clear d3 q5 ht
 go_wp2_with fail
 refine hK.out _ _ (Or.inr (uh HS3)) ?_
 clear hK K HS2 HY2 HV6
 try simp only [Act.put, setX]
 refine till_take 12 (v := .agg #[.int .i64 y0, .int .i64 y1, .string y2, .slice y3 y4 y5, .slice y6 y7 y8]) (some 16) rfl rfl rfl (by kernel_rfl) (by kernel_rfl) (by kernel_rfl) (by kernel_rfl) (fun _ _ _ h => h) (Or.inl ⟨by rfl, fun u hu => by obtain ⟨b0, b1⟩ := hu; go_simp⟩) (uh HS3) ?_
 try simp only [Act.put, setX]
 refine till_take 13 (v := .int .i64 t) (some 17) rfl rfl rfl (by kernel_rfl) (by kernel_rfl) (by kernel_rfl) (by kernel_rfl) (fun _ _ _ h => h) (Or.inl ⟨by rfl, fun u hu => by obtain ⟨b0, b1⟩ := hu; go_simp⟩) (uh HS3) ?_
 try simp only [Act.put, setX]
 have ER : Hid (W3.heap[gr]? = some (.cells #[.int .i64 0, .int .i64 0, .string ⟨#[]⟩, .slice none 0 0, .slice none 0 0] 25 (0, 0))) := hide (((uh HF9).2.2.block gr (uh HM).2.2.2.2).trans (uh HM).2.2.1)
 obtain ⟨r0z, r1z, r2z, r3z, r4z⟩ := block5 (uh ER)
 obtain ⟨fz0, fz1, fz2, fz3, fz4⟩ := fr5 (uh ER)
 obtain ⟨W4, hW4⟩ : ∃ W, (((((W3.setCell ⟨gr, 0, none⟩ (.int .i64 y0)).setCell ⟨gr, 1, none⟩ (.int .i64 y1)).setCell ⟨gr, 2, none⟩ (.string y2)).setCell ⟨gr, 3, none⟩ (.slice y3 y4 y5)).setCell ⟨gr, 4, none⟩ (.slice y6 y7 y8)) = W := ⟨_, rfl⟩
 have HS4 : Hid (W4.cell? ⟨gb, 5, none⟩ = some (.slice (some a) 2 cl) ∧ W4.cell? ⟨a.block, a.off + 3, none⟩ = some (.slice p3 p4 p5)) := hide (by
  have hh : ∀ (p : Addr), p.block ≠ gr → W4.cell? p = W3.cell? p := fun p hp => World.cell?_of_block (by rw [← hW4, heap_setCell_other _ _ _ _ hp, heap_setCell_other _ _ _ _ hp, heap_setCell_other _ _ _ _ hp, heap_setCell_other _ _ _ _ hp, heap_setCell_other _ _ _ _ hp])
  exact ⟨(hh ⟨gb, 5, none⟩ hne0).trans ((uh HS3).1), (hh ⟨a.block, a.off + 3, none⟩ hne1).trans ((uh HS3).2)⟩)
 refine till_one 14 (by kernel_rfl) rfl (fun K hK => ?_)
 go_simp
 try rw [hW4]
 refine hK.out _ _ (Or.inr (uh HS4)) ?_
 clear hK K HS3 r0z r1z r2z r3z r4z fz0 fz1 fz2 fz3 fz4
 try simp only [Act.put, setX]
 refine till_one 15 (by kernel_rfl) rfl (fun K hK => ?_)
 go_simp
 refine hK.out _ _ (Or.inl (by first | rfl | trivial)) ?_
 clear hK K HS4
 try simp only [Act.put, setX]
 refine till_done (by kernel_rfl) ?_ _
 rw [← hW4]
 go_wp2_with fail
 (try simp only [Exit.inBlock, Exit.then])
 refine bodyPost_ret (ret_ct rfl _ _ gr #[.int .i64 y0, .int .i64 y1, .string y2, .slice y3 y4 y5, .slice y6 y7 y8] _ _ rfl (set5P (uh ER) _ _ _ _ _) Tryz.underlying25 rfl size_vl) rfl ?_
 exact op_fin (uh HM).1 (uh HM).2.2.2.1 (uh HM).2.2.2.2 (uh HF9).2.2 (uh HF9).1 (uh HF9).2.1
end Go.Proofs.YtgkmdjmigehmeaaGreatDoor
