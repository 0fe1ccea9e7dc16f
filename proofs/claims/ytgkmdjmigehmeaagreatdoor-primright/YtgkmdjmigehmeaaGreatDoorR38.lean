/-
  add of any two values of one kind: whole numbers, texts, arrays (prim); no conditions but the form's own reach.
-/
import Derived.Test.YtgkmdjmigehmeaaGreatDoorR37
namespace Go.Proofs.YtgkmdjmigehmeaaGreatDoor
set_option linter.unusedVariables false
set_option linter.unusedSimpArgs false
set_option maxRecDepth 100000
set_option maxHeartbeats 16000000
open Go.RowKit Go.Shelf
def addV (x y : Vl) : Vl × Int := if x.kind = 2 then (nm (wrap64 (x.n + y.n)), 0) else if x.kind = 3 then szV (.mk 3 0 (x.s ++ y.s) [] []) else szV (.mk 4 0 ⟨#[]⟩ (x.l ++ y.l) [])
theorem add_op (e0 e1 : Int) (e2 : ByteArray) (e3 : Option Addr) (e4 e5 : Nat) (e6 : Option Addr) (e7 e8 : Nat) (a : Addr) (n cl : Nat) (p0 p1 : Int) (p2 : ByteArray) (p3 : Option Addr) (p4 p5 : Nat) (p6 : Option Addr) (p7 p8 : Nat) (q0 q1 : Int) (q2 : ByteArray) (q3 : Option Addr) (q4 q5 : Nat) (q6 : Option Addr) (q7 q8 : Nat) (x y : Vl) (B : Nat) (w : World) (hn : 2 ≤ n) (ha : a.block < w.heap.size) (h00 : w.cell? a = some (.int .i64 p0)) (h01 : w.cell? ⟨a.block, a.off + 1, none⟩ = some (.int .i64 p1)) (h02 : w.cell? ⟨a.block, a.off + 2, none⟩ = some (.string p2)) (h03 : w.cell? ⟨a.block, a.off + 3, none⟩ = some (.slice p3 p4 p5)) (h04 : w.cell? ⟨a.block, a.off + 4, none⟩ = some (.slice p6 p7 p8)) (h10 : w.cell? ⟨a.block, a.off + 5, none⟩ = some (.int .i64 q0)) (h11 : w.cell? ⟨a.block, a.off + 5 + 1, none⟩ = some (.int .i64 q1)) (h12 : w.cell? ⟨a.block, a.off + 5 + 2, none⟩ = some (.string q2)) (h13 : w.cell? ⟨a.block, a.off + 5 + 3, none⟩ = some (.slice q3 q4 q5)) (h14 : w.cell? ⟨a.block, a.off + 5 + 4, none⟩ = some (.slice q6 q7 q8)) (hx : IsV w B x (.agg #[.int .i64 p0, .int .i64 p1, .string p2, .slice p3 p4 p5, .slice p6 p7 p8])) (hy : IsV w B y (.agg #[.int .i64 q0, .int .i64 q1, .string q2, .slice q3 q4 q5, .slice q6 q7 q8])) (hBs : B ≤ w.heap.size) (hrx : rightB x = true) (hry : rightB y = true) (hk : x.kind = 2 ∨ x.kind = 3 ∨ x.kind = 4) :
  Calls Tryz.prog 48 #[.agg #[.int .i64 e0, .int .i64 e1, .string e2, .slice e3 e4 e5, .slice e6 e7 e8, .slice (some a) n cl]] w fun e w' => OpPost w (addV x y) e w' := by
 obtain ⟨gb, hgb⟩ : ∃ gb, w.heap.size = gb := ⟨_, rfl⟩
 obtain ⟨v1, hv1⟩ : ∃ v1, w.alloc (.cells #[.int .i64 e0, .int .i64 e1, .string e2, .slice e3 e4 e5, .slice e6 e7 e8, .slice (some a) n cl] 50) = v1 := ⟨_, rfl⟩
 obtain ⟨gr, hgr⟩ : ∃ gr, v1.heap.size = gr := ⟨_, rfl⟩
 obtain ⟨v2, hv2⟩ : ∃ v2, v1.alloc (.cells #[.int .i64 0, .int .i64 0, .string ⟨#[]⟩, .slice none 0 0, .slice none 0 0] 25) = v2 := ⟨_, rfl⟩
 have n1 : v1.heap[gb]? = some (.cells #[.int .i64 e0, .int .i64 e1, .string e2, .slice e3 e4 e5, .slice e6 e7 e8, .slice (some a) n cl] 50 (0, 0)) := by rw [← hv1, ← hgb]; exact heap_alloc_new w _
 have n2 : v2.heap[gr]? = some (.cells #[.int .i64 0, .int .i64 0, .string ⟨#[]⟩, .slice none 0 0, .slice none 0 0] 25 (0, 0)) := by rw [← hv2, ← hgr]; exact heap_alloc_new v1 _
 have b1 : Below w.heap.size w v1 := by rw [← hv1]; exact (Below.refl _ _).alloc (Nat.le_refl _) _
 have b2 : Below v1.heap.size v1 v2 := by rw [← hv2]; exact (Below.refl _ _).alloc (Nat.le_refl _) _
 have s1 : v1.heap.size = w.heap.size + 1 := by rw [← hv1]; simp
 have HM : Hid (Below w.heap.size w v2 ∧ v2.heap[gb]? = some (.cells #[.int .i64 e0, .int .i64 e1, .string e2, .slice e3 e4 e5, .slice e6 e7 e8, .slice (some a) n cl] 50 (0, 0)) ∧ v2.heap[gr]? = some (.cells #[.int .i64 0, .int .i64 0, .string ⟨#[]⟩, .slice none 0 0, .slice none 0 0] 25 (0, 0)) ∧ w.heap.size ≤ gr ∧ gr < v2.heap.size) := hide ⟨b1.trans (b2.mono b1.size), (b2.block gb (by omega)).trans n1, n2, by omega, (Array.getElem?_eq_some_iff.1 n2).1⟩
 obtain ⟨t0, t1, t2, t3, t4, t5⟩ := block6 (uh HM).2.1
 have hA00 : v2.cell? a = some (.int .i64 p0) := ((uh HM).1.cell (p := a) ha).trans h00
 have hA01 : v2.cell? ⟨a.block, a.off + 1, none⟩ = some (.int .i64 p1) := ((uh HM).1.cell (p := ⟨a.block, a.off + 1, none⟩) ha).trans h01
 have hA02 : v2.cell? ⟨a.block, a.off + 2, none⟩ = some (.string p2) := ((uh HM).1.cell (p := ⟨a.block, a.off + 2, none⟩) ha).trans h02
 have hA03 : v2.cell? ⟨a.block, a.off + 3, none⟩ = some (.slice p3 p4 p5) := ((uh HM).1.cell (p := ⟨a.block, a.off + 3, none⟩) ha).trans h03
 have hA04 : v2.cell? ⟨a.block, a.off + 4, none⟩ = some (.slice p6 p7 p8) := ((uh HM).1.cell (p := ⟨a.block, a.off + 4, none⟩) ha).trans h04
 have hA10 : v2.cell? ⟨a.block, a.off + 5, none⟩ = some (.int .i64 q0) := ((uh HM).1.cell (p := ⟨a.block, a.off + 5, none⟩) ha).trans h10
 have hA11 : v2.cell? ⟨a.block, a.off + 5 + 1, none⟩ = some (.int .i64 q1) := ((uh HM).1.cell (p := ⟨a.block, a.off + 5 + 1, none⟩) ha).trans h11
 have hA12 : v2.cell? ⟨a.block, a.off + 5 + 2, none⟩ = some (.string q2) := ((uh HM).1.cell (p := ⟨a.block, a.off + 5 + 2, none⟩) ha).trans h12
 have hA13 : v2.cell? ⟨a.block, a.off + 5 + 3, none⟩ = some (.slice q3 q4 q5) := ((uh HM).1.cell (p := ⟨a.block, a.off + 5 + 3, none⟩) ha).trans h13
 have hA14 : v2.cell? ⟨a.block, a.off + 5 + 4, none⟩ = some (.slice q6 q7 q8) := ((uh HM).1.cell (p := ⟨a.block, a.off + 5 + 4, none⟩) ha).trans h14
 have hl0 : (0 : Int) < (n : Int) := by omega
 have hl1 : (1 : Int) < (n : Int) := by omega
 have hlt0 : gb < v2.heap.size := (Array.getElem?_eq_some_iff.1 (uh HM).2.1).1
 have hlt1 : a.block < v2.heap.size := Nat.lt_of_lt_of_le ha (uh HM).1.size
 have hkx : p0 = x.kind ∧ p1 = x.n ∧ p2 = x.s := by
  obtain ⟨k1, n1, s1, l1, ks1⟩ := x
  obtain ⟨r1, r2, r3, _⟩ := IsP.at hx
  exact ⟨r1, r2, r3⟩
 have hky : q0 = y.kind ∧ q1 = y.n ∧ q2 = y.s := by
  obtain ⟨k1, n1, s1, l1, ks1⟩ := y
  obtain ⟨r1, r2, r3, _⟩ := IsP.at hy
  exact ⟨r1, r2, r3⟩
 obtain ⟨R, hR⟩ : ∃ R, addV x y = R := ⟨_, rfl⟩
 rw [hR]
 have HK : Hid (p0 = 2 ∨ p0 = 3 ∨ p0 = 4) := hide (by rw [hkx.1]; exact hk)
 have HA2 : Hid (p0 = 2 → R = (nm (wrap64 (p1 + q1)), 0)) := hide (fun e => by rw [← hR]; unfold addV; rw [← hkx.1, if_pos e, hkx.2.1, hky.2.1])
 have HA3 : Hid (p0 = 3 → R = szV (.mk 3 0 (p2 ++ q2) [] [])) := hide (fun e => by rw [← hR]; unfold addV; rw [← hkx.1, if_neg (by omega), if_pos e, hkx.2.2, hky.2.2])
 have HA4 : Hid (p0 = 4 → R = szV (.mk 4 0 ⟨#[]⟩ (x.l ++ y.l) [])) := hide (fun e => by rw [← hR]; unfold addV; rw [← hkx.1, if_neg (by omega), if_neg (by omega)])
 have HSZ : Hid (p2.size ≤ 2048 ∧ q2.size ≤ 2048 ∧ x.l.length ≤ 2048 ∧ y.l.length ≤ 2048) := hide ⟨by rw [hkx.2.2]; exact (right_sz hrx).1, by rw [hky.2.2]; exact (right_sz hry).1, (right_sz hrx).2.1, (right_sz hry).2.1⟩
 have HXY := hide (And.intro hx hy)
 have HBs := hide hBs
 clear n1 n2 b1 b2 s1 h00 h01 h02 h03 h04 h10 h11 h12 h13 h14 hx hy hBs hkx hky hrx hry hk hR
 obtain ⟨W0, hW0⟩ : ∃ W0, v2.drew = W0 := ⟨_, rfl⟩
 have HW0 : Hid (∀ W, Below W0.heap.size W0 W → Below v2.heap.size v2 W) := hide (fun W h => by rw [← hW0] at h; exact below_drew_of' h)
 have hs0 : v2.heap.size = W0.heap.size := by rw [← hW0]; rfl
 go_enter Tryz.func48, Tryz.ntmps48
 go_upto_region 1 with fail
 have HS0 : Hid (v2.drew.cell? ⟨gb, 5, none⟩ = some (.slice (some a) n cl) ∧ v2.drew.cell? a = some (.int .i64 p0) ∧ v2.drew.cell? ⟨a.block, a.off + 1, none⟩ = some (.int .i64 p1) ∧ v2.drew.cell? ⟨a.block, a.off + 2, none⟩ = some (.string p2) ∧ v2.drew.cell? ⟨a.block, a.off + 3, none⟩ = some (.slice p3 p4 p5) ∧ v2.drew.cell? ⟨a.block, a.off + 4, none⟩ = some (.slice p6 p7 p8) ∧ v2.drew.cell? ⟨a.block, a.off + 5, none⟩ = some (.int .i64 q0) ∧ v2.drew.cell? ⟨a.block, a.off + 5 + 1, none⟩ = some (.int .i64 q1) ∧ v2.drew.cell? ⟨a.block, a.off + 5 + 2, none⟩ = some (.string q2) ∧ v2.drew.cell? ⟨a.block, a.off + 5 + 3, none⟩ = some (.slice q3 q4 q5) ∧ v2.drew.cell? ⟨a.block, a.off + 5 + 4, none⟩ = some (.slice q6 q7 q8)) := hide ⟨t5, hA00, hA01, hA02, hA03, hA04, hA10, hA11, hA12, hA13, hA14⟩
 refine till_begin (S := fun w' => w'.cell? ⟨gb, 5, none⟩ = some (.slice (some a) n cl) ∧ w'.cell? a = some (.int .i64 p0) ∧ w'.cell? ⟨a.block, a.off + 1, none⟩ = some (.int .i64 p1) ∧ w'.cell? ⟨a.block, a.off + 2, none⟩ = some (.string p2) ∧ w'.cell? ⟨a.block, a.off + 3, none⟩ = some (.slice p3 p4 p5) ∧ w'.cell? ⟨a.block, a.off + 4, none⟩ = some (.slice p6 p7 p8) ∧ w'.cell? ⟨a.block, a.off + 5, none⟩ = some (.int .i64 q0) ∧ w'.cell? ⟨a.block, a.off + 5 + 1, none⟩ = some (.int .i64 q1) ∧ w'.cell? ⟨a.block, a.off + 5 + 2, none⟩ = some (.string q2) ∧ w'.cell? ⟨a.block, a.off + 5 + 3, none⟩ = some (.slice q3 q4 q5) ∧ w'.cell? ⟨a.block, a.off + 5 + 4, none⟩ = some (.slice q6 q7 q8)) 11 (by kernel_rfl) ?_
 refine till_take 0 (v := .pointer (some ⟨gb, 5, none⟩)) (some 6) rfl rfl rfl (by kernel_rfl) (by kernel_rfl) (by kernel_rfl) (by kernel_rfl) (fun _ _ _ h => h) (Or.inl ⟨by rfl, fun u hu => by obtain ⟨b0, b1, b2, b3, b4, b5, b6, b7, b8, b9, b10⟩ := hu; go_simp⟩) (uh HS0) ?_
 try simp only [Act.put, setX]
 refine till_take 1 (v := .slice (some a) n cl) (some 7) rfl rfl rfl (by kernel_rfl) (by kernel_rfl) (by kernel_rfl) (by kernel_rfl) (fun _ _ _ h => h) (Or.inl ⟨by rfl, fun u hu => by obtain ⟨b0, b1, b2, b3, b4, b5, b6, b7, b8, b9, b10⟩ := hu; go_simp⟩) (uh HS0) ?_
 try simp only [Act.put, setX]
 refine till_take 2 (v := .pointer (some a)) (some 8) rfl rfl rfl (by kernel_rfl) (by kernel_rfl) (by kernel_rfl) (by kernel_rfl) (fun _ _ _ h => h) (Or.inl ⟨by rfl, fun u hu => by obtain ⟨b0, b1, b2, b3, b4, b5, b6, b7, b8, b9, b10⟩ := hu; go_simp; intro hz; omega⟩) (uh HS0) ?_
 try simp only [Act.put, setX]
 refine till_take 3 (v := .agg #[.int .i64 p0, .int .i64 p1, .string p2, .slice p3 p4 p5, .slice p6 p7 p8]) (some 9) rfl rfl rfl (by kernel_rfl) (by kernel_rfl) (by kernel_rfl) (by kernel_rfl) (fun _ _ _ h => h) (Or.inl ⟨by rfl, fun u hu => by obtain ⟨b0, b1, b2, b3, b4, b5, b6, b7, b8, b9, b10⟩ := hu; go_simp⟩) (uh HS0) ?_
 try simp only [Act.put, setX]
 refine till_take 4 (v := .pointer (some ⟨gb, 5, none⟩)) (some 10) rfl rfl rfl (by kernel_rfl) (by kernel_rfl) (by kernel_rfl) (by kernel_rfl) (fun _ _ _ h => h) (Or.inl ⟨by rfl, fun u hu => by obtain ⟨b0, b1, b2, b3, b4, b5, b6, b7, b8, b9, b10⟩ := hu; go_simp⟩) (uh HS0) ?_
 try simp only [Act.put, setX]
 refine till_take 5 (v := .slice (some a) n cl) (some 11) rfl rfl rfl (by kernel_rfl) (by kernel_rfl) (by kernel_rfl) (by kernel_rfl) (fun _ _ _ h => h) (Or.inl ⟨by rfl, fun u hu => by obtain ⟨b0, b1, b2, b3, b4, b5, b6, b7, b8, b9, b10⟩ := hu; go_simp⟩) (uh HS0) ?_
 try simp only [Act.put, setX]
 refine till_take 6 (v := .pointer (some ⟨a.block, a.off + 5, none⟩)) (some 12) rfl rfl rfl (by kernel_rfl) (by kernel_rfl) (by kernel_rfl) (by kernel_rfl) (fun _ _ _ h => h) (Or.inl ⟨by rfl, fun u hu => by obtain ⟨b0, b1, b2, b3, b4, b5, b6, b7, b8, b9, b10⟩ := hu; go_simp⟩) (uh HS0) ?_
 try simp only [Act.put, setX]
 refine till_take 7 (v := .agg #[.int .i64 q0, .int .i64 q1, .string q2, .slice q3 q4 q5, .slice q6 q7 q8]) (some 13) rfl rfl rfl (by kernel_rfl) (by kernel_rfl) (by kernel_rfl) (by kernel_rfl) (fun _ _ _ h => h) (Or.inl ⟨by rfl, fun u hu => by obtain ⟨b0, b1, b2, b3, b4, b5, b6, b7, b8, b9, b10⟩ := hu; go_simp⟩) (uh HS0) ?_
 try simp only [Act.put, setX]
 try rw [hW0]
 have HS0' : Hid (W0.cell? ⟨gb, 5, none⟩ = some (.slice (some a) n cl) ∧ W0.cell? a = some (.int .i64 p0) ∧ W0.cell? ⟨a.block, a.off + 1, none⟩ = some (.int .i64 p1) ∧ W0.cell? ⟨a.block, a.off + 2, none⟩ = some (.string p2) ∧ W0.cell? ⟨a.block, a.off + 3, none⟩ = some (.slice p3 p4 p5) ∧ W0.cell? ⟨a.block, a.off + 4, none⟩ = some (.slice p6 p7 p8) ∧ W0.cell? ⟨a.block, a.off + 5, none⟩ = some (.int .i64 q0) ∧ W0.cell? ⟨a.block, a.off + 5 + 1, none⟩ = some (.int .i64 q1) ∧ W0.cell? ⟨a.block, a.off + 5 + 2, none⟩ = some (.string q2) ∧ W0.cell? ⟨a.block, a.off + 5 + 3, none⟩ = some (.slice q3 q4 q5) ∧ W0.cell? ⟨a.block, a.off + 5 + 4, none⟩ = some (.slice q6 q7 q8)) := hide (by rw [← hW0]; exact uh HS0)
 clear HS0
 have HS0 := HS0'
 refine till_two 8 9 (by kernel_rfl) rfl rfl (fun K hK => ?_) (fun K hK => ?_)
 ·go_simp
  obtain ⟨W1, hW1⟩ : ∃ W1, W0.alloc (.cells #[.int .i64 0, .int .i64 0, .string ⟨#[]⟩, .slice none 0 0, .slice none 0 0] 25) = W1 := ⟨_, rfl⟩
  have X1 : Below W0.heap.size W0 W1 := by rw [← hW1]; exact (Below.refl _ _).alloc (Nat.le_refl _) _
  obtain ⟨b4, hb4⟩ : ∃ b4, W0.heap.size = b4 := ⟨_, rfl⟩
  have N1 : W1.heap[b4]? = some (.cells #[.int .i64 0, .int .i64 0, .string ⟨#[]⟩, .slice none 0 0, .slice none 0 0] 25 (0, 0)) := by rw [← hW1, ← hb4]; exact heap_alloc_new W0 _
  try rw [hW1]
  try rw [hb4]
  have HS1 : Hid (W1.cell? ⟨gb, 5, none⟩ = some (.slice (some a) n cl) ∧ W1.cell? a = some (.int .i64 p0) ∧ W1.cell? ⟨a.block, a.off + 1, none⟩ = some (.int .i64 p1) ∧ W1.cell? ⟨a.block, a.off + 2, none⟩ = some (.string p2) ∧ W1.cell? ⟨a.block, a.off + 3, none⟩ = some (.slice p3 p4 p5) ∧ W1.cell? ⟨a.block, a.off + 4, none⟩ = some (.slice p6 p7 p8) ∧ W1.cell? ⟨a.block, a.off + 5, none⟩ = some (.int .i64 q0) ∧ W1.cell? ⟨a.block, a.off + 5 + 1, none⟩ = some (.int .i64 q1) ∧ W1.cell? ⟨a.block, a.off + 5 + 2, none⟩ = some (.string q2) ∧ W1.cell? ⟨a.block, a.off + 5 + 3, none⟩ = some (.slice q3 q4 q5) ∧ W1.cell? ⟨a.block, a.off + 5 + 4, none⟩ = some (.slice q6 q7 q8)) := hide ⟨cell_later X1 ((uh HS0).1), cell_later X1 ((uh HS0).2.1), cell_later X1 ((uh HS0).2.2.1), cell_later X1 ((uh HS0).2.2.2.1), cell_later X1 ((uh HS0).2.2.2.2.1), cell_later X1 ((uh HS0).2.2.2.2.2.1), cell_later X1 ((uh HS0).2.2.2.2.2.2.1), cell_later X1 ((uh HS0).2.2.2.2.2.2.2.1), cell_later X1 ((uh HS0).2.2.2.2.2.2.2.2.1), cell_later X1 ((uh HS0).2.2.2.2.2.2.2.2.2.1), cell_later X1 ((uh HS0).2.2.2.2.2.2.2.2.2.2)⟩
  refine hK.out _ _ (Or.inr (uh HS1)) ?_
  clear hK K
  try simp only [Act.put, setX]
  have K1 : Hid (Below v2.heap.size v2 W1 ∧ W1.heap[b4]? = some (.cells #[.int .i64 0, .int .i64 0, .string ⟨#[]⟩, .slice none 0 0, .slice none 0 0] 25 (0, 0)) ∧ v2.heap.size ≤ b4 ∧ b4 < W1.heap.size) := hide ⟨uh HW0 _ X1, N1, by rw [← hb4, ← hs0]; exact Nat.le_refl _, (Array.getElem?_eq_some_iff.1 N1).1⟩
  clear X1 N1 hW1 hb4 HS0
  refine till_one 9 (by kernel_rfl) rfl (fun K hK => ?_)
  go_simp
  obtain ⟨W2, hW2⟩ : ∃ W2, W1.alloc (.cells #[.int .i64 0, .int .i64 0, .string ⟨#[]⟩, .slice none 0 0, .slice none 0 0] 25) = W2 := ⟨_, rfl⟩
  have X2 : Below W1.heap.size W1 W2 := by rw [← hW2]; exact (Below.refl _ _).alloc (Nat.le_refl _) _
  obtain ⟨b5, hb5⟩ : ∃ b5, W1.heap.size = b5 := ⟨_, rfl⟩
  have N2 : W2.heap[b5]? = some (.cells #[.int .i64 0, .int .i64 0, .string ⟨#[]⟩, .slice none 0 0, .slice none 0 0] 25 (0, 0)) := by rw [← hW2, ← hb5]; exact heap_alloc_new W1 _
  try rw [hW2]
  try rw [hb5]
  have HS2 : Hid (W2.cell? ⟨gb, 5, none⟩ = some (.slice (some a) n cl) ∧ W2.cell? a = some (.int .i64 p0) ∧ W2.cell? ⟨a.block, a.off + 1, none⟩ = some (.int .i64 p1) ∧ W2.cell? ⟨a.block, a.off + 2, none⟩ = some (.string p2) ∧ W2.cell? ⟨a.block, a.off + 3, none⟩ = some (.slice p3 p4 p5) ∧ W2.cell? ⟨a.block, a.off + 4, none⟩ = some (.slice p6 p7 p8) ∧ W2.cell? ⟨a.block, a.off + 5, none⟩ = some (.int .i64 q0) ∧ W2.cell? ⟨a.block, a.off + 5 + 1, none⟩ = some (.int .i64 q1) ∧ W2.cell? ⟨a.block, a.off + 5 + 2, none⟩ = some (.string q2) ∧ W2.cell? ⟨a.block, a.off + 5 + 3, none⟩ = some (.slice q3 q4 q5) ∧ W2.cell? ⟨a.block, a.off + 5 + 4, none⟩ = some (.slice q6 q7 q8)) := hide ⟨cell_later X2 ((uh HS1).1), cell_later X2 ((uh HS1).2.1), cell_later X2 ((uh HS1).2.2.1), cell_later X2 ((uh HS1).2.2.2.1), cell_later X2 ((uh HS1).2.2.2.2.1), cell_later X2 ((uh HS1).2.2.2.2.2.1), cell_later X2 ((uh HS1).2.2.2.2.2.2.1), cell_later X2 ((uh HS1).2.2.2.2.2.2.2.1), cell_later X2 ((uh HS1).2.2.2.2.2.2.2.2.1), cell_later X2 ((uh HS1).2.2.2.2.2.2.2.2.2.1), cell_later X2 ((uh HS1).2.2.2.2.2.2.2.2.2.2)⟩
  refine hK.out _ _ (Or.inr (uh HS2)) ?_
  clear hK K
  try simp only [Act.put, setX]
  have K2 : Hid (Below v2.heap.size v2 W2 ∧ W2.heap[b4]? = some (.cells #[.int .i64 0, .int .i64 0, .string ⟨#[]⟩, .slice none 0 0, .slice none 0 0] 25 (0, 0)) ∧ W2.heap[b5]? = some (.cells #[.int .i64 0, .int .i64 0, .string ⟨#[]⟩, .slice none 0 0, .slice none 0 0] 25 (0, 0)) ∧ v2.heap.size ≤ b4 ∧ v2.heap.size ≤ b5 ∧ b4 ≠ b5) := hide (by
   obtain ⟨k1, k2, k3, k4⟩ := uh K1
   have := k1.size
   exact ⟨k1.trans (X2.mono k1.size), (X2.block b4 k4).trans k2, N2, by omega, by omega, by omega⟩)
  clear X2 N2 hW2 hb5 K1 HS1
  obtain ⟨k1, k2, k3, k4, k5, k6⟩ := uh K2
  have YY2 := hide k1
  obtain ⟨c0, c1, c2, c3, c4⟩ := block5 k2
  obtain ⟨f0, f1, f2, f3, f4⟩ := fr5 k2
  obtain ⟨W3, hW3⟩ : ∃ W3, (((((W2.setCell ⟨b4, 0, none⟩ (.int .i64 p0)).setCell ⟨b4, 1, none⟩ (.int .i64 p1)).setCell ⟨b4, 2, none⟩ (.string p2)).setCell ⟨b4, 3, none⟩ (.slice p3 p4 p5)).setCell ⟨b4, 4, none⟩ (.slice p6 p7 p8)) = W3 := ⟨_, rfl⟩
  have M3 : W3.heap[b4]? = some (.cells #[.int .i64 p0, .int .i64 p1, .string p2, .slice p3 p4 p5, .slice p6 p7 p8] 25 (0, 0)) := by rw [← hW3]; exact set5P k2 _ _ _ _ _
  have O3 : ∀ b, b ≠ b4 → W3.heap[b]? = W2.heap[b]? := fun b hb => by rw [← hW3, heap_setCell_other _ _ _ _ hb, heap_setCell_other _ _ _ _ hb, heap_setCell_other _ _ _ _ hb, heap_setCell_other _ _ _ _ hb, heap_setCell_other _ _ _ _ hb]
  have Y3 : Below v2.heap.size v2 W3 := by rw [← hW3]; exact set5P_below (uh YY2) (by omega) _ _ _ _ _
  have N35 : W3.heap[b5]? = some (.cells #[.int .i64 0, .int .i64 0, .string ⟨#[]⟩, .slice none 0 0, .slice none 0 0] 25 (0, 0)) := (O3 b5 (Ne.symm k6)).trans k3
  have HS3 : Hid (W3.cell? ⟨gb, 5, none⟩ = some (.slice (some a) n cl) ∧ W3.cell? a = some (.int .i64 p0) ∧ W3.cell? ⟨a.block, a.off + 1, none⟩ = some (.int .i64 p1) ∧ W3.cell? ⟨a.block, a.off + 2, none⟩ = some (.string p2) ∧ W3.cell? ⟨a.block, a.off + 3, none⟩ = some (.slice p3 p4 p5) ∧ W3.cell? ⟨a.block, a.off + 4, none⟩ = some (.slice p6 p7 p8) ∧ W3.cell? ⟨a.block, a.off + 5, none⟩ = some (.int .i64 q0) ∧ W3.cell? ⟨a.block, a.off + 5 + 1, none⟩ = some (.int .i64 q1) ∧ W3.cell? ⟨a.block, a.off + 5 + 2, none⟩ = some (.string q2) ∧ W3.cell? ⟨a.block, a.off + 5 + 3, none⟩ = some (.slice q3 q4 q5) ∧ W3.cell? ⟨a.block, a.off + 5 + 4, none⟩ = some (.slice q6 q7 q8)) := hide ⟨(Y3.cell (p := ⟨gb, 5, none⟩) hlt0).trans t5, (Y3.cell (p := a) hlt1).trans hA00, (Y3.cell (p := ⟨a.block, a.off + 1, none⟩) hlt1).trans hA01, (Y3.cell (p := ⟨a.block, a.off + 2, none⟩) hlt1).trans hA02, (Y3.cell (p := ⟨a.block, a.off + 3, none⟩) hlt1).trans hA03, (Y3.cell (p := ⟨a.block, a.off + 4, none⟩) hlt1).trans hA04, (Y3.cell (p := ⟨a.block, a.off + 5, none⟩) hlt1).trans hA10, (Y3.cell (p := ⟨a.block, a.off + 5 + 1, none⟩) hlt1).trans hA11, (Y3.cell (p := ⟨a.block, a.off + 5 + 2, none⟩) hlt1).trans hA12, (Y3.cell (p := ⟨a.block, a.off + 5 + 3, none⟩) hlt1).trans hA13, (Y3.cell (p := ⟨a.block, a.off + 5 + 4, none⟩) hlt1).trans hA14⟩
  have K3 : Hid (Below v2.heap.size v2 W3 ∧ W3.heap[b4]? = some (.cells #[.int .i64 p0, .int .i64 p1, .string p2, .slice p3 p4 p5, .slice p6 p7 p8] 25 (0, 0)) ∧ W3.heap[b5]? = some (.cells #[.int .i64 0, .int .i64 0, .string ⟨#[]⟩, .slice none 0 0, .slice none 0 0] 25 (0, 0)) ∧ v2.heap.size ≤ b5 ∧ b4 ≠ b5) := hide ⟨Y3, M3, N35, k5, k6⟩
  clear M3 O3 Y3 N35 YY2 k1 k2 k3 k4 k5 k6 K2
  refine till_one 10 (by kernel_rfl) rfl (fun K hK => ?_)
  go_simp
  try rw [hW3]
  refine hK.out _ _ (Or.inr (uh HS3)) ?_
  clear hK K HS2 c0 c1 c2 c3 c4 f0 f1 f2 f3 f4 hW3
  try simp only [Act.put, setX]
  obtain ⟨k1, k2, k3, k4, k5⟩ := uh K3
  have YY3 := hide k1
  obtain ⟨c0, c1, c2, c3, c4⟩ := block5 k3
  obtain ⟨f0, f1, f2, f3, f4⟩ := fr5 k3
  obtain ⟨W4, hW4⟩ : ∃ W4, (((((W3.setCell ⟨b5, 0, none⟩ (.int .i64 q0)).setCell ⟨b5, 1, none⟩ (.int .i64 q1)).setCell ⟨b5, 2, none⟩ (.string q2)).setCell ⟨b5, 3, none⟩ (.slice q3 q4 q5)).setCell ⟨b5, 4, none⟩ (.slice q6 q7 q8)) = W4 := ⟨_, rfl⟩
  have M4 : W4.heap[b5]? = some (.cells #[.int .i64 q0, .int .i64 q1, .string q2, .slice q3 q4 q5, .slice q6 q7 q8] 25 (0, 0)) := by rw [← hW4]; exact set5P k3 _ _ _ _ _
  have O4 : ∀ b, b ≠ b5 → W4.heap[b]? = W3.heap[b]? := fun b hb => by rw [← hW4, heap_setCell_other _ _ _ _ hb, heap_setCell_other _ _ _ _ hb, heap_setCell_other _ _ _ _ hb, heap_setCell_other _ _ _ _ hb, heap_setCell_other _ _ _ _ hb]
  have Y4 : Below v2.heap.size v2 W4 := by rw [← hW4]; exact set5P_below (uh YY3) (by omega) _ _ _ _ _
  have N44 : W4.heap[b4]? = some (.cells #[.int .i64 p0, .int .i64 p1, .string p2, .slice p3 p4 p5, .slice p6 p7 p8] 25 (0, 0)) := (O4 b4 k5).trans k2
  have K4 : Hid (Below v2.heap.size v2 W4 ∧ W4.heap[b4]? = some (.cells #[.int .i64 p0, .int .i64 p1, .string p2, .slice p3 p4 p5, .slice p6 p7 p8] 25 (0, 0)) ∧ W4.heap[b5]? = some (.cells #[.int .i64 q0, .int .i64 q1, .string q2, .slice q3 q4 q5, .slice q6 q7 q8] 25 (0, 0))) := hide ⟨Y4, N44, M4⟩
  clear M4 O4 Y4 N44 YY3 k1 k2 k3 k4 k5 K3
  refine till_one 11 (by kernel_rfl) rfl (fun K hK => ?_)
  go_simp
  try rw [hW4]
  refine hK.out _ _ (Or.inl (by first | rfl | trivial)) ?_
  clear hK K HS3 c0 c1 c2 c3 c4 f0 f1 f2 f3 f4 hW4
  try simp only [Act.put, setX]
  refine till_done (by kernel_rfl) ?_ _
  obtain ⟨z0, z1, z2, z3, z4⟩ := block5 (uh K4).2.1
  obtain ⟨u0, u1, u2, u3, u4⟩ := block5 (uh K4).2.2
  have B4 := (uh HM).1.trans ((uh K4).1.mono (uh HM).1.size)
  have HV4 : Hid (IsV W4 B x (.agg #[.int .i64 p0, .int .i64 p1, .string p2, .slice p3 p4 p5, .slice p6 p7 p8]) ∧ IsV W4 B y (.agg #[.int .i64 q0, .int .i64 q1, .string q2, .slice q3 q4 q5, .slice q6 q7 q8]) ∧ B ≤ W4.heap.size) := hide ⟨IsV.mono (B4.mono (uh HBs)) (uh HXY).1, IsV.mono (B4.mono (uh HBs)) (uh HXY).2, Nat.le_trans (uh HBs) B4.size⟩
  clear B4
  rcases uh HK with hk | hk | hk
  ·subst hk
   have hrz : R = (nm (wrap64 (p1 + q1)), 0) := uh HA2 rfl
   have CN : Hid (Calls Tryz.prog 98 #[.int .i64 (wrap64 (p1 + q1))] W4 fun e w' => OpPost W4 R e w') := hide (by rw [hrz]; exact number_op (wrap64 (p1 + q1)) W4 (wr64 _))
   clear hrz
   go_wp2_with fail
   refine (uh CN).mono ?_
   rintro e W9 ⟨y0, y1, y2, y3, y4, y5, y6, y7, y8, t, rfl, ⟨ht, q5⟩, d5⟩
   have X5 : Below v2.heap.size v2 W9 := (uh K4).1.trans (d5.mono (uh K4).1.size)
   have ER : Hid (W9.heap[gr]? = some (.cells #[.int .i64 0, .int .i64 0, .string ⟨#[]⟩, .slice none 0 0, .slice none 0 0] 25 (0, 0))) := hide ((X5.block gr (uh HM).2.2.2.2).trans (uh HM).2.2.1)
   obtain ⟨r0z, r1z, r2z, r3z, r4z⟩ := block5 (uh ER)
   obtain ⟨f0, f1, f2, f3, f4⟩ := fr5 (uh ER)
   have HF9 : Hid (IsQ W9 (fun b => v2.heap.size ≤ b ∧ b < W9.heap.size) R.1 (.agg #[.int .i64 y0, .int .i64 y1, .string y2, .slice y3 y4 y5, .slice y6 y7 y8]) ∧ t = R.2 ∧ Below v2.heap.size v2 W9) := hide ⟨q5.weak (fun b hb => ⟨Nat.le_trans (uh K4).1.size hb.1, hb.2⟩), ht, X5⟩
   clear q5 d5 X5 ht CN z0 z1 z2 z3 z4 u0 u1 u2 u3 u4
   go_wp2_with fail
   (try simp only [Exit.inBlock, Exit.then])
   refine bodyPost_ret (ret_ct rfl _ _ gr #[.int .i64 y0, .int .i64 y1, .string y2, .slice y3 y4 y5, .slice y6 y7 y8] _ _ rfl (set5P (uh ER) _ _ _ _ _) Tryz.underlying25 rfl size_vl) rfl ?_
   exact op_fin (uh HM).1 (uh HM).2.2.2.1 (uh HM).2.2.2.2 (uh HF9).2.2 (uh HF9).1 (uh HF9).2.1
  ·subst hk
   have hrz : R = szV (.mk 3 0 (p2 ++ q2) [] []) := uh HA3 rfl
   have hz1 : p2.size ≤ 2048 := (uh HSZ).1
   have hz2 : q2.size ≤ 2048 := (uh HSZ).2.1
   have hz3 : (p2 ++ q2).size = p2.size + q2.size := ByteArray.size_append
   have hz4 : ¬ 9223372036854775807 < p2.size + q2.size := by omega
   have CN : Hid (Calls Tryz.prog 99 #[.agg #[.int .i64 3, .int .i64 0, .string (p2 ++ q2), .slice none 0 0, .slice none 0 0]] W4 fun e w' => OpPost W4 R e w') := hide (by rw [hrz]; exact sized_op (.mk 3 0 (p2 ++ q2) [] []) _ W4.heap.size W4 (leaf_isQ W4 (fun b => b < W4.heap.size) 3 0 (p2 ++ q2) (by omega) (by omega) (by omega)).1 (Nat.le_refl _))
   clear hrz hz3
   go_wp2_with fail
   refine (uh CN).mono ?_
   rintro e W9 ⟨y0, y1, y2, y3, y4, y5, y6, y7, y8, t, rfl, ⟨ht, q5⟩, d5⟩
   have X5 : Below v2.heap.size v2 W9 := (uh K4).1.trans (d5.mono (uh K4).1.size)
   have ER : Hid (W9.heap[gr]? = some (.cells #[.int .i64 0, .int .i64 0, .string ⟨#[]⟩, .slice none 0 0, .slice none 0 0] 25 (0, 0))) := hide ((X5.block gr (uh HM).2.2.2.2).trans (uh HM).2.2.1)
   obtain ⟨r0z, r1z, r2z, r3z, r4z⟩ := block5 (uh ER)
   obtain ⟨f0, f1, f2, f3, f4⟩ := fr5 (uh ER)
   have HF9 : Hid (IsQ W9 (fun b => v2.heap.size ≤ b ∧ b < W9.heap.size) R.1 (.agg #[.int .i64 y0, .int .i64 y1, .string y2, .slice y3 y4 y5, .slice y6 y7 y8]) ∧ t = R.2 ∧ Below v2.heap.size v2 W9) := hide ⟨q5.weak (fun b hb => ⟨Nat.le_trans (uh K4).1.size hb.1, hb.2⟩), ht, X5⟩
   clear q5 d5 X5 ht CN z0 z1 z2 z3 z4 u0 u1 u2 u3 u4
   go_wp2_with fail
   (try simp only [Exit.inBlock, Exit.then])
   refine bodyPost_ret (ret_ct rfl _ _ gr #[.int .i64 y0, .int .i64 y1, .string y2, .slice y3 y4 y5, .slice y6 y7 y8] _ _ rfl (set5P (uh ER) _ _ _ _ _) Tryz.underlying25 rfl size_vl) rfl ?_
   exact op_fin (uh HM).1 (uh HM).2.2.2.1 (uh HM).2.2.2.2 (uh HF9).2.2 (uh HF9).1 (uh HF9).2.1
  ·subst hk
   have HRZ : Hid (R = szV (.mk 4 0 ⟨#[]⟩ (x.l ++ y.l) [])) := hide (uh HA4 rfl)
   have HEL : Hid (∃ C D, ElsV W4 B x.l C ∧ ElsV W4 B y.l D ∧ Shows W4 p3 p4 p5 5 C.flatten ∧ Shows W4 q3 q4 q5 5 D.flatten ∧ p4 = x.l.length ∧ q4 = y.l.length) := hide (by
    obtain ⟨k1, n1, s1, l1, ks1⟩ := x
    obtain ⟨k2, n2, s2, l2, ks2⟩ := y
    obtain ⟨e1, C, c1, c2⟩ := els_of (uh HV4).1
    obtain ⟨e2, D, d1, d2⟩ := els_of (uh HV4).2.1
    exact ⟨C, D, c1, d1, c2, d2, e1, e2⟩)
   obtain ⟨C, D, hel⟩ := uh HEL
   have HEL2 := hide hel
   have hl4 : p4 ≤ 2048 := by rw [hel.2.2.2.2.1]; exact (uh HSZ).2.2.1
   have hl5 : q4 ≤ 2048 := by rw [hel.2.2.2.2.2]; exact (uh HSZ).2.2.2
   clear hel HEL
   obtain ⟨W5, hW5⟩ : ∃ W5, W4.alloc (.cells #[.slice p3 p4 p5, .slice q3 q4 q5] 22) = W5 := ⟨_, rfl⟩
   obtain ⟨gs, hgs⟩ : ∃ gs, W4.heap.size = gs := ⟨_, rfl⟩
   have M5 : W5.heap[gs]? = some (.cells #[.slice p3 p4 p5, .slice q3 q4 q5] 22 (0, 0)) := by rw [← hW5, ← hgs]; exact heap_alloc_new W4 _
   have X5 : Below W4.heap.size W4 W5 := by rw [← hW5]; exact (Below.refl _ _).alloc (Nat.le_refl _) _
   have CC := hide (concatV_two gs _ p3 q3 p4 p5 q4 q5 C.flatten D.flatten W5 M5 ((uh HEL2).2.2.1.later X5) ((uh HEL2).2.2.2.1.later X5) (by omega))
   have HX5 := hide X5
   clear M5 X5
   go_wp2_with fail
   refine (uh CC).mono ?_
   rintro e W6 ⟨sv, rfl, own6, d6⟩
   have X6 : Below W4.heap.size W4 W6 := (uh HX5).trans (d6.mono (uh HX5).size)
   have E6 : ElsV W6 B (x.l ++ y.l) (C ++ D) := ((uh HEL2).1.app (uh HEL2).2.1).later (X6.mono (uh HV4).2.2)
   obtain ⟨a6, c6, hsv, V6⟩ := own_val (C := C ++ D) (by rw [List.flatten_append]; exact own6) E6 (by rw [List.length_append, ← (uh HEL2).2.2.2.2.1, ← (uh HEL2).2.2.2.2.2]) (Nat.le_trans (uh HV4).2.2 X6.size) (by omega)
   subst hsv
   have CN : Hid (Calls Tryz.prog 99 #[.agg #[.int .i64 4, .int .i64 0, .string ⟨#[]⟩, .slice a6 (p4 + q4) c6, .slice none 0 0]] W6 fun e w' => OpPost W6 R e w') := hide (by rw [uh HRZ]; exact sized_op (.mk 4 0 ⟨#[]⟩ (x.l ++ y.l) []) _ W6.heap.size W6 V6 (Nat.le_refl _))
   have HX6 := hide ((uh K4).1.trans (X6.mono (uh K4).1.size))
   clear own6 d6 X6 E6 V6 CC HX5 HEL2 HV4 z0 z1 z2 z3 z4 u0 u1 u2 u3 u4
   go_wp2_with fail
   refine (uh CN).mono ?_
   rintro e W9 ⟨y0, y1, y2, y3, y4, y5, y6, y7, y8, t, rfl, ⟨ht, q5⟩, d5⟩
   have X5 : Below v2.heap.size v2 W9 := (uh HX6).trans (d5.mono (uh HX6).size)
   have ER : Hid (W9.heap[gr]? = some (.cells #[.int .i64 0, .int .i64 0, .string ⟨#[]⟩, .slice none 0 0, .slice none 0 0] 25 (0, 0))) := hide ((X5.block gr (uh HM).2.2.2.2).trans (uh HM).2.2.1)
   obtain ⟨r0z, r1z, r2z, r3z, r4z⟩ := block5 (uh ER)
   obtain ⟨f0, f1, f2, f3, f4⟩ := fr5 (uh ER)
   have HF9 : Hid (IsQ W9 (fun b => v2.heap.size ≤ b ∧ b < W9.heap.size) R.1 (.agg #[.int .i64 y0, .int .i64 y1, .string y2, .slice y3 y4 y5, .slice y6 y7 y8]) ∧ t = R.2 ∧ Below v2.heap.size v2 W9) := hide ⟨q5.weak (fun b hb => ⟨Nat.le_trans (uh HX6).size hb.1, hb.2⟩), ht, X5⟩
   clear q5 d5 X5 ht CN 
   go_wp2_with fail
   (try simp only [Exit.inBlock, Exit.then])
   refine bodyPost_ret (ret_ct rfl _ _ gr #[.int .i64 y0, .int .i64 y1, .string y2, .slice y3 y4 y5, .slice y6 y7 y8] _ _ rfl (set5P (uh ER) _ _ _ _ _) Tryz.underlying25 rfl size_vl) rfl ?_
   exact op_fin (uh HM).1 (uh HM).2.2.2.1 (uh HM).2.2.2.2 (uh HF9).2.2 (uh HF9).1 (uh HF9).2.1
 ·go_simp
  obtain ⟨W1, hW1⟩ : ∃ W1, W0.alloc (.cells #[.int .i64 0, .int .i64 0, .string ⟨#[]⟩, .slice none 0 0, .slice none 0 0] 25) = W1 := ⟨_, rfl⟩
  have X1 : Below W0.heap.size W0 W1 := by rw [← hW1]; exact (Below.refl _ _).alloc (Nat.le_refl _) _
  obtain ⟨b5, hb5⟩ : ∃ b5, W0.heap.size = b5 := ⟨_, rfl⟩
  have N1 : W1.heap[b5]? = some (.cells #[.int .i64 0, .int .i64 0, .string ⟨#[]⟩, .slice none 0 0, .slice none 0 0] 25 (0, 0)) := by rw [← hW1, ← hb5]; exact heap_alloc_new W0 _
  try rw [hW1]
  try rw [hb5]
  have HS1 : Hid (W1.cell? ⟨gb, 5, none⟩ = some (.slice (some a) n cl) ∧ W1.cell? a = some (.int .i64 p0) ∧ W1.cell? ⟨a.block, a.off + 1, none⟩ = some (.int .i64 p1) ∧ W1.cell? ⟨a.block, a.off + 2, none⟩ = some (.string p2) ∧ W1.cell? ⟨a.block, a.off + 3, none⟩ = some (.slice p3 p4 p5) ∧ W1.cell? ⟨a.block, a.off + 4, none⟩ = some (.slice p6 p7 p8) ∧ W1.cell? ⟨a.block, a.off + 5, none⟩ = some (.int .i64 q0) ∧ W1.cell? ⟨a.block, a.off + 5 + 1, none⟩ = some (.int .i64 q1) ∧ W1.cell? ⟨a.block, a.off + 5 + 2, none⟩ = some (.string q2) ∧ W1.cell? ⟨a.block, a.off + 5 + 3, none⟩ = some (.slice q3 q4 q5) ∧ W1.cell? ⟨a.block, a.off + 5 + 4, none⟩ = some (.slice q6 q7 q8)) := hide ⟨cell_later X1 ((uh HS0).1), cell_later X1 ((uh HS0).2.1), cell_later X1 ((uh HS0).2.2.1), cell_later X1 ((uh HS0).2.2.2.1), cell_later X1 ((uh HS0).2.2.2.2.1), cell_later X1 ((uh HS0).2.2.2.2.2.1), cell_later X1 ((uh HS0).2.2.2.2.2.2.1), cell_later X1 ((uh HS0).2.2.2.2.2.2.2.1), cell_later X1 ((uh HS0).2.2.2.2.2.2.2.2.1), cell_later X1 ((uh HS0).2.2.2.2.2.2.2.2.2.1), cell_later X1 ((uh HS0).2.2.2.2.2.2.2.2.2.2)⟩
  refine hK.out _ _ (Or.inr (uh HS1)) ?_
  clear hK K
  try simp only [Act.put, setX]
  have K1 : Hid (Below v2.heap.size v2 W1 ∧ W1.heap[b5]? = some (.cells #[.int .i64 0, .int .i64 0, .string ⟨#[]⟩, .slice none 0 0, .slice none 0 0] 25 (0, 0)) ∧ v2.heap.size ≤ b5 ∧ b5 < W1.heap.size) := hide ⟨uh HW0 _ X1, N1, by rw [← hb5, ← hs0]; exact Nat.le_refl _, (Array.getElem?_eq_some_iff.1 N1).1⟩
  clear X1 N1 hW1 hb5 HS0
  refine till_one 8 (by kernel_rfl) rfl (fun K hK => ?_)
  go_simp
  obtain ⟨W2, hW2⟩ : ∃ W2, W1.alloc (.cells #[.int .i64 0, .int .i64 0, .string ⟨#[]⟩, .slice none 0 0, .slice none 0 0] 25) = W2 := ⟨_, rfl⟩
  have X2 : Below W1.heap.size W1 W2 := by rw [← hW2]; exact (Below.refl _ _).alloc (Nat.le_refl _) _
  obtain ⟨b4, hb4⟩ : ∃ b4, W1.heap.size = b4 := ⟨_, rfl⟩
  have N2 : W2.heap[b4]? = some (.cells #[.int .i64 0, .int .i64 0, .string ⟨#[]⟩, .slice none 0 0, .slice none 0 0] 25 (0, 0)) := by rw [← hW2, ← hb4]; exact heap_alloc_new W1 _
  try rw [hW2]
  try rw [hb4]
  have HS2 : Hid (W2.cell? ⟨gb, 5, none⟩ = some (.slice (some a) n cl) ∧ W2.cell? a = some (.int .i64 p0) ∧ W2.cell? ⟨a.block, a.off + 1, none⟩ = some (.int .i64 p1) ∧ W2.cell? ⟨a.block, a.off + 2, none⟩ = some (.string p2) ∧ W2.cell? ⟨a.block, a.off + 3, none⟩ = some (.slice p3 p4 p5) ∧ W2.cell? ⟨a.block, a.off + 4, none⟩ = some (.slice p6 p7 p8) ∧ W2.cell? ⟨a.block, a.off + 5, none⟩ = some (.int .i64 q0) ∧ W2.cell? ⟨a.block, a.off + 5 + 1, none⟩ = some (.int .i64 q1) ∧ W2.cell? ⟨a.block, a.off + 5 + 2, none⟩ = some (.string q2) ∧ W2.cell? ⟨a.block, a.off + 5 + 3, none⟩ = some (.slice q3 q4 q5) ∧ W2.cell? ⟨a.block, a.off + 5 + 4, none⟩ = some (.slice q6 q7 q8)) := hide ⟨cell_later X2 ((uh HS1).1), cell_later X2 ((uh HS1).2.1), cell_later X2 ((uh HS1).2.2.1), cell_later X2 ((uh HS1).2.2.2.1), cell_later X2 ((uh HS1).2.2.2.2.1), cell_later X2 ((uh HS1).2.2.2.2.2.1), cell_later X2 ((uh HS1).2.2.2.2.2.2.1), cell_later X2 ((uh HS1).2.2.2.2.2.2.2.1), cell_later X2 ((uh HS1).2.2.2.2.2.2.2.2.1), cell_later X2 ((uh HS1).2.2.2.2.2.2.2.2.2.1), cell_later X2 ((uh HS1).2.2.2.2.2.2.2.2.2.2)⟩
  refine hK.out _ _ (Or.inr (uh HS2)) ?_
  clear hK K
  try simp only [Act.put, setX]
  have K2 : Hid (Below v2.heap.size v2 W2 ∧ W2.heap[b4]? = some (.cells #[.int .i64 0, .int .i64 0, .string ⟨#[]⟩, .slice none 0 0, .slice none 0 0] 25 (0, 0)) ∧ W2.heap[b5]? = some (.cells #[.int .i64 0, .int .i64 0, .string ⟨#[]⟩, .slice none 0 0, .slice none 0 0] 25 (0, 0)) ∧ v2.heap.size ≤ b4 ∧ v2.heap.size ≤ b5 ∧ b4 ≠ b5) := hide (by
   obtain ⟨k1, k2, k3, k4⟩ := uh K1
   have := k1.size
   exact ⟨k1.trans (X2.mono k1.size), N2, (X2.block b5 k4).trans k2, by omega, by omega, by omega⟩)
  clear X2 N2 hW2 hb4 K1 HS1
  obtain ⟨k1, k2, k3, k4, k5, k6⟩ := uh K2
  have YY2 := hide k1
  obtain ⟨c0, c1, c2, c3, c4⟩ := block5 k2
  obtain ⟨f0, f1, f2, f3, f4⟩ := fr5 k2
  obtain ⟨W3, hW3⟩ : ∃ W3, (((((W2.setCell ⟨b4, 0, none⟩ (.int .i64 p0)).setCell ⟨b4, 1, none⟩ (.int .i64 p1)).setCell ⟨b4, 2, none⟩ (.string p2)).setCell ⟨b4, 3, none⟩ (.slice p3 p4 p5)).setCell ⟨b4, 4, none⟩ (.slice p6 p7 p8)) = W3 := ⟨_, rfl⟩
  have M3 : W3.heap[b4]? = some (.cells #[.int .i64 p0, .int .i64 p1, .string p2, .slice p3 p4 p5, .slice p6 p7 p8] 25 (0, 0)) := by rw [← hW3]; exact set5P k2 _ _ _ _ _
  have O3 : ∀ b, b ≠ b4 → W3.heap[b]? = W2.heap[b]? := fun b hb => by rw [← hW3, heap_setCell_other _ _ _ _ hb, heap_setCell_other _ _ _ _ hb, heap_setCell_other _ _ _ _ hb, heap_setCell_other _ _ _ _ hb, heap_setCell_other _ _ _ _ hb]
  have Y3 : Below v2.heap.size v2 W3 := by rw [← hW3]; exact set5P_below (uh YY2) (by omega) _ _ _ _ _
  have N35 : W3.heap[b5]? = some (.cells #[.int .i64 0, .int .i64 0, .string ⟨#[]⟩, .slice none 0 0, .slice none 0 0] 25 (0, 0)) := (O3 b5 (Ne.symm k6)).trans k3
  have HS3 : Hid (W3.cell? ⟨gb, 5, none⟩ = some (.slice (some a) n cl) ∧ W3.cell? a = some (.int .i64 p0) ∧ W3.cell? ⟨a.block, a.off + 1, none⟩ = some (.int .i64 p1) ∧ W3.cell? ⟨a.block, a.off + 2, none⟩ = some (.string p2) ∧ W3.cell? ⟨a.block, a.off + 3, none⟩ = some (.slice p3 p4 p5) ∧ W3.cell? ⟨a.block, a.off + 4, none⟩ = some (.slice p6 p7 p8) ∧ W3.cell? ⟨a.block, a.off + 5, none⟩ = some (.int .i64 q0) ∧ W3.cell? ⟨a.block, a.off + 5 + 1, none⟩ = some (.int .i64 q1) ∧ W3.cell? ⟨a.block, a.off + 5 + 2, none⟩ = some (.string q2) ∧ W3.cell? ⟨a.block, a.off + 5 + 3, none⟩ = some (.slice q3 q4 q5) ∧ W3.cell? ⟨a.block, a.off + 5 + 4, none⟩ = some (.slice q6 q7 q8)) := hide ⟨(Y3.cell (p := ⟨gb, 5, none⟩) hlt0).trans t5, (Y3.cell (p := a) hlt1).trans hA00, (Y3.cell (p := ⟨a.block, a.off + 1, none⟩) hlt1).trans hA01, (Y3.cell (p := ⟨a.block, a.off + 2, none⟩) hlt1).trans hA02, (Y3.cell (p := ⟨a.block, a.off + 3, none⟩) hlt1).trans hA03, (Y3.cell (p := ⟨a.block, a.off + 4, none⟩) hlt1).trans hA04, (Y3.cell (p := ⟨a.block, a.off + 5, none⟩) hlt1).trans hA10, (Y3.cell (p := ⟨a.block, a.off + 5 + 1, none⟩) hlt1).trans hA11, (Y3.cell (p := ⟨a.block, a.off + 5 + 2, none⟩) hlt1).trans hA12, (Y3.cell (p := ⟨a.block, a.off + 5 + 3, none⟩) hlt1).trans hA13, (Y3.cell (p := ⟨a.block, a.off + 5 + 4, none⟩) hlt1).trans hA14⟩
  have K3 : Hid (Below v2.heap.size v2 W3 ∧ W3.heap[b4]? = some (.cells #[.int .i64 p0, .int .i64 p1, .string p2, .slice p3 p4 p5, .slice p6 p7 p8] 25 (0, 0)) ∧ W3.heap[b5]? = some (.cells #[.int .i64 0, .int .i64 0, .string ⟨#[]⟩, .slice none 0 0, .slice none 0 0] 25 (0, 0)) ∧ v2.heap.size ≤ b5 ∧ b4 ≠ b5) := hide ⟨Y3, M3, N35, k5, k6⟩
  clear M3 O3 Y3 N35 YY2 k1 k2 k3 k4 k5 k6 K2
  refine till_one 10 (by kernel_rfl) rfl (fun K hK => ?_)
  go_simp
  try rw [hW3]
  refine hK.out _ _ (Or.inr (uh HS3)) ?_
  clear hK K HS2 c0 c1 c2 c3 c4 f0 f1 f2 f3 f4 hW3
  try simp only [Act.put, setX]
  obtain ⟨k1, k2, k3, k4, k5⟩ := uh K3
  have YY3 := hide k1
  obtain ⟨c0, c1, c2, c3, c4⟩ := block5 k3
  obtain ⟨f0, f1, f2, f3, f4⟩ := fr5 k3
  obtain ⟨W4, hW4⟩ : ∃ W4, (((((W3.setCell ⟨b5, 0, none⟩ (.int .i64 q0)).setCell ⟨b5, 1, none⟩ (.int .i64 q1)).setCell ⟨b5, 2, none⟩ (.string q2)).setCell ⟨b5, 3, none⟩ (.slice q3 q4 q5)).setCell ⟨b5, 4, none⟩ (.slice q6 q7 q8)) = W4 := ⟨_, rfl⟩
  have M4 : W4.heap[b5]? = some (.cells #[.int .i64 q0, .int .i64 q1, .string q2, .slice q3 q4 q5, .slice q6 q7 q8] 25 (0, 0)) := by rw [← hW4]; exact set5P k3 _ _ _ _ _
  have O4 : ∀ b, b ≠ b5 → W4.heap[b]? = W3.heap[b]? := fun b hb => by rw [← hW4, heap_setCell_other _ _ _ _ hb, heap_setCell_other _ _ _ _ hb, heap_setCell_other _ _ _ _ hb, heap_setCell_other _ _ _ _ hb, heap_setCell_other _ _ _ _ hb]
  have Y4 : Below v2.heap.size v2 W4 := by rw [← hW4]; exact set5P_below (uh YY3) (by omega) _ _ _ _ _
  have N44 : W4.heap[b4]? = some (.cells #[.int .i64 p0, .int .i64 p1, .string p2, .slice p3 p4 p5, .slice p6 p7 p8] 25 (0, 0)) := (O4 b4 k5).trans k2
  have K4 : Hid (Below v2.heap.size v2 W4 ∧ W4.heap[b4]? = some (.cells #[.int .i64 p0, .int .i64 p1, .string p2, .slice p3 p4 p5, .slice p6 p7 p8] 25 (0, 0)) ∧ W4.heap[b5]? = some (.cells #[.int .i64 q0, .int .i64 q1, .string q2, .slice q3 q4 q5, .slice q6 q7 q8] 25 (0, 0))) := hide ⟨Y4, N44, M4⟩
  clear M4 O4 Y4 N44 YY3 k1 k2 k3 k4 k5 K3
  refine till_one 11 (by kernel_rfl) rfl (fun K hK => ?_)
  go_simp
  try rw [hW4]
  refine hK.out _ _ (Or.inl (by first | rfl | trivial)) ?_
  clear hK K HS3 c0 c1 c2 c3 c4 f0 f1 f2 f3 f4 hW4
  try simp only [Act.put, setX]
  refine till_done (by kernel_rfl) ?_ _
  obtain ⟨z0, z1, z2, z3, z4⟩ := block5 (uh K4).2.1
  obtain ⟨u0, u1, u2, u3, u4⟩ := block5 (uh K4).2.2
  have B4 := (uh HM).1.trans ((uh K4).1.mono (uh HM).1.size)
  have HV4 : Hid (IsV W4 B x (.agg #[.int .i64 p0, .int .i64 p1, .string p2, .slice p3 p4 p5, .slice p6 p7 p8]) ∧ IsV W4 B y (.agg #[.int .i64 q0, .int .i64 q1, .string q2, .slice q3 q4 q5, .slice q6 q7 q8]) ∧ B ≤ W4.heap.size) := hide ⟨IsV.mono (B4.mono (uh HBs)) (uh HXY).1, IsV.mono (B4.mono (uh HBs)) (uh HXY).2, Nat.le_trans (uh HBs) B4.size⟩
  clear B4
  rcases uh HK with hk | hk | hk
  ·subst hk
   have hrz : R = (nm (wrap64 (p1 + q1)), 0) := uh HA2 rfl
   have CN : Hid (Calls Tryz.prog 98 #[.int .i64 (wrap64 (p1 + q1))] W4 fun e w' => OpPost W4 R e w') := hide (by rw [hrz]; exact number_op (wrap64 (p1 + q1)) W4 (wr64 _))
   clear hrz
   go_wp2_with fail
   refine (uh CN).mono ?_
   rintro e W9 ⟨y0, y1, y2, y3, y4, y5, y6, y7, y8, t, rfl, ⟨ht, q5⟩, d5⟩
   have X5 : Below v2.heap.size v2 W9 := (uh K4).1.trans (d5.mono (uh K4).1.size)
   have ER : Hid (W9.heap[gr]? = some (.cells #[.int .i64 0, .int .i64 0, .string ⟨#[]⟩, .slice none 0 0, .slice none 0 0] 25 (0, 0))) := hide ((X5.block gr (uh HM).2.2.2.2).trans (uh HM).2.2.1)
   obtain ⟨r0z, r1z, r2z, r3z, r4z⟩ := block5 (uh ER)
   obtain ⟨f0, f1, f2, f3, f4⟩ := fr5 (uh ER)
   have HF9 : Hid (IsQ W9 (fun b => v2.heap.size ≤ b ∧ b < W9.heap.size) R.1 (.agg #[.int .i64 y0, .int .i64 y1, .string y2, .slice y3 y4 y5, .slice y6 y7 y8]) ∧ t = R.2 ∧ Below v2.heap.size v2 W9) := hide ⟨q5.weak (fun b hb => ⟨Nat.le_trans (uh K4).1.size hb.1, hb.2⟩), ht, X5⟩
   clear q5 d5 X5 ht CN z0 z1 z2 z3 z4 u0 u1 u2 u3 u4
   go_wp2_with fail
   (try simp only [Exit.inBlock, Exit.then])
   refine bodyPost_ret (ret_ct rfl _ _ gr #[.int .i64 y0, .int .i64 y1, .string y2, .slice y3 y4 y5, .slice y6 y7 y8] _ _ rfl (set5P (uh ER) _ _ _ _ _) Tryz.underlying25 rfl size_vl) rfl ?_
   exact op_fin (uh HM).1 (uh HM).2.2.2.1 (uh HM).2.2.2.2 (uh HF9).2.2 (uh HF9).1 (uh HF9).2.1
  ·subst hk
   have hrz : R = szV (.mk 3 0 (p2 ++ q2) [] []) := uh HA3 rfl
   have hz1 : p2.size ≤ 2048 := (uh HSZ).1
   have hz2 : q2.size ≤ 2048 := (uh HSZ).2.1
   have hz3 : (p2 ++ q2).size = p2.size + q2.size := ByteArray.size_append
   have hz4 : ¬ 9223372036854775807 < p2.size + q2.size := by omega
   have CN : Hid (Calls Tryz.prog 99 #[.agg #[.int .i64 3, .int .i64 0, .string (p2 ++ q2), .slice none 0 0, .slice none 0 0]] W4 fun e w' => OpPost W4 R e w') := hide (by rw [hrz]; exact sized_op (.mk 3 0 (p2 ++ q2) [] []) _ W4.heap.size W4 (leaf_isQ W4 (fun b => b < W4.heap.size) 3 0 (p2 ++ q2) (by omega) (by omega) (by omega)).1 (Nat.le_refl _))
   clear hrz hz3
   go_wp2_with fail
   refine (uh CN).mono ?_
   rintro e W9 ⟨y0, y1, y2, y3, y4, y5, y6, y7, y8, t, rfl, ⟨ht, q5⟩, d5⟩
   have X5 : Below v2.heap.size v2 W9 := (uh K4).1.trans (d5.mono (uh K4).1.size)
   have ER : Hid (W9.heap[gr]? = some (.cells #[.int .i64 0, .int .i64 0, .string ⟨#[]⟩, .slice none 0 0, .slice none 0 0] 25 (0, 0))) := hide ((X5.block gr (uh HM).2.2.2.2).trans (uh HM).2.2.1)
   obtain ⟨r0z, r1z, r2z, r3z, r4z⟩ := block5 (uh ER)
   obtain ⟨f0, f1, f2, f3, f4⟩ := fr5 (uh ER)
   have HF9 : Hid (IsQ W9 (fun b => v2.heap.size ≤ b ∧ b < W9.heap.size) R.1 (.agg #[.int .i64 y0, .int .i64 y1, .string y2, .slice y3 y4 y5, .slice y6 y7 y8]) ∧ t = R.2 ∧ Below v2.heap.size v2 W9) := hide ⟨q5.weak (fun b hb => ⟨Nat.le_trans (uh K4).1.size hb.1, hb.2⟩), ht, X5⟩
   clear q5 d5 X5 ht CN z0 z1 z2 z3 z4 u0 u1 u2 u3 u4
   go_wp2_with fail
   (try simp only [Exit.inBlock, Exit.then])
   refine bodyPost_ret (ret_ct rfl _ _ gr #[.int .i64 y0, .int .i64 y1, .string y2, .slice y3 y4 y5, .slice y6 y7 y8] _ _ rfl (set5P (uh ER) _ _ _ _ _) Tryz.underlying25 rfl size_vl) rfl ?_
   exact op_fin (uh HM).1 (uh HM).2.2.2.1 (uh HM).2.2.2.2 (uh HF9).2.2 (uh HF9).1 (uh HF9).2.1
  ·subst hk
   have HRZ : Hid (R = szV (.mk 4 0 ⟨#[]⟩ (x.l ++ y.l) [])) := hide (uh HA4 rfl)
   have HEL : Hid (∃ C D, ElsV W4 B x.l C ∧ ElsV W4 B y.l D ∧ Shows W4 p3 p4 p5 5 C.flatten ∧ Shows W4 q3 q4 q5 5 D.flatten ∧ p4 = x.l.length ∧ q4 = y.l.length) := hide (by
    obtain ⟨k1, n1, s1, l1, ks1⟩ := x
    obtain ⟨k2, n2, s2, l2, ks2⟩ := y
    obtain ⟨e1, C, c1, c2⟩ := els_of (uh HV4).1
    obtain ⟨e2, D, d1, d2⟩ := els_of (uh HV4).2.1
    exact ⟨C, D, c1, d1, c2, d2, e1, e2⟩)
   obtain ⟨C, D, hel⟩ := uh HEL
   have HEL2 := hide hel
   have hl4 : p4 ≤ 2048 := by rw [hel.2.2.2.2.1]; exact (uh HSZ).2.2.1
   have hl5 : q4 ≤ 2048 := by rw [hel.2.2.2.2.2]; exact (uh HSZ).2.2.2
   clear hel HEL
   obtain ⟨W5, hW5⟩ : ∃ W5, W4.alloc (.cells #[.slice p3 p4 p5, .slice q3 q4 q5] 22) = W5 := ⟨_, rfl⟩
   obtain ⟨gs, hgs⟩ : ∃ gs, W4.heap.size = gs := ⟨_, rfl⟩
   have M5 : W5.heap[gs]? = some (.cells #[.slice p3 p4 p5, .slice q3 q4 q5] 22 (0, 0)) := by rw [← hW5, ← hgs]; exact heap_alloc_new W4 _
   have X5 : Below W4.heap.size W4 W5 := by rw [← hW5]; exact (Below.refl _ _).alloc (Nat.le_refl _) _
   have CC := hide (concatV_two gs _ p3 q3 p4 p5 q4 q5 C.flatten D.flatten W5 M5 ((uh HEL2).2.2.1.later X5) ((uh HEL2).2.2.2.1.later X5) (by omega))
   have HX5 := hide X5
   clear M5 X5
   go_wp2_with fail
   refine (uh CC).mono ?_
   rintro e W6 ⟨sv, rfl, own6, d6⟩
   have X6 : Below W4.heap.size W4 W6 := (uh HX5).trans (d6.mono (uh HX5).size)
   have E6 : ElsV W6 B (x.l ++ y.l) (C ++ D) := ((uh HEL2).1.app (uh HEL2).2.1).later (X6.mono (uh HV4).2.2)
   obtain ⟨a6, c6, hsv, V6⟩ := own_val (C := C ++ D) (by rw [List.flatten_append]; exact own6) E6 (by rw [List.length_append, ← (uh HEL2).2.2.2.2.1, ← (uh HEL2).2.2.2.2.2]) (Nat.le_trans (uh HV4).2.2 X6.size) (by omega)
   subst hsv
   have CN : Hid (Calls Tryz.prog 99 #[.agg #[.int .i64 4, .int .i64 0, .string ⟨#[]⟩, .slice a6 (p4 + q4) c6, .slice none 0 0]] W6 fun e w' => OpPost W6 R e w') := hide (by rw [uh HRZ]; exact sized_op (.mk 4 0 ⟨#[]⟩ (x.l ++ y.l) []) _ W6.heap.size W6 V6 (Nat.le_refl _))
   have HX6 := hide ((uh K4).1.trans (X6.mono (uh K4).1.size))
   clear own6 d6 X6 E6 V6 CC HX5 HEL2 HV4 z0 z1 z2 z3 z4 u0 u1 u2 u3 u4
   go_wp2_with fail
   refine (uh CN).mono ?_
   rintro e W9 ⟨y0, y1, y2, y3, y4, y5, y6, y7, y8, t, rfl, ⟨ht, q5⟩, d5⟩
   have X5 : Below v2.heap.size v2 W9 := (uh HX6).trans (d5.mono (uh HX6).size)
   have ER : Hid (W9.heap[gr]? = some (.cells #[.int .i64 0, .int .i64 0, .string ⟨#[]⟩, .slice none 0 0, .slice none 0 0] 25 (0, 0))) := hide ((X5.block gr (uh HM).2.2.2.2).trans (uh HM).2.2.1)
   obtain ⟨r0z, r1z, r2z, r3z, r4z⟩ := block5 (uh ER)
   obtain ⟨f0, f1, f2, f3, f4⟩ := fr5 (uh ER)
   have HF9 : Hid (IsQ W9 (fun b => v2.heap.size ≤ b ∧ b < W9.heap.size) R.1 (.agg #[.int .i64 y0, .int .i64 y1, .string y2, .slice y3 y4 y5, .slice y6 y7 y8]) ∧ t = R.2 ∧ Below v2.heap.size v2 W9) := hide ⟨q5.weak (fun b hb => ⟨Nat.le_trans (uh HX6).size hb.1, hb.2⟩), ht, X5⟩
   clear q5 d5 X5 ht CN 
   go_wp2_with fail
   (try simp only [Exit.inBlock, Exit.then])
   refine bodyPost_ret (ret_ct rfl _ _ gr #[.int .i64 y0, .int .i64 y1, .string y2, .slice y3 y4 y5, .slice y6 y7 y8] _ _ rfl (set5P (uh ER) _ _ _ _ _) Tryz.underlying25 rfl size_vl) rfl ?_
   exact op_fin (uh HM).1 (uh HM).2.2.2.1 (uh HM).2.2.2.2 (uh HF9).2.2 (uh HF9).1 (uh HF9).2.1
end Go.Proofs.YtgkmdjmigehmeaaGreatDoor
