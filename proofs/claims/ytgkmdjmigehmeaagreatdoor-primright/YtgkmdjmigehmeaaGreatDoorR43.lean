/-
  has (prim); no conditions but the form's own reach.
-/
import Derived.Test.YtgkmdjmigehmeaaGreatDoorR41
namespace Go.Proofs.YtgkmdjmigehmeaaGreatDoor
set_option linter.unusedVariables false
set_option linter.unusedSimpArgs false
set_option maxRecDepth 100000
set_option maxHeartbeats 16000000
open Go.RowKit Go.Shelf
def hasV (x : Vl) (k : ByteArray) : Vl × Int := (tv (placeK x.ks k).isSome, 0)
theorem has_op (e0 e1 : Int) (e2 : ByteArray) (e3 : Option Addr) (e4 e5 : Nat) (e6 : Option Addr) (e7 e8 : Nat) (a : Addr) (n cl : Nat) (p0 p1 : Int) (p2 : ByteArray) (p3 : Option Addr) (p4 p5 : Nat) (p6 : Option Addr) (p7 p8 : Nat) (q0 q1 : Int) (q2 : ByteArray) (q3 : Option Addr) (q4 q5 : Nat) (q6 : Option Addr) (q7 q8 : Nat) (x y : Vl) (B : Nat) (w : World) (hn : 2 ≤ n) (ha : a.block < w.heap.size) (h00 : w.cell? a = some (.int .i64 p0)) (h01 : w.cell? ⟨a.block, a.off + 1, none⟩ = some (.int .i64 p1)) (h02 : w.cell? ⟨a.block, a.off + 2, none⟩ = some (.string p2)) (h03 : w.cell? ⟨a.block, a.off + 3, none⟩ = some (.slice p3 p4 p5)) (h04 : w.cell? ⟨a.block, a.off + 4, none⟩ = some (.slice p6 p7 p8)) (h10 : w.cell? ⟨a.block, a.off + 5, none⟩ = some (.int .i64 q0)) (h11 : w.cell? ⟨a.block, a.off + 5 + 1, none⟩ = some (.int .i64 q1)) (h12 : w.cell? ⟨a.block, a.off + 5 + 2, none⟩ = some (.string q2)) (h13 : w.cell? ⟨a.block, a.off + 5 + 3, none⟩ = some (.slice q3 q4 q5)) (h14 : w.cell? ⟨a.block, a.off + 5 + 4, none⟩ = some (.slice q6 q7 q8)) (hx : IsV w B x (.agg #[.int .i64 p0, .int .i64 p1, .string p2, .slice p3 p4 p5, .slice p6 p7 p8])) (hy : IsV w B y (.agg #[.int .i64 q0, .int .i64 q1, .string q2, .slice q3 q4 q5, .slice q6 q7 q8])) (hBs : B ≤ w.heap.size) (hrx : rightB x = true) (hkx : x.kind = 5) :
  Calls Tryz.prog 72 #[.agg #[.int .i64 e0, .int .i64 e1, .string e2, .slice e3 e4 e5, .slice e6 e7 e8, .slice (some a) n cl]] w fun e w' => OpPost w (hasV x y.s) e w' := by
 obtain ⟨gb, hgb⟩ : ∃ gb, w.heap.size = gb := ⟨_, rfl⟩
 obtain ⟨v1, hv1⟩ : ∃ v1, w.alloc (.cells #[.int .i64 e0, .int .i64 e1, .string e2, .slice e3 e4 e5, .slice e6 e7 e8, .slice (some a) n cl] 50) = v1 := ⟨_, rfl⟩
 obtain ⟨gr, hgr⟩ : ∃ gr, v1.heap.size = gr := ⟨_, rfl⟩
 obtain ⟨v2, hv2⟩ : ∃ v2, v1.alloc (.cells #[.int .i64 0, .int .i64 0, .string ⟨#[]⟩, .slice none 0 0, .slice none 0 0] 25) = v2 := ⟨_, rfl⟩
 have n1 : v1.heap[gb]? = some (.cells #[.int .i64 e0, .int .i64 e1, .string e2, .slice e3 e4 e5, .slice e6 e7 e8, .slice (some a) n cl] 50 (0, 0)) := by rw [← hv1, ← hgb]; exact heap_alloc_new w _
 have n2 : v2.heap[gr]? = some (.cells #[.int .i64 0, .int .i64 0, .string ⟨#[]⟩, .slice none 0 0, .slice none 0 0] 25 (0, 0)) := by rw [← hv2, ← hgr]; exact heap_alloc_new v1 _
 have b1 : Below w.heap.size w v1 := by rw [← hv1]; exact (Below.refl _ _).alloc (Nat.le_refl _) _
 have b2 : Below v1.heap.size v1 v2 := by rw [← hv2]; exact (Below.refl _ _).alloc (Nat.le_refl _) _
 have s1 : v1.heap.size = w.heap.size + 1 := by rw [← hv1]; simp
 have HM : Hid (Below w.heap.size w v2 ∧ v2.heap[gb]? = some (.cells #[.int .i64 e0, .int .i64 e1, .string e2, .slice e3 e4 e5, .slice e6 e7 e8, .slice (some a) n cl] 50 (0, 0)) ∧ v2.heap[gr]? = some (.cells #[.int .i64 0, .int .i64 0, .string ⟨#[]⟩, .slice none 0 0, .slice none 0 0] 25 (0, 0)) ∧ w.heap.size ≤ gr ∧ gr < v2.heap.size) := hide ⟨b1.trans (b2.mono b1.size), (b2.block gb (by omega)).trans n1, n2, by omega, (Array.getElem?_eq_some_iff.1 n2).1⟩
 obtain ⟨t0, t1, t2, t3, t4, t5⟩ := block6 (uh HM).2.1
 have hA00 : v2.cell? a = some (.int .i64 p0) := ((uh HM).1.cell (p := a) ha).trans h00
 have hA01 : v2.cell? ⟨a.block, a.off + 1, none⟩ = some (.int .i64 p1) := ((uh HM).1.cell (p := ⟨a.block, a.off + 1, none⟩) ha).trans h01
 have hA02 : v2.cell? ⟨a.block, a.off + 2, none⟩ = some (.string p2) := ((uh HM).1.cell (p := ⟨a.block, a.off + 2, none⟩) ha).trans h02
 have hA03 : v2.cell? ⟨a.block, a.off + 3, none⟩ = some (.slice p3 p4 p5) := ((uh HM).1.cell (p := ⟨a.block, a.off + 3, none⟩) ha).trans h03
 have hA04 : v2.cell? ⟨a.block, a.off + 4, none⟩ = some (.slice p6 p7 p8) := ((uh HM).1.cell (p := ⟨a.block, a.off + 4, none⟩) ha).trans h04
 have hA10 : v2.cell? ⟨a.block, a.off + 5, none⟩ = some (.int .i64 q0) := ((uh HM).1.cell (p := ⟨a.block, a.off + 5, none⟩) ha).trans h10
 have hA11 : v2.cell? ⟨a.block, a.off + 5 + 1, none⟩ = some (.int .i64 q1) := ((uh HM).1.cell (p := ⟨a.block, a.off + 5 + 1, none⟩) ha).trans h11
 have hA12 : v2.cell? ⟨a.block, a.off + 5 + 2, none⟩ = some (.string q2) := ((uh HM).1.cell (p := ⟨a.block, a.off + 5 + 2, none⟩) ha).trans h12
 have hA13 : v2.cell? ⟨a.block, a.off + 5 + 3, none⟩ = some (.slice q3 q4 q5) := ((uh HM).1.cell (p := ⟨a.block, a.off + 5 + 3, none⟩) ha).trans h13
 have hA14 : v2.cell? ⟨a.block, a.off + 5 + 4, none⟩ = some (.slice q6 q7 q8) := ((uh HM).1.cell (p := ⟨a.block, a.off + 5 + 4, none⟩) ha).trans h14
 have hlt0 : gb < v2.heap.size := (Array.getElem?_eq_some_iff.1 (uh HM).2.1).1
 have hlt1 : a.block < v2.heap.size := Nat.lt_of_lt_of_le ha (uh HM).1.size
 have hne0 : gb ≠ gr := by omega
 have hne1 : a.block ≠ gr := by omega
 have hl0 : (0 : Int) < (n : Int) := by omega
 have hl1 : (1 : Int) < (n : Int) := by omega
 have hky : q2 = y.s := by
  obtain ⟨k1, n1, s1, l1, ks1⟩ := y
  exact (IsP.at hy).2.2.1
 rw [← hky]
 unfold hasV
 obtain ⟨fb, hfb⟩ : ∃ fb, (placeK x.ks q2).isSome = fb := ⟨_, rfl⟩
 rw [hfb]
 have CB : Hid (∀ u, Below v2.heap.size v2 u → Calls Tryz.prog 113 #[.slice p6 p7 p8, .string q2] u fun e w' => ∃ L9 : Int, e = .returned (.tuple #[.int .i64 L9, .bool fb]) ∧ w' = u) := hide (fun u hu => by
  have hwu := (uh HM).1.trans (hu.mono (uh HM).1.size)
  obtain ⟨k1, n1, s1, l1, ks1⟩ := x
  dsimp only at hkx hfb
  subst hkx
  obtain ⟨hR, hlen⟩ := right_keys hrx
  obtain ⟨_, _, _, _, hm, V, hf, _⟩ := IsP.at (IsV.mono (hwu.mono hBs) hx)
  subst hm
  refine (search_any ks1 p6 p8 u ⟨fun h => (hf.nk h).1, hf.lk, hf.bc, fun a ha i t ht => (hf.hk a ha i t ht).2, hf.bt⟩ hR q2).mono ?_
  rintro e w' ⟨L, rfl, hL, hi, rfl⟩
  refine ⟨(L : Int), ?_, rfl⟩
  obtain ⟨h1, h2⟩ := place_of hR hi
  rw [← hfb]
  by_cases hh : ks1[L]? = some q2
  ·rw [h1 hh, decide_eq_true hh]; rfl
  ·rw [h2 hh, decide_eq_false hh]; rfl)
 clear n1 n2 b1 b2 s1 h00 h01 h02 h03 h04 h10 h11 h12 h13 h14 hx hy hBs hky hfb hrx hkx
 obtain ⟨W0, hW0⟩ : ∃ W0, v2.drew = W0 := ⟨_, rfl⟩
 have HY0 : Hid (Below v2.heap.size v2 W0) := hide (by rw [← hW0]; exact below_drew_of' (Below.refl _ _))
 go_enter Tryz.func72, Tryz.ntmps72
 go_upto_region 1 with fail
 have HS0 : Hid (v2.drew.cell? ⟨gb, 5, none⟩ = some (.slice (some a) n cl) ∧ v2.drew.cell? ⟨a.block, a.off + 4, none⟩ = some (.slice p6 p7 p8) ∧ v2.drew.cell? ⟨a.block, a.off + 5 + 2, none⟩ = some (.string q2)) := hide ⟨t5, hA04, hA12⟩
 refine till_begin (S := fun w' => w'.cell? ⟨gb, 5, none⟩ = some (.slice (some a) n cl) ∧ w'.cell? ⟨a.block, a.off + 4, none⟩ = some (.slice p6 p7 p8) ∧ w'.cell? ⟨a.block, a.off + 5 + 2, none⟩ = some (.string q2)) 15 (by kernel_rfl) ?_
 refine till_take 0 (v := .pointer (some ⟨gb, 5, none⟩)) (some 7) rfl rfl rfl (by kernel_rfl) (by kernel_rfl) (by kernel_rfl) (by kernel_rfl) (fun _ _ _ h => h) (Or.inl ⟨by rfl, fun u hu => by obtain ⟨b0, b1, b2⟩ := hu; go_simp⟩) (uh HS0) ?_
 try simp only [Act.put, setX]
 refine till_take 1 (v := .slice (some a) n cl) (some 8) rfl rfl rfl (by kernel_rfl) (by kernel_rfl) (by kernel_rfl) (by kernel_rfl) (fun _ _ _ h => h) (Or.inl ⟨by rfl, fun u hu => by obtain ⟨b0, b1, b2⟩ := hu; go_simp⟩) (uh HS0) ?_
 try simp only [Act.put, setX]
 refine till_take 2 (v := .pointer (some a)) (some 9) rfl rfl rfl (by kernel_rfl) (by kernel_rfl) (by kernel_rfl) (by kernel_rfl) (fun _ _ _ h => h) (Or.inl ⟨by rfl, fun u hu => by obtain ⟨b0, b1, b2⟩ := hu; go_simp; intro hz; omega⟩) (uh HS0) ?_
 try simp only [Act.put, setX]
 refine till_take 3 (v := .pointer (some ⟨a.block, a.off + 4, none⟩)) (some 10) rfl rfl rfl (by kernel_rfl) (by kernel_rfl) (by kernel_rfl) (by kernel_rfl) (fun _ _ _ h => h) (Or.inl ⟨by rfl, fun u hu => by obtain ⟨b0, b1, b2⟩ := hu; go_simp⟩) (uh HS0) ?_
 try simp only [Act.put, setX]
 refine till_take 4 (v := .slice p6 p7 p8) (some 11) rfl rfl rfl (by kernel_rfl) (by kernel_rfl) (by kernel_rfl) (by kernel_rfl) (fun _ _ _ h => h) (Or.inl ⟨by rfl, fun u hu => by obtain ⟨b0, b1, b2⟩ := hu; go_simp⟩) (uh HS0) ?_
 try simp only [Act.put, setX]
 refine till_take 5 (v := .pointer (some ⟨gb, 5, none⟩)) (some 12) rfl rfl rfl (by kernel_rfl) (by kernel_rfl) (by kernel_rfl) (by kernel_rfl) (fun _ _ _ h => h) (Or.inl ⟨by rfl, fun u hu => by obtain ⟨b0, b1, b2⟩ := hu; go_simp⟩) (uh HS0) ?_
 try simp only [Act.put, setX]
 refine till_take 6 (v := .slice (some a) n cl) (some 13) rfl rfl rfl (by kernel_rfl) (by kernel_rfl) (by kernel_rfl) (by kernel_rfl) (fun _ _ _ h => h) (Or.inl ⟨by rfl, fun u hu => by obtain ⟨b0, b1, b2⟩ := hu; go_simp⟩) (uh HS0) ?_
 try simp only [Act.put, setX]
 refine till_take 7 (v := .pointer (some ⟨a.block, a.off + 5, none⟩)) (some 14) rfl rfl rfl (by kernel_rfl) (by kernel_rfl) (by kernel_rfl) (by kernel_rfl) (fun _ _ _ h => h) (Or.inl ⟨by rfl, fun u hu => by obtain ⟨b0, b1, b2⟩ := hu; go_simp⟩) (uh HS0) ?_
 try simp only [Act.put, setX]
 refine till_take 8 (v := .pointer (some ⟨a.block, a.off + 5 + 2, none⟩)) (some 15) rfl rfl rfl (by kernel_rfl) (by kernel_rfl) (by kernel_rfl) (by kernel_rfl) (fun _ _ _ h => h) (Or.inl ⟨by rfl, fun u hu => by obtain ⟨b0, b1, b2⟩ := hu; go_simp⟩) (uh HS0) ?_
 try simp only [Act.put, setX]
 refine till_take 9 (v := .string q2) (some 16) rfl rfl rfl (by kernel_rfl) (by kernel_rfl) (by kernel_rfl) (by kernel_rfl) (fun _ _ _ h => h) (Or.inl ⟨by rfl, fun u hu => by obtain ⟨b0, b1, b2⟩ := hu; go_simp⟩) (uh HS0) ?_
 try simp only [Act.put, setX]
 try rw [hW0]
 rw [hW0] at HS0
 clear hW0
 refine till_one 10 (by kernel_rfl) rfl (fun K hK => ?_)
 go_simp
 refine (uh CB W0 (uh HY0)).mono ?_
 rintro e W1 ⟨L9, rfl, rfl⟩
 go_wp2_with fail
 refine hK.out _ _ (Or.inr (uh HS0)) ?_
 clear hK K CB
 try simp only [Act.put, setX]
 refine till_take 11 (v := .tuple #[.int .i64 L9, .bool fb]) (some 6) rfl rfl rfl (by kernel_rfl) (by kernel_rfl) (by kernel_rfl) (by kernel_rfl) (fun _ _ _ h => h) (Or.inl ⟨by rfl, fun u hu => by obtain ⟨b0, b1, b2⟩ := hu; go_simp⟩) (uh HS0) ?_
 try simp only [Act.put, setX]
 refine till_take 12 (v := .int .i64 L9) (some 18) rfl rfl rfl (by kernel_rfl) (by kernel_rfl) (by kernel_rfl) (by kernel_rfl) (fun _ _ _ h => h) (Or.inl ⟨by rfl, fun u hu => by obtain ⟨b0, b1, b2⟩ := hu; go_simp⟩) (uh HS0) ?_
 try simp only [Act.put, setX]
 refine till_take 13 (v := .bool fb) (some 19) rfl rfl rfl (by kernel_rfl) (by kernel_rfl) (by kernel_rfl) (by kernel_rfl) (fun _ _ _ h => h) (Or.inl ⟨by rfl, fun u hu => by obtain ⟨b0, b1, b2⟩ := hu; go_simp⟩) (uh HS0) ?_
 try simp only [Act.put, setX]
 refine till_one 14 (by kernel_rfl) rfl (fun K hK => ?_)
 go_simp
 refine hK.out _ _ (Or.inr (uh HS0)) ?_
 clear hK K
 try simp only [Act.put, setX]
 refine till_one 15 (by kernel_rfl) rfl (fun K hK => ?_)
 go_simp
 refine hK.out _ _ (Or.inl (by first | rfl | trivial)) ?_
 clear hK K HS0
 try simp only [Act.put, setX]
 refine till_done (by kernel_rfl) ?_ _
 have CN := hide (truth_op fb W1)
 go_wp2_with fail
 refine (uh CN).mono ?_
 rintro e W9 ⟨y0, y1, y2, y3, y4, y5, y6, y7, y8, t, rfl, ⟨ht, q5⟩, d5⟩
 have X5 : Below v2.heap.size v2 W9 := (uh HY0).trans (d5.mono (uh HY0).size)
 have ER : Hid (W9.heap[gr]? = some (.cells #[.int .i64 0, .int .i64 0, .string ⟨#[]⟩, .slice none 0 0, .slice none 0 0] 25 (0, 0))) := hide ((X5.block gr (uh HM).2.2.2.2).trans (uh HM).2.2.1)
 obtain ⟨r0z, r1z, r2z, r3z, r4z⟩ := block5 (uh ER)
 obtain ⟨f0, f1, f2, f3, f4⟩ := fr5 (uh ER)
 have HF9 : Hid (IsQ W9 (fun b => v2.heap.size ≤ b ∧ b < W9.heap.size) (tv fb, (0 : Int)).1 (.agg #[.int .i64 y0, .int .i64 y1, .string y2, .slice y3 y4 y5, .slice y6 y7 y8]) ∧ t = (tv fb, (0 : Int)).2 ∧ Below v2.heap.size v2 W9) := hide ⟨q5.weak (fun b hb => ⟨Nat.le_trans (uh HY0).size hb.1, hb.2⟩), ht, X5⟩
 clear q5 d5 X5 ht CN 
 go_wp2_with fail
 (try simp only [Exit.inBlock, Exit.then])
 refine bodyPost_ret (ret_ct rfl _ _ gr #[.int .i64 y0, .int .i64 y1, .string y2, .slice y3 y4 y5, .slice y6 y7 y8] _ _ rfl (set5P (uh ER) _ _ _ _ _) Tryz.underlying25 rfl size_vl) rfl ?_
 exact op_fin (uh HM).1 (uh HM).2.2.2.1 (uh HM).2.2.2.2 (uh HF9).2.2 (uh HF9).1 (uh HF9).2.1
end Go.Proofs.YtgkmdjmigehmeaaGreatDoor
