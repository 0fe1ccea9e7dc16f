/-
  field (prim); no conditions but the form's own reach.
-/
import Derived.Test.YtgkmdjmigehmeaaGreatDoorR41
namespace Go.Proofs.YtgkmdjmigehmeaaGreatDoor
set_option linter.unusedVariables false
set_option linter.unusedSimpArgs false
set_option maxRecDepth 100000
set_option maxHeartbeats 16000000
open Go.RowKit Go.Shelf
def fieldV (ex x : Vl) : Vl × Int := if ex.kind = 3 then (if (getR x ex.s).isSome = true then ((getR x ex.s).getD zeroVl, 0) else (vlz, 6)) else (vlz, 3)
theorem field_op (e0 e1 : Int) (e2 : ByteArray) (e3 : Option Addr) (e4 e5 : Nat) (e6 : Option Addr) (e7 e8 : Nat) (a : Addr) (n cl : Nat) (p0 p1 : Int) (p2 : ByteArray) (p3 : Option Addr) (p4 p5 : Nat) (p6 : Option Addr) (p7 p8 : Nat) (x : Vl) (B : Nat) (w : World) (hn : 1 ≤ n) (ha : a.block < w.heap.size) (h00 : w.cell? a = some (.int .i64 p0)) (h01 : w.cell? ⟨a.block, a.off + 1, none⟩ = some (.int .i64 p1)) (h02 : w.cell? ⟨a.block, a.off + 2, none⟩ = some (.string p2)) (h03 : w.cell? ⟨a.block, a.off + 3, none⟩ = some (.slice p3 p4 p5)) (h04 : w.cell? ⟨a.block, a.off + 4, none⟩ = some (.slice p6 p7 p8)) (hx : IsV w B x (.agg #[.int .i64 p0, .int .i64 p1, .string p2, .slice p3 p4 p5, .slice p6 p7 p8])) (hBs : B ≤ w.heap.size) (ex : Vl) (hex : ex.kind = e0 ∧ ex.s = e2) :
  Calls Tryz.prog 64 #[.agg #[.int .i64 e0, .int .i64 e1, .string e2, .slice e3 e4 e5, .slice e6 e7 e8, .slice (some a) n cl]] w fun e w' => OpPost w (fieldV ex x) e w' := by
 obtain ⟨gb, hgb⟩ : ∃ gb, w.heap.size = gb := ⟨_, rfl⟩
 obtain ⟨v1, hv1⟩ : ∃ v1, w.alloc (.cells #[.int .i64 e0, .int .i64 e1, .string e2, .slice e3 e4 e5, .slice e6 e7 e8, .slice (some a) n cl] 50) = v1 := ⟨_, rfl⟩
 obtain ⟨gr, hgr⟩ : ∃ gr, v1.heap.size = gr := ⟨_, rfl⟩
 obtain ⟨v2, hv2⟩ : ∃ v2, v1.alloc (.cells #[.int .i64 0, .int .i64 0, .string ⟨#[]⟩, .slice none 0 0, .slice none 0 0] 25) = v2 := ⟨_, rfl⟩
 have n1 : v1.heap[gb]? = some (.cells #[.int .i64 e0, .int .i64 e1, .string e2, .slice e3 e4 e5, .slice e6 e7 e8, .slice (some a) n cl] 50 (0, 0)) := by rw [← hv1, ← hgb]; exact heap_alloc_new w _
 have n2 : v2.heap[gr]? = some (.cells #[.int .i64 0, .int .i64 0, .string ⟨#[]⟩, .slice none 0 0, .slice none 0 0] 25 (0, 0)) := by rw [← hv2, ← hgr]; exact heap_alloc_new v1 _
 have b1 : Below w.heap.size w v1 := by rw [← hv1]; exact (Below.refl _ _).alloc (Nat.le_refl _) _
 have b2 : Below v1.heap.size v1 v2 := by rw [← hv2]; exact (Below.refl _ _).alloc (Nat.le_refl _) _
 have s1 : v1.heap.size = w.heap.size + 1 := by rw [← hv1]; simp
 have HM : Hid (Below w.heap.size w v2 ∧ v2.heap[gb]? = some (.cells #[.int .i64 e0, .int .i64 e1, .string e2, .slice e3 e4 e5, .slice e6 e7 e8, .slice (some a) n cl] 50 (0, 0)) ∧ v2.heap[gr]? = some (.cells #[.int .i64 0, .int .i64 0, .string ⟨#[]⟩, .slice none 0 0, .slice none 0 0] 25 (0, 0)) ∧ w.heap.size ≤ gr ∧ gr < v2.heap.size) := hide ⟨b1.trans (b2.mono b1.size), (b2.block gb (by omega)).trans n1, n2, by omega, (Array.getElem?_eq_some_iff.1 n2).1⟩
 obtain ⟨t0, t1, t2, t3, t4, t5⟩ := block6 (uh HM).2.1
 have hA00 : v2.cell? a = some (.int .i64 p0) := ((uh HM).1.cell (p := a) ha).trans h00
 have hA01 : v2.cell? ⟨a.block, a.off + 1, none⟩ = some (.int .i64 p1) := ((uh HM).1.cell (p := ⟨a.block, a.off + 1, none⟩) ha).trans h01
 have hA02 : v2.cell? ⟨a.block, a.off + 2, none⟩ = some (.string p2) := ((uh HM).1.cell (p := ⟨a.block, a.off + 2, none⟩) ha).trans h02
 have hA03 : v2.cell? ⟨a.block, a.off + 3, none⟩ = some (.slice p3 p4 p5) := ((uh HM).1.cell (p := ⟨a.block, a.off + 3, none⟩) ha).trans h03
 have hA04 : v2.cell? ⟨a.block, a.off + 4, none⟩ = some (.slice p6 p7 p8) := ((uh HM).1.cell (p := ⟨a.block, a.off + 4, none⟩) ha).trans h04
 have hlt0 : gb < v2.heap.size := (Array.getElem?_eq_some_iff.1 (uh HM).2.1).1
 have hlt1 : a.block < v2.heap.size := Nat.lt_of_lt_of_le ha (uh HM).1.size
 have hl0 : (0 : Int) < (n : Int) := by omega
 obtain ⟨R, hR⟩ : ∃ R, fieldV ex x = R := ⟨_, rfl⟩
 rw [hR]
 by_cases hk3 : e0 = 3
 ·subst hk3
  obtain ⟨fb, hfb⟩ : ∃ fb, (getR x e2).isSome = fb := ⟨_, rfl⟩
  obtain ⟨gv, hgv⟩ : ∃ gv, (getR x e2).getD zeroVl = gv := ⟨_, rfl⟩
  have HA1 : Hid (fb = false → R = (vlz, 6)) := hide (fun e => by rw [← hR]; unfold fieldV; rw [hex.1, hex.2, if_pos rfl, hfb, e]; rfl)
  have HA2 : Hid (fb = true → R = (gv, 0)) := hide (fun e => by rw [← hR]; unfold fieldV; rw [hex.1, hex.2, if_pos rfl, hfb, e, hgv]; rfl)
  have CG : Hid (∀ u, Below v2.heap.size v2 u → Calls Tryz.prog 108 #[.agg #[.int .i64 p0, .int .i64 p1, .string p2, .slice p3 p4 p5, .slice p6 p7 p8], .string e2] u fun e w' => ∃ x', e = .returned (.tuple #[x', .bool fb]) ∧ Below u.heap.size u w' ∧ IsQ w' (fun b => u.heap.size ≤ b ∧ b < w'.heap.size) gv x') := hide (fun u hu => by
   have hwu := (uh HM).1.trans (hu.mono (uh HM).1.size)
   have := getQ_any x _ B e2 u (IsV.mono (hwu.mono hBs) hx) (Nat.le_trans hBs hwu.size)
   rw [hfb, hgv] at this
   exact this)
  clear n1 n2 b1 b2 s1 h00 h01 h02 h03 h04 hx hBs hex hR hfb hgv
  obtain ⟨W0, hW0⟩ : ∃ W0, v2.drew = W0 := ⟨_, rfl⟩
  have HY0 : Hid (Below v2.heap.size v2 W0) := hide (by rw [← hW0]; exact below_drew_of' (Below.refl _ _))
  go_enter Tryz.func64, Tryz.ntmps64
  go_upto_region 3 with fail
  have HS0 : Hid (v2.drew.cell? ⟨gb, 5, none⟩ = some (.slice (some a) n cl) ∧ v2.drew.cell? ⟨gb, 2, none⟩ = some (.string e2) ∧ v2.drew.cell? a = some (.int .i64 p0) ∧ v2.drew.cell? ⟨a.block, a.off + 1, none⟩ = some (.int .i64 p1) ∧ v2.drew.cell? ⟨a.block, a.off + 2, none⟩ = some (.string p2) ∧ v2.drew.cell? ⟨a.block, a.off + 3, none⟩ = some (.slice p3 p4 p5) ∧ v2.drew.cell? ⟨a.block, a.off + 4, none⟩ = some (.slice p6 p7 p8)) := hide ⟨t5, t2, hA00, hA01, hA02, hA03, hA04⟩
  refine till_begin (S := fun w' => w'.cell? ⟨gb, 5, none⟩ = some (.slice (some a) n cl) ∧ w'.cell? ⟨gb, 2, none⟩ = some (.string e2) ∧ w'.cell? a = some (.int .i64 p0) ∧ w'.cell? ⟨a.block, a.off + 1, none⟩ = some (.int .i64 p1) ∧ w'.cell? ⟨a.block, a.off + 2, none⟩ = some (.string p2) ∧ w'.cell? ⟨a.block, a.off + 3, none⟩ = some (.slice p3 p4 p5) ∧ w'.cell? ⟨a.block, a.off + 4, none⟩ = some (.slice p6 p7 p8)) 13 (by kernel_rfl) ?_
  refine till_take 0 (v := .pointer (some ⟨gb, 5, none⟩)) (some 14) rfl rfl rfl (by kernel_rfl) (by kernel_rfl) (by kernel_rfl) (by kernel_rfl) (fun _ _ _ h => h) (Or.inl ⟨by rfl, fun u hu => by obtain ⟨b0, b1, b2, b3, b4, b5, b6⟩ := hu; go_simp⟩) (uh HS0) ?_
  try simp only [Act.put, setX]
  refine till_take 1 (v := .slice (some a) n cl) (some 15) rfl rfl rfl (by kernel_rfl) (by kernel_rfl) (by kernel_rfl) (by kernel_rfl) (fun _ _ _ h => h) (Or.inl ⟨by rfl, fun u hu => by obtain ⟨b0, b1, b2, b3, b4, b5, b6⟩ := hu; go_simp⟩) (uh HS0) ?_
  try simp only [Act.put, setX]
  refine till_take 2 (v := .pointer (some a)) (some 16) rfl rfl rfl (by kernel_rfl) (by kernel_rfl) (by kernel_rfl) (by kernel_rfl) (fun _ _ _ h => h) (Or.inl ⟨by rfl, fun u hu => by obtain ⟨b0, b1, b2, b3, b4, b5, b6⟩ := hu; go_simp; intro hz; omega⟩) (uh HS0) ?_
  try simp only [Act.put, setX]
  refine till_take 3 (v := .agg #[.int .i64 p0, .int .i64 p1, .string p2, .slice p3 p4 p5, .slice p6 p7 p8]) (some 17) rfl rfl rfl (by kernel_rfl) (by kernel_rfl) (by kernel_rfl) (by kernel_rfl) (fun _ _ _ h => h) (Or.inl ⟨by rfl, fun u hu => by obtain ⟨b0, b1, b2, b3, b4, b5, b6⟩ := hu; go_simp⟩) (uh HS0) ?_
  try simp only [Act.put, setX]
  refine till_take 4 (v := .pointer (some ⟨gb, 0, none⟩)) (some 18) rfl rfl rfl (by kernel_rfl) (by kernel_rfl) (by kernel_rfl) (by kernel_rfl) (fun _ _ _ h => h) (Or.inl ⟨by rfl, fun u hu => by obtain ⟨b0, b1, b2, b3, b4, b5, b6⟩ := hu; go_simp⟩) (uh HS0) ?_
  try simp only [Act.put, setX]
  refine till_take 5 (v := .pointer (some ⟨gb, 2, none⟩)) (some 19) rfl rfl rfl (by kernel_rfl) (by kernel_rfl) (by kernel_rfl) (by kernel_rfl) (fun _ _ _ h => h) (Or.inl ⟨by rfl, fun u hu => by obtain ⟨b0, b1, b2, b3, b4, b5, b6⟩ := hu; go_simp⟩) (uh HS0) ?_
  try simp only [Act.put, setX]
  refine till_take 6 (v := .string e2) (some 20) rfl rfl rfl (by kernel_rfl) (by kernel_rfl) (by kernel_rfl) (by kernel_rfl) (fun _ _ _ h => h) (Or.inl ⟨by rfl, fun u hu => by obtain ⟨b0, b1, b2, b3, b4, b5, b6⟩ := hu; go_simp⟩) (uh HS0) ?_
  try simp only [Act.put, setX]
  try rw [hW0]
  rw [hW0] at HS0
  clear hW0
  refine till_two 7 11 (by kernel_rfl) rfl rfl (fun K hK => ?_) (fun K hK => ?_)
  ·go_simp
   refine (uh CG W0 (uh HY0)).mono ?_
   rintro e W1 ⟨x', rfl, dd, qq⟩
   obtain ⟨y0, y1, y2, y3, y4, y5, y6, y7, y8, rfl⟩ := shape9 qq.1
   have HQ1 : Hid (IsQ W1 (fun b => v2.heap.size ≤ b ∧ b < W1.heap.size) gv (.agg #[.int .i64 y0, .int .i64 y1, .string y2, .slice y3 y4 y5, .slice y6 y7 y8])) := hide (qq.weak (fun b hb => ⟨Nat.le_trans (uh HY0).size hb.1, hb.2⟩))
   have HS1 : Hid (W1.cell? ⟨gb, 5, none⟩ = some (.slice (some a) n cl) ∧ W1.cell? ⟨gb, 2, none⟩ = some (.string e2) ∧ W1.cell? a = some (.int .i64 p0) ∧ W1.cell? ⟨a.block, a.off + 1, none⟩ = some (.int .i64 p1) ∧ W1.cell? ⟨a.block, a.off + 2, none⟩ = some (.string p2) ∧ W1.cell? ⟨a.block, a.off + 3, none⟩ = some (.slice p3 p4 p5) ∧ W1.cell? ⟨a.block, a.off + 4, none⟩ = some (.slice p6 p7 p8)) := hide ⟨cell_later dd ((uh HS0).1), cell_later dd ((uh HS0).2.1), cell_later dd ((uh HS0).2.2.1), cell_later dd ((uh HS0).2.2.2.1), cell_later dd ((uh HS0).2.2.2.2.1), cell_later dd ((uh HS0).2.2.2.2.2.1), cell_later dd ((uh HS0).2.2.2.2.2.2)⟩
   have HY1 : Hid (Below v2.heap.size v2 W1) := hide ((uh HY0).trans (dd.mono (uh HY0).size))
   clear dd qq
   go_wp2_with fail
   refine hK.out _ _ (Or.inr (uh HS1)) ?_
   clear hK K HS0 HY0
   try simp only [Act.put, setX]
   refine till_take 8 (v := .tuple #[.agg #[.int .i64 y0, .int .i64 y1, .string y2, .slice y3 y4 y5, .slice y6 y7 y8], .bool fb]) (some 13) rfl rfl rfl (by kernel_rfl) (by kernel_rfl) (by kernel_rfl) (by kernel_rfl) (fun _ _ _ h => h) (Or.inl ⟨by rfl, fun u hu => by obtain ⟨b0, b1, b2, b3, b4, b5, b6⟩ := hu; go_simp⟩) (uh HS1) ?_
   try simp only [Act.put, setX]
   refine till_take 9 (v := .agg #[.int .i64 y0, .int .i64 y1, .string y2, .slice y3 y4 y5, .slice y6 y7 y8]) (some 22) rfl rfl rfl (by kernel_rfl) (by kernel_rfl) (by kernel_rfl) (by kernel_rfl) (fun _ _ _ h => h) (Or.inl ⟨by rfl, fun u hu => by obtain ⟨b0, b1, b2, b3, b4, b5, b6⟩ := hu; go_simp⟩) (uh HS1) ?_
   try simp only [Act.put, setX]
   refine till_take 10 (v := .bool fb) (some 23) rfl rfl rfl (by kernel_rfl) (by kernel_rfl) (by kernel_rfl) (by kernel_rfl) (fun _ _ _ h => h) (Or.inl ⟨by rfl, fun u hu => by obtain ⟨b0, b1, b2, b3, b4, b5, b6⟩ := hu; go_simp⟩) (uh HS1) ?_
   try simp only [Act.put, setX]
   refine till_one 11 (by kernel_rfl) rfl (fun K hK => ?_)
   go_simp
   obtain ⟨W2, hW2⟩ : ∃ W, W1.alloc (.cells #[.int .i64 0, .int .i64 0, .string ⟨#[]⟩, .slice none 0 0, .slice none 0 0] 25) = W := ⟨_, rfl⟩
   obtain ⟨bx, hbx⟩ : ∃ bx, W1.heap.size = bx := ⟨_, rfl⟩
   have dd : Below W1.heap.size W1 W2 := by rw [← hW2]; exact (Below.refl _ _).alloc (Nat.le_refl _) _
   have HX2 : Hid (W2.heap[bx]? = some (.cells #[.int .i64 0, .int .i64 0, .string ⟨#[]⟩, .slice none 0 0, .slice none 0 0] 25 (0, 0))) := hide (by rw [← hW2, ← hbx]; exact heap_alloc_new W1 _)
   have HBX : Hid (v2.heap.size ≤ bx) := hide (by rw [← hbx]; exact (uh HY1).size)
   have HN2 : Hid (IsQ W2 (fun b => (v2.heap.size ≤ b ∧ b < W2.heap.size) ∧ b ≠ bx) gv (.agg #[.int .i64 y0, .int .i64 y1, .string y2, .slice y3 y4 y5, .slice y6 y7 y8])) := hide ((uh HQ1).to (fun b hb => dd.block b hb.2) (fun b hb => ⟨⟨hb.1, Nat.lt_of_lt_of_le hb.2 dd.size⟩, fun e => by rw [← hbx] at e; have := hb.2; omega⟩))
   try rw [hW2]
   try rw [hbx]
   have HS2 : Hid (W2.cell? ⟨gb, 5, none⟩ = some (.slice (some a) n cl) ∧ W2.cell? ⟨gb, 2, none⟩ = some (.string e2) ∧ W2.cell? a = some (.int .i64 p0) ∧ W2.cell? ⟨a.block, a.off + 1, none⟩ = some (.int .i64 p1) ∧ W2.cell? ⟨a.block, a.off + 2, none⟩ = some (.string p2) ∧ W2.cell? ⟨a.block, a.off + 3, none⟩ = some (.slice p3 p4 p5) ∧ W2.cell? ⟨a.block, a.off + 4, none⟩ = some (.slice p6 p7 p8)) := hide ⟨cell_later dd ((uh HS1).1), cell_later dd ((uh HS1).2.1), cell_later dd ((uh HS1).2.2.1), cell_later dd ((uh HS1).2.2.2.1), cell_later dd ((uh HS1).2.2.2.2.1), cell_later dd ((uh HS1).2.2.2.2.2.1), cell_later dd ((uh HS1).2.2.2.2.2.2)⟩
   have HY2 : Hid (Below v2.heap.size v2 W2) := hide ((uh HY1).trans (dd.mono (uh HY1).size))
   have HQ2 : Hid (IsQ W2 (fun b => v2.heap.size ≤ b ∧ b < W2.heap.size) gv (.agg #[.int .i64 y0, .int .i64 y1, .string y2, .slice y3 y4 y5, .slice y6 y7 y8])) := hide ((uh HQ1).to (fun b hb => dd.block b hb.2) (fun b hb => ⟨hb.1, Nat.lt_of_lt_of_le hb.2 dd.size⟩))
   refine hK.out _ _ (Or.inr (uh HS2)) ?_
   clear hK K HS1 HY1 HQ1 dd hW2 hbx
   try simp only [Act.put, setX]
   obtain ⟨c0, c1, c2, c3, c4⟩ := block5 (uh HX2)
   obtain ⟨fz0, fz1, fz2, fz3, fz4⟩ := fr5 (uh HX2)
   obtain ⟨W3, hW3⟩ : ∃ W, (((((W2.setCell ⟨bx, 0, none⟩ (.int .i64 y0)).setCell ⟨bx, 1, none⟩ (.int .i64 y1)).setCell ⟨bx, 2, none⟩ (.string y2)).setCell ⟨bx, 3, none⟩ (.slice y3 y4 y5)).setCell ⟨bx, 4, none⟩ (.slice y6 y7 y8)) = W := ⟨_, rfl⟩
   have HM9 : Hid (W3.heap[bx]? = some (.cells #[.int .i64 y0, .int .i64 y1, .string y2, .slice y3 y4 y5, .slice y6 y7 y8] 25 (0, 0)) ∧ Below v2.heap.size v2 W3 ∧ IsQ W3 (fun b => v2.heap.size ≤ b ∧ b < W3.heap.size) gv (.agg #[.int .i64 y0, .int .i64 y1, .string y2, .slice y3 y4 y5, .slice y6 y7 y8])) := hide ⟨by rw [← hW3]; exact set5P (uh HX2) _ _ _ _ _, by rw [← hW3]; exact set5P_below (uh HY2) (uh HBX) _ _ _ _ _, (uh HN2).to (fun b hb => by rw [← hW3, heap_setCell_other _ _ _ _ hb.2, heap_setCell_other _ _ _ _ hb.2, heap_setCell_other _ _ _ _ hb.2, heap_setCell_other _ _ _ _ hb.2, heap_setCell_other _ _ _ _ hb.2]) (fun b hb => by rw [← hW3]; simpa using hb.1)⟩
   have HS3 : Hid (W3.cell? ⟨gb, 5, none⟩ = some (.slice (some a) n cl) ∧ W3.cell? ⟨gb, 2, none⟩ = some (.string e2) ∧ W3.cell? a = some (.int .i64 p0) ∧ W3.cell? ⟨a.block, a.off + 1, none⟩ = some (.int .i64 p1) ∧ W3.cell? ⟨a.block, a.off + 2, none⟩ = some (.string p2) ∧ W3.cell? ⟨a.block, a.off + 3, none⟩ = some (.slice p3 p4 p5) ∧ W3.cell? ⟨a.block, a.off + 4, none⟩ = some (.slice p6 p7 p8)) := hide (by
    have hY := (uh HM9).2.1
    exact ⟨(hY.cell (p := ⟨gb, 5, none⟩) hlt0).trans t5, (hY.cell (p := ⟨gb, 2, none⟩) hlt0).trans t2, (hY.cell (p := a) hlt1).trans hA00, (hY.cell (p := ⟨a.block, a.off + 1, none⟩) hlt1).trans hA01, (hY.cell (p := ⟨a.block, a.off + 2, none⟩) hlt1).trans hA02, (hY.cell (p := ⟨a.block, a.off + 3, none⟩) hlt1).trans hA03, (hY.cell (p := ⟨a.block, a.off + 4, none⟩) hlt1).trans hA04⟩)
   refine till_one 12 (by kernel_rfl) rfl (fun K hK => ?_)
   go_simp
   try rw [hW3]
   refine hK.out _ _ (Or.inr (uh HS3)) ?_
   clear hK K HS2 HY2 HX2 HQ2 HN2 c0 c1 c2 c3 c4 fz0 fz1 fz2 fz3 fz4 hW3
   try simp only [Act.put, setX]
   refine till_one 13 (by kernel_rfl) rfl (fun K hK => ?_)
   go_simp
   refine hK.out _ _ (Or.inl (by first | rfl | trivial)) ?_
   clear hK K HS3
   try simp only [Act.put, setX]
   refine till_done (by kernel_rfl) ?_ _
   cases fb with
   | false =>
    have CN : Hid (Calls Tryz.prog 101 #[.int .i64 6] W3 fun e w' => OpPost W3 R e w') := hide (by rw [uh HA1 rfl]; exact trap_op 6 W3)
    go_wp2_with fail
    refine (uh CN).mono ?_
    rintro e WZ9 ⟨y0, y1, y2, y3, y4, y5, y6, y7, y8, t, rfl, ⟨ht, q5⟩, d5⟩
    have X5 : Below v2.heap.size v2 WZ9 := (uh HM9).2.1.trans (d5.mono (uh HM9).2.1.size)
    have ER : Hid (WZ9.heap[gr]? = some (.cells #[.int .i64 0, .int .i64 0, .string ⟨#[]⟩, .slice none 0 0, .slice none 0 0] 25 (0, 0))) := hide ((X5.block gr (uh HM).2.2.2.2).trans (uh HM).2.2.1)
    obtain ⟨r0z, r1z, r2z, r3z, r4z⟩ := block5 (uh ER)
    obtain ⟨f0, f1, f2, f3, f4⟩ := fr5 (uh ER)
    have HF9 : Hid (IsQ WZ9 (fun b => v2.heap.size ≤ b ∧ b < WZ9.heap.size) R.1 (.agg #[.int .i64 y0, .int .i64 y1, .string y2, .slice y3 y4 y5, .slice y6 y7 y8]) ∧ t = R.2 ∧ Below v2.heap.size v2 WZ9) := hide ⟨q5.weak (fun b hb => ⟨Nat.le_trans (uh HM9).2.1.size hb.1, hb.2⟩), ht, X5⟩
    clear q5 d5 X5 ht CN 
    go_wp2_with fail
    (try simp only [Exit.inBlock, Exit.then])
    refine bodyPost_ret (ret_ct rfl _ _ gr #[.int .i64 y0, .int .i64 y1, .string y2, .slice y3 y4 y5, .slice y6 y7 y8] _ _ rfl (set5P (uh ER) _ _ _ _ _) Tryz.underlying25 rfl size_vl) rfl ?_
    exact op_fin (uh HM).1 (uh HM).2.2.2.1 (uh HM).2.2.2.2 (uh HF9).2.2 (uh HF9).1 (uh HF9).2.1
   | true =>
    have HZ2 : Hid (R = (gv, 0)) := hide (uh HA2 rfl)
    clear HA1 HA2
    obtain ⟨z0, z1, z2, z3, z4⟩ := block5 (uh HM9).1
    have ER : Hid (W3.heap[gr]? = some (.cells #[.int .i64 0, .int .i64 0, .string ⟨#[]⟩, .slice none 0 0, .slice none 0 0] 25 (0, 0))) := hide (((uh HM9).2.1.block gr (uh HM).2.2.2.2).trans (uh HM).2.2.1)
    obtain ⟨r0z, r1z, r2z, r3z, r4z⟩ := block5 (uh ER)
    obtain ⟨f0, f1, f2, f3, f4⟩ := fr5 (uh ER)
    go_wp2_with fail
    (try simp only [Exit.inBlock, Exit.then])
    refine bodyPost_ret (ret_ct rfl _ _ gr #[.int .i64 y0, .int .i64 y1, .string y2, .slice y3 y4 y5, .slice y6 y7 y8] _ _ rfl (set5P (uh ER) _ _ _ _ _) Tryz.underlying25 rfl size_vl) rfl ?_
    exact op_fin (uh HM).1 (uh HM).2.2.2.1 (uh HM).2.2.2.2 (uh HM9).2.1 (by rw [uh HZ2]; exact (uh HM9).2.2) (by rw [uh HZ2])
  ·go_simp
   obtain ⟨W1, hW1⟩ : ∃ W, W0.alloc (.cells #[.int .i64 0, .int .i64 0, .string ⟨#[]⟩, .slice none 0 0, .slice none 0 0] 25) = W := ⟨_, rfl⟩
   obtain ⟨bx, hbx⟩ : ∃ bx, W0.heap.size = bx := ⟨_, rfl⟩
   have dd : Below W0.heap.size W0 W1 := by rw [← hW1]; exact (Below.refl _ _).alloc (Nat.le_refl _) _
   have HX1 : Hid (W1.heap[bx]? = some (.cells #[.int .i64 0, .int .i64 0, .string ⟨#[]⟩, .slice none 0 0, .slice none 0 0] 25 (0, 0))) := hide (by rw [← hW1, ← hbx]; exact heap_alloc_new W0 _)
   have HBX : Hid (v2.heap.size ≤ bx) := hide (by rw [← hbx]; exact (uh HY0).size)
   try rw [hW1]
   try rw [hbx]
   have HS1 : Hid (W1.cell? ⟨gb, 5, none⟩ = some (.slice (some a) n cl) ∧ W1.cell? ⟨gb, 2, none⟩ = some (.string e2) ∧ W1.cell? a = some (.int .i64 p0) ∧ W1.cell? ⟨a.block, a.off + 1, none⟩ = some (.int .i64 p1) ∧ W1.cell? ⟨a.block, a.off + 2, none⟩ = some (.string p2) ∧ W1.cell? ⟨a.block, a.off + 3, none⟩ = some (.slice p3 p4 p5) ∧ W1.cell? ⟨a.block, a.off + 4, none⟩ = some (.slice p6 p7 p8)) := hide ⟨cell_later dd ((uh HS0).1), cell_later dd ((uh HS0).2.1), cell_later dd ((uh HS0).2.2.1), cell_later dd ((uh HS0).2.2.2.1), cell_later dd ((uh HS0).2.2.2.2.1), cell_later dd ((uh HS0).2.2.2.2.2.1), cell_later dd ((uh HS0).2.2.2.2.2.2)⟩
   have HY1 : Hid (Below v2.heap.size v2 W1) := hide ((uh HY0).trans (dd.mono (uh HY0).size))
   refine hK.out _ _ (Or.inr (uh HS1)) ?_
   clear hK K HS0 HY0 dd hW1 hbx
   try simp only [Act.put, setX]
   refine till_one 7 (by kernel_rfl) rfl (fun K hK => ?_)
   go_simp
   refine (uh CG W1 (uh HY1)).mono ?_
   rintro e W2 ⟨x', rfl, dd, qq⟩
   obtain ⟨y0, y1, y2, y3, y4, y5, y6, y7, y8, rfl⟩ := shape9 qq.1
   have HQ2 : Hid (IsQ W2 (fun b => v2.heap.size ≤ b ∧ b < W2.heap.size) gv (.agg #[.int .i64 y0, .int .i64 y1, .string y2, .slice y3 y4 y5, .slice y6 y7 y8])) := hide (qq.weak (fun b hb => ⟨Nat.le_trans (uh HY1).size hb.1, hb.2⟩))
   have HN2 : Hid (IsQ W2 (fun b => (v2.heap.size ≤ b ∧ b < W2.heap.size) ∧ b ≠ bx) gv (.agg #[.int .i64 y0, .int .i64 y1, .string y2, .slice y3 y4 y5, .slice y6 y7 y8])) := hide (qq.weak (fun b hb => ⟨⟨Nat.le_trans (uh HY1).size hb.1, hb.2⟩, fun e => by have h1 := hb.1; have h2 := (Array.getElem?_eq_some_iff.1 (uh HX1)).1; omega⟩))
   have HS2 : Hid (W2.cell? ⟨gb, 5, none⟩ = some (.slice (some a) n cl) ∧ W2.cell? ⟨gb, 2, none⟩ = some (.string e2) ∧ W2.cell? a = some (.int .i64 p0) ∧ W2.cell? ⟨a.block, a.off + 1, none⟩ = some (.int .i64 p1) ∧ W2.cell? ⟨a.block, a.off + 2, none⟩ = some (.string p2) ∧ W2.cell? ⟨a.block, a.off + 3, none⟩ = some (.slice p3 p4 p5) ∧ W2.cell? ⟨a.block, a.off + 4, none⟩ = some (.slice p6 p7 p8)) := hide ⟨cell_later dd ((uh HS1).1), cell_later dd ((uh HS1).2.1), cell_later dd ((uh HS1).2.2.1), cell_later dd ((uh HS1).2.2.2.1), cell_later dd ((uh HS1).2.2.2.2.1), cell_later dd ((uh HS1).2.2.2.2.2.1), cell_later dd ((uh HS1).2.2.2.2.2.2)⟩
   have HY2 : Hid (Below v2.heap.size v2 W2) := hide ((uh HY1).trans (dd.mono (uh HY1).size))
   have HX2 : Hid (W2.heap[bx]? = some (.cells #[.int .i64 0, .int .i64 0, .string ⟨#[]⟩, .slice none 0 0, .slice none 0 0] 25 (0, 0))) := hide ((dd.block bx (Array.getElem?_eq_some_iff.1 (uh HX1)).1).trans (uh HX1))
   clear dd qq
   go_wp2_with fail
   refine hK.out _ _ (Or.inr (uh HS2)) ?_
   clear hK K HS1 HY1 HX1
   try simp only [Act.put, setX]
   refine till_take 8 (v := .tuple #[.agg #[.int .i64 y0, .int .i64 y1, .string y2, .slice y3 y4 y5, .slice y6 y7 y8], .bool fb]) (some 13) rfl rfl rfl (by kernel_rfl) (by kernel_rfl) (by kernel_rfl) (by kernel_rfl) (fun _ _ _ h => h) (Or.inl ⟨by rfl, fun u hu => by obtain ⟨b0, b1, b2, b3, b4, b5, b6⟩ := hu; go_simp⟩) (uh HS2) ?_
   try simp only [Act.put, setX]
   refine till_take 9 (v := .agg #[.int .i64 y0, .int .i64 y1, .string y2, .slice y3 y4 y5, .slice y6 y7 y8]) (some 22) rfl rfl rfl (by kernel_rfl) (by kernel_rfl) (by kernel_rfl) (by kernel_rfl) (fun _ _ _ h => h) (Or.inl ⟨by rfl, fun u hu => by obtain ⟨b0, b1, b2, b3, b4, b5, b6⟩ := hu; go_simp⟩) (uh HS2) ?_
   try simp only [Act.put, setX]
   refine till_take 10 (v := .bool fb) (some 23) rfl rfl rfl (by kernel_rfl) (by kernel_rfl) (by kernel_rfl) (by kernel_rfl) (fun _ _ _ h => h) (Or.inl ⟨by rfl, fun u hu => by obtain ⟨b0, b1, b2, b3, b4, b5, b6⟩ := hu; go_simp⟩) (uh HS2) ?_
   try simp only [Act.put, setX]
   obtain ⟨c0, c1, c2, c3, c4⟩ := block5 (uh HX2)
   obtain ⟨fz0, fz1, fz2, fz3, fz4⟩ := fr5 (uh HX2)
   obtain ⟨W3, hW3⟩ : ∃ W, (((((W2.setCell ⟨bx, 0, none⟩ (.int .i64 y0)).setCell ⟨bx, 1, none⟩ (.int .i64 y1)).setCell ⟨bx, 2, none⟩ (.string y2)).setCell ⟨bx, 3, none⟩ (.slice y3 y4 y5)).setCell ⟨bx, 4, none⟩ (.slice y6 y7 y8)) = W := ⟨_, rfl⟩
   have HM9 : Hid (W3.heap[bx]? = some (.cells #[.int .i64 y0, .int .i64 y1, .string y2, .slice y3 y4 y5, .slice y6 y7 y8] 25 (0, 0)) ∧ Below v2.heap.size v2 W3 ∧ IsQ W3 (fun b => v2.heap.size ≤ b ∧ b < W3.heap.size) gv (.agg #[.int .i64 y0, .int .i64 y1, .string y2, .slice y3 y4 y5, .slice y6 y7 y8])) := hide ⟨by rw [← hW3]; exact set5P (uh HX2) _ _ _ _ _, by rw [← hW3]; exact set5P_below (uh HY2) (uh HBX) _ _ _ _ _, (uh HN2).to (fun b hb => by rw [← hW3, heap_setCell_other _ _ _ _ hb.2, heap_setCell_other _ _ _ _ hb.2, heap_setCell_other _ _ _ _ hb.2, heap_setCell_other _ _ _ _ hb.2, heap_setCell_other _ _ _ _ hb.2]) (fun b hb => by rw [← hW3]; simpa using hb.1)⟩
   have HS3 : Hid (W3.cell? ⟨gb, 5, none⟩ = some (.slice (some a) n cl) ∧ W3.cell? ⟨gb, 2, none⟩ = some (.string e2) ∧ W3.cell? a = some (.int .i64 p0) ∧ W3.cell? ⟨a.block, a.off + 1, none⟩ = some (.int .i64 p1) ∧ W3.cell? ⟨a.block, a.off + 2, none⟩ = some (.string p2) ∧ W3.cell? ⟨a.block, a.off + 3, none⟩ = some (.slice p3 p4 p5) ∧ W3.cell? ⟨a.block, a.off + 4, none⟩ = some (.slice p6 p7 p8)) := hide (by
    have hY := (uh HM9).2.1
    exact ⟨(hY.cell (p := ⟨gb, 5, none⟩) hlt0).trans t5, (hY.cell (p := ⟨gb, 2, none⟩) hlt0).trans t2, (hY.cell (p := a) hlt1).trans hA00, (hY.cell (p := ⟨a.block, a.off + 1, none⟩) hlt1).trans hA01, (hY.cell (p := ⟨a.block, a.off + 2, none⟩) hlt1).trans hA02, (hY.cell (p := ⟨a.block, a.off + 3, none⟩) hlt1).trans hA03, (hY.cell (p := ⟨a.block, a.off + 4, none⟩) hlt1).trans hA04⟩)
   refine till_one 12 (by kernel_rfl) rfl (fun K hK => ?_)
   go_simp
   try rw [hW3]
   refine hK.out _ _ (Or.inr (uh HS3)) ?_
   clear hK K HS2 HY2 HX2 HQ2 HN2 c0 c1 c2 c3 c4 fz0 fz1 fz2 fz3 fz4 hW3
   try simp only [Act.put, setX]
   refine till_one 13 (by kernel_rfl) rfl (fun K hK => ?_)
   go_simp
   refine hK.out _ _ (Or.inl (by first | rfl | trivial)) ?_
   clear hK K HS3
   try simp only [Act.put, setX]
   refine till_done (by kernel_rfl) ?_ _
   cases fb with
   | false =>
    have CN : Hid (Calls Tryz.prog 101 #[.int .i64 6] W3 fun e w' => OpPost W3 R e w') := hide (by rw [uh HA1 rfl]; exact trap_op 6 W3)
    go_wp2_with fail
    refine (uh CN).mono ?_
    rintro e WZ9 ⟨y0, y1, y2, y3, y4, y5, y6, y7, y8, t, rfl, ⟨ht, q5⟩, d5⟩
    have X5 : Below v2.heap.size v2 WZ9 := (uh HM9).2.1.trans (d5.mono (uh HM9).2.1.size)
    have ER : Hid (WZ9.heap[gr]? = some (.cells #[.int .i64 0, .int .i64 0, .string ⟨#[]⟩, .slice none 0 0, .slice none 0 0] 25 (0, 0))) := hide ((X5.block gr (uh HM).2.2.2.2).trans (uh HM).2.2.1)
    obtain ⟨r0z, r1z, r2z, r3z, r4z⟩ := block5 (uh ER)
    obtain ⟨f0, f1, f2, f3, f4⟩ := fr5 (uh ER)
    have HF9 : Hid (IsQ WZ9 (fun b => v2.heap.size ≤ b ∧ b < WZ9.heap.size) R.1 (.agg #[.int .i64 y0, .int .i64 y1, .string y2, .slice y3 y4 y5, .slice y6 y7 y8]) ∧ t = R.2 ∧ Below v2.heap.size v2 WZ9) := hide ⟨q5.weak (fun b hb => ⟨Nat.le_trans (uh HM9).2.1.size hb.1, hb.2⟩), ht, X5⟩
    clear q5 d5 X5 ht CN 
    go_wp2_with fail
    (try simp only [Exit.inBlock, Exit.then])
    refine bodyPost_ret (ret_ct rfl _ _ gr #[.int .i64 y0, .int .i64 y1, .string y2, .slice y3 y4 y5, .slice y6 y7 y8] _ _ rfl (set5P (uh ER) _ _ _ _ _) Tryz.underlying25 rfl size_vl) rfl ?_
    exact op_fin (uh HM).1 (uh HM).2.2.2.1 (uh HM).2.2.2.2 (uh HF9).2.2 (uh HF9).1 (uh HF9).2.1
   | true =>
    have HZ2 : Hid (R = (gv, 0)) := hide (uh HA2 rfl)
    clear HA1 HA2
    obtain ⟨z0, z1, z2, z3, z4⟩ := block5 (uh HM9).1
    have ER : Hid (W3.heap[gr]? = some (.cells #[.int .i64 0, .int .i64 0, .string ⟨#[]⟩, .slice none 0 0, .slice none 0 0] 25 (0, 0))) := hide (((uh HM9).2.1.block gr (uh HM).2.2.2.2).trans (uh HM).2.2.1)
    obtain ⟨r0z, r1z, r2z, r3z, r4z⟩ := block5 (uh ER)
    obtain ⟨f0, f1, f2, f3, f4⟩ := fr5 (uh ER)
    go_wp2_with fail
    (try simp only [Exit.inBlock, Exit.then])
    refine bodyPost_ret (ret_ct rfl _ _ gr #[.int .i64 y0, .int .i64 y1, .string y2, .slice y3 y4 y5, .slice y6 y7 y8] _ _ rfl (set5P (uh ER) _ _ _ _ _) Tryz.underlying25 rfl size_vl) rfl ?_
    exact op_fin (uh HM).1 (uh HM).2.2.2.1 (uh HM).2.2.2.2 (uh HM9).2.1 (by rw [uh HZ2]; exact (uh HM9).2.2) (by rw [uh HZ2])
 ·have hb3 : (e0 == 3) = false := beq_eq_false_iff_ne.2 hk3
  have hrz : R = (vlz, 3) := by rw [← hR]; unfold fieldV; rw [hex.1, if_neg hk3]
  have CN : Hid (Calls Tryz.prog 101 #[.int .i64 3] v2 fun e w' => OpPost v2 R e w') := hide (by rw [hrz]; exact trap_op 3 v2)
  clear n1 n2 b1 b2 s1 h00 h01 h02 h03 h04 hx hBs hex hR hrz
  go_enter Tryz.func64, Tryz.ntmps64
  go_wp2_with fail
  refine (uh CN).mono ?_
  rintro e W9 ⟨y0, y1, y2, y3, y4, y5, y6, y7, y8, t, rfl, ⟨ht, q5⟩, d5⟩
  have X5 : Below v2.heap.size v2 W9 := (Below.refl v2.heap.size v2).trans (d5.mono (Below.refl v2.heap.size v2).size)
  have ER : Hid (W9.heap[gr]? = some (.cells #[.int .i64 0, .int .i64 0, .string ⟨#[]⟩, .slice none 0 0, .slice none 0 0] 25 (0, 0))) := hide ((X5.block gr (uh HM).2.2.2.2).trans (uh HM).2.2.1)
  obtain ⟨r0z, r1z, r2z, r3z, r4z⟩ := block5 (uh ER)
  obtain ⟨f0, f1, f2, f3, f4⟩ := fr5 (uh ER)
  have HF9 : Hid (IsQ W9 (fun b => v2.heap.size ≤ b ∧ b < W9.heap.size) R.1 (.agg #[.int .i64 y0, .int .i64 y1, .string y2, .slice y3 y4 y5, .slice y6 y7 y8]) ∧ t = R.2 ∧ Below v2.heap.size v2 W9) := hide ⟨q5.weak (fun b hb => ⟨Nat.le_trans (Below.refl v2.heap.size v2).size hb.1, hb.2⟩), ht, X5⟩
  clear q5 d5 X5 ht CN 
  go_wp2_with fail
  (try simp only [Exit.inBlock, Exit.then])
  refine bodyPost_ret (ret_ct rfl _ _ gr #[.int .i64 y0, .int .i64 y1, .string y2, .slice y3 y4 y5, .slice y6 y7 y8] _ _ rfl (set5P (uh ER) _ _ _ _ _) Tryz.underlying25 rfl size_vl) rfl ?_
  exact op_fin (uh HM).1 (uh HM).2.2.2.1 (uh HM).2.2.2.2 (uh HF9).2.2 (uh HF9).1 (uh HF9).2.1
end Go.Proofs.YtgkmdjmigehmeaaGreatDoor
