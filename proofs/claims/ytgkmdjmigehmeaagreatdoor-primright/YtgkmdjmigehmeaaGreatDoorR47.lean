/-
  keys (prim); no conditions but the form's own reach.
-/
import Derived.Test.YtgkmdjmigehmeaaGreatDoorR46
import Derived.Deep.AppendLies
namespace Go.Proofs.YtgkmdjmigehmeaaGreatDoor
set_option linter.unusedVariables false
set_option linter.unusedSimpArgs false
set_option maxRecDepth 100000
set_option maxHeartbeats 16000000
open Go.RowKit Go.Shelf
def txV (t : ByteArray) : Vl := .mk 3 0 t [] []
def keysV (x : Vl) : Vl × Int := szV (.mk 4 0 ⟨#[]⟩ (x.ks.map txV) [])
def kc (ks : List ByteArray) : List (List Value) := ks.map (fun t9 => [.int .i64 3, .int .i64 0, .string t9, .slice none 0 0, .slice none 0 0])
theorem kc_next (ks : List ByteArray) (i : Nat) (t9 : ByteArray) (h : ks[i]? = some t9) : (kc (ks.take i)).flatten ++ [.int .i64 3, .int .i64 0, .string t9, .slice none 0 0, .slice none 0 0] = (kc (ks.take (i + 1))).flatten := by
 unfold kc
 rw [List.take_add_one, h, List.map_append, List.flatten_append]
 rfl
theorem kc_els (w : World) (B : Nat) (ks : List ByteArray) (h : ∀ t ∈ ks, t.size ≤ 140737488351232) : ElsV w B (ks.map txV) (kc ks) := by
 refine ⟨by simp [kc], fun i y hy => ?_⟩
 rw [List.getElem?_map, Option.map_eq_some_iff] at hy
 obtain ⟨t, ht, rfl⟩ := hy
 exact ⟨_, by unfold kc; rw [List.getElem?_map, ht]; rfl, rfl, (leaf_isQ w (fun b => b < B) 3 0 t (by omega) (by omega) (h t (List.mem_of_getElem? ht))).1⟩
theorem row_toP {w w' : World} {base : Nat} {e : TypeId} {size : Nat} {v : Value} {n : Nat} {xs : List Value} (h : w.ownsRow base e size v n xs) (hk : ∀ g, v.ownBlock = some g → w'.heap[g]? = w.heap[g]?) : w'.ownsRow base e size v n xs := by
 refine ⟨h.1, ?_⟩
 rcases h.2 with hn | ⟨g, cap, cur, e, hb, hg, rest⟩
 ·exact Or.inl hn
 ·exact Or.inr ⟨g, cap, cur, e, hb, (hk g (by rw [e]; rfl)).trans hg, rest⟩
structure KyI (v2 W : World) (g4 : Nat) (ks : List ByteArray) (so : Option Addr) (sc i : Nat) : Prop where
 box : W.heap[g4]? = some (.cells #[.int .i64 4, .int .i64 0, .string ⟨#[]⟩, .slice so i sc, .slice none 0 0] 25 (0, 0))
 row : W.ownsRow (g4 + 1) 25 5 (.slice so i sc) i (kc (ks.take i)).flatten
 below : Below v2.heap.size v2 W
 low : v2.heap.size ≤ g4
theorem KyI.next {v2 W W4 W5 : World} {g4 : Nat} {ks : List ByteArray} {so : Option Addr} {sc i g5 cap5 : Nat} {t9 : ByteArray} (h : KyI v2 W g4 ks so sc i) (ht : ks[i]? = some t9) (b4 : Below W.heap.size W W4) (o5 : W5.ownsRow (g4 + 1) 25 5 (.slice (some ⟨g5, 0, none⟩) (i + 1) cap5) (i + 1) ((kc (ks.take i)).flatten ++ [.int .i64 3, .int .i64 0, .string t9, .slice none 0 0, .slice none 0 0])) (g5' : W4.grownBy W5 (Value.slice so i sc).ownBlock) : KyI v2 (W5.setCell ⟨g4, 3, none⟩ (.slice (some ⟨g5, 0, none⟩) (i + 1) cap5)) g4 ks (some ⟨g5, 0, none⟩) cap5 (i + 1) := by
 have hg4 : g4 < W.heap.size := (Array.getElem?_eq_some_iff.1 h.box).1
 have hne : some g4 ≠ (Value.slice so i sc).ownBlock := fun e => by have := (h.row.lt g4 e.symm).1; omega
 have hbx : W5.heap[g4]? = some (.cells #[.int .i64 4, .int .i64 0, .string ⟨#[]⟩, .slice so i sc, .slice none 0 0] 25 (0, 0)) := (g5'.block g4 (Nat.lt_of_lt_of_le hg4 b4.size) hne).trans ((b4.block g4 hg4).trans h.box)
 have hg5 : g4 + 1 ≤ g5 := (o5.lt g5 rfl).1
 refine ⟨?_, ?_, ?_, h.low⟩
 ·have := heap_setCell_same W5 g4 3 _ _ (.slice (some ⟨g5, 0, none⟩) (i + 1) cap5) hbx
  exact this
 ·rw [← kc_next ks i t9 ht]
  exact row_toP o5 (fun b hb => heap_setCell_other _ _ _ _ (fun e => by cases hb; have e2 : g5 = g4 := e; omega))
 ·refine Below.setCell (p := ⟨g4, 3, none⟩) ?_ h.low _
  exact (h.below.trans (b4.mono h.below.size)).trans ((Below.refl _ _).grown g5' (by have := h.below.size; have := b4.size; omega) (fun b hb => by have := (h.row.lt b hb).1; have := h.low; omega))
theorem keys_op (e0 e1 : Int) (e2 : ByteArray) (e3 : Option Addr) (e4 e5 : Nat) (e6 : Option Addr) (e7 e8 : Nat) (a : Addr) (n cl : Nat) (p0 p1 : Int) (p2 : ByteArray) (p3 : Option Addr) (p4 p5 : Nat) (p6 : Option Addr) (p7 p8 : Nat) (x : Vl) (B : Nat) (w : World) (hn : 1 ≤ n) (ha : a.block < w.heap.size) (h00 : w.cell? a = some (.int .i64 p0)) (h01 : w.cell? ⟨a.block, a.off + 1, none⟩ = some (.int .i64 p1)) (h02 : w.cell? ⟨a.block, a.off + 2, none⟩ = some (.string p2)) (h03 : w.cell? ⟨a.block, a.off + 3, none⟩ = some (.slice p3 p4 p5)) (h04 : w.cell? ⟨a.block, a.off + 4, none⟩ = some (.slice p6 p7 p8)) (hx : IsV w B x (.agg #[.int .i64 p0, .int .i64 p1, .string p2, .slice p3 p4 p5, .slice p6 p7 p8])) (hBs : B ≤ w.heap.size) (hrx : rightB x = true) :
  Calls Tryz.prog 71 #[.agg #[.int .i64 e0, .int .i64 e1, .string e2, .slice e3 e4 e5, .slice e6 e7 e8, .slice (some a) n cl]] w fun e w' => OpPost w (keysV x) e w' := by
 obtain ⟨gb, hgb⟩ : ∃ gb, w.heap.size = gb := ⟨_, rfl⟩
 obtain ⟨v1, hv1⟩ : ∃ v1, w.alloc (.cells #[.int .i64 e0, .int .i64 e1, .string e2, .slice e3 e4 e5, .slice e6 e7 e8, .slice (some a) n cl] 50) = v1 := ⟨_, rfl⟩
 obtain ⟨gr, hgr⟩ : ∃ gr, v1.heap.size = gr := ⟨_, rfl⟩
 obtain ⟨v2, hv2⟩ : ∃ v2, v1.alloc (.cells #[.int .i64 0, .int .i64 0, .string ⟨#[]⟩, .slice none 0 0, .slice none 0 0] 25) = v2 := ⟨_, rfl⟩
 have n1 : v1.heap[gb]? = some (.cells #[.int .i64 e0, .int .i64 e1, .string e2, .slice e3 e4 e5, .slice e6 e7 e8, .slice (some a) n cl] 50 (0, 0)) := by rw [← hv1, ← hgb]; exact heap_alloc_new w _
 have n2 : v2.heap[gr]? = some (.cells #[.int .i64 0, .int .i64 0, .string ⟨#[]⟩, .slice none 0 0, .slice none 0 0] 25 (0, 0)) := by rw [← hv2, ← hgr]; exact heap_alloc_new v1 _
 have b1 : Below w.heap.size w v1 := by rw [← hv1]; exact (Below.refl _ _).alloc (Nat.le_refl _) _
 have b2 : Below v1.heap.size v1 v2 := by rw [← hv2]; exact (Below.refl _ _).alloc (Nat.le_refl _) _
 have s1 : v1.heap.size = w.heap.size + 1 := by rw [← hv1]; simp
 have HM : Hid (Below w.heap.size w v2 ∧ v2.heap[gb]? = some (.cells #[.int .i64 e0, .int .i64 e1, .string e2, .slice e3 e4 e5, .slice e6 e7 e8, .slice (some a) n cl] 50 (0, 0)) ∧ v2.heap[gr]? = some (.cells #[.int .i64 0, .int .i64 0, .string ⟨#[]⟩, .slice none 0 0, .slice none 0 0] 25 (0, 0)) ∧ w.heap.size ≤ gr ∧ gr < v2.heap.size) := hide ⟨b1.trans (b2.mono b1.size), (b2.block gb (by omega)).trans n1, n2, by omega, (Array.getElem?_eq_some_iff.1 n2).1⟩
 obtain ⟨t0, t1, t2, t3, t4, t5⟩ := block6 (uh HM).2.1
 have hA00 : v2.cell? a = some (.int .i64 p0) := ((uh HM).1.cell (p := a) ha).trans h00
 have hA01 : v2.cell? ⟨a.block, a.off + 1, none⟩ = some (.int .i64 p1) := ((uh HM).1.cell (p := ⟨a.block, a.off + 1, none⟩) ha).trans h01
 have hA02 : v2.cell? ⟨a.block, a.off + 2, none⟩ = some (.string p2) := ((uh HM).1.cell (p := ⟨a.block, a.off + 2, none⟩) ha).trans h02
 have hA03 : v2.cell? ⟨a.block, a.off + 3, none⟩ = some (.slice p3 p4 p5) := ((uh HM).1.cell (p := ⟨a.block, a.off + 3, none⟩) ha).trans h03
 have hA04 : v2.cell? ⟨a.block, a.off + 4, none⟩ = some (.slice p6 p7 p8) := ((uh HM).1.cell (p := ⟨a.block, a.off + 4, none⟩) ha).trans h04
 have hl0 : (0 : Int) < (n : Int) := by omega
 have hlt1 : a.block < v2.heap.size := Nat.lt_of_lt_of_le ha (uh HM).1.size
 have hlt0 : gb < v2.heap.size := (Array.getElem?_eq_some_iff.1 (uh HM).2.1).1
 obtain ⟨R, hR⟩ : ∃ R, keysV x = R := ⟨_, rfl⟩
 rw [hR]
 have HRR : Hid (R = szV (.mk 4 0 ⟨#[]⟩ (x.ks.map txV) [])) := hide hR.symm
 have hks : p7 = x.ks.length ∧ p7 ≤ 2048 ∧ (∀ t ∈ x.ks, t.size ≤ 140737488351232) ∧ (∀ u, Below w.heap.size w u → IsK u x.ks p6 p8) := by
  have h1 := (right_sz hrx).2.2
  obtain ⟨k1, n1, s1, l1, ks1⟩ := x
  obtain ⟨_, _, _, _, r5, V, hf, _⟩ := IsP.at hx
  refine ⟨r5, by rw [r5]; exact h1, hf.bt, fun u hu => ?_⟩
  obtain ⟨_, _, _, _, _, V', hf', _⟩ := IsP.at (IsV.mono (hu.mono hBs) hx)
  exact ⟨fun h => (hf'.nk h).1, hf'.lk, hf'.bc, fun a ha i t ht => (hf'.hk a ha i t ht).2, hf'.bt⟩
 have HKS := hide hks
 have hp7 : p7 ≤ 2048 := hks.2.1
 obtain ⟨g4, hg4⟩ : ∃ g, v2.heap.size = g := ⟨_, rfl⟩
 obtain ⟨v3, hv3⟩ : ∃ u, v2.alloc (.cells #[.int .i64 4, .int .i64 0, .string ⟨#[]⟩, .slice none 0 0, .slice none 0 0] 25) = u := ⟨_, rfl⟩
 have HI0 : Hid (KyI v2 v3 g4 x.ks none 0 0) := hide ⟨by rw [← hv3, ← hg4]; exact heap_alloc_new v2 _, World.ownsRow_nil _ _ _ _, by rw [← hv3]; exact (Below.refl _ _).alloc (Nat.le_refl _) _, by omega⟩
 have m5 : v3.cell? ⟨gb, 5, none⟩ = some (.slice (some a) n cl) := ((uh HI0).below.cell (p := ⟨gb, 5, none⟩) hlt0).trans t5
 have m4 : v3.cell? ⟨a.block, a.off + 4, none⟩ = some (.slice p6 p7 p8) := ((uh HI0).below.cell (p := ⟨a.block, a.off + 4, none⟩) hlt1).trans hA04
 obtain ⟨iv, hiv, hz0, hz1, hz2⟩ := info_parts infoVc
 have HIV := hide (And.intro hiv (And.intro hz0 (And.intro hz1 hz2)))
 clear n1 n2 b1 b2 s1 h00 h01 h02 h03 h04 hx hBs hrx hR hks hiv hz0 hz1 hz2
 have HV3 := hide hv3
 have HG4 := hide hg4
 clear hv3 hg4
 go_enter Tryz.func71, Tryz.ntmps71
 go_upto_region 2 with fail
 have hv3 := uh HV3
 have hg4 := uh HG4
 try rw [hv3]
 try rw [hg4]
 clear hv3 hg4 HV3 HG4
 go_wp2_with fail
 go_loopw [14] (fun x9 wr => ∃ (i : Nat) (so : Option Addr) (sc : Nat), x9 = .int .i64 (i : Int) ∧ Hid (i ≤ p7) ∧ Hid (KyI v2 wr g4 x.ks so sc i)) (fun x9 _ => p7 - (intOf x9).toNat)
 case atStart => exact ⟨0, none, 0, rfl, hide (by omega), HI0⟩
 case round =>
  clear HI0 m5 m4
  obtain ⟨i, so, sc, rfl, HIl, HKY⟩ := hrel
  by_cases hlt : i < p7
  ·have j1 : (i : Int) < (p7 : Int) := by omega
   have HI1 : Hid (i + 1 ≤ p7) := hide (by omega)
   obtain ⟨t9, ht9⟩ : ∃ t, x.ks[i]? = some t := ⟨_, List.getElem?_eq_getElem (by have := (uh HKS).1; omega)⟩
   have hwr : Below w.heap.size w wr := (uh HM).1.trans ((uh HKY).below.mono (uh HM).1.size)
   have hIK := (uh HKS).2.2.2 wr hwr
   obtain ⟨a9, rfl⟩ : ∃ a9, p6 = some a9 := by
    cases p6 with
    | none => have := hIK.none rfl; have := (List.getElem?_eq_some_iff.1 ht9).1; omega
    | some a9 => exact ⟨a9, rfl⟩
   have k9 : wr.cell? (a9.add i) = some (.string t9) := hIK.cell a9 rfl i t9 ht9
   obtain ⟨c0, c1, c2, c3, c4⟩ := block5 (uh HKY).box
   obtain ⟨h3s, hh3s⟩ : ∃ g, wr.heap.size = g := ⟨_, rfl⟩
   obtain ⟨W4, hW4⟩ : ∃ W, wr.alloc (.cells #[.int .i64 3, .int .i64 0, .string t9, .slice none 0 0, .slice none 0 0] 25) = W := ⟨_, rfl⟩
   have X4 : Below wr.heap.size wr W4 := by rw [← hW4]; exact (Below.refl _ _).alloc (Nat.le_refl _) _
   have at4 : W4.heap[h3s]? = some (.cells #[.int .i64 3, .int .i64 0, .string t9, .slice none 0 0, .slice none 0 0] 25 (0, 0)) := by rw [← hW4, ← hh3s]; exact heap_alloc_new wr _
   obtain ⟨CS, hCS⟩ : ∃ CS, (kc (x.ks.take i)).flatten = CS := ⟨_, rfl⟩
   have HOW : Hid (W4.ownsRow (g4 + 1) 25 5 (.slice so i sc) i CS) := hide (by
    have hr := (uh HKY).row
    rw [hCS] at hr
    exact row_toP hr (fun b hb => X4.block b ((uh HKY).row.lt b hb).2))
   have hloW : g4 + 1 ≤ W4.heap.size := by have := (Array.getElem?_eq_some_iff.1 (uh HKY).box).1; have := X4.size; omega
   have HEND : Hid (∀ (W5 : World) (g5 cap5 : Nat), W5.ownsRow (g4 + 1) 25 5 (.slice (some ⟨g5, 0, none⟩) (i + 1) cap5) (i + 1) (CS ++ [.int .i64 3, .int .i64 0, .string t9, .slice none 0 0, .slice none 0 0]) → W4.grownBy W5 (Value.slice so i sc).ownBlock → KyI v2 (W5.setCell ⟨g4, 3, none⟩ (.slice (some ⟨g5, 0, none⟩) (i + 1) cap5)) g4 x.ks (some ⟨g5, 0, none⟩) cap5 (i + 1) ∧ W5.cell? ⟨g4, 3, none⟩ = some (.slice so i sc) ∧ W5.frozen? ⟨g4, 3, none⟩ = false) := hide (by
    intro W5 g5 cap5 o5 g5'
    rw [← hCS] at o5
    refine ⟨(uh HKY).next ht9 X4 o5 g5', ?_⟩
    have hg4 : g4 < wr.heap.size := (Array.getElem?_eq_some_iff.1 (uh HKY).box).1
    have hne : some g4 ≠ (Value.slice so i sc).ownBlock := fun e => by have := ((uh HKY).row.lt g4 e.symm).1; omega
    have hbx := (g5'.block g4 (Nat.lt_of_lt_of_le hg4 X4.size) hne).trans ((X4.block g4 hg4).trans (uh HKY).box)
    exact ⟨(block5 hbx).2.2.2.1, frozen_of_row W5 g4 3 _ _ hbx⟩)
   have HKY2 := HKY
   have tokG : True := trivial
   clear hIK hwr ht9 X4 hCS
   go_wp2_with (first | (have _t := tokG; at_builtin; refine wpList_append_lies W4 rfl _ _ 22 rfl (g4 + 1) 25 iv (.agg #[.int .i64 0, .int .i64 0, .string ⟨#[]⟩, .slice none 0 0, .slice none 0 0]) 5 80 Tryz.underlying22 (uh HIV).1 (uh HIV).2.1 (uh HIV).2.2.1 (uh HIV).2.2.2 rfl (by omega) (.slice so i sc) i CS (by rfl) (uh HOW) ⟨h3s, 0, none⟩ 1 1 [.int .i64 3, .int .i64 0, .string t9, .slice none 0 0, .slice none 0 0] (by rfl) (by rfl) (World.news_of_block at4) (by simp [Value.oneCell']) (by omega) (by unfold maxLen; omega) (by omega) hloW _ rfl ?_; intro g5 cap5 W5 hown5 hgrow5 hat5 hlt5; clear tokG; obtain ⟨RR0, cz3, fz3⟩ := uh HEND W5 g5 cap5 hown5 hgrow5; have RR := hide RR0; clear hown5 hgrow5 hat5 hlt5 RR0))
   go_roundw
   case rel => exact ⟨i + 1, _, _, by go_num, HI1, RR⟩
   case measure => have := uh HI1; simp [intOf]; omega
  ·have j1 : ¬ (i : Int) < (p7 : Int) := by omega
   obtain rfl : i = p7 := by have := uh HIl; omega
   obtain ⟨c0, c1, c2, c3, c4⟩ := block5 (uh HKY).box
   have hwr : Below w.heap.size w wr := (uh HM).1.trans ((uh HKY).below.mono (uh HM).1.size)
   have hrow := (uh HKY).row
   rw [List.take_of_length_le (by have := (uh HKS).1; omega)] at hrow
   obtain ⟨a6, c6, hsv, V6⟩ := own_val hrow (kc_els wr wr.heap.size x.ks (uh HKS).2.2.1) (by rw [List.length_map]; exact (uh HKS).1.symm) (Nat.le_refl _) (by omega)
   simp only [Value.slice.injEq] at hsv
   obtain ⟨rfl, -, rfl⟩ := hsv
   have CN : Hid (Calls Tryz.prog 99 #[.agg #[.int .i64 4, .int .i64 0, .string ⟨#[]⟩, .slice so i sc, .slice none 0 0]] wr fun e w' => OpPost wr R e w') := hide (by rw [uh HRR]; exact sized_op _ _ wr.heap.size wr V6 (Nat.le_refl _))
   have XW := hide (uh HKY).below
   clear hwr hrow V6
   go_wp2_with fail
   refine (uh CN).mono ?_
   rintro e W9 ⟨y0, y1, y2, y3, y4, y5, y6, y7, y8, t, rfl, ⟨ht, q5⟩, d5⟩
   have X5 : Below v2.heap.size v2 W9 := (uh XW).trans (d5.mono (uh XW).size)
   have ER : Hid (W9.heap[gr]? = some (.cells #[.int .i64 0, .int .i64 0, .string ⟨#[]⟩, .slice none 0 0, .slice none 0 0] 25 (0, 0))) := hide ((X5.block gr (uh HM).2.2.2.2).trans (uh HM).2.2.1)
   obtain ⟨r0z, r1z, r2z, r3z, r4z⟩ := block5 (uh ER)
   obtain ⟨f0, f1, f2, f3, f4⟩ := fr5 (uh ER)
   have HF9 : Hid (IsQ W9 (fun b => v2.heap.size ≤ b ∧ b < W9.heap.size) R.1 (.agg #[.int .i64 y0, .int .i64 y1, .string y2, .slice y3 y4 y5, .slice y6 y7 y8]) ∧ t = R.2 ∧ Below v2.heap.size v2 W9) := hide ⟨q5.weak (fun b hb => ⟨Nat.le_trans (uh XW).size hb.1, hb.2⟩), ht, X5⟩
   clear q5 d5 X5 ht CN c0 c1 c2 c3 c4
   go_wp2_with fail
   (try simp only [Exit.inBlock, Exit.then])
   refine bodyPost_ret (ret_ct rfl _ _ gr #[.int .i64 y0, .int .i64 y1, .string y2, .slice y3 y4 y5, .slice y6 y7 y8] _ _ rfl (set5P (uh ER) _ _ _ _ _) Tryz.underlying25 rfl size_vl) rfl ?_
   exact op_fin (uh HM).1 (uh HM).2.2.2.1 (uh HM).2.2.2.2 (uh HF9).2.2 (uh HF9).1 (uh HF9).2.1
end Go.Proofs.YtgkmdjmigehmeaaGreatDoor
