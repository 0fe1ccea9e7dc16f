/-
  slice of a text or an array (prim); no conditions but the form's own reach.
-/
import Derived.Test.YtgkmdjmigehmeaaGreatDoorR37
namespace Go.Proofs.YtgkmdjmigehmeaaGreatDoor
set_option linter.unusedVariables false
set_option linter.unusedSimpArgs false
set_option maxRecDepth 100000
set_option maxHeartbeats 16000000
open Go.RowKit Go.Shelf
def sliceV (x : Vl) (i j : Int) : Vl × Int := if i < 0 ∨ j < i ∨ cntO x < j then (vlz, 2) else if x.kind = 3 then szV (.mk 3 0 (x.s.extract i.toNat j.toNat) [] []) else szV (.mk 4 0 ⟨#[]⟩ ((x.l.drop i.toNat).take (j.toNat - i.toNat)) [])
theorem sub_val {w : World} {B : Nat} {x : Vl} {p0 p1 : Int} {p2 : ByteArray} {p3 : Option Addr} {p4 p5 : Nat} {p6 : Option Addr} {p7 p8 : Nat} {i j : Nat} (h : IsV w B x (.agg #[.int .i64 p0, .int .i64 p1, .string p2, .slice p3 p4 p5, .slice p6 p7 p8])) (hij : i ≤ j) (hj : j ≤ x.l.length) : IsV w B (.mk 4 0 ⟨#[]⟩ ((x.l.drop i).take (j - i)) []) (.agg #[.int .i64 4, .int .i64 0, .string ⟨#[]⟩, .slice (if p5 = i then p3 else p3.map (fun q => q.add (i * 5))) (j - i) (p5 - i), .slice none 0 0]) := by
 obtain ⟨k, n, s, l, ks⟩ := x
 obtain ⟨_, _, _, hll, _, V, hf, el⟩ := IsP.at h
 dsimp only at hj ⊢
 have e0 : (⟨#[]⟩ : ByteArray).size = 0 := rfl
 have hlen : ((l.drop i).take (j - i)).length = j - i := by rw [List.length_take, List.length_drop]; omega
 have hfl := hf.ll
 have hbl := hf.bl
 have hget : ∀ c y, ((l.drop i).take (j - i))[c]? = some y → l[i + c]? = some y ∧ c < j - i := fun c y hy => by
  have hc : c < j - i := by have := (List.getElem?_eq_some_iff.1 hy).1; omega
  rw [List.getElem?_take_of_lt hc, List.getElem?_drop] at hy
  exact ⟨hy, hc⟩
 have hof := IsP.of (w := w) (P := fun b => b < B) (kind := 4) (n := 0) (s := ⟨#[]⟩) (l := (l.drop i).take (j - i)) (ks := []) (al := if p5 = i then p3 else p3.map (fun q => q.add (i * 5))) (ak := none) (cl := p5 - i) (ck := 0) (V := fun c => V (i + c)) ⟨by omega, by omega, by omega, fun ha => by
   rw [hlen]
   have hp3 : p3 = none := by
    split at ha
    ·exact ha
    ·cases p3 with
     | none => rfl
     | some q => cases ha
   have := hf.nl hp3
   omega, fun _ => ⟨rfl, rfl⟩, by rw [hlen]; omega, Nat.le_refl _, by rw [hlen]; omega, by simp, by simp, fun a ha c hc => by
   rw [hlen] at hc
   have hne : ¬ p5 = i := by omega
   rw [if_neg hne] at ha
   cases p3 with
   | none => cases ha
   | some q =>
    cases ha
    obtain ⟨q1, q2⟩ := hf.hl q rfl (i + c) (by omega)
    refine ⟨by rw [block_add]; exact q1, fun r v hv => ?_⟩
    have := q2 r v hv
    show w.cell? (((q.add (i * 5)).add (c * 5)).add r) = some v
    rw [addKs q (i * 5) (c * 5), show i * 5 + c * 5 = (i + c) * 5 by omega]
    exact this, fun c hc => by rw [hlen] at hc; exact hf.hv (i + c) (by omega), fun a ha => by (cases ha), fun t ht => by (cases ht)⟩ (fun c y hy => by
   obtain ⟨h1, _⟩ := hget c y hy
   exact el (i + c) y h1)
 rw [hlen] at hof
 exact hof
theorem slice_op (e0 e1 : Int) (e2 : ByteArray) (e3 : Option Addr) (e4 e5 : Nat) (e6 : Option Addr) (e7 e8 : Nat) (a : Addr) (n cl : Nat) (p0 p1 : Int) (p2 : ByteArray) (p3 : Option Addr) (p4 p5 : Nat) (p6 : Option Addr) (p7 p8 : Nat) (q0 q1 : Int) (q2 : ByteArray) (q3 : Option Addr) (q4 q5 : Nat) (q6 : Option Addr) (q7 q8 : Nat) (r0 r1 : Int) (r2 : ByteArray) (r3 : Option Addr) (r4 r5 : Nat) (r6 : Option Addr) (r7 r8 : Nat) (x y z : Vl) (B : Nat) (w : World) (hn : 3 ≤ n) (ha : a.block < w.heap.size) (h00 : w.cell? a = some (.int .i64 p0)) (h01 : w.cell? ⟨a.block, a.off + 1, none⟩ = some (.int .i64 p1)) (h02 : w.cell? ⟨a.block, a.off + 2, none⟩ = some (.string p2)) (h03 : w.cell? ⟨a.block, a.off + 3, none⟩ = some (.slice p3 p4 p5)) (h04 : w.cell? ⟨a.block, a.off + 4, none⟩ = some (.slice p6 p7 p8)) (h10 : w.cell? ⟨a.block, a.off + 5, none⟩ = some (.int .i64 q0)) (h11 : w.cell? ⟨a.block, a.off + 5 + 1, none⟩ = some (.int .i64 q1)) (h12 : w.cell? ⟨a.block, a.off + 5 + 2, none⟩ = some (.string q2)) (h13 : w.cell? ⟨a.block, a.off + 5 + 3, none⟩ = some (.slice q3 q4 q5)) (h14 : w.cell? ⟨a.block, a.off + 5 + 4, none⟩ = some (.slice q6 q7 q8)) (h20 : w.cell? ⟨a.block, a.off + 10, none⟩ = some (.int .i64 r0)) (h21 : w.cell? ⟨a.block, a.off + 10 + 1, none⟩ = some (.int .i64 r1)) (h22 : w.cell? ⟨a.block, a.off + 10 + 2, none⟩ = some (.string r2)) (h23 : w.cell? ⟨a.block, a.off + 10 + 3, none⟩ = some (.slice r3 r4 r5)) (h24 : w.cell? ⟨a.block, a.off + 10 + 4, none⟩ = some (.slice r6 r7 r8)) (hx : IsV w B x (.agg #[.int .i64 p0, .int .i64 p1, .string p2, .slice p3 p4 p5, .slice p6 p7 p8])) (hy : IsV w B y (.agg #[.int .i64 q0, .int .i64 q1, .string q2, .slice q3 q4 q5, .slice q6 q7 q8])) (hz : IsV w B z (.agg #[.int .i64 r0, .int .i64 r1, .string r2, .slice r3 r4 r5, .slice r6 r7 r8])) (hBs : B ≤ w.heap.size) (hrx : rightB x = true) :
  Calls Tryz.prog 68 #[.agg #[.int .i64 e0, .int .i64 e1, .string e2, .slice e3 e4 e5, .slice e6 e7 e8, .slice (some a) n cl]] w fun e w' => OpPost w (sliceV x y.n z.n) e w' := by
 obtain ⟨gb, hgb⟩ : ∃ gb, w.heap.size = gb := ⟨_, rfl⟩
 obtain ⟨v1, hv1⟩ : ∃ v1, w.alloc (.cells #[.int .i64 e0, .int .i64 e1, .string e2, .slice e3 e4 e5, .slice e6 e7 e8, .slice (some a) n cl] 50) = v1 := ⟨_, rfl⟩
 obtain ⟨gr, hgr⟩ : ∃ gr, v1.heap.size = gr := ⟨_, rfl⟩
 obtain ⟨v2, hv2⟩ : ∃ v2, v1.alloc (.cells #[.int .i64 0, .int .i64 0, .string ⟨#[]⟩, .slice none 0 0, .slice none 0 0] 25) = v2 := ⟨_, rfl⟩
 have n1 : v1.heap[gb]? = some (.cells #[.int .i64 e0, .int .i64 e1, .string e2, .slice e3 e4 e5, .slice e6 e7 e8, .slice (some a) n cl] 50 (0, 0)) := by rw [← hv1, ← hgb]; exact heap_alloc_new w _
 have n2 : v2.heap[gr]? = some (.cells #[.int .i64 0, .int .i64 0, .string ⟨#[]⟩, .slice none 0 0, .slice none 0 0] 25 (0, 0)) := by rw [← hv2, ← hgr]; exact heap_alloc_new v1 _
 have b1 : Below w.heap.size w v1 := by rw [← hv1]; exact (Below.refl _ _).alloc (Nat.le_refl _) _
 have b2 : Below v1.heap.size v1 v2 := by rw [← hv2]; exact (Below.refl _ _).alloc (Nat.le_refl _) _
 have s1 : v1.heap.size = w.heap.size + 1 := by rw [← hv1]; simp
 have HM : Hid (Below w.heap.size w v2 ∧ v2.heap[gb]? = some (.cells #[.int .i64 e0, .int .i64 e1, .string e2, .slice e3 e4 e5, .slice e6 e7 e8, .slice (some a) n cl] 50 (0, 0)) ∧ v2.heap[gr]? = some (.cells #[.int .i64 0, .int .i64 0, .string ⟨#[]⟩, .slice none 0 0, .slice none 0 0] 25 (0, 0)) ∧ w.heap.size ≤ gr ∧ gr < v2.heap.size) := hide ⟨b1.trans (b2.mono b1.size), (b2.block gb (by omega)).trans n1, n2, by omega, (Array.getElem?_eq_some_iff.1 n2).1⟩
 obtain ⟨t0, t1, t2, t3, t4, t5⟩ := block6 (uh HM).2.1
 have hA00 : v2.cell? a = some (.int .i64 p0) := ((uh HM).1.cell (p := a) ha).trans h00
 have hA01 : v2.cell? ⟨a.block, a.off + 1, none⟩ = some (.int .i64 p1) := ((uh HM).1.cell (p := ⟨a.block, a.off + 1, none⟩) ha).trans h01
 have hA02 : v2.cell? ⟨a.block, a.off + 2, none⟩ = some (.string p2) := ((uh HM).1.cell (p := ⟨a.block, a.off + 2, none⟩) ha).trans h02
 have hA03 : v2.cell? ⟨a.block, a.off + 3, none⟩ = some (.slice p3 p4 p5) := ((uh HM).1.cell (p := ⟨a.block, a.off + 3, none⟩) ha).trans h03
 have hA04 : v2.cell? ⟨a.block, a.off + 4, none⟩ = some (.slice p6 p7 p8) := ((uh HM).1.cell (p := ⟨a.block, a.off + 4, none⟩) ha).trans h04
 have hA10 : v2.cell? ⟨a.block, a.off + 5, none⟩ = some (.int .i64 q0) := ((uh HM).1.cell (p := ⟨a.block, a.off + 5, none⟩) ha).trans h10
 have hA11 : v2.cell? ⟨a.block, a.off + 5 + 1, none⟩ = some (.int .i64 q1) := ((uh HM).1.cell (p := ⟨a.block, a.off + 5 + 1, none⟩) ha).trans h11
 have hA12 : v2.cell? ⟨a.block, a.off + 5 + 2, none⟩ = some (.string q2) := ((uh HM).1.cell (p := ⟨a.block, a.off + 5 + 2, none⟩) ha).trans h12
 have hA13 : v2.cell? ⟨a.block, a.off + 5 + 3, none⟩ = some (.slice q3 q4 q5) := ((uh HM).1.cell (p := ⟨a.block, a.off + 5 + 3, none⟩) ha).trans h13
 have hA14 : v2.cell? ⟨a.block, a.off + 5 + 4, none⟩ = some (.slice q6 q7 q8) := ((uh HM).1.cell (p := ⟨a.block, a.off + 5 + 4, none⟩) ha).trans h14
 have hA20 : v2.cell? ⟨a.block, a.off + 10, none⟩ = some (.int .i64 r0) := ((uh HM).1.cell (p := ⟨a.block, a.off + 10, none⟩) ha).trans h20
 have hA21 : v2.cell? ⟨a.block, a.off + 10 + 1, none⟩ = some (.int .i64 r1) := ((uh HM).1.cell (p := ⟨a.block, a.off + 10 + 1, none⟩) ha).trans h21
 have hA22 : v2.cell? ⟨a.block, a.off + 10 + 2, none⟩ = some (.string r2) := ((uh HM).1.cell (p := ⟨a.block, a.off + 10 + 2, none⟩) ha).trans h22
 have hA23 : v2.cell? ⟨a.block, a.off + 10 + 3, none⟩ = some (.slice r3 r4 r5) := ((uh HM).1.cell (p := ⟨a.block, a.off + 10 + 3, none⟩) ha).trans h23
 have hA24 : v2.cell? ⟨a.block, a.off + 10 + 4, none⟩ = some (.slice r6 r7 r8) := ((uh HM).1.cell (p := ⟨a.block, a.off + 10 + 4, none⟩) ha).trans h24
 have hl0 : (0 : Int) < (n : Int) := by omega
 have hl1 : (1 : Int) < (n : Int) := by omega
 have hl2 : (2 : Int) < (n : Int) := by omega
 have hn1 : 1 ≤ n := by omega
 have hlt0 : gb < v2.heap.size := (Array.getElem?_eq_some_iff.1 (uh HM).2.1).1
 have hlt1 : a.block < v2.heap.size := Nat.lt_of_lt_of_le ha (uh HM).1.size
 have hkx : p0 = x.kind ∧ p1 = x.n ∧ p2 = x.s ∧ p4 = x.l.length ∧ p4 ≤ p5 := by
  obtain ⟨k1, n1, s1, l1, ks1⟩ := x
  obtain ⟨r1, r2, r3, r4, _, V, hf, _⟩ := IsP.at hx
  exact ⟨r1, r2, r3, r4, by have := hf.ll; omega⟩
 have hky : q1 = y.n := by
  obtain ⟨k1, n1, s1, l1, ks1⟩ := y
  exact (IsP.at hy).2.1
 have hkz : r1 = z.n := by
  obtain ⟨k1, n1, s1, l1, ks1⟩ := z
  exact (IsP.at hz).2.1
 obtain ⟨R, hR⟩ : ∃ R, sliceV x y.n z.n = R := ⟨_, rfl⟩
 obtain ⟨c, hcc⟩ : ∃ c, cntO x = c := ⟨_, rfl⟩
 rw [hR]
 have HCc := hide hcc
 have HA1 : Hid (q1 < 0 ∨ r1 < q1 ∨ c < r1 → R = (vlz, 2)) := hide (fun e => by rw [← hR]; unfold sliceV; rw [← hky, ← hkz, hcc, if_pos e])
 have HAs : Hid ((¬ q1 < 0 → ¬ r1 < q1 → ¬ c < r1 → p0 = 3 → R = szV (.mk 3 0 (p2.extract q1.toNat r1.toNat) [] [])) ∧ (¬ q1 < 0 → ¬ r1 < q1 → ¬ c < r1 → ¬ p0 = 3 → R = szV (.mk 4 0 ⟨#[]⟩ ((x.l.drop q1.toNat).take (r1.toNat - q1.toNat)) []))) := hide ⟨fun e1 e2 e3 e4 => by rw [← hR]; unfold sliceV; rw [← hky, ← hkz, hcc, if_neg (by omega), ← hkx.1, if_pos e4, hkx.2.2.1], fun e1 e2 e3 e4 => by rw [← hR]; unfold sliceV; rw [← hky, ← hkz, hcc, if_neg (by omega), ← hkx.1, if_neg e4]⟩
 have HCk : Hid ((p0 = 3 → c = (p2.size : Int)) ∧ (¬ p0 = 3 → c = (p4 : Int))) := hide ⟨fun e => by rw [← hcc]; unfold cntO; rw [← hkx.1, if_pos e, hkx.2.2.1], fun e => by rw [← hcc]; unfold cntO; rw [← hkx.1, if_neg e, hkx.2.2.2.1]⟩
 have HSZ : Hid (p2.size ≤ 2048 ∧ p4 ≤ 2048) := hide ⟨by rw [hkx.2.2.1]; exact (right_sz hrx).1, by rw [hkx.2.2.2.1]; exact (right_sz hrx).2.1⟩
 have HLL : Hid (p4 = x.l.length ∧ p4 ≤ p5) := hide hkx.2.2.2
 have HXX := hide hx
 have HBs := hide hBs
 clear n1 n2 b1 b2 s1 h00 h01 h02 h03 h04 h10 h11 h12 h13 h14 h20 h21 h22 h23 h24 hx hy hz hBs hkx hky hkz hrx hR hcc
 obtain ⟨W0, hW0⟩ : ∃ W0, v2.drew = W0 := ⟨_, rfl⟩
 have HW0 : Hid (∀ W, Below W0.heap.size W0 W → Below v2.heap.size v2 W) := hide (fun W h => by rw [← hW0] at h; exact below_drew_of' h)
 have hs0 : v2.heap.size = W0.heap.size := by rw [← hW0]; rfl
 go_enter Tryz.func68, Tryz.ntmps68
 go_upto_region 1 with fail
 have HS0 : Hid (v2.drew.cell? ⟨gb, 5, none⟩ = some (.slice (some a) n cl) ∧ v2.drew.cell? a = some (.int .i64 p0) ∧ v2.drew.cell? ⟨a.block, a.off + 1, none⟩ = some (.int .i64 p1) ∧ v2.drew.cell? ⟨a.block, a.off + 2, none⟩ = some (.string p2) ∧ v2.drew.cell? ⟨a.block, a.off + 3, none⟩ = some (.slice p3 p4 p5) ∧ v2.drew.cell? ⟨a.block, a.off + 4, none⟩ = some (.slice p6 p7 p8) ∧ v2.drew.cell? ⟨a.block, a.off + 5 + 1, none⟩ = some (.int .i64 q1) ∧ v2.drew.cell? ⟨a.block, a.off + 10 + 1, none⟩ = some (.int .i64 r1)) := hide ⟨t5, hA00, hA01, hA02, hA03, hA04, hA11, hA21⟩
 refine till_begin (S := fun w' => w'.cell? ⟨gb, 5, none⟩ = some (.slice (some a) n cl) ∧ w'.cell? a = some (.int .i64 p0) ∧ w'.cell? ⟨a.block, a.off + 1, none⟩ = some (.int .i64 p1) ∧ w'.cell? ⟨a.block, a.off + 2, none⟩ = some (.string p2) ∧ w'.cell? ⟨a.block, a.off + 3, none⟩ = some (.slice p3 p4 p5) ∧ w'.cell? ⟨a.block, a.off + 4, none⟩ = some (.slice p6 p7 p8) ∧ w'.cell? ⟨a.block, a.off + 5 + 1, none⟩ = some (.int .i64 q1) ∧ w'.cell? ⟨a.block, a.off + 10 + 1, none⟩ = some (.int .i64 r1)) 17 (by kernel_rfl) ?_
 refine till_take 0 (v := .pointer (some ⟨gb, 5, none⟩)) (some 7) rfl rfl rfl (by kernel_rfl) (by kernel_rfl) (by kernel_rfl) (by kernel_rfl) (fun _ _ _ h => h) (Or.inl ⟨by rfl, fun u hu => by obtain ⟨b0, b1, b2, b3, b4, b5, b6, b7⟩ := hu; go_simp⟩) (uh HS0) ?_
 try simp only [Act.put, setX]
 refine till_take 1 (v := .slice (some a) n cl) (some 8) rfl rfl rfl (by kernel_rfl) (by kernel_rfl) (by kernel_rfl) (by kernel_rfl) (fun _ _ _ h => h) (Or.inl ⟨by rfl, fun u hu => by obtain ⟨b0, b1, b2, b3, b4, b5, b6, b7⟩ := hu; go_simp⟩) (uh HS0) ?_
 try simp only [Act.put, setX]
 refine till_take 2 (v := .pointer (some a)) (some 9) rfl rfl rfl (by kernel_rfl) (by kernel_rfl) (by kernel_rfl) (by kernel_rfl) (fun _ _ _ h => h) (Or.inl ⟨by rfl, fun u hu => by obtain ⟨b0, b1, b2, b3, b4, b5, b6, b7⟩ := hu; go_simp; intro hz; omega⟩) (uh HS0) ?_
 try simp only [Act.put, setX]
 refine till_take 3 (v := .agg #[.int .i64 p0, .int .i64 p1, .string p2, .slice p3 p4 p5, .slice p6 p7 p8]) (some 10) rfl rfl rfl (by kernel_rfl) (by kernel_rfl) (by kernel_rfl) (by kernel_rfl) (fun _ _ _ h => h) (Or.inl ⟨by rfl, fun u hu => by obtain ⟨b0, b1, b2, b3, b4, b5, b6, b7⟩ := hu; go_simp⟩) (uh HS0) ?_
 try simp only [Act.put, setX]
 refine till_take 4 (v := .pointer (some ⟨gb, 5, none⟩)) (some 11) rfl rfl rfl (by kernel_rfl) (by kernel_rfl) (by kernel_rfl) (by kernel_rfl) (fun _ _ _ h => h) (Or.inl ⟨by rfl, fun u hu => by obtain ⟨b0, b1, b2, b3, b4, b5, b6, b7⟩ := hu; go_simp⟩) (uh HS0) ?_
 try simp only [Act.put, setX]
 refine till_take 5 (v := .slice (some a) n cl) (some 12) rfl rfl rfl (by kernel_rfl) (by kernel_rfl) (by kernel_rfl) (by kernel_rfl) (fun _ _ _ h => h) (Or.inl ⟨by rfl, fun u hu => by obtain ⟨b0, b1, b2, b3, b4, b5, b6, b7⟩ := hu; go_simp⟩) (uh HS0) ?_
 try simp only [Act.put, setX]
 refine till_take 6 (v := .pointer (some ⟨a.block, a.off + 5, none⟩)) (some 13) rfl rfl rfl (by kernel_rfl) (by kernel_rfl) (by kernel_rfl) (by kernel_rfl) (fun _ _ _ h => h) (Or.inl ⟨by rfl, fun u hu => by obtain ⟨b0, b1, b2, b3, b4, b5, b6, b7⟩ := hu; go_simp⟩) (uh HS0) ?_
 try simp only [Act.put, setX]
 refine till_take 7 (v := .pointer (some ⟨a.block, a.off + 5 + 1, none⟩)) (some 14) rfl rfl rfl (by kernel_rfl) (by kernel_rfl) (by kernel_rfl) (by kernel_rfl) (fun _ _ _ h => h) (Or.inl ⟨by rfl, fun u hu => by obtain ⟨b0, b1, b2, b3, b4, b5, b6, b7⟩ := hu; go_simp⟩) (uh HS0) ?_
 try simp only [Act.put, setX]
 refine till_take 8 (v := .int .i64 q1) (some 15) rfl rfl rfl (by kernel_rfl) (by kernel_rfl) (by kernel_rfl) (by kernel_rfl) (fun _ _ _ h => h) (Or.inl ⟨by rfl, fun u hu => by obtain ⟨b0, b1, b2, b3, b4, b5, b6, b7⟩ := hu; go_simp⟩) (uh HS0) ?_
 try simp only [Act.put, setX]
 refine till_take 9 (v := .pointer (some ⟨gb, 5, none⟩)) (some 16) rfl rfl rfl (by kernel_rfl) (by kernel_rfl) (by kernel_rfl) (by kernel_rfl) (fun _ _ _ h => h) (Or.inl ⟨by rfl, fun u hu => by obtain ⟨b0, b1, b2, b3, b4, b5, b6, b7⟩ := hu; go_simp⟩) (uh HS0) ?_
 try simp only [Act.put, setX]
 refine till_take 10 (v := .slice (some a) n cl) (some 17) rfl rfl rfl (by kernel_rfl) (by kernel_rfl) (by kernel_rfl) (by kernel_rfl) (fun _ _ _ h => h) (Or.inl ⟨by rfl, fun u hu => by obtain ⟨b0, b1, b2, b3, b4, b5, b6, b7⟩ := hu; go_simp⟩) (uh HS0) ?_
 try simp only [Act.put, setX]
 refine till_take 11 (v := .pointer (some ⟨a.block, a.off + 10, none⟩)) (some 18) rfl rfl rfl (by kernel_rfl) (by kernel_rfl) (by kernel_rfl) (by kernel_rfl) (fun _ _ _ h => h) (Or.inl ⟨by rfl, fun u hu => by obtain ⟨b0, b1, b2, b3, b4, b5, b6, b7⟩ := hu; go_simp⟩) (uh HS0) ?_
 try simp only [Act.put, setX]
 refine till_take 12 (v := .pointer (some ⟨a.block, a.off + 10 + 1, none⟩)) (some 19) rfl rfl rfl (by kernel_rfl) (by kernel_rfl) (by kernel_rfl) (by kernel_rfl) (fun _ _ _ h => h) (Or.inl ⟨by rfl, fun u hu => by obtain ⟨b0, b1, b2, b3, b4, b5, b6, b7⟩ := hu; go_simp⟩) (uh HS0) ?_
 try simp only [Act.put, setX]
 refine till_take 13 (v := .int .i64 r1) (some 20) rfl rfl rfl (by kernel_rfl) (by kernel_rfl) (by kernel_rfl) (by kernel_rfl) (fun _ _ _ h => h) (Or.inl ⟨by rfl, fun u hu => by obtain ⟨b0, b1, b2, b3, b4, b5, b6, b7⟩ := hu; go_simp⟩) (uh HS0) ?_
 try simp only [Act.put, setX]
 try rw [hW0]
 have HS0' : Hid (W0.cell? ⟨gb, 5, none⟩ = some (.slice (some a) n cl) ∧ W0.cell? a = some (.int .i64 p0) ∧ W0.cell? ⟨a.block, a.off + 1, none⟩ = some (.int .i64 p1) ∧ W0.cell? ⟨a.block, a.off + 2, none⟩ = some (.string p2) ∧ W0.cell? ⟨a.block, a.off + 3, none⟩ = some (.slice p3 p4 p5) ∧ W0.cell? ⟨a.block, a.off + 4, none⟩ = some (.slice p6 p7 p8) ∧ W0.cell? ⟨a.block, a.off + 5 + 1, none⟩ = some (.int .i64 q1) ∧ W0.cell? ⟨a.block, a.off + 10 + 1, none⟩ = some (.int .i64 r1)) := hide (by rw [← hW0]; exact uh HS0)
 clear HS0
 have HS0 := HS0'
 clear HS0'
 refine till_one 14 (by kernel_rfl) rfl (fun K hK => ?_)
 go_simp
 obtain ⟨W1, hW1⟩ : ∃ W1, W0.alloc (.cells #[.int .i64 0, .int .i64 0, .string ⟨#[]⟩, .slice none 0 0, .slice none 0 0] 25) = W1 := ⟨_, rfl⟩
 have X0 : Below W0.heap.size W0 W1 := by rw [← hW1]; exact (Below.refl _ _).alloc (Nat.le_refl _) _
 have X1 : Below v2.heap.size v2 W1 := uh HW0 _ X0
 obtain ⟨b4, hb4⟩ : ∃ b4, W0.heap.size = b4 := ⟨_, rfl⟩
 have N1 : W1.heap[b4]? = some (.cells #[.int .i64 0, .int .i64 0, .string ⟨#[]⟩, .slice none 0 0, .slice none 0 0] 25 (0, 0)) := by rw [← hW1, ← hb4]; exact heap_alloc_new W0 _
 try rw [hW1]
 try rw [hb4]
 have HS1 : Hid (W1.cell? ⟨gb, 5, none⟩ = some (.slice (some a) n cl) ∧ W1.cell? a = some (.int .i64 p0) ∧ W1.cell? ⟨a.block, a.off + 1, none⟩ = some (.int .i64 p1) ∧ W1.cell? ⟨a.block, a.off + 2, none⟩ = some (.string p2) ∧ W1.cell? ⟨a.block, a.off + 3, none⟩ = some (.slice p3 p4 p5) ∧ W1.cell? ⟨a.block, a.off + 4, none⟩ = some (.slice p6 p7 p8) ∧ W1.cell? ⟨a.block, a.off + 5 + 1, none⟩ = some (.int .i64 q1) ∧ W1.cell? ⟨a.block, a.off + 10 + 1, none⟩ = some (.int .i64 r1)) := hide ⟨cell_later X0 ((uh HS0).1), cell_later X0 ((uh HS0).2.1), cell_later X0 ((uh HS0).2.2.1), cell_later X0 ((uh HS0).2.2.2.1), cell_later X0 ((uh HS0).2.2.2.2.1), cell_later X0 ((uh HS0).2.2.2.2.2.1), cell_later X0 ((uh HS0).2.2.2.2.2.2.1), cell_later X0 ((uh HS0).2.2.2.2.2.2.2)⟩
 have K1 : Hid (Below v2.heap.size v2 W1 ∧ W1.heap[b4]? = some (.cells #[.int .i64 0, .int .i64 0, .string ⟨#[]⟩, .slice none 0 0, .slice none 0 0] 25 (0, 0)) ∧ v2.heap.size ≤ b4) := hide ⟨X1, N1, by rw [← hb4, ← hs0]; exact Nat.le_refl _⟩
 refine hK.out _ _ (Or.inr (uh HS1)) ?_
 clear hK K X0 X1 N1 hW1 hb4 HS0
 try simp only [Act.put, setX]
 obtain ⟨k1, k2, k3⟩ := uh K1
 obtain ⟨c0, c1, c2, c3, c4⟩ := block5 k2
 obtain ⟨f0, f1, f2, f3, f4⟩ := fr5 k2
 obtain ⟨W2, hW2⟩ : ∃ W2, (((((W1.setCell ⟨b4, 0, none⟩ (.int .i64 p0)).setCell ⟨b4, 1, none⟩ (.int .i64 p1)).setCell ⟨b4, 2, none⟩ (.string p2)).setCell ⟨b4, 3, none⟩ (.slice p3 p4 p5)).setCell ⟨b4, 4, none⟩ (.slice p6 p7 p8)) = W2 := ⟨_, rfl⟩
 have M2 : W2.heap[b4]? = some (.cells #[.int .i64 p0, .int .i64 p1, .string p2, .slice p3 p4 p5, .slice p6 p7 p8] 25 (0, 0)) := by rw [← hW2]; exact set5P k2 _ _ _ _ _
 have Y2 : Below v2.heap.size v2 W2 := by rw [← hW2]; exact set5P_below k1 k3 _ _ _ _ _
 have HS2 : Hid (W2.cell? ⟨gb, 5, none⟩ = some (.slice (some a) n cl) ∧ W2.cell? a = some (.int .i64 p0) ∧ W2.cell? ⟨a.block, a.off + 1, none⟩ = some (.int .i64 p1) ∧ W2.cell? ⟨a.block, a.off + 2, none⟩ = some (.string p2) ∧ W2.cell? ⟨a.block, a.off + 3, none⟩ = some (.slice p3 p4 p5) ∧ W2.cell? ⟨a.block, a.off + 4, none⟩ = some (.slice p6 p7 p8) ∧ W2.cell? ⟨a.block, a.off + 5 + 1, none⟩ = some (.int .i64 q1) ∧ W2.cell? ⟨a.block, a.off + 10 + 1, none⟩ = some (.int .i64 r1)) := hide ⟨(Y2.cell (p := ⟨gb, 5, none⟩) hlt0).trans t5, (Y2.cell (p := a) hlt1).trans hA00, (Y2.cell (p := ⟨a.block, a.off + 1, none⟩) hlt1).trans hA01, (Y2.cell (p := ⟨a.block, a.off + 2, none⟩) hlt1).trans hA02, (Y2.cell (p := ⟨a.block, a.off + 3, none⟩) hlt1).trans hA03, (Y2.cell (p := ⟨a.block, a.off + 4, none⟩) hlt1).trans hA04, (Y2.cell (p := ⟨a.block, a.off + 5 + 1, none⟩) hlt1).trans hA11, (Y2.cell (p := ⟨a.block, a.off + 10 + 1, none⟩) hlt1).trans hA21⟩
 have K2 : Hid (Below v2.heap.size v2 W2 ∧ W2.heap[b4]? = some (.cells #[.int .i64 p0, .int .i64 p1, .string p2, .slice p3 p4 p5, .slice p6 p7 p8] 25 (0, 0)) ∧ W2.cell? ⟨gb, 5, none⟩ = some (.slice (some a) n cl) ∧ W2.heap[gb]? = some (.cells #[.int .i64 e0, .int .i64 e1, .string e2, .slice e3 e4 e5, .slice e6 e7 e8, .slice (some a) n cl] 50 (0, 0))) := hide ⟨Y2, M2, (uh HS2).1, (Y2.block gb hlt0).trans (uh HM).2.1⟩
 clear M2 Y2 k1 k2 k3 K1
 refine till_one 15 (by kernel_rfl) rfl (fun K hK => ?_)
 go_simp
 try rw [hW2]
 refine hK.out _ _ (Or.inr (uh HS2)) ?_
 clear hK K HS1 c0 c1 c2 c3 c4 f0 f1 f2 f3 f4 hW2
 try simp only [Act.put, setX]
 refine till_one 16 (by kernel_rfl) rfl (fun K hK => ?_)
 go_simp
 refine hK.out _ _ (Or.inr (uh HS2)) ?_
 clear hK K
 try simp only [Act.put, setX]
 refine till_one 17 (by kernel_rfl) rfl (fun K hK => ?_)
 go_simp
 refine hK.out _ _ (Or.inl (by first | rfl | trivial)) ?_
 clear hK K HS2
 try simp only [Act.put, setX]
 refine till_done (by kernel_rfl) ?_ _
 obtain ⟨z0, z1, z2, z3, z4⟩ := block5 (uh K2).2.1
 have B2 := (uh HM).1.trans ((uh K2).1.mono (uh HM).1.size)
 have HV2 : Hid (IsV W2 B x (.agg #[.int .i64 p0, .int .i64 p1, .string p2, .slice p3 p4 p5, .slice p6 p7 p8])) := hide (IsV.mono (B2.mono (uh HBs)) (uh HXX))
 have HB2 : Hid (B ≤ W2.heap.size) := hide (Nat.le_trans (uh HBs) B2.size)
 clear B2
 by_cases hq : q1 < 0
 ·have hrz : R = (vlz, 2) := uh HA1 (Or.inl hq)
  have d1 : decide (q1 < 0) = true := decide_eq_true hq
  have CN : Hid (Calls Tryz.prog 101 #[.int .i64 2] W2 fun e w' => OpPost W2 R e w') := hide (by rw [hrz]; exact trap_op 2 W2)
  clear hrz
  go_wp2_with fail
  refine (uh CN).mono ?_
  rintro e W9 ⟨y0, y1, y2, y3, y4, y5, y6, y7, y8, t, rfl, ⟨ht, q5⟩, d5⟩
  have X5 : Below v2.heap.size v2 W9 := (uh K2).1.trans (d5.mono (uh K2).1.size)
  have ER : Hid (W9.heap[gr]? = some (.cells #[.int .i64 0, .int .i64 0, .string ⟨#[]⟩, .slice none 0 0, .slice none 0 0] 25 (0, 0))) := hide ((X5.block gr (uh HM).2.2.2.2).trans (uh HM).2.2.1)
  obtain ⟨r0z, r1z, r2z, r3z, r4z⟩ := block5 (uh ER)
  obtain ⟨f0, f1, f2, f3, f4⟩ := fr5 (uh ER)
  have HF9 : Hid (IsQ W9 (fun b => v2.heap.size ≤ b ∧ b < W9.heap.size) R.1 (.agg #[.int .i64 y0, .int .i64 y1, .string y2, .slice y3 y4 y5, .slice y6 y7 y8]) ∧ t = R.2 ∧ Below v2.heap.size v2 W9) := hide ⟨q5.weak (fun b hb => ⟨Nat.le_trans (uh K2).1.size hb.1, hb.2⟩), ht, X5⟩
  clear q5 d5 X5 ht CN z0 z1 z2 z3 z4
  go_wp2_with fail
  (try simp only [Exit.inBlock, Exit.then])
  refine bodyPost_ret (ret_ct rfl _ _ gr #[.int .i64 y0, .int .i64 y1, .string y2, .slice y3 y4 y5, .slice y6 y7 y8] _ _ rfl (set5P (uh ER) _ _ _ _ _) Tryz.underlying25 rfl size_vl) rfl ?_
  exact op_fin (uh HM).1 (uh HM).2.2.2.1 (uh HM).2.2.2.2 (uh HF9).2.2 (uh HF9).1 (uh HF9).2.1
 ·by_cases hr : r1 < q1
  ·have hrz : R = (vlz, 2) := uh HA1 (Or.inr (Or.inl hr))
   have d1 : decide (q1 < 0) = false := decide_eq_false hq
   have d2 : decide (r1 < q1) = true := decide_eq_true hr
   have CN : Hid (Calls Tryz.prog 101 #[.int .i64 2] W2 fun e w' => OpPost W2 R e w') := hide (by rw [hrz]; exact trap_op 2 W2)
   clear hrz
   go_wp2_with fail
   refine (uh CN).mono ?_
   rintro e W9 ⟨y0, y1, y2, y3, y4, y5, y6, y7, y8, t, rfl, ⟨ht, q5⟩, d5⟩
   have X5 : Below v2.heap.size v2 W9 := (uh K2).1.trans (d5.mono (uh K2).1.size)
   have ER : Hid (W9.heap[gr]? = some (.cells #[.int .i64 0, .int .i64 0, .string ⟨#[]⟩, .slice none 0 0, .slice none 0 0] 25 (0, 0))) := hide ((X5.block gr (uh HM).2.2.2.2).trans (uh HM).2.2.1)
   obtain ⟨r0z, r1z, r2z, r3z, r4z⟩ := block5 (uh ER)
   obtain ⟨f0, f1, f2, f3, f4⟩ := fr5 (uh ER)
   have HF9 : Hid (IsQ W9 (fun b => v2.heap.size ≤ b ∧ b < W9.heap.size) R.1 (.agg #[.int .i64 y0, .int .i64 y1, .string y2, .slice y3 y4 y5, .slice y6 y7 y8]) ∧ t = R.2 ∧ Below v2.heap.size v2 W9) := hide ⟨q5.weak (fun b hb => ⟨Nat.le_trans (uh K2).1.size hb.1, hb.2⟩), ht, X5⟩
   clear q5 d5 X5 ht CN z0 z1 z2 z3 z4
   go_wp2_with fail
   (try simp only [Exit.inBlock, Exit.then])
   refine bodyPost_ret (ret_ct rfl _ _ gr #[.int .i64 y0, .int .i64 y1, .string y2, .slice y3 y4 y5, .slice y6 y7 y8] _ _ rfl (set5P (uh ER) _ _ _ _ _) Tryz.underlying25 rfl size_vl) rfl ?_
   exact op_fin (uh HM).1 (uh HM).2.2.2.1 (uh HM).2.2.2.2 (uh HF9).2.2 (uh HF9).1 (uh HF9).2.1
  ·have d1 : decide (q1 < 0) = false := decide_eq_false hq
   have d2 : decide (r1 < q1) = false := decide_eq_false hr
   have CC := hide (count_any e0 e1 e2 e3 e4 e5 e6 e7 e8 a n cl p0 p1 p2 p3 p4 p5 p6 p7 p8 x B W2 hn1 (Nat.lt_of_lt_of_le hlt1 (uh K2).1.size) ((uh K2).1.cell (p := a) hlt1 |>.trans hA00) ((uh K2).1.cell (p := ⟨a.block, a.off + 1, none⟩) hlt1 |>.trans hA01) ((uh K2).1.cell (p := ⟨a.block, a.off + 2, none⟩) hlt1 |>.trans hA02) ((uh K2).1.cell (p := ⟨a.block, a.off + 3, none⟩) hlt1 |>.trans hA03) ((uh K2).1.cell (p := ⟨a.block, a.off + 4, none⟩) hlt1 |>.trans hA04) (uh HV2) (uh HB2))
   rw [uh HCc] at CC
   obtain ⟨o0, o1, o2, o3, o4, o5⟩ := block6 (uh K2).2.2.2
   go_wp2_with fail
   refine (uh CC).mono ?_
   rintro e W3 ⟨rfl, d3⟩
   have X3 := hide ((uh K2).1.trans (d3.mono (uh K2).1.size))
   obtain ⟨s0, s1, s2, s3, s4⟩ := block5 ((d3.block b4 (Array.getElem?_eq_some_iff.1 (uh K2).2.1).1).trans (uh K2).2.1)
   have HV3 : Hid (IsV W3 B x (.agg #[.int .i64 p0, .int .i64 p1, .string p2, .slice p3 p4 p5, .slice p6 p7 p8]) ∧ B ≤ W3.heap.size) := hide ⟨IsV.mono (d3.mono (uh HB2)) (uh HV2), Nat.le_trans (uh HB2) d3.size⟩
   clear d3 CC z0 z1 z2 z3 z4 o0 o1 o2 o3 o4 o5
   by_cases hc : c < r1
   ·have hrz : R = (vlz, 2) := uh HA1 (Or.inr (Or.inr hc))
    have d3 : decide (c < r1) = true := decide_eq_true hc
    have CN : Hid (Calls Tryz.prog 101 #[.int .i64 2] W3 fun e w' => OpPost W3 R e w') := hide (by rw [hrz]; exact trap_op 2 W3)
    clear hrz
    go_wp2_with fail
    refine (uh CN).mono ?_
    rintro e W9 ⟨y0, y1, y2, y3, y4, y5, y6, y7, y8, t, rfl, ⟨ht, q5⟩, d5⟩
    have X5 : Below v2.heap.size v2 W9 := (uh X3).trans (d5.mono (uh X3).size)
    have ER : Hid (W9.heap[gr]? = some (.cells #[.int .i64 0, .int .i64 0, .string ⟨#[]⟩, .slice none 0 0, .slice none 0 0] 25 (0, 0))) := hide ((X5.block gr (uh HM).2.2.2.2).trans (uh HM).2.2.1)
    obtain ⟨r0z, r1z, r2z, r3z, r4z⟩ := block5 (uh ER)
    obtain ⟨f0, f1, f2, f3, f4⟩ := fr5 (uh ER)
    have HF9 : Hid (IsQ W9 (fun b => v2.heap.size ≤ b ∧ b < W9.heap.size) R.1 (.agg #[.int .i64 y0, .int .i64 y1, .string y2, .slice y3 y4 y5, .slice y6 y7 y8]) ∧ t = R.2 ∧ Below v2.heap.size v2 W9) := hide ⟨q5.weak (fun b hb => ⟨Nat.le_trans (uh X3).size hb.1, hb.2⟩), ht, X5⟩
    clear q5 d5 X5 ht CN s0 s1 s2 s3 s4
    go_wp2_with fail
    (try simp only [Exit.inBlock, Exit.then])
    refine bodyPost_ret (ret_ct rfl _ _ gr #[.int .i64 y0, .int .i64 y1, .string y2, .slice y3 y4 y5, .slice y6 y7 y8] _ _ rfl (set5P (uh ER) _ _ _ _ _) Tryz.underlying25 rfl size_vl) rfl ?_
    exact op_fin (uh HM).1 (uh HM).2.2.2.1 (uh HM).2.2.2.2 (uh HF9).2.2 (uh HF9).1 (uh HF9).2.1
   ·obtain ⟨i, rfl⟩ : ∃ i : Nat, q1 = (i : Int) := ⟨q1.toNat, by omega⟩
    obtain ⟨j, rfl⟩ : ∃ j : Nat, r1 = (j : Int) := ⟨r1.toNat, by omega⟩
    have hij : i ≤ j := by omega
    have d3 : decide (c < (j : Int)) = false := decide_eq_false hc
    have hjc : (j : Int) ≤ c := by omega
    have HC3 : Hid (p0 = 3 → (j : Int) ≤ (p2.size : Int)) := hide (fun e => by have := (uh HCk).1 e; omega)
    have HC4 : Hid (¬ p0 = 3 → (j : Int) ≤ (p4 : Int)) := hide (fun e => by have := (uh HCk).2 e; omega)
    have HA3 : Hid (p0 = 3 → R = szV (.mk 3 0 (p2.extract i j) [] [])) := hide (fun e => by have h := (uh HAs).1 (by omega) (by omega) (by omega) e; simpa using h)
    have HA4 : Hid (¬ p0 = 3 → R = szV (.mk 4 0 ⟨#[]⟩ ((x.l.drop i).take (j - i)) [])) := hide (fun e => by have h := (uh HAs).2 (by omega) (by omega) (by omega) e; simpa using h)
    by_cases hk : p0 = 3
    ·subst hk
     have hrz : R = szV (.mk 3 0 (p2.extract i j) [] []) := uh HA3 rfl
     have hz1 : p2.size ≤ 2048 := (uh HSZ).1
     have hz3 : (p2.extract i j).size ≤ 2048 := by rw [ByteArray.size_extract]; omega
     have hz4 : j ≤ p2.size := by have := uh HC3 rfl; omega
     have CN : Hid (Calls Tryz.prog 99 #[.agg #[.int .i64 3, .int .i64 0, .string (p2.extract i j), .slice none 0 0, .slice none 0 0]] W3 fun e w' => OpPost W3 R e w') := hide (by rw [hrz]; exact sized_op (.mk 3 0 (p2.extract i j) [] []) _ W3.heap.size W3 (leaf_isQ W3 (fun b => b < W3.heap.size) 3 0 (p2.extract i j) (by omega) (by omega) (by omega)).1 (Nat.le_refl _))
     clear hrz hz3
     go_wp2_with fail
     refine (uh CN).mono ?_
     rintro e W9 ⟨y0, y1, y2, y3, y4, y5, y6, y7, y8, t, rfl, ⟨ht, q5⟩, d5⟩
     have X5 : Below v2.heap.size v2 W9 := (uh X3).trans (d5.mono (uh X3).size)
     have ER : Hid (W9.heap[gr]? = some (.cells #[.int .i64 0, .int .i64 0, .string ⟨#[]⟩, .slice none 0 0, .slice none 0 0] 25 (0, 0))) := hide ((X5.block gr (uh HM).2.2.2.2).trans (uh HM).2.2.1)
     obtain ⟨r0z, r1z, r2z, r3z, r4z⟩ := block5 (uh ER)
     obtain ⟨f0, f1, f2, f3, f4⟩ := fr5 (uh ER)
     have HF9 : Hid (IsQ W9 (fun b => v2.heap.size ≤ b ∧ b < W9.heap.size) R.1 (.agg #[.int .i64 y0, .int .i64 y1, .string y2, .slice y3 y4 y5, .slice y6 y7 y8]) ∧ t = R.2 ∧ Below v2.heap.size v2 W9) := hide ⟨q5.weak (fun b hb => ⟨Nat.le_trans (uh X3).size hb.1, hb.2⟩), ht, X5⟩
     clear q5 d5 X5 ht CN s0 s1 s2 s3 s4
     go_wp2_with fail
     (try simp only [Exit.inBlock, Exit.then])
     refine bodyPost_ret (ret_ct rfl _ _ gr #[.int .i64 y0, .int .i64 y1, .string y2, .slice y3 y4 y5, .slice y6 y7 y8] _ _ rfl (set5P (uh ER) _ _ _ _ _) Tryz.underlying25 rfl size_vl) rfl ?_
     exact op_fin (uh HM).1 (uh HM).2.2.2.1 (uh HM).2.2.2.2 (uh HF9).2.2 (uh HF9).1 (uh HF9).2.1
    ·have hk3 : (p0 == 3) = false := beq_eq_false_iff_ne.2 hk
     have HRZ : Hid (R = szV (.mk 4 0 ⟨#[]⟩ ((x.l.drop i).take (j - i)) [])) := hide (uh HA4 hk)
     have hz4 : j ≤ p4 ∧ p4 ≤ p5 ∧ p4 ≤ 2048 := by have h1 := uh HC4 hk; have h2 := uh HLL; have h3 := (uh HSZ).2; omega
     have CN : Hid (Calls Tryz.prog 99 #[.agg #[.int .i64 4, .int .i64 0, .string ⟨#[]⟩, .slice (if p5 = i then p3 else p3.map (fun q => q.add (i * 5))) (j - i) (p5 - i), .slice none 0 0]] W3 fun e w' => OpPost W3 R e w') := hide (by rw [uh HRZ]; exact sized_op _ _ B W3 (sub_val (uh HV3).1 hij (by have := (uh HLL).1; omega)) (uh HV3).2)
     have h5 := hz4.1
     have h6 := hz4.2.1
     have h7 := hz4.2.2
     by_cases hci : p5 = i
     ·rw [if_pos hci, show j - i = 0 by omega, show p5 - i = 0 by omega] at CN
      obtain rfl : j = i := by omega
      obtain rfl : p4 = j := by omega
      subst hci
      go_wp2_with fail
      refine (uh CN).mono ?_
      rintro e W9 ⟨y0, y1, y2, y3, y4, y5, y6, y7, y8, t, rfl, ⟨ht, q5⟩, d5⟩
      have X5 : Below v2.heap.size v2 W9 := (uh X3).trans (d5.mono (uh X3).size)
      have ER : Hid (W9.heap[gr]? = some (.cells #[.int .i64 0, .int .i64 0, .string ⟨#[]⟩, .slice none 0 0, .slice none 0 0] 25 (0, 0))) := hide ((X5.block gr (uh HM).2.2.2.2).trans (uh HM).2.2.1)
      obtain ⟨r0z, r1z, r2z, r3z, r4z⟩ := block5 (uh ER)
      obtain ⟨f0, f1, f2, f3, f4⟩ := fr5 (uh ER)
      have HF9 : Hid (IsQ W9 (fun b => v2.heap.size ≤ b ∧ b < W9.heap.size) R.1 (.agg #[.int .i64 y0, .int .i64 y1, .string y2, .slice y3 y4 y5, .slice y6 y7 y8]) ∧ t = R.2 ∧ Below v2.heap.size v2 W9) := hide ⟨q5.weak (fun b hb => ⟨Nat.le_trans (uh X3).size hb.1, hb.2⟩), ht, X5⟩
      clear q5 d5 X5 ht CN s0 s1 s2 s3 s4
      go_wp2_with fail
      (try simp only [Exit.inBlock, Exit.then])
      refine bodyPost_ret (ret_ct rfl _ _ gr #[.int .i64 y0, .int .i64 y1, .string y2, .slice y3 y4 y5, .slice y6 y7 y8] _ _ rfl (set5P (uh ER) _ _ _ _ _) Tryz.underlying25 rfl size_vl) rfl ?_
      exact op_fin (uh HM).1 (uh HM).2.2.2.1 (uh HM).2.2.2.2 (uh HF9).2.2 (uh HF9).1 (uh HF9).2.1
     ·rw [if_neg hci] at CN
      go_wp2_with fail
      refine (uh CN).mono ?_
      rintro e W9 ⟨y0, y1, y2, y3, y4, y5, y6, y7, y8, t, rfl, ⟨ht, q5⟩, d5⟩
      have X5 : Below v2.heap.size v2 W9 := (uh X3).trans (d5.mono (uh X3).size)
      have ER : Hid (W9.heap[gr]? = some (.cells #[.int .i64 0, .int .i64 0, .string ⟨#[]⟩, .slice none 0 0, .slice none 0 0] 25 (0, 0))) := hide ((X5.block gr (uh HM).2.2.2.2).trans (uh HM).2.2.1)
      obtain ⟨r0z, r1z, r2z, r3z, r4z⟩ := block5 (uh ER)
      obtain ⟨f0, f1, f2, f3, f4⟩ := fr5 (uh ER)
      have HF9 : Hid (IsQ W9 (fun b => v2.heap.size ≤ b ∧ b < W9.heap.size) R.1 (.agg #[.int .i64 y0, .int .i64 y1, .string y2, .slice y3 y4 y5, .slice y6 y7 y8]) ∧ t = R.2 ∧ Below v2.heap.size v2 W9) := hide ⟨q5.weak (fun b hb => ⟨Nat.le_trans (uh X3).size hb.1, hb.2⟩), ht, X5⟩
      clear q5 d5 X5 ht CN s0 s1 s2 s3 s4
      go_wp2_with fail
      (try simp only [Exit.inBlock, Exit.then])
      refine bodyPost_ret (ret_ct rfl _ _ gr #[.int .i64 y0, .int .i64 y1, .string y2, .slice y3 y4 y5, .slice y6 y7 y8] _ _ rfl (set5P (uh ER) _ _ _ _ _) Tryz.underlying25 rfl size_vl) rfl ?_
      exact op_fin (uh HM).1 (uh HM).2.2.2.1 (uh HM).2.2.2.2 (uh HF9).2.2 (uh HF9).1 (uh HF9).2.1
end Go.Proofs.YtgkmdjmigehmeaaGreatDoor
