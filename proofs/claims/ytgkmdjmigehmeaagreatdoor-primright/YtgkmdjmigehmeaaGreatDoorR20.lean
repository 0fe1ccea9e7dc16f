/-
  slices.Delete of one value out of a row of the call's own; no conditions.
-/
import Derived.Test.YtgkmdjmigehmeaaGreatDoorR19
import Derived.Deep.RegionHeld3
import Derived.Test.YtgkmdjmigehmeaaGreatDoorR18
namespace Go.Proofs.YtgkmdjmigehmeaaGreatDoor
set_option linter.unusedVariables false
set_option linter.unusedSimpArgs false
set_option maxRecDepth 100000
set_option maxHeartbeats 16000000
open Go.RowKit
theorem zcV : (Builtin.zeroCells (.agg #[.int .i64 0, .int .i64 0, .string ⟨#[]⟩, .slice none 0 0, .slice none 0 0] : Value).cells 1).toList = [.int .i64 0, .int .i64 0, .string ⟨#[]⟩, .slice none 0 0, .slice none 0 0] := by
 simp [Builtin.zeroCells, List.range_succ, Value.cells]
theorem zoV : ∀ u ∈ ([.int .i64 0, .int .i64 0, .string ⟨#[]⟩, .slice none 0 0, .slice none 0 0] : List Value), u.oneCell' = true := (by intro u hu; simp at hu; rcases hu with rfl | rfl | rfl <;> rfl)
theorem deleteV (base : Nat) (xs : List Value) (n i b cap : Nat) (w : World) (ho : w.ownsRow base 25 5 (.slice (some ⟨b, 0, none⟩) n cap) n xs) (hl1 : ∀ u ∈ xs, u.oneCell' = true) (hi : i < n) (J : Int) (hJ : J = (i : Int) + 1) :
  Calls Tryz.prog 137 #[.slice (some ⟨b, 0, none⟩) n cap, .int .i64 i, .int .i64 J] w fun e w' => e = .returned (.slice (some ⟨b, 0, none⟩) (n - 1) cap) ∧ w'.ownsRow base 25 5 (.slice (some ⟨b, 0, none⟩) (n - 1) cap) (n - 1) (xs.take (i * 5) ++ xs.drop ((i + 1) * 5)) ∧ w.grownBy w' (some b) := by
 obtain ⟨i0, hi0, hz0, hz1, hz2⟩ := info_parts infoVc
 have hxl := ho.1
 obtain ⟨cur, hbase, hg, hc, hm, hcs, htk⟩ : ∃ cur : List Value, base ≤ b ∧ w.heap[b]? = some (.cells cur.toArray 25 (0, 0)) ∧ n ≤ cap ∧ cap ≤ maxLen ∧ cur.length = cap * 5 ∧ cur.take (n * 5) = xs := by
  rcases ho.2 with ⟨e, _⟩ | ⟨g, cap', cur, e, hb, hg, hc, hm, hs, ht⟩
  ·cases e
  ·cases e
   exact ⟨cur.toList, hb, by simpa using hg, hc, hm, by simpa using hs, ht⟩
 have hcm : cap ≤ 9223372036854775807 := by unfold maxLen at hm; omega
 have hsrc : ∀ (u : World) (ad : Addr), u.heap[b]? = some (.cells cur.toArray 25 (0, 0)) → (i + 1 < n → ad = ⟨b, (i + 1) * 5, none⟩) → ∀ j v, (xs.drop ((i + 1) * 5))[j]? = some v → u.cell? (ad.add j) = some v := fun u ad hu had j v hj => by
  have hlt : i + 1 < n := by
   have := (List.getElem?_eq_some_iff.1 hj).1
   rw [List.length_drop, hxl] at this
   omega
  rw [had hlt, add_offR, cell_of_row u b _ _ _ (0, 0) hu]
  rw [List.getElem?_drop, ← htk] at hj
  rw [List.getElem?_take] at hj
  split at hj
  ·simpa using hj
  ·cases hj
 have HP : Hid (∀ u ∈ xs.drop ((i + 1) * 5), u.oneCell' = true) := hide (fun u hu => hl1 u (List.mem_of_mem_drop hu))
 have HG := hide hg
 have HS := hide hsrc
 have HC := hide (And.intro hbase (And.intro hcs (And.intro htk (And.intro hm hxl))))
 have HL : Hid ((xs.drop ((i + 1) * 5)).length = (n - (i + 1)) * 5) := hide (by rw [List.length_drop, hxl]; omega)
 have HF : Hid (i * 5 + (xs.drop ((i + 1) * 5)).length ≤ cur.length) := hide (by rw [uh HL, hcs]; omega)
 obtain ⟨ds, hds⟩ : ∃ ds, xs.drop ((i + 1) * 5) = ds := ⟨_, rfl⟩
 rw [hds] at HL HF HS HP
 have HDS := hide hds
 have i1 : (0 : Int) ≤ (i : Int) := by omega
 have i2 : (i : Int) ≤ (i : Int) + 1 := by omega
 have i3 : (i : Int) + 1 ≤ (n : Int) := by omega
 have i4 : (n : Int) ≤ (cap : Int) := by omega
 have i5 : ¬ ((i : Int) = (i : Int) + 1) := by omega
 have i6 : ((i : Int) + 1).toNat = i + 1 := by omega
 have i7 : (0 : Int) ≤ (i : Int) + 1 := by omega
 have i8 : ¬ (n = i) := by omega
 have i9 : ¬ (cap = i) := by omega
 have i10 : (i : Int) ≤ (cap : Int) := by omega
 have i11 : (i : Int) + 1 ≤ (cap : Int) := by omega
 subst hJ
 clear ho hl1 hg hsrc hbase hcs hm htk hds hxl
 have fin : Hid (∀ w1 w2 : World, LaidR w.drew w1 b (splice cur (i * 5) ds) 25 → LaidR w1 w2 b (splice (splice cur (i * 5) ds) ((n - 1) * 5) [.int .i64 0, .int .i64 0, .string ⟨#[]⟩, .slice none 0 0, .slice none 0 0]) 25 →
   w2.ownsRow base 25 5 (.slice (some ⟨b, 0, none⟩) (n - 1) cap) (n - 1) (xs.take (i * 5) ++ xs.drop ((i + 1) * 5)) ∧ w.grownBy w2 (some b)) := hide (fun w1 w2 H1 H2 => by
  obtain ⟨hbase, hcs, htk, hm, hxl⟩ := uh HC
  obtain ⟨hs1, hs2⟩ := splice_delR cur xs [.int .i64 0, .int .i64 0, .string ⟨#[]⟩, .slice none 0 0, .slice none 0 0] 5 (n * 5) (i * 5) hxl rfl (by omega) (by omega) htk
  have e1 : i * 5 + 5 = (i + 1) * 5 := by omega
  have e2 : n * 5 - 5 = (n - 1) * 5 := by omega
  rw [e1, uh HDS, e2] at hs1 hs2
  refine ⟨⟨?_, .inr ⟨b, cap, _, rfl, hbase, H2.here, by omega, hm, by rw [List.size_toArray, hs2, hcs], ?_⟩⟩, ⟨?_, ?_, ?_, ?_, fun k hk hne' => ?_⟩⟩
  ·simp only [List.length_append, List.length_take, List.length_drop, hxl]
   omega
  ·rw [List.toList_toArray, uh HDS, show (n - 1) * 5 = (n - 1) * 5 by omega]
   exact hs1
  ·exact H2.os.trans H1.os
  ·exact H2.tape.trans H1.tape
  ·exact H2.output.trans H1.output
  ·rw [H2.size, H1.size]
   exact Nat.le_refl _
  ·have hk2 : k ≠ b := fun e => hne' (by rw [e])
   rw [H2.other k hk2, H1.other k hk2]
   rfl)
 by_cases hcp : cap = i + 1
 ·subst hcp
  go_enter Tryz.func137, Tryz.ntmps137
  go_wp2_with fail
  go_region_held3 (fun _ => True)
   (exact trivial)
   ((refine step_roomR (by rfl) (.tmp 22) (.tmp 25) 22 25 i0 5 (by rfl) Tryz.underlying22 hi0 hz1 b i (i + 1) ⟨b, 0, none⟩ 0 0 (by rfl) (by rfl) cur ds (uh HG) (by have := uh HL; omega) (uh HS _ _ (uh HG) (by omega)) (uh HP) (by omega) (uh HF) ?_; rw [show i + 0 = n - 1 by omega]; intro w1 H1))
  have hs1 : (splice cur (i * 5) ds).length = cur.length := length_splice _ _ _ (uh HF)
  have HF1 : Hid ((n - 1) * 5 + 5 ≤ (splice cur (i * 5) ds).length) := hide (by rw [hs1]; have := (uh HC).2.1; omega)
  clear hs1
  have j1 : ((n - 1 : Nat) : Int) ≤ (n : Int) := by omega
  have j2 : ¬ (i + 1 = n - 1) := by omega
  have j3 : (0 : Int) ≤ ((n - 1 : Nat) : Int) := by omega
  have j4 : n - (n - 1) = 1 := by omega
  have tok1 : True := trivial
  go_wp2_with (first | (have _t := tok1; refine wpl_clearR rfl (.tmp 31) 22 25 _ 5 rfl Tryz.underlying22 Tryz.zeroValue25 [.int .i64 0, .int .i64 0, .string ⟨#[]⟩, .slice none 0 0, .slice none 0 0] zcV rfl zoV b ((n - 1) * 5) (i + 1 - (n - 1)) (by simp [Act.eval, Act.put, j4]) (splice cur (i * 5) ds) 25 (uh H1).here (uh HF1) ?_; intro w2 H2; clear tok1))
  go_ret
  exact ⟨rfl, uh fin w1 w2 (uh H1) (uh H2)⟩
 ·go_enter Tryz.func137, Tryz.ntmps137
  go_wp2_with fail
  go_region_held3 (fun _ => True)
   (exact trivial)
   ((refine step_roomR (by rfl) (.tmp 22) (.tmp 25) 22 25 i0 5 (by rfl) Tryz.underlying22 hi0 hz1 b i cap ⟨b, (i + 1) * 5, none⟩ (n - (i + 1)) (cap - (i + 1)) (by rfl) (by rfl) cur ds (uh HG) (by have := uh HL; omega) (uh HS _ _ (uh HG) (by intro _; rfl)) (uh HP) (by omega) (uh HF) ?_; rw [show i + (n - (i + 1)) = n - 1 by omega]; intro w1 H1))
  have hs1 : (splice cur (i * 5) ds).length = cur.length := length_splice _ _ _ (uh HF)
  have HF1 : Hid ((n - 1) * 5 + 5 ≤ (splice cur (i * 5) ds).length) := hide (by rw [hs1]; have := (uh HC).2.1; omega)
  clear hs1
  have j1 : ((n - 1 : Nat) : Int) ≤ (n : Int) := by omega
  have j2 : ¬ (cap = n - 1) := by omega
  have j3 : (0 : Int) ≤ ((n - 1 : Nat) : Int) := by omega
  have j4 : n - (n - 1) = 1 := by omega
  have tok1 : True := trivial
  go_wp2_with (first | (have _t := tok1; refine wpl_clearR rfl (.tmp 31) 22 25 _ 5 rfl Tryz.underlying22 Tryz.zeroValue25 [.int .i64 0, .int .i64 0, .string ⟨#[]⟩, .slice none 0 0, .slice none 0 0] zcV rfl zoV b ((n - 1) * 5) (cap - (n - 1)) (by simp [Act.eval, Act.put, j4]) (splice cur (i * 5) ds) 25 (uh H1).here (uh HF1) ?_; intro w2 H2; clear tok1))
  go_ret
  exact ⟨rfl, uh fin w1 w2 (uh H1) (uh H2)⟩
theorem without_in (n : Int) (s : ByteArray) (l : List Vl) (ks : List ByteArray) (al ak : Option Addr) (cl ck : Nat) (B : Nat) (key : ByteArray) (I : Nat) (w : World) (hv : IsV w B (.mk 5 n s l ks) (.agg #[.int .i64 5, .int .i64 n, .string s, .slice al l.length cl, .slice ak ks.length ck])) (hBs : B ≤ w.heap.size) (hr : rightB (.mk 5 n s l ks) = true) (hI : placeK ks key = some I) :
  Calls Tryz.prog 112 #[.agg #[.int .i64 5, .int .i64 n, .string s, .slice al l.length cl, .slice ak ks.length ck], .string key] w fun e w' => ∃ x', e = .returned (.tuple #[x', .int .i64 0]) ∧ Below w.heap.size w w' ∧ IsQ w' (fun b => w.heap.size ≤ b ∧ b < w'.heap.size) (.mk 5 n s (l.eraseIdx I) (ks.eraseIdx I)) x' := by
 obtain ⟨m, hm⟩ : ∃ m, ks.length = m := ⟨_, rfl⟩
 obtain ⟨ln, hln⟩ : ∃ ln, l.length = ln := ⟨_, rfl⟩
 rw [hm, hln] at hv
 rw [hm, hln]
 have hcn : cnt (.mk 5 n s l ks) ≤ 5000 := by have h := few_right hr; unfold fewB at h; exact of_decide_eq_true h
 obtain ⟨hrise, hkl⟩ := right_keys hr
 rw [hm, hln] at hkl
 obtain ⟨g, hg⟩ : ∃ g, w.heap.size = g := ⟨_, rfl⟩
 have TW := Two.mk' w 25 #[.int .i64 5, .int .i64 n, .string s, .slice al ln cl, .slice ak m ck] #[.int .i64 0, .int .i64 0, .string ⟨#[]⟩, .slice none 0 0, .slice none 0 0]
 obtain ⟨w2, hw2⟩ : ∃ w2, (w.alloc (.cells #[.int .i64 5, .int .i64 n, .string s, .slice al ln cl, .slice ak m ck] 25)).alloc (.cells #[.int .i64 0, .int .i64 0, .string ⟨#[]⟩, .slice none 0 0, .slice none 0 0] 25) = w2 := ⟨_, rfl⟩
 rw [hw2, hg] at TW
 have hz : Wy w w2 g #[.int .i64 5, .int .i64 n, .string s, .slice al ln cl, .slice ak m ck] #[.int .i64 0, .int .i64 0, .string ⟨#[]⟩, .slice none 0 0, .slice none 0 0] := by
  have h1 := TW.later (Below.refl _ _)
  have h2 := TW.size
  have h3 := TW.below
  rw [hg] at h3
  exact ⟨h1.1, h1.2, by omega, h3⟩
 have HVV : Hid (∀ u, Below g w u → IsV u B (.mk 5 n s l ks) (.agg #[.int .i64 5, .int .i64 n, .string s, .slice al ln cl, .slice ak m ck]) ∧ B ≤ u.heap.size) := hide (fun u hu => ⟨hv.mono (hu.mono (by omega)), by have := hu.size; omega⟩)
 have CR := hide (right_code (.mk 5 n s l ks) _ B w2 (uh HVV w2 hz.below).1 (uh HVV w2 hz.below).2)
 rw [hr] at CR
 have HZ := hide hz
 obtain ⟨c0, c1, c2, c3, c4⟩ := row_cell hz.at0
 have HH := hide (And.intro hm (And.intro hln (And.intro hkl (And.intro hrise (And.intro hI (And.intro hcn hr))))))
 clear hz hv hm hln hcn hrise hkl hr hI TW
 go_enter Tryz.func112, Tryz.ntmps112
 go_wp2_with fail
 refine (uh CR).mono ?_
 rintro e u3 ⟨rfl, b3⟩
 have HZ3 := hide ((uh HZ).later b3)
 clear b3 CR c0 c1 c2 c3 c4 hw2
 obtain ⟨c0, c1, c2, c3, c4⟩ := row_cell (uh HZ3).at0
 have CB := hide (search_any ks ak ck u3 (uh HVV u3 (uh HZ3).below).1.keys.1 (uh HH).2.2.2.1 key)
 rw [(uh HH).1] at CB
 go_wp2_with fail
 refine (uh CB).mono ?_
 rintro e u4 ⟨L, rfl, hL1, hL2, rfl⟩
 have hF : decide (ks[L]? = some key) = true ∧ L = I := by
  cases hd : decide (ks[L]? = some key) with
  | false =>
   have h1 := (place_of (uh HH).2.2.2.1 hL2).2 (of_decide_eq_false hd)
   rw [(uh HH).2.2.2.2.1] at h1
   cases h1
  | true =>
   have h1 := (place_of (uh HH).2.2.2.1 hL2).1 (of_decide_eq_true hd)
   rw [(uh HH).2.2.2.2.1] at h1
   cases h1
   exact ⟨rfl, rfl⟩
 obtain ⟨hF1, rfl⟩ := hF
 rw [hF1]
 have HLL : Hid (L < m) := hide (by have h1 := (List.getElem?_eq_some_iff.1 (of_decide_eq_true hF1)).1; have h2 := (uh HH).1; omega)
 clear hF1 hL1 hL2 CB
 have CL := hide (cln_top (dep (.mk 5 n s l ks)) 5 n s l ks _ B u4 (by omega) (uh HH).2.2.2.2.2.1 (uh HVV u4 (uh HZ3).below).1 (uh HVV u4 (uh HZ3).below).2)
 go_wp2_with fail
 refine (uh CL).mono ?_
 rintro e u5 ⟨aL, cL, aK, cK, V, rfl, M, b5⟩
 obtain ⟨bL, rfl⟩ : ∃ bL, aL = some ⟨bL, 0, none⟩ := by
  rcases M.ownL.2 with ⟨h, e⟩ | ⟨q, c, cur, h, _⟩
  ·have h1 := uh HLL
   have h2 := (uh HH).2.1
   have h3 := (uh HH).2.2.1
   omega
  ·cases h
   exact ⟨q, rfl⟩
 obtain ⟨bK, rfl⟩ : ∃ bK, aK = some ⟨bK, 0, none⟩ := by
  rcases M.ownK.2 with ⟨h, e⟩ | ⟨q, c, cur, h, _⟩
  ·have h1 := uh HLL
   have h2 := (uh HH).1
   omega
  ·cases h
   exact ⟨q, rfl⟩
 have H6 := hide (wd_start (n := n) (s := s) ((uh HZ3).later b5) (uh HZ3).size M)
 have HM := hide M.row
 rw [(uh HH).1, (uh HH).2.1] at H6 ⊢
 clear M b5 CL c0 c1 c2 c3 c4
 have hj : (L : Int) + 1 ≤ 9223372036854775807 := by
  have h1 := uh HLL
  have h2 := (uh HVV w (Below.refl _ _)).1.keys.1.bnd
  have h3 := (uh HH).1
  omega
 go_wp2_with fail
 obtain ⟨gb, hgb⟩ : ∃ gb, u5.heap.size = gb := ⟨_, rfl⟩
 obtain ⟨u6, hu6⟩ : ∃ u6, u5.alloc (.cells #[.int .i64 5, .int .i64 n, .string s, .slice (some ⟨bL, 0, none⟩) ln cL, .slice (some ⟨bK, 0, none⟩) m cK] 25) = u6 := ⟨_, rfl⟩
 rw [hgb, hu6] at H6
 rw [hgb, hu6]
 clear hgb hu6
 refine (deleteS (g + 2) (ks.map Value.string) m L bK cK u6 (uh H6).keys (fun v hv => by obtain ⟨t, _, rfl⟩ := List.mem_map.1 hv; rfl) (uh HLL) _ rfl).mono ?_
 rintro e u7 ⟨rfl, ok7, gk7⟩
 have hb7 := (gk7.block gb (wd_lt (uh H6)).1 (fun e => (uh H6).apK (Option.some.inj e).symm)).trans (uh H6).box
 have f4 : u7.frozen? ⟨gb, 4, none⟩ = false := frozen_of_row u7 gb 4 _ _ hb7
 have d4 := (row_cell hb7).2.2.2.2
 have H7 := hide (wd_key (uh H6) ok7 gk7)
 clear ok7 gk7 hb7
 go_upto_region 10 with fail
 obtain ⟨u8, hu8⟩ : ∃ u8, u7.setCell ⟨gb, 4, none⟩ (.slice (some ⟨bK, 0, none⟩) (m - 1) cK) = u8 := ⟨_, rfl⟩
 rw [hu8] at H7 ⊢
 clear hu8 f4 d4 H6
 obtain ⟨d0, d1, d2, d3, d4⟩ := row_cell (uh H7).box
 go_wp2_with fail
 refine (deleteV (g + 2) (flat V ln) ln L bL cL u8 (uh H7).els (fun v hv => ?_) (by have h1 := uh HLL; have h2 := (uh HH).2.2.1; omega) _ rfl).mono ?_
 ·obtain ⟨q, hq⟩ := List.getElem?_of_mem hv
  have hV : ∀ c, c < ln → (V c).length = 5 := fun c hc => uh HM c (by have := (uh HH).2.1; omega)
  have hql : q < ln * 5 := by
   have := (List.getElem?_eq_some_iff.1 hq).1
   rw [flat_len V ln hV] at this
   exact this
  have h2 := flat_get hV (q / 5) (q % 5) (by omega) (by omega)
  rw [show q / 5 * 5 + q % 5 = q by omega, hq] at h2
  obtain ⟨y, hy⟩ : ∃ y, l[q / 5]? = some y := ⟨_, List.getElem?_eq_getElem (by have := (uh HH).2.1; omega)⟩
  obtain ⟨k', n', s', l', ks', al', ak', cl', ck', _, hsh⟩ := ((uh H7).el (q / 5) y hy).shape
  have hVi : V (q / 5) = [.int .i64 k', .int .i64 n', .string s', .slice al' l'.length cl', .slice ak' ks'.length ck'] := by
   have h3 := congrArg Array.toList (Value.agg.inj hsh)
   simpa using h3
  have hmem := List.mem_of_getElem? h2.symm
  rw [hVi] at hmem
  simp at hmem
  rcases hmem with rfl | rfl | rfl | rfl | rfl <;> rfl
 rintro e u9 ⟨rfl, ol9, gl9⟩
 have hb9 := (gl9.block gb (wd_lt (uh H7)).1 (fun e => (uh H7).apL (Option.some.inj e).symm)).trans (uh H7).box
 have f3 : u9.frozen? ⟨gb, 3, none⟩ = false := frozen_of_row u9 gb 3 _ _ hb9
 have d3 := (row_cell hb9).2.2.2.1
 have H9 := hide (wd_els (uh H7) ol9 gl9)
 clear ol9 gl9 hb9
 go_upto_region 11 with fail
 obtain ⟨u11, hu11⟩ : ∃ u11, u9.setCell ⟨gb, 3, none⟩ (.slice (some ⟨bL, 0, none⟩) (ln - 1) cL) = u11 := ⟨_, rfl⟩
 rw [hu11] at H9 ⊢
 clear hu11 f3 d0 d1 d2 d3 d4 H7
 obtain ⟨d0, d1, d2, d3, d4⟩ := row_cell (uh H9).box
 have ATX : u11.heap[g + 1]? = some (.cells #[.int .i64 0, .int .i64 0, .string ⟨#[]⟩, .slice none 0 0, .slice none 0 0] 25 (0, 0)) := (uh H9).wy.at1
 obtain ⟨z0, z1, z2, z3, z4⟩ := row_cell ATX
 have fz : ∀ q, u11.frozen? ⟨g + 1, q, none⟩ = false := fun q => frozen_of_row u11 (g + 1) q _ _ ATX
 have fz0 := fz 0
 have fz1 := fz 1
 have fz2 := fz 2
 have fz3 := fz 3
 have fz4 := fz 4
 have HAT := hide ATX
 clear fz ATX
 go_wp2_with fail
 have ATX := uh HAT
 have BW : Below g w u11 := (uh H9).wy.below
 have R9 := five_set u11 (g + 1) 25 _ _ _ _ _ (.int .i64 5) (.int .i64 n) (.string s) (.slice (some ⟨bL, 0, none⟩) (ln - 1) cL) (.slice (some ⟨bK, 0, none⟩) (m - 1) cK) ATX
 have O9 := five_other u11 (g + 1) (x0 := .int .i64 5) (x1 := .int .i64 n) (x2 := .string s) (x3 := .slice (some ⟨bL, 0, none⟩) (ln - 1) cL) (x4 := .slice (some ⟨bK, 0, none⟩) (m - 1) cK)
 have S9 : (((((u11.setCell ⟨g + 1, 0, none⟩ (.int .i64 5)).setCell ⟨g + 1, 1, none⟩ (.int .i64 n)).setCell ⟨g + 1, 2, none⟩ (.string s)).setCell ⟨g + 1, 3, none⟩ (.slice (some ⟨bL, 0, none⟩) (ln - 1) cL)).setCell ⟨g + 1, 4, none⟩ (.slice (some ⟨bK, 0, none⟩) (m - 1) cK)).heap.size = u11.heap.size := by simp
 obtain ⟨w9, hw9⟩ : ∃ w9, (((((u11.setCell ⟨g + 1, 0, none⟩ (.int .i64 5)).setCell ⟨g + 1, 1, none⟩ (.int .i64 n)).setCell ⟨g + 1, 2, none⟩ (.string s)).setCell ⟨g + 1, 3, none⟩ (.slice (some ⟨bL, 0, none⟩) (ln - 1) cL)).setCell ⟨g + 1, 4, none⟩ (.slice (some ⟨bK, 0, none⟩) (m - 1) cK)) = w9 := ⟨_, rfl⟩
 rw [hw9] at R9 S9 ⊢
 have B9 : Below g w w9 := by rw [← hw9]; exact five_below BW (by omega) _ _ _ _ _
 obtain ⟨r0, r1, r2, r3, r4⟩ := row_cell R9
 refine bodyPost_ret (v := .tuple #[.agg #[.int .i64 5, .int .i64 n, .string s, .slice (some ⟨bL, 0, none⟩) (ln - 1) cL, .slice (some ⟨bK, 0, none⟩) (m - 1) cK], .int .i64 0]) (by simp [results, Tryz.results112, go_sem, r0, r1, r2, r3, r4]) rfl ?_
 have Q9 : IsQ w9 (fun b => g ≤ b ∧ b < w9.heap.size) (.mk 5 n s (l.eraseIdx L) (ks.eraseIdx L)) (.agg #[.int .i64 5, .int .i64 n, .string s, .slice (some ⟨bL, 0, none⟩) (ln - 1) cL, .slice (some ⟨bK, 0, none⟩) (m - 1) cK]) := by
  have hm := (uh HH).1
  have hln := (uh HH).2.1
  have hkl := (uh HH).2.2.1
  have hLm := uh HLL
  have hV : ∀ c, c < ln → (V c).length = 5 := fun c hc => uh HM c (by omega)
  have e1 : (l.eraseIdx L).length = ln - 1 := by rw [List.length_eraseIdx_of_lt (by omega)]; omega
  have e2 : (ks.eraseIdx L).length = m - 1 := by rw [List.length_eraseIdx_of_lt (by omega)]; omega
  have h9 := uh H9
  rw [← flat_del hV (by omega)] at h9
  have hk : (ks.map Value.string).take (L * 1) ++ (ks.map Value.string).drop ((L + 1) * 1) = (ks.eraseIdx L).map Value.string := by
   rw [List.eraseIdx_eq_take_drop_succ]
   simp
  rw [hk] at h9
  obtain ⟨_, _, _, _, _, V0, hf, _⟩ := IsP.at (uh HVV w (Below.refl _ _)).1
  have hcn := (uh HH).2.2.2.2.2.1
  have hcl := len_cntL l
  simp only [cnt] at hcn
  have hbq := hf.bq
  rw [← e1, ← e2] at h9 R9 ⊢
  refine wd_made h9 S9 (fun q hq => by rw [← hw9]; exact O9 q hq) R9 (fun c hc => ?_) (fun c y hy => ?_) hf.bn hf.bs (by omega) (fun t ht => hf.bt t (List.mem_of_mem_eraseIdx ht)) (by omega)
  ·unfold delF
   split
   ·exact hV c (by omega)
   ·exact hV (c + 1) (by omega)
  ·unfold delF
   rw [List.getElem?_eraseIdx] at hy
   by_cases hc : c < L
   ·rw [if_pos hc] at hy
    exact ⟨c, hy, by rw [if_pos hc]⟩
   ·rw [if_neg hc] at hy
    exact ⟨c + 1, hy, by rw [if_neg hc]⟩
 rw [hg]
 exact ⟨_, rfl, B9, Q9⟩
end Go.Proofs.YtgkmdjmigehmeaaGreatDoor
