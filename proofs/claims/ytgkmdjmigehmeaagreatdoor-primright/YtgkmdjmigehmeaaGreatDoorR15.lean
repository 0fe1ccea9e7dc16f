/-
  slices.Insert of one value into a row of the call's own, at any place; no conditions but that the row's bytes are within 2^47.
-/
import Derived.Test.YtgkmdjmigehmeaaGreatDoorR14
import Derived.Deep.RegionHeld3
namespace Go.Proofs.YtgkmdjmigehmeaaGreatDoor
set_option linter.unusedVariables false
set_option linter.unusedSimpArgs false
set_option maxRecDepth 100000
set_option maxHeartbeats 16000000
open Go.RowKit
theorem insEndV (base : Nat) (v : Value) (ys xs : List Value) (n gv : Nat) (w : World) (ho : w.ownsRow base 25 5 v n xs) (hv : w.heap[gv]? = some (.cells ys.toArray 25 (0, 0))) (hys : ys.length = 5) (h1 : ∀ u ∈ ys, u.oneCell' = true) (hb : (n + 1) * 80 ≤ 140737488355328) (hbase : base ≤ w.heap.size) :
  Calls Tryz.prog 135 #[v, .int .i64 n, .slice (some ⟨gv, 0, none⟩) 1 1] w fun e w' => ∃ v', e = .returned v' ∧ w'.ownsRow base 25 5 v' (n + 1) (xs ++ ys) ∧ Grew w w' v v' := by
 obtain ⟨i0, hi, hz0, hz1, hz2⟩ := info_parts infoVc
 have HO := hide ho
 have HV := hide hv
 have HP := hide (And.intro hys (And.intro h1 (And.intro hb hbase)))
 have HI := hide (And.intro hi (And.intro hz0 (And.intro hz1 hz2)))
 clear hi hz0 hz1 hz2
 rcases ho.2 with ⟨rfl, rfl⟩ | ⟨b, cap, cur, rfl, hbg, hg, hnc, hcm, hcs, htk⟩
 ·clear ho hv hys h1 hbase
  go_enter Tryz.func135, Tryz.ntmps135
  go_wp2_with (first | (at_builtin; refine wpl_appR rfl (.tmp 23) (.tmp 24) 22 25 i0 _ 5 80 Tryz.underlying22 (uh HI).1 (uh HI).2.1 (uh HI).2.2.1 (uh HI).2.2.2 rfl (by omega) rfl base 0 (.slice none 0 0) xs rfl (uh HO) gv ys rfl (uh HV) (uh HP).1 (uh HP).2.1 (by unfold maxLen; omega) (by omega) (uh HP).2.2.2 ?_; intro v2 w2 o2))
  go_ret
  exact ⟨_, rfl, (uh o2).1, (uh o2).2.grown, (uh o2).2.row⟩
 ·have hmx : cap ≤ 9223372036854775807 := by unfold maxLen at hcm; omega
  have i1 : (0 : Int) ≤ (n : Int) := by omega
  have i2 : (n : Int) ≤ (cap : Int) := by omega
  have i3 : (n : Int) ≤ (n : Int) := by omega
  clear ho hv hys h1 hbase hg hcs htk hbg hcm
  go_enter Tryz.func135, Tryz.ntmps135
  go_wp2_with (first | (at_builtin; refine wpl_appR rfl (.tmp 23) (.tmp 24) 22 25 i0 _ 5 80 Tryz.underlying22 (uh HI).1 (uh HI).2.1 (uh HI).2.2.1 (uh HI).2.2.2 rfl (by omega) rfl base n (.slice (some ⟨b, 0, none⟩) n cap) xs rfl (uh HO) gv ys rfl (uh HV) (uh HP).1 (uh HP).2.1 (by unfold maxLen; omega) (by omega) (uh HP).2.2.2 ?_; intro v2 w2 o2))
  all_goals (go_ret; exact ⟨_, rfl, (uh o2).1, (uh o2).2.grown, (uh o2).2.row⟩)
theorem sizeRV (w : World) : (Go.sizeOf 25).run Tryz.prog w = .ok 5 w := Tryz.sizeOf25 w
theorem insShiftV (base : Nat) (ys xs : List Value) (n i b cap gv : Nat) (w : World) (ho : w.ownsRow base 25 5 (.slice (some ⟨b, 0, none⟩) n cap) n xs) (hv : w.heap[gv]? = some (.cells ys.toArray 25 (0, 0))) (hne : gv ≠ b) (hys : ys.length = 5) (h1y : ∀ u ∈ ys, u.oneCell' = true) (h1x : ∀ u ∈ xs, u.oneCell' = true) (hi : i < n) (hroom : n + 1 ≤ cap) :
  Calls Tryz.prog 135 #[.slice (some ⟨b, 0, none⟩) n cap, .int .i64 i, .slice (some ⟨gv, 0, none⟩) 1 1] w fun e w' => ∃ v', e = .returned v' ∧ w'.ownsRow base 25 5 v' (n + 1) (xs.take (i * 5) ++ ys ++ xs.drop (i * 5)) ∧ Grew w w' (.slice (some ⟨b, 0, none⟩) n cap) v' := by
 obtain ⟨i0, hi0, hz0, hz1, hz2⟩ := info_parts infoVc
 have hxl := ho.1
 obtain ⟨cur, hbase, hg, hm, hcs, htk⟩ : ∃ cur : List Value, base ≤ b ∧ w.heap[b]? = some (.cells cur.toArray 25 (0, 0)) ∧ cap ≤ maxLen ∧ cur.length = cap * 5 ∧ cur.take (n * 5) = xs := by
  rcases ho.2 with ⟨e, _⟩ | ⟨g, cap', cur, e, hb, hg, hc, hm, hs, ht⟩
  ·cases e
  ·cases e
   exact ⟨cur.toList, hb, by simpa using hg, hm, by simpa using hs, ht⟩
 have hcm : cap ≤ 9223372036854775807 := by unfold maxLen at hm; omega
 have hti : cur.take (i * 5) = xs.take (i * 5) := by rw [← htk, List.take_take, Nat.min_eq_left (by omega)]
 have hsrc : ∀ (u : World), u.heap[b]? = some (.cells cur.toArray 25 (0, 0)) → ∀ j v, (xs.drop (i * 5))[j]? = some v → u.cell? ((⟨b, i * 5, none⟩ : Addr).add j) = some v := fun u hu j v hj => by
  rw [add_offR, cell_of_row u b _ _ _ (0, 0) hu]
  rw [List.getElem?_drop, ← htk] at hj
  rw [List.getElem?_take] at hj
  split at hj
  ·simpa using hj
  ·cases hj
 have hov : ∀ lb cb, (callFunc 158 #[.slice (some ⟨gv, 0, none⟩) 1 1, .slice (some ⟨b, (i + 1) * 5, none⟩) lb cb]).run Tryz.prog w = .ok (.value (.bool false)) w := fun lb cb => by
  rw [run_callFunc_extern Tryz.func158 (by kernel_rfl) (by kernel_rfl) (by kernel_rfl) (e := Extern.SlicesOverlaps.overlaps #[22, 22] #[4]) (by kernel_rfl),
   Lib.run_overlaps_apart w 22 4 25 Tryz.underlying22 5 sizeRV ⟨gv, 0, none⟩ ⟨b, (i + 1) * 5, none⟩ 1 1 lb cb hne 25 25 5 (cap * 5) (by simp [World.shape?, hv, hys]) (by simp [World.shape?, hg, hcs]) (by omega) (frozen_of_row w gv 0 _ _ hv) (frozen_of_row w gv 5 _ _ hv)]
  rfl
 have HO := hide ho
 have HV := hide hv
 have HP := hide (And.intro hys (And.intro h1y h1x))
 have HG := hide hg
 have HS := hide hsrc
 have HC := hide (And.intro hbase (And.intro hcs (And.intro hti (And.intro hm hxl))))
 have z1 : ¬ ((1 : Int) = 0) := by omega
 have z2 : ¬ ((i : Int) = (n : Int)) := by omega
 have z3 : ¬ (cap : Int) < (n : Int) + 1 := by omega
 have i1 : (0 : Int) ≤ (i : Int) := by omega
 have i2 : (i : Int) ≤ (n : Int) := by omega
 have i3 : (n : Int) + 1 ≤ (cap : Int) := by omega
 have i4 : (0 : Int) ≤ (i : Int) + 1 := by omega
 have i5 : (i : Int) + 1 ≤ (n : Int) + 1 := by omega
 have i6 : (i : Int) ≤ (n : Int) + 1 := by omega
 have i7 : ((i : Int) + 1).toNat = i + 1 := by omega
 have i8 : ((n : Int) + 1).toNat = n + 1 := by omega
 have i9 : ¬ (cap = i + 1) := by omega
 have i10 : ¬ (cap = i) := by omega
 clear ho hv hys h1y h1x hg hsrc hbase hcs hti hm htk hxl
 go_enter Tryz.func135, Tryz.ntmps135
 go_wp2_with (simp only [hov])
 have hw1 : IntKind.i64.wrap ((i : Int) + 1) = (i : Int) + 1 := by rw [IntKind.wrap_i64]; omega
 have HL : Hid ((xs.drop (i * 5)).length = (n - i) * 5) := hide (by rw [List.length_drop, (uh HC).2.2.2.2]; omega)
 have HF : Hid ((i + 1) * 5 + (xs.drop (i * 5)).length ≤ cur.length) := hide (by have := (uh HC).2.1; rw [uh HL]; omega)
 have H1c : Hid (∀ u ∈ xs.drop (i * 5), u.oneCell' = true) := hide (fun u hu => (uh HP).2.2 u (List.mem_of_mem_drop hu))
 obtain ⟨ds, hds⟩ : ∃ ds, xs.drop (i * 5) = ds := ⟨_, rfl⟩
 rw [hds] at HL HF H1c HS
 have HDS := hide hds
 clear hds hov
 go_region_held3 (fun _ => True)
  (exact trivial)
  ((refine step_copyR (by rfl) (.tmp 73) (.tmp 76) 22 22 25 i0 5 (by rfl) Tryz.underlying22 hi0 hz1 b ((i + 1) * 5) (n - i) (cap - (i + 1)) ⟨b, i * 5, none⟩ (n + 1 - i) (cap - i) (by rfl) (by rfl) cur 25 (uh HG) ds (n - i) (Nat.min_eq_right (by omega)) (uh HL) (uh HS _ (uh HG)) (uh HF) (uh H1c) ?_; intro w1 H1))
 have HV1 : Hid (w1.heap[gv]? = some (.cells ys.toArray 25 (0, 0))) := hide (((uh H1).other gv hne).trans (uh HV))
 have HF1 : Hid (i * 5 + ys.length ≤ (splice cur ((i + 1) * 5) ds).length) := hide (by rw [length_splice _ _ _ (uh HF)]; have := (uh HC).2.1; rw [(uh HP).1]; omega)
 have tok1 : True := trivial
 go_wp2_with (first | (have _t := tok1; refine wpl_copyR rfl (.tmp 80) (.tmp 81) 22 22 25 i0 5 rfl Tryz.underlying22 hi0 hz1 b (i * 5) (n + 1 - i) (cap - i) ⟨gv, 0, none⟩ 1 1 rfl rfl (splice cur ((i + 1) * 5) ds) 25 (uh H1).here ys 1 (Nat.min_eq_left (by omega)) (by rw [(uh HP).1]) (fun j u hu => World.news_of_block (uh HV1) j u (by simpa using hu)) (uh HF1) (uh HP).2.1 ?_; intro w2 H2; clear tok1))
 go_ret
 obtain ⟨hbase, hcs, hti, hm, hxl⟩ := uh HC
 obtain ⟨hs1, hs2⟩ := splice_in cur xs ys 5 (n * 5) (i * 5) hxl (uh HP).1 (by omega) (by omega) hti
 have ep : i * 5 + 5 = (i + 1) * 5 := by omega
 have eq : i * 5 = i * 5 := by omega
 rw [uh HDS, ep, eq] at hs1 hs2
 have en : n * 5 + 5 = (n + 1) * 5 := by omega
 rw [en] at hs1
 have H2h := (uh H2).here
 refine ⟨.slice (some ⟨b, 0, none⟩) (n + 1) cap, rfl, ⟨?_, .inr ⟨b, cap, _, rfl, hbase, H2h, hroom, hm, by simp [hs2, hcs], ?_⟩⟩, ⟨⟨?_, ?_, ?_, ?_, fun k hk hne' => ?_⟩, fun c hc => .inl hc⟩⟩
 ·simp only [List.length_append, List.length_take, List.length_drop, hxl, (uh HP).1]
  omega
 ·rw [List.toList_toArray, uh HDS, eq]
  exact hs1
 ·exact (uh H2).os.trans (uh H1).os
 ·exact (uh H2).tape.trans (uh H1).tape
 ·exact (uh H2).output.trans (uh H1).output
 ·rw [(uh H2).size, (uh H1).size]
  exact Nat.le_refl _
 ·have hk2 : k ≠ b := fun e => hne' (by rw [e]; rfl)
  rw [(uh H2).other k hk2, (uh H1).other k hk2]
  rfl
theorem insGrowV (base : Nat) (ys xs : List Value) (n i b cap gv : Nat) (w : World) (ho : w.ownsRow base 25 5 (.slice (some ⟨b, 0, none⟩) n cap) n xs) (hv : w.heap[gv]? = some (.cells ys.toArray 25 (0, 0))) (hys : ys.length = 5) (h1y : ∀ u ∈ ys, u.oneCell' = true) (h1x : ∀ u ∈ xs, u.oneCell' = true) (hi : i < n) (hroom : cap < n + 1) (hb : (n + 1) * 80 ≤ 140737488355328) (hbase : base ≤ w.heap.size) :
  Calls Tryz.prog 135 #[.slice (some ⟨b, 0, none⟩) n cap, .int .i64 i, .slice (some ⟨gv, 0, none⟩) 1 1] w fun e w' => ∃ v', e = .returned v' ∧ w'.ownsRow base 25 5 v' (n + 1) (xs.take (i * 5) ++ ys ++ xs.drop (i * 5)) ∧ Grew w w' (.slice (some ⟨b, 0, none⟩) n cap) v' := by
 obtain ⟨i0, hi0, hz0, hz1, hz2⟩ := info_parts infoVc
 have hxl := ho.1
 obtain ⟨cur, hg, hle, hm, hcs, htk⟩ : ∃ cur : List Value, w.heap[b]? = some (.cells cur.toArray 25 (0, 0)) ∧ n ≤ cap ∧ cap ≤ maxLen ∧ cur.length = cap * 5 ∧ cur.take (n * 5) = xs := by
  rcases ho.2 with ⟨e, _⟩ | ⟨g, cap', cur, e, hb, hg, hc, hm, hs, ht⟩
  ·cases e
  ·cases e
   exact ⟨cur.toList, by simpa using hg, hc, hm, by simpa using hs, ht⟩
 have hcm : cap ≤ 9223372036854775807 := by unfold maxLen at hm; omega
 have hbl : b < w.heap.size := (Array.getElem?_eq_some_iff.1 hg).1
 have hgl : gv < w.heap.size := (Array.getElem?_eq_some_iff.1 hv).1
 have hti : cur.take (i * 5) = xs.take (i * 5) := by rw [← htk, List.take_take, Nat.min_eq_left (by omega)]
 have hsrc : ∀ (u : World), u.heap[b]? = some (.cells cur.toArray 25 (0, 0)) → ∀ j v, (xs.drop (i * 5))[j]? = some v → u.cell? ((⟨b, i * 5, none⟩ : Addr).add j) = some v := fun u hu j v hj => by
  rw [add_offR, cell_of_row u b _ _ _ (0, 0) hu]
  rw [List.getElem?_drop, ← htk] at hj
  rw [List.getElem?_take] at hj
  split at hj
  ·simpa using hj
  ·cases hj
 have hold : ∀ j v, (xs.take (i * 5))[j]? = some v → w.cell? ((⟨b, 0, none⟩ : Addr).add j) = some v := fun j v hj => by
  rw [add_offR, cell_of_row w b _ _ _ (0, 0) hg]
  rw [← hti, List.getElem?_take] at hj
  split at hj
  ·simpa using hj
  ·cases hj
 have hlt : (xs.take (i * 5)).length = i * 5 := by rw [List.length_take, hxl, Nat.min_eq_left (by omega)]
 have HV := hide hv
 have HP := hide (And.intro hys (And.intro h1y h1x))
 have HG := hide hg
 have HS := hide hsrc
 obtain ⟨os, hos⟩ : ∃ os, xs.take (i * 5) = os := ⟨_, rfl⟩
 rw [hos] at hold hlt
 have HOS := hide (And.intro hos (And.intro hlt hold))
 have HB := hide (And.intro hbase (And.intro hbl (And.intro hgl hxl)))
 have z1 : ¬ ((1 : Int) = 0) := by omega
 have z2 : ¬ ((i : Int) = (n : Int)) := by omega
 have z3 : (cap : Int) < (n : Int) + 1 := by omega
 have i1 : (0 : Int) ≤ (i : Int) := by omega
 have i2 : (i : Int) ≤ (n : Int) := by omega
 have i3 : (i : Int) ≤ (cap : Int) := by omega
 have i9 : ¬ (cap = i) := by omega
 obtain ⟨k, hk⟩ : ∃ k : Nat, (k : Int) = (n : Int) + 1 - (i : Int) := ⟨n + 1 - i, by omega⟩
 have hk0 : 0 < k := by omega
 have hik : i + k = n + 1 := by omega
 have hk' : (n : Int) + 1 - (i : Int) = (k : Int) := hk.symm
 have HK := hide (And.intro hk0 hik)
 clear ho hv hys h1y h1x hg hsrc hbase hcs hti hm htk hold hlt hos hbl hgl hk hk0 hik hxl
 go_enter Tryz.func135, Tryz.ntmps135
 go_upto_region 10 with (first | (at_builtin; refine wpl_zerosR rfl (.tmp 34) (.tmp 39) 22 25 i0 _ 5 80 Tryz.underlying22 hi0 hz0 hz1 hz2 rfl (by omega) rfl b i cap k rfl rfl os (uh HOS).2.1 (uh HOS).2.2 (uh HK).1 (by rw [(uh HK).2]; exact hroom) (by rw [(uh HK).2]; exact hb) (by rw [(uh HK).2]; unfold maxLen; omega) ?_; rw [(uh HK).2]; intro cap' w1 zs hc1 hc2 H1))
 obtain ⟨G, hG⟩ : ∃ G, w.heap.size = G := ⟨_, rfl⟩
 simp only [hG]
 rw [hG] at H1 HB
 have HGG := hide hG
 have neG : b ≠ G := by have := (uh HB).2.1; omega
 have neV : gv ≠ G := by have := (uh HB).2.2.1; omega
 have HV1 : Hid (w1.heap[gv]? = some (.cells ys.toArray 25 (0, 0))) := hide (((uh H1).2.2.1.block gv (uh HB).2.2.1).trans (uh HV))
 have HG1 : Hid (w1.heap[b]? = some (.cells cur.toArray 25 (0, 0))) := hide (((uh H1).2.2.1.block b (uh HB).2.1).trans (uh HG))
 have HF1 : Hid (i * 5 + ys.length ≤ (os ++ zs).length) := hide (by rw [(uh H1).2.1, (uh HP).1]; omega)
 have HL : Hid ((xs.drop (i * 5)).length = (n - i) * 5) := hide (by rw [List.length_drop, (uh HB).2.2.2]; omega)
 have HF2 : Hid ((i + 1) * 5 + (xs.drop (i * 5)).length ≤ (splice (os ++ zs) (i * 5) ys).length) := hide (by rw [length_splice _ _ _ (uh HF1), (uh H1).2.1, uh HL]; omega)
 have H1c : Hid (∀ u ∈ xs.drop (i * 5), u.oneCell' = true) := hide (fun u hu => (uh HP).2.2 u (List.mem_of_mem_drop hu))
 obtain ⟨ds, hds⟩ : ∃ ds, xs.drop (i * 5) = ds := ⟨_, rfl⟩
 rw [hds] at HL HF2 H1c HS
 have HDS := hide hds
 clear hds hG
 have j1 : (i : Int) ≤ (n : Int) + 1 := by omega
 have j2 : (n : Int) + 1 ≤ (cap' : Int) := by omega
 have j3 : ¬ (cap' = i) := by omega
 have j4 : ¬ (cap' = i + 1) := by omega
 have j5 : (0 : Int) ≤ (i : Int) + 1 := by omega
 have j6 : (i : Int) + 1 ≤ (n : Int) + 1 := by omega
 have j7 : ((i : Int) + 1).toNat = i + 1 := by omega
 have j8 : cap' ≤ 9223372036854775807 := by unfold maxLen at hc2; omega
 have hw1 : IntKind.i64.wrap ((i : Int) + 1) = (i : Int) + 1 := by rw [IntKind.wrap_i64]; omega
 have tok1 : True := trivial
 go_upto_region 11 with (first | (have _t := tok1; refine wpl_copyR rfl (.tmp 43) (.tmp 44) 22 22 25 i0 5 rfl Tryz.underlying22 hi0 hz1 G (i * 5) (n + 1 - i) (cap' - i) ⟨gv, 0, none⟩ 1 1 rfl rfl (os ++ zs) 25 (uh H1).1 ys 1 (Nat.min_eq_left (by omega)) (by rw [(uh HP).1]) (fun j u hu => World.news_of_block (uh HV1) j u (by simpa using hu)) (uh HF1) (uh HP).2.1 ?_; intro w2 H2; clear tok1))
 have HG2 : Hid (w2.heap[b]? = some (.cells cur.toArray 25 (0, 0))) := hide (((uh H2).other b neG).trans (uh HG1))
 go_region_held3 (fun _ => True)
  (exact trivial)
  ((refine step_copyR (by rfl) (.tmp 50) (.tmp 53) 22 22 25 i0 5 (by rfl) Tryz.underlying22 hi0 hz1 G ((i + 1) * 5) (n - i) (cap' - (i + 1)) ⟨b, i * 5, none⟩ (n - i) (cap - i) (by rfl) (by rfl) (splice (os ++ zs) (i * 5) ys) 25 (uh H2).here ds (n - i) (Nat.min_eq_right (Nat.le_refl _)) (uh HL) (uh HS _ (uh HG2)) (uh HF2) (uh H1c) ?_; intro w3 H3))
 go_wp2_with fail
 go_ret
 obtain ⟨b1, hlen1, bel1, sz1⟩ := uh H1
 have hti : (os ++ zs).take (i * 5) = xs.take (i * 5) := by
  rw [List.take_append_of_le_length (by rw [(uh HOS).2.1]; exact Nat.le_refl _), List.take_of_length_le (by rw [(uh HOS).2.1]; exact Nat.le_refl _)]
  exact (uh HOS).1.symm
 obtain ⟨hs1, hs2⟩ := splice_in' (os ++ zs) xs ys 5 (n * 5) (i * 5) (uh HB).2.2.2 (uh HP).1 (by omega) (by rw [hlen1]; omega) hti
 have ep : i * 5 + 5 = (i + 1) * 5 := by omega
 have eq : i * 5 = i * 5 := by omega
 have en : n * 5 + 5 = (n + 1) * 5 := by omega
 rw [uh HDS, ep, eq] at hs1 hs2
 rw [en] at hs1
 have hGG := uh HGG
 have hBB := uh HB
 refine ⟨.slice (some ⟨G, 0, none⟩) (n + 1) cap', rfl, ⟨?_, .inr ⟨G, cap', _, rfl, hBB.1, (uh H3).here, hc1, hc2, by rw [List.size_toArray, hs2, hlen1], ?_⟩⟩, ⟨⟨?_, ?_, ?_, ?_, fun k hk hne' => ?_⟩, fun c hc => .inr (by simp only [Value.ownBlock, Option.some.injEq] at hc; omega)⟩⟩
 ·simp only [List.length_append, List.length_take, List.length_drop, hBB.2.2.2, (uh HP).1]
  omega
 ·rw [List.toList_toArray, uh HDS, eq]
  exact hs1
 ·exact (uh H3).os.trans ((uh H2).os.trans bel1.os)
 ·exact (uh H3).tape.trans ((uh H2).tape.trans bel1.tape)
 ·exact (uh H3).output.trans ((uh H2).output.trans bel1.output)
 ·have h3 := (uh H3).size
  have h2 := (uh H2).size
  have h2' : w2.drew.heap.size = w2.heap.size := rfl
  omega
 ·have hk2 : k ≠ G := by omega
  rw [(uh H3).other k hk2]
  show w2.heap[k]? = _
  rw [(uh H2).other k hk2]
  exact bel1.block k (by omega)
theorem insertV (base : Nat) (v : Value) (ys xs : List Value) (n i gv : Nat) (w : World) (ho : w.ownsRow base 25 5 v n xs) (hv : w.heap[gv]? = some (.cells ys.toArray 25 (0, 0))) (hne : v.ownBlock ≠ some gv) (hys : ys.length = 5) (h1y : ∀ u ∈ ys, u.oneCell' = true) (h1x : ∀ u ∈ xs, u.oneCell' = true) (hi : i ≤ n) (hb : (n + 1) * 80 ≤ 140737488355328) (hbase : base ≤ w.heap.size) :
  Calls Tryz.prog 135 #[v, .int .i64 i, .slice (some ⟨gv, 0, none⟩) 1 1] w fun e w' => ∃ v', e = .returned v' ∧ w'.ownsRow base 25 5 v' (n + 1) (xs.take (i * 5) ++ ys ++ xs.drop (i * 5)) ∧ Grew w w' v v' := by
 by_cases hin : i = n
 ·subst hin
  rw [List.take_of_length_le (by rw [ho.1]; exact Nat.le_refl _), List.drop_of_length_le (by rw [ho.1]; exact Nat.le_refl _), List.append_nil]
  exact insEndV base v ys xs i gv w ho hv hys h1y hb hbase
 ·rcases ho.2 with ⟨rfl, hn⟩ | ⟨b, cap, cur, rfl, _⟩
  ·omega
  ·by_cases hroom : n + 1 ≤ cap
   ·exact insShiftV base ys xs n i b cap gv w ho hv (fun e => hne (by rw [e]; rfl)) hys h1y h1x (by omega) hroom
   ·exact insGrowV base ys xs n i b cap gv w ho hv hys h1y h1x (by omega) (by omega) hb hbase
end Go.Proofs.YtgkmdjmigehmeaaGreatDoor
