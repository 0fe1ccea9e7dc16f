/-
  slices.Insert of one pair into a row of the call's own, at any place; no conditions but that the row's bytes are within 2^47.
-/
import Derived.Test.YtdaooapfokhfcaaGreatA06
import Derived.Deep.RegionHeld3
namespace Go.Proofs.YtdaooapfokhfcaaGreat
open Go.RowKit
set_option linter.unusedVariables false
set_option linter.unusedSimpArgs false

theorem infoPU : (Tryz.prog.info? 118).map (fun i => (i.zero, i.size, i.bytes)) = some (some (.agg #[.string ⟨#[]⟩, .nilFunc, .bool false]), 3, 32) := by kernel_rfl

set_option maxRecDepth 100000 in
theorem insEndPU (base : Nat) (v : Value) (ys xs : List Value) (n gv : Nat) (w : World) (ho : w.ownsRow base 118 3 v n xs) (hv : w.heap[gv]? = some (.cells ys.toArray 118 (0, 0))) (hys : ys.length = 3) (h1 : ∀ u ∈ ys, u.oneCell' = true) (hb : (n + 1) * 32 ≤ 140737488355328) (hbase : base ≤ w.heap.size) :
    Calls Tryz.prog 98 #[v, .int .i64 n, .slice (some ⟨gv, 0, none⟩) 1 1] w fun e w' => ∃ v', e = .returned v' ∧ w'.ownsRow base 118 3 v' (n + 1) (xs ++ ys) ∧ Grew w w' v v' := by
  obtain ⟨i0, hi, hz0, hz1, hz2⟩ := info_parts infoPU
  have HO := hide ho
  have HV := hide hv
  have HP := hide (And.intro hys (And.intro h1 (And.intro hb hbase)))
  have HI := hide (And.intro hi (And.intro hz0 (And.intro hz1 hz2)))
  clear hi hz0 hz1 hz2
  rcases ho.2 with ⟨rfl, rfl⟩ | ⟨b, cap, cur, rfl, hbg, hg, hnc, hcm, hcs, htk⟩
  · clear ho hv hys h1 hbase
    go_enter Tryz.func98, Tryz.ntmps98
    go_wp2_with (first | (at_builtin; refine wpl_appR rfl (.tmp 23) (.tmp 24) 110 118 i0 _ 3 32 Tryz.underlying110 (unhide HI).1 (unhide HI).2.1 (unhide HI).2.2.1 (unhide HI).2.2.2 rfl (by omega) rfl base 0 (.slice none 0 0) xs rfl (unhide HO) gv ys rfl (unhide HV) (unhide HP).1 (unhide HP).2.1 (by unfold maxLen; omega) (by omega) (unhide HP).2.2.2 ?_; intro v2 w2 o2))
    go_ret
    exact ⟨_, rfl, (unhide o2).1, (unhide o2).2.grown, (unhide o2).2.row⟩
  · have hmx : cap ≤ 9223372036854775807 := by unfold maxLen at hcm; omega
    have i1 : (0 : Int) ≤ (n : Int) := by omega
    have i2 : (n : Int) ≤ (cap : Int) := by omega
    have i3 : (n : Int) ≤ (n : Int) := by omega
    clear ho hv hys h1 hbase hg hcs htk hbg hcm
    go_enter Tryz.func98, Tryz.ntmps98
    go_wp2_with (first | (at_builtin; refine wpl_appR rfl (.tmp 23) (.tmp 24) 110 118 i0 _ 3 32 Tryz.underlying110 (unhide HI).1 (unhide HI).2.1 (unhide HI).2.2.1 (unhide HI).2.2.2 rfl (by omega) rfl base n (.slice (some ⟨b, 0, none⟩) n cap) xs rfl (unhide HO) gv ys rfl (unhide HV) (unhide HP).1 (unhide HP).2.1 (by unfold maxLen; omega) (by omega) (unhide HP).2.2.2 ?_; intro v2 w2 o2))
    all_goals (go_ret; exact ⟨_, rfl, (unhide o2).1, (unhide o2).2.grown, (unhide o2).2.row⟩)

theorem sizePU (w : World) : (Go.sizeOf 118).run Tryz.prog w = .ok 3 w := Tryz.sizeOf118 w

set_option maxRecDepth 100000 in
set_option maxHeartbeats 1000000 in
theorem insShiftPU (base : Nat) (ys xs : List Value) (n i b cap gv : Nat) (w : World) (ho : w.ownsRow base 118 3 (.slice (some ⟨b, 0, none⟩) n cap) n xs) (hv : w.heap[gv]? = some (.cells ys.toArray 118 (0, 0))) (hne : gv ≠ b) (hys : ys.length = 3) (h1y : ∀ u ∈ ys, u.oneCell' = true) (h1x : ∀ u ∈ xs, u.oneCell' = true) (hi : i < n) (hroom : n + 1 ≤ cap) :
    Calls Tryz.prog 98 #[.slice (some ⟨b, 0, none⟩) n cap, .int .i64 i, .slice (some ⟨gv, 0, none⟩) 1 1] w fun e w' => ∃ v', e = .returned v' ∧ w'.ownsRow base 118 3 v' (n + 1) (xs.take (i * 3) ++ ys ++ xs.drop (i * 3)) ∧ Grew w w' (.slice (some ⟨b, 0, none⟩) n cap) v' := by
  obtain ⟨i0, hi0, hz0, hz1, hz2⟩ := info_parts infoPU
  have hxl := ho.1
  obtain ⟨cur, hbase, hg, hm, hcs, htk⟩ : ∃ cur : List Value, base ≤ b ∧ w.heap[b]? = some (.cells cur.toArray 118 (0, 0)) ∧ cap ≤ maxLen ∧ cur.length = cap * 3 ∧ cur.take (n * 3) = xs := by
    rcases ho.2 with ⟨e, _⟩ | ⟨g, cap', cur, e, hb, hg, hc, hm, hs, ht⟩
    · cases e
    · cases e
      exact ⟨cur.toList, hb, by simpa using hg, hm, by simpa using hs, ht⟩
  have hcm : cap ≤ 9223372036854775807 := by unfold maxLen at hm; omega
  have hti : cur.take (i * 3) = xs.take (i * 3) := by rw [← htk, List.take_take, Nat.min_eq_left (by omega)]
  have hsrc : ∀ (u : World), u.heap[b]? = some (.cells cur.toArray 118 (0, 0)) → ∀ j v, (xs.drop (i * 3))[j]? = some v → u.cell? ((⟨b, i * 3, none⟩ : Addr).add j) = some v := fun u hu j v hj => by
    rw [add_offR, cell_of_row u b _ _ _ (0, 0) hu]
    rw [List.getElem?_drop, ← htk] at hj
    rw [List.getElem?_take] at hj
    split at hj
    · simpa using hj
    · cases hj
  have hov : ∀ lb cb, (callFunc 111 #[.slice (some ⟨gv, 0, none⟩) 1 1, .slice (some ⟨b, (i + 1) * 3, none⟩) lb cb]).run Tryz.prog w = .ok (.value (.bool false)) w := fun lb cb => by
    rw [run_callFunc_extern Tryz.func111 (by kernel_rfl) (by kernel_rfl) (by kernel_rfl) (e := Extern.SlicesOverlaps.overlaps #[110, 110] #[4]) (by kernel_rfl),
      Lib.run_overlaps_apart w 110 4 118 Tryz.underlying110 3 sizePU ⟨gv, 0, none⟩ ⟨b, (i + 1) * 3, none⟩ 1 1 lb cb hne 118 118 3 (cap * 3) (by simp [World.shape?, hv, hys]) (by simp [World.shape?, hg, hcs]) (by omega) (frozen_of_row w gv 0 _ _ hv) (frozen_of_row w gv 3 _ _ hv)]
    rfl
  have HO := hide ho
  have HV := hide hv
  have HP := hide (And.intro hys (And.intro h1y h1x))
  have HG := hide hg
  have HS := hide hsrc
  have HC := hide (And.intro hbase (And.intro hcs (And.intro hti (And.intro hm hxl))))
  have z1 : ¬ ((1 : Int) = 0) := by omega
  have z2 : ¬ ((i : Int) = (n : Int)) := by omega
  have z3 : ¬ (cap : Int) < (n : Int) + 1 := by omega
  have i1 : (0 : Int) ≤ (i : Int) := by omega
  have i2 : (i : Int) ≤ (n : Int) := by omega
  have i3 : (n : Int) + 1 ≤ (cap : Int) := by omega
  have i4 : (0 : Int) ≤ (i : Int) + 1 := by omega
  have i5 : (i : Int) + 1 ≤ (n : Int) + 1 := by omega
  have i6 : (i : Int) ≤ (n : Int) + 1 := by omega
  have i7 : ((i : Int) + 1).toNat = i + 1 := by omega
  have i8 : ((n : Int) + 1).toNat = n + 1 := by omega
  have i9 : ¬ (cap = i + 1) := by omega
  have i10 : ¬ (cap = i) := by omega
  clear ho hv hys h1y h1x hg hsrc hbase hcs hti hm htk hxl
  go_enter Tryz.func98, Tryz.ntmps98
  go_wp2_with (simp only [hov])
  have hw1 : IntKind.i64.wrap ((i : Int) + 1) = (i : Int) + 1 := by rw [IntKind.wrap_i64]; omega
  have HL : Hid ((xs.drop (i * 3)).length = (n - i) * 3) := hide (by rw [List.length_drop, (unhide HC).2.2.2.2]; omega)
  have HF : Hid ((i + 1) * 3 + (xs.drop (i * 3)).length ≤ cur.length) := hide (by have := (unhide HC).2.1; rw [unhide HL]; omega)
  have H1c : Hid (∀ u ∈ xs.drop (i * 3), u.oneCell' = true) := hide (fun u hu => (unhide HP).2.2 u (List.mem_of_mem_drop hu))
  obtain ⟨ds, hds⟩ : ∃ ds, xs.drop (i * 3) = ds := ⟨_, rfl⟩
  rw [hds] at HL HF H1c HS
  have HDS := hide hds
  clear hds hov
  go_region_held3 (fun _ => True)
    (exact trivial)
    ((refine step_copyR (by rfl) (.tmp 73) (.tmp 76) 110 110 118 i0 3 (by rfl) Tryz.underlying110 hi0 hz1 b ((i + 1) * 3) (n - i) (cap - (i + 1)) ⟨b, i * 3, none⟩ (n + 1 - i) (cap - i) (by rfl) (by rfl) cur 118 (unhide HG) ds (n - i) (Nat.min_eq_right (by omega)) (unhide HL) (unhide HS _ (unhide HG)) (unhide HF) (unhide H1c) ?_; intro w1 H1))
  have HV1 : Hid (w1.heap[gv]? = some (.cells ys.toArray 118 (0, 0))) := hide (((unhide H1).other gv hne).trans (unhide HV))
  have HF1 : Hid (i * 3 + ys.length ≤ (splice cur ((i + 1) * 3) ds).length) := hide (by rw [length_splice _ _ _ (unhide HF)]; have := (unhide HC).2.1; rw [(unhide HP).1]; omega)
  have tok1 : True := trivial
  go_wp2_with (first | (have _t := tok1; refine wpl_copyR rfl (.tmp 80) (.tmp 81) 110 110 118 i0 3 rfl Tryz.underlying110 hi0 hz1 b (i * 3) (n + 1 - i) (cap - i) ⟨gv, 0, none⟩ 1 1 rfl rfl (splice cur ((i + 1) * 3) ds) 118 (unhide H1).here ys 1 (Nat.min_eq_left (by omega)) (by rw [(unhide HP).1]) (fun j u hu => World.news_of_block (unhide HV1) j u (by simpa using hu)) (unhide HF1) (unhide HP).2.1 ?_; intro w2 H2; clear tok1))
  go_ret
  obtain ⟨hbase, hcs, hti, hm, hxl⟩ := unhide HC
  obtain ⟨hs1, hs2⟩ := splice_in cur xs ys 3 (n * 3) (i * 3) hxl (unhide HP).1 (by omega) (by omega) hti
  have ep : i * 3 + 3 = (i + 1) * 3 := by omega
  have eq : i * 3 = i * 3 := by omega
  rw [unhide HDS, ep, eq] at hs1 hs2
  have en : n * 3 + 3 = (n + 1) * 3 := by omega
  rw [en] at hs1
  have H2h := (unhide H2).here
  refine ⟨.slice (some ⟨b, 0, none⟩) (n + 1) cap, rfl, ⟨?_, .inr ⟨b, cap, _, rfl, hbase, H2h, hroom, hm, by simp [hs2, hcs], ?_⟩⟩, ⟨⟨?_, ?_, ?_, ?_, fun k hk hne' => ?_⟩, fun c hc => .inl hc⟩⟩
  · simp only [List.length_append, List.length_take, List.length_drop, hxl, (unhide HP).1]
    omega
  · rw [List.toList_toArray, unhide HDS, eq]
    exact hs1
  · exact (unhide H2).os.trans (unhide H1).os
  · exact (unhide H2).tape.trans (unhide H1).tape
  · exact (unhide H2).output.trans (unhide H1).output
  · rw [(unhide H2).size, (unhide H1).size]
    exact Nat.le_refl _
  · have hk2 : k ≠ b := fun e => hne' (by rw [e]; rfl)
    rw [(unhide H2).other k hk2, (unhide H1).other k hk2]
    rfl
set_option maxRecDepth 100000 in
set_option maxHeartbeats 1000000 in
theorem insGrowPU (base : Nat) (ys xs : List Value) (n i b cap gv : Nat) (w : World) (ho : w.ownsRow base 118 3 (.slice (some ⟨b, 0, none⟩) n cap) n xs) (hv : w.heap[gv]? = some (.cells ys.toArray 118 (0, 0))) (hys : ys.length = 3) (h1y : ∀ u ∈ ys, u.oneCell' = true) (h1x : ∀ u ∈ xs, u.oneCell' = true) (hi : i < n) (hroom : cap < n + 1) (hb : (n + 1) * 32 ≤ 140737488355328) (hbase : base ≤ w.heap.size) :
    Calls Tryz.prog 98 #[.slice (some ⟨b, 0, none⟩) n cap, .int .i64 i, .slice (some ⟨gv, 0, none⟩) 1 1] w fun e w' => ∃ v', e = .returned v' ∧ w'.ownsRow base 118 3 v' (n + 1) (xs.take (i * 3) ++ ys ++ xs.drop (i * 3)) ∧ Grew w w' (.slice (some ⟨b, 0, none⟩) n cap) v' := by
  obtain ⟨i0, hi0, hz0, hz1, hz2⟩ := info_parts infoPU
  have hxl := ho.1
  obtain ⟨cur, hg, hle, hm, hcs, htk⟩ : ∃ cur : List Value, w.heap[b]? = some (.cells cur.toArray 118 (0, 0)) ∧ n ≤ cap ∧ cap ≤ maxLen ∧ cur.length = cap * 3 ∧ cur.take (n * 3) = xs := by
    rcases ho.2 with ⟨e, _⟩ | ⟨g, cap', cur, e, hb, hg, hc, hm, hs, ht⟩
    · cases e
    · cases e
      exact ⟨cur.toList, by simpa using hg, hc, hm, by simpa using hs, ht⟩
  have hcm : cap ≤ 9223372036854775807 := by unfold maxLen at hm; omega
  have hbl : b < w.heap.size := (Array.getElem?_eq_some_iff.1 hg).1
  have hgl : gv < w.heap.size := (Array.getElem?_eq_some_iff.1 hv).1
  have hti : cur.take (i * 3) = xs.take (i * 3) := by rw [← htk, List.take_take, Nat.min_eq_left (by omega)]
  have hsrc : ∀ (u : World), u.heap[b]? = some (.cells cur.toArray 118 (0, 0)) → ∀ j v, (xs.drop (i * 3))[j]? = some v → u.cell? ((⟨b, i * 3, none⟩ : Addr).add j) = some v := fun u hu j v hj => by
    rw [add_offR, cell_of_row u b _ _ _ (0, 0) hu]
    rw [List.getElem?_drop, ← htk] at hj
    rw [List.getElem?_take] at hj
    split at hj
    · simpa using hj
    · cases hj
  have hold : ∀ j v, (xs.take (i * 3))[j]? = some v → w.cell? ((⟨b, 0, none⟩ : Addr).add j) = some v := fun j v hj => by
    rw [add_offR, cell_of_row w b _ _ _ (0, 0) hg]
    rw [← hti, List.getElem?_take] at hj
    split at hj
    · simpa using hj
    · cases hj
  have hlt : (xs.take (i * 3)).length = i * 3 := by rw [List.length_take, hxl, Nat.min_eq_left (by omega)]
  have HV := hide hv
  have HP := hide (And.intro hys (And.intro h1y h1x))
  have HG := hide hg
  have HS := hide hsrc
  obtain ⟨os, hos⟩ : ∃ os, xs.take (i * 3) = os := ⟨_, rfl⟩
  rw [hos] at hold hlt
  have HOS := hide (And.intro hos (And.intro hlt hold))
  have HB := hide (And.intro hbase (And.intro hbl (And.intro hgl hxl)))
  have z1 : ¬ ((1 : Int) = 0) := by omega
  have z2 : ¬ ((i : Int) = (n : Int)) := by omega
  have z3 : (cap : Int) < (n : Int) + 1 := by omega
  have i1 : (0 : Int) ≤ (i : Int) := by omega
  have i2 : (i : Int) ≤ (n : Int) := by omega
  have i3 : (i : Int) ≤ (cap : Int) := by omega
  have i9 : ¬ (cap = i) := by omega
  obtain ⟨k, hk⟩ : ∃ k : Nat, (k : Int) = (n : Int) + 1 - (i : Int) := ⟨n + 1 - i, by omega⟩
  have hk0 : 0 < k := by omega
  have hik : i + k = n + 1 := by omega
  have hk' : (n : Int) + 1 - (i : Int) = (k : Int) := hk.symm
  have HK := hide (And.intro hk0 hik)
  clear ho hv hys h1y h1x hg hsrc hbase hcs hti hm htk hold hlt hos hbl hgl hk hk0 hik hxl
  go_enter Tryz.func98, Tryz.ntmps98
  go_upto_region 10 with (first | (at_builtin; refine wpl_zerosR rfl (.tmp 34) (.tmp 39) 110 118 i0 _ 3 32 Tryz.underlying110 hi0 hz0 hz1 hz2 rfl (by omega) rfl b i cap k rfl rfl os (unhide HOS).2.1 (unhide HOS).2.2 (unhide HK).1 (by rw [(unhide HK).2]; exact hroom) (by rw [(unhide HK).2]; exact hb) (by rw [(unhide HK).2]; unfold maxLen; omega) ?_; rw [(unhide HK).2]; intro cap' w1 zs hc1 hc2 H1))
  obtain ⟨G, hG⟩ : ∃ G, w.heap.size = G := ⟨_, rfl⟩
  simp only [hG]
  rw [hG] at H1 HB
  have HGG := hide hG
  have neG : b ≠ G := by have := (unhide HB).2.1; omega
  have neV : gv ≠ G := by have := (unhide HB).2.2.1; omega
  have HV1 : Hid (w1.heap[gv]? = some (.cells ys.toArray 118 (0, 0))) := hide (((unhide H1).2.2.1.block gv (unhide HB).2.2.1).trans (unhide HV))
  have HG1 : Hid (w1.heap[b]? = some (.cells cur.toArray 118 (0, 0))) := hide (((unhide H1).2.2.1.block b (unhide HB).2.1).trans (unhide HG))
  have HF1 : Hid (i * 3 + ys.length ≤ (os ++ zs).length) := hide (by rw [(unhide H1).2.1, (unhide HP).1]; omega)
  have HL : Hid ((xs.drop (i * 3)).length = (n - i) * 3) := hide (by rw [List.length_drop, (unhide HB).2.2.2]; omega)
  have HF2 : Hid ((i + 1) * 3 + (xs.drop (i * 3)).length ≤ (splice (os ++ zs) (i * 3) ys).length) := hide (by rw [length_splice _ _ _ (unhide HF1), (unhide H1).2.1, unhide HL]; omega)
  have H1c : Hid (∀ u ∈ xs.drop (i * 3), u.oneCell' = true) := hide (fun u hu => (unhide HP).2.2 u (List.mem_of_mem_drop hu))
  obtain ⟨ds, hds⟩ : ∃ ds, xs.drop (i * 3) = ds := ⟨_, rfl⟩
  rw [hds] at HL HF2 H1c HS
  have HDS := hide hds
  clear hds hG
  have j1 : (i : Int) ≤ (n : Int) + 1 := by omega
  have j2 : (n : Int) + 1 ≤ (cap' : Int) := by omega
  have j3 : ¬ (cap' = i) := by omega
  have j4 : ¬ (cap' = i + 1) := by omega
  have j5 : (0 : Int) ≤ (i : Int) + 1 := by omega
  have j6 : (i : Int) + 1 ≤ (n : Int) + 1 := by omega
  have j7 : ((i : Int) + 1).toNat = i + 1 := by omega
  have j8 : cap' ≤ 9223372036854775807 := by unfold maxLen at hc2; omega
  have hw1 : IntKind.i64.wrap ((i : Int) + 1) = (i : Int) + 1 := by rw [IntKind.wrap_i64]; omega
  have tok1 : True := trivial
  go_upto_region 11 with (first | (have _t := tok1; refine wpl_copyR rfl (.tmp 43) (.tmp 44) 110 110 118 i0 3 rfl Tryz.underlying110 hi0 hz1 G (i * 3) (n + 1 - i) (cap' - i) ⟨gv, 0, none⟩ 1 1 rfl rfl (os ++ zs) 118 (unhide H1).1 ys 1 (Nat.min_eq_left (by omega)) (by rw [(unhide HP).1]) (fun j u hu => World.news_of_block (unhide HV1) j u (by simpa using hu)) (unhide HF1) (unhide HP).2.1 ?_; intro w2 H2; clear tok1))
  have HG2 : Hid (w2.heap[b]? = some (.cells cur.toArray 118 (0, 0))) := hide (((unhide H2).other b neG).trans (unhide HG1))
  go_region_held3 (fun _ => True)
    (exact trivial)
    ((refine step_copyR (by rfl) (.tmp 50) (.tmp 53) 110 110 118 i0 3 (by rfl) Tryz.underlying110 hi0 hz1 G ((i + 1) * 3) (n - i) (cap' - (i + 1)) ⟨b, i * 3, none⟩ (n - i) (cap - i) (by rfl) (by rfl) (splice (os ++ zs) (i * 3) ys) 118 (unhide H2).here ds (n - i) (Nat.min_eq_right (Nat.le_refl _)) (unhide HL) (unhide HS _ (unhide HG2)) (unhide HF2) (unhide H1c) ?_; intro w3 H3))
  go_wp2_with fail
  go_ret
  obtain ⟨b1, hlen1, bel1, sz1⟩ := unhide H1
  have hti : (os ++ zs).take (i * 3) = xs.take (i * 3) := by
    rw [List.take_append_of_le_length (by rw [(unhide HOS).2.1]; exact Nat.le_refl _), List.take_of_length_le (by rw [(unhide HOS).2.1]; exact Nat.le_refl _)]
    exact (unhide HOS).1.symm
  obtain ⟨hs1, hs2⟩ := splice_in' (os ++ zs) xs ys 3 (n * 3) (i * 3) (unhide HB).2.2.2 (unhide HP).1 (by omega) (by rw [hlen1]; omega) hti
  have ep : i * 3 + 3 = (i + 1) * 3 := by omega
  have eq : i * 3 = i * 3 := by omega
  have en : n * 3 + 3 = (n + 1) * 3 := by omega
  rw [unhide HDS, ep, eq] at hs1 hs2
  rw [en] at hs1
  have hGG := unhide HGG
  have hBB := unhide HB
  refine ⟨.slice (some ⟨G, 0, none⟩) (n + 1) cap', rfl, ⟨?_, .inr ⟨G, cap', _, rfl, hBB.1, (unhide H3).here, hc1, hc2, by rw [List.size_toArray, hs2, hlen1], ?_⟩⟩, ⟨⟨?_, ?_, ?_, ?_, fun k hk hne' => ?_⟩, fun c hc => .inr (by simp only [Value.ownBlock, Option.some.injEq] at hc; omega)⟩⟩
  · simp only [List.length_append, List.length_take, List.length_drop, hBB.2.2.2, (unhide HP).1]
    omega
  · rw [List.toList_toArray, unhide HDS, eq]
    exact hs1
  · exact (unhide H3).os.trans ((unhide H2).os.trans bel1.os)
  · exact (unhide H3).tape.trans ((unhide H2).tape.trans bel1.tape)
  · exact (unhide H3).output.trans ((unhide H2).output.trans bel1.output)
  · have h3 := (unhide H3).size
    have h2 := (unhide H2).size
    have h2' : w2.drew.heap.size = w2.heap.size := rfl
    omega
  · have hk2 : k ≠ G := by omega
    rw [(unhide H3).other k hk2]
    show w2.heap[k]? = _
    rw [(unhide H2).other k hk2]
    exact bel1.block k (by omega)

/-- Insert of one at any place -/
theorem insertPU (base : Nat) (v : Value) (ys xs : List Value) (n i gv : Nat) (w : World) (ho : w.ownsRow base 118 3 v n xs) (hv : w.heap[gv]? = some (.cells ys.toArray 118 (0, 0))) (hne : v.ownBlock ≠ some gv) (hys : ys.length = 3) (h1y : ∀ u ∈ ys, u.oneCell' = true) (h1x : ∀ u ∈ xs, u.oneCell' = true) (hi : i ≤ n) (hb : (n + 1) * 32 ≤ 140737488355328) (hbase : base ≤ w.heap.size) :
    Calls Tryz.prog 98 #[v, .int .i64 i, .slice (some ⟨gv, 0, none⟩) 1 1] w fun e w' => ∃ v', e = .returned v' ∧ w'.ownsRow base 118 3 v' (n + 1) (xs.take (i * 3) ++ ys ++ xs.drop (i * 3)) ∧ Grew w w' v v' := by
  by_cases hin : i = n
  · subst hin
    rw [List.take_of_length_le (by rw [ho.1]; exact Nat.le_refl _), List.drop_of_length_le (by rw [ho.1]; exact Nat.le_refl _), List.append_nil]
    exact insEndPU base v ys xs i gv w ho hv hys h1y hb hbase
  · rcases ho.2 with ⟨rfl, hn⟩ | ⟨b, cap, cur, rfl, _⟩
    · omega
    · by_cases hroom : n + 1 ≤ cap
      · exact insShiftPU base ys xs n i b cap gv w ho hv (fun e => hne (by rw [e]; rfl)) hys h1y h1x (by omega) hroom
      · exact insGrowPU base ys xs n i b cap gv w ho hv hys h1y h1x (by omega) (by omega) hb hbase
end Go.Proofs.YtdaooapfokhfcaaGreat
