/-
  slices.Insert of one whole number into a row of the call's own that may begin within its block, at any place; no conditions but that the row's bytes are within 2^47.
-/
import Derived.Test.YtmnbfcpkaglniaaGreatDoorS20
set_option linter.unusedVariables false
set_option linter.unusedSimpArgs false
namespace Go.Proofs.YtmnbfcpkaglniaaGreatDoor
open Go.RowKit
set_option linter.unusedVariables false
set_option linter.unusedSimpArgs false
set_option maxRecDepth 100000 in
theorem insEndO (base : Nat) (v : Value) (xs : List Int) (n : Nat) (z : Int) (gv : Nat) (w : World) (hn : xs.length = n) (ho : Off w base v xs) (hv : w.heap[gv]? = some (.cells #[.int .i64 z] 3 (0, 0))) (hb : (n + 1) * 8 ≤ 140737488355328) (hbase : base ≤ w.heap.size) :
    Calls Tryz.prog 171 #[v, .int .i64 n, .slice (some ⟨gv, 0, none⟩) 1 1] w fun e w' => ∃ v', e = .returned v' ∧ Off w' base v' (xs ++ [z]) ∧ Grew w w' v v' := by
  have HO := hide ho
  have HV := hide hv
  have HP := hide (And.intro hn hbase)
  rcases ho with ⟨rfl, rfl⟩ | ⟨b, o, cap, cur, rfl, hbg, hg, hnc, hcs, hcm, htk⟩
  · obtain rfl : n = 0 := by simpa using hn.symm
    clear hv hbase hn
    go_enter Tryz.func171, Tryz.ntmps171
    go_wp2_with (first | (at_builtin; refine wpl_appO rfl (.tmp 23) (.tmp 24) 172 Tryz.underlying172 rfl base (.slice none 0 0) [] z gv rfl rfl (unhide HO) (unhide HV) (by simp) (unhide HP).2 ?_; intro v2 w2 o2))
    go_ret
    exact ⟨_, rfl, (unhide o2).1, (unhide o2).2⟩
  · have HN := hide hn
    rw [hn] at HO hnc ⊢
    have hmx : cap ≤ 9223372036854775807 := by unfold maxLen at hcm; omega
    have i1 : (0 : Int) ≤ (n : Int) := by omega
    have i2 : (n : Int) ≤ (cap : Int) := by omega
    have i3 : (n : Int) ≤ (n : Int) := by omega
    clear hv hbase hg hcs htk hbg hcm hn
    go_enter Tryz.func171, Tryz.ntmps171
    go_wp2_with (first | (at_builtin; refine wpl_appO rfl (.tmp 23) (.tmp 24) 172 Tryz.underlying172 rfl base (.slice (some ⟨b, o, none⟩) n cap) xs z gv rfl rfl (unhide HO) (unhide HV) (by rw [unhide HN]; exact hb) (unhide HP).2 ?_; intro v2 w2 o2))
    all_goals (go_ret; exact ⟨_, rfl, (unhide o2).1, (unhide o2).2.grown, (unhide o2).2.row⟩)
theorem sizeRI (w : World) : (Go.sizeOf 3).run Tryz.prog w = .ok 1 w := Tryz.sizeOf3 w
set_option maxRecDepth 100000 in
set_option maxHeartbeats 1000000 in
theorem insShiftO (base : Nat) (xs : List Int) (z : Int) (n i b o cap gv : Nat) (w : World) (hn : xs.length = n) (ho : Off w base (.slice (some ⟨b, o, none⟩) n cap) xs) (hv : w.heap[gv]? = some (.cells #[.int .i64 z] 3 (0, 0))) (hne : gv ≠ b) (hi : i < n) (hroom : n + 1 ≤ cap) :
    Calls Tryz.prog 171 #[.slice (some ⟨b, o, none⟩) n cap, .int .i64 i, .slice (some ⟨gv, 0, none⟩) 1 1] w fun e w' => ∃ v', e = .returned v' ∧ Off w' base v' (xs.take i ++ z :: xs.drop i) ∧ Grew w w' (.slice (some ⟨b, o, none⟩) n cap) v' := by
  obtain ⟨i0, hi0, hz0, hz1, hz2⟩ := info_parts infoInt
  obtain ⟨cur, hbase, hg, hcs, hm, htk⟩ : ∃ cur : List Value, base ≤ b ∧ w.heap[b]? = some (.cells cur.toArray 3 (0, 0)) ∧ o + cap ≤ cur.length ∧ cap ≤ maxLen ∧ (cur.drop o).take n = xs.map (Value.int .i64) := by
    rcases ho with ⟨e, _⟩ | ⟨g, o', cap', cur, e, hb, hg, hc, hs, hm, ht⟩
    · cases e
    · cases e
      exact ⟨cur, hb, hg, hs, hm, by rw [← hn]; exact ht⟩
  have hcm : cap ≤ 9223372036854775807 := by unfold maxLen at hm; omega
  obtain ⟨ys, hys⟩ : ∃ ys, xs.map (Value.int .i64) = ys := ⟨_, rfl⟩
  have hyl : ys.length = n := by rw [← hys, List.length_map, hn]
  have hy1 : ∀ u ∈ ys, u.oneCell' = true := by rw [← hys]; exact ints_one xs
  rw [hys] at htk
  have hti : (cur.drop o).take i = ys.take i := by rw [← htk, List.take_take, Nat.min_eq_left (by omega)]
  have hsrc : ∀ (u : World), u.heap[b]? = some (.cells cur.toArray 3 (0, 0)) → ∀ j v, (ys.drop i)[j]? = some v → u.cell? ((⟨b, o + i, none⟩ : Addr).add j) = some v := fun u hu j v hj => by
    rw [add_offR, cell_of_row u b _ _ _ (0, 0) hu]
    rw [List.getElem?_drop, ← htk] at hj
    rw [List.getElem?_take] at hj
    split at hj
    · rw [List.getElem?_drop, ← Nat.add_assoc] at hj
      simpa using hj
    · cases hj
  have hov : ∀ lb cb, (callFunc 203 #[.slice (some ⟨gv, 0, none⟩) 1 1, .slice (some ⟨b, o + (i + 1), none⟩) lb cb]).run Tryz.prog w = .ok (.value (.bool false)) w := fun lb cb => by
    rw [run_callFunc_extern Tryz.func203 (by kernel_rfl) (by kernel_rfl) (by kernel_rfl) (e := Extern.SlicesOverlaps.overlaps #[172, 172] #[4]) (by kernel_rfl),
      Lib.run_overlaps_apart w 172 4 3 Tryz.underlying172 1 sizeRI ⟨gv, 0, none⟩ ⟨b, o + (i + 1), none⟩ 1 1 lb cb hne 3 3 1 cur.length (by simp [World.shape?, hv]) (by simp [World.shape?, hg]) (by omega) (frozen_of_row w gv 0 _ _ hv) (frozen_of_row w gv 1 _ _ hv)]
    rfl
  have HV := hide hv
  have HP := hide (And.intro hyl (And.intro hy1 hys))
  have HG := hide hg
  have HS := hide hsrc
  have HC := hide (And.intro hbase (And.intro hcs (And.intro hti (And.intro hm hn))))
  have z1 : ¬ ((1 : Int) = 0) := by omega
  have z2 : ¬ ((i : Int) = (n : Int)) := by omega
  have z3 : ¬ (cap : Int) < (n : Int) + 1 := by omega
  have i1 : (0 : Int) ≤ (i : Int) := by omega
  have i2 : (i : Int) ≤ (n : Int) := by omega
  have i3 : (n : Int) + 1 ≤ (cap : Int) := by omega
  have i4 : (0 : Int) ≤ (i : Int) + 1 := by omega
  have i5 : (i : Int) + 1 ≤ (n : Int) + 1 := by omega
  have i6 : (i : Int) ≤ (n : Int) + 1 := by omega
  have i7 : ((i : Int) + 1).toNat = i + 1 := by omega
  have i8 : ((n : Int) + 1).toNat = n + 1 := by omega
  have i9 : ¬ (cap = i + 1) := by omega
  have i10 : ¬ (cap = i) := by omega
  clear ho hv hyl hy1 hys hg hsrc hbase hcs hti hm htk hn
  go_enter Tryz.func171, Tryz.ntmps171
  go_wp2_with (simp only [hov])
  have hw1 : IntKind.i64.wrap ((i : Int) + 1) = (i : Int) + 1 := by rw [IntKind.wrap_i64]; omega
  have HL : Hid ((ys.drop i).length = (n - i) * 1) := hide (by rw [List.length_drop, (unhide HP).1]; omega)
  have HF : Hid (o + (i + 1) + (ys.drop i).length ≤ cur.length) := hide (by have := (unhide HC).2.1; rw [unhide HL]; omega)
  have H1c : Hid (∀ u ∈ ys.drop i, u.oneCell' = true) := hide (fun u hu => (unhide HP).2.1 u (List.mem_of_mem_drop hu))
  obtain ⟨ds, hds⟩ : ∃ ds, ys.drop i = ds := ⟨_, rfl⟩
  rw [hds] at HL HF H1c HS
  have HDS := hide hds
  clear hds hov
  go_region_held3 (fun _ => True)
    (exact trivial)
    ((refine step_copyR (by rfl) (.tmp 73) (.tmp 76) 172 172 3 i0 1 (by rfl) Tryz.underlying172 hi0 hz1 b (o + (i + 1)) (n - i) (cap - (i + 1)) ⟨b, o + i, none⟩ (n + 1 - i) (cap - i) (by rfl) (by rfl) cur 3 (unhide HG) ds (n - i) (Nat.min_eq_right (by omega)) (unhide HL) (unhide HS _ (unhide HG)) (unhide HF) (unhide H1c) ?_; intro w1 H1))
  have HV1 : Hid (w1.heap[gv]? = some (.cells #[.int .i64 z] 3 (0, 0))) := hide (((unhide H1).other gv hne).trans (unhide HV))
  have HF1 : Hid (o + i + [Value.int .i64 z].length ≤ (splice cur (o + (i + 1)) ds).length) := hide (by rw [length_splice _ _ _ (unhide HF)]; have := (unhide HC).2.1; simp; omega)
  have tok1 : True := trivial
  go_wp2_with (first | (have _t := tok1; refine wpl_copyR rfl (.tmp 80) (.tmp 81) 172 172 3 i0 1 rfl Tryz.underlying172 hi0 hz1 b (o + i) (n + 1 - i) (cap - i) ⟨gv, 0, none⟩ 1 1 rfl rfl (splice cur (o + (i + 1)) ds) 3 (unhide H1).here [Value.int .i64 z] 1 (Nat.min_eq_left (by omega)) rfl (fun j u hu => World.news_of_block (unhide HV1) j u (by simpa using hu)) (unhide HF1) (by simp [Value.oneCell']) ?_; intro w2 H2; clear tok1))
  go_ret
  obtain ⟨hbase, hcs, hti, hm, hn⟩ := unhide HC
  obtain ⟨hyl, hy1, hys⟩ := unhide HP
  have hcd : n + 1 ≤ (cur.drop o).length := by rw [List.length_drop]; omega
  obtain ⟨hs1, hs2⟩ := splice_in (cur.drop o) ys [Value.int .i64 z] 1 n i hyl rfl (by omega) hcd hti
  rw [unhide HDS] at hs1 hs2
  have e1 : (splice (splice cur (o + (i + 1)) ds) (o + i) [Value.int .i64 z]).drop o = splice (splice (cur.drop o) (i + 1) ds) i [Value.int .i64 z] := by
    rw [drop_splice _ _ _ _ (by have := unhide HF1; simp at this; omega), drop_splice _ _ _ _ (by have := unhide HF; omega)]
  have H2h := (unhide H2).here
  have hlen : (xs.take i ++ z :: xs.drop i).length = n + 1 := by simp only [List.length_append, List.length_take, List.length_cons, List.length_drop, hn]; omega
  refine ⟨.slice (some ⟨b, o, none⟩) (n + 1) cap, rfl, .inr ⟨b, o, cap, _, by rw [hlen], hbase, H2h, by rw [hlen]; exact hroom, ?_, hm, ?_⟩, ⟨⟨?_, ?_, ?_, ?_, fun k hk hne' => ?_⟩, fun c hc => .inl hc⟩⟩
  · rw [length_splice _ _ _ (unhide HF1), length_splice _ _ _ (unhide HF)]
    exact hcs
  · rw [hlen, e1, hs1, ← hys, ← unhide HDS, ← hys]
    simp [List.map_take, List.map_drop]
  · exact (unhide H2).os.trans (unhide H1).os
  · exact (unhide H2).tape.trans (unhide H1).tape
  · exact (unhide H2).output.trans (unhide H1).output
  · rw [(unhide H2).size, (unhide H1).size]
    exact Nat.le_refl _
  · have hk2 : k ≠ b := fun e => hne' (by rw [e]; rfl)
    rw [(unhide H2).other k hk2, (unhide H1).other k hk2]
    rfl
set_option maxRecDepth 100000 in
set_option maxHeartbeats 1000000 in
theorem insGrowO (base : Nat) (xs : List Int) (z : Int) (n i b o cap gv : Nat) (w : World) (hn : xs.length = n) (ho : Off w base (.slice (some ⟨b, o, none⟩) n cap) xs) (hv : w.heap[gv]? = some (.cells #[.int .i64 z] 3 (0, 0))) (hi : i < n) (hroom : cap < n + 1) (hb : (n + 1) * 8 ≤ 140737488355328) (hbase : base ≤ w.heap.size) :
    Calls Tryz.prog 171 #[.slice (some ⟨b, o, none⟩) n cap, .int .i64 i, .slice (some ⟨gv, 0, none⟩) 1 1] w fun e w' => ∃ v', e = .returned v' ∧ Off w' base v' (xs.take i ++ z :: xs.drop i) ∧ Grew w w' (.slice (some ⟨b, o, none⟩) n cap) v' := by
  obtain ⟨i0, hi0, hz0, hz1, hz2⟩ := info_parts infoInt
  obtain ⟨cur, hg, hle, hcs, hm, htk⟩ : ∃ cur : List Value, w.heap[b]? = some (.cells cur.toArray 3 (0, 0)) ∧ n ≤ cap ∧ o + cap ≤ cur.length ∧ cap ≤ maxLen ∧ (cur.drop o).take n = xs.map (Value.int .i64) := by
    rcases ho with ⟨e, _⟩ | ⟨g, o', cap', cur, e, hb, hg, hc, hs, hm, ht⟩
    · cases e
    · cases e
      exact ⟨cur, hg, by rw [← hn]; exact hc, hs, hm, by rw [← hn]; exact ht⟩
  have hcm : cap ≤ 9223372036854775807 := by unfold maxLen at hm; omega
  have hbl : b < w.heap.size := (Array.getElem?_eq_some_iff.1 hg).1
  have hgl : gv < w.heap.size := (Array.getElem?_eq_some_iff.1 hv).1
  obtain ⟨ys, hys⟩ : ∃ ys, xs.map (Value.int .i64) = ys := ⟨_, rfl⟩
  have hyl : ys.length = n := by rw [← hys, List.length_map, hn]
  have hy1 : ∀ u ∈ ys, u.oneCell' = true := by rw [← hys]; exact ints_one xs
  rw [hys] at htk
  have hti : (cur.drop o).take i = ys.take i := by rw [← htk, List.take_take, Nat.min_eq_left (by omega)]
  have hsrc : ∀ (u : World), u.heap[b]? = some (.cells cur.toArray 3 (0, 0)) → ∀ j v, (ys.drop i)[j]? = some v → u.cell? ((⟨b, o + i, none⟩ : Addr).add j) = some v := fun u hu j v hj => by
    rw [add_offR, cell_of_row u b _ _ _ (0, 0) hu]
    rw [List.getElem?_drop, ← htk] at hj
    rw [List.getElem?_take] at hj
    split at hj
    · rw [List.getElem?_drop, ← Nat.add_assoc] at hj
      simpa using hj
    · cases hj
  have hold : ∀ j v, (ys.take i)[j]? = some v → w.cell? ((⟨b, o, none⟩ : Addr).add j) = some v := fun j v hj => by
    rw [add_offR, cell_of_row w b _ _ _ (0, 0) hg]
    rw [← hti, List.getElem?_take] at hj
    split at hj
    · rw [List.getElem?_drop] at hj
      simpa using hj
    · cases hj
  have hlt : (ys.take i).length = i * 1 := by rw [List.length_take, hyl, Nat.min_eq_left (by omega)]; omega
  have HV := hide hv
  have HP := hide (And.intro hyl (And.intro hy1 hys))
  have HG := hide hg
  have HS := hide hsrc
  obtain ⟨os, hos⟩ : ∃ os, ys.take i = os := ⟨_, rfl⟩
  rw [hos] at hold hlt
  have HOS := hide (And.intro hos (And.intro hlt hold))
  have HB := hide (And.intro hbase (And.intro hbl (And.intro hgl hn)))
  have z1 : ¬ ((1 : Int) = 0) := by omega
  have z2 : ¬ ((i : Int) = (n : Int)) := by omega
  have z3 : (cap : Int) < (n : Int) + 1 := by omega
  have i1 : (0 : Int) ≤ (i : Int) := by omega
  have i2 : (i : Int) ≤ (n : Int) := by omega
  have i3 : (i : Int) ≤ (cap : Int) := by omega
  have i9 : ¬ (cap = i) := by omega
  obtain ⟨k, hk⟩ : ∃ k : Nat, (k : Int) = (n : Int) + 1 - (i : Int) := ⟨n + 1 - i, by omega⟩
  have hk0 : 0 < k := by omega
  have hik : i + k = n + 1 := by omega
  have hk' : (n : Int) + 1 - (i : Int) = (k : Int) := hk.symm
  have HK := hide (And.intro hk0 hik)
  clear ho hv hyl hy1 hys hg hsrc hbase hcs hti hm htk hold hlt hos hbl hgl hk hk0 hik hn
  go_enter Tryz.func171, Tryz.ntmps171
  go_upto_region 10 with (first | (at_builtin; refine wpl_zerosO rfl (.tmp 34) (.tmp 39) 172 3 i0 _ 1 8 Tryz.underlying172 hi0 hz0 hz1 hz2 rfl (by omega) rfl ⟨b, o, none⟩ i cap k rfl rfl os (unhide HOS).2.1 (unhide HOS).2.2 (unhide HK).1 (by rw [(unhide HK).2]; exact hroom) (by rw [(unhide HK).2]; exact hb) (by rw [(unhide HK).2]; unfold maxLen; omega) ?_; rw [(unhide HK).2]; intro cap' w1 zs hc1 hc2 H1))
  obtain ⟨G, hG⟩ : ∃ G, w.heap.size = G := ⟨_, rfl⟩
  simp only [hG]
  rw [hG] at H1 HB
  have HGG := hide hG
  have neG : b ≠ G := by have := (unhide HB).2.1; omega
  have neV : gv ≠ G := by have := (unhide HB).2.2.1; omega
  have HV1 : Hid (w1.heap[gv]? = some (.cells #[.int .i64 z] 3 (0, 0))) := hide (((unhide H1).2.2.1.block gv (unhide HB).2.2.1).trans (unhide HV))
  have HG1 : Hid (w1.heap[b]? = some (.cells cur.toArray 3 (0, 0))) := hide (((unhide H1).2.2.1.block b (unhide HB).2.1).trans (unhide HG))
  have HF1 : Hid (i + [Value.int .i64 z].length ≤ (os ++ zs).length) := hide (by rw [(unhide H1).2.1]; simp; omega)
  have HL : Hid ((ys.drop i).length = (n - i) * 1) := hide (by rw [List.length_drop, (unhide HP).1]; omega)
  have HF2 : Hid (i + 1 + (ys.drop i).length ≤ (splice (os ++ zs) (i) [Value.int .i64 z]).length) := hide (by rw [length_splice _ _ _ (unhide HF1), (unhide H1).2.1, unhide HL]; omega)
  have H1c : Hid (∀ u ∈ ys.drop i, u.oneCell' = true) := hide (fun u hu => (unhide HP).2.1 u (List.mem_of_mem_drop hu))
  obtain ⟨ds, hds⟩ : ∃ ds, ys.drop i = ds := ⟨_, rfl⟩
  rw [hds] at HL HF2 H1c HS
  have HDS := hide hds
  clear hds hG
  have j1 : (i : Int) ≤ (n : Int) + 1 := by omega
  have j2 : (n : Int) + 1 ≤ (cap' : Int) := by omega
  have j3 : ¬ (cap' = i) := by omega
  have j4 : ¬ (cap' = i + 1) := by omega
  have j5 : (0 : Int) ≤ (i : Int) + 1 := by omega
  have j6 : (i : Int) + 1 ≤ (n : Int) + 1 := by omega
  have j7 : ((i : Int) + 1).toNat = i + 1 := by omega
  have j8 : cap' ≤ 9223372036854775807 := by unfold maxLen at hc2; omega
  have hw1 : IntKind.i64.wrap ((i : Int) + 1) = (i : Int) + 1 := by rw [IntKind.wrap_i64]; omega
  have tok1 : True := trivial
  go_upto_region 11 with (first | (have _t := tok1; refine wpl_copyR rfl (.tmp 43) (.tmp 44) 172 172 3 i0 1 rfl Tryz.underlying172 hi0 hz1 G (i) (n + 1 - i) (cap' - i) ⟨gv, 0, none⟩ 1 1 rfl rfl (os ++ zs) 3 (unhide H1).1 [Value.int .i64 z] 1 (Nat.min_eq_left (by omega)) rfl (fun j u hu => World.news_of_block (unhide HV1) j u (by simpa using hu)) (unhide HF1) (by simp [Value.oneCell']) ?_; intro w2 H2; clear tok1))
  have HG2 : Hid (w2.heap[b]? = some (.cells cur.toArray 3 (0, 0))) := hide (((unhide H2).other b neG).trans (unhide HG1))
  go_region_held3 (fun _ => True)
    (exact trivial)
    ((refine step_copyR (by rfl) (.tmp 50) (.tmp 53) 172 172 3 i0 1 (by rfl) Tryz.underlying172 hi0 hz1 G (i + 1) (n - i) (cap' - (i + 1)) ⟨b, o + i, none⟩ (n - i) (cap - i) (by rfl) (by rfl) (splice (os ++ zs) (i) [Value.int .i64 z]) 3 (unhide H2).here ds (n - i) (Nat.min_eq_right (Nat.le_refl _)) (unhide HL) (unhide HS _ (unhide HG2)) (unhide HF2) (unhide H1c) ?_; intro w3 H3))
  go_wp2_with fail
  go_ret
  obtain ⟨b1, hlen1, bel1, sz1⟩ := unhide H1
  obtain ⟨hyl, hy1, hys⟩ := unhide HP
  have hti : (os ++ zs).take i = ys.take i := by
    rw [List.take_append_of_le_length (by rw [(unhide HOS).2.1]; omega), List.take_of_length_le (by rw [(unhide HOS).2.1]; omega)]
    exact (unhide HOS).1.symm
  obtain ⟨hs1, hs2⟩ := splice_in' (os ++ zs) ys [Value.int .i64 z] 1 n i hyl rfl (by omega) (by rw [hlen1]; omega) hti
  rw [unhide HDS] at hs1 hs2
  have hGG := unhide HGG
  have hBB := unhide HB
  have hlen : (xs.take i ++ z :: xs.drop i).length = n + 1 := by simp only [List.length_append, List.length_take, List.length_cons, List.length_drop, hBB.2.2.2]; omega
  refine ⟨.slice (some ⟨G, 0, none⟩) (n + 1) cap', rfl, .inr ⟨G, 0, cap', _, by rw [hlen], hBB.1, (unhide H3).here, by rw [hlen]; exact hc1, by rw [hs2, hlen1]; omega, hc2, ?_⟩, ⟨⟨?_, ?_, ?_, ?_, fun k hk hne' => ?_⟩, fun c hc => .inr (by simp only [Value.ownBlock, Option.some.injEq] at hc; omega)⟩⟩
  · rw [hlen, List.drop_zero, hs1, ← hys, ← unhide HDS, ← hys]
    simp [List.map_take, List.map_drop]
  · exact (unhide H3).os.trans ((unhide H2).os.trans bel1.os)
  · exact (unhide H3).tape.trans ((unhide H2).tape.trans bel1.tape)
  · exact (unhide H3).output.trans ((unhide H2).output.trans bel1.output)
  · have h3 := (unhide H3).size
    have h2 := (unhide H2).size
    have h2' : w2.drew.heap.size = w2.heap.size := rfl
    omega
  · have hk2 : k ≠ G := by omega
    rw [(unhide H3).other k hk2]
    show w2.heap[k]? = _
    rw [(unhide H2).other k hk2]
    exact bel1.block k (by omega)
/-- Insert of one at any place -/
theorem insertO (base : Nat) (v : Value) (xs : List Int) (z : Int) (n i gv : Nat) (w : World) (hn : xs.length = n) (ho : Off w base v xs) (hv : w.heap[gv]? = some (.cells #[.int .i64 z] 3 (0, 0))) (hne : v.ownBlock ≠ some gv) (hi : i ≤ n) (hb : (n + 1) * 8 ≤ 140737488355328) (hbase : base ≤ w.heap.size) :
    Calls Tryz.prog 171 #[v, .int .i64 i, .slice (some ⟨gv, 0, none⟩) 1 1] w fun e w' => ∃ v', e = .returned v' ∧ Off w' base v' (xs.take i ++ z :: xs.drop i) ∧ Grew w w' v v' := by
  by_cases hin : i = n
  · subst hin
    rw [List.take_of_length_le (by omega), List.drop_of_length_le (by omega)]
    exact insEndO base v xs i z gv w hn ho hv hb hbase
  · have ho' := ho
    rcases ho with ⟨rfl, rfl⟩ | ⟨b, o, cap, cur, rfl, _⟩
    · simp at hn
      omega
    · rw [hn] at ho' ⊢
      by_cases hroom : n + 1 ≤ cap
      · exact insShiftO base xs z n i b o cap gv w hn ho' hv (fun e => hne (by rw [e]; rfl)) (by omega) hroom
      · exact insGrowO base xs z n i b o cap gv w hn ho' hv (by omega) (by omega) hb hbase
end Go.Proofs.YtmnbfcpkaglniaaGreatDoor
