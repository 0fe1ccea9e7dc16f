/-
  slices.Insert of one pair into a row of pairs of the call's own, at any place; no conditions but that the row's bytes are within 2^47.
-/
import Derived.Test.YtflopmhjgamcfaaTCopy
namespace Go.Proofs.Ytflopmhjgamcfaa
open Go.RowKit

theorem infoI : (Try.prog.info? 71).map (fun i => (i.zero, i.size, i.bytes)) = some (some (.agg #[.int .i64 0, .int .i64 0]), 2, 16) := by kernel_rfl

set_option maxRecDepth 100000 in
theorem insert_endI (base : Nat) (v x y : Value) (l : List (Value × Value)) (gv : Nat) (w : World) (ho : w.ownsRow base 71 2 v l.length (cells2 l)) (hv : w.heap[gv]? = some (.cells #[x, y] 71 (0, 0)))
    (hx : x.oneCell' = true) (hy : y.oneCell' = true) (hb : (l.length + 1) * 16 ≤ 140737488355328) (hbase : base ≤ w.heap.size) :
    Calls Try.prog 34 #[v, .int .i64 l.length, .slice (some ⟨gv, 0, none⟩) 1 1] w fun e w' => ∃ v', e = .returned v' ∧ w'.ownsRow base 71 2 v' (l.length + 1) (cells2 (l ++ [(x, y)])) ∧ Grew w w' v v' := by
  obtain ⟨i0, hi, hz0, hz1, hz2⟩ := info_parts infoI
  obtain ⟨ao, cap, hv', hcap, hmax, hnone, hsome⟩ := own_shape ho
  have HO := hide ho
  have HV := hide hv
  have HS := hide hsome
  have HP := hide (And.intro hx (And.intro hy (And.intro hb hbase)))
  obtain ⟨n, hn⟩ : ∃ n, l.length = n := ⟨_, rfl⟩
  rw [hn] at hv' hcap hnone HO hb ⊢
  subst hv'
  have HN := hide hn
  have hmx : cap ≤ 9223372036854775807 := by unfold maxLen at hmax; omega
  clear ho hv hsome hx hy hbase hn hmax
  go_enter Try.func34, Try.ntmps34
  cases ao with
  | none =>
    obtain rfl := hnone rfl
    go_wp2_with (first | (at_builtin; refine wpl_app2 rfl (.tmp 23) (.tmp 24) 68 71 i0 _ 16 Try.underlying68 hi hz0 hz1 hz2 rfl rfl base 0 (.slice none 0 cap) _ rfl (unhide HO) gv x y rfl (unhide HV) (unhide HP).1 (unhide HP).2.1 (by unfold maxLen; omega) (by omega) (unhide HP).2.2.2 ?_; intro v2 w2 o2))
    go_ret
    exact ⟨_, rfl, by rw [cells2_append]; exact (unhide o2).1, (unhide o2).2.grown, (unhide o2).2.row⟩
  | some ad =>
    obtain ⟨b, rfl, -⟩ := unhide HS ad rfl
    have i1 : (0 : Int) ≤ (n : Int) := by omega
    have i2 : (n : Int) ≤ (cap : Int) := by omega
    have i3 : (n : Int) ≤ (n : Int) := by omega
    go_wp2_with (first | (at_builtin; refine wpl_app2 rfl (.tmp 23) (.tmp 24) 68 71 i0 _ 16 Try.underlying68 hi hz0 hz1 hz2 rfl rfl base n (.slice (some ⟨b, 0, none⟩) n cap) _ rfl (unhide HO) gv x y rfl (unhide HV) (unhide HP).1 (unhide HP).2.1 (by unfold maxLen; omega) (by omega) (unhide HP).2.2.2 ?_; intro v2 w2 o2))
    all_goals (go_ret; exact ⟨_, rfl, by rw [cells2_append]; exact (unhide o2).1, (unhide o2).2.grown, (unhide o2).2.row⟩)

theorem sizeI (w : World) : (Go.sizeOf 71).run Try.prog w = .ok 2 w := Try.sizeOf71 w

set_option maxRecDepth 100000 in
set_option maxHeartbeats 1000000 in
theorem insert_shiftI (base : Nat) (x y : Value) (l : List (Value × Value)) (i b cap gv : Nat) (w : World) (ho : w.ownsRow base 71 2 (.slice (some ⟨b, 0, none⟩) l.length cap) l.length (cells2 l)) (hv : w.heap[gv]? = some (.cells #[x, y] 71 (0, 0))) (hne : gv ≠ b)
    (hx : x.oneCell' = true) (hy : y.oneCell' = true) (hl1 : ∀ u ∈ cells2 l, u.oneCell' = true) (hi : i < l.length) (hroom : l.length + 1 ≤ cap) :
    Calls Try.prog 34 #[.slice (some ⟨b, 0, none⟩) l.length cap, .int .i64 i, .slice (some ⟨gv, 0, none⟩) 1 1] w fun e w' => ∃ v', e = .returned v' ∧ w'.ownsRow base 71 2 v' (l.length + 1) (cells2 (l.take i ++ (x, y) :: l.drop i)) ∧ Grew w w' (.slice (some ⟨b, 0, none⟩) l.length cap) v' := by
  obtain ⟨i0, hi0, hz0, hz1, hz2⟩ := info_parts infoI
  obtain ⟨cur, hbase, hg, hm, hcs, htk⟩ : ∃ cur : List Value, base ≤ b ∧ w.heap[b]? = some (.cells cur.toArray 71 (0, 0)) ∧ cap ≤ maxLen ∧ cur.length = cap * 2 ∧ cur.take (l.length * 2) = cells2 l := by
    rcases ho.2 with ⟨e, _⟩ | ⟨g, cap', cur, e, hb, hg, hc, hm, hs, ht⟩
    · cases e
    · cases e
      exact ⟨cur.toList, hb, by simpa using hg, hm, by simpa using hs, ht⟩
  have hcm : cap ≤ 9223372036854775807 := by unfold maxLen at hm; omega
  have hti : cur.take (i * 2) = cells2 (l.take i) := by rw [cells2_take, ← htk, List.take_take, Nat.min_eq_left (by omega)]
  have hsrc : ∀ (u : World), u.heap[b]? = some (.cells cur.toArray 71 (0, 0)) → ∀ j v, (cells2 (l.drop i))[j]? = some v → u.cell? ((⟨b, i * 2, none⟩ : Addr).add j) = some v := fun u hu j v hj => by
    rw [add_off, cell_of_row u b _ _ _ (0, 0) hu]
    rw [cells2_drop, List.getElem?_drop, ← htk] at hj
    rw [List.getElem?_take] at hj
    split at hj
    · simpa using hj
    · cases hj
  have hov : ∀ lb cb, (callFunc 38 #[.slice (some ⟨gv, 0, none⟩) 1 1, .slice (some ⟨b, (i + 1) * 2, none⟩) lb cb]).run Try.prog w = .ok (.value (.bool false)) w := fun lb cb => by
    rw [run_callFunc_extern Try.func38 (by kernel_rfl) (by kernel_rfl) (by kernel_rfl) (e := Extern.SlicesOverlaps.overlaps #[68, 68] #[4]) (by kernel_rfl),
      Lib.run_overlaps_apart w 68 4 71 Try.underlying68 2 sizeI ⟨gv, 0, none⟩ ⟨b, (i + 1) * 2, none⟩ 1 1 lb cb hne 71 71 2 (cap * 2) (by simp [World.shape?, hv]) (by simp [World.shape?, hg, hcs]) (by omega) (frozen_of_row w gv 0 _ _ hv) (frozen_of_row w gv 2 _ _ hv)]
    rfl
  have HO := hide ho
  have HV := hide hv
  have HP := hide (And.intro hx (And.intro hy hl1))
  have HG := hide hg
  have HS := hide hsrc
  obtain ⟨n, hn⟩ : ∃ n, l.length = n := ⟨_, rfl⟩
  have HC := hide (And.intro hbase (And.intro hcs (And.intro hti hm)))
  have HN := hide hn
  rw [hn] at hi hroom ⊢
  have z1 : ¬ ((1 : Int) = 0) := by omega
  have z2 : ¬ ((i : Int) = (n : Int)) := by omega
  have z3 : ¬ (cap : Int) < (n : Int) + 1 := by omega
  have i1 : (0 : Int) ≤ (i : Int) := by omega
  have i2 : (i : Int) ≤ (n : Int) := by omega
  have i3 : (n : Int) + 1 ≤ (cap : Int) := by omega
  have i4 : (0 : Int) ≤ (i : Int) + 1 := by omega
  have i5 : (i : Int) + 1 ≤ (n : Int) + 1 := by omega
  have i6 : (i : Int) ≤ (n : Int) + 1 := by omega
  have i7 : ((i : Int) + 1).toNat = i + 1 := by omega
  have i8 : ((n : Int) + 1).toNat = n + 1 := by omega
  have i9 : ¬ (cap = i + 1) := by omega
  have i10 : ¬ (cap = i) := by omega
  clear ho hv hx hy hl1 hg hsrc hbase hcs hti hm htk hn
  go_enter Try.func34, Try.ntmps34
  go_wp2_with (simp only [hov])
  have hw1 : IntKind.i64.wrap ((i : Int) + 1) = (i : Int) + 1 := by rw [IntKind.wrap_i64]; omega
  have HL : Hid ((cells2 (l.drop i)).length = (n - i) * 2) := hide (by rw [cells2_len, List.length_drop, unhide HN])
  have HF : Hid ((i + 1) * 2 + (cells2 (l.drop i)).length ≤ cur.length) := hide (by have := (unhide HC).2.1; rw [unhide HL]; omega)
  have H1c : Hid (∀ u ∈ cells2 (l.drop i), u.oneCell' = true) := hide (fun u hu => (unhide HP).2.2 u (by rw [cells2_drop] at hu; exact List.mem_of_mem_drop hu))
  obtain ⟨ds, hds⟩ : ∃ ds, cells2 (l.drop i) = ds := ⟨_, rfl⟩
  rw [hds] at HL HF H1c HS
  have HDS := hide hds
  clear hds hov
  go_region_held3 (fun _ => True)
    (exact trivial)
    ((refine step_copy2 (by rfl) (.tmp 73) (.tmp 76) 68 68 71 i0 (by rfl) Try.underlying68 hi0 hz1 b ((i + 1) * 2) (n - i) (cap - (i + 1)) ⟨b, i * 2, none⟩ (n + 1 - i) (cap - i) (by rfl) (by rfl) cur 71 (unhide HG) ds (n - i) (min_le' (by omega)) (unhide HL) (unhide HS _ (unhide HG)) (unhide HF) (unhide H1c) ?_; intro w1 H1))
  have HV1 : Hid (w1.heap[gv]? = some (.cells #[x, y] 71 (0, 0))) := hide (((unhide H1).other gv hne).trans (unhide HV))
  have HF1 : Hid (i * 2 + [x, y].length ≤ (splice cur ((i + 1) * 2) ds).length) := hide (by rw [length_splice _ _ _ (unhide HF)]; have := (unhide HC).2.1; simp; omega)
  have tok1 : True := trivial
  go_wp2_with (first | (have _t := tok1; refine wpl_copy2 rfl (.tmp 80) (.tmp 81) 68 68 71 i0 rfl Try.underlying68 hi0 hz1 b (i * 2) (n + 1 - i) (cap - i) ⟨gv, 0, none⟩ 1 1 rfl rfl (splice cur ((i + 1) * 2) ds) 71 (unhide H1).here [x, y] 1 (Nat.min_eq_left (by omega)) rfl (two_cells (unhide HV1)) (unhide HF1) (one_two (unhide HP).1 (unhide HP).2.1) ?_; intro w2 H2; clear tok1))
  go_ret
  obtain ⟨hbase, hcs, hti, hm⟩ := unhide HC
  have hn := unhide HN
  obtain ⟨hs1, hs2⟩ := splice_two cur l x y i (by omega) (by omega) hti
  rw [unhide HDS, hn] at hs1
  rw [unhide HDS] at hs2
  refine ⟨.slice (some ⟨b, 0, none⟩) (n + 1) cap, rfl, ⟨by rw [cells2_len, List.length_append, List.length_cons, List.length_take, List.length_drop]; omega, .inr ⟨b, cap, _, rfl, hbase, (unhide H2).here, hroom, hm, by simp [hs2, hcs], by simpa using hs1⟩⟩, ⟨⟨?_, ?_, ?_, ?_, fun k hk hne' => ?_⟩, fun c hc => .inl hc⟩⟩
  · exact (unhide H2).os.trans (unhide H1).os
  · exact (unhide H2).tape.trans (unhide H1).tape
  · exact (unhide H2).output.trans (unhide H1).output
  · rw [(unhide H2).size, (unhide H1).size]
    exact Nat.le_refl _
  · have hk2 : k ≠ b := fun e => hne' (by rw [e]; rfl)
    rw [(unhide H2).other k hk2, (unhide H1).other k hk2]
    rfl

set_option maxRecDepth 100000 in
set_option maxHeartbeats 1000000 in
theorem insert_growI (base : Nat) (x y : Value) (l : List (Value × Value)) (i b cap gv : Nat) (w : World) (ho : w.ownsRow base 71 2 (.slice (some ⟨b, 0, none⟩) l.length cap) l.length (cells2 l)) (hv : w.heap[gv]? = some (.cells #[x, y] 71 (0, 0)))
    (hx : x.oneCell' = true) (hy : y.oneCell' = true) (hl1 : ∀ u ∈ cells2 l, u.oneCell' = true) (hi : i < l.length) (hroom : cap < l.length + 1) (hb : (l.length + 1) * 16 ≤ 140737488355328) (hbase : base ≤ w.heap.size) :
    Calls Try.prog 34 #[.slice (some ⟨b, 0, none⟩) l.length cap, .int .i64 i, .slice (some ⟨gv, 0, none⟩) 1 1] w fun e w' => ∃ v', e = .returned v' ∧ w'.ownsRow base 71 2 v' (l.length + 1) (cells2 (l.take i ++ (x, y) :: l.drop i)) ∧ Grew w w' (.slice (some ⟨b, 0, none⟩) l.length cap) v' := by
  obtain ⟨i0, hi0, hz0, hz1, hz2⟩ := info_parts infoI
  obtain ⟨cur, hg, hle, hm, hcs, htk⟩ : ∃ cur : List Value, w.heap[b]? = some (.cells cur.toArray 71 (0, 0)) ∧ l.length ≤ cap ∧ cap ≤ maxLen ∧ cur.length = cap * 2 ∧ cur.take (l.length * 2) = cells2 l := by
    rcases ho.2 with ⟨e, _⟩ | ⟨g, cap', cur, e, hb, hg, hc, hm, hs, ht⟩
    · cases e
    · cases e
      exact ⟨cur.toList, by simpa using hg, hc, hm, by simpa using hs, ht⟩
  have hcm : cap ≤ 9223372036854775807 := by unfold maxLen at hm; omega
  have hbl : b < w.heap.size := (Array.getElem?_eq_some_iff.1 hg).1
  have hgl : gv < w.heap.size := (Array.getElem?_eq_some_iff.1 hv).1
  have hti : cur.take (i * 2) = cells2 (l.take i) := by rw [cells2_take, ← htk, List.take_take, Nat.min_eq_left (by omega)]
  have hsrc : ∀ (u : World), u.heap[b]? = some (.cells cur.toArray 71 (0, 0)) → ∀ j v, (cells2 (l.drop i))[j]? = some v → u.cell? ((⟨b, i * 2, none⟩ : Addr).add j) = some v := fun u hu j v hj => by
    rw [add_off, cell_of_row u b _ _ _ (0, 0) hu]
    rw [cells2_drop, List.getElem?_drop, ← htk] at hj
    rw [List.getElem?_take] at hj
    split at hj
    · simpa using hj
    · cases hj
  have hold : ∀ j v, (cells2 (l.take i))[j]? = some v → w.cell? ((⟨b, 0, none⟩ : Addr).add j) = some v := fun j v hj => by
    rw [add_off, cell_of_row w b _ _ _ (0, 0) hg]
    rw [← hti, List.getElem?_take] at hj
    split at hj
    · simpa using hj
    · cases hj
  have hlt : (cells2 (l.take i)).length = i * 2 := by rw [cells2_len, List.length_take, Nat.min_eq_left (by omega)]
  have HV := hide hv
  have HP := hide (And.intro hx (And.intro hy hl1))
  have HG := hide hg
  have HS := hide hsrc
  obtain ⟨n, hn⟩ : ∃ n, l.length = n := ⟨_, rfl⟩
  obtain ⟨os, hos⟩ : ∃ os, cells2 (l.take i) = os := ⟨_, rfl⟩
  rw [hos] at hold hlt
  have HOS := hide (And.intro hos (And.intro hlt hold))
  have HB := hide (And.intro hbase (And.intro hbl hgl))
  have HN := hide hn
  rw [hn] at hi hroom hb hle ⊢
  have z1 : ¬ ((1 : Int) = 0) := by omega
  have z2 : ¬ ((i : Int) = (n : Int)) := by omega
  have z3 : (cap : Int) < (n : Int) + 1 := by omega
  have i1 : (0 : Int) ≤ (i : Int) := by omega
  have i2 : (i : Int) ≤ (n : Int) := by omega
  have i3 : (i : Int) ≤ (cap : Int) := by omega
  have i9 : ¬ (cap = i) := by omega
  obtain ⟨k, hk⟩ : ∃ k : Nat, (k : Int) = (n : Int) + 1 - (i : Int) := ⟨n + 1 - i, by omega⟩
  have hk0 : 0 < k := by omega
  have hik : i + k = n + 1 := by omega
  have hk' : (n : Int) + 1 - (i : Int) = (k : Int) := hk.symm
  have HK := hide (And.intro hk0 hik)
  clear ho hv hx hy hl1 hg hsrc hbase hcs hti hm htk hn hold hlt hos hbl hgl hk hk0 hik
  go_enter Try.func34, Try.ntmps34
  go_upto_region 10 with (first | (at_builtin; refine wpl_zeros2 rfl (.tmp 34) (.tmp 39) 68 71 i0 _ 16 Try.underlying68 Try.underlying3 hi0 hz0 hz1 hz2 rfl rfl b i cap k rfl rfl os (unhide HOS).2.1 (unhide HOS).2.2 (unhide HK).1 (by rw [(unhide HK).2]; exact hroom) (by rw [(unhide HK).2]; exact hb) (by rw [(unhide HK).2]; unfold maxLen; omega) ?_; rw [(unhide HK).2]; intro cap' w1 zs hc1 hc2 H1))
  obtain ⟨G, hG⟩ : ∃ G, w.heap.size = G := ⟨_, rfl⟩
  simp only [hG]
  rw [hG] at H1 HB
  have HGG := hide hG
  have neG : b ≠ G := by have := (unhide HB).2.1; omega
  have neV : gv ≠ G := by have := (unhide HB).2.2; omega
  have HV1 : Hid (w1.heap[gv]? = some (.cells #[x, y] 71 (0, 0))) := hide (((unhide H1).2.2.1.block gv (unhide HB).2.2).trans (unhide HV))
  have HG1 : Hid (w1.heap[b]? = some (.cells cur.toArray 71 (0, 0))) := hide (((unhide H1).2.2.1.block b (unhide HB).2.1).trans (unhide HG))
  have HF1 : Hid (i * 2 + [x, y].length ≤ (os ++ zs).length) := hide (by rw [(unhide H1).2.1]; simp; omega)
  have HL : Hid ((cells2 (l.drop i)).length = (n - i) * 2) := hide (by rw [cells2_len, List.length_drop, unhide HN])
  have HF2 : Hid ((i + 1) * 2 + (cells2 (l.drop i)).length ≤ (splice (os ++ zs) (i * 2) [x, y]).length) := hide (by rw [length_splice _ _ _ (unhide HF1), (unhide H1).2.1, unhide HL]; omega)
  have H1c : Hid (∀ u ∈ cells2 (l.drop i), u.oneCell' = true) := hide (fun u hu => (unhide HP).2.2 u (by rw [cells2_drop] at hu; exact List.mem_of_mem_drop hu))
  obtain ⟨ds, hds⟩ : ∃ ds, cells2 (l.drop i) = ds := ⟨_, rfl⟩
  rw [hds] at HL HF2 H1c HS
  have HDS := hide hds
  clear hds hG
  have j1 : (i : Int) ≤ (n : Int) + 1 := by omega
  have j2 : (n : Int) + 1 ≤ (cap' : Int) := by omega
  have j3 : ¬ (cap' = i) := by omega
  have j4 : ¬ (cap' = i + 1) := by omega
  have j5 : (0 : Int) ≤ (i : Int) + 1 := by omega
  have j6 : (i : Int) + 1 ≤ (n : Int) + 1 := by omega
  have j7 : ((i : Int) + 1).toNat = i + 1 := by omega
  have j8 : cap' ≤ 9223372036854775807 := by unfold maxLen at hc2; omega
  have hw1 : IntKind.i64.wrap ((i : Int) + 1) = (i : Int) + 1 := by rw [IntKind.wrap_i64]; omega
  have tok1 : True := trivial
  go_upto_region 11 with (first | (have _t := tok1; refine wpl_copy2 rfl (.tmp 43) (.tmp 44) 68 68 71 i0 rfl Try.underlying68 hi0 hz1 G (i * 2) (n + 1 - i) (cap' - i) ⟨gv, 0, none⟩ 1 1 rfl rfl (os ++ zs) 71 (unhide H1).1 [x, y] 1 (Nat.min_eq_left (by omega)) rfl (two_cells (unhide HV1)) (unhide HF1) (one_two (unhide HP).1 (unhide HP).2.1) ?_; intro w2 H2; clear tok1))
  have HG2 : Hid (w2.heap[b]? = some (.cells cur.toArray 71 (0, 0))) := hide (((unhide H2).other b neG).trans (unhide HG1))
  go_region_held3 (fun _ => True)
    (exact trivial)
    ((refine step_copy2 (by rfl) (.tmp 50) (.tmp 53) 68 68 71 i0 (by rfl) Try.underlying68 hi0 hz1 G ((i + 1) * 2) (n - i) (cap' - (i + 1)) ⟨b, i * 2, none⟩ (n - i) (cap - i) (by rfl) (by rfl) (splice (os ++ zs) (i * 2) [x, y]) 71 (unhide H2).here ds (n - i) (min_le' (Nat.le_refl _)) (unhide HL) (unhide HS _ (unhide HG2)) (unhide HF2) (unhide H1c) ?_; intro w3 H3))
  go_wp2_with fail
  go_ret
  have hn := unhide HN
  obtain ⟨b1, hlen1, bel1, sz1⟩ := unhide H1
  have hti : (os ++ zs).take (i * 2) = cells2 (l.take i) := by
    rw [List.take_append_of_le_length (by rw [(unhide HOS).2.1]; exact Nat.le_refl _), List.take_of_length_le (by rw [(unhide HOS).2.1]; exact Nat.le_refl _)]
    exact (unhide HOS).1.symm
  obtain ⟨hs1, hs2⟩ := splice_two' (os ++ zs) l x y i (by omega) (by rw [hlen1]; omega) hti
  rw [unhide HDS, hn] at hs1
  rw [unhide HDS] at hs2
  have hGG := unhide HGG
  have hBB := unhide HB
  refine ⟨.slice (some ⟨G, 0, none⟩) (n + 1) cap', rfl, ⟨by rw [cells2_len, List.length_append, List.length_cons, List.length_take, List.length_drop]; omega, .inr ⟨G, cap', _, rfl, hBB.1, (unhide H3).here, hc1, hc2, by simp [hs2, hlen1], by simpa using hs1⟩⟩, ⟨⟨?_, ?_, ?_, ?_, fun k hk hne' => ?_⟩, fun c hc => .inr (by simp only [Value.ownBlock, Option.some.injEq] at hc; omega)⟩⟩
  · exact (unhide H3).os.trans ((unhide H2).os.trans bel1.os)
  · exact (unhide H3).tape.trans ((unhide H2).tape.trans bel1.tape)
  · exact (unhide H3).output.trans ((unhide H2).output.trans bel1.output)
  · have h3 := (unhide H3).size
    have h2 := (unhide H2).size
    have h2' : w2.drew.heap.size = w2.heap.size := rfl
    omega
  · have hk2 : k ≠ G := by omega
    rw [(unhide H3).other k hk2]
    show w2.heap[k]? = _
    rw [(unhide H2).other k hk2]
    exact bel1.block k (by omega)

/-- Insert of one pair at any place -/
theorem insert_I (base : Nat) (v x y : Value) (l : List (Value × Value)) (i gv : Nat) (w : World) (ho : w.ownsRow base 71 2 v l.length (cells2 l)) (hv : w.heap[gv]? = some (.cells #[x, y] 71 (0, 0))) (hne : v.ownBlock ≠ some gv)
    (hx : x.oneCell' = true) (hy : y.oneCell' = true) (hl1 : ∀ u ∈ cells2 l, u.oneCell' = true) (hi : i ≤ l.length) (hb : (l.length + 1) * 16 ≤ 140737488355328) (hbase : base ≤ w.heap.size) :
    Calls Try.prog 34 #[v, .int .i64 i, .slice (some ⟨gv, 0, none⟩) 1 1] w fun e w' => ∃ v', e = .returned v' ∧ w'.ownsRow base 71 2 v' (l.length + 1) (cells2 (l.take i ++ (x, y) :: l.drop i)) ∧ Grew w w' v v' := by
  by_cases hin : i = l.length
  · subst hin
    rw [List.take_of_length_le (Nat.le_refl _), List.drop_of_length_le (Nat.le_refl _)]
    exact insert_endI base v x y l gv w ho hv hx hy hb hbase
  · rcases ho.2 with ⟨rfl, hn⟩ | ⟨b, cap, cur, rfl, _⟩
    · omega
    · by_cases hroom : l.length + 1 ≤ cap
      · exact insert_shiftI base x y l i b cap gv w ho hv (fun e => hne (by rw [e]; rfl)) hx hy hl1 (by omega) hroom
      · exact insert_growI base x y l i b cap gv w ho hv hx hy hl1 (by omega) (by omega) hb hbase
end Go.Proofs.Ytflopmhjgamcfaa
