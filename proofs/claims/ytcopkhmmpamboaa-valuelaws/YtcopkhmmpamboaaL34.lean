/-
  slices.Delete of one text out of a row of the call's own; no conditions.
-/
import Derived.Test.YtcopkhmmpamboaaL33
import Derived.Deep.RegionHeld3
namespace Go.Proofs.Ytcopkhmmpamboaa
open Go.RowKit
set_option linter.unusedVariables false
set_option linter.unusedSimpArgs false

theorem zcS : (Builtin.zeroCells (.string ⟨#[]⟩ : Value).cells 1).toList = [.string ⟨#[]⟩] := by
  simp [Builtin.zeroCells, List.range_succ, Value.cells]

theorem zoS : ∀ u ∈ ([.string ⟨#[]⟩] : List Value), u.oneCell' = true := (by intro u hu; simp at hu; subst hu; rfl)

set_option maxRecDepth 100000 in
set_option maxHeartbeats 1000000 in
theorem deleteS (base : Nat) (xs : List Value) (n i b cap : Nat) (w : World) (ho : w.ownsRow base 9 1 (.slice (some ⟨b, 0, none⟩) n cap) n xs) (hl1 : ∀ u ∈ xs, u.oneCell' = true) (hi : i < n) (J : Int) (hJ : J = (i : Int) + 1) :
    Calls Try.prog 38 #[.slice (some ⟨b, 0, none⟩) n cap, .int .i64 i, .int .i64 J] w fun e w' => e = .returned (.slice (some ⟨b, 0, none⟩) (n - 1) cap) ∧ w'.ownsRow base 9 1 (.slice (some ⟨b, 0, none⟩) (n - 1) cap) (n - 1) (xs.take (i * 1) ++ xs.drop ((i + 1) * 1)) ∧ w.grownBy w' (some b) := by
  obtain ⟨i0, hi0, hz0, hz1, hz2⟩ := info_parts infoSc
  have hxl := ho.1
  obtain ⟨cur, hbase, hg, hc, hm, hcs, htk⟩ : ∃ cur : List Value, base ≤ b ∧ w.heap[b]? = some (.cells cur.toArray 9 (0, 0)) ∧ n ≤ cap ∧ cap ≤ maxLen ∧ cur.length = cap * 1 ∧ cur.take (n * 1) = xs := by
    rcases ho.2 with ⟨e, _⟩ | ⟨g, cap', cur, e, hb, hg, hc, hm, hs, ht⟩
    · cases e
    · cases e
      exact ⟨cur.toList, hb, by simpa using hg, hc, hm, by simpa using hs, ht⟩
  have hcm : cap ≤ 9223372036854775807 := by unfold maxLen at hm; omega
  have hsrc : ∀ (u : World) (ad : Addr), u.heap[b]? = some (.cells cur.toArray 9 (0, 0)) → (i + 1 < n → ad = ⟨b, i + 1, none⟩) → ∀ j v, (xs.drop ((i + 1) * 1))[j]? = some v → u.cell? (ad.add j) = some v := fun u ad hu had j v hj => by
    have hlt : i + 1 < n := by
      have := (List.getElem?_eq_some_iff.1 hj).1
      rw [List.length_drop, hxl] at this
      omega
    rw [had hlt, add_offR, cell_of_row u b _ _ _ (0, 0) hu]
    rw [List.getElem?_drop, ← htk] at hj
    rw [List.getElem?_take] at hj
    split at hj
    · simpa using hj
    · cases hj
  have HP : Hid (∀ u ∈ xs.drop ((i + 1) * 1), u.oneCell' = true) := hide (fun u hu => hl1 u (List.mem_of_mem_drop hu))
  have HG := hide hg
  have HS := hide hsrc
  have HC := hide (And.intro hbase (And.intro hcs (And.intro htk (And.intro hm hxl))))
  have HL : Hid ((xs.drop ((i + 1) * 1)).length = (n - (i + 1)) * 1) := hide (by rw [List.length_drop, hxl]; omega)
  have HF : Hid (i * 1 + (xs.drop ((i + 1) * 1)).length ≤ cur.length) := hide (by rw [unhide HL, hcs]; omega)
  obtain ⟨ds, hds⟩ : ∃ ds, xs.drop ((i + 1) * 1) = ds := ⟨_, rfl⟩
  rw [hds] at HL HF HS HP
  have HDS := hide hds
  have i1 : (0 : Int) ≤ (i : Int) := by omega
  have i2 : (i : Int) ≤ (i : Int) + 1 := by omega
  have i3 : (i : Int) + 1 ≤ (n : Int) := by omega
  have i4 : (n : Int) ≤ (cap : Int) := by omega
  have i5 : ¬ ((i : Int) = (i : Int) + 1) := by omega
  have i6 : ((i : Int) + 1).toNat = i + 1 := by omega
  have i7 : (0 : Int) ≤ (i : Int) + 1 := by omega
  have i8 : ¬ (n = i) := by omega
  have i9 : ¬ (cap = i) := by omega
  have i10 : (i : Int) ≤ (cap : Int) := by omega
  have i11 : (i : Int) + 1 ≤ (cap : Int) := by omega
  subst hJ
  clear ho hl1 hg hsrc hbase hcs hm htk hds hxl
  have fin : Hid (∀ w1 w2 : World, LaidR w.drew w1 b (splice cur (i * 1) ds) 9 → LaidR w1 w2 b (splice (splice cur (i * 1) ds) (n - 1) [.string ⟨#[]⟩]) 9 →
      w2.ownsRow base 9 1 (.slice (some ⟨b, 0, none⟩) (n - 1) cap) (n - 1) (xs.take (i * 1) ++ xs.drop ((i + 1) * 1)) ∧ w.grownBy w2 (some b)) := hide (fun w1 w2 H1 H2 => by
    obtain ⟨hbase, hcs, htk, hm, hxl⟩ := unhide HC
    obtain ⟨hs1, hs2⟩ := splice_delR cur xs [.string ⟨#[]⟩] 1 (n * 1) (i * 1) hxl rfl (by omega) (by omega) htk
    have e1 : i * 1 + 1 = (i + 1) * 1 := by omega
    have e2 : n * 1 - 1 = n - 1 := by omega
    rw [e1, unhide HDS, e2] at hs1 hs2
    refine ⟨⟨?_, .inr ⟨b, cap, _, rfl, hbase, H2.here, by omega, hm, by rw [List.size_toArray, hs2, hcs], ?_⟩⟩, ⟨?_, ?_, ?_, ?_, fun k hk hne' => ?_⟩⟩
    · simp only [List.length_append, List.length_take, List.length_drop, hxl]
      omega
    · rw [List.toList_toArray, unhide HDS, show (n - 1) * 1 = n - 1 by omega]
      exact hs1
    · exact H2.os.trans H1.os
    · exact H2.tape.trans H1.tape
    · exact H2.output.trans H1.output
    · rw [H2.size, H1.size]
      exact Nat.le_refl _
    · have hk2 : k ≠ b := fun e => hne' (by rw [e])
      rw [H2.other k hk2, H1.other k hk2]
      rfl)
  by_cases hcp : cap = i + 1
  · subst hcp
    go_enter Try.func38, Try.ntmps38
    go_wp2_with fail
    go_region_held3 (fun _ => True)
      (exact trivial)
      ((refine step_roomR (by rfl) (.tmp 22) (.tmp 25) 25 9 i0 1 (by rfl) Try.underlying25 hi0 hz1 b i (i + 1) ⟨b, 0, none⟩ 0 0 (by rfl) (by rfl) cur ds (unhide HG) (by have := unhide HL; omega) (unhide HS _ _ (unhide HG) (by omega)) (unhide HP) (by omega) (unhide HF) ?_; rw [show i + 0 = n - 1 by omega]; intro w1 H1))
    have hs1 : (splice cur (i * 1) ds).length = cur.length := length_splice _ _ _ (unhide HF)
    have HF1 : Hid (n - 1 + 1 ≤ (splice cur (i * 1) ds).length) := hide (by rw [hs1]; have := (unhide HC).2.1; omega)
    clear hs1
    have j1 : ((n - 1 : Nat) : Int) ≤ (n : Int) := by omega
    have j2 : ¬ (i + 1 = n - 1) := by omega
    have j3 : (0 : Int) ≤ ((n - 1 : Nat) : Int) := by omega
    have j4 : n - (n - 1) = 1 := by omega
    have tok1 : True := trivial
    go_wp2_with (first | (have _t := tok1; refine wpl_clearR rfl (.tmp 31) 25 9 _ 1 rfl Try.underlying25 Try.zeroValue9 [.string ⟨#[]⟩] zcS rfl zoS b (n - 1) (i + 1 - (n - 1)) (by simp [Act.eval, Act.put, j4]) (splice cur (i * 1) ds) 9 (unhide H1).here (unhide HF1) ?_; intro w2 H2; clear tok1))
    go_ret
    exact ⟨rfl, unhide fin w1 w2 (unhide H1) (unhide H2)⟩
  · go_enter Try.func38, Try.ntmps38
    go_wp2_with fail
    go_region_held3 (fun _ => True)
      (exact trivial)
      ((refine step_roomR (by rfl) (.tmp 22) (.tmp 25) 25 9 i0 1 (by rfl) Try.underlying25 hi0 hz1 b i cap ⟨b, i + 1, none⟩ (n - (i + 1)) (cap - (i + 1)) (by rfl) (by rfl) cur ds (unhide HG) (by have := unhide HL; omega) (unhide HS _ _ (unhide HG) (by intro _; rfl)) (unhide HP) (by omega) (unhide HF) ?_; rw [show i + (n - (i + 1)) = n - 1 by omega]; intro w1 H1))
    have hs1 : (splice cur (i * 1) ds).length = cur.length := length_splice _ _ _ (unhide HF)
    have HF1 : Hid (n - 1 + 1 ≤ (splice cur (i * 1) ds).length) := hide (by rw [hs1]; have := (unhide HC).2.1; omega)
    clear hs1
    have j1 : ((n - 1 : Nat) : Int) ≤ (n : Int) := by omega
    have j2 : ¬ (cap = n - 1) := by omega
    have j3 : (0 : Int) ≤ ((n - 1 : Nat) : Int) := by omega
    have j4 : n - (n - 1) = 1 := by omega
    have tok1 : True := trivial
    go_wp2_with (first | (have _t := tok1; refine wpl_clearR rfl (.tmp 31) 25 9 _ 1 rfl Try.underlying25 Try.zeroValue9 [.string ⟨#[]⟩] zcS rfl zoS b (n - 1) (cap - (n - 1)) (by simp [Act.eval, Act.put, j4]) (splice cur (i * 1) ds) 9 (unhide H1).here (unhide HF1) ?_; intro w2 H2; clear tok1))
    go_ret
    exact ⟨rfl, unhide fin w1 w2 (unhide H1) (unhide H2)⟩

end Go.Proofs.Ytcopkhmmpamboaa
