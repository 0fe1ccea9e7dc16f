/-
  Put into a table of whole numbers; no conditions but that its keys rise and the row's bytes are within 2^47.
-/
import Derived.Test.YtflopmhjgamcfaaTLowI
import Derived.Test.YtflopmhjgamcfaaTInsI
namespace Go.Proofs.Ytflopmhjgamcfaa
open Go.RowKit
set_option linter.unusedVariables false

theorem valsI_set (l : Prs) (L : Nat) (k v : Int) : valsI (l.set L (k, v)) = (valsI l).set L (.int .i64 k, .int .i64 v) := by simp [valsI, List.map_set]

theorem cells2_set : ∀ (l : List (Value × Value)) (i : Nat) (p : Value × Value) (y : Value), l[i]? = some p → cells2 (l.set i (p.1, y)) = (cells2 l).set (i * 2 + 1) y
  | [], i, p, y, h => by simp at h
  | q :: l, 0, p, y, h => by
    simp only [List.getElem?_cons_zero, Option.some.injEq] at h
    subst h
    simp [cells2_cons]
  | q :: l, i + 1, p, y, h => by
    rw [List.getElem?_cons_succ] at h
    rw [List.set_cons_succ, cells2_cons, cells2_cons, cells2_set l i p y h, show (i + 1) * 2 + 1 = (i * 2 + 1) + 1 + 1 by omega, List.set_cons_succ, List.set_cons_succ]

theorem onesI (l : Prs) : ∀ u ∈ cells2 (valsI l), u.oneCell' = true := by
  induction l with
  | nil => intro u hu; cases hu
  | cons p r ih =>
    intro u hu
    have e : valsI (p :: r) = (.int .i64 p.1, .int .i64 p.2) :: valsI r := rfl
    rw [e, cells2_cons, List.mem_cons, List.mem_cons] at hu
    rcases hu with rfl | rfl | hu
    · rfl
    · rfl
    · exact ih u hu

set_option maxRecDepth 100000 in
set_option maxHeartbeats 800000 in
theorem put_I {base g : Nat} {v : Value} {l : Prs} {w : World} (h : TabI w base g v l) (hg : some g ≠ v.ownBlock) (hr : RisesI l) (k x : Int) (hb : (l.length + 1) * 16 ≤ 140737488355328) (hbase : base ≤ w.heap.size) :
    Calls Try.prog 23 #[.pointer (some ⟨g, 0, none⟩), .int .i64 k, .int .i64 x] w fun e w' => ∃ v', e = .returned (.bool (has l k)) ∧ TabI w' base g v' (putL l k x) ∧ some g ≠ v'.ownBlock ∧ (∀ b, v'.ownBlock = some b → v.ownBlock = some b ∨ w.heap.size ≤ b) ∧ Turns w w' g v := by
  have CF := hide (find_I h hr k)
  have HH := hide h
  have HR := hide hr
  clear hr
  go_enter Try.func23, Try.ntmps23
  go_wp2_with fail
  refine (unhide CF).mono ?_
  rintro e w1 ⟨L, rfl, hL, hlow, q, rfl⟩
  have HL : Hid (L = low l k) := hide (low_eq (unhide HR) hL hlow)
  have c0 : (w.drewN q).cell? ⟨g, 0, none⟩ = some v := h.cell
  clear CF hlow h
  by_cases hk : (l.map Prod.fst)[L]? = some k
  · rw [decide_eq_true hk]
    obtain ⟨ao, cap, rfl, hcap, hmax, hnone, hsome⟩ := own_shape (unhide HH).row
    rw [valsI_len] at c0 hcap hnone
    obtain ⟨p, hp, hpk⟩ : ∃ p, l[L]? = some p ∧ p.1 = k := by
      rw [List.getElem?_map] at hk
      obtain ⟨p, hp, he⟩ := Option.map_eq_some_iff.1 hk
      exact ⟨p, hp, he⟩
    have hlt : L < l.length := (List.getElem?_eq_some_iff.1 hp).1
    obtain ⟨b, rfl⟩ : ∃ b, ao = some ⟨b, 0, none⟩ := by
      cases ao with
      | none => have := hnone rfl; omega
      | some ad => obtain ⟨b, rfl, _⟩ := hsome ad rfl; exact ⟨b, rfl⟩
    obtain ⟨cur, hbs, hgb, hc, hm, hcs, htk⟩ : ∃ cur : Array Value, base ≤ b ∧ w.heap[b]? = some (.cells cur 71 (0, 0)) ∧ l.length ≤ cap ∧ cap ≤ maxLen ∧ cur.size = cap * 2 ∧ cur.toList.take (l.length * 2) = cells2 (valsI l) := by
      rcases (unhide HH).row.2 with ⟨e, _⟩ | ⟨g', cap', cur, e, hb', hg', hc, hm, hs, ht⟩
      · cases e
      · cases e
        exact ⟨cur, hb', hg', by rw [valsI_len] at hc; exact hc, hm, hs, by rw [valsI_len] at ht; exact ht⟩
    have hpc : (w.drewN q).cell? ⟨b, L * 2 + 1, none⟩ = some (.int .i64 p.2) := by
      obtain ⟨b', e, _, _, hcell⟩ := hsome _ rfl
      cases e
      exact (hcell L _ (valsI_at hp)).2
    have hfr : (w.drewN q).frozen? ⟨b, L * 2 + 1, none⟩ = false := frozen_of_row (w.drewN q) b (L * 2 + 1) cur _ hgb
    have hmx : l.length ≤ 9223372036854775807 := by unfold maxLen at hm; omega
    have HX := hide (And.intro hbs (And.intro hgb (And.intro hc (And.intro hm (And.intro hcs htk)))))
    have HP := hide (And.intro hp hpk)
    have HKK := hide hk
    obtain ⟨n, hn⟩ : ∃ n, l.length = n := ⟨_, rfl⟩
    rw [hn] at c0 hlt hmx
    have HN := hide hn
    have i1 : (L : Int) < (n : Int) := by omega
    clear hbs hgb hc hm hcs htk hp hpk hk hn hsome hnone hcap hmax
    go_wp2_with fail
    go_ret
    obtain ⟨hbs, hgb, hc, hm, hcs, htk⟩ := unhide HX
    obtain ⟨hp, hpk⟩ := unhide HP
    have hn := unhide HN
    have hgb' : (w.drewN q).heap[b]? = some (.cells cur 71 (0, 0)) := hgb
    have hne : g ≠ b := fun e => hg (by rw [e]; rfl)
    have hlen : (valsI (l.set L (k, x))).length = (valsI l).length := by rw [valsI_len, valsI_len, List.length_set]
    have hcell : cells2 (valsI (l.set L (k, x))) = (cells2 (valsI l)).set (L * 2 + 1) (.int .i64 x) := by
      rw [valsI_set, ← hpk]
      exact cells2_set (valsI l) L _ _ (valsI_at hp)
    have hhas : has l k = true := by
      unfold has
      rw [← unhide HL]
      exact decide_eq_true (unhide HKK)
    have hput : putL l k x = l.set L (k, x) := by
      unfold putL
      rw [if_pos hhas, ← unhide HL]
    rw [hhas, hput]
    refine ⟨.slice (some ⟨b, 0, none⟩) (valsI l).length cap, rfl, ⟨?_, ?_⟩, hg, fun b' hb' => .inl hb', ⟨rfl, rfl, rfl, by simp, fun j hj hj1 hj2 => ?_⟩⟩
    · rw [heap_setCell_other _ _ _ _ hne]
      exact (unhide HH).here
    · rw [hlen]
      refine ⟨by rw [hcell, List.length_set, cells2_len], .inr ⟨b, cap, _, rfl, hbs, heap_setCell_same (w.drewN q) b (L * 2 + 1) cur _ (.int .i64 x) hgb', by rw [valsI_len]; exact hc, hm, by simpa using hcs, ?_⟩⟩
      rw [hcell, valsI_len, ← htk]
      simp [List.take_set]
    · rw [heap_setCell_other _ _ _ _ (fun e => hj2 (by rw [e]; rfl))]
      rfl
  · rw [decide_eq_false hk]
    go_wp2_with fail
    obtain ⟨w2, hw2⟩ : ∃ w2, (w.drewN q).alloc (.cells #[.int .i64 k, .int .i64 x] 71) = w2 := ⟨_, rfl⟩
    have M := new_pair (w.drewN q) (.int .i64 k) (.int .i64 x) 71
    rw [hw2] at M ⊢
    obtain ⟨m1, m2, m3⟩ := M
    have m1' : w2.heap[w.heap.size]? = some (.cells #[.int .i64 k, .int .i64 x] 71 (0, 0)) := m1
    have m2' : Below w.heap.size w w2 := ⟨m2.os, m2.tape, m2.output, m2.size, m2.block⟩
    have m3' : w2.heap.size = w.heap.size + 1 := m3
    have ho := own_below (unhide HH).row m2'
    have CI := insert_I base v (.int .i64 k) (.int .i64 x) (valsI l) L w.heap.size w2 ho m1' (fun e => by have := ((unhide HH).row.lt _ e).2; omega) rfl rfl (onesI l) (by rw [valsI_len]; exact hL) (by rw [valsI_len]; exact hb) (by omega)
    rw [valsI_len] at CI
    have HM := hide (And.intro m2' m3')
    have HKK := hide hk
    clear hw2 m1 m2 m3 m1' m2' m3' ho c0 hk
    refine CI.mono ?_
    rintro e w3 ⟨v3, rfl, o3, gr3⟩
    have g3 := gr3.grown
    obtain ⟨a3, c3', rfl⟩ := slice_of o3
    have gl : g < w.heap.size := (Array.getElem?_eq_some_iff.1 (unhide HH).here).1
    have e2 : w2.heap[g]? = some (.cells #[v] 73 (0, 0)) := ((unhide HM).1.block g gl).trans (unhide HH).here
    have e3 : w3.heap[g]? = some (.cells #[v] 73 (0, 0)) := (g3.block g (by have := (unhide HM).2; omega) hg).trans e2
    have c3 : w3.cell? ⟨g, 0, none⟩ = some v := by rw [cell_of_row w3 g 0 _ _ (0, 0) e3]; rfl
    have HO := hide (And.intro o3 (And.intro g3 e3))
    have f3 := frozen_of e3
    clear CI o3 g3 e2 e3
    go_wp2_with fail
    go_ret
    obtain ⟨o3, g3, e3⟩ := unhide HO
    have hn : some g ≠ (Value.slice a3 (l.length + 1) c3').ownBlock := fun e => by
      rcases gr3.row g e.symm with h | h
      · exact hg h.symm
      · have := (unhide HM).2
        omega
    have hlen : (l.take L ++ (k, x) :: l.drop L).length = l.length + 1 := by
      rw [List.length_append, List.length_cons, List.length_take, List.length_drop]
      omega
    have hhas : has l k = false := by
      unfold has
      rw [← unhide HL]
      exact decide_eq_false (unhide HKK)
    have hput : putL l k x = l.take L ++ (k, x) :: l.drop L := by
      unfold putL
      rw [if_neg (by rw [hhas]; simp), ← unhide HL]
    rw [hhas, hput]
    have hvals : valsI (l.take L ++ (k, x) :: l.drop L) = (valsI l).take L ++ (.int .i64 k, .int .i64 x) :: (valsI l).drop L := by simp [valsI, List.map_take, List.map_drop]
    refine ⟨.slice a3 (l.length + 1) c3', rfl, ⟨?_, ?_⟩, hn, fun b hb => ?_, ?_⟩
    · have := heap_setCell_same w3 g 0 _ _ (.slice a3 (l.length + 1) c3') e3
      exact this
    · rw [valsI_len, hlen, hvals]
      refine ⟨o3.1, ?_⟩
      rcases o3.2 with h | ⟨b, cap, cur, hv, hb', hg', rest⟩
      · exact .inl h
      · refine .inr ⟨b, cap, cur, hv, hb', ?_, rest⟩
        rw [heap_setCell_other _ _ _ _ (fun e => hn (by rw [hv]; simp [Value.ownBlock, e]))]
        exact hg'
    · rcases gr3.row b hb with h | h
      · exact Or.inl h
      · exact Or.inr (by have := (unhide HM).2; omega)
    · have b2 := (unhide HM).1
      refine ⟨?_, ?_, ?_, ?_, fun j hj hne hnv => ?_⟩
      · exact g3.os.trans b2.os
      · exact g3.tape.trans b2.tape
      · exact g3.output.trans b2.output
      · have := g3.size
        have := b2.size
        simp
        omega
      · rw [heap_setCell_other _ _ _ _ hne, g3.block j (by have := b2.size; omega) hnv, b2.block j hj]
end Go.Proofs.Ytflopmhjgamcfaa
