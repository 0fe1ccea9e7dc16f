/-
  Layer 12, the document's own look: leads; conditions: the form's own reach.
  Layer 12: the instruction that is read at a place of a list is the list's, and the place behind it is the next; plain lists, no conditions.
  The document's own Most, width and Put (layer 8): an instruction behind bytes, in new memory; conditions: the bytes at most 2^47.
-/
import Derived.Test.YtcknoeepdjhnoaaGreatDoorH37
import Derived.Test.YtcknoeepdjhnoaaGreatDoorH33
import Derived.Test.YtcknoeepdjhnoaaGreatDoorH36
import Derived.Test.YtcknoeepdjhnoaaGreatDoorH12
set_option linter.unusedVariables false
set_option linter.unusedSimpArgs false
namespace Go.Proofs.YtcknoeepdjhnoaaGreatDoor
open Go.RowKit
set_option linter.unusedVariables false
set_option linter.unusedSimpArgs false

/-- heights by places, as a row -/
def HV (s : Sv) (L : Nat) : List Value := (List.range L).map fun (j : Nat) => Value.int .i64 ((s.1.lookup (j : Int)).getD (-1))
/-- which places wait, as a row -/
def WV (s : Sv) (L : Nat) : List Value := (List.range L).map fun (j : Nat) => Value.bool (decide ((j : Int) ∈ s.2))

theorem HV_at (s : Sv) (L j : Nat) (h : j < L) : (HV s L)[j]? = some (.int .i64 ((s.1.lookup (j : Int)).getD (-1))) := by
  unfold HV
  rw [List.getElem?_map, List.getElem?_range h]
  rfl
theorem WV_at (s : Sv) (L j : Nat) (h : j < L) : (WV s L)[j]? = some (.bool (decide ((j : Int) ∈ s.2))) := by
  unfold WV
  rw [List.getElem?_map, List.getElem?_range h]
  rfl
theorem HV_set (s : Sv) (L j : Nat) (h : Int) (W : List Int) : (HV s L).set j (.int .i64 h) = HV (((j : Int), h) :: s.1, W) L := by
  apply List.ext_getElem?
  intro k
  by_cases hk : k < L
  · rw [List.getElem?_set]
    by_cases e : j = k
    · subst e
      rw [if_pos rfl, if_pos (by unfold HV; simpa using hk), HV_at _ _ _ hk, lookup_cons', if_pos rfl]
      rfl
    · rw [if_neg e, HV_at _ _ _ hk, HV_at _ _ _ hk, lookup_cons', if_neg (by omega)]
  · rw [List.getElem?_eq_none (by unfold HV; simpa using hk), List.getElem?_eq_none (by unfold HV; simpa using hk)]
theorem WV_set (s : Sv) (L j : Nat) (H : List (Int × Int)) : (WV s L).set j (.bool true) = WV (H, insW (j : Int) s.2) L := by
  apply List.ext_getElem?
  intro k
  by_cases hk : k < L
  · rw [List.getElem?_set]
    by_cases e : j = k
    · subst e
      rw [if_pos rfl, if_pos (by unfold WV; simpa using hk), WV_at _ _ _ hk, decide_eq_true (by rw [insW_mem]; exact .inl rfl)]
    · rw [if_neg e, WV_at _ _ _ hk, WV_at _ _ _ hk]
      congr 2
      rw [decide_eq_decide, insW_mem]
      constructor
      · exact fun q => .inr q
      · rintro (q | q)
        · omega
        · exact q
  · rw [List.getElem?_eq_none (by unfold WV; simpa using hk), List.getElem?_eq_none (by unfold WV; simpa using hk)]

theorem own_put {w : World} {base : Nat} {e : TypeId} {size b n cap j : Nat} {xs : List Value} (h : w.ownsRow base e size (.slice (some ⟨b, 0, none⟩) n cap) n xs) (v : Value) : (w.setCell ⟨b, j, none⟩ v).ownsRow base e size (.slice (some ⟨b, 0, none⟩) n cap) n (xs.set j v) := by
  rcases h.2 with ⟨e1, _⟩ | ⟨g, cap', cur, e1, hbs, hg, h1, h2, h3, h4⟩
  · cases e1
  · cases e1
    refine ⟨by rw [List.length_set]; exact h.1, .inr ⟨b, cap, _, rfl, hbs, heap_setCell_same w b j _ e v hg, h1, h2, by simpa using h3, ?_⟩⟩
    rw [Array.toList_setIfInBounds, List.take_set, h4]

theorem own_cell {w : World} {base : Nat} {e : TypeId} {b n cap j : Nat} {xs : List Value} {v : Value} (h : w.ownsRow base e 1 (.slice (some ⟨b, 0, none⟩) n cap) n xs) (hv : xs[j]? = some v) : w.cell? ⟨b, j, none⟩ = some v ∧ w.frozen? ⟨b, j, none⟩ = false := by
  rcases h.2 with ⟨e1, _⟩ | ⟨g, cap', cur, e1, hbs, hg, h1, h2, h3, h4⟩
  · cases e1
  · cases e1
    refine ⟨?_, frozen_of_row w b j _ _ hg⟩
    rw [cell_of_row w b j _ _ (0, 0) hg]
    rw [← h4, List.getElem?_take] at hv
    split at hv
    · simpa using hv
    · cases hv

/-- a look whose heights and waits are as a state says -/
structure StK (w : World) (B g : Nat) (x : Kv) (m : Md) (fn : Fn) (ps : List Int) (L qh ch qw cw : Nat) (s : Sv) (lw : Int) : Prop where
  see : SeeK w B g x m fn ps (.slice (some ⟨qh, 0, none⟩) L ch) (.slice (some ⟨qw, 0, none⟩) L cw) lw
  oh : w.ownsRow (g + 1) 3 1 (.slice (some ⟨qh, 0, none⟩) L ch) L (HV s L)
  ow : w.ownsRow (g + 1) 4 1 (.slice (some ⟨qw, 0, none⟩) L cw) L (WV s L)
  low : ∀ a ∈ s.2, lw ≤ a
  bg : B ≤ g
  pg : ∀ a, x.ap = some a → a.block < g

/-- the state behind leads, and its low -/
def LdsK (w w' : World) (B g : Nat) (x : Kv) (m : Md) (fn : Fn) (ps : List Int) (L qh ch qw cw : Nat) (s : Sv) (lw a : Int) : Prop := ∃ lw', (lw' = lw ∨ lw' = a) ∧ lw' ≤ lw ∧ StK w' B g x m fn ps L qh ch qw cw s lw' ∧ Below g w w' ∧ ∀ k, k ≠ g → k ≠ qh → k ≠ qw → w'.heap[k]? = w.heap[k]?

/-- what lies below the look stays: so does what is read of it -/
theorem SeeK.keep {w w' : World} {B g : Nat} {x : Kv} {m : Md} {fn : Fn} {ps : List Int} {hv wv hv' wv' : Value} {lw lw' : Int} (h : SeeK w B g x m fn ps hv wv lw) (hb : Below g w w') (bg : B ≤ g) (pg : ∀ a, x.ap = some a → a.block < g)
    (box : w'.heap[g]? = some (.cells (x.cells hv' wv' lw') 71 (0, 0))) : SeeK w' B g x m fn ps hv' wv' lw' :=
  ⟨box, h.l1, h.l2, h.lf, h.mod.later (hb.mono bg), Nat.le_trans h.big hb.size, h.lp, h.bp, fun j z hj => by
    obtain ⟨a, ha, hc⟩ := h.pls j z hj
    exact ⟨a, ha, cell_ne hc (hb.block _ (by rw [add_block]; exact pg a ha))⟩⟩

set_option maxRecDepth 100000 in
set_option maxHeartbeats 4000000 in
theorem leadsK_any {w : World} {B g : Nat} {x : Kv} {m : Md} {fn : Fn} {ps : List Int} {L qh ch qw cw : Nat} {s : Sv} {lw : Int} (h : StK w B g x m fn ps L qh ch qw cw s lw) (hL : L ≤ 4000) (a : Nat) (ht : Int) (ha : a ≤ L) (h0 : ∀ b y, s.1.lookup b = some y → 0 ≤ y) (hlw : -9223372036854775808 ≤ lw ∧ lw ≤ 9223372036854775807) :
    Calls Tryz.prog 80 #[.pointer (some ⟨g, 0, none⟩), .int .i64 (a : Int), .int .i64 ht] w fun e w' => e = .returned (.int .i64 (rch (L : Int) (a : Int) ht s).2) ∧ LdsK w w' B g x m fn ps L qh ch qw cw (rch (L : Int) (a : Int) ht s).1 lw (a : Int) := by
  obtain ⟨j0, j1, j3, j5, j6, j7, j8⟩ := h.see.at
  have HK := hide h
  have qhb := (h.oh.lt qh rfl)
  have qwb := (h.ow.lt qw rfl)
  have hqq : qh ≠ qw := fun e => apart_at h.oh h.ow (by decide) qh rfl (by rw [e]; rfl)
  clear h
  by_cases haL : a = L
  · have HE : Hid (rch (L : Int) (a : Int) ht s = (s, 127)) := hide (by
      unfold rch
      rw [if_pos (by omega)])
    rw [unhide HE]
    have l1 : (L : Int) ≤ (a : Int) := by omega
    go_enter Tryz.func80, Tryz.ntmps80
    go_wp2_with fail
    go_ret
    exact ⟨rfl, ⟨lw, .inl rfl, Int.le_refl _, unhide HK, Below.refl _ _, fun _ _ _ _ => rfl⟩⟩
  · have hlt : a < L := by omega
    have l1 : ¬ (L : Int) ≤ (a : Int) := by omega
    have l2 : (a : Int) < (L : Int) := by omega
    have l3 : (0 : Int) ≤ (a : Int) := by omega
    obtain ⟨ce, fz⟩ := own_cell (unhide HK).oh (HV_at s L a hlt)
    cases hlk : s.1.lookup (a : Int) with
    | some y =>
      have hy0 := h0 _ y hlk
      rw [hlk] at ce
      simp only [Option.getD_some] at ce
      have qy : (y == -1) = false := by simp; omega
      by_cases hyh : y = ht
      · subst hyh
        have HE : Hid (rch (L : Int) (a : Int) y s = (s, 0)) := hide (by
          unfold rch
          rw [if_neg (by omega), hlk]
          simp)
        rw [unhide HE]
        clear hlk h0
        go_enter Tryz.func80, Tryz.ntmps80
        go_wp2_with fail
        go_ret
        exact ⟨rfl, ⟨lw, .inl rfl, Int.le_refl _, unhide HK, Below.refl _ _, fun _ _ _ _ => rfl⟩⟩
      · have qyh : (y == ht) = false := by simpa using hyh
        have HE : Hid (rch (L : Int) (a : Int) ht s = (s, 126)) := hide (by
          unfold rch
          rw [if_neg (by omega), hlk]
          simp [hyh])
        rw [unhide HE]
        clear hlk h0
        go_enter Tryz.func80, Tryz.ntmps80
        go_wp2_with fail
        go_ret
        exact ⟨rfl, ⟨lw, .inl rfl, Int.le_refl _, unhide HK, Below.refl _ _, fun _ _ _ _ => rfl⟩⟩
    | none =>
      rw [hlk] at ce
      simp only [Option.getD_none] at ce
      have HE : Hid (rch (L : Int) (a : Int) ht s = ((((a : Int), ht) :: s.1, insW (a : Int) s.2), 0)) := hide (by
        unfold rch
        rw [if_neg (by omega), hlk])
      rw [unhide HE]
      clear hlk h0
      obtain ⟨w1, hw1⟩ : ∃ w1, w.setCell ⟨qh, a, none⟩ (.int .i64 ht) = w1 := ⟨_, rfl⟩
      have o1 : w1.ownsRow (g + 1) 3 1 (.slice (some ⟨qh, 0, none⟩) L ch) L ((HV s L).set a (.int .i64 ht)) := by rw [← hw1]; exact own_put (unhide HK).oh _
      have p1 : w1.ownsRow (g + 1) 4 1 (.slice (some ⟨qw, 0, none⟩) L cw) L (WV s L) := own_later (unhide HK).ow (fun b _ hb => by rw [← hw1]; exact heap_setCell_other _ _ _ _ (fun e => hqq (by have e1 : qw = b := Option.some.inj hb; have e2 : b = qh := e; omega)))
      have x1 : w1.heap[g]? = some (.cells (x.cells (.slice (some ⟨qh, 0, none⟩) L ch) (.slice (some ⟨qw, 0, none⟩) L cw) lw) 71 (0, 0)) := by rw [← hw1, heap_setCell_other _ _ _ _ (show g ≠ qh by omega)]; exact (unhide HK).see.box
      have b1 : Below g w w1 := by rw [← hw1]; exact (Below.refl _ _).setCell (p := ⟨qh, a, none⟩) (by show g ≤ qh; omega) _
      have k1 := (unhide HK).see.keep b1 (unhide HK).bg (unhide HK).pg x1
      obtain ⟨w2, hw2⟩ : ∃ w2, w1.setCell ⟨qw, a, none⟩ (.bool true) = w2 := ⟨_, rfl⟩
      have o2 : w2.ownsRow (g + 1) 3 1 (.slice (some ⟨qh, 0, none⟩) L ch) L ((HV s L).set a (.int .i64 ht)) := own_later o1 (fun b _ hb => by rw [← hw2]; exact heap_setCell_other _ _ _ _ (fun e => hqq (by have e1 : qh = b := Option.some.inj hb; have e2 : b = qw := e; omega)))
      have p2 : w2.ownsRow (g + 1) 4 1 (.slice (some ⟨qw, 0, none⟩) L cw) L ((WV s L).set a (.bool true)) := by rw [← hw2]; exact own_put p1 _
      have x2 : w2.heap[g]? = some (.cells (x.cells (.slice (some ⟨qh, 0, none⟩) L ch) (.slice (some ⟨qw, 0, none⟩) L cw) lw) 71 (0, 0)) := by rw [← hw2, heap_setCell_other _ _ _ _ (show g ≠ qw by omega)]; exact x1
      have b2 : Below g w w2 := by rw [← hw2]; exact b1.setCell (p := ⟨qw, a, none⟩) (by show g ≤ qw; omega) _
      have k2 := (unhide HK).see.keep b2 (unhide HK).bg (unhide HK).pg x2
      obtain ⟨mn, hmn⟩ : ∃ mn, (if (a : Int) < lw then (a : Int) else lw) = mn := ⟨_, rfl⟩
      have hmn2 : (mn = lw ∨ mn = (a : Int)) ∧ mn ≤ lw ∧ mn ≤ (a : Int) := by
        rw [← hmn]
        split <;> omega
      obtain ⟨w3, hw3⟩ : ∃ w3, w2.setCell ⟨g, 8, none⟩ (.int .i64 mn) = w3 := ⟨_, rfl⟩
      have o3 : w3.ownsRow (g + 1) 3 1 (.slice (some ⟨qh, 0, none⟩) L ch) L ((HV s L).set a (.int .i64 ht)) := own_later o2 (fun b hl hb => by rw [← hw3]; exact heap_setCell_other _ _ _ _ (fun e => by have e1 : qh = b := Option.some.inj hb; have e2 : b = g := e; omega))
      have p3 : w3.ownsRow (g + 1) 4 1 (.slice (some ⟨qw, 0, none⟩) L cw) L ((WV s L).set a (.bool true)) := own_later p2 (fun b hl hb => by rw [← hw3]; exact heap_setCell_other _ _ _ _ (fun e => by have e1 : qw = b := Option.some.inj hb; have e2 : b = g := e; omega))
      have x3 : w3.heap[g]? = some (.cells (x.cells (.slice (some ⟨qh, 0, none⟩) L ch) (.slice (some ⟨qw, 0, none⟩) L cw) mn) 71 (0, 0)) := by
        have e0 := heap_setCell_same w2 g 8 _ 71 (.int .i64 mn) x2
        rw [hw3] at e0
        simpa only [Kv.cells, List.setIfInBounds_toArray, List.set_cons_zero, List.set_cons_succ] using e0
      have b3 : Below g w w3 := by rw [← hw3]; exact b2.setCell (p := ⟨g, 8, none⟩) (Nat.le_refl _) _
      have k3 := (unhide HK).see.keep b3 (unhide HK).bg (unhide HK).pg x3
      have HFIN : Hid (StK w3 B g x m fn ps L qh ch qw cw (((a : Int), ht) :: s.1, insW (a : Int) s.2) mn ∧ Below g w w3 ∧ ∀ k, k ≠ g → k ≠ qh → k ≠ qw → w3.heap[k]? = w.heap[k]?) := hide ⟨⟨k3, by rw [← HV_set s L a ht (insW (a : Int) s.2)]; exact o3, by rw [← WV_set s L a (((a : Int), ht) :: s.1)]; exact p3, fun b hb => by
        rcases (insW_mem (a : Int) b s.2).1 hb with q | q
        · omega
        · have := (unhide HK).low b q
          omega, (unhide HK).bg, (unhide HK).pg⟩, b3, fun k h1 h2 h3 => by rw [← hw3, heap_setCell_other _ _ _ _ h1, ← hw2, heap_setCell_other _ _ _ _ h3, ← hw1, heap_setCell_other _ _ _ _ h2]⟩
      obtain ⟨m0, m1, m3, m5, m6, m7, m8⟩ := k1.at
      obtain ⟨r0, r1, r3, r5, r6, r7, r8⟩ := k2.at
      obtain ⟨v0, v1, v3, v5, v6, v7, v8⟩ := k3.at
      obtain ⟨cw1, fw1⟩ := own_cell p1 (WV_at s L a hlt)
      have fg2 := frozen_of_row w2 g 8 _ _ x2
      have ch3 : w3.cell? ⟨qh, a, none⟩ = some (.int .i64 ht) := (own_cell o3 (by rw [List.getElem?_set, if_pos rfl, if_pos (by unfold HV; simpa using hlt)])).1
      have HMN := hide hmn
      have HM2 := hide hmn2
      clear o1 p1 x1 b1 k1 o2 p2 x2 b2 k2 o3 p3 x3 b3 k3
      have HW1 := hide hw1
      have HW2 := hide hw2
      have HW3 := hide hw3
      clear hw1 hw2 hw3
      go_enter Tryz.func80, Tryz.ntmps80
      go_upto_region 5 with fail
      rw [unhide HW1]
      clear ce fz j0 j1 j3 j5 j6 j7 j8
      go_upto_region 6 with fail
      rw [unhide HW2]
      clear cw1 fw1 m0 m1 m3 m5 m6 m7 m8
      by_cases hal : (a : Int) < lw
      · obtain rfl : mn = (a : Int) := by rw [← unhide HMN, if_pos hal]
        go_upto_region 7 with fail
        rw [unhide HW3]
        go_wp2_with fail
        go_ret
        exact ⟨rfl, ⟨_, .inr rfl, by omega, (unhide HFIN).1, (unhide HFIN).2.1, (unhide HFIN).2.2⟩⟩
      · have hme : mn = lw := by rw [← unhide HMN, if_neg hal]
        rw [hme] at HW3 HFIN
        go_upto_region 7 with fail
        rw [unhide HW3]
        go_wp2_with fail
        go_ret
        exact ⟨rfl, ⟨_, .inl rfl, Int.le_refl _, (unhide HFIN).1, (unhide HFIN).2.1, (unhide HFIN).2.2⟩⟩
end Go.Proofs.YtcknoeepdjhnoaaGreatDoor

namespace Go.Proofs.YtcknoeepdjhnoaaGreatDoor
open Go.RowKit

theorem bhd_succ (p : Int) (ps : List Int) (L : Int) (k : Nat) : bhd (p :: ps) L (k + 1) = bhd ps L k := by
  unfold bhd
  simp only [List.length_cons, List.getD_cons_succ]
  by_cases h : k + 1 < ps.length
  · rw [if_pos h, if_pos (by omega)]
  · rw [if_neg h, if_neg (by omega)]

theorem lst_at (zs : List Int) : ∀ f p, (lst zs f p).2.2.2 = 0 → zs.length ≤ p + f → ∀ (k : Nat) (a : Int) (i : Ins), (lst zs f p).2.1[k]? = some a → (lst zs f p).1[k]? = some i → takeI zs a = (i.1, i.2, bhd (lst zs f p).2.1 (zs.length : Int) k, 0)
  | 0, p, _, _, k, a, i, ha, _ => by simp [lst] at ha
  | f + 1, p, h, hf, k, a, i, ha, hi => by
    unfold lst at h ha hi ⊢
    by_cases hp : zs.length ≤ p
    · rw [if_pos hp] at ha
      simp at ha
    · rw [if_neg hp] at h ha hi ⊢
      by_cases ht : (takeI zs (p : Int)).2.2.2 = 0
      · rw [if_pos ht] at h ha hi ⊢
        have hg := take_good zs p ht
        obtain ⟨n, hn⟩ : ∃ n : Nat, (takeI zs (p : Int)).2.2.1 = (n : Int) := ⟨(takeI zs (p : Int)).2.2.1.toNat, by have := hg.2.2.2.2.1; omega⟩
        have hpn : p < n := by have := hg.2.2.2.2.1; omega
        have hnl : n ≤ zs.length := by have := hg.2.2.2.2.1; have := hg.2.2.2.2.2; omega
        rw [hn, Int.toNat_natCast] at h ha hi ⊢
        have ih := lst_at zs f n
        have gd := lst_good zs f n
        generalize lst zs f n = R at h ha hi ih gd ⊢
        have h0 : R.2.2.2 = 0 := by
          unfold glue at h
          split at h
          · assumption
          · rename_i hc; exact absurd h hc
        unfold glue at ha hi ⊢
        rw [if_pos h0] at ha hi ⊢
        simp only [List.singleton_append] at ha hi ⊢
        cases k with
        | zero =>
          simp only [List.getElem?_cons_zero, Option.some.injEq] at ha hi
          subst ha hi
          simp only []
          have hb : bhd ((p : Int) :: R.2.1) (zs.length : Int) 0 = (n : Int) := by
            unfold bhd
            by_cases hr : R.2.1 = []
            · rw [hr, if_neg (by simp)]
              by_cases hnn : n < zs.length
              · obtain ⟨r, e⟩ := (gd h0).2.2.2.2 hnn (by omega)
                rw [hr] at e
                cases e
              · omega
            · have hl : 0 < R.2.1.length := List.length_pos_iff.2 hr
              rw [if_pos (by simp only [List.length_cons]; omega)]
              by_cases hnn : n < zs.length
              · by_cases hf0 : 0 < f
                · obtain ⟨r, e⟩ := (gd h0).2.2.2.2 hnn hf0
                  rw [e]
                  rfl
                · omega
              · obtain ⟨y, ys, e⟩ := List.exists_cons_of_ne_nil hr
                have := ((gd h0).2.1 y (by rw [e]; exact List.mem_cons_self))
                omega
          rw [hb, ← hn, ← ht]
        | succ k =>
          simp only [List.getElem?_cons_succ] at ha hi
          rw [bhd_succ]
          exact ih h0 (by omega) k a i ha hi
      · rw [if_neg ht] at h
        exact absurd h ht

/-- of a text's instructions -/
theorem lsF_at {t : ByteArray} (h : (lsF t).2.2.2 = 0) {k : Nat} {a : Int} {i : Ins} (ha : (lsF t).2.1[k]? = some a) (hi : (lsF t).1[k]? = some i) : takeI (zsT t) a = (i.1, i.2, bhd (lsF t).2.1 (t.size : Int) k, 0) := by
  have := lst_at (zsT t) (zsT t).length 0 h (by omega) k a i ha hi
  rw [zsT_len] at this
  unfold lsF
  rw [zsT_len]
  exact this
end Go.Proofs.YtcknoeepdjhnoaaGreatDoor

namespace Go.Proofs.YtcknoeepdjhnoaaGreatDoor
open Go.RowKit

set_option maxRecDepth 100000 in
theorem most_any (k : Nat) (w : World) (hk : k ≤ 5) :
    Calls Tryz.prog 77 #[.int .i64 (k : Int)] w fun e w' => e = .returned (.int .i64 (mst k)) ∧ Below w.heap.size w w' := by
  have e : mst k = ([0, 99, 31, 3999, 23, 40] : List Int).getD k 0 := by
    unfold mst
    rw [OPD_is]
    match k, hk with
    | 0, _ => rfl
    | 1, _ => rfl
    | 2, _ => rfl
    | 3, _ => rfl
    | 4, _ => rfl
    | 5, _ => rfl
  rw [e]
  match k, hk with
  | 0, _ => go_enter Tryz.func77, Tryz.ntmps77; go_wp2_with fail; go_ret; exact ⟨rfl, (Below.refl _ _).alloc (Nat.le_refl _) _⟩
  | 1, _ => go_enter Tryz.func77, Tryz.ntmps77; go_wp2_with fail; go_ret; exact ⟨rfl, (Below.refl _ _).alloc (Nat.le_refl _) _⟩
  | 2, _ => go_enter Tryz.func77, Tryz.ntmps77; go_wp2_with fail; go_ret; exact ⟨rfl, (Below.refl _ _).alloc (Nat.le_refl _) _⟩
  | 3, _ => go_enter Tryz.func77, Tryz.ntmps77; go_wp2_with fail; go_ret; exact ⟨rfl, (Below.refl _ _).alloc (Nat.le_refl _) _⟩
  | 4, _ => go_enter Tryz.func77, Tryz.ntmps77; go_wp2_with fail; go_ret; exact ⟨rfl, (Below.refl _ _).alloc (Nat.le_refl _) _⟩
  | 5, _ => go_enter Tryz.func77, Tryz.ntmps77; go_wp2_with fail; go_ret; exact ⟨rfl, (Below.refl _ _).alloc (Nat.le_refl _) _⟩

set_option maxRecDepth 100000 in
theorem width_any (k : Nat) (w : World) (hk : k ≤ 5) :
    Calls Tryz.prog 76 #[.int .i64 (k : Int)] w fun e w' => e = .returned (.int .i64 (siz k : Int)) ∧ Below w.heap.size w w' := by
  have e : ((siz k : Nat) : Int) = ([0, 1, 1, 2, 1, 1] : List Int).getD k 0 := by
    unfold siz
    rw [OPD_is]
    match k, hk with
    | 0, _ => rfl
    | 1, _ => rfl
    | 2, _ => rfl
    | 3, _ => rfl
    | 4, _ => rfl
    | 5, _ => rfl
  rw [e]
  match k, hk with
  | 0, _ => go_enter Tryz.func76, Tryz.ntmps76; go_wp2_with fail; go_ret; exact ⟨rfl, (Below.refl _ _).alloc (Nat.le_refl _) _⟩
  | 1, _ => go_enter Tryz.func76, Tryz.ntmps76; go_wp2_with fail; go_ret; exact ⟨rfl, (Below.refl _ _).alloc (Nat.le_refl _) _⟩
  | 2, _ => go_enter Tryz.func76, Tryz.ntmps76; go_wp2_with fail; go_ret; exact ⟨rfl, (Below.refl _ _).alloc (Nat.le_refl _) _⟩
  | 3, _ => go_enter Tryz.func76, Tryz.ntmps76; go_wp2_with fail; go_ret; exact ⟨rfl, (Below.refl _ _).alloc (Nat.le_refl _) _⟩
  | 4, _ => go_enter Tryz.func76, Tryz.ntmps76; go_wp2_with fail; go_ret; exact ⟨rfl, (Below.refl _ _).alloc (Nat.le_refl _) _⟩
  | 5, _ => go_enter Tryz.func76, Tryz.ntmps76; go_wp2_with fail; go_ret; exact ⟨rfl, (Below.refl _ _).alloc (Nat.le_refl _) _⟩
end Go.Proofs.YtcknoeepdjhnoaaGreatDoor
