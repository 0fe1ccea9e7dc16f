/-
  Layer 12 (verify): the walks of leads and reach; conditions: the package's variables.
-/
import Derived.Test.YtdlgehnplkeoiaaDoorA31
import Derived.Deep.LoopGhost
set_option linter.unusedVariables false
set_option linter.unusedSimpArgs false
namespace Go.Proofs.YtdlgehnplkeoiaaDoor
open Go.RowKit
set_option linter.unusedVariables false
set_option linter.unusedSimpArgs false

theorem one_at {w : World} {G : Nat} {z : Int} {T : TypeId} (h : w.heap[G]? = some (.cells #[.int .i64 z] T (0, 0))) : RdI w (some ⟨G, 0, none⟩) [z] := fun j y hj => by
  match j with
  | 0 =>
    simp at hj
    subst hj
    exact ⟨_, rfl, by rw [add_offR, cell_of_row w G _ _ _ (0, 0) h]; rfl⟩
  | j + 1 => simp at hj

theorem two_at {w : World} {G : Nat} {y z : Int} {T : TypeId} (h : w.heap[G]? = some (.cells #[.int .i64 y, .int .i64 z] T (0, 0))) : RdI w (some ⟨G, 0, none⟩) [y, z] := fun j v hj => by
  match j with
  | 0 =>
    simp at hj
    subst hj
    exact ⟨_, rfl, by rw [add_offR, cell_of_row w G _ _ _ (0, 0) h]; rfl⟩
  | 1 =>
    simp at hj
    subst hj
    exact ⟨_, rfl, by rw [add_offR, cell_of_row w G _ _ _ (0, 0) h]; rfl⟩
  | j + 2 => simp at hj

set_option maxRecDepth 100000 in
set_option maxHeartbeats 4000000 in
theorem leads_any {w : World} {B g : Nat} {x : Bv} {m : Md} {fn : Fn} {ls : List Ins} {ps : List Int} {hv wv : Value} (h : SeeB w B g x m fn ls ps hv wv) (k : Nat) (op a : Int) (hi : ls[k]? = some (op, a)) (hkp : k < ps.length) (hts : fn.2.2.2.size ≤ 140737488351232) :
    Calls Tryd.prog 35 #[.pointer (some ⟨g, 0, none⟩), .int .i64 (k : Int)] w fun e w' => ∃ ao, (∃ cap, e = .returned (.slice ao (lds ps (fn.2.2.2.size : Int) k (op, a)).length cap)) ∧ RdI w' ao (lds ps (fn.2.2.2.size : Int) k (op, a)) ∧ Below w.heap.size w w' ∧ ∀ ad, ao = some ad → w.heap.size ≤ ad.block ∧ ad.block < w'.heap.size := by
  obtain ⟨G, hG⟩ : ∃ G, w.heap.size = G := ⟨_, rfl⟩
  obtain ⟨e0, e1, e2, e3, e4, e5, e6, e7, e8, e9, e10⟩ := h.cells
  obtain ⟨ai, hai, j0, j1⟩ := h.ins k _ hi
  simp only [] at j0 j1
  have hb8 := h.bp
  have hnp := h.lp
  have hnl := h.ll
  have hkl : k < ls.length := (List.getElem?_eq_some_iff.1 hi).1
  obtain ⟨w1, hw1⟩ : ∃ w1, w.alloc (.cells #[.int .i64 op, .int .i64 a] 47) = w1 := ⟨_, rfl⟩
  have B1 : Below w.heap.size w w1 := by rw [← hw1]; exact (Below.refl _ _).alloc (Nat.le_refl _) _
  have A1 : w1.heap[G]? = some (.cells #[.int .i64 op, .int .i64 a] 47 (0, 0)) := by rw [← hw1, ← hG]; exact heap_alloc_new _ _
  have Z1 : w1.heap.size = G + 1 := by rw [← hw1, ← hG]; simp
  have c0 : w1.cell? ⟨G, 0, none⟩ = some (.int .i64 op) := by rw [cell_of_row w1 _ 0 _ _ (0, 0) A1]; rfl
  have c1 : w1.cell? ⟨G, 1, none⟩ = some (.int .i64 a) := by rw [cell_of_row w1 _ 1 _ _ (0, 0) A1]; rfl
  obtain ⟨bh, hbh⟩ : ∃ bh, bhd ps (fn.2.2.2.size : Int) k = bh := ⟨_, rfl⟩
  have HB1 := hide (And.intro B1 (And.intro A1 Z1))
  obtain ⟨D, hD⟩ : ∃ D, lds ps (fn.2.2.2.size : Int) k (op, a) = D := ⟨_, rfl⟩
  have hD' := hD
  unfold lds at hD'
  rw [hbh] at hD'
  simp only [] at hD'
  rw [hD]
  have HD := hide hD'
  have NEW : Hid (∀ c : Array Value, ∃ u, u = w1.alloc (.cells c 3) ∧ Below w.heap.size w u ∧ u.heap[G + 1]? = some (.cells c 3 (0, 0))) := hide (fun c => ⟨_, rfl, B1.alloc B1.size _, by rw [← Z1]; exact heap_alloc_new _ _⟩)
  obtain ⟨fp, fl, fk, ft⟩ := fn
  obtain ⟨b1, n1, d1, b2, n2, d2, b3, n3, d3, bl, nl, dl, bp, np, dp⟩ := x
  simp only [] at e0 e1 e2 e3 e4 e5 e6 e7 e8 e9 e10 hai hb8 hnp hnl hbh hts
  have k1 : (k : Int) < (nl : Int) := by omega
  obtain ⟨q, hq⟩ : ∃ q : Nat, q = k + 1 := ⟨_, rfl⟩
  have hkw : IntKind.i64.wrap ((k : Int) + 1) = (q : Int) := by rw [IntKind.wrap_i64]; omega
  have HQ := hide hq
  subst hai
  have HS := hide h
  have HBH := hide hbh
  have HLp := hide hnp
  clear h hi hD hD' B1 A1 hbh hnp hnl e0 e1 e2 e3 e4 e5 e9 e10
  by_cases hk : q < np
  · have k2 : (q : Int) < (np : Int) := by omega
    obtain ⟨pz, hpz⟩ : ∃ pz, ps[q]? = some pz := ⟨_, List.getElem?_eq_getElem (by have := unhide HLp; omega)⟩
    obtain ⟨pa, hpa, r0⟩ := (unhide HS).pls q pz hpz
    simp only [] at hpa
    subst hpa
    have hbe : bh = pz := by
      have hh := unhide HBH
      unfold bhd at hh
      rw [if_pos (by have := unhide HLp; omega), ← hq, getD_of hpz] at hh
      exact hh.symm
    subst hbe
    clear hpz hq
    go_enter Tryd.func35, Tryd.ntmps35
    go_upto_region 5 with fail
    by_cases o9 : op = 9
    · subst o9
      have HE : Hid (D = []) := hide (by rw [← unhide HD, if_pos rfl])
      go_wp2_with fail
      go_ret
      exact ⟨none, ⟨0, by rw [unhide HE]; rfl⟩, by rw [unhide HE]; exact (fun j z hj => by simp at hj), by first | exact (unhide HB1).1 | (rw [← hG]; exact (unhide HB1).1), fun ad had => by cases had⟩
    · have q9 : (op == 9) = false := by simpa using o9
      by_cases o5 : op = 5
      · subst o5
        have HE : Hid (D = [a]) := hide (by rw [← unhide HD, if_neg o9, if_pos rfl])
        go_wp2_with fail
        go_ret
        obtain ⟨u, hu, hb, hr⟩ := unhide NEW #[.int .i64 a]
        rw [← hu]
        exact ⟨_, ⟨_, by rw [unhide HE]; rfl⟩, by rw [unhide HE]; exact one_at hr, by first | exact hb | (rw [← hG]; exact hb), fun ad had => by cases had; exact ⟨by simp only []; omega, (Array.getElem?_eq_some_iff.1 hr).1⟩⟩
      · have q5 : (op == 5) = false := by simpa using o5
        by_cases o6 : op = 6
        · subst o6
          have HE : Hid (D = [bh, a]) := hide (by rw [← unhide HD, if_neg o9, if_neg o5, if_pos rfl])
          go_wp2_with fail
          go_ret
          obtain ⟨u, hu, hb, hr⟩ := unhide NEW #[.int .i64 bh, .int .i64 a]
          rw [← hu]
          exact ⟨_, ⟨_, by rw [unhide HE]; rfl⟩, by rw [unhide HE]; exact two_at hr, by first | exact hb | (rw [← hG]; exact hb), fun ad had => by cases had; exact ⟨by simp only []; omega, (Array.getElem?_eq_some_iff.1 hr).1⟩⟩
        · have q6 : (op == 6) = false := by simpa using o6
          have HE : Hid (D = [bh]) := hide (by rw [← unhide HD, if_neg o9, if_neg o5, if_neg o6])
          go_wp2_with fail
          go_ret
          obtain ⟨u, hu, hb, hr⟩ := unhide NEW #[.int .i64 bh]
          rw [← hu]
          exact ⟨_, ⟨_, by rw [unhide HE]; rfl⟩, by rw [unhide HE]; exact one_at hr, by first | exact hb | (rw [← hG]; exact hb), fun ad had => by cases had; exact ⟨by simp only []; omega, (Array.getElem?_eq_some_iff.1 hr).1⟩⟩
  · have k2 : ¬ (q : Int) < (np : Int) := by omega
    have hbe : bh = (ft.size : Int) := by
      have hh := unhide HBH
      unfold bhd at hh
      rw [if_neg (by have := unhide HLp; omega)] at hh
      exact hh.symm
    subst hbe
    clear hq
    go_enter Tryd.func35, Tryd.ntmps35
    go_upto_region 5 with fail
    by_cases o9 : op = 9
    · subst o9
      have HE : Hid (D = []) := hide (by rw [← unhide HD, if_pos rfl])
      go_wp2_with fail
      go_ret
      exact ⟨none, ⟨0, by rw [unhide HE]; rfl⟩, by rw [unhide HE]; exact (fun j z hj => by simp at hj), by first | exact (unhide HB1).1 | (rw [← hG]; exact (unhide HB1).1), fun ad had => by cases had⟩
    · have q9 : (op == 9) = false := by simpa using o9
      by_cases o5 : op = 5
      · subst o5
        have HE : Hid (D = [a]) := hide (by rw [← unhide HD, if_neg o9, if_pos rfl])
        go_wp2_with fail
        go_ret
        obtain ⟨u, hu, hb, hr⟩ := unhide NEW #[.int .i64 a]
        rw [← hu]
        exact ⟨_, ⟨_, by rw [unhide HE]; rfl⟩, by rw [unhide HE]; exact one_at hr, by first | exact hb | (rw [← hG]; exact hb), fun ad had => by cases had; exact ⟨by simp only []; omega, (Array.getElem?_eq_some_iff.1 hr).1⟩⟩
      · have q5 : (op == 5) = false := by simpa using o5
        by_cases o6 : op = 6
        · subst o6
          have HE : Hid (D = [(ft.size : Int), a]) := hide (by rw [← unhide HD, if_neg o9, if_neg o5, if_pos rfl])
          go_wp2_with fail
          go_ret
          obtain ⟨u, hu, hb, hr⟩ := unhide NEW #[.int .i64 (ft.size : Int), .int .i64 a]
          rw [← hu]
          exact ⟨_, ⟨_, by rw [unhide HE]; rfl⟩, by rw [unhide HE]; exact two_at hr, by first | exact hb | (rw [← hG]; exact hb), fun ad had => by cases had; exact ⟨by simp only []; omega, (Array.getElem?_eq_some_iff.1 hr).1⟩⟩
        · have q6 : (op == 6) = false := by simpa using o6
          have HE : Hid (D = [(ft.size : Int)]) := hide (by rw [← unhide HD, if_neg o9, if_neg o5, if_neg o6])
          go_wp2_with fail
          go_ret
          obtain ⟨u, hu, hb, hr⟩ := unhide NEW #[.int .i64 (ft.size : Int)]
          rw [← hu]
          exact ⟨_, ⟨_, by rw [unhide HE]; rfl⟩, by rw [unhide HE]; exact one_at hr, by first | exact hb | (rw [← hG]; exact hb), fun ad had => by cases had; exact ⟨by simp only []; omega, (Array.getElem?_eq_some_iff.1 hr).1⟩⟩
end Go.Proofs.YtdlgehnplkeoiaaDoor
