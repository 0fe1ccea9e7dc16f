/-
  A table has what it must have; no conditions.
-/
import Derived.Test.YtflopmhjgamcfaaTAllI
set_option linter.unusedSimpArgs false
namespace Go.Proofs.Ytflopmhjgamcfaa
open Go.RowKit
set_option linter.unusedVariables false

set_option maxRecDepth 100000 in
set_option maxHeartbeats 1000000 in
theorem holds_I {base g : Nat} {v r : Value} {l : Prs} {w : World} (h : TabI w base g v l) (href : RefRow w r l) :
    Calls Try.prog 9 #[.agg #[.pointer (some ⟨g, 0, none⟩), r]] w fun e w' => e = .returned (.bool true) ∧ Below w.heap.size w w' := by
  obtain ⟨ao, rc, rfl, hcap, hmx, hnone, hcell⟩ := ref_cells href
  obtain ⟨w1, hw1⟩ : ∃ w1, w.alloc (.cells #[.pointer (some ⟨g, 0, none⟩), .slice ao l.length rc] 29) = w1 := ⟨_, rfl⟩
  obtain ⟨G, hG⟩ : ∃ G, w.heap.size = G := ⟨_, rfl⟩
  have N1 := heap_alloc_new w (.cells #[.pointer (some ⟨g, 0, none⟩), .slice ao l.length rc] 29)
  have B1 : Below w.heap.size w w1 := by rw [← hw1]; exact (Below.refl _ _).alloc (Nat.le_refl _) _
  rw [hw1, hG] at N1
  have gl : g < w.heap.size := (Array.getElem?_eq_some_iff.1 h.here).1
  have T1 : TabI w1 base g v l := h.later B1 gl (fun b hb => (h.row.lt b hb).2)
  obtain ⟨n, hn⟩ : ∃ n, l.length = n := ⟨_, rfl⟩
  rw [hn] at hcap N1 hw1 ⊢
  have CL : Hid (∀ q, Calls Try.prog 25 #[.pointer (some ⟨g, 0, none⟩)] (w1.drewN q) fun e w' => e = .returned (.int .i64 (n : Int)) ∧ ∃ q', w' = (w1.drewN q).drewN q') := hide (fun q => by
    have hT : TabI (w1.drewN q) base g v l := ⟨T1.here, T1.row.1, T1.row.2⟩
    refine (len_I hT).mono ?_
    rintro e w' ⟨rfl, rfl⟩
    exact ⟨by rw [hn], 0, rfl⟩)
  have AT : Hid (∀ (u : World), Below w1.heap.size w1 u → ∀ (i : Nat) (p : Int × Int), l[i]? = some p → (∃ b, ao = some ⟨b, 0, none⟩ ∧ u.cell? ⟨b, i * 2, none⟩ = some (.int .i64 p.1) ∧ u.cell? ⟨b, i * 2 + 1, none⟩ = some (.int .i64 p.2)) ∧ Calls Try.prog 21 #[.pointer (some ⟨g, 0, none⟩), .int .i64 i] u fun e w' => e = .returned (.tuple #[.int .i64 p.1, .int .i64 p.2, .bool true]) ∧ Below u.heap.size u w') := hide (fun u hu i p hp => by
    have gl1 : g < w1.heap.size := (Array.getElem?_eq_some_iff.1 T1.here).1
    refine ⟨?_, at_I (T1.later hu gl1 (fun b hb => (T1.row.lt b hb).2)) i p hp⟩
    obtain ⟨b, e1, d0, d1⟩ := hcell i p hp
    have hb1 := World.block_lt_of_cell? _ _ (by rw [d0])
    have e2 : u.heap[b]? = w.heap[b]? := (hu.block b (Nat.lt_of_lt_of_le hb1 B1.size)).trans (B1.block b hb1)
    exact ⟨b, e1, (World.cell?_of_block (w := w) e2).trans d0, (World.cell?_of_block (w := w) e2).trans d1⟩)
  have BX : Hid (∀ (u : World), Below w1.heap.size w1 u → u.cell? ⟨G, 0, none⟩ = some (.pointer (some ⟨g, 0, none⟩)) ∧ u.cell? ⟨G, 1, none⟩ = some (.slice ao n rc)) := hide (fun u hu => by
    have e1 := (hu.block G (Array.getElem?_eq_some_iff.1 N1).1).trans N1
    exact ⟨by rw [cell_of_row u G 0 _ _ (0, 0) e1]; rfl, by rw [cell_of_row u G 1 _ _ (0, 0) e1]; rfl⟩)
  have HN := hide hn
  have HB := hide B1
  have W1 := hide hw1
  have HG := hide hG
  clear h href hcell hnone T1 N1 B1 hw1 hG hn gl
  go_enter Try.func9, Try.ntmps9
  go_upto_region 1 with fail
  rw [unhide HG, unhide W1]
  obtain ⟨c0, c1⟩ := unhide BX w1 (Below.refl _ _)
  go_quiet ((go_at_call 25; exact Calls.quiet_of (unhide CL _)))
  have Q0 : Hid (Below w1.heap.size w1 (w1.drewN nq)) := hide (below_drewN (Below.refl _ _) nq)
  clear c0 c1
  go_wp2_with fail
  go_loopw [3] (fun x wr => ∃ i : Nat, i ≤ n ∧ x = .int .i64 i ∧ Hid (Below w1.heap.size w1 wr)) (fun x _ => n - (intOf x).toNat)
  case atStart => exact ⟨0, Nat.zero_le _, rfl, Q0⟩
  case round =>
    obtain ⟨i, hi, rfl, HQ⟩ := hrel
    obtain ⟨c0, c1⟩ := unhide BX wr (unhide HQ)
    by_cases hlt : i < n
    · have i1 : (i : Int) < (n : Int) := by omega
      obtain ⟨p, hp⟩ : ∃ p, l[i]? = some p := ⟨_, List.getElem?_eq_getElem (by have := unhide HN; omega)⟩
      have CA := hide (unhide AT wr (unhide HQ) i p hp).2
      have HP := hide hp
      clear hp
      go_wp2_with fail
      refine (unhide CA).mono ?_
      rintro e y1 ⟨rfl, d1⟩
      have Q1 : Hid (Below w1.heap.size w1 y1) := hide ((unhide HQ).trans (d1.mono (unhide HQ).size))
      obtain ⟨⟨b, hb, e0, e1⟩, _⟩ := unhide AT y1 (unhide Q1) i p (unhide HP)
      obtain ⟨f0, f1⟩ := unhide BX y1 (unhide Q1)
      subst hb
      clear d1 c0 c1 CA
      go_wp2_with fail
      go_roundw
      case rel => exact ⟨i + 1, by omega, by go_num, Q1⟩
      case measure => simp [intOf]; omega
    · obtain rfl : i = n := by omega
      have i1 : decide ((i : Int) < (i : Int)) = false := by simp
      have i2 : decide (i < i) = false := by simp
      go_wp2_with fail
      go_ret
      exact ⟨rfl, (unhide HB).trans ((unhide HQ).mono (unhide HB).size)⟩
end Go.Proofs.Ytflopmhjgamcfaa
