/-
  One step of a script over tables, of kind 0; no conditions but that the rows' bytes are within 2^47.
-/
import Derived.Test.YtflopmhjgamcfaaTDoesB
set_option linter.unusedSimpArgs false
namespace Go.Proofs.Ytflopmhjgamcfaa
open Go.RowKit
set_option linter.unusedVariables false

set_option maxRecDepth 100000 in
set_option maxHeartbeats 1000000 in
theorem does_0 {I : Nat → Obj → Prop} {w wr : World} {A cap : Nat} {es : List Ent} {N : Nat} (h : AllT I w wr (.slice (some ⟨A, 0, none⟩) es.length cap) es N) (hsame : ∀ a ∈ es, a.l = a.m) (h1 : 1 ≤ es.length) (h6 : es.length ≤ 6) (hN : (N + 2) * 16 ≤ 140737488355328) (kd on k x : Int) (hkd : ¬ kd = 1 ∧ ¬ kd = 2 ∧ ¬ kd = 3 ∧ ¬ kd = 4 ∧ ¬ kd = 5 ∧ ¬ kd = 6) :
    Calls Try.prog 11 #[.slice (some ⟨A, 0, none⟩) es.length cap, .agg #[.int .i64 kd, .int .i64 on, .int .i64 k, .int .i64 x]] wr fun e w' => DoesPost I w N e w' := by
  obtain ⟨w1, hw1⟩ : ∃ w1, wr.alloc (.cells #[.int .i64 kd, .int .i64 on, .int .i64 k, .int .i64 x] 36) = w1 := ⟨_, rfl⟩
  obtain ⟨G, hG⟩ : ∃ G, wr.heap.size = G := ⟨_, rfl⟩
  have N1 := heap_alloc_new wr (.cells #[.int .i64 kd, .int .i64 on, .int .i64 k, .int .i64 x] 36)
  have B1 : Below wr.heap.size wr w1 := by rw [← hw1]; exact (Below.refl _ _).alloc (Nat.le_refl _) _
  rw [hw1, hG] at N1
  have hA1 := h.later B1
  obtain ⟨m, hm⟩ : ∃ m, es.length = m := ⟨_, rfl⟩
  have hcap : m ≤ cap := by
    rcases h.row.2 with ⟨e, _⟩ | ⟨g, cap', cur, e, _, _, hc, _⟩
    · cases e
    · cases e; omega
  have HX := hide (And.intro hA1 N1)
  have HS := hide hsame
  have HM := hide hm
  have HG := hide hG
  have W1 := hide hw1
  rw [hm] at h1 h6 ⊢
  clear h hsame hm hG hw1 N1 B1 hA1
  go_enter Try.func11, Try.ntmps11
  go_upto_region 1 with fail
  rw [unhide HG, unhide W1]
  obtain ⟨s0, s1, s2, s3⟩ := stp_cells (unhide HX).2
  have m1 : (m : Int) ≤ 9223372036854775807 := by omega
  go_wp2_with fail
  refine (pick_I on m (by omega) (by omega) _).mono ?_
  rintro e u ⟨i, hi, rfl, rfl⟩
  have i1 : (i : Int) < (m : Int) := by omega
  obtain ⟨a, ha⟩ : ∃ a, es[i]? = some a := ⟨_, List.getElem?_eq_getElem (by have := unhide HM; omega)⟩
  obtain ⟨t0, t1⟩ := all_cells (unhide HX).1 ha
  have hoa := (unhide HX).1.ok i a ha
  have hl : a.l = a.m := unhide HS a (List.mem_of_getElem? ha)
  obtain ⟨ra, rc, hra, hrl, hrc, _⟩ := ref_cells hoa.ref
  have CF : Hid (∀ q, Calls Try.prog 12 #[.slice ra a.m.length rc, .int .i64 k] (u.drewN q) fun e w' => e = .returned (.tuple #[.int .i64 (low a.m k), .bool (has a.m k)]) ∧ ∃ q', w' = (u.drewN q).drewN q') := hide (fun q => by
    have := ref_find (w := u.drewN q) hoa.ref k
    rw [hra] at this
    exact this)
  rw [hra] at t1
  obtain ⟨M, hM⟩ : ∃ M, a.m.length = M := ⟨_, rfl⟩
  obtain ⟨L, hL⟩ : ∃ L, low a.m k = L := ⟨_, rfl⟩
  obtain ⟨hs, hhs⟩ : ∃ hs, has a.m k = hs := ⟨_, rfl⟩
  rw [hM] at t1 hrl
  rw [hM, hL, hhs] at CF
  have HA := hide (And.intro ha (And.intro hoa (And.intro hl (And.intro hra (And.intro hM (And.intro hL hhs))))))
  clear ha hoa hl hra hM hL hhs
  go_upto_region 2 with fail
  go_quiet ((go_at_call 12; exact Calls.quiet_of (unhide CF _)))
  obtain ⟨u2, hu2⟩ : ∃ u2, u.drewN nq = u2 := ⟨_, rfl⟩
  have X2 : Hid (AllT I w u2 (.slice (some ⟨A, 0, none⟩) es.length cap) es N ∧ u2.heap[G]? = some (.cells #[.int .i64 kd, .int .i64 on, .int .i64 k, .int .i64 x] 36 (0, 0)) ∧ u.heap.size ≤ u2.heap.size) := hide (by
    rw [← hu2]
    exact ⟨(unhide HX).1.later (below_drewN (Below.refl _ _) _), (unhide HX).2, Nat.le_refl _⟩)
  have s0' : u2.cell? ⟨G, 0, none⟩ = some (.int .i64 kd) := by rw [← hu2]; exact s0
  have s2' : u2.cell? ⟨G, 2, none⟩ = some (.int .i64 k) := by rw [← hu2]; exact s2
  have s3' : u2.cell? ⟨G, 3, none⟩ = some (.int .i64 x) := by rw [← hu2]; exact s3
  have t0' : u2.cell? ⟨A, i * 2, none⟩ = some (.pointer (some ⟨a.g, 0, none⟩)) := by rw [← hu2]; exact t0
  have t1' : u2.cell? ⟨A, i * 2 + 1, none⟩ = some (.slice ra M rc) := by rw [← hu2]; exact t1
  have hoa2 : Hid (EntOk w u2 N a) := hide ((unhide X2).1.ok i a (unhide HA).1)
  rw [hu2]
  clear s0 s1 s2 s3 t0 t1 CF hu2 HX
  have KEEP : Hid (∀ u3, Turns u2.drew u3 a.g a.v → u3.heap[G]? = u2.heap[G]? ∧ u3.heap[A]? = u2.heap[A]?) := hide (fun u3 ht => by
    obtain ⟨hX, hGb, _⟩ := unhide X2
    obtain ⟨curA, hA⟩ := row_blk hX.row rfl
    have ho := unhide hoa2
    have nr : ∀ (b : Nat) (c : Array Value) (t : TypeId), u2.heap[b]? = some (.cells c t (0, 0)) → t ≠ 71 → some b ≠ a.v.ownBlock := fun b c t hc ht' e' => by
      obtain ⟨cur, hcur⟩ := row_blk ho.tab.row e'.symm
      exact blk_ne hc hcur ht' rfl
    exact ⟨ht.block G (Array.getElem?_eq_some_iff.1 hGb).1 (blk_ne hGb ho.tab.here (by decide)) (nr _ _ _ hGb (by decide)), ht.block A (Array.getElem?_eq_some_iff.1 hA).1 (blk_ne hA ho.tab.here (by decide)) (nr _ _ _ hA (by decide))⟩)
  obtain ⟨n1, n2, n3, n4, n5, n6⟩ := hkd
  go_upto_region 28 with fail
  have X3 : Hid (AllT I w u2 (.slice (some ⟨A, 0, none⟩) es.length cap) es (N + 1)) := hide ((unhide X2).1.more (by omega))
  go_wp2_with fail
  go_ret2
  refine ⟨.slice (some ⟨A, 0, none⟩) m cap, es, rfl, by rw [← unhide HM]; exact unhide X3, unhide HS, by rw [unhide HM]; exact h1, by rw [unhide HM]; exact h6⟩
end Go.Proofs.Ytflopmhjgamcfaa
