/-
  One step of a script over tables, of kind 1; no conditions but that the rows' bytes are within 2^47.
-/
import Derived.Test.YtflopmhjgamcfaaTDoesB
set_option linter.unusedSimpArgs false
namespace Go.Proofs.Ytflopmhjgamcfaa
open Go.RowKit
set_option linter.unusedVariables false

set_option maxRecDepth 100000 in
set_option maxHeartbeats 1000000 in
theorem does_1 {I : Nat → Obj → Prop} {w wr : World} {A cap : Nat} {es : List Ent} {N : Nat} (h : AllT I w wr (.slice (some ⟨A, 0, none⟩) es.length cap) es N) (hsame : ∀ a ∈ es, a.l = a.m) (h1 : 1 ≤ es.length) (h6 : es.length ≤ 6) (hN : (N + 2) * 16 ≤ 140737488355328) (kd on k x : Int) (hkd : kd = 1) :
    Calls Try.prog 11 #[.slice (some ⟨A, 0, none⟩) es.length cap, .agg #[.int .i64 kd, .int .i64 on, .int .i64 k, .int .i64 x]] wr fun e w' => DoesPost I w N e w' := by
  have HKD := hide hkd
  clear hkd
  obtain ⟨w1, hw1⟩ : ∃ w1, wr.alloc (.cells #[.int .i64 kd, .int .i64 on, .int .i64 k, .int .i64 x] 36) = w1 := ⟨_, rfl⟩
  obtain ⟨G, hG⟩ : ∃ G, wr.heap.size = G := ⟨_, rfl⟩
  have N1 := heap_alloc_new wr (.cells #[.int .i64 kd, .int .i64 on, .int .i64 k, .int .i64 x] 36)
  have B1 : Below wr.heap.size wr w1 := by rw [← hw1]; exact (Below.refl _ _).alloc (Nat.le_refl _) _
  rw [hw1, hG] at N1
  have hA1 := h.later B1
  obtain ⟨m, hm⟩ : ∃ m, es.length = m := ⟨_, rfl⟩
  have hcap : m ≤ cap := by
    rcases h.row.2 with ⟨e, _⟩ | ⟨g, cap', cur, e, _, _, hc, _⟩
    · cases e
    · cases e; omega
  have HX := hide (And.intro hA1 N1)
  have HS := hide hsame
  have HM := hide hm
  have HG := hide hG
  have W1 := hide hw1
  rw [hm] at h1 h6 ⊢
  clear h hsame hm hG hw1 N1 B1 hA1
  go_enter Try.func11, Try.ntmps11
  go_upto_region 1 with fail
  rw [unhide HG, unhide W1]
  obtain ⟨s0, s1, s2, s3⟩ := stp_cells (unhide HX).2
  have m1 : (m : Int) ≤ 9223372036854775807 := by omega
  go_wp2_with fail
  refine (pick_I on m (by omega) (by omega) _).mono ?_
  rintro e u ⟨i, hi, rfl, rfl⟩
  have i1 : (i : Int) < (m : Int) := by omega
  obtain ⟨a, ha⟩ : ∃ a, es[i]? = some a := ⟨_, List.getElem?_eq_getElem (by have := unhide HM; omega)⟩
  obtain ⟨t0, t1⟩ := all_cells (unhide HX).1 ha
  have hoa := (unhide HX).1.ok i a ha
  have hl : a.l = a.m := unhide HS a (List.mem_of_getElem? ha)
  obtain ⟨ra, rc, hra, hrl, hrc, _⟩ := ref_cells hoa.ref
  have CF : Hid (∀ q, Calls Try.prog 12 #[.slice ra a.m.length rc, .int .i64 k] (u.drewN q) fun e w' => e = .returned (.tuple #[.int .i64 (low a.m k), .bool (has a.m k)]) ∧ ∃ q', w' = (u.drewN q).drewN q') := hide (fun q => by
    have := ref_find (w := u.drewN q) hoa.ref k
    rw [hra] at this
    exact this)
  rw [hra] at t1
  obtain ⟨M, hM⟩ : ∃ M, a.m.length = M := ⟨_, rfl⟩
  obtain ⟨L, hL⟩ : ∃ L, low a.m k = L := ⟨_, rfl⟩
  obtain ⟨hs, hhs⟩ : ∃ hs, has a.m k = hs := ⟨_, rfl⟩
  rw [hM] at t1 hrl
  rw [hM, hL, hhs] at CF
  have HA := hide (And.intro ha (And.intro hoa (And.intro hl (And.intro hra (And.intro hM (And.intro hL hhs))))))
  clear ha hoa hl hra hM hL hhs
  go_upto_region 2 with fail
  go_quiet ((go_at_call 12; exact Calls.quiet_of (unhide CF _)))
  obtain ⟨u2, hu2⟩ : ∃ u2, u.drewN nq = u2 := ⟨_, rfl⟩
  have X2 : Hid (AllT I w u2 (.slice (some ⟨A, 0, none⟩) es.length cap) es N ∧ u2.heap[G]? = some (.cells #[.int .i64 kd, .int .i64 on, .int .i64 k, .int .i64 x] 36 (0, 0)) ∧ u.heap.size ≤ u2.heap.size) := hide (by
    rw [← hu2]
    exact ⟨(unhide HX).1.later (below_drewN (Below.refl _ _) _), (unhide HX).2, Nat.le_refl _⟩)
  have s0' : u2.cell? ⟨G, 0, none⟩ = some (.int .i64 kd) := by rw [← hu2]; exact s0
  have s2' : u2.cell? ⟨G, 2, none⟩ = some (.int .i64 k) := by rw [← hu2]; exact s2
  have s3' : u2.cell? ⟨G, 3, none⟩ = some (.int .i64 x) := by rw [← hu2]; exact s3
  have t0' : u2.cell? ⟨A, i * 2, none⟩ = some (.pointer (some ⟨a.g, 0, none⟩)) := by rw [← hu2]; exact t0
  have t1' : u2.cell? ⟨A, i * 2 + 1, none⟩ = some (.slice ra M rc) := by rw [← hu2]; exact t1
  have hoa2 : Hid (EntOk w u2 N a) := hide ((unhide X2).1.ok i a (unhide HA).1)
  rw [hu2]
  clear s0 s1 s2 s3 t0 t1 CF hu2 HX
  have KEEP : Hid (∀ u3, Turns u2.drew u3 a.g a.v → u3.heap[G]? = u2.heap[G]? ∧ u3.heap[A]? = u2.heap[A]?) := hide (fun u3 ht => by
    obtain ⟨hX, hGb, _⟩ := unhide X2
    obtain ⟨curA, hA⟩ := row_blk hX.row rfl
    have ho := unhide hoa2
    have nr : ∀ (b : Nat) (c : Array Value) (t : TypeId), u2.heap[b]? = some (.cells c t (0, 0)) → t ≠ 71 → some b ≠ a.v.ownBlock := fun b c t hc ht' e' => by
      obtain ⟨cur, hcur⟩ := row_blk ho.tab.row e'.symm
      exact blk_ne hc hcur ht' rfl
    exact ⟨ht.block G (Array.getElem?_eq_some_iff.1 hGb).1 (blk_ne hGb ho.tab.here (by decide)) (nr _ _ _ hGb (by decide)), ht.block A (Array.getElem?_eq_some_iff.1 hA).1 (blk_ne hA ho.tab.here (by decide)) (nr _ _ _ hA (by decide))⟩)
  have hkd := unhide HKD
  subst hkd
  have CP : Hid (Calls Try.prog 23 #[.pointer (some ⟨a.g, 0, none⟩), .int .i64 k, .int .i64 x] u2.drew fun e w' => e = .returned (.bool hs) ∧ Hid (∃ v', TabI w' w.heap.size a.g v' (putL a.l k x) ∧ some a.g ≠ v'.ownBlock ∧ (∀ b, v'.ownBlock = some b → a.v.ownBlock = some b ∨ u2.drew.heap.size ≤ b) ∧ Turns u2.drew w' a.g a.v)) := hide (by
    obtain ⟨ha, _, hl, _, _, _, hhs⟩ := unhide HA
    have ho := unhide hoa2
    have hT : TabI u2.drew w.heap.size a.g a.v a.l := ⟨ho.tab.here, ho.tab.row.1, ho.tab.row.2⟩
    have hlen := ho.len.1
    refine (put_I hT ho.self ho.rises k x (by omega) (by have := (unhide X2).1.below.size; exact this)).mono ?_
    rintro e w' ⟨v', rfl, q1, q2, q3, q4⟩
    rw [hl, hhs]
    exact ⟨rfl, v', by rw [← hl]; exact q1, q2, q3, q4⟩)
  go_upto_region 5 with fail
  go_cut [9] from 40 to 241 (fun r wx => r = .bool hs ∧ Hid (∃ v', TabI wx w.heap.size a.g v' (putL a.l k x) ∧ some a.g ≠ v'.ownBlock ∧ (∀ b, v'.ownBlock = some b → a.v.ownBlock = some b ∨ u2.drew.heap.size ≤ b) ∧ Turns u2.drew wx a.g a.v))
  case first =>
    go_region_held3 (fun w' => w'.cell? ⟨A, i * 2, none⟩ = some (.pointer (some ⟨a.g, 0, none⟩)) ∧ w'.cell? ⟨G, 2, none⟩ = some (.int .i64 k) ∧ w'.cell? ⟨G, 3, none⟩ = some (.int .i64 x))
      (first | go_keep | (obtain ⟨v', _, _, _, q4⟩ := unhide H5; obtain ⟨z1, z2⟩ := unhide KEEP _ q4; exact ⟨(World.cell?_of_block (w := u2) z2).trans t0', (World.cell?_of_block (w := u2) z1).trans s2', (World.cell?_of_block (w := u2) z1).trans s3'⟩))
      (first | (go_at_call 23; refine (unhide CP).mono ?_; rintro e w5 ⟨rfl, H5⟩))
    go_wp2_with fail
    go_meet
    exact ⟨rfl, H5⟩
  case rest =>
  obtain ⟨rfl, H5⟩ := hcut
  obtain ⟨v', q1, q2, q3, q4⟩ := unhide H5
  obtain ⟨z1, z2⟩ := unhide KEEP _ q4
  have X3 : Hid (AllT I w wc (.slice (some ⟨A, 0, none⟩) es.length cap) (es.set i { a with v := v', l := putL a.l k x }) (N + 1)) := hide (by
    have h2 := ((unhide X2).1.later (u := u2.drew) ((Below.refl _ _).drew)).more (N' := N + 1) (by omega)
    exact h2.turn (unhide HA).1 q4 q1 (put_rises (unhide hoa2).rises k x) q2 q3 (by have h3 := put_len a.l k x; have h4 := (unhide hoa2).len.1; omega))
  have hlt : i < es.length := by have := unhide HM; omega
  have at3 : (es.set i { a with v := v', l := putL a.l k x })[i]? = some { a with v := v', l := putL a.l k x } := List.getElem?_set_self hlt
  have R3 : RefRow wc a.r a.m := ((unhide X3).ok i _ at3).ref
  have CR : Hid (Calls Try.prog 29 #[.slice ra M rc, .int .i64 k, .int .i64 x] wc.drew fun e w' => ∃ r', e = .returned (.tuple #[r', .bool hs]) ∧ RefRow w' r' (putL a.m k x) ∧ Below wc.drew.heap.size wc.drew w') := hide (by
    obtain ⟨_, _, hl, hra, hM, _, hhs⟩ := unhide HA
    have h4 := (unhide hoa2).len.2
    have := ref_put_any (w := wc.drew) (l := a.m) ⟨R3.1, R3.2⟩ k x (by omega)
    rw [hra, hM, hhs] at this
    exact this)
  have c1 : wc.cell? ⟨A, i * 2 + 1, none⟩ = some (.slice ra M rc) := (World.cell?_of_block (w := u2) z2).trans t1'
  have c2 : wc.cell? ⟨G, 2, none⟩ = some (.int .i64 k) := (World.cell?_of_block (w := u2) z1).trans s2'
  have c3 : wc.cell? ⟨G, 3, none⟩ = some (.int .i64 x) := (World.cell?_of_block (w := u2) z1).trans s3'
  have AT3 := hide at3
  have HAV : Hid (∃ cur, wc.heap[A]? = some (.cells cur 29 (0, 0))) := hide (row_blk (unhide X3).row rfl)
  clear at3 R3 q1 q2 q3 q4 H5 z1 z2 t0' t1' s0' s2' s3' KEEP CP hlt
  go_upto_region 6 with fail
  refine tilt_begin (S := fun w' => w'.cell? ⟨A, i * 2 + 1, none⟩ = some (.slice ra M rc) ∧ w'.cell? ⟨G, 2, none⟩ = some (.int .i64 k) ∧ w'.cell? ⟨G, 3, none⟩ = some (.int .i64 x)) 15 (by kernel_rfl) ?_
  have HS0 := And.intro c1 (And.intro c2 c3)
  refine tilt_take 0 (v := .pointer (some ⟨A, i * 2, none⟩)) (some 50) (by decide) rfl rfl rfl (by kernel_rfl) (by kernel_rfl) (by kernel_rfl) (by kernel_rfl) (fun _ _ _ h => h) (Or.inl ⟨by rfl, fun u hu => by obtain ⟨y1, y2, y3⟩ := hu; go_simp⟩) HS0 ?_
  simp only [Act.put, List.setIfInBounds_toArray, List.set_cons_zero, List.set_cons_succ]
  refine tilt_take 1 (v := .pointer (some ⟨A, i * 2, none⟩)) (some 51) (by decide) rfl rfl rfl (by kernel_rfl) (by kernel_rfl) (by kernel_rfl) (by kernel_rfl) (fun _ _ _ h => h) (Or.inl ⟨by rfl, fun u hu => by obtain ⟨y1, y2, y3⟩ := hu; go_simp⟩) HS0 ?_
  simp only [Act.put, List.setIfInBounds_toArray, List.set_cons_zero, List.set_cons_succ]
  refine tilt_take 2 (v := .pointer (some ⟨A, i * 2, none⟩)) (some 52) (by decide) rfl rfl rfl (by kernel_rfl) (by kernel_rfl) (by kernel_rfl) (by kernel_rfl) (fun _ _ _ h => h) (Or.inl ⟨by rfl, fun u hu => by obtain ⟨y1, y2, y3⟩ := hu; go_simp⟩) HS0 ?_
  simp only [Act.put, List.setIfInBounds_toArray, List.set_cons_zero, List.set_cons_succ]
  refine tilt_take 3 (v := .pointer (some ⟨A, i * 2 + 1, none⟩)) (some 53) (by decide) rfl rfl rfl (by kernel_rfl) (by kernel_rfl) (by kernel_rfl) (by kernel_rfl) (fun _ _ _ h => h) (Or.inl ⟨by rfl, fun u hu => by obtain ⟨y1, y2, y3⟩ := hu; go_simp⟩) HS0 ?_
  simp only [Act.put, List.setIfInBounds_toArray, List.set_cons_zero, List.set_cons_succ]
  refine tilt_take 4 (v := .slice ra M rc) (some 54) (by decide) rfl rfl rfl (by kernel_rfl) (by kernel_rfl) (by kernel_rfl) (by kernel_rfl) (fun _ _ _ h => h) (Or.inl ⟨by rfl, fun u hu => by obtain ⟨y1, y2, y3⟩ := hu; go_simp⟩) HS0 ?_
  simp only [Act.put, List.setIfInBounds_toArray, List.set_cons_zero, List.set_cons_succ]
  refine tilt_take 5 (v := .pointer (some ⟨G, 2, none⟩)) (some 55) (by decide) rfl rfl rfl (by kernel_rfl) (by kernel_rfl) (by kernel_rfl) (by kernel_rfl) (fun _ _ _ h => h) (Or.inl ⟨by rfl, fun u hu => by obtain ⟨y1, y2, y3⟩ := hu; go_simp⟩) HS0 ?_
  simp only [Act.put, List.setIfInBounds_toArray, List.set_cons_zero, List.set_cons_succ]
  refine tilt_take 6 (v := .int .i64 k) (some 56) (by decide) rfl rfl rfl (by kernel_rfl) (by kernel_rfl) (by kernel_rfl) (by kernel_rfl) (fun _ _ _ h => h) (Or.inl ⟨by rfl, fun u hu => by obtain ⟨y1, y2, y3⟩ := hu; go_simp⟩) HS0 ?_
  simp only [Act.put, List.setIfInBounds_toArray, List.set_cons_zero, List.set_cons_succ]
  refine tilt_take 7 (v := .pointer (some ⟨G, 3, none⟩)) (some 57) (by decide) rfl rfl rfl (by kernel_rfl) (by kernel_rfl) (by kernel_rfl) (by kernel_rfl) (fun _ _ _ h => h) (Or.inl ⟨by rfl, fun u hu => by obtain ⟨y1, y2, y3⟩ := hu; go_simp⟩) HS0 ?_
  simp only [Act.put, List.setIfInBounds_toArray, List.set_cons_zero, List.set_cons_succ]
  refine tilt_take 8 (v := .int .i64 x) (some 58) (by decide) rfl rfl rfl (by kernel_rfl) (by kernel_rfl) (by kernel_rfl) (by kernel_rfl) (fun _ _ _ h => h) (Or.inl ⟨by rfl, fun u hu => by obtain ⟨y1, y2, y3⟩ := hu; go_simp⟩) HS0 ?_
  simp only [Act.put, List.setIfInBounds_toArray, List.set_cons_zero, List.set_cons_succ]
  refine tilt_one 9 (by decide) (by kernel_rfl) rfl (fun K hK => ?_)
  go_simp
  refine (unhide CR).mono ?_
  rintro e w6 ⟨r6, rfl, hr6, b6⟩
  obtain ⟨a6, c6, hr6e, _⟩ := ref_cells hr6
  obtain ⟨M6, hM6⟩ : ∃ M6, (putL a.m k x).length = M6 := ⟨_, rfl⟩
  rw [hM6] at hr6e
  subst hr6e
  have b6' : Below wc.heap.size wc w6 := ⟨b6.os, b6.tape, b6.output, b6.size, b6.block⟩
  have HS6 := And.intro (cell_later b6' c1) (And.intro (cell_later b6' c2) (cell_later b6' c3))
  have R6 := hide (And.intro hr6 b6')
  go_wp2_with fail
  refine hK.out _ _ HS6 ?_
  clear hK K HS0 c1 c2 c3 CR hr6 b6 b6' hM6
  try simp only [Act.put, List.setIfInBounds_toArray, List.set_cons_zero, List.set_cons_succ]
  refine tilt_take 10 (v := .tuple #[.slice a6 M6 c6, .bool hs]) (some 49) (by decide) rfl rfl rfl (by kernel_rfl) (by kernel_rfl) (by kernel_rfl) (by kernel_rfl) (fun _ _ _ h => h) (Or.inl ⟨by rfl, fun u hu => by obtain ⟨y1, y2, y3⟩ := hu; go_simp⟩) HS6 ?_
  try simp only [Act.put, List.setIfInBounds_toArray, List.set_cons_zero, List.set_cons_succ]
  refine tilt_take 11 (v := .slice a6 M6 c6) (some 60) (by decide) rfl rfl rfl (by kernel_rfl) (by kernel_rfl) (by kernel_rfl) (by kernel_rfl) (fun _ _ _ h => h) (Or.inl ⟨by rfl, fun u hu => by obtain ⟨y1, y2, y3⟩ := hu; go_simp⟩) HS6 ?_
  try simp only [Act.put, List.setIfInBounds_toArray, List.set_cons_zero, List.set_cons_succ]
  refine tilt_takeU 12 (v := .bool hs) (some 61) (by decide) rfl rfl (by kernel_rfl) (by kernel_rfl) (by kernel_rfl) (fun _ _ _ h => h) (Or.inl ⟨by rfl, fun u => by go_simp⟩) HS6 ?_
  try simp only [Act.put, List.setIfInBounds_toArray, List.set_cons_zero, List.set_cons_succ]
  refine tilt_one 13 (by decide) (by kernel_rfl) rfl (fun K hK => ?_)
  go_simp
  refine hK.out _ _ HS6 ?_
  clear hK K
  try simp only [Act.put, List.setIfInBounds_toArray, List.set_cons_zero, List.set_cons_succ]
  refine tilt_one 14 (by decide) (by kernel_rfl) rfl (fun K hK => ?_)
  go_simp
  refine hK.out _ _ HS6 ?_
  clear hK K
  try simp only [Act.put, List.setIfInBounds_toArray, List.set_cons_zero, List.set_cons_succ]
  obtain ⟨curA, hcA⟩ := unhide HAV
  have hcA6 := ((unhide R6).2.block A (Array.getElem?_eq_some_iff.1 hcA).1).trans hcA
  have f6 : w6.frozen? ⟨A, i * 2 + 1, none⟩ = false := frozen_of_row w6 A (i * 2 + 1) _ _ hcA6
  clear hcA hcA6
  refine tilt_last (by kernel_rfl) rfl (fun K hK => ?_)
  obtain ⟨y1, y2, y3⟩ := HS6
  go_simp
  refine hK.out _ _ ?_
  clear hK K
  try simp only [Act.put, List.setIfInBounds_toArray, List.set_cons_zero, List.set_cons_succ]
  refine any_done (by kernel_rfl) ?_ _
  have X7 : Hid (AllT I w (w6.setCell ⟨A, i * 2 + 1, none⟩ (.slice a6 M6 c6)) (.slice (some ⟨A, 0, none⟩) es.length cap) ((es.set i { a with v := v', l := putL a.l k x }).set i { a with v := v', l := putL a.l k x, r := .slice a6 M6 c6, m := putL a.m k x }) (N + 1)) := hide (by
    have h3 := (unhide X3).later (unhide R6).2
    exact h3.lay (A := A) (cap := cap) (by rw [List.length_set]) (unhide AT3) (unhide R6).1 (by have h4 := put_len a.m k x; have h5 := (unhide hoa2).len.2; omega))
  obtain ⟨w7, hw7⟩ : ∃ w7, w6.setCell ⟨A, i * 2 + 1, none⟩ (.slice a6 M6 c6) = w7 := ⟨_, rfl⟩
  rw [hw7] at X7 ⊢
  clear hw7 y1 y2 y3 f6
  go_wp2_with fail
  go_ret2
  refine ⟨.slice (some ⟨A, 0, none⟩) m cap, _, ?_, by rw [← unhide HM]; exact unhide X7, ?_, ?_, ?_⟩
  · simp [Array.getD]
  · intro b hb
    rw [List.set_set] at hb
    obtain ⟨j, hj⟩ := List.mem_iff_getElem?.1 hb
    rcases set_at hj with ⟨_, rfl⟩ | ⟨_, hj⟩
    · show putL a.l k x = putL a.m k x
      rw [(unhide HA).2.2.1]
    · exact unhide HS b (List.mem_of_getElem? hj)
  · rw [List.length_set, List.length_set]
    have := unhide HM
    omega
  · rw [List.length_set, List.length_set]
    have := unhide HM
    omega
end Go.Proofs.Ytflopmhjgamcfaa
