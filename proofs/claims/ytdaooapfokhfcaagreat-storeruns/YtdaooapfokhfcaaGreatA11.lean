/-
  The table at texts and 32: Put of none, Delete, At.
-/
import Derived.Test.YtdaooapfokhfcaaGreatA10
namespace Go.Proofs.YtdaooapfokhfcaaGreat
open Go.RowKit
set_option linter.unusedVariables false
set_option linter.unusedSimpArgs false

/-- three results, the second of which lies in memory -/
theorem ret_tctV {P : Program} {fn : Func} {o p u : Tmp} {T : TypeId} (h : fn.results = #[.tmp o, .cell p T, .tmp u]) (tmps : Array Value) (w : World) (g : Nat) (c : Array Value) (d : TypeDesc) (t : TypeId)
    (hp : tmps.getD p undef = .pointer (some ⟨g, 0, none⟩)) (hb : w.heap[g]? = some (.cells c t (0, 0))) (hu : P.underlying T = some d) (hd : (match d with | .struct _ | .array _ _ => true | _ => false) = true) (hi : (P.info? T).map (·.size) = some c.size) :
    (results fn tmps).run P w = .ok (.tuple #[tmps.getD o undef, .agg c, tmps.getD u undef]) w := by
  have e : (results fn tmps).run P w = ((asAddr (tmps.getD p undef)).run P w).andThen fun a w₁ => ((loadVar T a).run P w₁).andThen fun v w₂ => .ok (.tuple #[tmps.getD o undef, v, tmps.getD u undef]) w₂ := by
    simp only [results, h]
    simp [Sem.run_bind, Result.andThen]
  rw [e, hp]
  have hl := run_loadVar_row (P := P) w g t T c (0, 0) _ hb hu hd hi
  simp [asAddr, Result.andThen, hl]

set_option maxRecDepth 100000 in
theorem put_nilV (k : ByteArray) (t : ThV) (w : World) : Calls Tryz.prog 82 #[.pointer none, .string k, .agg (thV t).toArray] w fun e w' => e = .returned (.bool false) ∧ Below w.heap.size w w' := by
  obtain ⟨t0, t1, t2, t3, t4, t5, t6, t7, t8, ht⟩ : ∃ t0 t1 t2 t3 t4 t5 t6 t7 t8, t = (t0, t1, t2, t3, t4, t5, t6, t7, t8) := by obtain ⟨t0, t1, t2, t3, t4, t5, t6, t7, t8⟩ := t; exact ⟨_, _, _, _, _, _, _, _, _, rfl⟩
  have hth : (thV t).toArray = #[.int .i64 t0, .int .i64 t1, .string t2, .slice t3 t4 t5, .slice t6 t7 t8] := by rw [ht]; rfl
  rw [hth]
  clear ht hth
  go_enter Tryz.func82, Tryz.ntmps82
  go_wp2_with fail
  go_ret
  exact ⟨rfl, (Below.refl _ _).alloc (Nat.le_refl _) _⟩

set_option maxRecDepth 100000 in
set_option maxHeartbeats 400000 in
theorem del_inV {g : Nat} {v : Value} {l : List (ByteArray × ThV)} {w : World} (h : KTV w g v l) (hr : Rk l) (k : ByteArray) (t : ThV) (hk : lookK l k = some t) :
    Calls Tryz.prog 89 #[.pointer (some ⟨g, 0, none⟩), .string k] w fun e w' => ∃ v', e = .returned (.bool true) ∧ KTV w' g v' (delK l k) ∧ v'.ownBlock = v.ownBlock ∧ Fr (fun j => j = g ∨ v.ownBlock = some j) w w' := by
  have hat := (look_at l k hr t).1 hk
  have hst : (l.map Prod.fst)[lowK l k]? = some k := by rw [List.getElem?_map, hat]; rfl
  have CF := find_V h hr k
  rw [decide_eq_true hst] at CF
  have CF := hide CF
  have HD := hide (del_at l k hst)
  obtain ⟨L, hL⟩ : ∃ L, lowK l k = L := ⟨_, rfl⟩
  rw [hL] at CF hat HD
  have hlt : L < l.length := (List.getElem?_eq_some_iff.1 hat).1
  have c0 := h.cell
  obtain ⟨ao, cap, rfl, hcap, hmax, hnone, hsome⟩ := h.shape
  obtain ⟨b, rfl, hbl, hc⟩ := hsome L _ hat
  have hne : g ≠ b := fun e => h.apart (by rw [e]; rfl)
  have HH := hide h
  obtain ⟨n, hn⟩ : ∃ n, l.length = n := ⟨_, rfl⟩
  have CD : Hid (∀ q, Calls Tryz.prog 105 #[.slice (some ⟨b, 0, none⟩) n cap, .int .i64 L, .int .i64 ((L : Int) + 1)] (w.drewN q) fun e w' => e = .returned (.slice (some ⟨b, 0, none⟩) (n - 1) cap) ∧ w'.ownsRow 0 104 6 (.slice (some ⟨b, 0, none⟩) (n - 1) cap) (n - 1) ((cellsV l).take (L * 6) ++ (cellsV l).drop ((L + 1) * 6)) ∧ (w.drewN q).grownBy w' (some b)) := hide (fun q => by
    have h' : KTV (w.drewN q) g _ l := h.below (below_drewN (Below.refl _ _) q)
    rw [← hn]
    exact deletePV 0 (cellsV l) l.length L b cap (w.drewN q) h'.row (cellsV_one l) hlt _ rfl)
  rw [hn] at c0 hlt hcap HH
  have HN := hide hn
  have i1 : (L : Int) < (n : Int) := by omega
  have hmx : n ≤ 9223372036854775807 := by unfold maxLen at hmax; omega
  clear h hr hk hst hat hsome hnone hmax hn hL hc
  go_enter Tryz.func89, Tryz.ntmps89
  go_wp2_with fail
  refine (unhide CF).mono ?_
  rintro e w1 ⟨rfl, q, rfl⟩
  have c1 : (w.drewN q).cell? ⟨g, 0, none⟩ = some (.slice (some ⟨b, 0, none⟩) n cap) := c0
  clear CF c0
  go_wp2_with fail
  refine (unhide CD q).mono ?_
  rintro e w3 ⟨rfl, o3, g3⟩
  have e3 : w3.heap[g]? = some (.cells #[.slice (some ⟨b, 0, none⟩) n cap] 81 (0, 0)) := (g3.block g (unhide HH).lt (fun e => hne (Option.some.inj e))).trans (unhide HH).here
  have c3 : w3.cell? ⟨g, 0, none⟩ = some (.slice (some ⟨b, 0, none⟩) n cap) := by rw [cell_of_row w3 g 0 _ _ (0, 0) e3]; rfl
  have f3 := frozen_of_row w3 g 0 _ _ e3
  have HO := hide (And.intro o3 (And.intro g3 e3))
  clear o3 g3 e3 c1
  go_wp2_with fail
  go_ret
  obtain ⟨o3, g3, e3⟩ := unhide HO
  have hn := unhide HN
  subst hn
  have hlen : (delK l k).length = l.length - 1 := by rw [← unhide HD, List.length_eraseIdx]; simp [hlt]
  refine ⟨.slice (some ⟨b, 0, none⟩) (l.length - 1) cap, rfl, ⟨?_, ?_⟩, rfl, ?_⟩
  · exact heap_setCell_same w3 g 0 _ _ _ e3
  · rw [hlen, ← unhide HD, List.eraseIdx_eq_take_drop_succ, cellsV_app, cellsV_take l L (by omega), cellsV_drop l (L + 1) (by omega)]
    refine ⟨o3.1, ?_⟩
    rcases o3.2 with h | ⟨b', cap', cur, hv, hb', hg', rest⟩
    · exact .inl h
    · cases hv
      exact .inr ⟨b, cap, cur, rfl, hb', (heap_setCell_other _ _ _ _ (fun e : b = g => hne e.symm)).trans hg', rest⟩
  · exact Fr.put (Fr.trans (Fr.draw q w) (G' := fun j => some j = some b) ⟨g3.os, g3.tape, g3.output, g3.size, fun j hj hn => g3.block j hj hn⟩ (fun j _ e => Or.inr e.symm)) (Or.inl rfl)

set_option maxRecDepth 100000 in
set_option maxHeartbeats 400000 in
theorem at_inV {g : Nat} {v : Value} {l : List (ByteArray × ThV)} {w : World} (h : KTV w g v l) (L : Nat) (k : ByteArray) (t : ThV) (hat : l[L]? = some (k, t)) :
    Calls Tryz.prog 57 #[.pointer (some ⟨g, 0, none⟩), .int .i64 L] w fun e w' => e = .returned (.tuple #[.string k, .agg (thV t).toArray, .bool true]) ∧ Below w.heap.size w w' := by
  obtain ⟨G, hG⟩ : ∃ G, w.heap.size = G := ⟨_, rfl⟩
  obtain ⟨w0, hw0⟩ : ∃ w0, w.alloc (.cells #[.int .i64 0, .int .i64 0, .string ⟨#[]⟩, .slice none 0 0, .slice none 0 0] 32) = w0 := ⟨_, rfl⟩
  have N0 : w0.heap[G]? = some (.cells #[.int .i64 0, .int .i64 0, .string ⟨#[]⟩, .slice none 0 0, .slice none 0 0] 32 (0, 0)) := by rw [← hw0, ← hG]; exact heap_alloc_new w _
  have B0 : Below w.heap.size w w0 := by rw [← hw0]; exact (Below.refl _ _).alloc (Nat.le_refl _) _
  have hlt : L < l.length := (List.getElem?_eq_some_iff.1 hat).1
  have CL := hide (len_V (h.below B0))
  have c0 := (h.below B0).cell
  obtain ⟨ao, cap, rfl, hcap, hmax, hnone, hsome⟩ := (h.below B0).shape
  obtain ⟨b, rfl, hbl, hc⟩ := hsome L _ hat
  obtain ⟨t0, t1, t2, t3, t4, t5, t6, t7, t8⟩ := t
  have d : w0.cell? ⟨b, L * 6, none⟩ = some (.string k) := hc 0 _ rfl
  have d0 : w0.cell? ⟨b, L * 6 + 1, none⟩ = some (.int .i64 t0) := hc 1 _ rfl
  have d1 : w0.cell? ⟨b, L * 6 + 2, none⟩ = some (.int .i64 t1) := hc 2 _ rfl
  have d2 : w0.cell? ⟨b, L * 6 + 3, none⟩ = some (.string t2) := hc 3 _ rfl
  have d3 : w0.cell? ⟨b, L * 6 + 4, none⟩ = some (.slice t3 t4 t5) := hc 4 _ rfl
  have d4 : w0.cell? ⟨b, L * 6 + 5, none⟩ = some (.slice t6 t7 t8) := hc 5 _ rfl
  obtain ⟨P, hP⟩ : ∃ P, w0.heap.size = P := ⟨_, rfl⟩
  obtain ⟨w1, hw1⟩ : ∃ w1, w0.alloc (.cells #[.string k, .int .i64 t0, .int .i64 t1, .string t2, .slice t3 t4 t5, .slice t6 t7 t8] 104) = w1 := ⟨_, rfl⟩
  have NP : w1.heap[P]? = some (.cells #[.string k, .int .i64 t0, .int .i64 t1, .string t2, .slice t3 t4 t5, .slice t6 t7 t8] 104 (0, 0)) := by rw [← hw1, ← hP]; exact heap_alloc_new w0 _
  have BP : Below w0.heap.size w0 w1 := by rw [← hw1]; exact (Below.refl _ _).alloc (Nat.le_refl _) _
  have N1 : w1.heap[G]? = some (.cells #[.int .i64 0, .int .i64 0, .string ⟨#[]⟩, .slice none 0 0, .slice none 0 0] 32 (0, 0)) := (BP.block G (Array.getElem?_eq_some_iff.1 N0).1).trans N0
  have B1 : Below w.heap.size w w1 := B0.trans (BP.mono B0.size)
  obtain ⟨n, hn⟩ : ∃ n, l.length = n := ⟨_, rfl⟩
  rw [hn] at c0 hlt hcap CL
  have i1 : (L : Int) < (n : Int) := by omega
  have i2 : ¬ (L : Int) < 0 := by omega
  have i3 : ¬ (n : Int) ≤ (L : Int) := by omega
  have hmx : n ≤ 9223372036854775807 := by unfold maxLen at hmax; omega
  have HX := hide (And.intro N1 B1)
  have HS0 : Hid (w1.drew.cell? ⟨P, 0, none⟩ = some (.string k) ∧ w1.drew.cell? ⟨P, 1, none⟩ = some (.int .i64 t0) ∧ w1.drew.cell? ⟨P, 2, none⟩ = some (.int .i64 t1) ∧ w1.drew.cell? ⟨P, 3, none⟩ = some (.string t2) ∧ w1.drew.cell? ⟨P, 4, none⟩ = some (.slice t3 t4 t5) ∧ w1.drew.cell? ⟨P, 5, none⟩ = some (.slice t6 t7 t8)) := hide ⟨by rw [cell_of_row _ P 0 _ _ (0, 0) (show w1.drew.heap[P]? = _ from NP)]; rfl, by rw [cell_of_row _ P 1 _ _ (0, 0) (show w1.drew.heap[P]? = _ from NP)]; rfl, by rw [cell_of_row _ P 2 _ _ (0, 0) (show w1.drew.heap[P]? = _ from NP)]; rfl, by rw [cell_of_row _ P 3 _ _ (0, 0) (show w1.drew.heap[P]? = _ from NP)]; rfl, by rw [cell_of_row _ P 4 _ _ (0, 0) (show w1.drew.heap[P]? = _ from NP)]; rfl, by rw [cell_of_row _ P 5 _ _ (0, 0) (show w1.drew.heap[P]? = _ from NP)]; rfl⟩
  have z0 : w1.cell? ⟨G, 0, none⟩ = some (.int .i64 0) := by rw [cell_of_row w1 G 0 _ _ (0, 0) N1]; rfl
  have f0 := frozen_of_row w1 G 0 _ _ N1
  have z1 : w1.cell? ⟨G, 1, none⟩ = some (.int .i64 0) := by rw [cell_of_row w1 G 1 _ _ (0, 0) N1]; rfl
  have f1 := frozen_of_row w1 G 1 _ _ N1
  have z2 : w1.cell? ⟨G, 2, none⟩ = some (.string ⟨#[]⟩) := by rw [cell_of_row w1 G 2 _ _ (0, 0) N1]; rfl
  have f2 := frozen_of_row w1 G 2 _ _ N1
  have z3 : w1.cell? ⟨G, 3, none⟩ = some (.slice none 0 0) := by rw [cell_of_row w1 G 3 _ _ (0, 0) N1]; rfl
  have f3 := frozen_of_row w1 G 3 _ _ N1
  have z4 : w1.cell? ⟨G, 4, none⟩ = some (.slice none 0 0) := by rw [cell_of_row w1 G 4 _ _ (0, 0) N1]; rfl
  have f4 := frozen_of_row w1 G 4 _ _ N1
  clear h hat hsome hnone hmax N0 B0 hn hc NP BP N1 B1 hcap
  go_enter Tryz.func57, Tryz.ntmps57
  go_wp2_with fail
  refine (unhide CL).mono ?_
  rintro e wa ⟨rfl, rfl⟩
  go_upto_region 5 with fail
  refine till_begin (S := fun w' => w'.cell? ⟨P, 0, none⟩ = some (.string k) ∧ w'.cell? ⟨P, 1, none⟩ = some (.int .i64 t0) ∧ w'.cell? ⟨P, 2, none⟩ = some (.int .i64 t1) ∧ w'.cell? ⟨P, 3, none⟩ = some (.string t2) ∧ w'.cell? ⟨P, 4, none⟩ = some (.slice t3 t4 t5) ∧ w'.cell? ⟨P, 5, none⟩ = some (.slice t6 t7 t8)) 5 (by kernel_rfl) ?_
  refine till_take 0 (v := .pointer (some ⟨P, 0, none⟩)) (some 28) rfl rfl rfl (by kernel_rfl) (by kernel_rfl) (by kernel_rfl) (by kernel_rfl) (fun _ _ _ h => h) (Or.inl ⟨by rfl, fun u hu => by obtain ⟨b0, b1, b2, b3, b4, b5⟩ := hu; go_simp⟩) (unhide HS0) ?_
  try simp only [Act.put, List.setIfInBounds_toArray, List.set_cons_zero, List.set_cons_succ]
  refine till_take 1 (v := .string k) (some 29) rfl rfl rfl (by kernel_rfl) (by kernel_rfl) (by kernel_rfl) (by kernel_rfl) (fun _ _ _ h => h) (Or.inl ⟨by rfl, fun u hu => by obtain ⟨b0, b1, b2, b3, b4, b5⟩ := hu; go_simp⟩) (unhide HS0) ?_
  try simp only [Act.put, List.setIfInBounds_toArray, List.set_cons_zero, List.set_cons_succ]
  refine till_take 2 (v := .pointer (some ⟨P, 1, none⟩)) (some 30) rfl rfl rfl (by kernel_rfl) (by kernel_rfl) (by kernel_rfl) (by kernel_rfl) (fun _ _ _ h => h) (Or.inl ⟨by rfl, fun u hu => by obtain ⟨b0, b1, b2, b3, b4, b5⟩ := hu; go_simp⟩) (unhide HS0) ?_
  try simp only [Act.put, List.setIfInBounds_toArray, List.set_cons_zero, List.set_cons_succ]
  refine till_take 3 (v := .agg #[.int .i64 t0, .int .i64 t1, .string t2, .slice t3 t4 t5, .slice t6 t7 t8]) (some 31) rfl rfl rfl (by kernel_rfl) (by kernel_rfl) (by kernel_rfl) (by kernel_rfl) (fun _ _ _ h => h) (Or.inl ⟨by rfl, fun u hu => by obtain ⟨b0, b1, b2, b3, b4, b5⟩ := hu; go_simp⟩) (unhide HS0) ?_
  try simp only [Act.put, List.setIfInBounds_toArray, List.set_cons_zero, List.set_cons_succ]
  refine till_take 4 (v := .string k) (some 4) rfl rfl rfl (by kernel_rfl) (by kernel_rfl) (by kernel_rfl) (by kernel_rfl) (fun _ _ _ h => h) (Or.inl ⟨by rfl, fun u hu => by obtain ⟨b0, b1, b2, b3, b4, b5⟩ := hu; go_simp⟩) (unhide HS0) ?_
  try simp only [Act.put, List.setIfInBounds_toArray, List.set_cons_zero, List.set_cons_succ]
  refine till_one 5 (by kernel_rfl) rfl (fun K hK => ?_)
  go_simp
  refine hK.out _ _ (Or.inl rfl) ?_
  clear hK K
  try simp only [Act.put, List.setIfInBounds_toArray, List.set_cons_zero, List.set_cons_succ]
  obtain ⟨s1, s2, s3, s4⟩ := setsV (a0 := .int .i64 t0) (a1 := .int .i64 t1) (a2 := .string t2) (a3 := .slice t3 t4 t5) (a4 := .slice t6 t7 t8) (unhide HX).1
  have hPG : P ≠ G := fun e => by rw [← hG, ← hP, ← hw0] at e; simp at e
  have HS1 : Hid ((((((w1.setCell ⟨G, 0, none⟩ (.int .i64 t0)).setCell ⟨G, 1, none⟩ (.int .i64 t1)).setCell ⟨G, 2, none⟩ (.string t2)).setCell ⟨G, 3, none⟩ (.slice t3 t4 t5)).setCell ⟨G, 4, none⟩ (.slice t6 t7 t8)).drew.cell? ⟨P, 0, none⟩ = some (.string k) ∧ (((((w1.setCell ⟨G, 0, none⟩ (.int .i64 t0)).setCell ⟨G, 1, none⟩ (.int .i64 t1)).setCell ⟨G, 2, none⟩ (.string t2)).setCell ⟨G, 3, none⟩ (.slice t3 t4 t5)).setCell ⟨G, 4, none⟩ (.slice t6 t7 t8)).drew.cell? ⟨P, 1, none⟩ = some (.int .i64 t0) ∧ (((((w1.setCell ⟨G, 0, none⟩ (.int .i64 t0)).setCell ⟨G, 1, none⟩ (.int .i64 t1)).setCell ⟨G, 2, none⟩ (.string t2)).setCell ⟨G, 3, none⟩ (.slice t3 t4 t5)).setCell ⟨G, 4, none⟩ (.slice t6 t7 t8)).drew.cell? ⟨P, 2, none⟩ = some (.int .i64 t1) ∧ (((((w1.setCell ⟨G, 0, none⟩ (.int .i64 t0)).setCell ⟨G, 1, none⟩ (.int .i64 t1)).setCell ⟨G, 2, none⟩ (.string t2)).setCell ⟨G, 3, none⟩ (.slice t3 t4 t5)).setCell ⟨G, 4, none⟩ (.slice t6 t7 t8)).drew.cell? ⟨P, 3, none⟩ = some (.string t2) ∧ (((((w1.setCell ⟨G, 0, none⟩ (.int .i64 t0)).setCell ⟨G, 1, none⟩ (.int .i64 t1)).setCell ⟨G, 2, none⟩ (.string t2)).setCell ⟨G, 3, none⟩ (.slice t3 t4 t5)).setCell ⟨G, 4, none⟩ (.slice t6 t7 t8)).drew.cell? ⟨P, 4, none⟩ = some (.slice t3 t4 t5) ∧ (((((w1.setCell ⟨G, 0, none⟩ (.int .i64 t0)).setCell ⟨G, 1, none⟩ (.int .i64 t1)).setCell ⟨G, 2, none⟩ (.string t2)).setCell ⟨G, 3, none⟩ (.slice t3 t4 t5)).setCell ⟨G, 4, none⟩ (.slice t6 t7 t8)).drew.cell? ⟨P, 5, none⟩ = some (.slice t6 t7 t8)) := hide (by
    have hs := unhide HS0
    exact ⟨cell_block (drew_at (s3 P hPG)) hs.1, cell_block (drew_at (s3 P hPG)) hs.2.1, cell_block (drew_at (s3 P hPG)) hs.2.2.1, cell_block (drew_at (s3 P hPG)) hs.2.2.2.1, cell_block (drew_at (s3 P hPG)) hs.2.2.2.2.1, cell_block (drew_at (s3 P hPG)) hs.2.2.2.2.2⟩)
  have HF := hide (And.intro s1 (And.intro s2 s4))
  clear s1 s2 s3 s4
  refine till_one 6 (by kernel_rfl) rfl (fun K hK => ?_)
  go_simp
  refine hK.out _ _ (Or.inr (unhide HS1)) ?_
  clear hK K
  try simp only [Act.put, List.setIfInBounds_toArray, List.set_cons_zero, List.set_cons_succ]
  refine till_done (by kernel_rfl) ?_ _
  go_wp2_with fail
  refine bodyPost_ret (ret_tctV (o := 4) (p := 5) (u := 6) (T := 32) rfl _ _ G _ _ _ rfl (drew_at (unhide HF).1) (show Tryz.prog.underlying 32 = some _ from rfl) rfl size_thV) rfl ?_
  exact ⟨rfl, ((unhide HF).2.2 _ _ (unhide HX).2 (by omega)).drew⟩

set_option maxRecDepth 100000 in
set_option maxHeartbeats 400000 in
theorem at_genV (p : Option Addr) (i : Int) (m : Nat) (w : World) (hi : (m : Int) ≤ i) (hl : ∀ u, Below w.heap.size w u → Calls Tryz.prog 54 #[.pointer p] u fun e w' => e = .returned (.int .i64 (m : Int)) ∧ w' = u) :
    Calls Tryz.prog 57 #[.pointer p, .int .i64 i] w fun e w' => e = .returned (.tuple #[.string ⟨#[]⟩, .agg #[.int .i64 0, .int .i64 0, .string ⟨#[]⟩, .slice none 0 0, .slice none 0 0], .bool false]) ∧ Below w.heap.size w w' := by
  obtain ⟨G, hG⟩ : ∃ G, w.heap.size = G := ⟨_, rfl⟩
  obtain ⟨w0, hw0⟩ : ∃ w0, w.alloc (.cells #[.int .i64 0, .int .i64 0, .string ⟨#[]⟩, .slice none 0 0, .slice none 0 0] 32) = w0 := ⟨_, rfl⟩
  have N0 : w0.heap[G]? = some (.cells #[.int .i64 0, .int .i64 0, .string ⟨#[]⟩, .slice none 0 0, .slice none 0 0] 32 (0, 0)) := by rw [← hw0, ← hG]; exact heap_alloc_new w _
  have B0 : Below w.heap.size w w0 := by rw [← hw0]; exact (Below.refl _ _).alloc (Nat.le_refl _) _
  have CL := hide (hl w0 B0)
  obtain ⟨P, hP⟩ : ∃ P, w0.heap.size = P := ⟨_, rfl⟩
  obtain ⟨w1, hw1⟩ : ∃ w1, w0.alloc (.cells #[.string ⟨#[]⟩, .int .i64 0, .int .i64 0, .string ⟨#[]⟩, .slice none 0 0, .slice none 0 0] 104) = w1 := ⟨_, rfl⟩
  have NP : w1.heap[P]? = some (.cells #[.string ⟨#[]⟩, .int .i64 0, .int .i64 0, .string ⟨#[]⟩, .slice none 0 0, .slice none 0 0] 104 (0, 0)) := by rw [← hw1, ← hP]; exact heap_alloc_new w0 _
  have BP : Below w0.heap.size w0 w1 := by rw [← hw1]; exact (Below.refl _ _).alloc (Nat.le_refl _) _
  have N1 : w1.heap[G]? = some (.cells #[.int .i64 0, .int .i64 0, .string ⟨#[]⟩, .slice none 0 0, .slice none 0 0] 32 (0, 0)) := (BP.block G (Array.getElem?_eq_some_iff.1 N0).1).trans N0
  have B1 : Below w.heap.size w w1 := B0.trans (BP.mono B0.size)
  have i2 : ¬ i < 0 := by omega
  have HX := hide (And.intro N1 B1)
  have HS0 : Hid (w1.drew.cell? ⟨P, 0, none⟩ = some (.string ⟨#[]⟩) ∧ w1.drew.cell? ⟨P, 1, none⟩ = some (.int .i64 0) ∧ w1.drew.cell? ⟨P, 2, none⟩ = some (.int .i64 0) ∧ w1.drew.cell? ⟨P, 3, none⟩ = some (.string ⟨#[]⟩) ∧ w1.drew.cell? ⟨P, 4, none⟩ = some (.slice none 0 0) ∧ w1.drew.cell? ⟨P, 5, none⟩ = some (.slice none 0 0)) := hide ⟨by rw [cell_of_row _ P 0 _ _ (0, 0) (show w1.drew.heap[P]? = _ from NP)]; rfl, by rw [cell_of_row _ P 1 _ _ (0, 0) (show w1.drew.heap[P]? = _ from NP)]; rfl, by rw [cell_of_row _ P 2 _ _ (0, 0) (show w1.drew.heap[P]? = _ from NP)]; rfl, by rw [cell_of_row _ P 3 _ _ (0, 0) (show w1.drew.heap[P]? = _ from NP)]; rfl, by rw [cell_of_row _ P 4 _ _ (0, 0) (show w1.drew.heap[P]? = _ from NP)]; rfl, by rw [cell_of_row _ P 5 _ _ (0, 0) (show w1.drew.heap[P]? = _ from NP)]; rfl⟩
  have z0 : w1.cell? ⟨G, 0, none⟩ = some (.int .i64 0) := by rw [cell_of_row w1 G 0 _ _ (0, 0) N1]; rfl
  have f0 := frozen_of_row w1 G 0 _ _ N1
  have z1 : w1.cell? ⟨G, 1, none⟩ = some (.int .i64 0) := by rw [cell_of_row w1 G 1 _ _ (0, 0) N1]; rfl
  have f1 := frozen_of_row w1 G 1 _ _ N1
  have z2 : w1.cell? ⟨G, 2, none⟩ = some (.string ⟨#[]⟩) := by rw [cell_of_row w1 G 2 _ _ (0, 0) N1]; rfl
  have f2 := frozen_of_row w1 G 2 _ _ N1
  have z3 : w1.cell? ⟨G, 3, none⟩ = some (.slice none 0 0) := by rw [cell_of_row w1 G 3 _ _ (0, 0) N1]; rfl
  have f3 := frozen_of_row w1 G 3 _ _ N1
  have z4 : w1.cell? ⟨G, 4, none⟩ = some (.slice none 0 0) := by rw [cell_of_row w1 G 4 _ _ (0, 0) N1]; rfl
  have f4 := frozen_of_row w1 G 4 _ _ N1
  clear N0 B0 NP BP N1 B1 hl
  go_enter Tryz.func57, Tryz.ntmps57
  go_wp2_with fail
  refine (unhide CL).mono ?_
  rintro e wa ⟨rfl, rfl⟩
  go_upto_region 3 with fail
  refine till_begin (S := fun w' => w'.cell? ⟨P, 0, none⟩ = some (.string ⟨#[]⟩) ∧ w'.cell? ⟨P, 1, none⟩ = some (.int .i64 0) ∧ w'.cell? ⟨P, 2, none⟩ = some (.int .i64 0) ∧ w'.cell? ⟨P, 3, none⟩ = some (.string ⟨#[]⟩) ∧ w'.cell? ⟨P, 4, none⟩ = some (.slice none 0 0) ∧ w'.cell? ⟨P, 5, none⟩ = some (.slice none 0 0)) 5 (by kernel_rfl) ?_
  refine till_take 0 (v := .pointer (some ⟨P, 0, none⟩)) (some 17) rfl rfl rfl (by kernel_rfl) (by kernel_rfl) (by kernel_rfl) (by kernel_rfl) (fun _ _ _ h => h) (Or.inl ⟨by rfl, fun u hu => by obtain ⟨b0, b1, b2, b3, b4, b5⟩ := hu; go_simp⟩) (unhide HS0) ?_
  try simp only [Act.put, List.setIfInBounds_toArray, List.set_cons_zero, List.set_cons_succ]
  refine till_take 1 (v := .string ⟨#[]⟩) (some 18) rfl rfl rfl (by kernel_rfl) (by kernel_rfl) (by kernel_rfl) (by kernel_rfl) (fun _ _ _ h => h) (Or.inl ⟨by rfl, fun u hu => by obtain ⟨b0, b1, b2, b3, b4, b5⟩ := hu; go_simp⟩) (unhide HS0) ?_
  try simp only [Act.put, List.setIfInBounds_toArray, List.set_cons_zero, List.set_cons_succ]
  refine till_take 2 (v := .pointer (some ⟨P, 1, none⟩)) (some 19) rfl rfl rfl (by kernel_rfl) (by kernel_rfl) (by kernel_rfl) (by kernel_rfl) (fun _ _ _ h => h) (Or.inl ⟨by rfl, fun u hu => by obtain ⟨b0, b1, b2, b3, b4, b5⟩ := hu; go_simp⟩) (unhide HS0) ?_
  try simp only [Act.put, List.setIfInBounds_toArray, List.set_cons_zero, List.set_cons_succ]
  refine till_take 3 (v := .agg #[.int .i64 0, .int .i64 0, .string ⟨#[]⟩, .slice none 0 0, .slice none 0 0]) (some 20) rfl rfl rfl (by kernel_rfl) (by kernel_rfl) (by kernel_rfl) (by kernel_rfl) (fun _ _ _ h => h) (Or.inl ⟨by rfl, fun u hu => by obtain ⟨b0, b1, b2, b3, b4, b5⟩ := hu; go_simp⟩) (unhide HS0) ?_
  try simp only [Act.put, List.setIfInBounds_toArray, List.set_cons_zero, List.set_cons_succ]
  refine till_take 4 (v := .string ⟨#[]⟩) (some 4) rfl rfl rfl (by kernel_rfl) (by kernel_rfl) (by kernel_rfl) (by kernel_rfl) (fun _ _ _ h => h) (Or.inl ⟨by rfl, fun u hu => by obtain ⟨b0, b1, b2, b3, b4, b5⟩ := hu; go_simp⟩) (unhide HS0) ?_
  try simp only [Act.put, List.setIfInBounds_toArray, List.set_cons_zero, List.set_cons_succ]
  refine till_one 5 (by kernel_rfl) rfl (fun K hK => ?_)
  go_simp
  refine hK.out _ _ (Or.inl rfl) ?_
  clear hK K
  try simp only [Act.put, List.setIfInBounds_toArray, List.set_cons_zero, List.set_cons_succ]
  obtain ⟨s1, s2, s3, s4⟩ := setsV (a0 := .int .i64 0) (a1 := .int .i64 0) (a2 := .string ⟨#[]⟩) (a3 := .slice none 0 0) (a4 := .slice none 0 0) (unhide HX).1
  have hPG : P ≠ G := fun e => by rw [← hG, ← hP, ← hw0] at e; simp at e
  have HS1 : Hid ((((((w1.setCell ⟨G, 0, none⟩ (.int .i64 0)).setCell ⟨G, 1, none⟩ (.int .i64 0)).setCell ⟨G, 2, none⟩ (.string ⟨#[]⟩)).setCell ⟨G, 3, none⟩ (.slice none 0 0)).setCell ⟨G, 4, none⟩ (.slice none 0 0)).drew.cell? ⟨P, 0, none⟩ = some (.string ⟨#[]⟩) ∧ (((((w1.setCell ⟨G, 0, none⟩ (.int .i64 0)).setCell ⟨G, 1, none⟩ (.int .i64 0)).setCell ⟨G, 2, none⟩ (.string ⟨#[]⟩)).setCell ⟨G, 3, none⟩ (.slice none 0 0)).setCell ⟨G, 4, none⟩ (.slice none 0 0)).drew.cell? ⟨P, 1, none⟩ = some (.int .i64 0) ∧ (((((w1.setCell ⟨G, 0, none⟩ (.int .i64 0)).setCell ⟨G, 1, none⟩ (.int .i64 0)).setCell ⟨G, 2, none⟩ (.string ⟨#[]⟩)).setCell ⟨G, 3, none⟩ (.slice none 0 0)).setCell ⟨G, 4, none⟩ (.slice none 0 0)).drew.cell? ⟨P, 2, none⟩ = some (.int .i64 0) ∧ (((((w1.setCell ⟨G, 0, none⟩ (.int .i64 0)).setCell ⟨G, 1, none⟩ (.int .i64 0)).setCell ⟨G, 2, none⟩ (.string ⟨#[]⟩)).setCell ⟨G, 3, none⟩ (.slice none 0 0)).setCell ⟨G, 4, none⟩ (.slice none 0 0)).drew.cell? ⟨P, 3, none⟩ = some (.string ⟨#[]⟩) ∧ (((((w1.setCell ⟨G, 0, none⟩ (.int .i64 0)).setCell ⟨G, 1, none⟩ (.int .i64 0)).setCell ⟨G, 2, none⟩ (.string ⟨#[]⟩)).setCell ⟨G, 3, none⟩ (.slice none 0 0)).setCell ⟨G, 4, none⟩ (.slice none 0 0)).drew.cell? ⟨P, 4, none⟩ = some (.slice none 0 0) ∧ (((((w1.setCell ⟨G, 0, none⟩ (.int .i64 0)).setCell ⟨G, 1, none⟩ (.int .i64 0)).setCell ⟨G, 2, none⟩ (.string ⟨#[]⟩)).setCell ⟨G, 3, none⟩ (.slice none 0 0)).setCell ⟨G, 4, none⟩ (.slice none 0 0)).drew.cell? ⟨P, 5, none⟩ = some (.slice none 0 0)) := hide (by
    have hs := unhide HS0
    exact ⟨cell_block (drew_at (s3 P hPG)) hs.1, cell_block (drew_at (s3 P hPG)) hs.2.1, cell_block (drew_at (s3 P hPG)) hs.2.2.1, cell_block (drew_at (s3 P hPG)) hs.2.2.2.1, cell_block (drew_at (s3 P hPG)) hs.2.2.2.2.1, cell_block (drew_at (s3 P hPG)) hs.2.2.2.2.2⟩)
  have HF := hide (And.intro s1 (And.intro s2 s4))
  clear s1 s2 s3 s4
  refine till_one 6 (by kernel_rfl) rfl (fun K hK => ?_)
  go_simp
  refine hK.out _ _ (Or.inr (unhide HS1)) ?_
  clear hK K
  try simp only [Act.put, List.setIfInBounds_toArray, List.set_cons_zero, List.set_cons_succ]
  refine till_done (by kernel_rfl) ?_ _
  go_wp2_with fail
  refine bodyPost_ret (ret_tctV (o := 4) (p := 5) (u := 6) (T := 32) rfl _ _ G _ _ _ rfl (drew_at (unhide HF).1) (show Tryz.prog.underlying 32 = some _ from rfl) rfl size_thV) rfl ?_
  exact ⟨rfl, ((unhide HF).2.2 _ _ (unhide HX).2 (by omega)).drew⟩

end Go.Proofs.YtdaooapfokhfcaaGreat
