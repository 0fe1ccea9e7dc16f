/-
  Layer 18 (print): a node's kids are as its kind says; conditions: the nodes lie in memory.
-/
import Derived.Test.YtjkfkneibcjgaaaGreatDoorA10
set_option linter.unusedVariables false
set_option linter.unusedSimpArgs false
namespace Go.Proofs.YtjkfkneibcjgaaaGreatDoor
open Go.RowKit
set_option linter.unusedVariables false
set_option linter.unusedSimpArgs false


set_option maxRecDepth 100000 in
set_option maxHeartbeats 2000000 in
theorem kids8_any (B0 : Nat) (ks : List Tn) (k vk vn p : Int) (t vs : ByteArray) (al ak a : Option Addr) (ll cl lk ck n cc : Nat) (f : Bool) (w : World) (hB : B0 ≤ w.heap.size) (hr : RowN w B0 ks a cc) (hn : ks.length = n) (hk : k = 15 ∨ k = 18) : Calls Tryz.prog 73 #[.agg #[.int .i64 k, .string t, .int .i64 vk, .int .i64 vn, .string vs, .slice al ll cl, .slice ak lk ck, .bool f, .slice a n cc, .int .i64 p]] w fun e w' => e = .returned (.bool (kdB k (ks.map (·.k)))) ∧ Below w.heap.size w w' := by
  have HK := hide hk
  clear hk
  obtain ⟨w1, hw1⟩ : ∃ w1, w.alloc (.cells #[.int .i64 k, .string t, .int .i64 vk, .int .i64 vn, .string vs, .slice al ll cl, .slice ak lk ck, .bool f, .slice a n cc, .int .i64 p] 28) = w1 := ⟨_, rfl⟩
  obtain ⟨G, hG⟩ : ∃ G, w.heap.size = G := ⟨_, rfl⟩
  have A1 : w1.heap[G]? = some (.cells #[.int .i64 k, .string t, .int .i64 vk, .int .i64 vn, .string vs, .slice al ll cl, .slice ak lk ck, .bool f, .slice a n cc, .int .i64 p] 28 (0, 0)) := by rw [← hw1, ← hG]; exact heap_alloc_new _ _
  have HX := hide (show Below w.heap.size w w1 by rw [← hw1]; exact (Below.refl _ _).alloc (Nat.le_refl _) _)
  obtain ⟨c0, _, _, _, _, _, _, _, c8, _⟩ := row_ten A1
  have HA := hide A1
  obtain ⟨R, hR⟩ : ∃ R, (kdB k (ks.map (·.k))) = R := ⟨_, rfl⟩
  rw [hR]
  have HR := hide hR
  have HW := hide hw1
  have HH := hide (And.intro (hr.later ((unhide HX).mono hB)) (And.intro hn (And.intro (Nat.le_trans hB (unhide HX).size) hB)))
  have hnb : n ≤ 140737488351232 := by rw [← hn]; exact hr.len
  have hncc : n ≤ cc := by obtain ⟨C, hf, _⟩ := hr; rw [← hn]; exact hf.ll
  have HM := hide (show (ks.map (·.k)).length = n by rw [List.length_map]; exact hn)
  clear hr hB hn
  clear A1 hw1 hR
  go_enter Tryz.func73, Tryz.ntmps73
  go_upto_region 1 with fail
  rw [unhide HW]
  try rw [hG]
  clear HW
  have hk := unhide HK
  clear HK
  rcases hk with rfl | rfl
  · have CC := hide (all_any B0 a n cc (ks) _ (fun y => isEx y.k) w1 call_isExpr (unhide HH).1 (unhide HH).2.1 (unhide HH).2.2.1 (fun y _ => isExpr_any_ask B0 y))
    obtain ⟨q, hq⟩ : ∃ q, ks.all (fun y => isEx y.k) = q := ⟨_, rfl⟩
    rw [hq] at CC
    have HQ := hide hq
    clear hq
    go_wp2_with fail
    refine (unhide CC).mono ?_
    rintro e w2 ⟨rfl, b2⟩
    have HV := hide (show R = q by rw [← unhide HR, ← unhide HQ, kd_ex (by omega), all_k])
    have HB := hide ((unhide HX).trans (b2.mono (unhide HX).size))
    clear b2 CC
    go_wp2_with fail
    go_ret
    exact ⟨by rw [unhide HV]; rfl, by first | exact unhide HB | (rw [← hG]; exact unhide HB) | (rw [hG]; exact unhide HB)⟩
  · have CC := hide (all_any B0 a n cc (ks) _ (fun y => isEx y.k) w1 call_isExpr (unhide HH).1 (unhide HH).2.1 (unhide HH).2.2.1 (fun y _ => isExpr_any_ask B0 y))
    obtain ⟨q, hq⟩ : ∃ q, ks.all (fun y => isEx y.k) = q := ⟨_, rfl⟩
    rw [hq] at CC
    have HQ := hide hq
    clear hq
    go_wp2_with fail
    refine (unhide CC).mono ?_
    rintro e w2 ⟨rfl, b2⟩
    have HV := hide (show R = q by rw [← unhide HR, ← unhide HQ, kd_ex (by omega), all_k])
    have HB := hide ((unhide HX).trans (b2.mono (unhide HX).size))
    clear b2 CC
    go_wp2_with fail
    go_ret
    exact ⟨by rw [unhide HV]; rfl, by first | exact unhide HB | (rw [← hG]; exact unhide HB) | (rw [hG]; exact unhide HB)⟩

set_option maxRecDepth 100000 in
set_option maxHeartbeats 2000000 in
theorem kids9_any (B0 : Nat) (ks : List Tn) (k vk vn p : Int) (t vs : ByteArray) (al ak a : Option Addr) (ll cl lk ck n cc : Nat) (f : Bool) (w : World) (hB : B0 ≤ w.heap.size) (hr : RowN w B0 ks a cc) (hn : ks.length = n) (hk : k = 19) : Calls Tryz.prog 73 #[.agg #[.int .i64 k, .string t, .int .i64 vk, .int .i64 vn, .string vs, .slice al ll cl, .slice ak lk ck, .bool f, .slice a n cc, .int .i64 p]] w fun e w' => e = .returned (.bool (kdB k (ks.map (·.k)))) ∧ Below w.heap.size w w' := by
  have HK := hide hk
  clear hk
  obtain ⟨w1, hw1⟩ : ∃ w1, w.alloc (.cells #[.int .i64 k, .string t, .int .i64 vk, .int .i64 vn, .string vs, .slice al ll cl, .slice ak lk ck, .bool f, .slice a n cc, .int .i64 p] 28) = w1 := ⟨_, rfl⟩
  obtain ⟨G, hG⟩ : ∃ G, w.heap.size = G := ⟨_, rfl⟩
  have A1 : w1.heap[G]? = some (.cells #[.int .i64 k, .string t, .int .i64 vk, .int .i64 vn, .string vs, .slice al ll cl, .slice ak lk ck, .bool f, .slice a n cc, .int .i64 p] 28 (0, 0)) := by rw [← hw1, ← hG]; exact heap_alloc_new _ _
  have HX := hide (show Below w.heap.size w w1 by rw [← hw1]; exact (Below.refl _ _).alloc (Nat.le_refl _) _)
  obtain ⟨c0, _, _, _, _, _, _, _, c8, _⟩ := row_ten A1
  have HA := hide A1
  obtain ⟨R, hR⟩ : ∃ R, (kdB k (ks.map (·.k))) = R := ⟨_, rfl⟩
  rw [hR]
  have HR := hide hR
  have HW := hide hw1
  have HH := hide (And.intro (hr.later ((unhide HX).mono hB)) (And.intro hn (And.intro (Nat.le_trans hB (unhide HX).size) hB)))
  have hnb : n ≤ 140737488351232 := by rw [← hn]; exact hr.len
  have hncc : n ≤ cc := by obtain ⟨C, hf, _⟩ := hr; rw [← hn]; exact hf.ll
  have HM := hide (show (ks.map (·.k)).length = n by rw [List.length_map]; exact hn)
  clear hr hB hn
  clear A1 hw1 hR
  go_enter Tryz.func73, Tryz.ntmps73
  go_upto_region 1 with fail
  rw [unhide HW]
  try rw [hG]
  clear HW
  have hk := unhide HK
  clear HK
  rcases hk with rfl
  · have CC := hide (all_any B0 a n cc (ks) _ (fun y => decide (y.k = 20)) w1 call_isPair (unhide HH).1 (unhide HH).2.1 (unhide HH).2.2.1 (fun y _ => isPair_any_ask B0 y))
    obtain ⟨q, hq⟩ : ∃ q, ks.all (fun y => decide (y.k = 20)) = q := ⟨_, rfl⟩
    rw [hq] at CC
    have HQ := hide hq
    clear hq
    go_wp2_with fail
    refine (unhide CC).mono ?_
    rintro e w2 ⟨rfl, b2⟩
    have HV := hide (show R = q by rw [← unhide HR, ← unhide HQ, show kdB 19 (ks.map (·.k)) = (ks.map (·.k)).all (fun x => decide (x = 20)) by simp [kdB], all_k])
    have HB := hide ((unhide HX).trans (b2.mono (unhide HX).size))
    clear b2 CC
    go_wp2_with fail
    go_ret
    exact ⟨by rw [unhide HV]; rfl, by first | exact unhide HB | (rw [← hG]; exact unhide HB) | (rw [hG]; exact unhide HB)⟩

set_option maxRecDepth 100000 in
set_option maxHeartbeats 2000000 in
theorem kids10_any (B0 : Nat) (ks : List Tn) (k vk vn p : Int) (t vs : ByteArray) (al ak a : Option Addr) (ll cl lk ck n cc : Nat) (f : Bool) (w : World) (hB : B0 ≤ w.heap.size) (hr : RowN w B0 ks a cc) (hn : ks.length = n) (hk : k = 3 ∨ k = 10 ∨ k = 11 ∨ k = 13 ∨ k = 14) : Calls Tryz.prog 73 #[.agg #[.int .i64 k, .string t, .int .i64 vk, .int .i64 vn, .string vs, .slice al ll cl, .slice ak lk ck, .bool f, .slice a n cc, .int .i64 p]] w fun e w' => e = .returned (.bool (kdB k (ks.map (·.k)))) ∧ Below w.heap.size w w' := by
  have HK := hide hk
  clear hk
  obtain ⟨w1, hw1⟩ : ∃ w1, w.alloc (.cells #[.int .i64 k, .string t, .int .i64 vk, .int .i64 vn, .string vs, .slice al ll cl, .slice ak lk ck, .bool f, .slice a n cc, .int .i64 p] 28) = w1 := ⟨_, rfl⟩
  obtain ⟨G, hG⟩ : ∃ G, w.heap.size = G := ⟨_, rfl⟩
  have A1 : w1.heap[G]? = some (.cells #[.int .i64 k, .string t, .int .i64 vk, .int .i64 vn, .string vs, .slice al ll cl, .slice ak lk ck, .bool f, .slice a n cc, .int .i64 p] 28 (0, 0)) := by rw [← hw1, ← hG]; exact heap_alloc_new _ _
  have HX := hide (show Below w.heap.size w w1 by rw [← hw1]; exact (Below.refl _ _).alloc (Nat.le_refl _) _)
  obtain ⟨c0, _, _, _, _, _, _, _, c8, _⟩ := row_ten A1
  have HA := hide A1
  obtain ⟨R, hR⟩ : ∃ R, (kdB k (ks.map (·.k))) = R := ⟨_, rfl⟩
  rw [hR]
  have HR := hide hR
  have HW := hide hw1
  have HH := hide (And.intro (hr.later ((unhide HX).mono hB)) (And.intro hn (And.intro (Nat.le_trans hB (unhide HX).size) hB)))
  have hnb : n ≤ 140737488351232 := by rw [← hn]; exact hr.len
  have hncc : n ≤ cc := by obtain ⟨C, hf, _⟩ := hr; rw [← hn]; exact hf.ll
  have HM := hide (show (ks.map (·.k)).length = n by rw [List.length_map]; exact hn)
  clear hr hB hn
  clear A1 hw1 hR
  go_enter Tryz.func73, Tryz.ntmps73
  go_upto_region 1 with fail
  rw [unhide HW]
  try rw [hG]
  clear HW
  have hk := unhide HK
  clear HK
  rcases hk with rfl | rfl | rfl | rfl | rfl
  · by_cases hq1 : n = 0
    · have q1 : (n : Int) = 0 := by omega
      have q2 : ((n : Int) == 0) = true := by simpa using q1
      have HV := hide (show R = true by rw [← unhide HR, kd_none (by omega), unhide HM, decide_eq_true hq1])
      have HB := HX
      go_wp2_with fail
      go_ret
      exact ⟨by rw [unhide HV]; rfl, by first | exact unhide HB | (rw [← hG]; exact unhide HB) | (rw [hG]; exact unhide HB)⟩
    · have q1 : ¬ (n : Int) = 0 := by omega
      have q2 : ((n : Int) == 0) = false := beq_eq_false_iff_ne.2 q1
      have q3 : (n == 0) = false := beq_eq_false_iff_ne.2 hq1
      have HV := hide (show R = false by rw [← unhide HR]; rw [kd_none (by omega), unhide HM, decide_eq_false hq1])
      have HB := HX
      go_wp2_with fail
      go_ret
      exact ⟨by rw [unhide HV]; rfl, by first | exact unhide HB | (rw [← hG]; exact unhide HB) | (rw [hG]; exact unhide HB)⟩
  · by_cases hq1 : n = 0
    · have q1 : (n : Int) = 0 := by omega
      have q2 : ((n : Int) == 0) = true := by simpa using q1
      have HV := hide (show R = true by rw [← unhide HR, kd_none (by omega), unhide HM, decide_eq_true hq1])
      have HB := HX
      go_wp2_with fail
      go_ret
      exact ⟨by rw [unhide HV]; rfl, by first | exact unhide HB | (rw [← hG]; exact unhide HB) | (rw [hG]; exact unhide HB)⟩
    · have q1 : ¬ (n : Int) = 0 := by omega
      have q2 : ((n : Int) == 0) = false := beq_eq_false_iff_ne.2 q1
      have q3 : (n == 0) = false := beq_eq_false_iff_ne.2 hq1
      have HV := hide (show R = false by rw [← unhide HR]; rw [kd_none (by omega), unhide HM, decide_eq_false hq1])
      have HB := HX
      go_wp2_with fail
      go_ret
      exact ⟨by rw [unhide HV]; rfl, by first | exact unhide HB | (rw [← hG]; exact unhide HB) | (rw [hG]; exact unhide HB)⟩
  · by_cases hq1 : n = 0
    · have q1 : (n : Int) = 0 := by omega
      have q2 : ((n : Int) == 0) = true := by simpa using q1
      have HV := hide (show R = true by rw [← unhide HR, kd_none (by omega), unhide HM, decide_eq_true hq1])
      have HB := HX
      go_wp2_with fail
      go_ret
      exact ⟨by rw [unhide HV]; rfl, by first | exact unhide HB | (rw [← hG]; exact unhide HB) | (rw [hG]; exact unhide HB)⟩
    · have q1 : ¬ (n : Int) = 0 := by omega
      have q2 : ((n : Int) == 0) = false := beq_eq_false_iff_ne.2 q1
      have q3 : (n == 0) = false := beq_eq_false_iff_ne.2 hq1
      have HV := hide (show R = false by rw [← unhide HR]; rw [kd_none (by omega), unhide HM, decide_eq_false hq1])
      have HB := HX
      go_wp2_with fail
      go_ret
      exact ⟨by rw [unhide HV]; rfl, by first | exact unhide HB | (rw [← hG]; exact unhide HB) | (rw [hG]; exact unhide HB)⟩
  · by_cases hq1 : n = 0
    · have q1 : (n : Int) = 0 := by omega
      have q2 : ((n : Int) == 0) = true := by simpa using q1
      have HV := hide (show R = true by rw [← unhide HR, kd_none (by omega), unhide HM, decide_eq_true hq1])
      have HB := HX
      go_wp2_with fail
      go_ret
      exact ⟨by rw [unhide HV]; rfl, by first | exact unhide HB | (rw [← hG]; exact unhide HB) | (rw [hG]; exact unhide HB)⟩
    · have q1 : ¬ (n : Int) = 0 := by omega
      have q2 : ((n : Int) == 0) = false := beq_eq_false_iff_ne.2 q1
      have q3 : (n == 0) = false := beq_eq_false_iff_ne.2 hq1
      have HV := hide (show R = false by rw [← unhide HR]; rw [kd_none (by omega), unhide HM, decide_eq_false hq1])
      have HB := HX
      go_wp2_with fail
      go_ret
      exact ⟨by rw [unhide HV]; rfl, by first | exact unhide HB | (rw [← hG]; exact unhide HB) | (rw [hG]; exact unhide HB)⟩
  · by_cases hq1 : n = 0
    · have q1 : (n : Int) = 0 := by omega
      have q2 : ((n : Int) == 0) = true := by simpa using q1
      have HV := hide (show R = true by rw [← unhide HR, kd_none (by omega), unhide HM, decide_eq_true hq1])
      have HB := HX
      go_wp2_with fail
      go_ret
      exact ⟨by rw [unhide HV]; rfl, by first | exact unhide HB | (rw [← hG]; exact unhide HB) | (rw [hG]; exact unhide HB)⟩
    · have q1 : ¬ (n : Int) = 0 := by omega
      have q2 : ((n : Int) == 0) = false := beq_eq_false_iff_ne.2 q1
      have q3 : (n == 0) = false := beq_eq_false_iff_ne.2 hq1
      have HV := hide (show R = false by rw [← unhide HR]; rw [kd_none (by omega), unhide HM, decide_eq_false hq1])
      have HB := HX
      go_wp2_with fail
      go_ret
      exact ⟨by rw [unhide HV]; rfl, by first | exact unhide HB | (rw [← hG]; exact unhide HB) | (rw [hG]; exact unhide HB)⟩
end Go.Proofs.YtjkfkneibcjgaaaGreatDoor
