/-
  Layer 18 (print): a node's kids are as its kind says; conditions: the nodes lie in memory.
  Layer 18 (print): a node's kids are as its kind says; conditions: the nodes lie in memory.
-/
import Derived.Test.YtjkfkneibcjgaaaGreatDoorA10
set_option linter.unusedVariables false
set_option linter.unusedSimpArgs false
namespace Go.Proofs.YtjkfkneibcjgaaaGreatDoor
open Go.RowKit
set_option linter.unusedVariables false
set_option linter.unusedSimpArgs false


set_option maxRecDepth 100000 in
set_option maxHeartbeats 2000000 in
theorem kids0_any (B0 : Nat) (ks : List Tn) (k vk vn p : Int) (t vs : ByteArray) (al ak a : Option Addr) (ll cl lk ck n cc : Nat) (f : Bool) (w : World) (hB : B0 ≤ w.heap.size) (hr : RowN w B0 ks a cc) (hn : ks.length = n) (hk : k = 1) : Calls Tryz.prog 73 #[.agg #[.int .i64 k, .string t, .int .i64 vk, .int .i64 vn, .string vs, .slice al ll cl, .slice ak lk ck, .bool f, .slice a n cc, .int .i64 p]] w fun e w' => e = .returned (.bool (kdB k (ks.map (·.k)))) ∧ Below w.heap.size w w' := by
  have HK := hide hk
  clear hk
  obtain ⟨w1, hw1⟩ : ∃ w1, w.alloc (.cells #[.int .i64 k, .string t, .int .i64 vk, .int .i64 vn, .string vs, .slice al ll cl, .slice ak lk ck, .bool f, .slice a n cc, .int .i64 p] 28) = w1 := ⟨_, rfl⟩
  obtain ⟨G, hG⟩ : ∃ G, w.heap.size = G := ⟨_, rfl⟩
  have A1 : w1.heap[G]? = some (.cells #[.int .i64 k, .string t, .int .i64 vk, .int .i64 vn, .string vs, .slice al ll cl, .slice ak lk ck, .bool f, .slice a n cc, .int .i64 p] 28 (0, 0)) := by rw [← hw1, ← hG]; exact heap_alloc_new _ _
  have HX := hide (show Below w.heap.size w w1 by rw [← hw1]; exact (Below.refl _ _).alloc (Nat.le_refl _) _)
  obtain ⟨c0, _, _, _, _, _, _, _, c8, _⟩ := row_ten A1
  have HA := hide A1
  obtain ⟨R, hR⟩ : ∃ R, (kdB k (ks.map (·.k))) = R := ⟨_, rfl⟩
  rw [hR]
  have HR := hide hR
  have HW := hide hw1
  have HH := hide (And.intro (hr.later ((unhide HX).mono hB)) (And.intro hn (And.intro (Nat.le_trans hB (unhide HX).size) hB)))
  have hnb : n ≤ 140737488351232 := by rw [← hn]; exact hr.len
  have hncc : n ≤ cc := by obtain ⟨C, hf, _⟩ := hr; rw [← hn]; exact hf.ll
  have HM := hide (show (ks.map (·.k)).length = n by rw [List.length_map]; exact hn)
  clear hr hB hn
  clear A1 hw1 hR
  go_enter Tryz.func73, Tryz.ntmps73
  go_upto_region 1 with fail
  rw [unhide HW]
  try rw [hG]
  clear HW
  have hk := unhide HK
  clear HK
  rcases hk with rfl
  · have CC := hide (all_any B0 a n cc (ks) _ (fun y => decide (y.k = 2)) w1 call_isFn (unhide HH).1 (unhide HH).2.1 (unhide HH).2.2.1 (fun y _ => isFn_any_ask B0 y))
    obtain ⟨q, hq⟩ : ∃ q, ks.all (fun y => decide (y.k = 2)) = q := ⟨_, rfl⟩
    rw [hq] at CC
    have HQ := hide hq
    clear hq
    go_wp2_with fail
    refine (unhide CC).mono ?_
    rintro e w2 ⟨rfl, b2⟩
    have HV := hide (show R = q by rw [← unhide HR, ← unhide HQ, show kdB 1 (ks.map (·.k)) = (ks.map (·.k)).all (fun x => decide (x = 2)) by simp [kdB], all_k])
    have HB := hide ((unhide HX).trans (b2.mono (unhide HX).size))
    clear b2 CC
    go_wp2_with fail
    go_ret
    exact ⟨by rw [unhide HV]; rfl, by first | exact unhide HB | (rw [← hG]; exact unhide HB) | (rw [hG]; exact unhide HB)⟩

set_option maxRecDepth 100000 in
set_option maxHeartbeats 2000000 in
theorem kids1_any (B0 : Nat) (ks : List Tn) (k vk vn p : Int) (t vs : ByteArray) (al ak a : Option Addr) (ll cl lk ck n cc : Nat) (f : Bool) (w : World) (hB : B0 ≤ w.heap.size) (hr : RowN w B0 ks a cc) (hn : ks.length = n) (hk : k = 2) : Calls Tryz.prog 73 #[.agg #[.int .i64 k, .string t, .int .i64 vk, .int .i64 vn, .string vs, .slice al ll cl, .slice ak lk ck, .bool f, .slice a n cc, .int .i64 p]] w fun e w' => e = .returned (.bool (kdB k (ks.map (·.k)))) ∧ Below w.heap.size w w' := by
  have HK := hide hk
  clear hk
  obtain ⟨w1, hw1⟩ : ∃ w1, w.alloc (.cells #[.int .i64 k, .string t, .int .i64 vk, .int .i64 vn, .string vs, .slice al ll cl, .slice ak lk ck, .bool f, .slice a n cc, .int .i64 p] 28) = w1 := ⟨_, rfl⟩
  obtain ⟨G, hG⟩ : ∃ G, w.heap.size = G := ⟨_, rfl⟩
  have A1 : w1.heap[G]? = some (.cells #[.int .i64 k, .string t, .int .i64 vk, .int .i64 vn, .string vs, .slice al ll cl, .slice ak lk ck, .bool f, .slice a n cc, .int .i64 p] 28 (0, 0)) := by rw [← hw1, ← hG]; exact heap_alloc_new _ _
  have HX := hide (show Below w.heap.size w w1 by rw [← hw1]; exact (Below.refl _ _).alloc (Nat.le_refl _) _)
  obtain ⟨c0, _, _, _, _, _, _, _, c8, _⟩ := row_ten A1
  have HA := hide A1
  obtain ⟨R, hR⟩ : ∃ R, (kdB k (ks.map (·.k))) = R := ⟨_, rfl⟩
  rw [hR]
  have HR := hide hR
  have HW := hide hw1
  have HH := hide (And.intro (hr.later ((unhide HX).mono hB)) (And.intro hn (And.intro (Nat.le_trans hB (unhide HX).size) hB)))
  have hnb : n ≤ 140737488351232 := by rw [← hn]; exact hr.len
  have hncc : n ≤ cc := by obtain ⟨C, hf, _⟩ := hr; rw [← hn]; exact hf.ll
  have HM := hide (show (ks.map (·.k)).length = n by rw [List.length_map]; exact hn)
  clear hr hB hn
  clear A1 hw1 hR
  go_enter Tryz.func73, Tryz.ntmps73
  go_upto_region 1 with fail
  rw [unhide HW]
  try rw [hG]
  clear HW
  have hk := unhide HK
  clear HK
  rcases hk with rfl
  · by_cases hq1 : n = 0
    · have q1 : ¬ (1 : Int) ≤ (n : Int) := by omega
      have HV := hide (show R = false by rw [← unhide HR]; rw [kd_fn, unhide HM, decide_eq_false (by omega), Bool.false_and, Bool.false_and])
      have HB := HX
      go_wp2_with fail
      go_ret
      exact ⟨by rw [unhide HV]; rfl, by first | exact unhide HB | (rw [← hG]; exact unhide HB) | (rw [hG]; exact unhide HB)⟩
    · have q1 : (1 : Int) ≤ (n : Int) := by omega
      obtain ⟨m, hm⟩ : ∃ m, n = m + 1 := ⟨n - 1, by omega⟩
      have q2 : (n : Int) - 1 = (m : Int) := by omega
      have q3 : m ≤ cc := by omega
      have q4 : (m : Int) ≤ (cc : Int) := by omega
      have hmt : (ks.take m).length = m := by rw [List.length_take, (unhide HH).2.1]; omega
      have HMM := hide hm
      clear hm
      have CC := hide (all_any B0 a m cc (ks.take m) _ (fun y => decide (y.k = 3)) w1 call_isParam ((unhide HH).1.take m) hmt (unhide HH).2.2.1 (fun y _ => isParam_any_ask B0 y))
      obtain ⟨q, hq⟩ : ∃ q, (ks.take m).all (fun y => decide (y.k = 3)) = q := ⟨_, rfl⟩
      rw [hq] at CC
      have HQ := hide hq
      clear hq hmt
      go_wp2_with fail
      refine (unhide CC).mono ?_
      rintro e w2 ⟨rfl, b2⟩
      have A2 := (b2.block G (lt_of_row (unhide HA))).trans (unhide HA)
      have HB := hide ((unhide HX).trans (b2.mono (unhide HX).size))
      cases q with
      | false =>
        have HV := hide (show R = false by rw [← unhide HR, kd_fn, unhide HM, unhide HMM, Nat.add_sub_cancel, decide_eq_true (by omega), Bool.true_and, ← List.map_take, all_k, unhide HQ, Bool.false_and])
        clear A2 b2 CC
        go_wp2_with fail
        go_ret
        exact ⟨by rw [unhide HV]; rfl, by first | exact unhide HB | (rw [← hG]; exact unhide HB) | (rw [hG]; exact unhide HB)⟩
      | true =>
        obtain ⟨z, hz⟩ : ∃ z, ks[m]? = some z := ⟨_, List.getElem?_eq_getElem (by rw [(unhide HH).2.1, unhide HMM]; omega)⟩
        obtain ⟨b, vkz, vnz, vsz, alz, akz, az, llz, clz, lkz, ckz, nz, ccz, rfl, hcz, hbz, hnz, hzz, hcellz⟩ := ((unhide HH).1.later (b2.mono (unhide HH).2.2.1)).ten hz
        obtain ⟨kz, tz, vz, fz, ksz, pz⟩ := z
        simp only at hcellz
        have HV := hide (show R = decide (kz = 4) by rw [← unhide HR, kd_fn, unhide HM, unhide HMM, Nat.add_sub_cancel, decide_eq_true (by omega), Bool.true_and, ← List.map_take, all_k, unhide HQ, Bool.true_and, List.getElem?_map, hz]; simp)
        have hc2 := hcellz
        have ez0 : w2.cell? (b.add (m * 10)) = some (.int .i64 kz) := hc2 0 _ rfl
        have ez1 : w2.cell? ⟨(b.add (m * 10)).block, (b.add (m * 10)).off + 1, none⟩ = some (.string tz) := hc2 1 _ rfl
        have ez2 : w2.cell? ⟨(b.add (m * 10)).block, (b.add (m * 10)).off + 2, none⟩ = some (.int .i64 vkz) := hc2 2 _ rfl
        have ez3 : w2.cell? ⟨(b.add (m * 10)).block, (b.add (m * 10)).off + 3, none⟩ = some (.int .i64 vnz) := hc2 3 _ rfl
        have ez4 : w2.cell? ⟨(b.add (m * 10)).block, (b.add (m * 10)).off + 4, none⟩ = some (.string vsz) := hc2 4 _ rfl
        have ez5 : w2.cell? ⟨(b.add (m * 10)).block, (b.add (m * 10)).off + 5, none⟩ = some (.slice alz llz clz) := hc2 5 _ rfl
        have ez6 : w2.cell? ⟨(b.add (m * 10)).block, (b.add (m * 10)).off + 6, none⟩ = some (.slice akz lkz ckz) := hc2 6 _ rfl
        have ez7 : w2.cell? ⟨(b.add (m * 10)).block, (b.add (m * 10)).off + 7, none⟩ = some (.bool fz) := hc2 7 _ rfl
        have ez8 : w2.cell? ⟨(b.add (m * 10)).block, (b.add (m * 10)).off + 8, none⟩ = some (.slice az nz ccz) := hc2 8 _ rfl
        have ez9 : w2.cell? ⟨(b.add (m * 10)).block, (b.add (m * 10)).off + 9, none⟩ = some (.int .i64 pz) := hc2 9 _ rfl
        obtain ⟨_, _, _, _, _, _, _, _, x8, _⟩ := row_ten A2
        have CB := hide (isBlock_any kz vkz vnz pz tz vsz alz akz az llz clz lkz ckz nz ccz fz w2)
        obtain ⟨q, hq⟩ : ∃ q, decide (kz = 4) = q := ⟨_, rfl⟩
        rw [hq] at CB HV
        have q5 : m < n := by rw [unhide HMM]; omega
        have q6 : (m : Int) < (n : Int) := by omega
        clear hq hz hzz hnz hcellz hc2 A2 b2 CC c8 c0
        go_wp2_with fail
        refine (unhide CB).mono ?_
        rintro e w3 ⟨rfl, b3⟩
        have HB3 := hide ((unhide HB).trans (b3.mono (unhide HB).size))
        clear b3 CB HB
        have HB := HB3
        clear HB3
        go_wp2_with fail
        go_ret
        exact ⟨by rw [unhide HV]; rfl, by first | exact unhide HB | (rw [← hG]; exact unhide HB) | (rw [hG]; exact unhide HB)⟩

set_option maxRecDepth 100000 in
set_option maxHeartbeats 2000000 in
theorem kids2_any (B0 : Nat) (ks : List Tn) (k vk vn p : Int) (t vs : ByteArray) (al ak a : Option Addr) (ll cl lk ck n cc : Nat) (f : Bool) (w : World) (hB : B0 ≤ w.heap.size) (hr : RowN w B0 ks a cc) (hn : ks.length = n) (hk : k = 4) : Calls Tryz.prog 73 #[.agg #[.int .i64 k, .string t, .int .i64 vk, .int .i64 vn, .string vs, .slice al ll cl, .slice ak lk ck, .bool f, .slice a n cc, .int .i64 p]] w fun e w' => e = .returned (.bool (kdB k (ks.map (·.k)))) ∧ Below w.heap.size w w' := by
  have HK := hide hk
  clear hk
  obtain ⟨w1, hw1⟩ : ∃ w1, w.alloc (.cells #[.int .i64 k, .string t, .int .i64 vk, .int .i64 vn, .string vs, .slice al ll cl, .slice ak lk ck, .bool f, .slice a n cc, .int .i64 p] 28) = w1 := ⟨_, rfl⟩
  obtain ⟨G, hG⟩ : ∃ G, w.heap.size = G := ⟨_, rfl⟩
  have A1 : w1.heap[G]? = some (.cells #[.int .i64 k, .string t, .int .i64 vk, .int .i64 vn, .string vs, .slice al ll cl, .slice ak lk ck, .bool f, .slice a n cc, .int .i64 p] 28 (0, 0)) := by rw [← hw1, ← hG]; exact heap_alloc_new _ _
  have HX := hide (show Below w.heap.size w w1 by rw [← hw1]; exact (Below.refl _ _).alloc (Nat.le_refl _) _)
  obtain ⟨c0, _, _, _, _, _, _, _, c8, _⟩ := row_ten A1
  have HA := hide A1
  obtain ⟨R, hR⟩ : ∃ R, (kdB k (ks.map (·.k))) = R := ⟨_, rfl⟩
  rw [hR]
  have HR := hide hR
  have HW := hide hw1
  have HH := hide (And.intro (hr.later ((unhide HX).mono hB)) (And.intro hn (And.intro (Nat.le_trans hB (unhide HX).size) hB)))
  have hnb : n ≤ 140737488351232 := by rw [← hn]; exact hr.len
  have hncc : n ≤ cc := by obtain ⟨C, hf, _⟩ := hr; rw [← hn]; exact hf.ll
  have HM := hide (show (ks.map (·.k)).length = n by rw [List.length_map]; exact hn)
  clear hr hB hn
  clear A1 hw1 hR
  go_enter Tryz.func73, Tryz.ntmps73
  go_upto_region 1 with fail
  rw [unhide HW]
  try rw [hG]
  clear HW
  have hk := unhide HK
  clear HK
  rcases hk with rfl
  · have CC := hide (all_any B0 a n cc (ks) _ (fun y => isStm y.k) w1 call_isStatement (unhide HH).1 (unhide HH).2.1 (unhide HH).2.2.1 (fun y _ => isStatement_any_ask B0 y))
    obtain ⟨q, hq⟩ : ∃ q, ks.all (fun y => isStm y.k) = q := ⟨_, rfl⟩
    rw [hq] at CC
    have HQ := hide hq
    clear hq
    go_wp2_with fail
    refine (unhide CC).mono ?_
    rintro e w2 ⟨rfl, b2⟩
    have HV := hide (show R = q by rw [← unhide HR, ← unhide HQ, show kdB 4 (ks.map (·.k)) = (ks.map (·.k)).all isStm by simp [kdB], all_k])
    have HB := hide ((unhide HX).trans (b2.mono (unhide HX).size))
    clear b2 CC
    go_wp2_with fail
    go_ret
    exact ⟨by rw [unhide HV]; rfl, by first | exact unhide HB | (rw [← hG]; exact unhide HB) | (rw [hG]; exact unhide HB)⟩
end Go.Proofs.YtjkfkneibcjgaaaGreatDoor

namespace Go.Proofs.YtjkfkneibcjgaaaGreatDoor
open Go.RowKit
set_option linter.unusedVariables false
set_option linter.unusedSimpArgs false


set_option maxRecDepth 100000 in
set_option maxHeartbeats 2000000 in
theorem kids3_any (B0 : Nat) (ks : List Tn) (k vk vn p : Int) (t vs : ByteArray) (al ak a : Option Addr) (ll cl lk ck n cc : Nat) (f : Bool) (w : World) (hB : B0 ≤ w.heap.size) (hr : RowN w B0 ks a cc) (hn : ks.length = n) (hk : k = 7) : Calls Tryz.prog 73 #[.agg #[.int .i64 k, .string t, .int .i64 vk, .int .i64 vn, .string vs, .slice al ll cl, .slice ak lk ck, .bool f, .slice a n cc, .int .i64 p]] w fun e w' => e = .returned (.bool (kdB k (ks.map (·.k)))) ∧ Below w.heap.size w w' := by
  have HK := hide hk
  clear hk
  obtain ⟨w1, hw1⟩ : ∃ w1, w.alloc (.cells #[.int .i64 k, .string t, .int .i64 vk, .int .i64 vn, .string vs, .slice al ll cl, .slice ak lk ck, .bool f, .slice a n cc, .int .i64 p] 28) = w1 := ⟨_, rfl⟩
  obtain ⟨G, hG⟩ : ∃ G, w.heap.size = G := ⟨_, rfl⟩
  have A1 : w1.heap[G]? = some (.cells #[.int .i64 k, .string t, .int .i64 vk, .int .i64 vn, .string vs, .slice al ll cl, .slice ak lk ck, .bool f, .slice a n cc, .int .i64 p] 28 (0, 0)) := by rw [← hw1, ← hG]; exact heap_alloc_new _ _
  have HX := hide (show Below w.heap.size w w1 by rw [← hw1]; exact (Below.refl _ _).alloc (Nat.le_refl _) _)
  obtain ⟨c0, _, _, _, _, _, _, _, c8, _⟩ := row_ten A1
  have HA := hide A1
  obtain ⟨R, hR⟩ : ∃ R, (kdB k (ks.map (·.k))) = R := ⟨_, rfl⟩
  rw [hR]
  have HR := hide hR
  have HW := hide hw1
  have HH := hide (And.intro (hr.later ((unhide HX).mono hB)) (And.intro hn (And.intro (Nat.le_trans hB (unhide HX).size) hB)))
  have hnb : n ≤ 140737488351232 := by rw [← hn]; exact hr.len
  have hncc : n ≤ cc := by obtain ⟨C, hf, _⟩ := hr; rw [← hn]; exact hf.ll
  have HM := hide (show (ks.map (·.k)).length = n by rw [List.length_map]; exact hn)
  clear hr hB hn
  clear A1 hw1 hR
  go_enter Tryz.func73, Tryz.ntmps73
  go_upto_region 1 with fail
  rw [unhide HW]
  try rw [hG]
  clear HW
  have hk := unhide HK
  clear HK
  rcases hk with rfl
  · by_cases hq1 : n = 2
    · subst hq1
      obtain ⟨hr1, hn, hB1, _⟩ := unhide HH
      obtain ⟨y, z, rfl⟩ : ∃ y z, ks = [y, z] := by match ks, hn with | [y, z], _ => exact ⟨_, _, rfl⟩
      have CG := hide (isGuarded_any B0 y z [] 7 vk vn p t vs al ak a ll cl lk ck 2 cc f w1 hB1 hr1 hn)
      obtain ⟨q, hq⟩ : ∃ q, (isEx y.k && decide (z.k = 4)) = q := ⟨_, rfl⟩
      rw [hq] at CG
      have HQ := hide hq
      clear hq
      obtain ⟨x0, x1, x2, x3, x4, x5, x6, x7, x8, x9⟩ := row_ten (unhide HA)
      go_wp2_with fail
      refine (unhide CG).mono ?_
      rintro e w2 ⟨rfl, b2⟩
      have A2 := (b2.block G (lt_of_row (unhide HA))).trans (unhide HA)
      have HB := hide ((unhide HX).trans (b2.mono (unhide HX).size))
      have HV := hide (show R = q by rw [← unhide HR, kd_if, ← unhide HQ]; simp)
      clear hr1 hn A2 b2 CG x0 x1 x2 x3 x4 x5 x6 x7 x8 x9
      cases q with
      | false =>
        go_wp2_with fail
        go_ret
        exact ⟨by rw [unhide HV]; rfl, by first | exact unhide HB | (rw [← hG]; exact unhide HB) | (rw [hG]; exact unhide HB)⟩
      | true =>
        go_wp2_with fail
        go_ret
        exact ⟨by rw [unhide HV]; rfl, by first | exact unhide HB | (rw [← hG]; exact unhide HB) | (rw [hG]; exact unhide HB)⟩
    · by_cases hq2 : n = 3
      · subst hq2
        obtain ⟨hr1, hn, hB1, _⟩ := unhide HH
        obtain ⟨y, z, x, rfl⟩ : ∃ y z x, ks = [y, z, x] := by match ks, hn with | [y, z, x], _ => exact ⟨_, _, _, rfl⟩
        obtain ⟨b, vkx, vnx, vsx, alx, akx, ax, llx, clx, lkx, ckx, nx, ccx, rfl, hcx, hbx, hnx, hzx, hcellx⟩ := hr1.ten (i := 2) (y := x) rfl
        obtain ⟨kx, tx, vx, fx, ksx, px⟩ := x
        simp only at hcellx
        have CG := hide (isGuarded_any B0 y z [⟨kx, tx, vx, fx, ksx, px⟩] 7 vk vn p t vs al ak (some b) ll cl lk ck 3 cc f w1 hB1 hr1 hn)
        obtain ⟨q, hq⟩ : ∃ q, (isEx y.k && decide (z.k = 4)) = q := ⟨_, rfl⟩
        rw [hq] at CG
        have HQ := hide hq
        clear hq
        obtain ⟨x0, x1, x2, x3, x4, x5, x6, x7, x8, x9⟩ := row_ten (unhide HA)
        go_wp2_with fail
        refine (unhide CG).mono ?_
        rintro e w2 ⟨rfl, b2⟩
        have A2 := (b2.block G (lt_of_row (unhide HA))).trans (unhide HA)
        have HB := hide ((unhide HX).trans (b2.mono (unhide HX).size))
        cases q with
        | false =>
          have HV := hide (show R = false by rw [← unhide HR, kd_if]; have := unhide HQ; simp at this ⊢; intro h1 h2; exact absurd h2 (this h1))
          clear hr1 hn A2 b2 CG hcellx hzx hnx x0 x1 x2 x3 x4 x5 x6 x7 x8 x9
          go_wp2_with fail
          go_ret
          exact ⟨by rw [unhide HV]; rfl, by first | exact unhide HB | (rw [← hG]; exact unhide HB) | (rw [hG]; exact unhide HB)⟩
        | true =>
          have hlt : b.block < w1.heap.size := Nat.lt_of_lt_of_le hbx hB1
          have hc2 : ∀ j v, ([.int .i64 kx, .string tx, .int .i64 vkx, .int .i64 vnx, .string vsx, .slice alx llx clx, .slice akx lkx ckx, .bool fx, .slice ax nx ccx, .int .i64 px] : List Value)[j]? = some v → w2.cell? ((b.add (2 * 10)).add j) = some v := fun j v hj => (World.cell?_of_block (b2.block _ (by rw [block_add, block_add]; exact hlt))).trans (hcellx j v hj)
          have ex0 : w2.cell? ⟨b.block, b.off + 20, none⟩ = some (.int .i64 kx) := hc2 0 _ rfl
          have ex1 : w2.cell? ⟨b.block, b.off + 20 + 1, none⟩ = some (.string tx) := hc2 1 _ rfl
          have ex2 : w2.cell? ⟨b.block, b.off + 20 + 2, none⟩ = some (.int .i64 vkx) := hc2 2 _ rfl
          have ex3 : w2.cell? ⟨b.block, b.off + 20 + 3, none⟩ = some (.int .i64 vnx) := hc2 3 _ rfl
          have ex4 : w2.cell? ⟨b.block, b.off + 20 + 4, none⟩ = some (.string vsx) := hc2 4 _ rfl
          have ex5 : w2.cell? ⟨b.block, b.off + 20 + 5, none⟩ = some (.slice alx llx clx) := hc2 5 _ rfl
          have ex6 : w2.cell? ⟨b.block, b.off + 20 + 6, none⟩ = some (.slice akx lkx ckx) := hc2 6 _ rfl
          have ex7 : w2.cell? ⟨b.block, b.off + 20 + 7, none⟩ = some (.bool fx) := hc2 7 _ rfl
          have ex8 : w2.cell? ⟨b.block, b.off + 20 + 8, none⟩ = some (.slice ax nx ccx) := hc2 8 _ rfl
          have ex9 : w2.cell? ⟨b.block, b.off + 20 + 9, none⟩ = some (.int .i64 px) := hc2 9 _ rfl
          clear x0 x1 x2 x3 x4 x5 x6 x7 x8 x9
          obtain ⟨_, _, _, _, _, _, _, _, x8, _⟩ := row_ten A2
          have CO := hide (isOther_any kx vkx vnx px tx vsx alx akx ax llx clx lkx ckx nx ccx fx w2)
          obtain ⟨q, hq⟩ : ∃ q, (decide (kx = 4) || decide (kx = 7)) = q := ⟨_, rfl⟩
          rw [hq] at CO
          have HV := hide (show R = q by rw [← unhide HR, kd_if, ← hq]; have := unhide HQ; simp at this ⊢; simp [this.1, this.2])
          clear hq hr1 hn A2 b2 CG hcellx hzx hnx hlt hc2 c0 c8
          go_wp2_with fail
          refine (unhide CO).mono ?_
          rintro e w3 ⟨rfl, b3⟩
          have HB3 := hide ((unhide HB).trans (b3.mono (unhide HB).size))
          clear b3 CO HB
          have HB := HB3
          clear HB3
          go_wp2_with fail
          go_ret
          exact ⟨by rw [unhide HV]; rfl, by first | exact unhide HB | (rw [← hG]; exact unhide HB) | (rw [hG]; exact unhide HB)⟩
      · have q1 : ¬ (n : Int) = 2 := by omega
        have q2 : ((n : Int) == 2) = false := beq_eq_false_iff_ne.2 q1
        have q3 : (n == 2) = false := beq_eq_false_iff_ne.2 hq1
        have q4 : ¬ (n : Int) = 3 := by omega
        have q5 : ((n : Int) == 3) = false := beq_eq_false_iff_ne.2 q4
        have q6 : (n == 3) = false := beq_eq_false_iff_ne.2 hq2
        have HV := hide (show R = false by rw [← unhide HR]; rw [kd_if, unhide HM, decide_eq_false hq1, decide_eq_false hq2]; rfl)
        have HB := HX
        go_wp2_with fail
        go_ret
        exact ⟨by rw [unhide HV]; rfl, by first | exact unhide HB | (rw [← hG]; exact unhide HB) | (rw [hG]; exact unhide HB)⟩
end Go.Proofs.YtjkfkneibcjgaaaGreatDoor
