/-
  The table at texts and 32: Get, Put, Delete.
-/
import Derived.Test.YtdaooapfokhfcaaGreatA09
import Derived.Test.YtdaooapfokhfcaaGreatA07
import Derived.WalkSmall
namespace Go.Proofs.YtdaooapfokhfcaaGreat
open Go.RowKit
set_option linter.unusedVariables false
set_option linter.unusedSimpArgs false

/-- a box that is written over -/
theorem setsV {u : World} {G : Nat} {T : TypeId} {o0 o1 o2 o3 o4 a0 a1 a2 a3 a4 : Value} (h : u.heap[G]? = some (.cells #[o0, o1, o2, o3, o4] T (0, 0))) : (((((u.setCell ⟨G, 0, none⟩ a0).setCell ⟨G, 1, none⟩ a1).setCell ⟨G, 2, none⟩ a2).setCell ⟨G, 3, none⟩ a3).setCell ⟨G, 4, none⟩ a4).heap[G]? = some (.cells #[a0, a1, a2, a3, a4] T (0, 0)) ∧ (((((u.setCell ⟨G, 0, none⟩ a0).setCell ⟨G, 1, none⟩ a1).setCell ⟨G, 2, none⟩ a2).setCell ⟨G, 3, none⟩ a3).setCell ⟨G, 4, none⟩ a4).heap.size = u.heap.size ∧ (∀ b, b ≠ G → (((((u.setCell ⟨G, 0, none⟩ a0).setCell ⟨G, 1, none⟩ a1).setCell ⟨G, 2, none⟩ a2).setCell ⟨G, 3, none⟩ a3).setCell ⟨G, 4, none⟩ a4).heap[b]? = u.heap[b]?) ∧ (∀ (B : Nat) (a : World), Below B a u → B ≤ G → Below B a (((((u.setCell ⟨G, 0, none⟩ a0).setCell ⟨G, 1, none⟩ a1).setCell ⟨G, 2, none⟩ a2).setCell ⟨G, 3, none⟩ a3).setCell ⟨G, 4, none⟩ a4)) := by
  refine ⟨?_, by simp, fun b hb => ?_, fun B a hb hB => ?_⟩
  · exact heap_setCell_same _ G 4 _ _ _ (heap_setCell_same _ G 3 _ _ _ (heap_setCell_same _ G 2 _ _ _ (heap_setCell_same _ G 1 _ _ _ (heap_setCell_same _ G 0 _ _ _ (h)))))
  · rw [heap_setCell_other _ _ _ _ hb, heap_setCell_other _ _ _ _ hb, heap_setCell_other _ _ _ _ hb, heap_setCell_other _ _ _ _ hb, heap_setCell_other _ _ _ _ hb]
  · exact (((((hb).setCell (p := ⟨G, 0, none⟩) hB _).setCell (p := ⟨G, 1, none⟩) hB _).setCell (p := ⟨G, 2, none⟩) hB _).setCell (p := ⟨G, 3, none⟩) hB _).setCell (p := ⟨G, 4, none⟩) hB _

set_option maxRecDepth 100000 in
set_option maxHeartbeats 400000 in
theorem get_genV (p : Option Addr) (k : ByteArray) (w : World) (L : Nat)
    (hf : ∀ u, Below w.heap.size w u → Calls Tryz.prog 56 #[.pointer p, .string k] u fun e w' => e = .returned (.tuple #[.int .i64 L, .bool false]) ∧ ∃ q, w' = u.drewN q) :
    Calls Tryz.prog 55 #[.pointer p, .string k] w fun e w' => e = .returned (.tuple #[.agg #[.int .i64 0, .int .i64 0, .string ⟨#[]⟩, .slice none 0 0, .slice none 0 0], .bool false]) ∧ Below w.heap.size w w' := by
  obtain ⟨G, hG⟩ : ∃ G, w.heap.size = G := ⟨_, rfl⟩
  obtain ⟨w0, hw0⟩ : ∃ w0, w.alloc (.cells #[.int .i64 0, .int .i64 0, .string ⟨#[]⟩, .slice none 0 0, .slice none 0 0] 32) = w0 := ⟨_, rfl⟩
  have N0 : w0.heap[G]? = some (.cells #[.int .i64 0, .int .i64 0, .string ⟨#[]⟩, .slice none 0 0, .slice none 0 0] 32 (0, 0)) := by rw [← hw0, ← hG]; exact heap_alloc_new w _
  have B0 : Below w.heap.size w w0 := by rw [← hw0]; exact (Below.refl _ _).alloc (Nat.le_refl _) _
  have CF := hide (hf w0 B0)
  have HZ := hide (And.intro N0 B0)
  clear hf N0 B0
  go_enter Tryz.func55, Tryz.ntmps55
  go_wp2_with fail
  refine (unhide CF).mono ?_
  rintro e w1 ⟨rfl, q, hw1⟩
  have N1 : w1.heap[G]? = some (.cells #[.int .i64 0, .int .i64 0, .string ⟨#[]⟩, .slice none 0 0, .slice none 0 0] 32 (0, 0)) := by rw [hw1]; exact (unhide HZ).1
  have B1 : Below w.heap.size w w1 := by rw [hw1]; exact ⟨(unhide HZ).2.os, (unhide HZ).2.tape, (unhide HZ).2.output, (unhide HZ).2.size, (unhide HZ).2.block⟩
  have HX := hide (And.intro N1 B1)
  have z0 : w1.cell? ⟨G, 0, none⟩ = some (.int .i64 0) := by rw [cell_of_row w1 G 0 _ _ (0, 0) N1]; rfl
  have f0 := frozen_of_row w1 G 0 _ _ N1
  have z1 : w1.cell? ⟨G, 1, none⟩ = some (.int .i64 0) := by rw [cell_of_row w1 G 1 _ _ (0, 0) N1]; rfl
  have f1 := frozen_of_row w1 G 1 _ _ N1
  have z2 : w1.cell? ⟨G, 2, none⟩ = some (.string ⟨#[]⟩) := by rw [cell_of_row w1 G 2 _ _ (0, 0) N1]; rfl
  have f2 := frozen_of_row w1 G 2 _ _ N1
  have z3 : w1.cell? ⟨G, 3, none⟩ = some (.slice none 0 0) := by rw [cell_of_row w1 G 3 _ _ (0, 0) N1]; rfl
  have f3 := frozen_of_row w1 G 3 _ _ N1
  have z4 : w1.cell? ⟨G, 4, none⟩ = some (.slice none 0 0) := by rw [cell_of_row w1 G 4 _ _ (0, 0) N1]; rfl
  have f4 := frozen_of_row w1 G 4 _ _ N1
  have zl : G < w1.heap.size := (Array.getElem?_eq_some_iff.1 N1).1
  clear hw1 N1 B1 CF HZ hw0
  go_wp2_with fail
  obtain ⟨s1, s2, s3, s4⟩ := setsV (a0 := .int .i64 0) (a1 := .int .i64 0) (a2 := .string ⟨#[]⟩) (a3 := .slice none 0 0) (a4 := .slice none 0 0) (unhide HX).1
  have al : ∀ (a : World) (o : Obj), G < a.heap.size → (a.alloc o).heap[G]? = a.heap[G]? := fun a o h => ((Below.refl _ a).alloc (Nat.le_refl _) o).block G h
  refine bodyPost_ret (ret_ctV (p := 4) (u := 5) (T := 32) rfl _ _ G _ _ _ rfl ((al _ _ (by rw [s2]; exact zl)).trans s1) (show Tryz.prog.underlying 32 = some _ from rfl) rfl size_thV) rfl ?_
  exact ⟨rfl, ((s4 _ _ (unhide HX).2 (by omega))).alloc (by rw [s2]; omega) _⟩

set_option maxRecDepth 100000 in
set_option maxHeartbeats 400000 in
theorem get_inV {g : Nat} {v : Value} {l : List (ByteArray × ThV)} {w : World} (h : KTV w g v l) (hr : Rk l) (k : ByteArray) (t : ThV) (hk : lookK l k = some t) :
    Calls Tryz.prog 55 #[.pointer (some ⟨g, 0, none⟩), .string k] w fun e w' => e = .returned (.tuple #[.agg (thV t).toArray, .bool true]) ∧ Below w.heap.size w w' := by
  obtain ⟨G, hG⟩ : ∃ G, w.heap.size = G := ⟨_, rfl⟩
  obtain ⟨w0, hw0⟩ : ∃ w0, w.alloc (.cells #[.int .i64 0, .int .i64 0, .string ⟨#[]⟩, .slice none 0 0, .slice none 0 0] 32) = w0 := ⟨_, rfl⟩
  have N0 : w0.heap[G]? = some (.cells #[.int .i64 0, .int .i64 0, .string ⟨#[]⟩, .slice none 0 0, .slice none 0 0] 32 (0, 0)) := by rw [← hw0, ← hG]; exact heap_alloc_new w _
  have B0 : Below w.heap.size w w0 := by rw [← hw0]; exact (Below.refl _ _).alloc (Nat.le_refl _) _
  have hat := (look_at l k hr t).1 hk
  have hst : (l.map Prod.fst)[lowK l k]? = some k := by rw [List.getElem?_map, hat]; rfl
  have CF := find_V (h.below B0) hr k
  rw [decide_eq_true hst] at CF
  have CF := hide CF
  obtain ⟨L, hL⟩ : ∃ L, lowK l k = L := ⟨_, rfl⟩
  rw [hL] at CF hat
  have hlt : L < l.length := (List.getElem?_eq_some_iff.1 hat).1
  have c0 := (h.below B0).cell
  obtain ⟨ao, cap, rfl, hcap, hmax, hnone, hsome⟩ := (h.below B0).shape
  obtain ⟨b, rfl, hbl, hc⟩ := hsome L _ hat
  obtain ⟨t0, t1, t2, t3, t4, t5, t6, t7, t8⟩ := t
  have d0 : w0.cell? ⟨b, L * 6 + 1, none⟩ = some (.int .i64 t0) := hc 1 _ rfl
  have d1 : w0.cell? ⟨b, L * 6 + 2, none⟩ = some (.int .i64 t1) := hc 2 _ rfl
  have d2 : w0.cell? ⟨b, L * 6 + 3, none⟩ = some (.string t2) := hc 3 _ rfl
  have d3 : w0.cell? ⟨b, L * 6 + 4, none⟩ = some (.slice t3 t4 t5) := hc 4 _ rfl
  have d4 : w0.cell? ⟨b, L * 6 + 5, none⟩ = some (.slice t6 t7 t8) := hc 5 _ rfl
  have HZ := hide (And.intro N0 B0)
  obtain ⟨n, hn⟩ : ∃ n, l.length = n := ⟨_, rfl⟩
  rw [hn] at c0 hlt hcap
  have i1 : (L : Int) < (n : Int) := by omega
  have hmx : n ≤ 9223372036854775807 := by unfold maxLen at hmax; omega
  clear h hr hk hst hat hsome hnone hmax N0 B0 hn hL hc
  go_enter Tryz.func55, Tryz.ntmps55
  go_wp2_with fail
  refine (unhide CF).mono ?_
  rintro e w1 ⟨rfl, q, hw1⟩
  have N1 : w1.heap[G]? = some (.cells #[.int .i64 0, .int .i64 0, .string ⟨#[]⟩, .slice none 0 0, .slice none 0 0] 32 (0, 0)) := by rw [hw1]; exact (unhide HZ).1
  have B1 : Below w.heap.size w w1 := by rw [hw1]; exact ⟨(unhide HZ).2.os, (unhide HZ).2.tape, (unhide HZ).2.output, (unhide HZ).2.size, (unhide HZ).2.block⟩
  have HX := hide (And.intro N1 B1)
  have z0 : w1.cell? ⟨G, 0, none⟩ = some (.int .i64 0) := by rw [cell_of_row w1 G 0 _ _ (0, 0) N1]; rfl
  have f0 := frozen_of_row w1 G 0 _ _ N1
  have z1 : w1.cell? ⟨G, 1, none⟩ = some (.int .i64 0) := by rw [cell_of_row w1 G 1 _ _ (0, 0) N1]; rfl
  have f1 := frozen_of_row w1 G 1 _ _ N1
  have z2 : w1.cell? ⟨G, 2, none⟩ = some (.string ⟨#[]⟩) := by rw [cell_of_row w1 G 2 _ _ (0, 0) N1]; rfl
  have f2 := frozen_of_row w1 G 2 _ _ N1
  have z3 : w1.cell? ⟨G, 3, none⟩ = some (.slice none 0 0) := by rw [cell_of_row w1 G 3 _ _ (0, 0) N1]; rfl
  have f3 := frozen_of_row w1 G 3 _ _ N1
  have z4 : w1.cell? ⟨G, 4, none⟩ = some (.slice none 0 0) := by rw [cell_of_row w1 G 4 _ _ (0, 0) N1]; rfl
  have f4 := frozen_of_row w1 G 4 _ _ N1
  have zl : G < w1.heap.size := (Array.getElem?_eq_some_iff.1 N1).1
  have c1 : w1.cell? ⟨g, 0, none⟩ = some (.slice (some ⟨b, 0, none⟩) n cap) := by rw [hw1]; exact c0
  have e0 : w1.cell? ⟨b, L * 6 + 1, none⟩ = some (.int .i64 t0) := by rw [hw1]; exact d0
  have e1 : w1.cell? ⟨b, L * 6 + 2, none⟩ = some (.int .i64 t1) := by rw [hw1]; exact d1
  have e2 : w1.cell? ⟨b, L * 6 + 3, none⟩ = some (.string t2) := by rw [hw1]; exact d2
  have e3 : w1.cell? ⟨b, L * 6 + 4, none⟩ = some (.slice t3 t4 t5) := by rw [hw1]; exact d3
  have e4 : w1.cell? ⟨b, L * 6 + 5, none⟩ = some (.slice t6 t7 t8) := by rw [hw1]; exact d4
  clear hw1 N1 B1 CF HZ hw0 c0 hbl d0 d1 d2 d3 d4
  go_wp2_with fail
  obtain ⟨s1, s2, s3, s4⟩ := setsV (a0 := .int .i64 t0) (a1 := .int .i64 t1) (a2 := .string t2) (a3 := .slice t3 t4 t5) (a4 := .slice t6 t7 t8) (unhide HX).1
  refine bodyPost_ret (ret_ctV (p := 4) (u := 5) (T := 32) rfl _ _ G _ _ _ rfl s1 (show Tryz.prog.underlying 32 = some _ from rfl) rfl size_thV) rfl ?_
  exact ⟨rfl, s4 _ _ (unhide HX).2 (by omega)⟩

theorem get_V {g : Nat} {v : Value} {l : List (ByteArray × ThV)} {w : World} (h : KTV w g v l) (hr : Rk l) (k : ByteArray) :
    Calls Tryz.prog 55 #[.pointer (some ⟨g, 0, none⟩), .string k] w fun e w' => e = .returned (.tuple #[.agg (match lookK l k with | some t => (thV t).toArray | none => #[.int .i64 0, .int .i64 0, .string ⟨#[]⟩, .slice none 0 0, .slice none 0 0]), .bool (lookK l k).isSome]) ∧ Below w.heap.size w w' := by
  cases hk : lookK l k with
  | some t => exact get_inV h hr k t hk
  | none =>
    refine get_genV _ k w (lowK l k) fun u hu => ?_
    have CF := find_V (h.below hu) hr k
    rw [decide_eq_false ((look_none_at l k hr).1 hk)] at CF
    exact CF

theorem get_nilV (k : ByteArray) (w : World) : Calls Tryz.prog 55 #[.pointer none, .string k] w fun e w' => e = .returned (.tuple #[.agg #[.int .i64 0, .int .i64 0, .string ⟨#[]⟩, .slice none 0 0, .slice none 0 0], .bool false]) ∧ Below w.heap.size w w' :=
  get_genV _ k w 0 fun u _ => find_nilV k u

theorem cell_block {w w' : World} {b j : Nat} {v : Value} (h : w'.heap[b]? = w.heap[b]?) (hc : w.cell? ⟨b, j, none⟩ = some v) : w'.cell? ⟨b, j, none⟩ = some v := by
  simp only [World.cell?, h] at hc ⊢
  exact hc

/-- a pair's thing is written over -/
theorem cellsV_set : ∀ (l : List (ByteArray × ThV)) (i : Nat) (p : ByteArray × ThV) (t : ThV), l[i]? = some p → cellsV (l.set i (p.1, t)) = (((((cellsV l).set (i * 6 + 1) (.int .i64 t.1)).set (i * 6 + 2) (.int .i64 t.2.1)).set (i * 6 + 3) (.string t.2.2.1)).set (i * 6 + 4) (.slice t.2.2.2.1 t.2.2.2.2.1 t.2.2.2.2.2.1)).set (i * 6 + 5) (.slice t.2.2.2.2.2.2.1 t.2.2.2.2.2.2.2.1 t.2.2.2.2.2.2.2.2)
  | [], i, p, t, h => by simp at h
  | q :: l, 0, p, t, h => by
    simp only [List.getElem?_cons_zero, Option.some.injEq] at h
    subst h
    simp [cellsV_cons, pcV, thV]
  | q :: l, i + 1, p, t, h => by
    rw [List.getElem?_cons_succ] at h
    have e : ∀ j, (i + 1) * 6 + j = (pcV q).length + (i * 6 + j) := fun j => by rw [pcV_len]; omega
    rw [List.set_cons_succ, cellsV_cons, cellsV_cons, cellsV_set l i p t h]
    simp only [e, List.set_append_right _ _ (Nat.le_add_right _ _), Nat.add_sub_cancel_left]

theorem rowsetV {u : World} {b o : Nat} {T : TypeId} {cur : Array Value} {a0 a1 a2 a3 a4 : Value} (h : u.heap[b]? = some (.cells cur T (0, 0))) : ((((((u).setCell ⟨b, o + 1, none⟩ a0).setCell ⟨b, o + 1 + 1, none⟩ a1).setCell ⟨b, o + 1 + 2, none⟩ a2).setCell ⟨b, o + 1 + 3, none⟩ a3).setCell ⟨b, o + 1 + 4, none⟩ a4).drew.heap[b]? = some (.cells ((((((cur).setIfInBounds (o + 1) a0).setIfInBounds (o + 1 + 1) a1).setIfInBounds (o + 1 + 2) a2).setIfInBounds (o + 1 + 3) a3).setIfInBounds (o + 1 + 4) a4) T (0, 0)) ∧ ((((((u).setCell ⟨b, o + 1, none⟩ a0).setCell ⟨b, o + 1 + 1, none⟩ a1).setCell ⟨b, o + 1 + 2, none⟩ a2).setCell ⟨b, o + 1 + 3, none⟩ a3).setCell ⟨b, o + 1 + 4, none⟩ a4).drew.heap.size = u.heap.size ∧ (∀ j, j ≠ b → ((((((u).setCell ⟨b, o + 1, none⟩ a0).setCell ⟨b, o + 1 + 1, none⟩ a1).setCell ⟨b, o + 1 + 2, none⟩ a2).setCell ⟨b, o + 1 + 3, none⟩ a3).setCell ⟨b, o + 1 + 4, none⟩ a4).drew.heap[j]? = u.heap[j]?) ∧ Fr (fun j => j = b) u ((((((u).setCell ⟨b, o + 1, none⟩ a0).setCell ⟨b, o + 1 + 1, none⟩ a1).setCell ⟨b, o + 1 + 2, none⟩ a2).setCell ⟨b, o + 1 + 3, none⟩ a3).setCell ⟨b, o + 1 + 4, none⟩ a4).drew := by
  rw [heap_drew]
  refine ⟨?_, by simp only [sz_setCell], fun j hb => by rw [heap_setCell_other _ _ _ _ hb, heap_setCell_other _ _ _ _ hb, heap_setCell_other _ _ _ _ hb, heap_setCell_other _ _ _ _ hb, heap_setCell_other _ _ _ _ hb], Fr.trans (Fr.put (Fr.put (Fr.put (Fr.put (Fr.put (Fr.refl _ _) rfl) rfl) rfl) rfl) rfl) (Fr.drew _) (fun _ _ e => e)⟩
  exact heap_setCell_same _ b (o + 1 + 4) _ _ _ (heap_setCell_same _ b (o + 1 + 3) _ _ _ (heap_setCell_same _ b (o + 1 + 2) _ _ _ (heap_setCell_same _ b (o + 1 + 1) _ _ _ (heap_setCell_same _ b (o + 1) _ _ _ (h)))))

set_option maxRecDepth 100000 in
set_option maxHeartbeats 400000 in
theorem put_oldV {g : Nat} {v : Value} {l : List (ByteArray × ThV)} {w : World} (h : KTV w g v l) (hr : Rk l) (k : ByteArray) (t : ThV) (hk : (l.map Prod.fst)[lowK l k]? = some k) :
    Calls Tryz.prog 82 #[.pointer (some ⟨g, 0, none⟩), .string k, .agg (thV t).toArray] w fun e w' => e = .returned (.bool true) ∧ KTV w' g v (putK l k t) ∧ Fr (fun j => j = g ∨ v.ownBlock = some j) w w' := by
  obtain ⟨G, hG⟩ : ∃ G, w.heap.size = G := ⟨_, rfl⟩
  obtain ⟨t0, t1, t2, t3, t4, t5, t6, t7, t8, ht⟩ : ∃ t0 t1 t2 t3 t4 t5 t6 t7 t8, t = (t0, t1, t2, t3, t4, t5, t6, t7, t8) := by obtain ⟨t0, t1, t2, t3, t4, t5, t6, t7, t8⟩ := t; exact ⟨_, _, _, _, _, _, _, _, _, rfl⟩
  have hth : (thV t).toArray = #[.int .i64 t0, .int .i64 t1, .string t2, .slice t3 t4 t5, .slice t6 t7 t8] := by rw [ht]; rfl
  rw [hth]
  obtain ⟨w0, hw0⟩ : ∃ w0, w.alloc (.cells #[.int .i64 t0, .int .i64 t1, .string t2, .slice t3 t4 t5, .slice t6 t7 t8] 32) = w0 := ⟨_, rfl⟩
  have N0 : w0.heap[G]? = some (.cells #[.int .i64 t0, .int .i64 t1, .string t2, .slice t3 t4 t5, .slice t6 t7 t8] 32 (0, 0)) := by rw [← hw0, ← hG]; exact heap_alloc_new w _
  have B0 : Below w.heap.size w w0 := by rw [← hw0]; exact (Below.refl _ _).alloc (Nat.le_refl _) _
  have CF := find_V (h.below B0) hr k
  rw [decide_eq_true hk] at CF
  have CF := hide CF
  obtain ⟨p, hp, hpk⟩ : ∃ p, l[lowK l k]? = some p ∧ p.1 = k := by
    rw [List.getElem?_map] at hk
    obtain ⟨p, hp, he⟩ := Option.map_eq_some_iff.1 hk
    exact ⟨p, hp, he⟩
  have HK := hide (put_old l k t hk)
  have HT := hide ht
  obtain ⟨L, hL⟩ : ∃ L, lowK l k = L := ⟨_, rfl⟩
  rw [hL] at CF hp HK
  have hlt : L < l.length := (List.getElem?_eq_some_iff.1 hp).1
  obtain ⟨b, cap, cur, rfl, hgb, hcap, hmax, hcs, htk⟩ : ∃ (b cap : Nat) (cur : Array Value), v = .slice (some ⟨b, 0, none⟩) l.length cap ∧ w.heap[b]? = some (.cells cur 104 (0, 0)) ∧ l.length ≤ cap ∧ cap ≤ maxLen ∧ cur.size = cap * 6 ∧ cur.toList.take (l.length * 6) = cellsV l := by
    rcases h.row.2 with ⟨_, hn⟩ | ⟨b, cap, cur, rfl, _, hg', hc, hm, hs, ht⟩
    · omega
    · exact ⟨b, cap, cur, rfl, hg', hc, hm, hs, ht⟩
  have hne : g ≠ b := fun e => h.apart (by rw [e]; rfl)
  have HH := hide h
  have HX := hide (And.intro hgb (And.intro hcap (And.intro hcs (And.intro htk hmax))))
  have HP := hide (And.intro hp hpk)
  have HZ := hide (And.intro N0 B0)
  obtain ⟨n, hn⟩ : ∃ n, l.length = n := ⟨_, rfl⟩
  have c0 := (h.below B0).cell
  rw [hn] at c0 hlt hcap HX HH
  have HN := hide hn
  have i1 : (L : Int) < (n : Int) := by omega
  have i0 : (0 : Int) ≤ (L : Int) := by omega
  have hmx : n ≤ 9223372036854775807 := by unfold maxLen at hmax; omega
  clear h hr hk hp hpk hmax N0 B0 hn hL hgb hcs htk ht hth
  go_enter Tryz.func82, Tryz.ntmps82
  go_wp2_with fail
  refine (unhide CF).mono ?_
  rintro e w1 ⟨rfl, q, hw1⟩
  have N1 : w1.heap[G]? = some (.cells #[.int .i64 t0, .int .i64 t1, .string t2, .slice t3 t4 t5, .slice t6 t7 t8] 32 (0, 0)) := by rw [hw1]; exact (unhide HZ).1
  have B1 : Below w.heap.size w w1 := by rw [hw1]; exact ⟨(unhide HZ).2.os, (unhide HZ).2.tape, (unhide HZ).2.output, (unhide HZ).2.size, (unhide HZ).2.block⟩
  have c1 : w1.cell? ⟨g, 0, none⟩ = some (.slice (some ⟨b, 0, none⟩) n cap) := by rw [hw1]; exact c0
  have HY := hide (And.intro N1 B1)
  clear hw1 CF HZ hw0 c0
  go_upto_region 5 with fail
  have HS0 : Hid (w1.drew.cell? ⟨g, 0, none⟩ = some (.slice (some ⟨b, 0, none⟩) n cap) ∧ w1.drew.cell? ⟨G, 0, none⟩ = some (.int .i64 t0) ∧ w1.drew.cell? ⟨G, 1, none⟩ = some (.int .i64 t1) ∧ w1.drew.cell? ⟨G, 2, none⟩ = some (.string t2) ∧ w1.drew.cell? ⟨G, 3, none⟩ = some (.slice t3 t4 t5) ∧ w1.drew.cell? ⟨G, 4, none⟩ = some (.slice t6 t7 t8)) := hide ⟨c1, by rw [cell_of_row _ G 0 _ _ (0, 0) (show w1.drew.heap[G]? = _ from N1)]; rfl, by rw [cell_of_row _ G 1 _ _ (0, 0) (show w1.drew.heap[G]? = _ from N1)]; rfl, by rw [cell_of_row _ G 2 _ _ (0, 0) (show w1.drew.heap[G]? = _ from N1)]; rfl, by rw [cell_of_row _ G 3 _ _ (0, 0) (show w1.drew.heap[G]? = _ from N1)]; rfl, by rw [cell_of_row _ G 4 _ _ (0, 0) (show w1.drew.heap[G]? = _ from N1)]; rfl⟩
  clear c1 N1 B1
  refine till_begin (S := fun w' => w'.cell? ⟨g, 0, none⟩ = some (.slice (some ⟨b, 0, none⟩) n cap) ∧ w'.cell? ⟨G, 0, none⟩ = some (.int .i64 t0) ∧ w'.cell? ⟨G, 1, none⟩ = some (.int .i64 t1) ∧ w'.cell? ⟨G, 2, none⟩ = some (.string t2) ∧ w'.cell? ⟨G, 3, none⟩ = some (.slice t3 t4 t5) ∧ w'.cell? ⟨G, 4, none⟩ = some (.slice t6 t7 t8)) 8 (by kernel_rfl) ?_
  refine till_take 0 (v := .pointer (some ⟨g, 0, none⟩)) (some 18) rfl rfl rfl (by kernel_rfl) (by kernel_rfl) (by kernel_rfl) (by kernel_rfl) (fun _ _ _ h => h) (Or.inl ⟨by rfl, fun u hu => by obtain ⟨b0, b1, b2, b3, b4, b5⟩ := hu; go_simp⟩) (unhide HS0) ?_
  try simp only [Act.put, List.setIfInBounds_toArray, List.set_cons_zero, List.set_cons_succ]
  refine till_take 1 (v := .pointer (some ⟨g, 0, none⟩)) (some 19) rfl rfl rfl (by kernel_rfl) (by kernel_rfl) (by kernel_rfl) (by kernel_rfl) (fun _ _ _ h => h) (Or.inl ⟨by rfl, fun u hu => by obtain ⟨b0, b1, b2, b3, b4, b5⟩ := hu; go_simp⟩) (unhide HS0) ?_
  try simp only [Act.put, List.setIfInBounds_toArray, List.set_cons_zero, List.set_cons_succ]
  refine till_take 2 (v := .pointer (some ⟨g, 0, none⟩)) (some 20) rfl rfl rfl (by kernel_rfl) (by kernel_rfl) (by kernel_rfl) (by kernel_rfl) (fun _ _ _ h => h) (Or.inl ⟨by rfl, fun u hu => by obtain ⟨b0, b1, b2, b3, b4, b5⟩ := hu; go_simp⟩) (unhide HS0) ?_
  try simp only [Act.put, List.setIfInBounds_toArray, List.set_cons_zero, List.set_cons_succ]
  refine till_take 3 (v := .slice (some ⟨b, 0, none⟩) n cap) (some 21) rfl rfl rfl (by kernel_rfl) (by kernel_rfl) (by kernel_rfl) (by kernel_rfl) (fun _ _ _ h => h) (Or.inl ⟨by rfl, fun u hu => by obtain ⟨b0, b1, b2, b3, b4, b5⟩ := hu; go_simp⟩) (unhide HS0) ?_
  try simp only [Act.put, List.setIfInBounds_toArray, List.set_cons_zero, List.set_cons_succ]
  refine till_take 4 (v := .int .i64 (L : Int)) (some 22) rfl rfl rfl (by kernel_rfl) (by kernel_rfl) (by kernel_rfl) (by kernel_rfl) (fun _ _ _ h => h) (Or.inl ⟨by rfl, fun u hu => by obtain ⟨b0, b1, b2, b3, b4, b5⟩ := hu; go_simp⟩) (unhide HS0) ?_
  try simp only [Act.put, List.setIfInBounds_toArray, List.set_cons_zero, List.set_cons_succ]
  refine till_take 5 (v := .agg #[.int .i64 t0, .int .i64 t1, .string t2, .slice t3 t4 t5, .slice t6 t7 t8]) (some 23) rfl rfl rfl (by kernel_rfl) (by kernel_rfl) (by kernel_rfl) (by kernel_rfl) (fun _ _ _ h => h) (Or.inl ⟨by rfl, fun u hu => by obtain ⟨b0, b1, b2, b3, b4, b5⟩ := hu; go_simp⟩) (unhide HS0) ?_
  try simp only [Act.put, List.setIfInBounds_toArray, List.set_cons_zero, List.set_cons_succ]
  refine till_one 6 (by kernel_rfl) rfl (fun K hK => ?_)
  obtain ⟨b0, b1, b2, b3, b4, b5⟩ := unhide HS0
  go_simp
  refine hK.out _ _ (Or.inr (unhide HS0)) ?_
  clear hK K b0 b1 b2 b3 b4 b5
  try simp only [Act.put, List.setIfInBounds_toArray, List.set_cons_zero, List.set_cons_succ]
  refine till_one 7 (by kernel_rfl) rfl (fun K hK => ?_)
  obtain ⟨b0, b1, b2, b3, b4, b5⟩ := unhide HS0
  go_simp
  refine hK.out _ _ (Or.inr (unhide HS0)) ?_
  clear hK K b0 b1 b2 b3 b4 b5
  try simp only [Act.put, List.setIfInBounds_toArray, List.set_cons_zero, List.set_cons_succ]
  refine till_one 8 (by kernel_rfl) rfl (fun K hK => ?_)
  have hb1 : w1.heap[b]? = some (.cells cur 104 (0, 0)) := ((unhide HY).2.block b (Array.getElem?_eq_some_iff.1 (unhide HX).1).1).trans (unhide HX).1
  obtain ⟨r1, r2, r3, r4⟩ := rowsetV (o := L * 6) (a0 := .int .i64 t0) (a1 := .int .i64 t1) (a2 := .string t2) (a3 := .slice t3 t4 t5) (a4 := .slice t6 t7 t8) hb1
  have HR := hide (And.intro r1 (And.intro r2 (And.intro r3 r4)))
  obtain ⟨y0, e0⟩ : ∃ y, w1.cell? ⟨b, L * 6 + 1, none⟩ = some y := ⟨_, (cell_of_row _ b _ _ _ (0, 0) hb1).trans (Array.getElem?_eq_getElem (by have := (unhide HX).2.2.1; omega))⟩
  have f0 := frozen_of_row w1 b (L * 6 + 1) _ _ hb1
  obtain ⟨y1, e1⟩ : ∃ y, w1.cell? ⟨b, L * 6 + 1 + 1, none⟩ = some y := ⟨_, (cell_of_row _ b _ _ _ (0, 0) hb1).trans (Array.getElem?_eq_getElem (by have := (unhide HX).2.2.1; omega))⟩
  have f1 := frozen_of_row w1 b (L * 6 + 1 + 1) _ _ hb1
  obtain ⟨y2, e2⟩ : ∃ y, w1.cell? ⟨b, L * 6 + 1 + 2, none⟩ = some y := ⟨_, (cell_of_row _ b _ _ _ (0, 0) hb1).trans (Array.getElem?_eq_getElem (by have := (unhide HX).2.2.1; omega))⟩
  have f2 := frozen_of_row w1 b (L * 6 + 1 + 2) _ _ hb1
  obtain ⟨y3, e3⟩ : ∃ y, w1.cell? ⟨b, L * 6 + 1 + 3, none⟩ = some y := ⟨_, (cell_of_row _ b _ _ _ (0, 0) hb1).trans (Array.getElem?_eq_getElem (by have := (unhide HX).2.2.1; omega))⟩
  have f3 := frozen_of_row w1 b (L * 6 + 1 + 3) _ _ hb1
  obtain ⟨y4, e4⟩ : ∃ y, w1.cell? ⟨b, L * 6 + 1 + 4, none⟩ = some y := ⟨_, (cell_of_row _ b _ _ _ (0, 0) hb1).trans (Array.getElem?_eq_getElem (by have := (unhide HX).2.2.1; omega))⟩
  have f4 := frozen_of_row w1 b (L * 6 + 1 + 4) _ _ hb1
  clear hb1 r1 r2 r3 r4
  go_simp
  refine hK.out _ _ (Or.inl rfl) ?_
  clear hK K e0 f0 e1 f1 e2 f2 e3 f3 e4 f4
  try simp only [Act.put, List.setIfInBounds_toArray, List.set_cons_zero, List.set_cons_succ]
  refine till_done (by kernel_rfl) ?_ _
  go_wp2_with fail
  go_ret
  obtain ⟨r1, r2, r3, r4⟩ := unhide HR
  obtain ⟨N1, B1⟩ := unhide HY
  have hn := unhide HN
  subst hn
  obtain ⟨hgb, hcap, hcs, htk, hmax⟩ := unhide HX
  have F1 : Fr (fun j => j = g ∨ (Value.slice (some ⟨b, 0, none⟩) l.length cap).ownBlock = some j) w _ := (Fr.behind B1 r4 (fun j _ e => Or.inr (by rw [e]; rfl)))
  refine ⟨rfl, ⟨?_, ?_⟩, F1⟩
  · refine (r3 g hne).trans ?_
    exact (B1.block g (unhide HH).lt).trans (unhide HH).here
  · have e1 := cellsV_set l L p t (unhide HP).1
    rw [(unhide HP).2] at e1
    have hlen : (putK l k t).length = l.length := by rw [← unhide HK, List.length_set]
    rw [hlen, ← unhide HK, e1, unhide HT]
    refine ⟨by simp only [List.length_set]; rw [cellsV_len], .inr ⟨b, cap, _, rfl, Nat.zero_le _, r1, hcap, (unhide HX).2.2.2.2, by simpa using hcs, ?_⟩⟩
    rw [← htk]
    simp [List.take_set]

set_option maxRecDepth 100000 in
set_option maxHeartbeats 400000 in
theorem put_newV {g : Nat} {v : Value} {l : List (ByteArray × ThV)} {w : World} (h : KTV w g v l) (hr : Rk l) (k : ByteArray) (t : ThV) (hk : (l.map Prod.fst)[lowK l k]? ≠ some k) (hb : (l.length + 1) * 96 ≤ 140737488355328) :
    Calls Tryz.prog 82 #[.pointer (some ⟨g, 0, none⟩), .string k, .agg (thV t).toArray] w fun e w' => ∃ v', e = .returned (.bool false) ∧ KTV w' g v' (putK l k t) ∧ (∀ b, v'.ownBlock = some b → v.ownBlock = some b ∨ w.heap.size ≤ b) ∧ Fr (fun j => j = g ∨ v.ownBlock = some j) w w' := by
  obtain ⟨G, hG⟩ : ∃ G, w.heap.size = G := ⟨_, rfl⟩
  obtain ⟨t0, t1, t2, t3, t4, t5, t6, t7, t8, ht⟩ : ∃ t0 t1 t2 t3 t4 t5 t6 t7 t8, t = (t0, t1, t2, t3, t4, t5, t6, t7, t8) := by obtain ⟨t0, t1, t2, t3, t4, t5, t6, t7, t8⟩ := t; exact ⟨_, _, _, _, _, _, _, _, _, rfl⟩
  have hth : (thV t).toArray = #[.int .i64 t0, .int .i64 t1, .string t2, .slice t3 t4 t5, .slice t6 t7 t8] := by rw [ht]; rfl
  rw [hth]
  obtain ⟨w0, hw0⟩ : ∃ w0, w.alloc (.cells #[.int .i64 t0, .int .i64 t1, .string t2, .slice t3 t4 t5, .slice t6 t7 t8] 32) = w0 := ⟨_, rfl⟩
  have N0 : w0.heap[G]? = some (.cells #[.int .i64 t0, .int .i64 t1, .string t2, .slice t3 t4 t5, .slice t6 t7 t8] 32 (0, 0)) := by rw [← hw0, ← hG]; exact heap_alloc_new w _
  have B0 : Below w.heap.size w w0 := by rw [← hw0]; exact (Below.refl _ _).alloc (Nat.le_refl _) _
  have CF := find_V (h.below B0) hr k
  rw [decide_eq_false hk] at CF
  have CF := hide CF
  have HK := hide (put_new l k t hk)
  have HT := hide ht
  have hle := low_le l k
  obtain ⟨L, hL⟩ : ∃ L, lowK l k = L := ⟨_, rfl⟩
  rw [hL] at CF HK hle
  have HH := hide h
  have HB := hide (And.intro hb hle)
  obtain ⟨ao, cap, rfl, -⟩ := h.shape
  have HZ := hide (And.intro N0 B0)
  obtain ⟨n, hn⟩ : ∃ n, l.length = n := ⟨_, rfl⟩
  have c0 := (h.below B0).cell
  rw [hn] at c0 HH HB
  have HN := hide hn
  clear h hr hk N0 B0 hn hL ht hth hb hle
  go_enter Tryz.func82, Tryz.ntmps82
  go_wp2_with fail
  refine (unhide CF).mono ?_
  rintro e w1 ⟨rfl, q, hw1⟩
  have N1 : w1.heap[G]? = some (.cells #[.int .i64 t0, .int .i64 t1, .string t2, .slice t3 t4 t5, .slice t6 t7 t8] 32 (0, 0)) := by rw [hw1]; exact (unhide HZ).1
  have B1 : Below w.heap.size w w1 := by rw [hw1]; exact ⟨(unhide HZ).2.os, (unhide HZ).2.tape, (unhide HZ).2.output, (unhide HZ).2.size, (unhide HZ).2.block⟩
  have c1 : w1.cell? ⟨g, 0, none⟩ = some (.slice ao n cap) := by rw [hw1]; exact c0
  have HY := hide (And.intro N1 B1)
  clear hw1 CF HZ hw0 c0
  go_upto_region 7 with fail
  have HS0 : Hid (w1.drew.cell? ⟨g, 0, none⟩ = some (.slice ao n cap) ∧ w1.drew.cell? ⟨G, 0, none⟩ = some (.int .i64 t0) ∧ w1.drew.cell? ⟨G, 1, none⟩ = some (.int .i64 t1) ∧ w1.drew.cell? ⟨G, 2, none⟩ = some (.string t2) ∧ w1.drew.cell? ⟨G, 3, none⟩ = some (.slice t3 t4 t5) ∧ w1.drew.cell? ⟨G, 4, none⟩ = some (.slice t6 t7 t8)) := hide ⟨c1, by rw [cell_of_row _ G 0 _ _ (0, 0) (show w1.drew.heap[G]? = _ from N1)]; rfl, by rw [cell_of_row _ G 1 _ _ (0, 0) (show w1.drew.heap[G]? = _ from N1)]; rfl, by rw [cell_of_row _ G 2 _ _ (0, 0) (show w1.drew.heap[G]? = _ from N1)]; rfl, by rw [cell_of_row _ G 3 _ _ (0, 0) (show w1.drew.heap[G]? = _ from N1)]; rfl, by rw [cell_of_row _ G 4 _ _ (0, 0) (show w1.drew.heap[G]? = _ from N1)]; rfl⟩
  clear c1 N1 B1
  refine till_begin (S := fun w' => w'.cell? ⟨g, 0, none⟩ = some (.slice ao n cap) ∧ w'.cell? ⟨G, 0, none⟩ = some (.int .i64 t0) ∧ w'.cell? ⟨G, 1, none⟩ = some (.int .i64 t1) ∧ w'.cell? ⟨G, 2, none⟩ = some (.string t2) ∧ w'.cell? ⟨G, 3, none⟩ = some (.slice t3 t4 t5) ∧ w'.cell? ⟨G, 4, none⟩ = some (.slice t6 t7 t8)) 13 (by kernel_rfl) ?_
  refine till_take 0 (v := .pointer (some ⟨g, 0, none⟩)) (some 26) rfl rfl rfl (by kernel_rfl) (by kernel_rfl) (by kernel_rfl) (by kernel_rfl) (fun _ _ _ h => h) (Or.inl ⟨by rfl, fun u hu => by obtain ⟨b0, b1, b2, b3, b4, b5⟩ := hu; go_simp⟩) (unhide HS0) ?_
  try simp only [Act.put, List.setIfInBounds_toArray, List.set_cons_zero, List.set_cons_succ]
  refine till_take 1 (v := .pointer (some ⟨g, 0, none⟩)) (some 27) rfl rfl rfl (by kernel_rfl) (by kernel_rfl) (by kernel_rfl) (by kernel_rfl) (fun _ _ _ h => h) (Or.inl ⟨by rfl, fun u hu => by obtain ⟨b0, b1, b2, b3, b4, b5⟩ := hu; go_simp⟩) (unhide HS0) ?_
  try simp only [Act.put, List.setIfInBounds_toArray, List.set_cons_zero, List.set_cons_succ]
  refine till_take 2 (v := .pointer (some ⟨g, 0, none⟩)) (some 28) rfl rfl rfl (by kernel_rfl) (by kernel_rfl) (by kernel_rfl) (by kernel_rfl) (fun _ _ _ h => h) (Or.inl ⟨by rfl, fun u hu => by obtain ⟨b0, b1, b2, b3, b4, b5⟩ := hu; go_simp⟩) (unhide HS0) ?_
  try simp only [Act.put, List.setIfInBounds_toArray, List.set_cons_zero, List.set_cons_succ]
  refine till_take 3 (v := .pointer (some ⟨g, 0, none⟩)) (some 29) rfl rfl rfl (by kernel_rfl) (by kernel_rfl) (by kernel_rfl) (by kernel_rfl) (fun _ _ _ h => h) (Or.inl ⟨by rfl, fun u hu => by obtain ⟨b0, b1, b2, b3, b4, b5⟩ := hu; go_simp⟩) (unhide HS0) ?_
  try simp only [Act.put, List.setIfInBounds_toArray, List.set_cons_zero, List.set_cons_succ]
  refine till_take 4 (v := .slice ao n cap) (some 30) rfl rfl rfl (by kernel_rfl) (by kernel_rfl) (by kernel_rfl) (by kernel_rfl) (fun _ _ _ h => h) (Or.inl ⟨by rfl, fun u hu => by obtain ⟨b0, b1, b2, b3, b4, b5⟩ := hu; go_simp⟩) (unhide HS0) ?_
  try simp only [Act.put, List.setIfInBounds_toArray, List.set_cons_zero, List.set_cons_succ]
  refine till_take 5 (v := .int .i64 (L : Int)) (some 31) rfl rfl rfl (by kernel_rfl) (by kernel_rfl) (by kernel_rfl) (by kernel_rfl) (fun _ _ _ h => h) (Or.inl ⟨by rfl, fun u hu => by obtain ⟨b0, b1, b2, b3, b4, b5⟩ := hu; go_simp⟩) (unhide HS0) ?_
  try simp only [Act.put, List.setIfInBounds_toArray, List.set_cons_zero, List.set_cons_succ]
  refine till_take 6 (v := .string k) (some 32) rfl rfl rfl (by kernel_rfl) (by kernel_rfl) (by kernel_rfl) (by kernel_rfl) (fun _ _ _ h => h) (Or.inl ⟨by rfl, fun u hu => by obtain ⟨b0, b1, b2, b3, b4, b5⟩ := hu; go_simp⟩) (unhide HS0) ?_
  try simp only [Act.put, List.setIfInBounds_toArray, List.set_cons_zero, List.set_cons_succ]
  refine till_take 7 (v := .agg #[.int .i64 t0, .int .i64 t1, .string t2, .slice t3 t4 t5, .slice t6 t7 t8]) (some 33) rfl rfl rfl (by kernel_rfl) (by kernel_rfl) (by kernel_rfl) (by kernel_rfl) (fun _ _ _ h => h) (Or.inl ⟨by rfl, fun u hu => by obtain ⟨b0, b1, b2, b3, b4, b5⟩ := hu; go_simp⟩) (unhide HS0) ?_
  try simp only [Act.put, List.setIfInBounds_toArray, List.set_cons_zero, List.set_cons_succ]
  refine till_take 8 (v := .agg #[.string k, .int .i64 t0, .int .i64 t1, .string t2, .slice t3 t4 t5, .slice t6 t7 t8]) (some 34) rfl rfl rfl (by kernel_rfl) (by kernel_rfl) (by kernel_rfl) (by kernel_rfl) (fun _ _ _ h => h) (Or.inl ⟨by rfl, fun u hu => by obtain ⟨b0, b1, b2, b3, b4, b5⟩ := hu; go_simp⟩) (unhide HS0) ?_
  try simp only [Act.put, List.setIfInBounds_toArray, List.set_cons_zero, List.set_cons_succ]
  obtain ⟨H, hH⟩ : ∃ H, w1.heap.size = H := ⟨_, rfl⟩
  obtain ⟨w2, hw2⟩ : ∃ w2, w1.drew.alloc (.cells #[.string k, .int .i64 t0, .int .i64 t1, .string t2, .slice t3 t4 t5, .slice t6 t7 t8] 104) = w2 := ⟨_, rfl⟩
  have N2 : w2.heap[H]? = some (.cells #[.string k, .int .i64 t0, .int .i64 t1, .string t2, .slice t3 t4 t5, .slice t6 t7 t8] 104 (0, 0)) := by rw [← hw2, ← hH]; exact heap_alloc_new w1.drew _
  have B2 : Below w1.heap.size w1 w2 := by rw [← hw2]; exact ((Below.refl _ w1).drew).alloc (Nat.le_refl _) _
  have B3 : Below w.heap.size w w2 := (unhide HY).2.trans (B2.mono (unhide HY).2.size)
  have HS2 : Hid (w2.cell? ⟨g, 0, none⟩ = some (.slice ao n cap) ∧ w2.cell? ⟨G, 0, none⟩ = some (.int .i64 t0) ∧ w2.cell? ⟨G, 1, none⟩ = some (.int .i64 t1) ∧ w2.cell? ⟨G, 2, none⟩ = some (.string t2) ∧ w2.cell? ⟨G, 3, none⟩ = some (.slice t3 t4 t5) ∧ w2.cell? ⟨G, 4, none⟩ = some (.slice t6 t7 t8)) := hide (by
    have hs := unhide HS0
    exact ⟨cell_later B2 hs.1, cell_later B2 hs.2.1, cell_later B2 hs.2.2.1, cell_later B2 hs.2.2.2.1, cell_later B2 hs.2.2.2.2.1, cell_later B2 hs.2.2.2.2.2⟩)
  have hsz : H < w2.heap.size := (Array.getElem?_eq_some_iff.1 N2).1
  have CI := insertPV 0 (.slice ao n cap) [.string k, .int .i64 t0, .int .i64 t1, .string t2, .slice t3 t4 t5, .slice t6 t7 t8] (cellsV l) n L H w2 (unhide HN ▸ ((unhide HH).below B3).row) N2 (fun e => by have := ((unhide HH).row.lt _ e).2; have := (unhide HY).2.size; omega) rfl (by simp [Value.oneCell']) (cellsV_one l) (by have := (unhide HB).2; have := unhide HN; omega) (by have := (unhide HB).1; have := unhide HN; omega) (Nat.zero_le _)
  have CI := hide CI
  have HB3 := hide B3
  refine till_one 9 (by kernel_rfl) rfl (fun K hK => ?_)
  clear N2 B2 B3
  go_simp
  refine hK.out _ _ (Or.inr (unhide HS2)) ?_
  clear hK K hw2 HS0
  try simp only [Act.put, List.setIfInBounds_toArray, List.set_cons_zero, List.set_cons_succ]
  refine till_one 10 (by kernel_rfl) rfl (fun K hK => ?_)
  go_simp
  refine (unhide CI).mono ?_
  rintro e w3 ⟨v3, rfl, o3, gr3⟩
  have g3 := gr3.grown
  obtain ⟨a3, c3', rfl⟩ : ∃ a3 c3', v3 = .slice a3 (n + 1) c3' := by
    rcases o3.2 with ⟨rfl, hn⟩ | ⟨b, cap, cur, rfl, _⟩
    · omega
    · exact ⟨_, _, rfl⟩
  have hne : ∀ x, (x = g ∨ x = G) → (Value.slice ao n cap).ownBlock ≠ some x := fun x hx e => by
    rcases hx with rfl | rfl
    · exact (unhide HH).apart e
    · have := ((unhide HH).row.lt _ e).2
      omega
  have gl : g < w.heap.size := (unhide HH).lt
  have e3 : w3.heap[g]? = some (.cells #[.slice ao n cap] 81 (0, 0)) := (g3.block g (by have := (unhide HB3).size; omega) (hne g (Or.inl rfl)).symm).trans (((unhide HB3).block g gl).trans (unhide HH).here)
  have HS3 : Hid (w3.cell? ⟨g, 0, none⟩ = some (.slice ao n cap) ∧ w3.cell? ⟨G, 0, none⟩ = some (.int .i64 t0) ∧ w3.cell? ⟨G, 1, none⟩ = some (.int .i64 t1) ∧ w3.cell? ⟨G, 2, none⟩ = some (.string t2) ∧ w3.cell? ⟨G, 3, none⟩ = some (.slice t3 t4 t5) ∧ w3.cell? ⟨G, 4, none⟩ = some (.slice t6 t7 t8)) := hide (by
    have hs := unhide HS2
    have hG3 : ∀ j v, w2.cell? ⟨G, j, none⟩ = some v → w3.cell? ⟨G, j, none⟩ = some v := fun j v hc => cell_block (g3.block G (by have := (Array.getElem?_eq_some_iff.1 (unhide HY).1).1; omega) (hne G (Or.inr rfl)).symm) hc
    exact ⟨by rw [cell_of_row w3 g 0 _ _ (0, 0) e3]; rfl, hG3 _ _ hs.2.1, hG3 _ _ hs.2.2.1, hG3 _ _ hs.2.2.2.1, hG3 _ _ hs.2.2.2.2.1, hG3 _ _ hs.2.2.2.2.2⟩)
  have HO := hide (And.intro o3 (And.intro gr3 e3))
  clear CI o3 gr3 g3
  go_wp2_with fail
  refine hK.out _ _ (Or.inr (unhide HS3)) ?_
  clear hK K
  try simp only [Act.put, List.setIfInBounds_toArray, List.set_cons_zero, List.set_cons_succ]
  refine till_one 11 (by kernel_rfl) rfl (fun K hK => ?_)
  obtain ⟨b0, b1, b2, b3, b4, b5⟩ := unhide HS3
  go_simp
  refine hK.out _ _ (Or.inr (unhide HS3)) ?_
  clear hK K b0 b1 b2 b3 b4 b5
  try simp only [Act.put, List.setIfInBounds_toArray, List.set_cons_zero, List.set_cons_succ]
  refine till_one 12 (by kernel_rfl) rfl (fun K hK => ?_)
  obtain ⟨b0, b1, b2, b3, b4, b5⟩ := unhide HS3
  go_simp
  refine hK.out _ _ (Or.inr (unhide HS3)) ?_
  clear hK K b0 b1 b2 b3 b4 b5
  try simp only [Act.put, List.setIfInBounds_toArray, List.set_cons_zero, List.set_cons_succ]
  refine till_one 13 (by kernel_rfl) rfl (fun K hK => ?_)
  have c3 := (unhide HS3).1
  have f3 := frozen_of_row w3 g 0 _ _ e3
  clear e3
  go_simp
  refine hK.out _ _ (Or.inl rfl) ?_
  clear hK K c3 f3
  try simp only [Act.put, List.setIfInBounds_toArray, List.set_cons_zero, List.set_cons_succ]
  refine till_done (by kernel_rfl) ?_ _
  go_wp2_with fail
  go_ret
  obtain ⟨o3, gr3, e3⟩ := unhide HO
  have g3 := gr3.grown
  have hn := unhide HN
  subst hn
  have hlen : (putK l k t).length = l.length + 1 := by
    have := (unhide HB).2
    rw [← unhide HK, List.length_append, List.length_cons, List.length_take, List.length_drop]
    omega
  have hnw : ∀ b, (Value.slice a3 (l.length + 1) c3').ownBlock = some b → (Value.slice ao l.length cap).ownBlock = some b ∨ w.heap.size ≤ b := fun b hb => by
    rcases gr3.row b hb with h | h
    · exact Or.inl h
    · exact Or.inr (by have := (unhide HB3).size; omega)
  have hng : (Value.slice a3 (l.length + 1) c3').ownBlock ≠ some g := fun e => by
    rcases hnw g e with h | h
    · exact hne g (Or.inl rfl) h
    · omega
  refine ⟨.slice a3 (l.length + 1) c3', rfl, ⟨?_, ?_⟩, hnw, ?_⟩
  · exact heap_setCell_same w3 g 0 _ _ (.slice a3 (l.length + 1) c3') e3
  · rw [hlen, ← unhide HK, cellsV_app, cellsV_cons, cellsV_take l L (unhide HB).2, cellsV_drop l L (unhide HB).2, unhide HT, ← List.append_assoc]
    refine ⟨o3.1, ?_⟩
    rcases o3.2 with h | ⟨b, cap, cur, hv, hb', hg', rest⟩
    · exact .inl h
    · refine .inr ⟨b, cap, cur, hv, hb', ?_, rest⟩
      rw [heap_setCell_other _ _ _ _ (fun e : b = g => hng (by rw [hv, e]; rfl))]
      exact hg'
  · refine Fr.put (Fr.behind (unhide HB3) (G' := fun j => (Value.slice ao l.length cap).ownBlock = some j) ⟨g3.os, g3.tape, g3.output, g3.size, fun j hj hn => g3.block j hj (fun e => hn e.symm)⟩ (fun j _ e => Or.inr e)) (Or.inl rfl)

theorem put_V {g : Nat} {v : Value} {l : List (ByteArray × ThV)} {w : World} (h : KTV w g v l) (hr : Rk l) (k : ByteArray) (t : ThV) (hb : (l.length + 1) * 96 ≤ 140737488355328) :
    Calls Tryz.prog 82 #[.pointer (some ⟨g, 0, none⟩), .string k, .agg (thV t).toArray] w fun e w' => ∃ v', e = .returned (.bool (lookK l k).isSome) ∧ KTV w' g v' (putK l k t) ∧ (∀ b, v'.ownBlock = some b → v.ownBlock = some b ∨ w.heap.size ≤ b) ∧ Fr (fun j => j = g ∨ v.ownBlock = some j) w w' := by
  by_cases hk : lookK l k = none
  · rw [hk]
    exact put_newV h hr k t ((look_none_at l k hr).1 hk) hb
  · obtain ⟨x, hx⟩ : ∃ x, lookK l k = some x := by
      cases e : lookK l k with
      | none => exact absurd e hk
      | some x => exact ⟨x, rfl⟩
    rw [hx]
    have hst : (l.map Prod.fst)[lowK l k]? = some k := by rw [List.getElem?_map, (look_at l k hr x).1 hx]; rfl
    refine (put_oldV h hr k t hst).mono ?_
    rintro e w' ⟨rfl, h1, h2⟩
    exact ⟨v, rfl, h1, fun b hb => Or.inl hb, h2⟩

end Go.Proofs.YtdaooapfokhfcaaGreat
