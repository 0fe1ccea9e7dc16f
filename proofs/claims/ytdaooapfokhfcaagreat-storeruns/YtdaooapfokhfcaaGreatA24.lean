/-
  store's last, keep, forget; conditions: the form's own reach.
-/
import Derived.Test.YtdaooapfokhfcaaGreatA23
namespace Go.Proofs.YtdaooapfokhfcaaGreat
open Go.RowKit
set_option linter.unusedVariables false
set_option linter.unusedSimpArgs false

def lastP (ms : List Mk) : Option Addr := match ms.getLast? with | some m => some ⟨m.g, 0, none⟩ | none => none
theorem lastP_nil : lastP [] = none := rfl
theorem lastP_snoc (r : List Mk) (m : Mk) : lastP (r ++ [m]) = some ⟨m.g, 0, none⟩ := by simp [lastP]

theorem marks_cell {w : World} {mv : Value} {r : List Mk} {m : Mk} (h : w.ownsRow 0 88 1 mv (r ++ [m]).length (ptrs (r ++ [m]))) :
    ∃ b cap, mv = .slice (some ⟨b, 0, none⟩) (r.length + 1) cap ∧ r.length + 1 ≤ 9223372036854775807 ∧ w.cell? ⟨b, r.length, none⟩ = some (.pointer (some ⟨m.g, 0, none⟩)) := by
  rcases h.2 with ⟨_, hn⟩ | ⟨b, cap, cur, rfl, hb, hg, hc, hm, hs, ht⟩
  · simp at hn
  · refine ⟨b, cap, by simp, by unfold maxLen at hm; simp at hc; omega, ?_⟩
    have h1 : (ptrs (r ++ [m]))[r.length]? = some (.pointer (some ⟨m.g, 0, none⟩)) := by simp [ptrs]
    have := h.cells rfl _ _ h1
    rw [add_offR, Nat.zero_add] at this
    exact this

set_option maxRecDepth 100000 in
theorem last_any {w : World} {V : Nat → Prop} {t : Sx} (h : Sto w V t) : Calls Tryz.prog 77 #[.pointer (some ⟨t.s, 0, none⟩)] w fun e w' => e = .returned (.pointer (lastP t.ms)) ∧ ∃ q, w' = w.drewN q := by
  have c2 := h.c2
  have hm := h.marks
  clear h
  obtain ⟨s, g, v0, l0, W, mv, ms⟩ := t
  dsimp only at c2 hm ⊢
  rcases List.eq_nil_or_concat ms with rfl | ⟨r, m, rfl⟩
  · obtain ⟨ao, cap, rfl⟩ : ∃ ao cap, mv = .slice ao 0 cap := by
      rcases hm.2 with ⟨rfl, _⟩ | ⟨b, cap, cur, rfl, _⟩
      · exact ⟨_, _, rfl⟩
      · exact ⟨_, _, rfl⟩
    rw [lastP_nil]
    clear hm
    go_enter Tryz.func77, Tryz.ntmps77
    go_wp2_with fail
    go_ret
    exact ⟨rfl, 0, rfl⟩
  · obtain ⟨b, cap, rfl, hmx, cb⟩ := marks_cell (by simpa using hm)
    rw [List.concat_eq_append, lastP_snoc]
    obtain ⟨n, hn⟩ : ∃ n, r.length = n := ⟨_, rfl⟩
    rw [hn] at c2 cb hmx
    have i0 : ((n + 1 : Nat) : Int) - 1 = (n : Int) := by omega
    have i1 : ¬ ((n + 1 : Nat) : Int) = 0 := by omega
    have i1' : (((n + 1 : Nat) : Int) == 0) = false := by simp; omega
    have i1'' : (((n : Int) + 1) == 0) = false := by simp; omega
    have i2 : (n : Int) < ((n + 1 : Nat) : Int) := by omega
    clear hm hn
    go_enter Tryz.func77, Tryz.ntmps77
    go_upto_region 3 with fail
    go_quiet (fail)
    go_wp2_with fail
    go_ret
    exact ⟨rfl, _, rfl⟩

section
variable {w : World} {s : Nat} {k : ByteArray} {p : Option Addr}

set_option maxRecDepth 100000 in
theorem keep_known (c0 : Fn) (c1 c2 : Array Value) (c3 : Bool) (x0 : Fn) (x1 x2 : Array Value) (x3 : Bool)
    (CL : ∀ u, Below w.heap.size w u → Calls Tryz.prog 77 #[.pointer (some ⟨s, 0, none⟩)] u fun e w' => e = .returned (.pointer p) ∧ ∃ q, w' = u.drewN q)
    (CG : ∀ u, Below w.heap.size w u → Calls Tryz.prog 78 #[.pointer p, .string k] u fun e w' => e = .returned (.tuple #[.agg #[.func x0 x1 x2, .bool x3], .bool true]) ∧ Below u.heap.size u w') :
    Calls Tryz.prog 46 #[.pointer (some ⟨s, 0, none⟩), .string k, .agg #[.func c0 c1 c2, .bool c3]] w fun e w' => (∃ r, e = .returned r) ∧ Below w.heap.size w w' := by
  obtain ⟨G, hG⟩ : ∃ G, w.heap.size = G := ⟨_, rfl⟩
  obtain ⟨w0, hw0⟩ : ∃ w0, w.alloc (.cells #[.func c0 c1 c2, .bool c3] 73) = w0 := ⟨_, rfl⟩
  have N0 : w0.heap[G]? = some (.cells #[.func c0 c1 c2, .bool c3] 73 (0, 0)) := by rw [← hw0, ← hG]; exact heap_alloc_new w _
  have B0 : Below w.heap.size w w0 := by rw [← hw0]; exact (Below.refl _ _).alloc (Nat.le_refl _) _
  have HN := hide (And.intro N0 B0)
  have HL := hide CL
  have HG := hide CG
  have CL2 := hide (CL w0 B0)
  clear N0 B0 CL CG
  go_enter Tryz.func46, Tryz.ntmps46
  go_upto_region 2 with (first | (go_at_call 77; refine (unhide CL2).mono ?_; rintro e u1 ⟨rfl, q1, rfl⟩; have D1 : Below w.heap.size w (w0.drewN q1) := (below_drewN (unhide HN).2 q1); have CG2 := hide (unhide HG _ D1)) | (go_at_call 78; refine (unhide CG2).mono ?_; rintro e u2 ⟨rfl, b2⟩))
  have D2 : Below w.heap.size w (u2.alloc (.cells #[.func x0 x1 x2, .bool x3] 73)) := (D1.trans (b2.mono D1.size)).alloc (D1.trans (b2.mono D1.size)).size _
  clear b2 CG2 CL2
  go_wp2_with fail
  go_end0
  exact ⟨⟨_, rfl⟩, by rw [← hG] at *; exact D2⟩

set_option maxRecDepth 100000 in
set_option maxHeartbeats 400000 in
theorem keep_not {P : World → Prop} (c0 : Fn) (c1 c2 : Array Value) (c3 : Bool)
    (CL : ∀ u, Below w.heap.size w u → Calls Tryz.prog 77 #[.pointer (some ⟨s, 0, none⟩)] u fun e w' => e = .returned (.pointer p) ∧ ∃ q, w' = u.drewN q)
    (CG : ∀ u, Below w.heap.size w u → Calls Tryz.prog 78 #[.pointer p, .string k] u fun e w' => e = .returned (.tuple #[.agg #[.nilFunc, .bool false], .bool false]) ∧ Below u.heap.size u w')
    (CP : ∀ u, Below w.heap.size w u → Calls Tryz.prog 79 #[.pointer p, .string k, .agg #[.func c0 c1 c2, .bool c3]] u fun e w' => (∃ r, e = .returned (.bool r)) ∧ P w') :
    Calls Tryz.prog 46 #[.pointer (some ⟨s, 0, none⟩), .string k, .agg #[.func c0 c1 c2, .bool c3]] w fun e w' => (∃ r, e = .returned r) ∧ P w' := by
  obtain ⟨G, hG⟩ : ∃ G, w.heap.size = G := ⟨_, rfl⟩
  obtain ⟨w0, hw0⟩ : ∃ w0, w.alloc (.cells #[.func c0 c1 c2, .bool c3] 73) = w0 := ⟨_, rfl⟩
  have N0 : w0.heap[G]? = some (.cells #[.func c0 c1 c2, .bool c3] 73 (0, 0)) := by rw [← hw0, ← hG]; exact heap_alloc_new w _
  have B0 : Below w.heap.size w w0 := by rw [← hw0]; exact (Below.refl _ _).alloc (Nat.le_refl _) _
  have HN := hide (And.intro N0 B0)
  have HL := hide CL
  have HG := hide CG
  have CL2 := hide (CL w0 B0)
  clear N0 B0 CL CG
  have HP := hide CP
  clear CP
  go_enter Tryz.func46, Tryz.ntmps46
  go_upto_region 2 with (first | (go_at_call 77; refine (unhide CL2).mono ?_; rintro e u1 ⟨rfl, q1, rfl⟩; have D1 : Below w.heap.size w (w0.drewN q1) := (below_drewN (unhide HN).2 q1); have CG2 := hide (unhide HG _ D1)) | (go_at_call 78; refine (unhide CG2).mono ?_; rintro e u2 ⟨rfl, b2⟩))
  have D3 : Below w.heap.size w (u2.alloc (.cells #[.nilFunc, .bool false] 73)) := (D1.trans (b2.mono D1.size)).alloc (D1.trans (b2.mono D1.size)).size _
  obtain ⟨u3, hu3⟩ : ∃ u3, u2.alloc (.cells #[.nilFunc, .bool false] 73) = u3 := ⟨_, rfl⟩
  have Gl : G < (w0.drewN q1).heap.size := (Array.getElem?_eq_some_iff.1 (unhide HN).1).1
  have N1 : (w0.drewN q1).heap[G]? = some (.cells #[.func c0 c1 c2, .bool c3] 73 (0, 0)) := (unhide HN).1
  have N3 : u3.heap[G]? = some (.cells #[.func c0 c1 c2, .bool c3] 73 (0, 0)) := by
    rw [← hu3]
    exact (((Below.refl _ u2).alloc (Nat.le_refl _) _).block G (Nat.lt_of_lt_of_le Gl b2.size)).trans ((b2.block G Gl).trans N1)
  rw [hu3] at D3
  have HS0 : Hid (Below w.heap.size w u3.drew ∧ u3.drew.cell? ⟨G, 0, none⟩ = some (.func c0 c1 c2) ∧ u3.drew.cell? ⟨G, 1, none⟩ = some (.bool c3)) := hide ⟨D3.drew, by rw [cell_of_row _ G 0 _ _ (0, 0) (show u3.drew.heap[G]? = _ from N3)]; rfl, by rw [cell_of_row _ G 1 _ _ (0, 0) (show u3.drew.heap[G]? = _ from N3)]; rfl⟩
  have CL3 := hide (unhide HL _ D3.drew)
  clear b2 CG2 CL2 Gl N1 D1
  go_upto_region 3 with fail
  try rw [hu3]
  refine till_begin (S := fun w' => Below w.heap.size w w' ∧ w'.cell? ⟨G, 0, none⟩ = some (.func c0 c1 c2) ∧ w'.cell? ⟨G, 1, none⟩ = some (.bool c3)) 4 (by kernel_rfl) ?_
  refine till_take 2 (v := .string k) (some 19) rfl rfl rfl (by kernel_rfl) (by kernel_rfl) (by kernel_rfl) (by kernel_rfl) (fun _ _ _ h => h) (Or.inl ⟨by rfl, fun u hu => by obtain ⟨b0, b1, b2⟩ := hu; go_simp⟩) (unhide HS0) ?_
  try simp only [Act.put, List.setIfInBounds_toArray, List.set_cons_zero, List.set_cons_succ]
  refine till_take 3 (v := .agg #[.func c0 c1 c2, .bool c3]) (some 20) rfl rfl rfl (by kernel_rfl) (by kernel_rfl) (by kernel_rfl) (by kernel_rfl) (fun _ _ _ h => h) (Or.inl ⟨by rfl, fun u hu => by obtain ⟨b0, b1, b2⟩ := hu; go_simp⟩) (unhide HS0) ?_
  try simp only [Act.put, List.setIfInBounds_toArray, List.set_cons_zero, List.set_cons_succ]
  refine till_one 0 (by kernel_rfl) rfl (fun K hK => ?_)
  obtain ⟨b0, b1, b2⟩ := unhide HS0
  go_simp
  refine hK.out _ _ (Or.inr (unhide HS0)) ?_
  clear hK K b0 b1 b2
  try simp only [Act.put, List.setIfInBounds_toArray, List.set_cons_zero, List.set_cons_succ]
  refine till_one 1 (by kernel_rfl) rfl (fun K hK => ?_)
  go_simp
  refine (unhide CL3).mono ?_
  rintro e u4 ⟨rfl, q4, hu4⟩
  have D4 : Below w.heap.size w u4 := by rw [hu4]; exact below_drewN D3.drew q4
  have HS4 : Hid (Below w.heap.size w u4 ∧ u4.cell? ⟨G, 0, none⟩ = some (.func c0 c1 c2) ∧ u4.cell? ⟨G, 1, none⟩ = some (.bool c3)) := hide (by rw [hu4]; exact ⟨below_drewN D3.drew q4, (unhide HS0).2.1, (unhide HS0).2.2⟩)
  have CP2 := hide (unhide HP u4 D4)
  clear hu4 CL3
  go_wp2_with fail
  refine hK.out _ _ (Or.inr (unhide HS4)) ?_
  clear hK K HS0
  try simp only [Act.put, List.setIfInBounds_toArray, List.set_cons_zero, List.set_cons_succ]
  refine till_one 4 (by kernel_rfl) rfl (fun K hK => ?_)
  go_simp
  refine (unhide CP2).mono ?_
  rintro e u5 ⟨⟨r5, rfl⟩, p5⟩
  go_wp2_with fail
  refine hK.out _ _ (Or.inl (by first | rfl | trivial)) ?_
  clear hK K
  try simp only [Act.put, List.setIfInBounds_toArray, List.set_cons_zero, List.set_cons_succ]
  refine till_done (by kernel_rfl) ?_ _
  go_wp2_with fail
  go_end0
  exact ⟨⟨_, rfl⟩, p5⟩

set_option maxRecDepth 100000 in
set_option maxHeartbeats 400000 in
theorem forget_un {g : Nat} (t0 t1 : Int) (t2 : ByteArray) (t3 : Option Addr) (t4 t5 : Nat) (t6 : Option Addr) (t7 t8 : Nat) (th : Bool)  (h0 : w.cell? ⟨s, 0, none⟩ = some (.pointer (some ⟨g, 0, none⟩)))
    (CV : ∀ u, Below w.heap.size w u → Calls Tryz.prog 55 #[.pointer (some ⟨g, 0, none⟩), .string k] u fun e w' => e = .returned (.tuple #[.agg #[.int .i64 t0, .int .i64 t1, .string t2, .slice t3 t4 t5, .slice t6 t7 t8], .bool th]) ∧ Below u.heap.size u w')
    (CL : ∀ u, Below w.heap.size w u → Calls Tryz.prog 77 #[.pointer (some ⟨s, 0, none⟩)] u fun e w' => e = .returned (.pointer p) ∧ ∃ q, w' = u.drewN q)
    (CG : ∀ u, Below w.heap.size w u → Calls Tryz.prog 78 #[.pointer p, .string k] u fun e w' => e = .returned (.tuple #[.agg #[.nilFunc, .bool false], .bool false]) ∧ Below u.heap.size u w') :
    Calls Tryz.prog 64 #[.pointer (some ⟨s, 0, none⟩), .string k] w fun e w' => (∃ r, e = .returned r) ∧ Below w.heap.size w w' := by
  have HL := hide CL
  have HG := hide CG
  have CV2 := hide (CV w (Below.refl _ _))
  clear CL CG CV
  go_enter Tryz.func64, Tryz.ntmps64
  go_upto_region 2 with (first | (go_at_call 55; refine (unhide CV2).mono ?_; rintro e u0 ⟨rfl, b0⟩; have D0 : Below w.heap.size w (u0.alloc (.cells #[.int .i64 t0, .int .i64 t1, .string t2, .slice t3 t4 t5, .slice t6 t7 t8] 32)) := (b0.alloc b0.size _); have CL2 := hide (unhide HL _ D0)) | (go_at_call 77; refine (unhide CL2).mono ?_; rintro e u1 ⟨rfl, q1, rfl⟩; have D1 := below_drewN D0 q1; have CG2 := hide (unhide HG _ D1)) | (go_at_call 78; refine (unhide CG2).mono ?_; rintro e u2 ⟨rfl, b2⟩))
  have D2 : Below w.heap.size w (u2.alloc (.cells #[.nilFunc, .bool false] 73)) := (D1.trans (b2.mono D1.size)).alloc (D1.trans (b2.mono D1.size)).size _
  clear b2 CG2 CL2
  go_wp2_with fail
  go_end0
  exact ⟨⟨_, rfl⟩, D2⟩

set_option maxRecDepth 100000 in
set_option maxHeartbeats 400000 in
theorem forget_full {g : Nat} (t0 t1 : Int) (t2 : ByteArray) (t3 : Option Addr) (t4 t5 : Nat) (t6 : Option Addr) (t7 t8 : Nat) (th : Bool) (x0 : Fn) (x1 x2 : Array Value) (h0 : w.cell? ⟨s, 0, none⟩ = some (.pointer (some ⟨g, 0, none⟩)))
    (CV : ∀ u, Below w.heap.size w u → Calls Tryz.prog 55 #[.pointer (some ⟨g, 0, none⟩), .string k] u fun e w' => e = .returned (.tuple #[.agg #[.int .i64 t0, .int .i64 t1, .string t2, .slice t3 t4 t5, .slice t6 t7 t8], .bool th]) ∧ Below u.heap.size u w')
    (CL : ∀ u, Below w.heap.size w u → Calls Tryz.prog 77 #[.pointer (some ⟨s, 0, none⟩)] u fun e w' => e = .returned (.pointer p) ∧ ∃ q, w' = u.drewN q)
    (CG : ∀ u, Below w.heap.size w u → Calls Tryz.prog 78 #[.pointer p, .string k] u fun e w' => e = .returned (.tuple #[.agg #[.func x0 x1 x2, .bool false], .bool true]) ∧ Below u.heap.size u w') :
    Calls Tryz.prog 64 #[.pointer (some ⟨s, 0, none⟩), .string k] w fun e w' => (∃ r, e = .returned r) ∧ Below w.heap.size w w' := by
  have HL := hide CL
  have HG := hide CG
  have CV2 := hide (CV w (Below.refl _ _))
  clear CL CG CV
  go_enter Tryz.func64, Tryz.ntmps64
  go_upto_region 2 with (first | (go_at_call 55; refine (unhide CV2).mono ?_; rintro e u0 ⟨rfl, b0⟩; have D0 : Below w.heap.size w (u0.alloc (.cells #[.int .i64 t0, .int .i64 t1, .string t2, .slice t3 t4 t5, .slice t6 t7 t8] 32)) := (b0.alloc b0.size _); have CL2 := hide (unhide HL _ D0)) | (go_at_call 77; refine (unhide CL2).mono ?_; rintro e u1 ⟨rfl, q1, rfl⟩; have D1 := below_drewN D0 q1; have CG2 := hide (unhide HG _ D1)) | (go_at_call 78; refine (unhide CG2).mono ?_; rintro e u2 ⟨rfl, b2⟩))
  have D2 : Below w.heap.size w (u2.alloc (.cells #[.func x0 x1 x2, .bool false] 73)) := (D1.trans (b2.mono D1.size)).alloc (D1.trans (b2.mono D1.size)).size _
  clear b2 CG2 CL2
  go_wp2_with fail
  go_end0
  exact ⟨⟨_, rfl⟩, D2⟩

set_option maxRecDepth 100000 in
set_option maxHeartbeats 400000 in
theorem forget_there {g : Nat} (t0 t1 : Int) (t2 : ByteArray) (t3 : Option Addr) (t4 t5 : Nat) (t6 : Option Addr) (t7 t8 : Nat) (th : Bool) (x0 : Fn) (x1 x2 : Array Value) (ht : th = true) (h0 : w.cell? ⟨s, 0, none⟩ = some (.pointer (some ⟨g, 0, none⟩)))
    (CV : ∀ u, Below w.heap.size w u → Calls Tryz.prog 55 #[.pointer (some ⟨g, 0, none⟩), .string k] u fun e w' => e = .returned (.tuple #[.agg #[.int .i64 t0, .int .i64 t1, .string t2, .slice t3 t4 t5, .slice t6 t7 t8], .bool th]) ∧ Below u.heap.size u w')
    (CL : ∀ u, Below w.heap.size w u → Calls Tryz.prog 77 #[.pointer (some ⟨s, 0, none⟩)] u fun e w' => e = .returned (.pointer p) ∧ ∃ q, w' = u.drewN q)
    (CG : ∀ u, Below w.heap.size w u → Calls Tryz.prog 78 #[.pointer p, .string k] u fun e w' => e = .returned (.tuple #[.agg #[.func x0 x1 x2, .bool true], .bool true]) ∧ Below u.heap.size u w') :
    Calls Tryz.prog 64 #[.pointer (some ⟨s, 0, none⟩), .string k] w fun e w' => (∃ r, e = .returned r) ∧ Below w.heap.size w w' := by
  subst ht
  have HL := hide CL
  have HG := hide CG
  have CV2 := hide (CV w (Below.refl _ _))
  clear CL CG CV
  go_enter Tryz.func64, Tryz.ntmps64
  go_upto_region 2 with (first | (go_at_call 55; refine (unhide CV2).mono ?_; rintro e u0 ⟨rfl, b0⟩; have D0 : Below w.heap.size w (u0.alloc (.cells #[.int .i64 t0, .int .i64 t1, .string t2, .slice t3 t4 t5, .slice t6 t7 t8] 32)) := (b0.alloc b0.size _); have CL2 := hide (unhide HL _ D0)) | (go_at_call 77; refine (unhide CL2).mono ?_; rintro e u1 ⟨rfl, q1, rfl⟩; have D1 := below_drewN D0 q1; have CG2 := hide (unhide HG _ D1)) | (go_at_call 78; refine (unhide CG2).mono ?_; rintro e u2 ⟨rfl, b2⟩))
  have D2 : Below w.heap.size w (u2.alloc (.cells #[.func x0 x1 x2, .bool true] 73)) := (D1.trans (b2.mono D1.size)).alloc (D1.trans (b2.mono D1.size)).size _
  clear b2 CG2 CL2
  go_wp2_with fail
  go_end0
  exact ⟨⟨_, rfl⟩, D2⟩

set_option maxRecDepth 100000 in
set_option maxHeartbeats 400000 in
theorem forget_do {g : Nat} (t0 t1 : Int) (t2 : ByteArray) (t3 : Option Addr) (t4 t5 : Nat) (t6 : Option Addr) (t7 t8 : Nat) (th : Bool) {P : World → Prop} (x0 : Fn) (x1 x2 : Array Value) (ht : th = false) (h0 : w.cell? ⟨s, 0, none⟩ = some (.pointer (some ⟨g, 0, none⟩)))
    (CV : ∀ u, Below w.heap.size w u → Calls Tryz.prog 55 #[.pointer (some ⟨g, 0, none⟩), .string k] u fun e w' => e = .returned (.tuple #[.agg #[.int .i64 t0, .int .i64 t1, .string t2, .slice t3 t4 t5, .slice t6 t7 t8], .bool th]) ∧ Below u.heap.size u w')
    (CL : ∀ u, Below w.heap.size w u → Calls Tryz.prog 77 #[.pointer (some ⟨s, 0, none⟩)] u fun e w' => e = .returned (.pointer p) ∧ ∃ q, w' = u.drewN q)
    (CG : ∀ u, Below w.heap.size w u → Calls Tryz.prog 78 #[.pointer p, .string k] u fun e w' => e = .returned (.tuple #[.agg #[.func x0 x1 x2, .bool true], .bool true]) ∧ Below u.heap.size u w')
    (CD : ∀ u, Below w.heap.size w u → Calls Tryz.prog 90 #[.pointer p, .string k] u fun e w' => (∃ r, e = .returned (.bool r)) ∧ P w') :
    Calls Tryz.prog 64 #[.pointer (some ⟨s, 0, none⟩), .string k] w fun e w' => (∃ r, e = .returned r) ∧ P w' := by
  subst ht
  have HD := hide CD
  clear CD
  have HL := hide CL
  have HG := hide CG
  have CV2 := hide (CV w (Below.refl _ _))
  clear CL CG CV
  go_enter Tryz.func64, Tryz.ntmps64
  go_upto_region 2 with (first | (go_at_call 55; refine (unhide CV2).mono ?_; rintro e u0 ⟨rfl, b0⟩; have D0 : Below w.heap.size w (u0.alloc (.cells #[.int .i64 t0, .int .i64 t1, .string t2, .slice t3 t4 t5, .slice t6 t7 t8] 32)) := (b0.alloc b0.size _); have CL2 := hide (unhide HL _ D0)) | (go_at_call 77; refine (unhide CL2).mono ?_; rintro e u1 ⟨rfl, q1, rfl⟩; have D1 := below_drewN D0 q1; have CG2 := hide (unhide HG _ D1)) | (go_at_call 78; refine (unhide CG2).mono ?_; rintro e u2 ⟨rfl, b2⟩))
  have D2 : Below w.heap.size w (u2.alloc (.cells #[.func x0 x1 x2, .bool true] 73)) := (D1.trans (b2.mono D1.size)).alloc (D1.trans (b2.mono D1.size)).size _
  have CL3 := hide (unhide HL _ D2)
  clear b2 CG2 CL2
  go_wp2_with (first | (go_at_call 77; refine (unhide CL3).mono ?_; rintro e u4 ⟨rfl, q4, rfl⟩; have D4 := below_drewN D2 q4; have CD2 := hide (unhide HD _ D4)) | (go_at_call 90; refine (unhide CD2).mono ?_; rintro e u5 ⟨⟨r5, rfl⟩, p5⟩))
  go_end0
  exact ⟨⟨_, rfl⟩, p5⟩

end
end Go.Proofs.YtdaooapfokhfcaaGreat
