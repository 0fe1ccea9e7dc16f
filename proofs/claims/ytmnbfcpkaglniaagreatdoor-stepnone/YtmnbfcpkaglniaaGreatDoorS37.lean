/-
  Layer 15 (step): what an instruction does to a machine: effectOf, follow, leave, end, Step; conditions: the package's variables.
-/
import Derived.Test.YtmnbfcpkaglniaaGreatDoorS35
import Derived.Test.YtmnbfcpkaglniaaGreatDoorS36
import Derived.Laws.AppendOwn
import Derived.Laws.Tables
set_option linter.unusedVariables false
set_option linter.unusedSimpArgs false
namespace Go.Proofs.YtmnbfcpkaglniaaGreatDoor
open Go.RowKit
set_option linter.unusedVariables false
set_option linter.unusedSimpArgs false
theorem five_cells {w : World} {r : Nat} {a b c d e : Value} {z : List Value} {T : TypeId} (h : w.heap[r]? = some (.cells (a :: b :: c :: d :: e :: z).toArray T (0, 0))) :
    w.cell? ⟨r, 0, none⟩ = some a ∧ w.cell? ⟨r, 1, none⟩ = some b ∧ w.cell? ⟨r, 2, none⟩ = some c ∧ w.cell? ⟨r, 3, none⟩ = some d ∧ w.cell? ⟨r, 4, none⟩ = some e :=
  ⟨by rw [cell_of_row w _ 0 _ _ (0, 0) h]; rfl, by rw [cell_of_row w _ 1 _ _ (0, 0) h]; rfl, by rw [cell_of_row w _ 2 _ _ (0, 0) h]; rfl, by rw [cell_of_row w _ 3 _ _ (0, 0) h]; rfl, by rw [cell_of_row w _ 4 _ _ (0, 0) h]; rfl⟩
set_option maxRecDepth 100000 in
set_option maxHeartbeats 8000000 in
theorem effect_const {w : World} {q r rc g c cc t c1 : Nat} {F S : Value} {x0 x1 : Int} {x2 : ByteArray} {al ak : Option Addr} {ll cl lk ck : Nat} {n : Int} {z : List Value} {k : Nat} (hcc : 1 ≤ cc)
    (hq : w.heap[q]? = some (.cells (rnC (.slice (some ⟨c, 0, none⟩) 1 cc) F S (.slice (some ⟨r, 0, none⟩) 1 rc) g n) 62 (0, 0)))
    (hc : w.heap[c]? = some (.cells (.int .i64 x0 :: .int .i64 x1 :: .string x2 :: .slice al ll cl :: .slice ak lk ck :: z).toArray 29 (0, 0))) : Calls Tryz.prog 20 #[.pointer (some ⟨q, 0, none⟩), .agg #[.int .i64 1, .int .i64 0], .slice (some ⟨t, 0, none⟩) k c1] w fun e w' => e = .returned (.iface 107 (.agg #[.int .i64 x0, .int .i64 x1, .string x2, .slice al ll cl, .slice ak lk ck])) ∧ Below w.heap.size w w' := by
  obtain ⟨G, hG⟩ : ∃ G, w.heap.size = G := ⟨_, rfl⟩
  obtain ⟨w0, hw0⟩ : ∃ u, w.alloc (.cells #[.int .i64 1, .int .i64 0] 36) = u := ⟨_, rfl⟩
  have b0 : Below w.heap.size w w0 := by rw [← hw0]; exact (Below.refl _ _).alloc (Nat.le_refl _) _
  have a0 : w0.heap[G]? = some (.cells #[.int .i64 1, .int .i64 0] 36 (0, 0)) := by rw [← hw0, ← hG]; exact heap_alloc_new _ _
  obtain ⟨x0, x1⟩ := two_cells a0
  obtain ⟨c0, c1', c2, c3, c4, c5⟩ := rn_cells ((b0.block q (lt_of_row hq)).trans hq)
  obtain ⟨y0, y1, y2, y3, y4⟩ := five_cells ((b0.block c (lt_of_row hc)).trans hc)
  have HB := hide b0
  clear hq hc a0 b0
  go_enter Tryz.func20, Tryz.ntmps20
  go_upto_region 1 with fail
  try rw [hw0]
  go_wp2_with fail
  go_quiet (fail)
  go_wp2_with fail
  go_ret
  exact ⟨rfl, below_drewN (unhide HB) _⟩
/-- all but the blocks of P as before -/
structure Bes (P : Nat → Prop) (w w' : World) : Prop where
  os : w'.os = w.os
  tape : w'.tape = w.tape
  output : w'.output = w.output
  size : w.heap.size ≤ w'.heap.size
  block : ∀ k, k < w.heap.size → ¬ P k → w'.heap[k]? = w.heap[k]?
theorem Bes.of_below {P : Nat → Prop} {w w' : World} (h : Below w.heap.size w w') : Bes P w w' := ⟨h.os, h.tape, h.output, h.size, fun k hk _ => h.block k hk⟩
theorem Bes.refl (P : Nat → Prop) (w : World) : Bes P w w := Bes.of_below (Below.refl _ _)
theorem Bes.trans {P : Nat → Prop} {w w1 w2 : World} (h : Bes P w w1) (h' : Bes P w1 w2) : Bes P w w2 :=
  ⟨h'.os.trans h.os, h'.tape.trans h.tape, h'.output.trans h.output, Nat.le_trans h.size h'.size, fun k hk hn => (h'.block k (Nat.lt_of_lt_of_le hk h.size) hn).trans (h.block k hk hn)⟩
theorem Bes.mono {P R : Nat → Prop} {w w' : World} (h : Bes P w w') (hp : ∀ k, P k → R k) : Bes R w w' := ⟨h.os, h.tape, h.output, h.size, fun k hk hn => h.block k hk (fun hp' => hn (hp k hp'))⟩
theorem Bes.set {P : Nat → Prop} {w w' : World} {p : Addr} (h : Bes P w w') (hp : P p.block ∨ w.heap.size ≤ p.block) (v : Value) : Bes P w (w'.setCell p v) := by
  have B := (Below.refl 0 w').setCell (p := p) (Nat.zero_le _) v
  refine ⟨B.os.trans h.os, B.tape.trans h.tape, B.output.trans h.output, Nat.le_trans h.size B.size, fun k hk hn => (heap_setCell_other w' p k v (fun e => ?_)).trans (h.block k hk hn)⟩
  subst e
  rcases hp with hp | hp
  · exact hn hp
  · omega
theorem Bes.setRow {P : Nat → Prop} {w w' : World} {g : Nat} (h : Bes P w w') (hp : P g ∨ w.heap.size ≤ g) (cs : Array Value) : Bes P w (w'.setRow g cs) := by
  refine ⟨h.os, h.tape, h.output, Nat.le_trans h.size (by simp [World.setRow]), fun k hk hn => (setRow_other w' g k cs (fun e => ?_)).trans (h.block k hk hn)⟩
  subst e
  rcases hp with hp | hp
  · exact hn hp
  · omega
theorem as_gives (v : Value) (w : World) : (Instr.typeAssert (.iface 107 v) 70 107 true).run Tryz.prog w = .ok (.tuple #[v, .bool true]) w := by kernel_rfl
theorem as_no1 (v : Value) (w : World) : (Instr.typeAssert (.iface 115 v) 70 107 true).run Tryz.prog w = .ok (.tuple #[.agg #[.int .i64 0, .int .i64 0, .string ⟨#[]⟩, .slice none 0 0, .slice none 0 0], .bool false]) w := by kernel_rfl
theorem as_no2 (v : Value) (w : World) : (Instr.typeAssert (.iface 115 v) 70 109 true).run Tryz.prog w = .ok (.tuple #[.agg #[.int .i64 0, .int .i64 0, .int .i64 0, .string ⟨#[]⟩, .slice none 0 0, .slice none 0 0], .bool false]) w := by kernel_rfl
theorem as_no3 (v : Value) (w : World) : (Instr.typeAssert (.iface 115 v) 70 111 true).run Tryz.prog w = .ok (.tuple #[.agg #[.int .i64 0], .bool false]) w := by kernel_rfl
theorem as_no4 (v : Value) (w : World) : (Instr.typeAssert (.iface 115 v) 70 113 true).run Tryz.prog w = .ok (.tuple #[.agg #[.int .i64 0, .slice none 0 0], .bool false]) w := by kernel_rfl
theorem as_leaves (v : Value) (w : World) : (Instr.typeAssert (.iface 115 v) 70 115 true).run Tryz.prog w = .ok (.tuple #[v, .bool true]) w := by kernel_rfl
theorem set5_at {w : World} {t : Nat} {z0 z1 z2 z3 z4 : Value} {T : TypeId} (h : w.heap[t]? = some (.cells #[z0, z1, z2, z3, z4] T (0, 0))) (y0 y1 y2 y3 y4 : Value) : (((((w.setCell ⟨t, 0, none⟩ y0).setCell ⟨t, 1, none⟩ y1).setCell ⟨t, 2, none⟩ y2).setCell ⟨t, 3, none⟩ y3).setCell ⟨t, 4, none⟩ y4).heap[t]? = some (.cells #[y0, y1, y2, y3, y4] T (0, 0)) := by
  have h1 := heap_setCell_same w t 0 _ T y0 h
  have h2 := heap_setCell_same _ t 1 _ T y1 h1
  have h3 := heap_setCell_same _ t 2 _ T y2 h2
  have h4 := heap_setCell_same _ t 3 _ T y3 h3
  exact heap_setCell_same _ t 4 _ T y4 h4
theorem set5_other (w : World) {t r : Nat} (y0 y1 y2 y3 y4 : Value) (hrt : r ≠ t) : (((((w.setCell ⟨t, 0, none⟩ y0).setCell ⟨t, 1, none⟩ y1).setCell ⟨t, 2, none⟩ y2).setCell ⟨t, 3, none⟩ y3).setCell ⟨t, 4, none⟩ y4).heap[r]? = w.heap[r]? := by
  rw [heap_setCell_other _ _ _ _ hrt, heap_setCell_other _ _ _ _ hrt, heap_setCell_other _ _ _ _ hrt, heap_setCell_other _ _ _ _ hrt, heap_setCell_other _ _ _ _ hrt]
theorem set4_3 {w : World} {r : Nat} {a b c d : Value} {z : List Value} {T : TypeId} (h : w.heap[r]? = some (.cells (a :: b :: c :: d :: z).toArray T (0, 0))) (v : Value) : (w.setCell ⟨r, 3, none⟩ v).heap[r]? = some (.cells (a :: b :: c :: v :: z).toArray T (0, 0)) := by
  have h1 := heap_setCell_same w r 3 _ T v h
  rw [h1]
  simp
theorem set4_1 {w : World} {r : Nat} {a b c d : Value} {z : List Value} {T : TypeId} (h : w.heap[r]? = some (.cells (a :: b :: c :: d :: z).toArray T (0, 0))) (v : Value) : (w.setCell ⟨r, 1, none⟩ v).heap[r]? = some (.cells (a :: v :: c :: d :: z).toArray T (0, 0)) := by
  have h1 := heap_setCell_same w r 1 _ T v h
  rw [h1]
  simp
theorem infoV5 : (Tryz.prog.info? 29).map (fun i => (i.zero, i.size, i.bytes)) = some (some (.agg #[.int .i64 0, .int .i64 0, .string ⟨#[]⟩, .slice none 0 0, .slice none 0 0]), 5, 80) := by kernel_rfl
/-- append where there is room, at a step of a region that draws -/
theorem step_room {w : World} {ops : Array Oper} {o : Oper} {a : Act} {K : Act → World → Prop} {Q' : Exit → Act → World → Prop} {E : Prop} (hgd : o.guard = none) (sl x : Operand) (t e : TypeId) (i : TypeInfo) (size : Nat)
    (ho : o.op = .call { callee := .builtin .append, args := #[sl, x], argTypes := #[t, t] }) (ht : Tryz.prog.underlying t = some (.slice e)) (hi : Tryz.prog.info? e = some i) (hsize : i.size = size)
    (b n cap c : Nat) (cs : Array Value) (hs : a.eval sl = .slice (some ⟨b, 0, none⟩) n cap) (hg : w.heap[b]? = some (.cells cs e (0, 0))) (ad : Addr) (cc : Nat) (news : List Value) (hx : a.eval x = .slice (some ad) c cc) (hl : news.length = c * size) (hnews : ∀ j u, news[j]? = some u → w.cell? (ad.add j) = some u) (h1 : ∀ u ∈ news, u.oneCell' = true) (hroom : n + c ≤ cap) (hfit : n * size + news.length ≤ cs.size)
    (h : K (a.put o.dst (.slice (some ⟨b, 0, none⟩) (n + c) cap)) (w.setRow b (cs.toList.take (n * size) ++ news ++ cs.toList.drop (n * size + news.length)).toArray)) :
    if Region.wanted o (yielded ops a.tmps) = true then Oper.wp Tryz.prog o a w K Q' else E := by
  have hw : Region.wanted o (yielded ops a.tmps) = true := by simp [Region.wanted, hgd]
  rw [if_pos hw]
  subst hsize
  have hrun := run_append_room (P := Tryz.prog) w t o.type e i ht hi b n cap cs hg ad c cc news hl hnews h1 hroom hfit
  unfold Oper.wp
  simp only [execOp, ho, resolve, invoke, builtin, Sem.run_bind, Sem.run_pure, Result.andThen_ok, List.map_toArray, List.map_cons, List.map_nil, hs, hx, hrun]
  exact h
set_option maxRecDepth 100000 in
set_option maxHeartbeats 8000000 in
theorem follow_gives {w : World} {q r rc g t : Nat} {C F S L : Value} {x0 x1 : Int} {x2 : ByteArray} {al ak : Option Addr} {ll cl lk ck : Nat} {n at0 : Int} {z : List Value} (hrc : 1 ≤ rc)
    (hq : w.heap[q]? = some (.cells (rnC C F S (.slice (some ⟨r, 0, none⟩) 1 rc) g n) 62 (0, 0)))
    (hr : w.heap[r]? = some (.cells (.int .i64 0 :: .int .i64 at0 :: L :: .slice (some ⟨t, 0, none⟩) 0 1 :: z).toArray 67 (0, 0)))
    (ht : w.heap[t]? = some (.cells #[.int .i64 0, .int .i64 0, .string ⟨#[]⟩, .slice none 0 0, .slice none 0 0] 29 (0, 0))) : Calls Tryz.prog 19 #[.pointer (some ⟨q, 0, none⟩), .iface 107 (.agg #[.int .i64 x0, .int .i64 x1, .string x2, .slice al ll cl, .slice ak lk ck])] w fun e w' => e = .returned (.tuple #[]) ∧
      w'.heap[t]? = some (.cells #[.int .i64 x0, .int .i64 x1, .string x2, .slice al ll cl, .slice ak lk ck] 29 (0, 0)) ∧ w'.heap[r]? = some (.cells (.int .i64 0 :: .int .i64 at0 :: L :: .slice (some ⟨t, 0, none⟩) 1 1 :: z).toArray 67 (0, 0)) ∧ Bes (fun k => k = t ∨ k = r) w w' := by
  have hrt : r ≠ t := fun e => by subst e; rw [hr] at ht; simp at ht
  have CTop := hide (top_on hrc hq)
  have HR := hide (And.intro hr ht)
  clear hq hr ht
  go_enter Tryz.func19, Tryz.ntmps19
  go_wp2_with fail
  refine (unhide CTop).mono ?_
  rintro e w0 ⟨rfl, b0⟩
  have hr0 := (b0.block r (lt_of_row (unhide HR).1)).trans (unhide HR).1
  have ht0 := (b0.block t (lt_of_row (unhide HR).2)).trans (unhide HR).2
  have B0 := hide b0
  clear b0 HR CTop
  have ha := as_gives
  obtain ⟨Q, hQ⟩ : ∃ Q, w0.heap.size = Q := ⟨_, rfl⟩
  go_upto_region 4 with fail
  obtain ⟨w1, hw1⟩ : ∃ u, w0.alloc (.cells #[.int .i64 x0, .int .i64 x1, .string x2, .slice al ll cl, .slice ak lk ck] 107) = u := ⟨_, rfl⟩
  have q1 : w1.heap[Q]? = some (.cells #[.int .i64 x0, .int .i64 x1, .string x2, .slice al ll cl, .slice ak lk ck] 107 (0, 0)) := by rw [← hw1, ← hQ]; exact heap_alloc_new _ _
  have b1 : Below w0.heap.size w0 w1 := by rw [← hw1]; exact (Below.refl _ _).alloc (Nat.le_refl _) _
  try rw [hw1]
  have hr := (b1.block r (lt_of_row hr0)).trans hr0
  have ht := (b1.block t (lt_of_row ht0)).trans ht0
  have B1 := hide ((unhide B0).trans (b1.mono (unhide B0).size))
  have HF : Hid (∀ u, Below w1.heap.size w1 u → (u.cell? ⟨Q, 0, none⟩ = some (.int .i64 x0) ∧ u.cell? ⟨Q, 1, none⟩ = some (.int .i64 x1) ∧ u.cell? ⟨Q, 2, none⟩ = some (.string x2) ∧ u.cell? ⟨Q, 3, none⟩ = some (.slice al ll cl) ∧ u.cell? ⟨Q, 4, none⟩ = some (.slice ak lk ck)) ∧ (u.cell? ⟨r, 0, none⟩ = some (.int .i64 0) ∧ u.cell? ⟨r, 1, none⟩ = some (.int .i64 at0) ∧ u.cell? ⟨r, 2, none⟩ = some L ∧ u.cell? ⟨r, 3, none⟩ = some (.slice (some ⟨t, 0, none⟩) 0 1))) :=
    hide (fun u hu => ⟨five_cells (z := []) ((hu.block Q (lt_of_row q1)).trans q1), four_cells ((hu.block r (lt_of_row hr)).trans hr)⟩)
  clear ha hQ hw1 b1 B0 hr0 ht0 q1
  have HS0 : Hid (Below w1.heap.size w1 w1.drew) := hide ((Below.refl _ _).drew)
  refine til2_begin (S := fun w' => Below w1.heap.size w1 w') 8 (by kernel_rfl) ?_
  obtain ⟨W0, hW0⟩ : ∃ W0, w1.drew = W0 := ⟨_, rfl⟩
  try rw [hW0]
  rw [hW0] at HS0
  clear hW0
  refine til2_take 0 (v := .pointer (some ⟨r, 0, none⟩)) (some 17) rfl rfl rfl rfl (by kernel_rfl) (by kernel_rfl) (by kernel_rfl) (by kernel_rfl) (fun _ _ _ h => h) (Or.inl ⟨by rfl, fun u hu => by obtain ⟨⟨c0, c1, c2, c3, c4⟩, r0, r1, r2, r3⟩ := unhide HF u hu; go_simp⟩) (unhide HS0) ?_
  try simp only [Act.put, List.setIfInBounds_toArray, List.set_cons_zero, List.set_cons_succ]
  refine til2_take 1 (v := .pointer (some ⟨r, 0, none⟩)) (some 18) rfl rfl rfl rfl (by kernel_rfl) (by kernel_rfl) (by kernel_rfl) (by kernel_rfl) (fun _ _ _ h => h) (Or.inl ⟨by rfl, fun u hu => by obtain ⟨⟨c0, c1, c2, c3, c4⟩, r0, r1, r2, r3⟩ := unhide HF u hu; go_simp⟩) (unhide HS0) ?_
  try simp only [Act.put, List.setIfInBounds_toArray, List.set_cons_zero, List.set_cons_succ]
  refine til2_take 2 (v := .pointer (some ⟨r, 3, none⟩)) (some 19) rfl rfl rfl rfl (by kernel_rfl) (by kernel_rfl) (by kernel_rfl) (by kernel_rfl) (fun _ _ _ h => h) (Or.inl ⟨by rfl, fun u hu => by obtain ⟨⟨c0, c1, c2, c3, c4⟩, r0, r1, r2, r3⟩ := unhide HF u hu; go_simp⟩) (unhide HS0) ?_
  try simp only [Act.put, List.setIfInBounds_toArray, List.set_cons_zero, List.set_cons_succ]
  refine til2_take 3 (v := .slice (some ⟨t, 0, none⟩) 0 1) (some 20) rfl rfl rfl rfl (by kernel_rfl) (by kernel_rfl) (by kernel_rfl) (by kernel_rfl) (fun _ _ _ h => h) (Or.inl ⟨by rfl, fun u hu => by obtain ⟨⟨c0, c1, c2, c3, c4⟩, r0, r1, r2, r3⟩ := unhide HF u hu; go_simp⟩) (unhide HS0) ?_
  try simp only [Act.put, List.setIfInBounds_toArray, List.set_cons_zero, List.set_cons_succ]
  refine til2_take 4 (v := .pointer (some ⟨Q, 0, none⟩)) (some 21) rfl rfl rfl rfl (by kernel_rfl) (by kernel_rfl) (by kernel_rfl) (by kernel_rfl) (fun _ _ _ h => h) (Or.inl ⟨by rfl, fun u hu => by obtain ⟨⟨c0, c1, c2, c3, c4⟩, r0, r1, r2, r3⟩ := unhide HF u hu; go_simp⟩) (unhide HS0) ?_
  try simp only [Act.put, List.setIfInBounds_toArray, List.set_cons_zero, List.set_cons_succ]
  refine til2_take 5 (v := .agg #[.int .i64 x0, .int .i64 x1, .string x2, .slice al ll cl, .slice ak lk ck]) (some 22) rfl rfl rfl rfl (by kernel_rfl) (by kernel_rfl) (by kernel_rfl) (by kernel_rfl) (fun _ _ _ h => h) (Or.inl ⟨by rfl, fun u hu => by obtain ⟨⟨c0, c1, c2, c3, c4⟩, r0, r1, r2, r3⟩ := unhide HF u hu; go_simp⟩) (unhide HS0) ?_
  try simp only [Act.put, List.setIfInBounds_toArray, List.set_cons_zero, List.set_cons_succ]
  refine til2_take 6 (v := .int .i64 0) (some 23) rfl rfl rfl rfl (by kernel_rfl) (by kernel_rfl) (by kernel_rfl) (by kernel_rfl) (fun _ _ _ h => h) (Or.inl ⟨by rfl, fun u hu => by obtain ⟨⟨c0, c1, c2, c3, c4⟩, r0, r1, r2, r3⟩ := unhide HF u hu; go_simp⟩) (unhide HS0) ?_
  try simp only [Act.put, List.setIfInBounds_toArray, List.set_cons_zero, List.set_cons_succ]
  refine til2_one 7 (by kernel_rfl) rfl rfl (fun K hK => ?_)
  go_simp
  obtain ⟨B, hB⟩ : ∃ B, W0.heap.size = B := ⟨_, rfl⟩
  obtain ⟨W1, hW1⟩ : ∃ u, W0.alloc (.cells #[.int .i64 0, .int .i64 0, .string ⟨#[]⟩, .slice none 0 0, .slice none 0 0] 29) = u := ⟨_, rfl⟩
  have at1 : W1.heap[B]? = some (.cells #[.int .i64 0, .int .i64 0, .string ⟨#[]⟩, .slice none 0 0, .slice none 0 0] 29 (0, 0)) := by rw [← hW1, ← hB]; exact heap_alloc_new _ _
  have HS1 : Hid (Below w1.heap.size w1 W1) := hide (by rw [← hW1]; exact (unhide HS0).alloc (unhide HS0).size _)
  rw [hW1]
  rw [hB]
  refine hK _ _ (unhide HS1) ?_
  clear hK K hW1 hB
  try simp only [Act.put, List.setIfInBounds_toArray, List.set_cons_zero, List.set_cons_succ]
  obtain ⟨iv, hiv, hz0, hz1, hz2⟩ := info_parts infoV5
  have ht1 := ((unhide HS1).block t (lt_of_row ht)).trans ht
  refine til2_z (by kernel_rfl) rfl (fun K hK => ?_)
  refine step_room (by rfl) _ _ 26 29 iv 5 (by rfl) Tryz.underlying26 hiv hz1 t 0 1 1 #[.int .i64 0, .int .i64 0, .string ⟨#[]⟩, .slice none 0 0, .slice none 0 0] (by rfl) ht1 ⟨B, 0, none⟩ 1 [.int .i64 0, .int .i64 0, .string ⟨#[]⟩, .slice none 0 0, .slice none 0 0] (by rfl) (by rfl) (fun j u hu => World.news_of_block at1 j u hu) (by simp [Value.oneCell']) (by decide) (by decide) ?_
  have ht2 := setRow_heap W1 t _ #[.int .i64 0, .int .i64 0, .string ⟨#[]⟩, .slice none 0 0, .slice none 0 0] 29 (0, 0) ht1
  have BS2 : Hid (Bes (fun k => k = t ∨ k = r) w1 (W1.setRow t #[.int .i64 0, .int .i64 0, .string ⟨#[]⟩, .slice none 0 0, .slice none 0 0])) := hide ((Bes.of_below (P := fun k => k = t ∨ k = r) (unhide HS1)).setRow (Or.inl (Or.inl rfl)) _)
  have hr2 := (setRow_other W1 t r #[.int .i64 0, .int .i64 0, .string ⟨#[]⟩, .slice none 0 0, .slice none 0 0] hrt).trans (((unhide HS1).block r (lt_of_row hr)).trans hr)
  show K _ (W1.setRow t #[.int .i64 0, .int .i64 0, .string ⟨#[]⟩, .slice none 0 0, .slice none 0 0])
  obtain ⟨W2, hW2⟩ : ∃ u, W1.setRow t #[.int .i64 0, .int .i64 0, .string ⟨#[]⟩, .slice none 0 0, .slice none 0 0] = u := ⟨_, rfl⟩
  rw [hW2] at ht2 hr2 BS2 ⊢
  refine hK _ _ ?_
  clear hK K hW2 ht1 at1
  try simp only [Act.put, List.setIfInBounds_toArray, List.set_cons_zero, List.set_cons_succ]
  refine Till.any (S := fun _ => True) (z := 99) _ _ _ _ ?_
  refine till_takeN 9 (v := .pointer (some ⟨t, 0, none⟩)) (some 26) rfl rfl rfl (by kernel_rfl) (by kernel_rfl) (by kernel_rfl) (fun _ _ _ h => h) (Or.inl ⟨by rfl, fun u hu => by go_simp⟩) trivial ?_
  try simp only [Act.put, List.setIfInBounds_toArray, List.set_cons_zero, List.set_cons_succ]
  refine till_takeN 11 (v := .pointer (some ⟨r, 0, none⟩)) (some 27) rfl rfl rfl (by kernel_rfl) (by kernel_rfl) (by kernel_rfl) (fun _ _ _ h => h) (Or.inl ⟨by rfl, fun u hu => by go_simp⟩) trivial ?_
  try simp only [Act.put, List.setIfInBounds_toArray, List.set_cons_zero, List.set_cons_succ]
  refine till_takeN 12 (v := .pointer (some ⟨r, 3, none⟩)) (some 28) rfl rfl rfl (by kernel_rfl) (by kernel_rfl) (by kernel_rfl) (fun _ _ _ h => h) (Or.inl ⟨by rfl, fun u hu => by go_simp⟩) trivial ?_
  try simp only [Act.put, List.setIfInBounds_toArray, List.set_cons_zero, List.set_cons_succ]
  clear hr ht HS0 HS1 HF
  refine till_two 10 13 (by kernel_rfl) rfl rfl (fun K hK => ?_) (fun K hK => ?_)
  · obtain ⟨c0, c1, c2, c3, c4⟩ := five_cells (z := []) ht2
    have y0 := frozen_of_row W2 t 0 _ _ ht2
    have y1 := frozen_of_row W2 t 1 _ _ ht2
    have y2 := frozen_of_row W2 t 2 _ _ ht2
    have y3 := frozen_of_row W2 t 3 _ _ ht2
    have y4 := frozen_of_row W2 t 4 _ _ ht2
    go_simp
    have ht3 := set5_at ht2 (.int .i64 x0) (.int .i64 x1) (.string x2) (.slice al ll cl) (.slice ak lk ck)
    have hr3 := (set5_other W2 (.int .i64 x0) (.int .i64 x1) (.string x2) (.slice al ll cl) (.slice ak lk ck) hrt).trans hr2
    have BS3 : Hid (Bes (fun k => k = t ∨ k = r) w1 (((((W2.setCell ⟨t, 0, none⟩ (.int .i64 x0)).setCell ⟨t, 1, none⟩ (.int .i64 x1)).setCell ⟨t, 2, none⟩ (.string x2)).setCell ⟨t, 3, none⟩ (.slice al ll cl)).setCell ⟨t, 4, none⟩ (.slice ak lk ck))) := hide ((((((unhide BS2).set (p := ⟨t, 0, none⟩) (Or.inl (Or.inl rfl)) _).set (p := ⟨t, 1, none⟩) (Or.inl (Or.inl rfl)) _).set (p := ⟨t, 2, none⟩) (Or.inl (Or.inl rfl)) _).set (p := ⟨t, 3, none⟩) (Or.inl (Or.inl rfl)) _).set (p := ⟨t, 4, none⟩) (Or.inl (Or.inl rfl)) _)
    obtain ⟨W3, hW3⟩ : ∃ u, ((((W2.setCell ⟨t, 0, none⟩ (.int .i64 x0)).setCell ⟨t, 1, none⟩ (.int .i64 x1)).setCell ⟨t, 2, none⟩ (.string x2)).setCell ⟨t, 3, none⟩ (.slice al ll cl)).setCell ⟨t, 4, none⟩ (.slice ak lk ck) = u := ⟨_, rfl⟩
    rw [hW3] at ht3 hr3 BS3 ⊢
    clear c0 c1 c2 c3 c4 y0 y1 y2 y3 y4 hW3 ht2 hr2 BS2
    refine hK.out _ _ (Or.inr trivial) ?_
    clear hK K
    try simp only [Act.put, List.setIfInBounds_toArray, List.set_cons_zero, List.set_cons_succ]
    refine till_one 13 (by kernel_rfl) rfl (fun K hK => ?_)
    obtain ⟨c0, c1, c2, c3⟩ := four_cells hr3
    have y0 := frozen_of_row W3 r 3 _ _ hr3
    go_simp
    have hr4 := set4_3 hr3 (.slice (some ⟨t, 0, none⟩) 1 1)
    have ht4 := (heap_setCell_other W3 ⟨r, 3, none⟩ t (.slice (some ⟨t, 0, none⟩) 1 1) (Ne.symm hrt)).trans ht3
    have BS4 : Hid (Bes (fun k => k = t ∨ k = r) w1 (W3.setCell ⟨r, 3, none⟩ (.slice (some ⟨t, 0, none⟩) 1 1))) := hide ((unhide BS3).set (p := ⟨r, 3, none⟩) (Or.inl (Or.inr rfl)) _)
    obtain ⟨W4, hW4⟩ : ∃ u, W3.setCell ⟨r, 3, none⟩ (.slice (some ⟨t, 0, none⟩) 1 1) = u := ⟨_, rfl⟩
    rw [hW4] at ht4 hr4 BS4 ⊢
    clear c0 c1 c2 c3 y0 hW4 ht3 hr3 BS3
    refine hK.out _ _ (Or.inr trivial) ?_
    clear hK K
    try simp only [Act.put, List.setIfInBounds_toArray, List.set_cons_zero, List.set_cons_succ]
    refine till_done (by kernel_rfl) ?_ _
    have HE := hide (And.intro ht4 (And.intro hr4 (((Bes.of_below (unhide B1)).trans (unhide BS4)) : Bes (fun k => k = t ∨ k = r) w _)))
    clear ht4 hr4 BS4
    go_wp2_with fail
    go_end0
    exact ⟨rfl, unhide HE⟩
  · obtain ⟨c0, c1, c2, c3⟩ := four_cells hr2
    have y0 := frozen_of_row W2 r 3 _ _ hr2
    go_simp
    have hr3 := set4_3 hr2 (.slice (some ⟨t, 0, none⟩) 1 1)
    have ht3 := (heap_setCell_other W2 ⟨r, 3, none⟩ t (.slice (some ⟨t, 0, none⟩) 1 1) (Ne.symm hrt)).trans ht2
    have BS3 : Hid (Bes (fun k => k = t ∨ k = r) w1 (W2.setCell ⟨r, 3, none⟩ (.slice (some ⟨t, 0, none⟩) 1 1))) := hide ((unhide BS2).set (p := ⟨r, 3, none⟩) (Or.inl (Or.inr rfl)) _)
    obtain ⟨W3, hW3⟩ : ∃ u, W2.setCell ⟨r, 3, none⟩ (.slice (some ⟨t, 0, none⟩) 1 1) = u := ⟨_, rfl⟩
    rw [hW3] at ht3 hr3 BS3 ⊢
    clear c0 c1 c2 c3 y0 hW3 ht2 hr2 BS2
    refine hK.out _ _ (Or.inr trivial) ?_
    clear hK K
    try simp only [Act.put, List.setIfInBounds_toArray, List.set_cons_zero, List.set_cons_succ]
    refine till_one 10 (by kernel_rfl) rfl (fun K hK => ?_)
    obtain ⟨c0, c1, c2, c3, c4⟩ := five_cells (z := []) ht3
    have y0 := frozen_of_row W3 t 0 _ _ ht3
    have y1 := frozen_of_row W3 t 1 _ _ ht3
    have y2 := frozen_of_row W3 t 2 _ _ ht3
    have y3 := frozen_of_row W3 t 3 _ _ ht3
    have y4 := frozen_of_row W3 t 4 _ _ ht3
    go_simp
    have ht4 := set5_at ht3 (.int .i64 x0) (.int .i64 x1) (.string x2) (.slice al ll cl) (.slice ak lk ck)
    have hr4 := (set5_other W3 (.int .i64 x0) (.int .i64 x1) (.string x2) (.slice al ll cl) (.slice ak lk ck) hrt).trans hr3
    have BS4 : Hid (Bes (fun k => k = t ∨ k = r) w1 (((((W3.setCell ⟨t, 0, none⟩ (.int .i64 x0)).setCell ⟨t, 1, none⟩ (.int .i64 x1)).setCell ⟨t, 2, none⟩ (.string x2)).setCell ⟨t, 3, none⟩ (.slice al ll cl)).setCell ⟨t, 4, none⟩ (.slice ak lk ck))) := hide ((((((unhide BS3).set (p := ⟨t, 0, none⟩) (Or.inl (Or.inl rfl)) _).set (p := ⟨t, 1, none⟩) (Or.inl (Or.inl rfl)) _).set (p := ⟨t, 2, none⟩) (Or.inl (Or.inl rfl)) _).set (p := ⟨t, 3, none⟩) (Or.inl (Or.inl rfl)) _).set (p := ⟨t, 4, none⟩) (Or.inl (Or.inl rfl)) _)
    obtain ⟨W4, hW4⟩ : ∃ u, ((((W3.setCell ⟨t, 0, none⟩ (.int .i64 x0)).setCell ⟨t, 1, none⟩ (.int .i64 x1)).setCell ⟨t, 2, none⟩ (.string x2)).setCell ⟨t, 3, none⟩ (.slice al ll cl)).setCell ⟨t, 4, none⟩ (.slice ak lk ck) = u := ⟨_, rfl⟩
    rw [hW4] at ht4 hr4 BS4 ⊢
    clear c0 c1 c2 c3 c4 y0 y1 y2 y3 y4 hW4 ht3 hr3 BS3
    refine hK.out _ _ (Or.inr trivial) ?_
    clear hK K
    try simp only [Act.put, List.setIfInBounds_toArray, List.set_cons_zero, List.set_cons_succ]
    refine till_done (by kernel_rfl) ?_ _
    have HE := hide (And.intro ht4 (And.intro hr4 (((Bes.of_below (unhide B1)).trans (unhide BS4)) : Bes (fun k => k = t ∨ k = r) w _)))
    clear ht4 hr4 BS4
    go_wp2_with fail
    go_end0
    exact ⟨rfl, unhide HE⟩
end Go.Proofs.YtmnbfcpkaglniaaGreatDoor
