/-
  Layer 15 (step): Step of a machine that goes on: const, then ret; conditions: the package's variables.
  Layer 15 (step): Step of the example's machine, once and twice; conditions: the package's variables.
-/
import Derived.Test.YtmnbfcpkaglniaaGreatDoorS38
set_option linter.unusedVariables false
set_option linter.unusedSimpArgs false
namespace Go.Proofs.YtmnbfcpkaglniaaGreatDoor
open Go.RowKit
set_option linter.unusedVariables false
set_option linter.unusedSimpArgs false
/-- where a machine's parts lie -/
structure Mc where
  lo : Nat
  q : Nat
  g : Nat
  r : Nat
  t : Nat
  f : Nat
  b : Nat
  c : Nat
  rc : Nat
  fc : Nat
  bc : Nat
  cc : Nat
  S : Value
  L : Value
  z : List Value
  zf : List Value
  cv : List Value
/-- a machine that goes on, with its parts -/
structure RnS (w : World) (m : Mc) (n at0 left : Int) (k : Nat) (tv : Array Value) (ok : Bool) : Prop where
  q : w.heap[m.q]? = some (.cells (rnC (.slice (some ⟨m.c, 0, none⟩) 1 m.cc) (.slice (some ⟨m.f, 0, none⟩) 1 m.fc) m.S (.slice (some ⟨m.r, 0, none⟩) 1 m.rc) m.g n) 62 (0, 0))
  r : w.heap[m.r]? = some (.cells (.int .i64 0 :: .int .i64 at0 :: m.L :: .slice (some ⟨m.t, 0, none⟩) k 1 :: m.z).toArray 67 (0, 0))
  t : w.heap[m.t]? = some (.cells tv 29 (0, 0))
  f : w.heap[m.f]? = some (.cells (.int .i64 0 :: .int .i64 0 :: .int .i64 1 :: .slice (some ⟨m.b, 0, none⟩) 3 m.bc :: m.zf).toArray 92 (0, 0))
  bn : m.b ≠ m.q ∧ m.b ≠ m.g ∧ m.b ≠ m.r ∧ m.b ≠ m.t ∧ m.b < w.heap.size
  b8 : Row8 w (some ⟨m.b, 0, none⟩) 3 m.bc [1, 0, 9]
  g : Mt w m.g 2 left false none
  T : Tab2 w
  c : ok = true → w.heap[m.c]? = some (.cells m.cv.toArray 29 (0, 0))
  lo : 1 < m.lo ∧ m.lo ≤ m.q ∧ m.lo ≤ m.g ∧ m.lo ≤ m.r ∧ m.lo ≤ m.t ∧ m.lo ≤ w.heap.size
  cap : 1 ≤ m.rc ∧ 1 ≤ m.fc ∧ m.bc ≤ 9223372036854775807 ∧ 1 ≤ m.cc
theorem ne_of_types {w : World} {a b : Nat} {x y : Array Value} {T U : TypeId} (h : w.heap[a]? = some (.cells x T (0, 0))) (h' : w.heap[b]? = some (.cells y U (0, 0))) (hn : (T == U) = false) : a ≠ b := fun e => by
  subst e
  rw [h] at h'
  simp only [Option.some.injEq, Obj.cells.injEq] at h'
  rw [h'.2.1] at hn
  simp at hn
theorem cell_block {w w' : World} {b j : Nat} (h : w'.heap[b]? = w.heap[b]?) : w'.cell? ⟨b, j, none⟩ = w.cell? ⟨b, j, none⟩ := by
  unfold World.cell?
  simp only [h]
theorem Bes.low {P : Nat → Prop} {w w' : World} {B : Nat} (h : Bes P w w') (hP : ∀ k, P k → B ≤ k) (hB : B ≤ w.heap.size) : Below B w w' :=
  ⟨h.os, h.tape, h.output, h.size, fun k hk => h.block k (by omega) (fun hp => by have := hP k hp; omega)⟩
section
variable {w w' : World} {m : Mc} {n at0 left : Int} {k : Nat} {tv : Array Value} {ok : Bool}
/-- what does not touch the other parts -/
theorem RnS.to (h : RnS w m n at0 left k tv ok) {P : Nat → Prop} (hb : Bes P w w') (hP : ∀ k, P k → m.lo ≤ k) (hf : ¬ P m.f) (hbb : ¬ P m.b) {n' at1 left' : Int} {k' : Nat} {tv' : Array Value} {ok' : Bool}
    (hq : w'.heap[m.q]? = some (.cells (rnC (.slice (some ⟨m.c, 0, none⟩) 1 m.cc) (.slice (some ⟨m.f, 0, none⟩) 1 m.fc) m.S (.slice (some ⟨m.r, 0, none⟩) 1 m.rc) m.g n') 62 (0, 0)))
    (hr : w'.heap[m.r]? = some (.cells (.int .i64 0 :: .int .i64 at1 :: m.L :: .slice (some ⟨m.t, 0, none⟩) k' 1 :: m.z).toArray 67 (0, 0)))
    (ht : w'.heap[m.t]? = some (.cells tv' 29 (0, 0))) (hg : Mt w' m.g 2 left' false none) (hc : ok' = true → ok = true ∧ ¬ P m.c) : RnS w' m n' at1 left' k' tv' ok' where
  q := hq
  r := hr
  t := ht
  f := (hb.block _ (lt_of_row h.f) hf).trans h.f
  bn := ⟨h.bn.1, h.bn.2.1, h.bn.2.2.1, h.bn.2.2.2.1, Nat.lt_of_lt_of_le h.bn.2.2.2.2 hb.size⟩
  b8 := ⟨h.b8.length, h.b8.none, fun ad had j u hu => by
      have h1 := h.b8.cells ad had j u hu
      cases had
      have e := hb.block _ h.bn.2.2.2.2 hbb
      have e2 : w'.cell? ((⟨m.b, 0, none⟩ : Addr).add j) = w.cell? ((⟨m.b, 0, none⟩ : Addr).add j) := by
        rw [add_offR]
        exact cell_block e
      exact e2.trans h1, h.b8.small, h.b8.le⟩
  g := hg
  T := h.T.later (hb.low hP h.lo.2.2.2.2.2) h.lo.1 hb.size
  c := fun e => (hb.block _ (lt_of_row (h.c (hc e).1)) (hc e).2).trans (h.c (hc e).1)
  lo := ⟨h.lo.1, h.lo.2.1, h.lo.2.2.1, h.lo.2.2.2.1, h.lo.2.2.2.2.1, Nat.le_trans h.lo.2.2.2.2.2 hb.size⟩
  cap := h.cap
theorem RnS.below (h : RnS w m n at0 left k tv ok) (hb : Below w.heap.size w w') : RnS w' m n at0 left k tv ok :=
  h.to (P := fun _ => False) (Bes.of_below hb) (fun _ e => e.elim) (fun e => e) (fun e => e) ((hb.block _ (lt_of_row h.q)).trans h.q) ((hb.block _ (lt_of_row h.r)).trans h.r) ((hb.block _ (lt_of_row h.t)).trans h.t) (h.g.below hb) (fun e => ⟨e, fun e => e⟩)
theorem RnS.setG (h : RnS w m n at0 left k tv ok) (x : Int) : RnS (w.setCell ⟨m.g, 1, none⟩ (.int .i64 x)) m n at0 x k tv ok := by
  have hg := h.g
  unfold Mt at hg
  have n1 := ne_of_types h.q hg (by rfl)
  have n2 := ne_of_types h.r hg (by rfl)
  have n3 := ne_of_types h.t hg (by rfl)
  refine h.to (P := fun k => k = m.g) ((Bes.refl (fun k => k = m.g) w).set (p := ⟨m.g, 1, none⟩) (Or.inl rfl) _) (fun k e => by rw [e]; exact h.lo.2.2.1) (ne_of_types h.f hg (by rfl)) h.bn.2.1 ((heap_setCell_other w ⟨m.g, 1, none⟩ _ _ n1).trans h.q) ((heap_setCell_other w ⟨m.g, 1, none⟩ _ _ n2).trans h.r) ((heap_setCell_other w ⟨m.g, 1, none⟩ _ _ n3).trans h.t) (h.g.setLeft x) (fun e => ⟨e, ne_of_types (h.c e) hg (by rfl)⟩)
theorem RnS.setQ (h : RnS w m n at0 left k tv ok) (x : Int) : RnS (w.setCell ⟨m.q, 5, none⟩ (.int .i64 x)) m x at0 left k tv ok := by
  have hg := h.g
  unfold Mt at hg
  have n1 := ne_of_types hg h.q (by rfl)
  have n2 := ne_of_types h.r h.q (by rfl)
  have n3 := ne_of_types h.t h.q (by rfl)
  refine h.to (P := fun k => k = m.q) ((Bes.refl (fun k => k = m.q) w).set (p := ⟨m.q, 5, none⟩) (Or.inl rfl) _) (fun k e => by rw [e]; exact h.lo.2.1) (ne_of_types h.f h.q (by rfl)) h.bn.1 (set_at h.q rfl) ((heap_setCell_other w ⟨m.q, 5, none⟩ _ _ n2).trans h.r) ((heap_setCell_other w ⟨m.q, 5, none⟩ _ _ n3).trans h.t) (h.g.later (heap_setCell_other w ⟨m.q, 5, none⟩ _ _ n1)) (fun e => ⟨e, ne_of_types (h.c e) h.q (by rfl)⟩)
theorem RnS.setA (h : RnS w m n at0 left k tv ok) (x : Int) : RnS (w.setCell ⟨m.r, 1, none⟩ (.int .i64 x)) m n x left k tv ok := by
  have hg := h.g
  unfold Mt at hg
  have n1 := ne_of_types hg h.r (by rfl)
  have n2 := ne_of_types h.q h.r (by rfl)
  have n3 := ne_of_types h.t h.r (by rfl)
  refine h.to (P := fun k => k = m.r) ((Bes.refl (fun k => k = m.r) w).set (p := ⟨m.r, 1, none⟩) (Or.inl rfl) _) (fun k e => by rw [e]; exact h.lo.2.2.2.1) (ne_of_types h.f h.r (by rfl)) h.bn.2.2.1 ((heap_setCell_other w ⟨m.r, 1, none⟩ _ _ n2).trans h.q) (set4_1 h.r _) ((heap_setCell_other w ⟨m.r, 1, none⟩ _ _ n3).trans h.t) (h.g.later (heap_setCell_other w ⟨m.r, 1, none⟩ _ _ n1)) (fun e => ⟨e, ne_of_types (h.c e) h.r (by rfl)⟩)
theorem RnS.setK (h : RnS w m n at0 left k tv ok) (k' : Nat) : RnS (w.setCell ⟨m.r, 3, none⟩ (.slice (some ⟨m.t, 0, none⟩) k' 1)) m n at0 left k' tv ok := by
  have hg := h.g
  unfold Mt at hg
  have n1 := ne_of_types hg h.r (by rfl)
  have n2 := ne_of_types h.q h.r (by rfl)
  have n3 := ne_of_types h.t h.r (by rfl)
  refine h.to (P := fun k => k = m.r) ((Bes.refl (fun k => k = m.r) w).set (p := ⟨m.r, 3, none⟩) (Or.inl rfl) _) (fun k e => by rw [e]; exact h.lo.2.2.2.1) (ne_of_types h.f h.r (by rfl)) h.bn.2.2.1 ((heap_setCell_other w ⟨m.r, 3, none⟩ _ _ n2).trans h.q) (set4_3 h.r _) ((heap_setCell_other w ⟨m.r, 3, none⟩ _ _ n3).trans h.t) (h.g.later (heap_setCell_other w ⟨m.r, 3, none⟩ _ _ n1)) (fun e => ⟨e, ne_of_types (h.c e) h.r (by rfl)⟩)
theorem RnS.setT (h : RnS w m n at0 left k tv ok) {k' : Nat} {tv' : Array Value} (hb : Bes (fun k => k = m.t ∨ k = m.r) w w') (hr : w'.heap[m.r]? = some (.cells (.int .i64 0 :: .int .i64 at0 :: m.L :: .slice (some ⟨m.t, 0, none⟩) k' 1 :: m.z).toArray 67 (0, 0))) (ht : w'.heap[m.t]? = some (.cells tv' 29 (0, 0))) : RnS w' m n at0 left k' tv' false := by
  have hg := h.g
  unfold Mt at hg
  have no : ∀ {a : Nat}, a ≠ m.t → a ≠ m.r → ¬ (a = m.t ∨ a = m.r) := fun h1 h2 h3 => h3.elim h1 h2
  have n1 := no (ne_of_types hg h.t (by rfl)) (ne_of_types hg h.r (by rfl))
  have n2 := no (ne_of_types h.q h.t (by rfl)) (ne_of_types h.q h.r (by rfl))
  exact h.to hb (fun k e => by rcases e with e | e <;> rw [e]; exact h.lo.2.2.2.2.1; exact h.lo.2.2.2.1) (no (ne_of_types h.f h.t (by rfl)) (ne_of_types h.f h.r (by rfl))) (no h.bn.2.2.2.1 h.bn.2.2.1) ((hb.block _ (lt_of_row h.q) n2).trans h.q) hr ht (h.g.later (hb.block _ h.g.lt n1)) (fun e => by cases e)
end
set_option maxRecDepth 100000 in
set_option maxHeartbeats 16000000 in
theorem step_one {w : World} {m : Mc} {x0 x1 : Int} {x2 : ByteArray} {al ak : Option Addr} {ll cl lk ck : Nat} {zc : List Value} (hcv : m.cv = .int .i64 x0 :: .int .i64 x1 :: .string x2 :: .slice al ll cl :: .slice ak lk ck :: zc) (h : RnS w m 0 0 2 0 #[.int .i64 0, .int .i64 0, .string ⟨#[]⟩, .slice none 0 0, .slice none 0 0] true) : Calls Tryz.prog 5 #[.pointer (some ⟨m.q, 0, none⟩)] w fun e w' => e = .returned (.bool true) ∧ RnS w' m 1 2 1 1 #[.int .i64 x0, .int .i64 x1, .string x2, .slice al ll cl, .slice ak lk ck] false ∧ Below m.lo w w' := by
  obtain ⟨l1, lq, lg, lr, lt, lw⟩ := h.lo
  obtain ⟨hrc, hfc, hbc, hcc⟩ := h.cap
  have LO := hide (And.intro lq (And.intro lg (And.intro lr lt)))
  have hop : (1 : Int) = 1 ∧ (0 : Int) = 0 ∨ (1 : Int) = 9 ∧ (0 : Int) = 1 := by decide
  have htk : takeI [1, 0, 9] 0 = (1, 0, 2, 0) := by decide +kernel
  have hco : costA 1 0 = (1, 0) := by kernel_rfl
  have CG := hide (goes_on h.q)
  have CA := hide (ahead_on hrc hfc hbc htk h.q h.r h.f h.b8 h.T)
  have HS := hide h
  have B0 := hide lw
  have HH := hide (And.intro hop (And.intro hrc hcc))
  clear h l1 lq lg lr lt lw hfc hbc htk hop hrc hcc
  go_enter Tryz.func5, Tryz.ntmps5
  go_wp2_with fail
  refine (unhide CG).mono ?_
  rintro e w0 ⟨rfl, e0⟩
  rw [e0]
  clear e0 w0 CG
  go_wp2_with fail
  refine (unhide CA).mono ?_
  rintro e w1 ⟨rfl, b1⟩
  have H1 := hide ((unhide HS).below b1)
  have B1 := hide (b1.mono (unhide B0))
  clear b1 HS CA B0
  go_upto_region 4 with fail
  obtain ⟨Q, hQ⟩ : ∃ Q, w1.heap.size = Q := ⟨_, rfl⟩
  obtain ⟨w2, hw2⟩ : ∃ u, w1.alloc (.cells #[.int .i64 1, .int .i64 0] 36) = u := ⟨_, rfl⟩
  have q2 : w2.heap[Q]? = some (.cells #[.int .i64 1, .int .i64 0] 36 (0, 0)) := by rw [← hw2, ← hQ]; exact heap_alloc_new _ _
  have b2 : Below w1.heap.size w1 w2 := by rw [← hw2]; exact (Below.refl _ _).alloc (Nat.le_refl _) _
  have H2 := hide ((unhide H1).below b2)
  have B2 := hide ((unhide B1).trans (b2.mono (unhide H1).lo.2.2.2.2.2))
  try rw [hw2]
  try rw [hQ]
  have CT := hide (taken_on (k := 0) (op := 1) (tk := 0) (ar := 0) (unhide HH).2.1 (by decide) (unhide H2).T.tab (by decide) (unhide H2).q (unhide H2).r)
  obtain ⟨p0, p1⟩ := two_cells q2
  have Q2 := hide q2
  clear q2 b2 hw2 hQ H1 B1
  go_wp2_with fail
  refine (unhide CT).mono ?_
  rintro e w3 ⟨rfl, b3⟩
  have Q3 := hide ((b3.block Q (lt_of_row (unhide Q2))).trans (unhide Q2))
  have H3 := hide ((unhide H2).below b3)
  have B3 := hide ((unhide B2).trans (b3.mono (unhide H2).lo.2.2.2.2.2))
  clear b3 Q2 H2 B2 CT p0 p1
  go_upto_region 5 with fail
  have HF : Hid (∀ u, Below w3.heap.size w3 u → (u.cell? ⟨Q, 0, none⟩ = some (.int .i64 1) ∧ u.cell? ⟨Q, 1, none⟩ = some (.int .i64 0)) ∧ Tab u) := hide (fun u hu => ⟨two_cells ((hu.block Q (lt_of_row (unhide Q3))).trans (unhide Q3)), ((unhide H3).below hu).T.tab⟩)
  have HS0 : Hid (Below w3.heap.size w3 w3.drew) := hide ((Below.refl _ _).drew)
  refine till_begin (S := fun w' => Below w3.heap.size w3 w') 99 (by kernel_rfl) ?_
  obtain ⟨W0, hW0⟩ : ∃ W0, w3.drew = W0 := ⟨_, rfl⟩
  try rw [hW0]
  rw [hW0] at HS0
  clear hW0
  refine till_takeN 0 (v := .pointer (some ⟨Q, 0, none⟩)) (some 21) rfl rfl rfl (by kernel_rfl) (by kernel_rfl) (by kernel_rfl) (fun _ _ _ h => h) (Or.inl ⟨by rfl, fun u hu => by obtain ⟨⟨p0, p1⟩, ptab⟩ := unhide HF u hu; go_simp⟩) (unhide HS0) ?_
  try simp only [Act.put, List.setIfInBounds_toArray, List.set_cons_zero, List.set_cons_succ]
  refine till_takeN 1 (v := .int .i64 1) (some 22) rfl rfl rfl (by kernel_rfl) (by kernel_rfl) (by kernel_rfl) (fun _ _ _ h => h) (Or.inl ⟨by rfl, fun u hu => by obtain ⟨⟨p0, p1⟩, ptab⟩ := unhide HF u hu; go_simp⟩) (unhide HS0) ?_
  try simp only [Act.put, List.setIfInBounds_toArray, List.set_cons_zero, List.set_cons_succ]
  refine till_takeN 2 (v := .pointer (some ⟨m.q, 0, none⟩)) (some 23) rfl rfl rfl (by kernel_rfl) (by kernel_rfl) (by kernel_rfl) (fun _ _ _ h => h) (Or.inl ⟨by rfl, fun u hu => by obtain ⟨⟨p0, p1⟩, ptab⟩ := unhide HF u hu; go_simp⟩) (unhide HS0) ?_
  try simp only [Act.put, List.setIfInBounds_toArray, List.set_cons_zero, List.set_cons_succ]
  refine till_takeN 3 (v := .pointer (some ⟨Q, 0, none⟩)) (some 24) rfl rfl rfl (by kernel_rfl) (by kernel_rfl) (by kernel_rfl) (fun _ _ _ h => h) (Or.inl ⟨by rfl, fun u hu => by obtain ⟨⟨p0, p1⟩, ptab⟩ := unhide HF u hu; go_simp⟩) (unhide HS0) ?_
  try simp only [Act.put, List.setIfInBounds_toArray, List.set_cons_zero, List.set_cons_succ]
  refine till_takeN 4 (v := .int .i64 1) (some 25) rfl rfl rfl (by kernel_rfl) (by kernel_rfl) (by kernel_rfl) (fun _ _ _ h => h) (Or.inl ⟨by rfl, fun u hu => by obtain ⟨⟨p0, p1⟩, ptab⟩ := unhide HF u hu; go_simp⟩) (unhide HS0) ?_
  try simp only [Act.put, List.setIfInBounds_toArray, List.set_cons_zero, List.set_cons_succ]
  refine till_takeN 5 (v := .slice (some ⟨m.t, 0, none⟩) 0 1) (some 26) rfl rfl rfl (by kernel_rfl) (by kernel_rfl) (by kernel_rfl) (fun _ _ _ h => h) (Or.inl ⟨by rfl, fun u hu => by obtain ⟨⟨p0, p1⟩, ptab⟩ := unhide HF u hu; go_simp⟩) (unhide HS0) ?_
  try simp only [Act.put, List.setIfInBounds_toArray, List.set_cons_zero, List.set_cons_succ]
  have CW := hide (weight_on (w := W0) (q := m.q) (t := m.t) (op := 1) (tk := 0) (k := 0) (c1 := 1) (unhide HF W0 (unhide HS0)).2 (by decide))
  refine till_one 6 (by kernel_rfl) rfl (fun K hK => ?_)
  go_simp
  refine (unhide CW).mono ?_
  rintro e W1 ⟨rfl, bb⟩
  have HS1 : Hid (Below w3.heap.size w3 W1) := hide ((unhide HS0).trans (bb.mono (unhide HS0).size))
  clear CW bb
  go_wp2_with fail
  refine hK.out _ _ (Or.inr (unhide HS1)) ?_
  clear hK K
  try simp only [Act.put, List.setIfInBounds_toArray, List.set_cons_zero, List.set_cons_succ]
  have CCo := cost_any 1 0 W1 (unhide HF W1 (unhide HS1)).2
  rw [hco] at CCo
  have CW := hide CCo
  clear CCo
  refine till_one 7 (by kernel_rfl) rfl (fun K hK => ?_)
  go_simp
  refine (unhide CW).mono ?_
  rintro e W2 ⟨rfl, bb⟩
  have HS2 : Hid (Below w3.heap.size w3 W2) := hide ((unhide HS1).trans (bb.mono (unhide HS1).size))
  clear CW bb
  go_wp2_with fail
  refine hK.out _ _ (Or.inr (unhide HS2)) ?_
  clear hK K
  try simp only [Act.put, List.setIfInBounds_toArray, List.set_cons_zero, List.set_cons_succ]
  refine till_takeN 8 (v := .tuple #[.int .i64 1, .int .i64 0]) (some 20) rfl rfl rfl (by kernel_rfl) (by kernel_rfl) (by kernel_rfl) (fun _ _ _ h => h) (Or.inl ⟨by rfl, fun u hu => by obtain ⟨⟨p0, p1⟩, ptab⟩ := unhide HF u hu; go_simp⟩) (unhide HS2) ?_
  try simp only [Act.put, List.setIfInBounds_toArray, List.set_cons_zero, List.set_cons_succ]
  refine till_takeN 9 (v := .int .i64 1) (some 29) rfl rfl rfl (by kernel_rfl) (by kernel_rfl) (by kernel_rfl) (fun _ _ _ h => h) (Or.inl ⟨by rfl, fun u hu => by obtain ⟨⟨p0, p1⟩, ptab⟩ := unhide HF u hu; go_simp⟩) (unhide HS2) ?_
  try simp only [Act.put, List.setIfInBounds_toArray, List.set_cons_zero, List.set_cons_succ]
  refine till_takeN 10 (v := .int .i64 0) (some 30) rfl rfl rfl (by kernel_rfl) (by kernel_rfl) (by kernel_rfl) (fun _ _ _ h => h) (Or.inl ⟨by rfl, fun u hu => by obtain ⟨⟨p0, p1⟩, ptab⟩ := unhide HF u hu; go_simp⟩) (unhide HS2) ?_
  try simp only [Act.put, List.setIfInBounds_toArray, List.set_cons_zero, List.set_cons_succ]
  refine till_one 11 (by kernel_rfl) rfl (fun K hK => ?_)
  go_simp
  refine hK.out _ _ (Or.inr (unhide HS2)) ?_
  clear hK K
  try simp only [Act.put, List.setIfInBounds_toArray, List.set_cons_zero, List.set_cons_succ]
  refine till_one 12 (by kernel_rfl) rfl (fun K hK => ?_)
  go_simp
  refine hK.out _ _ (Or.inr (unhide HS2)) ?_
  clear hK K
  try simp only [Act.put, List.setIfInBounds_toArray, List.set_cons_zero, List.set_cons_succ]
  refine till_done (by kernel_rfl) ?_ _
  have H5 := hide ((unhide H3).below (unhide HS2))
  have B5 := hide ((unhide B3).trans ((unhide HS2).mono (unhide H3).lo.2.2.2.2.2))
  have Q5 := hide (((unhide HS2).block Q (lt_of_row (unhide Q3))).trans (unhide Q3))
  clear H3 B3 Q3 HS2 HF hco
  obtain ⟨w5, hw5⟩ : ∃ u, u = W2 := ⟨_, rfl⟩
  rw [← hw5] at H5 B5 Q5 ⊢
  clear hw5
  have CC := hide (charge_ok 1 (by decide) (by decide) (by decide) (unhide H5).g)
  obtain ⟨c0, c1, c2, c3, c4, c5⟩ := rn_cells (unhide H5).q
  go_wp2_with fail
  refine (unhide CC).mono ?_
  rintro e w6 ⟨rfl, e6⟩
  have H6 : Hid (RnS w6 m 0 0 1 0 #[.int .i64 0, .int .i64 0, .string ⟨#[]⟩, .slice none 0 0, .slice none 0 0] true) := hide (by rw [e6]; exact (unhide H5).setG _)
  have hgQ := unhide H5
  have q6 : w6.heap[Q]? = some (.cells #[.int .i64 1, .int .i64 0] 36 (0, 0)) := by rw [e6]; exact (heap_setCell_other _ ⟨m.g, 1, none⟩ Q _ (ne_of_types (unhide Q5) hgQ.g (by rfl))).trans (unhide Q5)
  have B6 : Hid (Below m.lo w w6) := hide (by rw [e6]; exact (unhide B5).setCell (p := ⟨m.g, 1, none⟩) (unhide LO).2.1 _)
  clear hgQ e6 H5 B5 Q5 CC c0 c1 c2 c3 c4 c5
  obtain ⟨c0, c1, c2, c3, c4, c5⟩ := rn_cells (unhide H6).q
  have y5 := frozen_of_row w6 m.q 5 _ _ (unhide H6).q
  go_upto_region 10 with fail
  have H7 := hide ((unhide H6).setQ 1)
  have q7 := (heap_setCell_other w6 ⟨m.q, 5, none⟩ Q (.int .i64 1) (ne_of_types q6 (unhide H6).q (by rfl))).trans q6
  have B7 := hide ((unhide B6).setCell (p := ⟨m.q, 5, none⟩) (unhide LO).1 (.int .i64 1))
  obtain ⟨w7, hw7⟩ : ∃ u, w6.setCell ⟨m.q, 5, none⟩ (.int .i64 1) = u := ⟨_, rfl⟩
  rw [hw7] at H7 q7 B7
  try rw [hw7]
  have CTop := hide (top_on (unhide HH).2.1 (unhide H7).q)
  clear hw7 c0 c1 c2 c3 c4 c5 y5 H6 B6 q6
  go_wp2_with fail
  refine (unhide CTop).mono ?_
  rintro e w8 ⟨rfl, b8⟩
  have H8 := hide ((unhide H7).below b8)
  have B8 := hide ((unhide B7).trans (b8.mono (unhide H7).lo.2.2.2.2.2))
  have q8 := (b8.block Q (lt_of_row q7)).trans q7
  clear b8 H7 B7 q7 CTop
  obtain ⟨r0, r1, r2, r3⟩ := four_cells (unhide H8).r
  have y1 := frozen_of_row w8 m.r 1 _ _ (unhide H8).r
  go_upto_region 12 with fail
  have H9 := hide ((unhide H8).setA 2)
  have q9 := (heap_setCell_other w8 ⟨m.r, 1, none⟩ Q (.int .i64 2) (ne_of_types q8 (unhide H8).r (by rfl))).trans q8
  have B9 := hide ((unhide B8).setCell (p := ⟨m.r, 1, none⟩) (unhide LO).2.2.1 (.int .i64 2))
  obtain ⟨w9, hw9⟩ : ∃ u, w8.setCell ⟨m.r, 1, none⟩ (.int .i64 2) = u := ⟨_, rfl⟩
  rw [hw9] at H9 q9 B9
  try rw [hw9]
  clear hw9 r0 r1 r2 r3 y1 H8 B8 q8
  have HF : Hid (∀ u, Below w9.heap.size w9 u → u.cell? ⟨m.r, 0, none⟩ = some (.int .i64 0) ∧ u.cell? ⟨m.r, 1, none⟩ = some (.int .i64 2) ∧ u.cell? ⟨m.r, 2, none⟩ = some m.L ∧ u.cell? ⟨m.r, 3, none⟩ = some (.slice (some ⟨m.t, 0, none⟩) 0 1)) := hide (fun u hu => four_cells ((unhide H9).below hu).r)
  have HS0 : Hid (Below w9.heap.size w9 w9.drew) := hide ((Below.refl _ _).drew)
  refine till_begin (S := fun w' => Below w9.heap.size w9 w') 16 (by kernel_rfl) ?_
  obtain ⟨W0, hW0⟩ : ∃ W0, w9.drew = W0 := ⟨_, rfl⟩
  try rw [hW0]
  rw [hW0] at HS0
  clear hW0
  refine till_take 0 (v := .pointer (some ⟨m.r, 0, none⟩)) (some 54) rfl rfl rfl (by kernel_rfl) (by kernel_rfl) (by kernel_rfl) (by kernel_rfl) (fun _ _ _ h => h) (Or.inl ⟨by rfl, fun u hu => by obtain ⟨r0, r1, r2, r3⟩ := unhide HF u hu; go_simp⟩) (unhide HS0) ?_
  try simp only [Act.put, List.setIfInBounds_toArray, List.set_cons_zero, List.set_cons_succ]
  refine till_take 1 (v := .pointer (some ⟨m.r, 0, none⟩)) (some 55) rfl rfl rfl (by kernel_rfl) (by kernel_rfl) (by kernel_rfl) (by kernel_rfl) (fun _ _ _ h => h) (Or.inl ⟨by rfl, fun u hu => by obtain ⟨r0, r1, r2, r3⟩ := unhide HF u hu; go_simp⟩) (unhide HS0) ?_
  try simp only [Act.put, List.setIfInBounds_toArray, List.set_cons_zero, List.set_cons_succ]
  refine till_take 2 (v := .pointer (some ⟨m.r, 0, none⟩)) (some 56) rfl rfl rfl (by kernel_rfl) (by kernel_rfl) (by kernel_rfl) (by kernel_rfl) (fun _ _ _ h => h) (Or.inl ⟨by rfl, fun u hu => by obtain ⟨r0, r1, r2, r3⟩ := unhide HF u hu; go_simp⟩) (unhide HS0) ?_
  try simp only [Act.put, List.setIfInBounds_toArray, List.set_cons_zero, List.set_cons_succ]
  refine till_take 3 (v := .pointer (some ⟨m.r, 3, none⟩)) (some 57) rfl rfl rfl (by kernel_rfl) (by kernel_rfl) (by kernel_rfl) (by kernel_rfl) (fun _ _ _ h => h) (Or.inl ⟨by rfl, fun u hu => by obtain ⟨r0, r1, r2, r3⟩ := unhide HF u hu; go_simp⟩) (unhide HS0) ?_
  try simp only [Act.put, List.setIfInBounds_toArray, List.set_cons_zero, List.set_cons_succ]
  refine till_take 4 (v := .slice (some ⟨m.t, 0, none⟩) 0 1) (some 58) rfl rfl rfl (by kernel_rfl) (by kernel_rfl) (by kernel_rfl) (by kernel_rfl) (fun _ _ _ h => h) (Or.inl ⟨by rfl, fun u hu => by obtain ⟨r0, r1, r2, r3⟩ := unhide HF u hu; go_simp⟩) (unhide HS0) ?_
  try simp only [Act.put, List.setIfInBounds_toArray, List.set_cons_zero, List.set_cons_succ]
  refine till_take 5 (v := .pointer (some ⟨m.r, 0, none⟩)) (some 59) rfl rfl rfl (by kernel_rfl) (by kernel_rfl) (by kernel_rfl) (by kernel_rfl) (fun _ _ _ h => h) (Or.inl ⟨by rfl, fun u hu => by obtain ⟨r0, r1, r2, r3⟩ := unhide HF u hu; go_simp⟩) (unhide HS0) ?_
  try simp only [Act.put, List.setIfInBounds_toArray, List.set_cons_zero, List.set_cons_succ]
  refine till_take 6 (v := .pointer (some ⟨m.r, 0, none⟩)) (some 60) rfl rfl rfl (by kernel_rfl) (by kernel_rfl) (by kernel_rfl) (by kernel_rfl) (fun _ _ _ h => h) (Or.inl ⟨by rfl, fun u hu => by obtain ⟨r0, r1, r2, r3⟩ := unhide HF u hu; go_simp⟩) (unhide HS0) ?_
  try simp only [Act.put, List.setIfInBounds_toArray, List.set_cons_zero, List.set_cons_succ]
  refine till_take 7 (v := .pointer (some ⟨m.r, 3, none⟩)) (some 61) rfl rfl rfl (by kernel_rfl) (by kernel_rfl) (by kernel_rfl) (by kernel_rfl) (fun _ _ _ h => h) (Or.inl ⟨by rfl, fun u hu => by obtain ⟨r0, r1, r2, r3⟩ := unhide HF u hu; go_simp⟩) (unhide HS0) ?_
  try simp only [Act.put, List.setIfInBounds_toArray, List.set_cons_zero, List.set_cons_succ]
  refine till_take 8 (v := .slice (some ⟨m.t, 0, none⟩) 0 1) (some 62) rfl rfl rfl (by kernel_rfl) (by kernel_rfl) (by kernel_rfl) (by kernel_rfl) (fun _ _ _ h => h) (Or.inl ⟨by rfl, fun u hu => by obtain ⟨r0, r1, r2, r3⟩ := unhide HF u hu; go_simp⟩) (unhide HS0) ?_
  try simp only [Act.put, List.setIfInBounds_toArray, List.set_cons_zero, List.set_cons_succ]
  refine till_take 9 (v := .int .i64 0) (some 63) rfl rfl rfl (by kernel_rfl) (by kernel_rfl) (by kernel_rfl) (by kernel_rfl) (fun _ _ _ h => h) (Or.inl ⟨by rfl, fun u hu => by obtain ⟨r0, r1, r2, r3⟩ := unhide HF u hu; go_simp⟩) (unhide HS0) ?_
  try simp only [Act.put, List.setIfInBounds_toArray, List.set_cons_zero, List.set_cons_succ]
  refine till_take 10 (v := .slice (some ⟨m.t, 0, none⟩) 0 1) (some 64) rfl rfl rfl (by kernel_rfl) (by kernel_rfl) (by kernel_rfl) (by kernel_rfl) (fun _ _ _ h => h) (Or.inl ⟨by rfl, fun u hu => by obtain ⟨r0, r1, r2, r3⟩ := unhide HF u hu; go_simp⟩) (unhide HS0) ?_
  try simp only [Act.put, List.setIfInBounds_toArray, List.set_cons_zero, List.set_cons_succ]
  refine till_take 11 (v := .int .i64 0) (some 65) rfl rfl rfl (by kernel_rfl) (by kernel_rfl) (by kernel_rfl) (by kernel_rfl) (fun _ _ _ h => h) (Or.inl ⟨by rfl, fun u hu => by obtain ⟨r0, r1, r2, r3⟩ := unhide HF u hu; go_simp⟩) (unhide HS0) ?_
  try simp only [Act.put, List.setIfInBounds_toArray, List.set_cons_zero, List.set_cons_succ]
  refine till_take 12 (v := .int .i64 0) (some 66) rfl rfl rfl (by kernel_rfl) (by kernel_rfl) (by kernel_rfl) (by kernel_rfl) (fun _ _ _ h => h) (Or.inl ⟨by rfl, fun u hu => by obtain ⟨r0, r1, r2, r3⟩ := unhide HF u hu; go_simp; rfl⟩) (unhide HS0) ?_
  try simp only [Act.put, List.setIfInBounds_toArray, List.set_cons_zero, List.set_cons_succ]
  refine till_take 13 (v := .slice (some ⟨m.t, 0, none⟩) 0 1) (some 67) rfl rfl rfl (by kernel_rfl) (by kernel_rfl) (by kernel_rfl) (by kernel_rfl) (fun _ _ _ h => h) (Or.inl ⟨by rfl, fun u hu => by obtain ⟨r0, r1, r2, r3⟩ := unhide HF u hu; go_simp⟩) (unhide HS0) ?_
  try simp only [Act.put, List.setIfInBounds_toArray, List.set_cons_zero, List.set_cons_succ]
  refine till_one 14 (by kernel_rfl) rfl (fun K hK => ?_)
  go_simp
  refine hK.out _ _ (Or.inr (unhide HS0)) ?_
  clear hK K
  try simp only [Act.put, List.setIfInBounds_toArray, List.set_cons_zero, List.set_cons_succ]
  refine till_one 15 (by kernel_rfl) rfl (fun K hK => ?_)
  go_simp
  refine hK.out _ _ (Or.inr (unhide HS0)) ?_
  clear hK K
  try simp only [Act.put, List.setIfInBounds_toArray, List.set_cons_zero, List.set_cons_succ]
  have H10 := hide ((unhide H9).below (unhide HS0))
  obtain ⟨r0, r1, r2, r3⟩ := four_cells (unhide H10).r
  have y3 := frozen_of_row W0 m.r 3 _ _ (unhide H10).r
  have q10 := ((unhide HS0).block Q (lt_of_row q9)).trans q9
  have B10 := hide ((unhide B9).trans ((unhide HS0).mono (unhide H9).lo.2.2.2.2.2))
  refine till_one 16 (by kernel_rfl) rfl (fun K hK => ?_)
  go_simp
  have H11 := hide ((unhide H10).setK 0)
  have q11 := (heap_setCell_other W0 ⟨m.r, 3, none⟩ Q (.slice (some ⟨m.t, 0, none⟩) 0 1) (ne_of_types q10 (unhide H10).r (by rfl))).trans q10
  have B11 := hide ((unhide B10).setCell (p := ⟨m.r, 3, none⟩) (unhide LO).2.2.1 (.slice (some ⟨m.t, 0, none⟩) 0 1))
  obtain ⟨w11, hw11⟩ : ∃ u, W0.setCell ⟨m.r, 3, none⟩ (.slice (some ⟨m.t, 0, none⟩) 0 1) = u := ⟨_, rfl⟩
  rw [hw11] at H11 q11 B11 ⊢
  clear hw11 r0 r1 r2 r3 y3
  refine hK.out _ _ (Or.inl (by first | rfl | trivial)) ?_
  clear hK K HF H9 q9 B9 H10 q10 B10 HS0
  try simp only [Act.put, List.setIfInBounds_toArray, List.set_cons_zero, List.set_cons_succ]
  refine till_done (by kernel_rfl) ?_ _
  have hc11 := (unhide H11).c rfl
  rw [hcv] at hc11
  have CE := hide (effect_const (t := m.t) (k := 0) (c1 := 1) (unhide HH).2.2 (unhide H11).q hc11)
  clear hc11
  obtain ⟨p0, p1⟩ := two_cells q11
  go_wp2_with fail
  refine (unhide CE).mono ?_
  rintro e w12 ⟨rfl, b12⟩
  have H12 := hide ((unhide H11).below b12)
  have B12 := hide ((unhide B11).trans (b12.mono (unhide H11).lo.2.2.2.2.2))
  clear b12 H11 B11 CE p0 p1 q11
  have CF := hide (follow_gives (x0 := x0) (x1 := x1) (x2 := x2) (al := al) (ak := ak) (ll := ll) (cl := cl) (lk := lk) (ck := ck) (unhide HH).2.1 (unhide H12).q (unhide H12).r (unhide H12).t)
  go_wp2_with fail
  refine (unhide CF).mono ?_
  rintro e w13 ⟨rfl, f1, f2, f3⟩
  have HE := hide (And.intro ((unhide H12).setT f3 f2 f1) ((unhide B12).trans (f3.low (fun k e => by rcases e with e | e <;> rw [e]; exact (unhide LO).2.2.2; exact (unhide LO).2.2.1) (unhide H12).lo.2.2.2.2.2)))
  clear CF H12 B12
  go_wp2_with fail
  go_ret
  exact ⟨rfl, unhide HE⟩
end Go.Proofs.YtmnbfcpkaglniaaGreatDoor
