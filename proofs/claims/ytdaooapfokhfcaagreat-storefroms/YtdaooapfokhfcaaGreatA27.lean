/-
  store's shut, Rollback, Commit; conditions: the form's own reach.
-/
import Derived.Test.YtdaooapfokhfcaaGreatA26
namespace Go.Proofs.YtdaooapfokhfcaaGreat
open Go.RowKit Go.Shelf
set_option linter.unusedVariables false
set_option linter.unusedSimpArgs false

/-- what is no cells' block may turn -/
theorem Sto.grown {w w' : World} {V : Nat → Prop} {t : Sx} {row : Option Nat} {B : Nat} (h : Sto w V t) (hg : w.grownBy w' row) (hr : ∀ r, row = some r → B ≤ r ∧ ∃ o : Obj, w.heap[r]? = some o ∧ o.isCells = false) (hV : ∀ j, V j → j < B) : Sto w' V t := by
  have hne : ∀ j, t.own j ∨ V j → some j ≠ row := fun j hj e => by
    obtain ⟨h1, o, h2, h3⟩ := hr j e.symm
    rcases hj with hj | hj
    · obtain ⟨c, T, hc⟩ := h.cells hj
      rw [hc] at h2
      cases h2
      cases h3
    · have := hV j hj
      omega
  refine h.to (fun j hj => hg.block j ?_ (hne j hj)) (fun _ h => h) (fun j hj => ⟨Nat.lt_of_lt_of_le (h.vs j hj).1 hg.size, (h.vs j hj).2⟩)
  rcases hj with hj | hj
  · exact h.lt hj
  · exact (h.vs j hj).1

theorem Adv.grown {w w1 w' : World} {V V' : Nat → Prop} {t t' : Sx} {row : Option Nat} {B : Nat} (h : Adv w w1 V V' t t') (hg : w1.grownBy w' row) (hr : ∀ r, row = some r → B ≤ r) (hB : w.heap.size ≤ B) : Adv w w' V V' t t' :=
  ⟨h.fr.trans (G' := fun j => row = some j) ⟨hg.os, hg.tape, hg.output, hg.size, fun j hj hn => hg.block j hj (fun e => hn e.symm)⟩ (fun j hj e => by have := hr j e; omega), h.own, h.vs, h.s⟩

theorem Adv.others {w w' : World} {V V' : Nat → Prop} {t t' : Sx} (hs : Sto w V t) (h : Adv w w' V V' t t') : KeepsOthers w w' :=
  ⟨h.fr.size, fun k o hk ho => (h.fr.block k (Array.getElem?_eq_some_iff.1 hk).1 (fun e => by
    obtain ⟨c, T, hc⟩ := hs.cells e
    rw [hc] at hk
    cases hk
    cases ho)).trans hk⟩

set_option maxRecDepth 100000 in
theorem shut_none {w : World} {V : Nat → Prop} {t : Sx} (h : Sto w V t) (hms : t.ms = []) (fF : Nat) (bd : Array Value) :
    Calls Tryz.prog 58 #[.pointer (some ⟨t.s, 0, none⟩), .func (.func fF) bd #[]] w fun e w' => e = .returned (.int .i64 63) ∧ Below w.heap.size w w' := by
  obtain ⟨w1, hw1⟩ : ∃ w1, w.alloc (.cells #[.func (.func fF) bd #[]] 71) = w1 := ⟨_, rfl⟩
  have B1 : Below w.heap.size w w1 := by rw [← hw1]; exact (Below.refl _ _).alloc (Nat.le_refl _) _
  have s1 := h.later B1
  have CR := hide (rows_any s1)
  have c2 := s1.c2
  have hm := s1.marks
  rw [hms] at hm
  obtain ⟨ao, cap, hmv⟩ : ∃ ao cap, t.mv = .slice ao 0 cap := by
    rcases hm.2 with ⟨e, _⟩ | ⟨b, cap, cur, e, _⟩
    · exact ⟨_, _, e⟩
    · exact ⟨_, _, e⟩
  rw [hmv] at c2
  clear h s1 hm hms hmv
  obtain ⟨s, g, v0, l0, W, mv, ms⟩ := t
  dsimp only at CR c2 ⊢
  go_enter Tryz.func58, Tryz.ntmps58
  go_wp2_with (first | (go_at_call 41; refine (unhide CR).mono ?_; rintro e u1 ⟨rfl, rfl⟩))
  go_ret
  exact ⟨rfl, B1⟩

set_option maxRecDepth 100000 in
set_option maxHeartbeats 2000000 in
attribute [local go_sem] Oper.semAt_some in
theorem shut_back {w : World} {V : Nat → Prop} {t : Sx} {r : List Mk} {m : Mk} (h : Sto w V t) (hms : t.ms = r ++ [m]) (hml : m.l.length ≤ 1000000) (Rel : Sx → List (ByteArray × (ThU × Option Vl)) → Prop) (hR0 : ∀ mv', Rel { t with mv := mv', ms := r } [])
    (CE : ∀ (u : World) (t' : Sx) (pre : List (ByteArray × (ThU × Option Vl))) (x : ByteArray × (ThU × Option Vl)), Sto u V t' → t'.s = t.s → Rel t' pre → pre.length < m.l.length → x ∈ m.l → UOk u V t.s x.1 x.2 → Calls Tryz.prog 59 #[.string x.1, .agg (thU x.2.1).toArray] u fun e w' => (∃ r, e = .returned r) ∧ ∃ t2, Sto w' V t2 ∧ Adv u w' V V t' t2 ∧ Rel t2 (pre ++ [x])) :
    Calls Tryz.prog 58 #[.pointer (some ⟨t.s, 0, none⟩), .func (.func 59) #[] #[]] w fun e w' => e = .returned (.int .i64 0) ∧ ∃ t', Sto w' V t' ∧ Adv w w' V V t t' ∧ Rel t' m.l := by
  obtain ⟨w1, hw1⟩ : ∃ w1, w.alloc (.cells #[.func (.func 59) #[] #[]] 71) = w1 := ⟨_, rfl⟩
  have N1 : w1.heap[w.heap.size]? = some (.cells #[.func (.func 59) #[] #[]] 71 (0, 0)) := by rw [← hw1]; exact heap_alloc_new w _
  have B1 : Below w.heap.size w w1 := by rw [← hw1]; exact (Below.refl _ _).alloc (Nat.le_refl _) _
  have s1 := h.later B1
  have CR := hide (rows_any s1)
  have CL := last_any s1
  rw [hms, lastP_snoc] at CL
  have CL := hide CL
  have hm : m ∈ t.ms := by rw [hms]; simp
  have hmar := s1.marks
  rw [hms] at hmar
  obtain ⟨b, cap, hmv, hmx, -⟩ := marks_cell hmar
  have hlen : (r ++ [m]).length = r.length + 1 := by simp
  rw [hlen, hmv] at hmar
  have c2 := s1.c2
  have hbox := s1.box
  rw [hmv] at c2 hbox
  obtain ⟨n, hn⟩ : ∃ n, r.length = n := ⟨_, rfl⟩
  rw [hn] at hmv hmx c2 hmar hbox
  have hneb : t.s ≠ b := fun e => ty_ne ⟨_, s1.box⟩ (row_ty s1.marks (by rw [hmv]; rfl)) (by decide) e
  have HSB : Hid (w1.heap[t.s]? = some (.cells #[.pointer (some ⟨t.g, 0, none⟩), .int .i64 t.wg, .slice (some ⟨b, 0, none⟩) (n + 1) cap] 52 (0, 0)) ∧ t.s < w1.heap.size ∧ t.s ≠ b) := hide ⟨hbox, (Array.getElem?_eq_some_iff.1 hbox).1, hneb⟩
  have CDq : Hid (∀ q, Calls Tryz.prog 86 #[.slice (some ⟨b, 0, none⟩) (n + 1) cap, .int .i64 (n : Int), .int .i64 ((n + 1 : Nat) : Int)] (w1.drewN q).drew fun e w' => e = .returned (.slice (some ⟨b, 0, none⟩) n cap) ∧ w'.ownsRow 0 88 1 (.slice (some ⟨b, 0, none⟩) n cap) n (ptrs r) ∧ w1.grownBy w' (some b)) := hide (fun q => by
    have ho : (w1.drewN q).drew.ownsRow 0 88 1 (.slice (some ⟨b, 0, none⟩) (n + 1) cap) (n + 1) (ptrs (r ++ [m])) := ⟨hmar.1, hmar.2⟩
    have := deletePM 0 (ptrs (r ++ [m])) (n + 1) n b cap (w1.drewN q).drew ho (fun u hu => by obtain ⟨x, _, rfl⟩ := List.mem_map.1 hu; rfl) (by omega) ((n + 1 : Nat) : Int) (by omega)
    have e1 : (ptrs (r ++ [m])).take (n * 1) ++ (ptrs (r ++ [m])).drop ((n + 1) * 1) = ptrs r := by
      rw [Nat.mul_one, Nat.mul_one]
      simp [ptrs, ← hn]
    rw [e1, Nat.add_sub_cancel] at this
    exact this.mono (fun e w' hh => ⟨hh.1, hh.2.1, ⟨hh.2.2.os, hh.2.2.tape, hh.2.2.output, hh.2.2.size, hh.2.2.block⟩⟩))
  -- behind the marks' turn
  have HM : Hid (∀ w3 : World, w3.ownsRow 0 88 1 (.slice (some ⟨b, 0, none⟩) n cap) n (ptrs r) → w1.grownBy w3 (some b) → Sto (w3.setCell ⟨t.s, 2, none⟩ (.slice (some ⟨b, 0, none⟩) n cap)) V { t with mv := .slice (some ⟨b, 0, none⟩) n cap, ms := r } ∧ Adv w (w3.setCell ⟨t.s, 2, none⟩ (.slice (some ⟨b, 0, none⟩) n cap)) V V t { t with mv := .slice (some ⟨b, 0, none⟩) n cap, ms := r } ∧ KTU (w3.setCell ⟨t.s, 2, none⟩ (.slice (some ⟨b, 0, none⟩) n cap)) m.g m.v (mapK Prod.fst m.l) ∧ (w3.setCell ⟨t.s, 2, none⟩ (.slice (some ⟨b, 0, none⟩) n cap)).heap[w.heap.size]? = some (.cells #[.func (.func 59) #[] #[]] 71 (0, 0)) ∧ ∀ x ∈ m.l, UOk (w3.setCell ⟨t.s, 2, none⟩ (.slice (some ⟨b, 0, none⟩) n cap)) V t.s x.1 x.2) := hide (fun w3 o3 g3 => by
    have hf : Fr (fun j => t.mv.ownBlock = some j) w1 w3 := ⟨g3.os, g3.tape, g3.output, g3.size, fun j hj hnn => g3.block j hj (fun e => hnn (by rw [hmv]; exact e.symm))⟩
    have hap := s1.apart
    rw [hms, List.pairwise_append] at hap
    obtain ⟨a, b'⟩ := s1.remark (mv' := .slice (some ⟨b, 0, none⟩) n cap) (ms' := r) (by rw [hn]; exact o3) hf (fun j hj => .inl (by rw [hmv]; exact hj)) (fun x hx => .inl (by rw [hms]; exact List.mem_append_left _ hx)) hap.1
    have hT : ∀ j T, tyOf w1 j T → T ≠ 52 → T ≠ 88 → (w3.setCell ⟨t.s, 2, none⟩ (.slice (some ⟨b, 0, none⟩) n cap)).heap[j]? = w1.heap[j]? := fun j T hj h1 h2 => (heap_setCell_other _ _ _ _ (ty_ne hj ⟨_, s1.box⟩ h1)).trans (hf.block j hj.lt (fun e => ty_ne hj (row_ty s1.marks e) h2 rfl))
    have hmo := s1.mks m hm
    refine ⟨a, (Adv.of' B1 t V).trans b', hmo.tab.to (hT _ _ ⟨_, hmo.tab.here⟩ (by decide) (by decide)) (fun j hj => hT _ _ (row_ty hmo.tab.row hj) (by decide) (by decide)), (hT _ _ ⟨_, N1⟩ (by decide) (by decide)).trans N1, fun x hx => (hmo.ok x.1 x.2 hx).to (b'.kept s1.vs).1 (fun _ h => h)⟩)
  have HA : Hid (∀ u : World, KTU u m.g m.v (mapK Prod.fst m.l) → Calls Tryz.prog 87 #[.pointer (some ⟨m.g, 0, none⟩)] u fun e w' => ∃ f G v', e = .returned f ∧ SeqU u.heap.size w' f (mapK Prod.fst m.l) G v' ∧ Below u.heap.size u w') := hide (fun u hu => all_U hu (mapK_rk _ (h.mks m hm).rk) (by rw [mapK_len]; omega))
  have HV : Hid (∀ j, V j → j < w.heap.size ∧ ¬ t.own j) := hide h.vs
  have HE := hide CE
  have HR := hide hR0
  have heo : Hid (¬ t.own w.heap.size) := hide (fun e => by have := h.lt e; omega)
  have HZ := hide B1.size
  have i1 : (((n : Int) + 1) == 0) = false := by simp; omega
  clear h hms hmv hmar s1 hbox hneb N1 B1 hm hlen hn CE hR0
  obtain ⟨s, g, v0, l0, Wg, mv, ms⟩ := t
  dsimp only at CR CL c2 HSB CDq HM HV HE HR heo ⊢
  try dsimp only at hw1
  refine (callsIn_wide (n := 5)).1 ?_
  refine callsIn_of_wp_marks Tryz.func58 rfl trivial ?_ rfl
  simp only [Tryz.ntmps58, List.size_toArray, List.length_cons, List.length_nil, Nat.reduceAdd, Nat.reduceSub, Array.replicate_succ, Array.replicate_zero, List.push_toArray, List.append_toArray, List.nil_append, List.cons_append]
  refine wpIn_wide.2 ?_
  go_upto_region 6 with (first | (go_at_call 41; refine (unhide CR).mono ?_; rintro e u1 ⟨rfl, hu1⟩; obtain rfl := hu1.symm; clear hu1) | (go_at_call 77; refine (unhide CL).mono ?_; rintro e u2 ⟨rfl, q2, rfl⟩))
  have CD := hide (unhide CDq q2)
  have HS0 : Hid ((w1.drewN q2).drew.cell? ⟨s, 2, none⟩ = some (.slice (some ⟨b, 0, none⟩) (n + 1) cap)) := hide c2
  clear c2 CDq CR CL
  refine wp_np ?_
  refine till_begin (S := fun w' => w'.cell? ⟨s, 2, none⟩ = some (.slice (some ⟨b, 0, none⟩) (n + 1) cap)) 19 (by kernel_rfl) ?_
  refine till_take 0 (v := .pointer (some ⟨s, 0, none⟩)) (some 19) rfl rfl rfl (by kernel_rfl) (by kernel_rfl) (by kernel_rfl) (by kernel_rfl) (fun _ _ _ h => h) (Or.inl ⟨by rfl, fun u hu => by obtain b0 := hu; go_simp⟩) (unhide HS0) ?_
  try simp only [Act.put, List.setIfInBounds_toArray, List.set_cons_zero, List.set_cons_succ]
  refine till_take 1 (v := .pointer (some ⟨s, 0, none⟩)) (some 20) rfl rfl rfl (by kernel_rfl) (by kernel_rfl) (by kernel_rfl) (by kernel_rfl) (fun _ _ _ h => h) (Or.inl ⟨by rfl, fun u hu => by obtain b0 := hu; go_simp⟩) (unhide HS0) ?_
  try simp only [Act.put, List.setIfInBounds_toArray, List.set_cons_zero, List.set_cons_succ]
  refine till_take 2 (v := .pointer (some ⟨s, 0, none⟩)) (some 21) rfl rfl rfl (by kernel_rfl) (by kernel_rfl) (by kernel_rfl) (by kernel_rfl) (fun _ _ _ h => h) (Or.inl ⟨by rfl, fun u hu => by obtain b0 := hu; go_simp⟩) (unhide HS0) ?_
  try simp only [Act.put, List.setIfInBounds_toArray, List.set_cons_zero, List.set_cons_succ]
  refine till_take 3 (v := .pointer (some ⟨s, 2, none⟩)) (some 22) rfl rfl rfl (by kernel_rfl) (by kernel_rfl) (by kernel_rfl) (by kernel_rfl) (fun _ _ _ h => h) (Or.inl ⟨by rfl, fun u hu => by obtain b0 := hu; go_simp⟩) (unhide HS0) ?_
  try simp only [Act.put, List.setIfInBounds_toArray, List.set_cons_zero, List.set_cons_succ]
  refine till_take 4 (v := .slice (some ⟨b, 0, none⟩) (n + 1) cap) (some 23) rfl rfl rfl (by kernel_rfl) (by kernel_rfl) (by kernel_rfl) (by kernel_rfl) (fun _ _ _ h => h) (Or.inl ⟨by rfl, fun u hu => by obtain b0 := hu; go_simp⟩) (unhide HS0) ?_
  try simp only [Act.put, List.setIfInBounds_toArray, List.set_cons_zero, List.set_cons_succ]
  refine till_take 5 (v := .pointer (some ⟨s, 0, none⟩)) (some 24) rfl rfl rfl (by kernel_rfl) (by kernel_rfl) (by kernel_rfl) (by kernel_rfl) (fun _ _ _ h => h) (Or.inl ⟨by rfl, fun u hu => by obtain b0 := hu; go_simp⟩) (unhide HS0) ?_
  try simp only [Act.put, List.setIfInBounds_toArray, List.set_cons_zero, List.set_cons_succ]
  refine till_take 6 (v := .pointer (some ⟨s, 0, none⟩)) (some 25) rfl rfl rfl (by kernel_rfl) (by kernel_rfl) (by kernel_rfl) (by kernel_rfl) (fun _ _ _ h => h) (Or.inl ⟨by rfl, fun u hu => by obtain b0 := hu; go_simp⟩) (unhide HS0) ?_
  try simp only [Act.put, List.setIfInBounds_toArray, List.set_cons_zero, List.set_cons_succ]
  refine till_take 7 (v := .pointer (some ⟨s, 2, none⟩)) (some 26) rfl rfl rfl (by kernel_rfl) (by kernel_rfl) (by kernel_rfl) (by kernel_rfl) (fun _ _ _ h => h) (Or.inl ⟨by rfl, fun u hu => by obtain b0 := hu; go_simp⟩) (unhide HS0) ?_
  try simp only [Act.put, List.setIfInBounds_toArray, List.set_cons_zero, List.set_cons_succ]
  refine till_take 8 (v := .slice (some ⟨b, 0, none⟩) (n + 1) cap) (some 27) rfl rfl rfl (by kernel_rfl) (by kernel_rfl) (by kernel_rfl) (by kernel_rfl) (fun _ _ _ h => h) (Or.inl ⟨by rfl, fun u hu => by obtain b0 := hu; go_simp⟩) (unhide HS0) ?_
  try simp only [Act.put, List.setIfInBounds_toArray, List.set_cons_zero, List.set_cons_succ]
  refine till_take 9 (v := .int .i64 ((n + 1 : Nat) : Int)) (some 28) rfl rfl rfl (by kernel_rfl) (by kernel_rfl) (by kernel_rfl) (by kernel_rfl) (fun _ _ _ h => h) (Or.inl ⟨by rfl, fun u hu => by obtain b0 := hu; go_simp⟩) (unhide HS0) ?_
  try simp only [Act.put, List.setIfInBounds_toArray, List.set_cons_zero, List.set_cons_succ]
  refine till_take 10 (v := .int .i64 (n : Int)) (some 29) rfl rfl rfl (by kernel_rfl) (by kernel_rfl) (by kernel_rfl) (by kernel_rfl) (fun _ _ _ h => h) (Or.inl ⟨by rfl, fun u hu => by obtain b0 := hu; go_simp; first | done | (rw [IntKind.wrap_i64]; omega)⟩) (unhide HS0) ?_
  try simp only [Act.put, List.setIfInBounds_toArray, List.set_cons_zero, List.set_cons_succ]
  refine till_take 11 (v := .pointer (some ⟨s, 0, none⟩)) (some 30) rfl rfl rfl (by kernel_rfl) (by kernel_rfl) (by kernel_rfl) (by kernel_rfl) (fun _ _ _ h => h) (Or.inl ⟨by rfl, fun u hu => by obtain b0 := hu; go_simp⟩) (unhide HS0) ?_
  try simp only [Act.put, List.setIfInBounds_toArray, List.set_cons_zero, List.set_cons_succ]
  refine till_take 12 (v := .pointer (some ⟨s, 0, none⟩)) (some 31) rfl rfl rfl (by kernel_rfl) (by kernel_rfl) (by kernel_rfl) (by kernel_rfl) (fun _ _ _ h => h) (Or.inl ⟨by rfl, fun u hu => by obtain b0 := hu; go_simp⟩) (unhide HS0) ?_
  try simp only [Act.put, List.setIfInBounds_toArray, List.set_cons_zero, List.set_cons_succ]
  refine till_take 13 (v := .pointer (some ⟨s, 2, none⟩)) (some 32) rfl rfl rfl (by kernel_rfl) (by kernel_rfl) (by kernel_rfl) (by kernel_rfl) (fun _ _ _ h => h) (Or.inl ⟨by rfl, fun u hu => by obtain b0 := hu; go_simp⟩) (unhide HS0) ?_
  try simp only [Act.put, List.setIfInBounds_toArray, List.set_cons_zero, List.set_cons_succ]
  refine till_take 14 (v := .slice (some ⟨b, 0, none⟩) (n + 1) cap) (some 33) rfl rfl rfl (by kernel_rfl) (by kernel_rfl) (by kernel_rfl) (by kernel_rfl) (fun _ _ _ h => h) (Or.inl ⟨by rfl, fun u hu => by obtain b0 := hu; go_simp⟩) (unhide HS0) ?_
  try simp only [Act.put, List.setIfInBounds_toArray, List.set_cons_zero, List.set_cons_succ]
  refine till_take 15 (v := .int .i64 ((n + 1 : Nat) : Int)) (some 34) rfl rfl rfl (by kernel_rfl) (by kernel_rfl) (by kernel_rfl) (by kernel_rfl) (fun _ _ _ h => h) (Or.inl ⟨by rfl, fun u hu => by obtain b0 := hu; go_simp⟩) (unhide HS0) ?_
  try simp only [Act.put, List.setIfInBounds_toArray, List.set_cons_zero, List.set_cons_succ]
  refine till_one 16 (by kernel_rfl) rfl (fun K hK => ?_)
  go_simp
  refine (unhide CD).mono ?_
  rintro e w3 ⟨rfl, o3, g3⟩
  have e3 : w3.heap[s]? = some (.cells #[.pointer (some ⟨g, 0, none⟩), .int .i64 Wg, .slice (some ⟨b, 0, none⟩) (n + 1) cap] 52 (0, 0)) := (g3.block s (unhide HSB).2.1 (fun e => (unhide HSB).2.2 (Option.some.inj e))).trans (unhide HSB).1
  have HS3 : Hid (w3.cell? ⟨s, 2, none⟩ = some (.slice (some ⟨b, 0, none⟩) (n + 1) cap)) := hide (by rw [cell_of_row w3 s 2 _ _ (0, 0) e3]; rfl)
  have f3 := frozen_of_row w3 s 2 _ _ e3
  have HO := hide (And.intro o3 g3)
  clear CD o3 g3 e3
  go_wp2_with fail
  refine hK.out _ _ (Or.inr (unhide HS3)) ?_
  clear hK K HS0
  try simp only [Act.put, List.setIfInBounds_toArray, List.set_cons_zero, List.set_cons_succ]
  refine till_one 17 (by kernel_rfl) rfl (fun K hK => ?_)
  obtain b0 := unhide HS3
  go_simp
  refine hK.out _ _ (Or.inr (unhide HS3)) ?_
  clear hK K b0
  try simp only [Act.put, List.setIfInBounds_toArray, List.set_cons_zero, List.set_cons_succ]
  refine till_one 18 (by kernel_rfl) rfl (fun K hK => ?_)
  obtain b0 := unhide HS3
  go_simp
  refine hK.out _ _ (Or.inr (unhide HS3)) ?_
  clear hK K b0
  try simp only [Act.put, List.setIfInBounds_toArray, List.set_cons_zero, List.set_cons_succ]
  refine till_one 19 (by kernel_rfl) rfl (fun K hK => ?_)
  have c3 := unhide HS3
  go_simp
  refine hK.out _ _ (Or.inl (by first | rfl | trivial)) ?_
  clear hK K c3 f3
  try simp only [Act.put, List.setIfInBounds_toArray, List.set_cons_zero, List.set_cons_succ]
  refine till_done (by kernel_rfl) ?_ _
  dsimp only [NP]
  obtain ⟨o3, g3⟩ := unhide HO
  obtain ⟨s4, a4, k4, e4, u4⟩ := unhide HM w3 o3 g3
  have CA := hide (unhide HA _ k4)
  obtain ⟨w4, hw4⟩ : ∃ w4, w3.setCell ⟨s, 2, none⟩ (.slice (some ⟨b, 0, none⟩) n cap) = w4 := ⟨_, rfl⟩
  rw [hw4] at s4 a4 k4 e4 u4 CA
  have H4 := hide (And.intro s4 (And.intro a4 (And.intro e4 u4)))
  clear o3 g3 s4 a4 k4 e4 u4 HO HM HA HSB
  rw [hw4]
  clear hw4
  go_wp2_with (first | (go_at_call 87; refine (unhide CA).mono ?_; rintro e w7 ⟨f, G, v', rfl, ⟨rfl, hsG, hsrow, hslow⟩, b7⟩))
  obtain ⟨s4, a4, e4, u4⟩ := unhide H4
  have s7 := s4.later b7
  have a7 : Adv w w7 V V _ _ := a4.trans (Adv.of' b7 _ V)
  have e7 := (b7.block w.heap.size (Array.getElem?_eq_some_iff.1 e4).1).trans e4
  have u7 : ∀ x ∈ m.l, UOk w7 V s x.1 x.2 := fun x hx => (u4 x hx).to (fun j hj => b7.block j (s4.vs j hj).1) (fun _ h => h)
  have hP : ∀ j, (j = w.heap.size ∨ v'.ownBlock = some j) → j < w7.heap.size ∧ ¬ Sx.own ⟨s, g, v0, l0, Wg, .slice (some ⟨b, 0, none⟩) n cap, r⟩ j := fun j hj => by
    rcases hj with rfl | hj
    · exact ⟨(Array.getElem?_eq_some_iff.1 e7).1, fun e => ty_ne (by exact ⟨_, e7⟩) (s7.ty e).choose_spec.1 (by
        have := (s7.ty e).choose_spec.2
        intro e2
        rw [← e2] at this
        revert this
        decide) rfl⟩
    · refine ⟨(row_ty hsrow hj).lt, fun e => ?_⟩
      have h1 := (hsrow.lt j hj).1
      have h2 := s4.lt e
      omega
  have H7 := hide (And.intro s7 (And.intro a7 (And.intro e7 (And.intro u7 hP))))
  let en : { x // x ∈ m.l } → ByteArray × ThU := fun x => (x.1.1, x.1.2.1)
  have hatt : m.l.attach.map en = mapK Prod.fst m.l := by
    show List.map ((fun p : ByteArray × (ThU × Option Vl) => (p.1, p.2.1)) ∘ Subtype.val) m.l.attach = _
    rw [← List.map_map, List.attach_map_subtype_val]
    rfl
  have hsrow' : w7.ownsRow w4.heap.size 118 3 v' m.l.attach.length (cellsU (m.l.attach.map en)) := by
    rw [hatt]
    rw [mapK_len] at hsrow
    rw [List.length_attach]
    exact hsrow
  have HSQ := hide (And.intro hsG hsrow')
  clear s4 a4 e4 u4 s7 a7 e7 u7 hP hsrow hsrow' hsG b7 CA H4 hatt hslow
  refine (wpIn_wide (n := 5)).1 ?_
  refine wpIn_rangeFunc_ownH rfl (by decide) (gf := 116) (lb := #[.pointer (some ⟨G, 0, none⟩)]) rfl trivial (enters_of Tryz.func116 (by kernel_rfl) rfl)
    (iter_stopsU en _ (by decide) m.l.attach G v' w4.heap.size w7 (unhide HSQ).1 (unhide HSQ).2) (fun h1 h2 b hb => (h2 b hb).trans (h1 b hb)) (fun W j o o' hj _ _ _ b hb => World.putObj_heap_other (by have := ((unhide H7).2.2.2.2 b (.inr hb)).1; omega)) (Below.refl _ _) (fun _ => rfl)
    (fun pre W => ∃ t', Sto W V t' ∧ Adv w7 W V V ⟨s, g, v0, l0, Wg, .slice (some ⟨b, 0, none⟩) n cap, r⟩ t' ∧ Rel t' (pre.map Subtype.val)) (fun _ _ _ => False) ?hI (fun _ _ _ _ _ hs _ _ => hs) ?h0
    (fun x a' W => ∃ bu, a' = { tmps := #[.pointer (some ⟨s, 0, none⟩), .func (.func 59) #[] #[], undef, .pointer (some ⟨w.heap.size, 0, none⟩), .int .i64 0, .pointer (some ⟨m.g, 0, none⟩), .string x.1.1, .pointer (some ⟨bu, 0, none⟩), .pointer (some ⟨s, 0, none⟩), .pointer (some ⟨g, 0, none⟩), .bool false, .pointer (some ⟨s, 0, none⟩), .pointer (some ⟨s, 0, none⟩), .pointer (some ⟨s, 2, none⟩), .slice (some ⟨b, 0, none⟩) (n + 1) cap, .int .i64 ((n : Int) + 1), .bool false, .pointer (some ⟨s, 0, none⟩), .pointer (some ⟨m.g, 0, none⟩), .pointer (some ⟨s, 0, none⟩), .pointer (some ⟨s, 0, none⟩), .pointer (some ⟨s, 0, none⟩), .pointer (some ⟨s, 2, none⟩), .slice (some ⟨b, 0, none⟩) (n + 1) cap, .pointer (some ⟨s, 0, none⟩), .pointer (some ⟨s, 0, none⟩), .pointer (some ⟨s, 2, none⟩), .slice (some ⟨b, 0, none⟩) (n + 1) cap, .int .i64 ((n : Int) + 1), .int .i64 (n : Int), .pointer (some ⟨s, 0, none⟩), .pointer (some ⟨s, 0, none⟩), .pointer (some ⟨s, 2, none⟩), .slice (some ⟨b, 0, none⟩) (n + 1) cap, .int .i64 ((n : Int) + 1), .slice (some ⟨b, 0, none⟩) n cap, .pointer (some ⟨s, 0, none⟩), .pointer (some ⟨s, 2, none⟩), .pointer (some ⟨m.g, 0, none⟩), .func (.func 116) #[] #[.pointer (some ⟨G, 0, none⟩)], .string x.1.1, .agg (thU x.1.2.1).toArray, undef, undef, undef, undef], defers := [] } ∧ W.heap[bu]? = some (.cells (thU x.1.2.1).toArray 73 (0, 0))) ?hAx ?assign ?body ?done ?stop
  case hI =>
    rintro pre W W' row ⟨t', h1, h2, h3⟩ hg hr
    exact ⟨t', h1.grown hg hr (fun j hj => ((unhide H7).1.vs j hj).1), h2.grown hg (fun r e => (hr r e).1) (Nat.le_refl _), h3⟩
  case h0 => exact ⟨_, (unhide H7).1, Adv.refl _ _ _, unhide HR _⟩
  case hAx =>
    rintro x a' _ W W' row ⟨bu, h1, h2⟩ hg hr
    refine ⟨bu, h1, (hg.block bu (Array.getElem?_eq_some_iff.1 h2).1 (fun e => ?_)).trans h2⟩
    obtain ⟨_, o, ho, hc⟩ := hr bu e.symm
    rw [h2] at ho
    cases ho
    cases hc
  case assign =>
    rintro j pre ⟨⟨k, ⟨⟨c0, c1, c2, c3⟩, oo⟩⟩, hx⟩ W K ⟨t', h1, h2, h3⟩ hK
    have hb : Below W.heap.size W (W.alloc (.cells #[.func c0 c1 c2, .bool c3] 73)) := (Below.refl _ _).alloc (Nat.le_refl _) _
    have hk : KeepU v' W (W.alloc (.cells #[.func c0 c1 c2, .bool c3] 73)) := fun b hb' => hb.block b (Nat.lt_of_lt_of_le ((unhide H7).2.2.2.2 b (.inr hb')).1 h2.fr.size)
    have HKK : Hid (∀ a', a' = { tmps := #[.pointer (some ⟨s, 0, none⟩), .func (.func 59) #[] #[], undef, .pointer (some ⟨w.heap.size, 0, none⟩), .int .i64 0, .pointer (some ⟨m.g, 0, none⟩), .string k, .pointer (some ⟨W.heap.size, 0, none⟩), .pointer (some ⟨s, 0, none⟩), .pointer (some ⟨g, 0, none⟩), .bool false, .pointer (some ⟨s, 0, none⟩), .pointer (some ⟨s, 0, none⟩), .pointer (some ⟨s, 2, none⟩), .slice (some ⟨b, 0, none⟩) (n + 1) cap, .int .i64 ((n : Int) + 1), .bool false, .pointer (some ⟨s, 0, none⟩), .pointer (some ⟨m.g, 0, none⟩), .pointer (some ⟨s, 0, none⟩), .pointer (some ⟨s, 0, none⟩), .pointer (some ⟨s, 0, none⟩), .pointer (some ⟨s, 2, none⟩), .slice (some ⟨b, 0, none⟩) (n + 1) cap, .pointer (some ⟨s, 0, none⟩), .pointer (some ⟨s, 0, none⟩), .pointer (some ⟨s, 2, none⟩), .slice (some ⟨b, 0, none⟩) (n + 1) cap, .int .i64 ((n : Int) + 1), .int .i64 (n : Int), .pointer (some ⟨s, 0, none⟩), .pointer (some ⟨s, 0, none⟩), .pointer (some ⟨s, 2, none⟩), .slice (some ⟨b, 0, none⟩) (n + 1) cap, .int .i64 ((n : Int) + 1), .slice (some ⟨b, 0, none⟩) n cap, .pointer (some ⟨s, 0, none⟩), .pointer (some ⟨s, 2, none⟩), .pointer (some ⟨m.g, 0, none⟩), .func (.func 116) #[] #[.pointer (some ⟨G, 0, none⟩)], .string k, .agg #[.func c0 c1 c2, .bool c3], undef, undef, undef, undef], defers := [] } → K a' (W.alloc (.cells #[.func c0 c1 c2, .bool c3] 73))) := hide (fun a' ha => hK a' _ ((KeepsOthers.alloc _ _).from _) hk ⟨t', h1.later hb, h2.trans (Adv.of' hb _ V), h3⟩ ⟨W.heap.size, ha, heap_alloc_new W _⟩)
    clear h1 h2 h3 hb hk hK
    dsimp only [en, encPU, thU]
    gi_wp2
    exact unhide HKK _ rfl
  case body =>
    rintro j pre ⟨x, hx⟩ a' W hj ⟨rr, hrr⟩ ⟨t', h1, h2, h3⟩ ⟨bu, rfl, hbu⟩ hlt
    have hs' : t'.s = s := h2.s
    obtain ⟨kP, kA⟩ := h2.kept (unhide H7).2.2.2.2
    have e1 : W.heap[w.heap.size]? = some (.cells #[.func (.func 59) #[] #[]] 71 (0, 0)) := (kP _ (.inl rfl)).trans (unhide H7).2.2.1
    have ce : W.cell? ⟨w.heap.size, 0, none⟩ = some (.func (.func 59) #[] #[]) := by rw [cell_of_row W _ 0 _ _ (0, 0) e1]; rfl
    have CC := hide (unhide HE W t' (pre.map Subtype.val) x h1 hs' h3 (by rw [List.length_map]; rw [List.length_attach] at hlt; exact hlt) hx (((unhide H7).2.2.2.1 x hx).to (fun j hj => (h2.kept (unhide H7).1.vs).1 j hj) (fun _ h => h)))
    have HI := hide (And.intro h1 (And.intro h2 (And.intro kP kA)))
    obtain ⟨k, ⟨⟨c0, c1, c2, c3⟩, oo⟩⟩ := x
    dsimp only [thU] at hbu CC ⊢
    have d0 : W.cell? ⟨bu, 0, none⟩ = some (.func c0 c1 c2) := by rw [cell_of_row W bu 0 _ _ (0, 0) hbu]; rfl
    have d1 : W.cell? ⟨bu, 1, none⟩ = some (.bool c3) := by rw [cell_of_row W bu 1 _ _ (0, 0) hbu]; rfl
    clear h1 h2 h3 kP kA e1 hbu hrr
    gi_wp2_with fail
    refine ⟨trivial, (callsIn_wide.2 (unhide CC)).mono ?_⟩
    rintro e W2 ⟨⟨r2, rfl⟩, t2, s2, a2, q2⟩
    obtain ⟨h1, h2, kP, kA⟩ := unhide HI
    have HF : Hid (KeepsOthers W W2 ∧ KeepU v' W W2 ∧ Sto W2 V t2 ∧ Adv w7 W2 V V ⟨s, g, v0, l0, Wg, .slice (some ⟨b, 0, none⟩) n cap, r⟩ t2 ∧ Rel t2 (pre.map Subtype.val ++ [(k, (c0, c1, c2, c3), oo)])) := hide ⟨a2.others h1, fun b hb => a2.fr.block b (kA b (.inr hb)).1 (kA b (.inr hb)).2, s2, h2.trans a2, q2⟩
    clear h1 h2 kP kA s2 a2 q2 HI CC
    gi_wp2_with fail
    obtain ⟨f1, f2, f3, f4, f5⟩ := unhide HF
    exact ⟨f1.from _, f2, t2, f3, f4, by rw [List.map_append]; exact f5⟩
  case done =>
    rintro D ys W hD rfl ⟨t', h1, h2, h3⟩ hK
    have hg : W.grownBy (W.putObj D (.deferred none)) (some D) := grownBy_putObj' _ _ _
    have hr : ∀ r, some D = some r → w7.heap.size ≤ r ∧ ∃ o : Obj, W.heap[r]? = some o ∧ o.isCells = false := fun r e => by
      cases e
      exact ⟨hD, _, hK, rfl⟩
    have f1 := h1.grown hg hr (fun j hj => ((unhide H7).1.vs j hj).1)
    have f2 := h2.grown hg (fun r e => (hr r e).1) (Nat.le_refl _)
    rw [List.attach_map_subtype_val] at h3
    have HF := hide (And.intro f1 (And.intro f2 h3))
    clear h1 h2 h3 hg hr f1 f2
    go_wp2_with fail
    refine ⟨by simp, .inl ⟨_, _, rfl, run_takeDeferred hK, ?_⟩⟩
    obtain ⟨f1, f2, h3⟩ := unhide HF
    exact ⟨_, results_tmp rfl _ _ _, rfl, t', f1, (unhide H7).2.1.trans f2, h3⟩
  case stop =>
    rintro D c pre W _ _ h _
    exact h.elim

set_option maxRecDepth 100000 in
set_option maxHeartbeats 2000000 in
attribute [local go_sem] Oper.semAt_some in
theorem shut_hand {w : World} {V : Nat → Prop} {t : Sx} {r : List Mk} {m : Mk} (h : Sto w V t) (hms : t.ms = r ++ [m]) (hml : m.l.length ≤ 1000000) (Rel : Sx → List (ByteArray × (ThU × Option Vl)) → Prop) (hR0 : ∀ mv', Rel { t with mv := mv', ms := r } [])
    (CE : ∀ (u : World) (t' : Sx) (pre : List (ByteArray × (ThU × Option Vl))) (x : ByteArray × (ThU × Option Vl)), Sto u V t' → t'.s = t.s → Rel t' pre → pre.length < m.l.length → x ∈ m.l → UOk u V t.s x.1 x.2 → Calls Tryz.prog 60 #[.pointer (some ⟨t.s, 0, none⟩), .string x.1, .agg (thU x.2.1).toArray] u fun e w' => (∃ r, e = .returned r) ∧ ∃ t2, Sto w' V t2 ∧ Adv u w' V V t' t2 ∧ Rel t2 (pre ++ [x])) :
    Calls Tryz.prog 58 #[.pointer (some ⟨t.s, 0, none⟩), .func (.func 60) #[.pointer (some ⟨t.s, 0, none⟩)] #[]] w fun e w' => e = .returned (.int .i64 0) ∧ ∃ t', Sto w' V t' ∧ Adv w w' V V t t' ∧ Rel t' m.l := by
  obtain ⟨w1, hw1⟩ : ∃ w1, w.alloc (.cells #[.func (.func 60) #[.pointer (some ⟨t.s, 0, none⟩)] #[]] 71) = w1 := ⟨_, rfl⟩
  have N1 : w1.heap[w.heap.size]? = some (.cells #[.func (.func 60) #[.pointer (some ⟨t.s, 0, none⟩)] #[]] 71 (0, 0)) := by rw [← hw1]; exact heap_alloc_new w _
  have B1 : Below w.heap.size w w1 := by rw [← hw1]; exact (Below.refl _ _).alloc (Nat.le_refl _) _
  have s1 := h.later B1
  have CR := hide (rows_any s1)
  have CL := last_any s1
  rw [hms, lastP_snoc] at CL
  have CL := hide CL
  have hm : m ∈ t.ms := by rw [hms]; simp
  have hmar := s1.marks
  rw [hms] at hmar
  obtain ⟨b, cap, hmv, hmx, -⟩ := marks_cell hmar
  have hlen : (r ++ [m]).length = r.length + 1 := by simp
  rw [hlen, hmv] at hmar
  have c2 := s1.c2
  have hbox := s1.box
  rw [hmv] at c2 hbox
  obtain ⟨n, hn⟩ : ∃ n, r.length = n := ⟨_, rfl⟩
  rw [hn] at hmv hmx c2 hmar hbox
  have hneb : t.s ≠ b := fun e => ty_ne ⟨_, s1.box⟩ (row_ty s1.marks (by rw [hmv]; rfl)) (by decide) e
  have HSB : Hid (w1.heap[t.s]? = some (.cells #[.pointer (some ⟨t.g, 0, none⟩), .int .i64 t.wg, .slice (some ⟨b, 0, none⟩) (n + 1) cap] 52 (0, 0)) ∧ t.s < w1.heap.size ∧ t.s ≠ b) := hide ⟨hbox, (Array.getElem?_eq_some_iff.1 hbox).1, hneb⟩
  have CDq : Hid (∀ q, Calls Tryz.prog 86 #[.slice (some ⟨b, 0, none⟩) (n + 1) cap, .int .i64 (n : Int), .int .i64 ((n + 1 : Nat) : Int)] (w1.drewN q).drew fun e w' => e = .returned (.slice (some ⟨b, 0, none⟩) n cap) ∧ w'.ownsRow 0 88 1 (.slice (some ⟨b, 0, none⟩) n cap) n (ptrs r) ∧ w1.grownBy w' (some b)) := hide (fun q => by
    have ho : (w1.drewN q).drew.ownsRow 0 88 1 (.slice (some ⟨b, 0, none⟩) (n + 1) cap) (n + 1) (ptrs (r ++ [m])) := ⟨hmar.1, hmar.2⟩
    have := deletePM 0 (ptrs (r ++ [m])) (n + 1) n b cap (w1.drewN q).drew ho (fun u hu => by obtain ⟨x, _, rfl⟩ := List.mem_map.1 hu; rfl) (by omega) ((n + 1 : Nat) : Int) (by omega)
    have e1 : (ptrs (r ++ [m])).take (n * 1) ++ (ptrs (r ++ [m])).drop ((n + 1) * 1) = ptrs r := by
      rw [Nat.mul_one, Nat.mul_one]
      simp [ptrs, ← hn]
    rw [e1, Nat.add_sub_cancel] at this
    exact this.mono (fun e w' hh => ⟨hh.1, hh.2.1, ⟨hh.2.2.os, hh.2.2.tape, hh.2.2.output, hh.2.2.size, hh.2.2.block⟩⟩))
  -- behind the marks' turn
  have HM : Hid (∀ w3 : World, w3.ownsRow 0 88 1 (.slice (some ⟨b, 0, none⟩) n cap) n (ptrs r) → w1.grownBy w3 (some b) → Sto (w3.setCell ⟨t.s, 2, none⟩ (.slice (some ⟨b, 0, none⟩) n cap)) V { t with mv := .slice (some ⟨b, 0, none⟩) n cap, ms := r } ∧ Adv w (w3.setCell ⟨t.s, 2, none⟩ (.slice (some ⟨b, 0, none⟩) n cap)) V V t { t with mv := .slice (some ⟨b, 0, none⟩) n cap, ms := r } ∧ KTU (w3.setCell ⟨t.s, 2, none⟩ (.slice (some ⟨b, 0, none⟩) n cap)) m.g m.v (mapK Prod.fst m.l) ∧ (w3.setCell ⟨t.s, 2, none⟩ (.slice (some ⟨b, 0, none⟩) n cap)).heap[w.heap.size]? = some (.cells #[.func (.func 60) #[.pointer (some ⟨t.s, 0, none⟩)] #[]] 71 (0, 0)) ∧ ∀ x ∈ m.l, UOk (w3.setCell ⟨t.s, 2, none⟩ (.slice (some ⟨b, 0, none⟩) n cap)) V t.s x.1 x.2) := hide (fun w3 o3 g3 => by
    have hf : Fr (fun j => t.mv.ownBlock = some j) w1 w3 := ⟨g3.os, g3.tape, g3.output, g3.size, fun j hj hnn => g3.block j hj (fun e => hnn (by rw [hmv]; exact e.symm))⟩
    have hap := s1.apart
    rw [hms, List.pairwise_append] at hap
    obtain ⟨a, b'⟩ := s1.remark (mv' := .slice (some ⟨b, 0, none⟩) n cap) (ms' := r) (by rw [hn]; exact o3) hf (fun j hj => .inl (by rw [hmv]; exact hj)) (fun x hx => .inl (by rw [hms]; exact List.mem_append_left _ hx)) hap.1
    have hT : ∀ j T, tyOf w1 j T → T ≠ 52 → T ≠ 88 → (w3.setCell ⟨t.s, 2, none⟩ (.slice (some ⟨b, 0, none⟩) n cap)).heap[j]? = w1.heap[j]? := fun j T hj h1 h2 => (heap_setCell_other _ _ _ _ (ty_ne hj ⟨_, s1.box⟩ h1)).trans (hf.block j hj.lt (fun e => ty_ne hj (row_ty s1.marks e) h2 rfl))
    have hmo := s1.mks m hm
    refine ⟨a, (Adv.of' B1 t V).trans b', hmo.tab.to (hT _ _ ⟨_, hmo.tab.here⟩ (by decide) (by decide)) (fun j hj => hT _ _ (row_ty hmo.tab.row hj) (by decide) (by decide)), (hT _ _ ⟨_, N1⟩ (by decide) (by decide)).trans N1, fun x hx => (hmo.ok x.1 x.2 hx).to (b'.kept s1.vs).1 (fun _ h => h)⟩)
  have HA : Hid (∀ u : World, KTU u m.g m.v (mapK Prod.fst m.l) → Calls Tryz.prog 87 #[.pointer (some ⟨m.g, 0, none⟩)] u fun e w' => ∃ f G v', e = .returned f ∧ SeqU u.heap.size w' f (mapK Prod.fst m.l) G v' ∧ Below u.heap.size u w') := hide (fun u hu => all_U hu (mapK_rk _ (h.mks m hm).rk) (by rw [mapK_len]; omega))
  have HV : Hid (∀ j, V j → j < w.heap.size ∧ ¬ t.own j) := hide h.vs
  have HE := hide CE
  have HR := hide hR0
  have heo : Hid (¬ t.own w.heap.size) := hide (fun e => by have := h.lt e; omega)
  have HZ := hide B1.size
  have i1 : (((n : Int) + 1) == 0) = false := by simp; omega
  clear h hms hmv hmar s1 hbox hneb N1 B1 hm hlen hn CE hR0
  obtain ⟨s, g, v0, l0, Wg, mv, ms⟩ := t
  dsimp only at CR CL c2 HSB CDq HM HV HE HR heo ⊢
  try dsimp only at hw1
  refine (callsIn_wide (n := 5)).1 ?_
  refine callsIn_of_wp_marks Tryz.func58 rfl trivial ?_ rfl
  simp only [Tryz.ntmps58, List.size_toArray, List.length_cons, List.length_nil, Nat.reduceAdd, Nat.reduceSub, Array.replicate_succ, Array.replicate_zero, List.push_toArray, List.append_toArray, List.nil_append, List.cons_append]
  refine wpIn_wide.2 ?_
  go_upto_region 6 with (first | (go_at_call 41; refine (unhide CR).mono ?_; rintro e u1 ⟨rfl, hu1⟩; obtain rfl := hu1.symm; clear hu1) | (go_at_call 77; refine (unhide CL).mono ?_; rintro e u2 ⟨rfl, q2, rfl⟩))
  have CD := hide (unhide CDq q2)
  have HS0 : Hid ((w1.drewN q2).drew.cell? ⟨s, 2, none⟩ = some (.slice (some ⟨b, 0, none⟩) (n + 1) cap)) := hide c2
  clear c2 CDq CR CL
  refine wp_np ?_
  refine till_begin (S := fun w' => w'.cell? ⟨s, 2, none⟩ = some (.slice (some ⟨b, 0, none⟩) (n + 1) cap)) 19 (by kernel_rfl) ?_
  refine till_take 0 (v := .pointer (some ⟨s, 0, none⟩)) (some 19) rfl rfl rfl (by kernel_rfl) (by kernel_rfl) (by kernel_rfl) (by kernel_rfl) (fun _ _ _ h => h) (Or.inl ⟨by rfl, fun u hu => by obtain b0 := hu; go_simp⟩) (unhide HS0) ?_
  try simp only [Act.put, List.setIfInBounds_toArray, List.set_cons_zero, List.set_cons_succ]
  refine till_take 1 (v := .pointer (some ⟨s, 0, none⟩)) (some 20) rfl rfl rfl (by kernel_rfl) (by kernel_rfl) (by kernel_rfl) (by kernel_rfl) (fun _ _ _ h => h) (Or.inl ⟨by rfl, fun u hu => by obtain b0 := hu; go_simp⟩) (unhide HS0) ?_
  try simp only [Act.put, List.setIfInBounds_toArray, List.set_cons_zero, List.set_cons_succ]
  refine till_take 2 (v := .pointer (some ⟨s, 0, none⟩)) (some 21) rfl rfl rfl (by kernel_rfl) (by kernel_rfl) (by kernel_rfl) (by kernel_rfl) (fun _ _ _ h => h) (Or.inl ⟨by rfl, fun u hu => by obtain b0 := hu; go_simp⟩) (unhide HS0) ?_
  try simp only [Act.put, List.setIfInBounds_toArray, List.set_cons_zero, List.set_cons_succ]
  refine till_take 3 (v := .pointer (some ⟨s, 2, none⟩)) (some 22) rfl rfl rfl (by kernel_rfl) (by kernel_rfl) (by kernel_rfl) (by kernel_rfl) (fun _ _ _ h => h) (Or.inl ⟨by rfl, fun u hu => by obtain b0 := hu; go_simp⟩) (unhide HS0) ?_
  try simp only [Act.put, List.setIfInBounds_toArray, List.set_cons_zero, List.set_cons_succ]
  refine till_take 4 (v := .slice (some ⟨b, 0, none⟩) (n + 1) cap) (some 23) rfl rfl rfl (by kernel_rfl) (by kernel_rfl) (by kernel_rfl) (by kernel_rfl) (fun _ _ _ h => h) (Or.inl ⟨by rfl, fun u hu => by obtain b0 := hu; go_simp⟩) (unhide HS0) ?_
  try simp only [Act.put, List.setIfInBounds_toArray, List.set_cons_zero, List.set_cons_succ]
  refine till_take 5 (v := .pointer (some ⟨s, 0, none⟩)) (some 24) rfl rfl rfl (by kernel_rfl) (by kernel_rfl) (by kernel_rfl) (by kernel_rfl) (fun _ _ _ h => h) (Or.inl ⟨by rfl, fun u hu => by obtain b0 := hu; go_simp⟩) (unhide HS0) ?_
  try simp only [Act.put, List.setIfInBounds_toArray, List.set_cons_zero, List.set_cons_succ]
  refine till_take 6 (v := .pointer (some ⟨s, 0, none⟩)) (some 25) rfl rfl rfl (by kernel_rfl) (by kernel_rfl) (by kernel_rfl) (by kernel_rfl) (fun _ _ _ h => h) (Or.inl ⟨by rfl, fun u hu => by obtain b0 := hu; go_simp⟩) (unhide HS0) ?_
  try simp only [Act.put, List.setIfInBounds_toArray, List.set_cons_zero, List.set_cons_succ]
  refine till_take 7 (v := .pointer (some ⟨s, 2, none⟩)) (some 26) rfl rfl rfl (by kernel_rfl) (by kernel_rfl) (by kernel_rfl) (by kernel_rfl) (fun _ _ _ h => h) (Or.inl ⟨by rfl, fun u hu => by obtain b0 := hu; go_simp⟩) (unhide HS0) ?_
  try simp only [Act.put, List.setIfInBounds_toArray, List.set_cons_zero, List.set_cons_succ]
  refine till_take 8 (v := .slice (some ⟨b, 0, none⟩) (n + 1) cap) (some 27) rfl rfl rfl (by kernel_rfl) (by kernel_rfl) (by kernel_rfl) (by kernel_rfl) (fun _ _ _ h => h) (Or.inl ⟨by rfl, fun u hu => by obtain b0 := hu; go_simp⟩) (unhide HS0) ?_
  try simp only [Act.put, List.setIfInBounds_toArray, List.set_cons_zero, List.set_cons_succ]
  refine till_take 9 (v := .int .i64 ((n + 1 : Nat) : Int)) (some 28) rfl rfl rfl (by kernel_rfl) (by kernel_rfl) (by kernel_rfl) (by kernel_rfl) (fun _ _ _ h => h) (Or.inl ⟨by rfl, fun u hu => by obtain b0 := hu; go_simp⟩) (unhide HS0) ?_
  try simp only [Act.put, List.setIfInBounds_toArray, List.set_cons_zero, List.set_cons_succ]
  refine till_take 10 (v := .int .i64 (n : Int)) (some 29) rfl rfl rfl (by kernel_rfl) (by kernel_rfl) (by kernel_rfl) (by kernel_rfl) (fun _ _ _ h => h) (Or.inl ⟨by rfl, fun u hu => by obtain b0 := hu; go_simp; first | done | (rw [IntKind.wrap_i64]; omega)⟩) (unhide HS0) ?_
  try simp only [Act.put, List.setIfInBounds_toArray, List.set_cons_zero, List.set_cons_succ]
  refine till_take 11 (v := .pointer (some ⟨s, 0, none⟩)) (some 30) rfl rfl rfl (by kernel_rfl) (by kernel_rfl) (by kernel_rfl) (by kernel_rfl) (fun _ _ _ h => h) (Or.inl ⟨by rfl, fun u hu => by obtain b0 := hu; go_simp⟩) (unhide HS0) ?_
  try simp only [Act.put, List.setIfInBounds_toArray, List.set_cons_zero, List.set_cons_succ]
  refine till_take 12 (v := .pointer (some ⟨s, 0, none⟩)) (some 31) rfl rfl rfl (by kernel_rfl) (by kernel_rfl) (by kernel_rfl) (by kernel_rfl) (fun _ _ _ h => h) (Or.inl ⟨by rfl, fun u hu => by obtain b0 := hu; go_simp⟩) (unhide HS0) ?_
  try simp only [Act.put, List.setIfInBounds_toArray, List.set_cons_zero, List.set_cons_succ]
  refine till_take 13 (v := .pointer (some ⟨s, 2, none⟩)) (some 32) rfl rfl rfl (by kernel_rfl) (by kernel_rfl) (by kernel_rfl) (by kernel_rfl) (fun _ _ _ h => h) (Or.inl ⟨by rfl, fun u hu => by obtain b0 := hu; go_simp⟩) (unhide HS0) ?_
  try simp only [Act.put, List.setIfInBounds_toArray, List.set_cons_zero, List.set_cons_succ]
  refine till_take 14 (v := .slice (some ⟨b, 0, none⟩) (n + 1) cap) (some 33) rfl rfl rfl (by kernel_rfl) (by kernel_rfl) (by kernel_rfl) (by kernel_rfl) (fun _ _ _ h => h) (Or.inl ⟨by rfl, fun u hu => by obtain b0 := hu; go_simp⟩) (unhide HS0) ?_
  try simp only [Act.put, List.setIfInBounds_toArray, List.set_cons_zero, List.set_cons_succ]
  refine till_take 15 (v := .int .i64 ((n + 1 : Nat) : Int)) (some 34) rfl rfl rfl (by kernel_rfl) (by kernel_rfl) (by kernel_rfl) (by kernel_rfl) (fun _ _ _ h => h) (Or.inl ⟨by rfl, fun u hu => by obtain b0 := hu; go_simp⟩) (unhide HS0) ?_
  try simp only [Act.put, List.setIfInBounds_toArray, List.set_cons_zero, List.set_cons_succ]
  refine till_one 16 (by kernel_rfl) rfl (fun K hK => ?_)
  go_simp
  refine (unhide CD).mono ?_
  rintro e w3 ⟨rfl, o3, g3⟩
  have e3 : w3.heap[s]? = some (.cells #[.pointer (some ⟨g, 0, none⟩), .int .i64 Wg, .slice (some ⟨b, 0, none⟩) (n + 1) cap] 52 (0, 0)) := (g3.block s (unhide HSB).2.1 (fun e => (unhide HSB).2.2 (Option.some.inj e))).trans (unhide HSB).1
  have HS3 : Hid (w3.cell? ⟨s, 2, none⟩ = some (.slice (some ⟨b, 0, none⟩) (n + 1) cap)) := hide (by rw [cell_of_row w3 s 2 _ _ (0, 0) e3]; rfl)
  have f3 := frozen_of_row w3 s 2 _ _ e3
  have HO := hide (And.intro o3 g3)
  clear CD o3 g3 e3
  go_wp2_with fail
  refine hK.out _ _ (Or.inr (unhide HS3)) ?_
  clear hK K HS0
  try simp only [Act.put, List.setIfInBounds_toArray, List.set_cons_zero, List.set_cons_succ]
  refine till_one 17 (by kernel_rfl) rfl (fun K hK => ?_)
  obtain b0 := unhide HS3
  go_simp
  refine hK.out _ _ (Or.inr (unhide HS3)) ?_
  clear hK K b0
  try simp only [Act.put, List.setIfInBounds_toArray, List.set_cons_zero, List.set_cons_succ]
  refine till_one 18 (by kernel_rfl) rfl (fun K hK => ?_)
  obtain b0 := unhide HS3
  go_simp
  refine hK.out _ _ (Or.inr (unhide HS3)) ?_
  clear hK K b0
  try simp only [Act.put, List.setIfInBounds_toArray, List.set_cons_zero, List.set_cons_succ]
  refine till_one 19 (by kernel_rfl) rfl (fun K hK => ?_)
  have c3 := unhide HS3
  go_simp
  refine hK.out _ _ (Or.inl (by first | rfl | trivial)) ?_
  clear hK K c3 f3
  try simp only [Act.put, List.setIfInBounds_toArray, List.set_cons_zero, List.set_cons_succ]
  refine till_done (by kernel_rfl) ?_ _
  dsimp only [NP]
  obtain ⟨o3, g3⟩ := unhide HO
  obtain ⟨s4, a4, k4, e4, u4⟩ := unhide HM w3 o3 g3
  have CA := hide (unhide HA _ k4)
  obtain ⟨w4, hw4⟩ : ∃ w4, w3.setCell ⟨s, 2, none⟩ (.slice (some ⟨b, 0, none⟩) n cap) = w4 := ⟨_, rfl⟩
  rw [hw4] at s4 a4 k4 e4 u4 CA
  have H4 := hide (And.intro s4 (And.intro a4 (And.intro e4 u4)))
  clear o3 g3 s4 a4 k4 e4 u4 HO HM HA HSB
  rw [hw4]
  clear hw4
  go_wp2_with (first | (go_at_call 87; refine (unhide CA).mono ?_; rintro e w7 ⟨f, G, v', rfl, ⟨rfl, hsG, hsrow, hslow⟩, b7⟩))
  obtain ⟨s4, a4, e4, u4⟩ := unhide H4
  have s7 := s4.later b7
  have a7 : Adv w w7 V V _ _ := a4.trans (Adv.of' b7 _ V)
  have e7 := (b7.block w.heap.size (Array.getElem?_eq_some_iff.1 e4).1).trans e4
  have u7 : ∀ x ∈ m.l, UOk w7 V s x.1 x.2 := fun x hx => (u4 x hx).to (fun j hj => b7.block j (s4.vs j hj).1) (fun _ h => h)
  have hP : ∀ j, (j = w.heap.size ∨ v'.ownBlock = some j) → j < w7.heap.size ∧ ¬ Sx.own ⟨s, g, v0, l0, Wg, .slice (some ⟨b, 0, none⟩) n cap, r⟩ j := fun j hj => by
    rcases hj with rfl | hj
    · exact ⟨(Array.getElem?_eq_some_iff.1 e7).1, fun e => ty_ne (by exact ⟨_, e7⟩) (s7.ty e).choose_spec.1 (by
        have := (s7.ty e).choose_spec.2
        intro e2
        rw [← e2] at this
        revert this
        decide) rfl⟩
    · refine ⟨(row_ty hsrow hj).lt, fun e => ?_⟩
      have h1 := (hsrow.lt j hj).1
      have h2 := s4.lt e
      omega
  have H7 := hide (And.intro s7 (And.intro a7 (And.intro e7 (And.intro u7 hP))))
  let en : { x // x ∈ m.l } → ByteArray × ThU := fun x => (x.1.1, x.1.2.1)
  have hatt : m.l.attach.map en = mapK Prod.fst m.l := by
    show List.map ((fun p : ByteArray × (ThU × Option Vl) => (p.1, p.2.1)) ∘ Subtype.val) m.l.attach = _
    rw [← List.map_map, List.attach_map_subtype_val]
    rfl
  have hsrow' : w7.ownsRow w4.heap.size 118 3 v' m.l.attach.length (cellsU (m.l.attach.map en)) := by
    rw [hatt]
    rw [mapK_len] at hsrow
    rw [List.length_attach]
    exact hsrow
  have HSQ := hide (And.intro hsG hsrow')
  clear s4 a4 e4 u4 s7 a7 e7 u7 hP hsrow hsrow' hsG b7 CA H4 hatt hslow
  refine (wpIn_wide (n := 5)).1 ?_
  refine wpIn_rangeFunc_ownH rfl (by decide) (gf := 116) (lb := #[.pointer (some ⟨G, 0, none⟩)]) rfl trivial (enters_of Tryz.func116 (by kernel_rfl) rfl)
    (iter_stopsU en _ (by decide) m.l.attach G v' w4.heap.size w7 (unhide HSQ).1 (unhide HSQ).2) (fun h1 h2 b hb => (h2 b hb).trans (h1 b hb)) (fun W j o o' hj _ _ _ b hb => World.putObj_heap_other (by have := ((unhide H7).2.2.2.2 b (.inr hb)).1; omega)) (Below.refl _ _) (fun _ => rfl)
    (fun pre W => ∃ t', Sto W V t' ∧ Adv w7 W V V ⟨s, g, v0, l0, Wg, .slice (some ⟨b, 0, none⟩) n cap, r⟩ t' ∧ Rel t' (pre.map Subtype.val)) (fun _ _ _ => False) ?hI (fun _ _ _ _ _ hs _ _ => hs) ?h0
    (fun x a' W => ∃ bu, a' = { tmps := #[.pointer (some ⟨s, 0, none⟩), .func (.func 60) #[.pointer (some ⟨s, 0, none⟩)] #[], undef, .pointer (some ⟨w.heap.size, 0, none⟩), .int .i64 0, .pointer (some ⟨m.g, 0, none⟩), .string x.1.1, .pointer (some ⟨bu, 0, none⟩), .pointer (some ⟨s, 0, none⟩), .pointer (some ⟨g, 0, none⟩), .bool false, .pointer (some ⟨s, 0, none⟩), .pointer (some ⟨s, 0, none⟩), .pointer (some ⟨s, 2, none⟩), .slice (some ⟨b, 0, none⟩) (n + 1) cap, .int .i64 ((n : Int) + 1), .bool false, .pointer (some ⟨s, 0, none⟩), .pointer (some ⟨m.g, 0, none⟩), .pointer (some ⟨s, 0, none⟩), .pointer (some ⟨s, 0, none⟩), .pointer (some ⟨s, 0, none⟩), .pointer (some ⟨s, 2, none⟩), .slice (some ⟨b, 0, none⟩) (n + 1) cap, .pointer (some ⟨s, 0, none⟩), .pointer (some ⟨s, 0, none⟩), .pointer (some ⟨s, 2, none⟩), .slice (some ⟨b, 0, none⟩) (n + 1) cap, .int .i64 ((n : Int) + 1), .int .i64 (n : Int), .pointer (some ⟨s, 0, none⟩), .pointer (some ⟨s, 0, none⟩), .pointer (some ⟨s, 2, none⟩), .slice (some ⟨b, 0, none⟩) (n + 1) cap, .int .i64 ((n : Int) + 1), .slice (some ⟨b, 0, none⟩) n cap, .pointer (some ⟨s, 0, none⟩), .pointer (some ⟨s, 2, none⟩), .pointer (some ⟨m.g, 0, none⟩), .func (.func 116) #[] #[.pointer (some ⟨G, 0, none⟩)], .string x.1.1, .agg (thU x.1.2.1).toArray, undef, undef, undef, undef], defers := [] } ∧ W.heap[bu]? = some (.cells (thU x.1.2.1).toArray 73 (0, 0))) ?hAx ?assign ?body ?done ?stop
  case hI =>
    rintro pre W W' row ⟨t', h1, h2, h3⟩ hg hr
    exact ⟨t', h1.grown hg hr (fun j hj => ((unhide H7).1.vs j hj).1), h2.grown hg (fun r e => (hr r e).1) (Nat.le_refl _), h3⟩
  case h0 => exact ⟨_, (unhide H7).1, Adv.refl _ _ _, unhide HR _⟩
  case hAx =>
    rintro x a' _ W W' row ⟨bu, h1, h2⟩ hg hr
    refine ⟨bu, h1, (hg.block bu (Array.getElem?_eq_some_iff.1 h2).1 (fun e => ?_)).trans h2⟩
    obtain ⟨_, o, ho, hc⟩ := hr bu e.symm
    rw [h2] at ho
    cases ho
    cases hc
  case assign =>
    rintro j pre ⟨⟨k, ⟨⟨c0, c1, c2, c3⟩, oo⟩⟩, hx⟩ W K ⟨t', h1, h2, h3⟩ hK
    have hb : Below W.heap.size W (W.alloc (.cells #[.func c0 c1 c2, .bool c3] 73)) := (Below.refl _ _).alloc (Nat.le_refl _) _
    have hk : KeepU v' W (W.alloc (.cells #[.func c0 c1 c2, .bool c3] 73)) := fun b hb' => hb.block b (Nat.lt_of_lt_of_le ((unhide H7).2.2.2.2 b (.inr hb')).1 h2.fr.size)
    have HKK : Hid (∀ a', a' = { tmps := #[.pointer (some ⟨s, 0, none⟩), .func (.func 60) #[.pointer (some ⟨s, 0, none⟩)] #[], undef, .pointer (some ⟨w.heap.size, 0, none⟩), .int .i64 0, .pointer (some ⟨m.g, 0, none⟩), .string k, .pointer (some ⟨W.heap.size, 0, none⟩), .pointer (some ⟨s, 0, none⟩), .pointer (some ⟨g, 0, none⟩), .bool false, .pointer (some ⟨s, 0, none⟩), .pointer (some ⟨s, 0, none⟩), .pointer (some ⟨s, 2, none⟩), .slice (some ⟨b, 0, none⟩) (n + 1) cap, .int .i64 ((n : Int) + 1), .bool false, .pointer (some ⟨s, 0, none⟩), .pointer (some ⟨m.g, 0, none⟩), .pointer (some ⟨s, 0, none⟩), .pointer (some ⟨s, 0, none⟩), .pointer (some ⟨s, 0, none⟩), .pointer (some ⟨s, 2, none⟩), .slice (some ⟨b, 0, none⟩) (n + 1) cap, .pointer (some ⟨s, 0, none⟩), .pointer (some ⟨s, 0, none⟩), .pointer (some ⟨s, 2, none⟩), .slice (some ⟨b, 0, none⟩) (n + 1) cap, .int .i64 ((n : Int) + 1), .int .i64 (n : Int), .pointer (some ⟨s, 0, none⟩), .pointer (some ⟨s, 0, none⟩), .pointer (some ⟨s, 2, none⟩), .slice (some ⟨b, 0, none⟩) (n + 1) cap, .int .i64 ((n : Int) + 1), .slice (some ⟨b, 0, none⟩) n cap, .pointer (some ⟨s, 0, none⟩), .pointer (some ⟨s, 2, none⟩), .pointer (some ⟨m.g, 0, none⟩), .func (.func 116) #[] #[.pointer (some ⟨G, 0, none⟩)], .string k, .agg #[.func c0 c1 c2, .bool c3], undef, undef, undef, undef], defers := [] } → K a' (W.alloc (.cells #[.func c0 c1 c2, .bool c3] 73))) := hide (fun a' ha => hK a' _ ((KeepsOthers.alloc _ _).from _) hk ⟨t', h1.later hb, h2.trans (Adv.of' hb _ V), h3⟩ ⟨W.heap.size, ha, heap_alloc_new W _⟩)
    clear h1 h2 h3 hb hk hK
    dsimp only [en, encPU, thU]
    gi_wp2
    exact unhide HKK _ rfl
  case body =>
    rintro j pre ⟨x, hx⟩ a' W hj ⟨rr, hrr⟩ ⟨t', h1, h2, h3⟩ ⟨bu, rfl, hbu⟩ hlt
    have hs' : t'.s = s := h2.s
    obtain ⟨kP, kA⟩ := h2.kept (unhide H7).2.2.2.2
    have e1 : W.heap[w.heap.size]? = some (.cells #[.func (.func 60) #[.pointer (some ⟨s, 0, none⟩)] #[]] 71 (0, 0)) := (kP _ (.inl rfl)).trans (unhide H7).2.2.1
    have ce : W.cell? ⟨w.heap.size, 0, none⟩ = some (.func (.func 60) #[.pointer (some ⟨s, 0, none⟩)] #[]) := by rw [cell_of_row W _ 0 _ _ (0, 0) e1]; rfl
    have CC := hide (unhide HE W t' (pre.map Subtype.val) x h1 hs' h3 (by rw [List.length_map]; rw [List.length_attach] at hlt; exact hlt) hx (((unhide H7).2.2.2.1 x hx).to (fun j hj => (h2.kept (unhide H7).1.vs).1 j hj) (fun _ h => h)))
    have HI := hide (And.intro h1 (And.intro h2 (And.intro kP kA)))
    obtain ⟨k, ⟨⟨c0, c1, c2, c3⟩, oo⟩⟩ := x
    dsimp only [thU] at hbu CC ⊢
    have d0 : W.cell? ⟨bu, 0, none⟩ = some (.func c0 c1 c2) := by rw [cell_of_row W bu 0 _ _ (0, 0) hbu]; rfl
    have d1 : W.cell? ⟨bu, 1, none⟩ = some (.bool c3) := by rw [cell_of_row W bu 1 _ _ (0, 0) hbu]; rfl
    clear h1 h2 h3 kP kA e1 hbu hrr
    gi_wp2_with fail
    refine ⟨trivial, (callsIn_wide.2 (unhide CC)).mono ?_⟩
    rintro e W2 ⟨⟨r2, rfl⟩, t2, s2, a2, q2⟩
    obtain ⟨h1, h2, kP, kA⟩ := unhide HI
    have HF : Hid (KeepsOthers W W2 ∧ KeepU v' W W2 ∧ Sto W2 V t2 ∧ Adv w7 W2 V V ⟨s, g, v0, l0, Wg, .slice (some ⟨b, 0, none⟩) n cap, r⟩ t2 ∧ Rel t2 (pre.map Subtype.val ++ [(k, (c0, c1, c2, c3), oo)])) := hide ⟨a2.others h1, fun b hb => a2.fr.block b (kA b (.inr hb)).1 (kA b (.inr hb)).2, s2, h2.trans a2, q2⟩
    clear h1 h2 kP kA s2 a2 q2 HI CC
    gi_wp2_with fail
    obtain ⟨f1, f2, f3, f4, f5⟩ := unhide HF
    exact ⟨f1.from _, f2, t2, f3, f4, by rw [List.map_append]; exact f5⟩
  case done =>
    rintro D ys W hD rfl ⟨t', h1, h2, h3⟩ hK
    have hg : W.grownBy (W.putObj D (.deferred none)) (some D) := grownBy_putObj' _ _ _
    have hr : ∀ r, some D = some r → w7.heap.size ≤ r ∧ ∃ o : Obj, W.heap[r]? = some o ∧ o.isCells = false := fun r e => by
      cases e
      exact ⟨hD, _, hK, rfl⟩
    have f1 := h1.grown hg hr (fun j hj => ((unhide H7).1.vs j hj).1)
    have f2 := h2.grown hg (fun r e => (hr r e).1) (Nat.le_refl _)
    rw [List.attach_map_subtype_val] at h3
    have HF := hide (And.intro f1 (And.intro f2 h3))
    clear h1 h2 h3 hg hr f1 f2
    go_wp2_with fail
    refine ⟨by simp, .inl ⟨_, _, rfl, run_takeDeferred hK, ?_⟩⟩
    obtain ⟨f1, f2, h3⟩ := unhide HF
    exact ⟨_, results_tmp rfl _ _ _, rfl, t', f1, (unhide H7).2.1.trans f2, h3⟩
  case stop =>
    rintro D c pre W _ _ h _
    exact h.elim

end Go.Proofs.YtdaooapfokhfcaaGreat
