/-
  The walk of code.Put: an instruction behind bytes, in new memory; conditions: the package's variables, the bytes at most 2^47.
-/
import Derived.Test.YtbilcninhhkkpaaDoorCIns
import Derived.Test.YtbilcninhhkkpaaDoorWTill
namespace Go.Proofs.YtbilcninhhkkpaaDoor
open Go.RowKit

/-- 'make([]T, 0, n)', as one step of a region that draws -/
theorem step_make_own {P : Program} {ops : Array Oper} {o : Oper} {a : Act} {w : World} {K : Act → World → Prop} {Q : Exit → Act → World → Prop} {E : Prop}
    (hg : o.guard = none) (l c : Operand) (t : TypeId) (hop : o.op = Op.makeSlice t l c)
    (base : Nat) (e : TypeId) (i : TypeInfo) (z : Value) (size : Nat) (h1 : P.underlying t = some (.slice e)) (h2 : P.info? e = some i) (h3 : i.zero = some z) (h4 : i.size = size)
    (kl kc : IntKind) (C : Int) (n : Nat) (hl : a.eval l = .int kl 0) (hc : a.eval c = .int kc C) (hC : C = (n : Int)) (b2 : i.bytes * n ≤ 281474976710656) (b3 : n ≤ maxLen) (b4 : base ≤ w.heap.size)
    (hK : ∀ w', w'.ownsRow base e size (.slice (some ⟨w.heap.size, 0, none⟩) 0 n) 0 [] → w.grownBy w' none → K (a.put o.dst (.slice (some ⟨w.heap.size, 0, none⟩) 0 n)) w') :
    if Region.wanted o (yielded ops a.tmps) = true then Oper.wp P o a w K Q else E := by
  have hw : Region.wanted o (yielded ops a.tmps) = true := by simp [Region.wanted, hg]
  rw [if_pos hw]
  obtain ⟨w', hrun, r1, r2⟩ := run_make_own (P := P) w base t e i z size h1 h2 h3 h4 kl kc n b2 b3 b4
  subst hC
  unfold Oper.wp
  simp [execOp, hop, hl, hc, hrun, Result.andThen]
  exact hK w' r1 r2

theorem own_low {w : World} {base lo : Nat} {e : TypeId} {size : Nat} {v : Value} {n : Nat} {xs : List Value} (h : w.ownsRow base e size v n xs) (hb : lo ≤ base) : w.ownsRow lo e size v n xs := by
  refine ⟨h.1, ?_⟩
  rcases h.2 with hn | ⟨g, cap, cur, e, hbs, rest⟩
  · exact .inl hn
  · exact .inr ⟨g, cap, cur, e, Nat.le_trans hb hbs, rest⟩

/-- a row of the call's own as a slice -/
theorem own_slice {w : World} {base n : Nat} {v : Value} {xs : List Value} (h : w.ownsRow base 5 1 v n xs) : ∃ ao cap, v = .slice ao n cap := by
  rcases h.2 with ⟨rfl, rfl⟩ | ⟨g, cap, cur, rfl, _⟩
  · exact ⟨none, 0, rfl⟩
  · exact ⟨_, cap, rfl⟩

/-- and as a row of bytes -/
theorem own_row {w : World} {base n : Nat} {ao : Option Addr} {len cap : Nat} {zs : List Int} (h : w.ownsRow base 5 1 (.slice ao len cap) n (zs.map (Value.int .u8))) (hs : ∀ c ∈ zs, 0 ≤ c ∧ c ≤ 255) : Row8 w ao len cap zs ∧ len = n ∧ (∀ a, ao = some a → base ≤ a.block) := by
  have h1 := h.1
  rcases h.2 with ⟨e, e2⟩ | ⟨g, c, cur, e, hb, _⟩
  · cases e
    subst e2
    rw [Nat.zero_mul, List.length_map] at h1
    have : zs = [] := List.eq_nil_of_length_eq_zero h1
    subst this
    exact ⟨nilRow _, rfl, fun a h => by cases h⟩
  · cases e
    exact ⟨Row8.own h hs, rfl, fun a h => by cases h; exact hb⟩

theorem ins_cells {w : World} {g : Nat} {op a : Int} (h : w.heap[g]? = some (.cells #[.int .i64 op, .int .i64 a] 42 (0, 0))) : w.cell? ⟨g, 0, none⟩ = some (.int .i64 op) ∧ w.cell? ⟨g, 1, none⟩ = some (.int .i64 a) :=
  ⟨by rw [cell_of_row w _ 0 _ _ (0, 0) h]; rfl, by rw [cell_of_row w _ 1 _ _ (0, 0) h]; rfl⟩

set_option maxRecDepth 100000 in
set_option maxHeartbeats 1000000 in
theorem put_any (ab : Option Addr) (lb cb : Nat) (zs : List Int) (op a : Int) (w : World) (h : Tab2 w) (hz : Row8 w ab lb cb zs) (hb : lb + 3 ≤ 140737489403904) :
    Calls Tryd.prog 16 #[.slice ab lb cb, .agg #[.int .i64 op, .int .i64 a]] w fun e w' => ∃ (ao : Option Addr) (len cap : Nat), e = .returned (.tuple #[.slice ao len cap, .int .i64 (faultI op a)]) ∧ Below w.heap.size w w' ∧ w'.ownsRow w.heap.size 5 1 (.slice ao len cap) len ((if faultI op a = 0 then zs ++ insB op a else []).map (Value.int .u8)) := by
  obtain ⟨i0, hi, hz0, hz1, hz2⟩ := info_parts info5
  obtain ⟨w1, hw1⟩ : ∃ w1, w.alloc (.cells #[.int .i64 op, .int .i64 a] 42) = w1 := ⟨_, rfl⟩
  have B1 : Below w.heap.size w w1 := by rw [← hw1]; exact (Below.refl _ _).alloc (Nat.le_refl _) _
  have A1 : w1.heap[w.heap.size]? = some (.cells #[.int .i64 op, .int .i64 a] 42 (0, 0)) := by rw [← hw1]; exact heap_alloc_new _ _
  have Z1 : w1.heap.size = w.heap.size + 1 := by rw [← hw1]; simp
  have hbig := h.big
  have T1 : Tab2 w1 := h.below B1
  have CF := hide (fault_any op a w1 T1)
  obtain ⟨g, hg⟩ : ∃ g, w.heap.size = g := ⟨_, rfl⟩
  have z1g : w1.heap.size = g + 1 := by omega
  have HRW : Hid (∀ u, Below w1.heap.size w1 u → u.heap[g]? = some (.cells #[.int .i64 op, .int .i64 a] 42 (0, 0)) ∧ Row8 u ab lb cb zs ∧ Tab2 u ∧ Below g w u) := hide (fun u hu => ⟨by rw [← hg]; exact (hu.block _ (by omega)).trans A1, (hz.later B1).later hu, T1.below hu, by rw [← hg]; exact B1.trans (hu.mono (by omega))⟩)
  have r1 := (unhide HRW w1 (Below.refl _ _)).1
  have c0 : w1.cell? ⟨g, 0, none⟩ = some (.int .i64 op) := by rw [cell_of_row w1 _ 0 _ _ (0, 0) r1]; rfl
  have c1 : w1.cell? ⟨g, 1, none⟩ = some (.int .i64 a) := by rw [cell_of_row w1 _ 1 _ _ (0, 0) r1]; rfl
  have hlen := hz.length
  obtain ⟨F, hF⟩ : ∃ F, faultI op a = F := ⟨_, rfl⟩
  rw [hF] at CF
  rw [hF]
  clear h hz B1 A1 Z1 T1 r1
  by_cases hf0 : F = 0
  · subst hf0
    have CL : Hid (∀ (u : World) (sv : Value), Tab2 u → u.ownsRow g 5 1 sv (0 + lb) (([] ++ zs).map (Value.int .u8)) → g ≤ u.heap.size → _) := hide (fun u sv h1 h2 h3 => lay_any g (0 + lb) sv ([] ++ zs) op a u h1 hF h2 h3 (by omega) (by omega))
    rw [if_pos rfl]
    have HF := hide hF
    clear hF
    go_enter Tryd.func16, Tryd.ntmps16
    go_wp2_with fail
    refine (unhide CF).mono ?_
    rintro e w2 ⟨rfl, B2⟩
    have H2 := hide B2
    have z2 := B2.size
    clear B2 CF c0 c1
    go_upto_region 4 with fail
    refine till_begin (S := fun w' => w'.cell? ⟨g, 0, none⟩ = some (.int .i64 op) ∧ w'.cell? ⟨g, 1, none⟩ = some (.int .i64 a)) 9 (by kernel_rfl) ?_
    obtain ⟨wd, hwd⟩ : ∃ wd, w2.drew = wd := ⟨_, rfl⟩
    have HD : Hid (Below w1.heap.size w1 wd) := hide (by rw [← hwd]; exact (unhide H2).drew)
    have zd : w1.heap.size ≤ wd.heap.size := (unhide HD).size
    have HS1 := ins_cells (unhide HRW wd (unhide HD)).1
    rw [hwd]
    clear hwd
    obtain ⟨M, hM⟩ : ∃ M : Nat, lb + 3 = M := ⟨_, rfl⟩
    have n3 : (lb : Int) + 3 = (M : Int) := by omega
    have n4 : IntKind.i64.wrap (M : Int) = (M : Int) := by rw [IntKind.wrap_i64]; omega
    have HM := hide hM
    clear hM
    refine till_take 0 (v := .slice ab lb cb) (some 12) rfl rfl rfl (by kernel_rfl) (by kernel_rfl) (by kernel_rfl) (by kernel_rfl) (fun _ _ _ h => h) (Or.inl ⟨by rfl, fun u hu => by go_simp⟩) HS1 ?_
    try simp only [Act.put, List.setIfInBounds_toArray, List.set_cons_zero, List.set_cons_succ]
    refine till_take 1 (v := .int .i64 (lb : Int)) (some 13) rfl rfl rfl (by kernel_rfl) (by kernel_rfl) (by kernel_rfl) (by kernel_rfl) (fun _ _ _ h => h) (Or.inl ⟨by rfl, fun u hu => by go_simp⟩) HS1 ?_
    try simp only [Act.put, List.setIfInBounds_toArray, List.set_cons_zero, List.set_cons_succ]
    refine till_take 2 (v := .int .i64 (M : Int)) (some 14) rfl rfl rfl (by kernel_rfl) (by kernel_rfl) (by kernel_rfl) (by kernel_rfl) (fun _ _ _ h => h) (Or.inl ⟨by rfl, fun u hu => by go_simp⟩) HS1 ?_
    try simp only [Act.put, List.setIfInBounds_toArray, List.set_cons_zero, List.set_cons_succ]
    refine till_take 4 (v := .slice ab lb cb) (some 16) rfl rfl rfl (by kernel_rfl) (by kernel_rfl) (by kernel_rfl) (by kernel_rfl) (fun _ _ _ h => h) (Or.inl ⟨by rfl, fun u hu => by go_simp⟩) HS1 ?_
    try simp only [Act.put, List.setIfInBounds_toArray, List.set_cons_zero, List.set_cons_succ]
    refine till_take 6 (v := .agg #[.int .i64 op, .int .i64 a]) (some 18) rfl rfl rfl (by kernel_rfl) (by kernel_rfl) (by kernel_rfl) (by kernel_rfl) (fun _ _ _ h => h) (Or.inl ⟨by rfl, fun u hu => by obtain ⟨hu0, hu1⟩ := hu; go_simp⟩) HS1 ?_
    try simp only [Act.put, List.setIfInBounds_toArray, List.set_cons_zero, List.set_cons_succ]
    refine till_one 3 (by kernel_rfl) rfl (fun K hK => ?_)
    refine step_make_own (by rfl) _ _ 34 (by rfl) g 5 i0 (.int .u8 0) 1 Tryd.underlying34 hi hz0 hz1 .i64 .i64 _ M (by rfl) (by rfl) rfl (by have := unhide HM; rw [hz2]; omega) (by have := unhide HM; unfold maxLen; omega) (by omega) ?_
    intro w3 hown3 hgr3
    change K (Act.put _ (some 15) _) w3
    have B3 : Below wd.heap.size wd w3 := ⟨hgr3.os, hgr3.tape, hgr3.output, hgr3.size, fun q hq => hgr3.block q hq (by simp)⟩
    have X3 := hide ((unhide HD).trans (B3.mono (unhide HD).size))
    have HS3 := ins_cells (unhide HRW w3 (unhide X3)).1
    have z3 := B3.size
    have O3 := hide hown3
    clear hown3 hgr3 B3
    refine hK.out _ _ (Or.inr HS3) ?_
    clear hK K
    try simp only [Act.put, List.setIfInBounds_toArray, List.set_cons_zero, List.set_cons_succ]
    refine till_one 5 (by kernel_rfl) rfl (fun K hK => ?_)
    refine step_app (by rfl) _ _ (by rfl) g 0 _ [] (by rfl) (unhide O3) ab lb cb zs (by rfl) (unhide HRW w3 (unhide X3)).2.1 (by omega) (by omega) ?_
    intro v4 w4 H4
    change K (Act.put _ (some 17) _) w4
    have z4 := (unhide H4).2.grown.size
    have hf4 : ∀ q, q < wd.heap.size → w4.heap[q]? = w3.heap[q]? := fun q hq => (unhide H4).2.far (by omega) (by simp [Value.ownBlock]; omega)
    have hr4 : w4.heap[g]? = some (.cells #[.int .i64 op, .int .i64 a] 42 (0, 0)) := (hf4 g (by omega)).trans (unhide HRW w3 (unhide X3)).1
    have HS4 := ins_cells hr4
    have B4 : Below w1.heap.size w1 w4 := (unhide X3).trans ⟨(unhide H4).2.grown.os, (unhide H4).2.grown.tape, (unhide H4).2.grown.output, z4, fun q hq => hf4 q (by omega)⟩
    have X4 := hide B4
    clear hr4 B4
    refine hK.out _ _ (Or.inr HS4) ?_
    clear hK K
    try simp only [Act.put, List.setIfInBounds_toArray, List.set_cons_zero, List.set_cons_succ]
    refine till_one 7 (by kernel_rfl) rfl (fun K hK => ?_)
    go_simp
    refine (unhide CL w4 v4 (unhide HRW w4 (unhide X4)).2.2.1 (unhide H4).1 (by omega)).mono ?_
    rintro e w5 ⟨sv5, rfl, own5, gr5⟩
    have hv4 : ∀ q, v4.ownBlock = some q → wd.heap.size ≤ q := fun q e => by
      rcases (unhide H4).2.row _ e with h | h
      · simp [Value.ownBlock] at h; omega
      · omega
    have hf5 : ∀ q, q < wd.heap.size → w5.heap[q]? = w4.heap[q]? := fun q hq => gr5.far (by omega) (fun e => by have := hv4 q e.symm; omega)
    have hr5 : w5.heap[g]? = some (.cells #[.int .i64 op, .int .i64 a] 42 (0, 0)) := (hf5 g (by omega)).trans (unhide HRW w4 (unhide X4)).1
    have HS5 := ins_cells hr5
    have B5 : Below w1.heap.size w1 w5 := (unhide X4).trans ⟨gr5.grown.os, gr5.grown.tape, gr5.grown.output, gr5.grown.size, fun q hq => hf5 q (by omega)⟩
    have X5 := hide (And.intro B5 own5)
    clear hr5 B5 own5 gr5 hf5 hf4
    go_wp2_with fail
    refine hK.out _ _ (Or.inr HS5) ?_
    clear hK K
    try simp only [Act.put, List.setIfInBounds_toArray, List.set_cons_zero, List.set_cons_succ]
    refine till_one 8 (by kernel_rfl) rfl (fun K hK => ?_)
    go_simp
    refine hK.out _ _ (Or.inr HS5) ?_
    clear hK K
    try simp only [Act.put, List.setIfInBounds_toArray, List.set_cons_zero, List.set_cons_succ]
    refine till_one 9 (by kernel_rfl) rfl (fun K hK => ?_)
    go_simp
    refine hK.out _ _ (Or.inl rfl) ?_
    clear hK K
    try simp only [Act.put, List.setIfInBounds_toArray, List.set_cons_zero, List.set_cons_succ]
    refine till_done (by kernel_rfl) ?_ _
    obtain ⟨ao, cap, rfl⟩ := own_slice (unhide X5).2
    go_wp2_with fail
    go_ret2
    refine ⟨ao, _, cap, rfl, ?_, ?_⟩
    · have := (unhide HRW w5 (unhide X5).1).2.2.2
      rw [hg]; exact this
    · have := (unhide X5).2
      rw [List.nil_append] at this
      rw [hg]; exact this
  · rw [if_neg hf0]
    have hf1 : (F == 0) = false := by simpa using hf0
    go_enter Tryd.func16, Tryd.ntmps16
    go_wp2_with fail
    refine (unhide CF).mono ?_
    rintro e w2 ⟨rfl, B2⟩
    have H2 := hide B2
    clear B2 CF c0 c1
    go_wp2_with fail
    go_ret2
    refine ⟨none, 0, 0, rfl, by rw [hg]; exact (unhide HRW w2 (unhide H2)).2.2.2, World.ownsRow_nil _ _ _ _⟩
end Go.Proofs.YtbilcninhhkkpaaDoor
