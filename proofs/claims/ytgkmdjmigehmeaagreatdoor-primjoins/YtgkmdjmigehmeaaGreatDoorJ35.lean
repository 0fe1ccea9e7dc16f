/-
  Small functions of the operations (prim), of their rows of values; no conditions.
-/
import Derived.Test.YtgkmdjmigehmeaaGreatDoorJ33
import Derived.Test.YtgkmdjmigehmeaaGreatDoorJ34
set_option linter.unusedVariables false
set_option linter.unusedSimpArgs false
namespace Go.Proofs.YtgkmdjmigehmeaaGreatDoor
open Go.RowKit
set_option linter.unusedVariables false
set_option linter.unusedSimpArgs false

theorem run_index_row {P : Program} (w : World) (t e : TypeId) (n sz : Nat) (cs : Array Value) (k : IntKind) (i : Nat) (row : Array Value) (h : P.underlying t = some (.array n e)) (hst : ∃ fs, P.underlying e = some (.struct fs)) (hs : (P.info? e).map (·.size) = some sz) (hi : i < n) (hv : cs.extract (i * sz) (i * sz + sz) = row) :
    (Instr.index t (.agg cs) (.int k (i : Int))).run P w = .ok (.agg row) w := by
  obtain ⟨fs, he⟩ := hst
  have h1 : (0 : Int) ≤ i ∧ (i : Int) < n := by omega
  simp [Instr.index, run_underlying h, asIntOf, h1, size_is hs, part, isAgg, run_underlying he, hv, Result.andThen]
  intro h
  omega

theorem size_vl : (Tryz.prog.info? 25).map (·.size) = some 5 := by kernel_rfl

set_option maxRecDepth 100000 in
theorem number_any (n : Int) (w : World) : Calls Tryz.prog 98 #[.int .i64 n] w fun e w' => e = .returned (.tuple #[.agg #[.int .i64 2, .int .i64 n, .string ⟨#[]⟩, .slice none 0 0, .slice none 0 0], .int .i64 0]) ∧ Below w.heap.size w w' := by
  go_enter Tryz.func98, Tryz.ntmps98
  go_wp2_with fail
  (try simp only [Exit.inBlock, Exit.then])
  refine bodyPost_ret (ret_ct rfl _ _ w.heap.size #[.int .i64 2, .int .i64 n, .string ⟨#[]⟩, .slice none 0 0, .slice none 0 0] _ _ rfl (heap_alloc_new w _) Tryz.underlying25 rfl size_vl) rfl ?_
  exact ⟨rfl, (Below.refl _ _).alloc (Nat.le_refl _) _⟩

set_option maxRecDepth 100000 in
theorem trap_any (n : Int) (w : World) : Calls Tryz.prog 101 #[.int .i64 n] w fun e w' => e = .returned (.tuple #[.agg #[.int .i64 0, .int .i64 0, .string ⟨#[]⟩, .slice none 0 0, .slice none 0 0], .int .i64 n]) ∧ Below w.heap.size w w' := by
  go_enter Tryz.func101, Tryz.ntmps101
  go_wp2_with fail
  (try simp only [Exit.inBlock, Exit.then])
  refine bodyPost_ret (ret_ct rfl _ _ w.heap.size #[.int .i64 0, .int .i64 0, .string ⟨#[]⟩, .slice none 0 0, .slice none 0 0] _ _ rfl (heap_alloc_new w _) Tryz.underlying25 rfl size_vl) rfl ?_
  exact ⟨rfl, (Below.refl _ _).alloc (Nat.le_refl _) _⟩

set_option maxRecDepth 100000 in
theorem pure_any (op : Int) (w : World) : Calls Tryz.prog 18 #[.int .i64 op] w fun e w' => e = .returned (.bool (decide (10 ≤ op ∧ op ≤ 37))) ∧ Below w.heap.size w w' := by
  by_cases h1 : 10 ≤ op
  · by_cases h2 : op ≤ 37
    · rw [decide_eq_true ⟨h1, h2⟩]
      go_enter Tryz.func18, Tryz.ntmps18
      go_wp2_with fail
      go_ret
      exact ⟨rfl, Below.refl _ _⟩
    · rw [decide_eq_false (fun h => h2 h.2)]
      go_enter Tryz.func18, Tryz.ntmps18
      go_wp2_with fail
      go_ret
      exact ⟨rfl, Below.refl _ _⟩
  · rw [decide_eq_false (fun h => h1 h.1)]
    go_enter Tryz.func18, Tryz.ntmps18
    go_wp2_with fail
    go_ret
    exact ⟨rfl, Below.refl _ _⟩

/-- a count that a stack may hold; else 0 -/
def cntA (n : Int) : Int := if n < 0 ∨ 40 < n then 0 else n

set_option maxRecDepth 100000 in
theorem counted_any (n : Int) (w : World) : Calls Tryz.prog 41 #[.int .i64 n] w fun e w' => e = .returned (.int .i64 (cntA n)) ∧ Below w.heap.size w w' := by
  unfold cntA
  by_cases h1 : n < 0
  · rw [if_pos (Or.inl h1)]
    go_enter Tryz.func41, Tryz.ntmps41
    go_wp2_with fail
    go_ret
    exact ⟨rfl, Below.refl _ _⟩
  · by_cases h2 : 40 < n
    · rw [if_pos (Or.inr h2)]
      go_enter Tryz.func41, Tryz.ntmps41
      go_wp2_with fail
      go_ret
      exact ⟨rfl, Below.refl _ _⟩
    · rw [if_neg (fun h => h.elim h1 h2)]
      go_enter Tryz.func41, Tryz.ntmps41
      go_wp2_with fail
      go_ret
      exact ⟨rfl, Below.refl _ _⟩

/-- a row of values in memory -/
def ArV (w : World) (B : Nat) (vs : List Vl) (al : Option Addr) (n cl : Nat) : Prop := vs.length = n ∧ IsV w B (.mk 4 0 ⟨#[]⟩ vs []) (.agg #[.int .i64 4, .int .i64 0, .string ⟨#[]⟩, .slice al n cl, .slice none 0 0])

theorem ArV.later {w w' : World} {B : Nat} {vs : List Vl} {al : Option Addr} {n cl : Nat} (h : ArV w B vs al n cl) (hb : Below B w w') : ArV w' B vs al n cl := ⟨h.1, IsV.mono hb h.2⟩
theorem ArV.lift {w : World} {B C : Nat} {vs : List Vl} {al : Option Addr} {n cl : Nat} (h : ArV w B vs al n cl) (hb : B ≤ C) : ArV w C vs al n cl := ⟨h.1, IsV.lift hb h.2⟩

/-- the cells of a value of the row -/
theorem ArV.elem {w : World} {B : Nat} {vs : List Vl} {al : Option Addr} {n cl : Nat} (h : ArV w B vs al n cl) (i : Nat) (y : Vl) (hy : vs[i]? = some y) :
    ∃ (a : Addr) (al' ak' : Option Addr) (cl' ck' : Nat), al = some a ∧ a.block < B ∧ (∀ j v, [Value.int .i64 y.kind, .int .i64 y.n, .string y.s, .slice al' y.l.length cl', .slice ak' y.ks.length ck'][j]? = some v → w.cell? ((a.add (i * 5)).add j) = some v) ∧ IsV w B y (.agg #[.int .i64 y.kind, .int .i64 y.n, .string y.s, .slice al' y.l.length cl', .slice ak' y.ks.length ck']) := by
  obtain ⟨hn, al2, ak2, cl2, ck2, V, hx, hf, hl⟩ := h
  have hxx : al2 = al := by
    have h1 := congrArg Array.toList (Value.agg.inj hx)
    simp at h1
    exact h1.1.1.symm
  subst hxx
  have hel := (IsPL_iff w _ vs V).1 hl i y hy
  have hi : i < vs.length := (List.getElem?_eq_some_iff.1 hy).1
  obtain ⟨a3, k3, c3, d3, V3, hx3, hf3, hl3⟩ := hel
  have hVi : V i = [.int .i64 y.kind, .int .i64 y.n, .string y.s, .slice a3 y.l.length c3, .slice k3 y.ks.length d3] := by
    have h1 := congrArg Array.toList (Value.agg.inj hx3)
    simpa using h1
  cases al2 with
  | none => exact absurd (hf.nl rfl).1 (by show vs.length ≠ 0; omega)
  | some a =>
    obtain ⟨q1, q2⟩ := hf.hl a rfl i hi
    rw [hVi] at q2
    exact ⟨a, a3, k3, c3, d3, rfl, q1, q2, a3, k3, c3, d3, V3, rfl, hf3, hl3⟩

set_option maxRecDepth 100000 in
theorem wrong_any (v : Vl) (x : Value) (B : Nat) (w : World) (hv : IsV w B v x) (hBs : B ≤ w.heap.size) :
    Calls Tryz.prog 47 #[x] w fun e w' => e = .returned (.bool (!rightB v)) ∧ Below w.heap.size w w' := by
  obtain ⟨kd, n, s, l, ks, al, ak, cl, ck, rfl, rfl⟩ := hv.shape
  obtain ⟨gb, hgb⟩ : ∃ gb, w.heap.size = gb := ⟨_, rfl⟩
  obtain ⟨w1, hw1⟩ : ∃ w1, w.alloc (.cells #[.int .i64 kd, .int .i64 n, .string s, .slice al l.length cl, .slice ak ks.length ck] 25) = w1 := ⟨_, rfl⟩
  have n1 : w1.heap[gb]? = some (.cells #[.int .i64 kd, .int .i64 n, .string s, .slice al l.length cl, .slice ak ks.length ck] 25 (0, 0)) := by rw [← hw1, ← hgb]; exact heap_alloc_new w _
  have b1 : Below w.heap.size w w1 := by rw [← hw1]; exact (Below.refl _ _).alloc (Nat.le_refl _) _
  obtain ⟨c0, c1, c2, c3, c4⟩ := row_cell n1
  have CR := hide (right_code _ _ B w1 (IsV.mono (b1.mono hBs) hv) (Nat.le_trans hBs b1.size))
  have B1 := hide b1
  obtain ⟨R, hR⟩ : ∃ R, rightB (.mk kd n s l ks) = R := ⟨_, rfl⟩
  rw [hR] at CR ⊢
  clear n1 b1 hv hR
  go_enter Tryz.func47, Tryz.ntmps47
  go_wp2_with fail
  refine (unhide CR).mono ?_
  rintro e u ⟨rfl, b2⟩
  have B2 := hide ((unhide B1).trans (b2.mono (unhide B1).size))
  clear b2 CR
  go_wp2_with fail
  go_ret
  exact ⟨rfl, by first | exact unhide B2 | (rw [← hgb]; exact unhide B2)⟩

set_option maxRecDepth 100000 in
set_option maxHeartbeats 1000000 in
theorem indexF_any (vs : List Vl) (al : Option Addr) (n cl B : Nat) (w : World) (h : ArV w B vs al n cl) (hBs : B ≤ w.heap.size) :
    Calls Tryz.prog 97 #[.slice al n cl, .func (.func 47) #[] #[]] w fun e w' => ∃ r : Int, e = .returned (.int .i64 r) ∧ (decide (0 ≤ r) = !(vs.all rightB)) ∧ Below w.heap.size w w' := by
  have hn := h.1
  have hnb : n ≤ 140737488351232 := by obtain ⟨_, _, _, _, V, _, hf, _⟩ := h.2; have := hf.bl; simp only [hn] at this; exact this
  have HN := hide hn
  have HV : Hid (∀ u, Below w.heap.size w u → ArV u B vs al n cl) := hide (fun u hu => h.later (hu.mono hBs))
  have HB := hide hBs
  clear h hn hBs
  go_enter Tryz.func97, Tryz.ntmps97
  go_wp2_with fail
  go_loopw [8] (fun x wr => ∃ i : Nat, x = .int .i64 (i : Int) ∧ Hid (i ≤ n) ∧ Hid ((vs.take i).all rightB = true ∧ Below w.heap.size w wr)) (fun x _ => n - (intOf x).toNat)
  case atStart => exact ⟨0, rfl, hide (by omega), hide ⟨rfl, Below.refl _ _⟩⟩
  case round =>
    obtain ⟨i, rfl, HI1, HX⟩ := hrel
    by_cases hlt : i < n
    · have j1 : (i : Int) < (n : Int) := by omega
      have HI2 : Hid (i + 1 ≤ n) := hide (by omega)
      obtain ⟨y, hy⟩ : ∃ y, vs[i]? = some y := ⟨_, List.getElem?_eq_getElem (by have := unhide HN; omega)⟩
      obtain ⟨a, al', ak', cl', ck', rfl, hab, hc, hp⟩ := (unhide HV wr (unhide HX).2).elem i y hy
      have c0 : wr.cell? (a.add (i * 5)) = some (.int .i64 y.kind) := hc 0 _ rfl
      have c1 : wr.cell? ⟨(a.add (i * 5)).block, (a.add (i * 5)).off + 1, none⟩ = some (.int .i64 y.n) := hc 1 _ rfl
      have c2 : wr.cell? ⟨(a.add (i * 5)).block, (a.add (i * 5)).off + 2, none⟩ = some (.string y.s) := hc 2 _ rfl
      have c3 : wr.cell? ⟨(a.add (i * 5)).block, (a.add (i * 5)).off + 3, none⟩ = some (.slice al' y.l.length cl') := hc 3 _ rfl
      have c4 : wr.cell? ⟨(a.add (i * 5)).block, (a.add (i * 5)).off + 4, none⟩ = some (.slice ak' y.ks.length ck') := hc 4 _ rfl
      have CW := hide (wrong_any y _ B wr hp (Nat.le_trans (unhide HB) (unhide HX).2.size))
      obtain ⟨R, hR⟩ : ∃ R, rightB y = R := ⟨_, rfl⟩
      have HY : Hid (vs[i]? = some y ∧ rightB y = R) := hide ⟨hy, hR⟩
      rw [hR] at CW
      clear hc hp hy hR
      cases R with
      | true =>
        go_wp2_with fail
        refine (unhide CW).mono ?_
        rintro e u ⟨rfl, b2⟩
        have H2 : Hid ((vs.take (i + 1)).all rightB = true ∧ Below w.heap.size w u) := hide ⟨by rw [List.take_add_one, (unhide HY).1]; simp only [Option.toList_some, List.all_append, (unhide HX).1, List.all_cons, (unhide HY).2]; rfl, (unhide HX).2.trans (b2.mono (unhide HX).2.size)⟩
        clear b2 CW c0 c1 c2 c3 c4
        go_wp2_with fail
        go_roundw
        case rel => exact ⟨i + 1, by go_num, HI2, H2⟩
        case measure => simp [intOf]; omega
      | false =>
        go_wp2_with fail
        refine (unhide CW).mono ?_
        rintro e u ⟨rfl, b2⟩
        have H2 : Hid (Below w.heap.size w u) := hide ((unhide HX).2.trans (b2.mono (unhide HX).2.size))
        clear b2 CW c0 c1 c2 c3 c4
        go_wp2_with fail
        go_ret
        exact ⟨_, rfl, by
          have : vs.all rightB = false := by
            rw [List.all_eq_false]
            exact ⟨y, List.mem_of_getElem? (unhide HY).1, by rw [(unhide HY).2]; decide⟩
          rw [this]
          simp, unhide H2⟩
    · have j1 : ¬ (i : Int) < (n : Int) := by omega
      have HE : Hid (vs.all rightB = true) := hide (by
        have h1 := (unhide HX).1
        rw [List.take_of_length_le (by have := unhide HN; omega)] at h1
        exact h1)
      go_wp2_with fail
      go_ret
      exact ⟨-1, rfl, by rw [unhide HE]; rfl, (unhide HX).2⟩
end Go.Proofs.YtgkmdjmigehmeaaGreatDoor
