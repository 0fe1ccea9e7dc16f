/-
  Do of add, len, slice of any values (prim); that slice takes apart what add put together; conditions: the package's variables.
-/
import Derived.Test.YtgkmdjmigehmeaaGreatDoorJ47
import Derived.Test.YtgkmdjmigehmeaaGreatDoorJ48
import Derived.Test.YtgkmdjmigehmeaaGreatDoorJ32
import Derived.Test.YtgkmdjmigehmeaaGreatDoorJ23
set_option linter.unusedVariables false
set_option linter.unusedSimpArgs false
namespace Go.Proofs.YtgkmdjmigehmeaaGreatDoor
open Go.RowKit Go.Shelf
set_option linter.unusedVariables false
set_option linter.unusedSimpArgs false

theorem rows_of {w : World} {g B : Nat} {vs : List Vl} {C : List (List Value)} {cs : Array Value} (hE : ElsV w B vs C) (hB : B ≤ w.heap.size) (h : w.heap[g]? = some (.cells cs 25 (0, 0))) (hc : cs = C.flatten.toArray) (hn : vs.length ≤ 100000) : ArV w w.heap.size vs (some ⟨g, 0, none⟩) vs.length vs.length := by
  have hfl : C.flatten.length = vs.length * 5 := by
    have : ∀ (C : List (List Value)), (∀ c ∈ C, c.length = 5) → C.flatten.length = C.length * 5 := by
      intro C
      induction C with
      | nil => intro _; rfl
      | cons c r ih => intro h; rw [List.flatten_cons, List.length_append, h c List.mem_cons_self, ih (fun x hx => h x (List.mem_cons_of_mem _ hx)), List.length_cons]; omega
    rw [this _ hE.len5, hE.1]
  have how : w.ownsRow 0 25 5 (.slice (some ⟨g, 0, none⟩) vs.length vs.length) vs.length C.flatten := ⟨hfl, Or.inr ⟨g, vs.length, cs, rfl, Nat.zero_le _, h, Nat.le_refl _, by unfold maxLen; omega, by rw [hc]; simpa using hfl, by rw [hc, ← hfl]; exact List.take_length⟩⟩
  obtain ⟨al, cl, e, hv⟩ := own_val how hE rfl hB hn
  simp only [Value.slice.injEq] at e
  obtain ⟨rfl, -, rfl⟩ := e
  exact ⟨rfl, hv⟩

theorem op_bad {w : World} {e : Ending} {w' : World} (h : e = .returned (.tuple #[.agg #[.int .i64 0, .int .i64 0, .string ⟨#[]⟩, .slice none 0 0, .slice none 0 0], .int .i64 3]) ∧ Below w.heap.size w w') : OpPost w (vlz, 3) e w' := by
  obtain ⟨rfl, b⟩ := h
  exact ⟨_, _, _, _, _, _, _, _, _, _, rfl, ⟨rfl, leaf_isQ _ _ 0 0 _ (by omega) (by omega) (by rw [e0sP]; omega)⟩, b⟩

/-- Do, by what the operation's own function answers -/
theorem do_run (op : Nat) (k0 k1 k2 : Int) (alk : Bool) (f : Nat) (hrow : opsCells.extract (op * 5) (op * 5 + 5) = #[.int .u8 k0, .int .u8 k1, .int .u8 k2, .bool alk, .func (.func f) #[] #[]]) (ex : Vl) (e0 e1 : Int) (e2 : ByteArray) (e3 : Option Addr) (e4 e5 : Nat) (e6 : Option Addr) (e7 e8 : Nat) (vs : List Vl) (al : Option Addr) (n cl B : Nat) (w : World) (ht : Tab w) (hx : IsV w B ex (.agg #[.int .i64 e0, .int .i64 e1, .string e2, .slice e3 e4 e5, .slice e6 e7 e8])) (h : ArV w B vs al n cl) (hBs : B ≤ w.heap.size) (hmay : mayB op ex vs = true) (hkd : ∀ i, 0 ≤ kdAt vs i ∧ kdAt vs i ≤ 5) (hk0 : ¬ k0 = 0 → 0 < n) (hk1 : ¬ k1 = 0 → 1 < n) (hk2 : ¬ k2 = 0 → 2 < n) (hk3 : alk = true → 1 < n) (hfit : fitsB k0 k1 k2 alk vs = true) (hent : ∀ args w, (callFunc f args).run Tryz.prog w = .ok (.enter f args) w) (r : Vl × Int)
    (hC : ∀ u, Below w.heap.size w u → Calls Tryz.prog f #[.agg #[.int .i64 e0, .int .i64 e1, .string e2, .slice e3 e4 e5, .slice e6 e7 e8, .slice al n cl]] u fun e w' => OpPost u r e w') :
    Calls Tryz.prog 12 #[.int .i64 op, .agg #[.int .i64 e0, .int .i64 e1, .string e2, .slice e3 e4 e5, .slice e6 e7 e8], .slice al n cl] w fun e w' => OpPost w r e w' := by
  refine (do_go op k0 k1 k2 alk f hrow ex e0 e1 e2 e3 e4 e5 e6 e7 e8 vs al n cl B w ht hx h hBs hmay hkd hk0 hk1 hk2 hk3 hfit hent (fun y0 y1 y2 y3 y4 y5 y6 y7 y8 t u u' => t = r.2 ∧ IsQ u' (fun b => u.heap.size ≤ b ∧ b < u'.heap.size) r.1 (.agg #[.int .i64 y0, .int .i64 y1, .string y2, .slice y3 y4 y5, .slice y6 y7 y8])) hC).mono ?_
  rintro e w' ⟨y0, y1, y2, y3, y4, y5, y6, y7, y8, t, rfl, ⟨u, u', h1, ⟨ht, hq⟩, h2, h3⟩, b⟩
  exact ⟨_, _, _, _, _, _, _, _, _, _, rfl, ⟨ht, hq.to (fun b hb => h3 b hb.1) (fun b hb => ⟨Nat.le_trans h1 hb.1, by rw [h2]; exact hb.2⟩)⟩, b⟩

theorem may2 (op : Int) (h1 : 10 ≤ op ∧ op ≤ 37) (h2 : ¬ op = 23) (h3 : ¬ op = 24) (h4 : (infoA op).1.2.2.1 = 2) (x y : Vl) : mayB op vlz [x, y] = (rightB x && rightB y) := by
  have h : takesA op 2 vlz = 2 := by
    unfold takesA
    rw [if_pos h1, if_neg h2, if_neg h3, h4]
  unfold mayB
  simp [h, h1, right_z]

theorem may1 (op : Int) (h1 : 10 ≤ op ∧ op ≤ 37) (h2 : ¬ op = 23) (h3 : ¬ op = 24) (h4 : (infoA op).1.2.2.1 = 1) (x : Vl) : mayB op vlz [x] = rightB x := by
  have h : takesA op 1 vlz = 1 := by
    unfold takesA
    rw [if_pos h1, if_neg h2, if_neg h3, h4]
  unfold mayB
  simp [h, h1, right_z]

theorem may3 (op : Int) (h1 : 10 ≤ op ∧ op ≤ 37) (h2 : ¬ op = 23) (h3 : ¬ op = 24) (h4 : (infoA op).1.2.2.1 = 3) (x y z : Vl) : mayB op vlz [x, y, z] = (rightB x && (rightB y && rightB z)) := by
  have h : takesA op 3 vlz = 3 := by
    unfold takesA
    rw [if_pos h1, if_neg h2, if_neg h3, h4]
  unfold mayB
  simp [h, h1, right_z]

theorem kd_list {vs : List Vl} (h : ∀ v ∈ vs, rightB v = true) (i : Nat) : 0 ≤ kdAt vs i ∧ kdAt vs i ≤ 5 := by
  unfold kdAt
  cases hi : vs[i]? with
  | none => simp
  | some v => exact right_kind (h v (List.mem_of_getElem? hi))

theorem fit_add2 {x y : Vl} (hx : rightB x = true) (h : fitsB 28 0 0 true [x, y] = true) : (x.kind = 2 ∨ x.kind = 3 ∨ x.kind = 4) ∧ x.kind = y.kind := by
  obtain ⟨k0, k1, _⟩ := kdAt_two x y
  have hk := right_kind hx
  unfold fitsB fit1 at h
  rw [k0, k1] at h
  simp only [Bool.and_eq_true, Bool.or_eq_true, beq_iff_eq, Bool.not_eq_true'] at h
  refine ⟨?_, by have := h.2; simpa using this⟩
  have hb : bitK 28 x.kind = true := by
    rcases h.1.1.1 with e | e
    · cases e
    · exact e
  rcases (show x.kind = 0 ∨ x.kind = 1 ∨ x.kind = 2 ∨ x.kind = 3 ∨ x.kind = 4 ∨ x.kind = 5 by omega) with e | e | e | e | e | e
  · rw [e] at hb; exact absurd hb (by rw [show bitK 28 0 = false by kernel_rfl]; simp)
  · rw [e] at hb; exact absurd hb (by rw [show bitK 28 1 = false by kernel_rfl]; simp)
  · exact Or.inl e
  · exact Or.inr (Or.inl e)
  · exact Or.inr (Or.inr e)
  · rw [e] at hb; exact absurd hb (by rw [show bitK 28 5 = false by kernel_rfl]; simp)

def doAdd (x y : Vl) : Vl × Int := if (rightB x && rightB y) && fitsB 28 0 0 true [x, y] then addV x y else (vlz, 3)

set_option maxRecDepth 100000 in
theorem doA2 (x y : Vl) (p0 p1 : Int) (p2 : ByteArray) (p3 : Option Addr) (p4 p5 : Nat) (p6 : Option Addr) (p7 p8 : Nat) (q0 q1 : Int) (q2 : ByteArray) (q3 : Option Addr) (q4 q5 : Nat) (q6 : Option Addr) (q7 q8 : Nat) (g B : Nat) (w : World) (ht : Tab w) (hx : IsV w B x (.agg #[.int .i64 p0, .int .i64 p1, .string p2, .slice p3 p4 p5, .slice p6 p7 p8])) (hy : IsV w B y (.agg #[.int .i64 q0, .int .i64 q1, .string q2, .slice q3 q4 q5, .slice q6 q7 q8])) (hBs : B ≤ w.heap.size) (hr : w.heap[g]? = some (.cells #[.int .i64 p0, .int .i64 p1, .string p2, .slice p3 p4 p5, .slice p6 p7 p8, .int .i64 q0, .int .i64 q1, .string q2, .slice q3 q4 q5, .slice q6 q7 q8] 25 (0, 0))) :
    Calls Tryz.prog 12 #[.int .i64 10, .agg #[.int .i64 0, .int .i64 0, .string ⟨#[]⟩, .slice none 0 0, .slice none 0 0], .slice (some ⟨g, 0, none⟩) 2 2] w fun e w' => OpPost w (doAdd x y) e w' := by
  have hl : g < w.heap.size := (Array.getElem?_eq_some_iff.1 hr).1
  have hA : ArV w w.heap.size [x, y] (some ⟨g, 0, none⟩) 2 2 := rows_of (C := [[.int .i64 p0, .int .i64 p1, .string p2, .slice p3 p4 p5, .slice p6 p7 p8], [.int .i64 q0, .int .i64 q1, .string q2, .slice q3 q4 q5, .slice q6 q7 q8]]) (vs := [x, y]) (B := B) ⟨rfl, fun i y9 hy9 => by
    match i, hy9 with
    | 0, hy9 => cases hy9; exact ⟨_, rfl, rfl, hx⟩
    | 1, hy9 => cases hy9; exact ⟨_, rfl, rfl, hy⟩
    | i + 2, hy9 => simp at hy9⟩ hBs hr rfl (by simp)
  have hz0 : IsV w w.heap.size vlz (.agg #[.int .i64 0, .int .i64 0, .string ⟨#[]⟩, .slice none 0 0, .slice none 0 0]) := plain_is w _ 0 0 (by omega) (by omega)
  have hcell : ∀ u, Below w.heap.size w u → ∀ j v, ([.int .i64 p0, .int .i64 p1, .string p2, .slice p3 p4 p5, .slice p6 p7 p8, .int .i64 q0, .int .i64 q1, .string q2, .slice q3 q4 q5, .slice q6 q7 q8] : List Value)[j]? = some v → u.cell? ⟨g, 0 + j, none⟩ = some v := fun u hu j v hv => by
    rw [Nat.zero_add, cell_of_row u g j _ _ (0, 0) ((hu.block g hl).trans hr)]
    simpa using hv
  have hmy := may2 10 (by decide) (by decide) (by decide) (by kernel_rfl) x y
  cases hm : (rightB x && rightB y) with
  | false =>
    have e : doAdd x y = (vlz, 3) := by unfold doAdd; rw [hm]; rfl
    rw [e]
    exact (do_bad 10 vlz 0 0 ⟨#[]⟩ none 0 0 none 0 0 [x, y] (some ⟨g, 0, none⟩) 2 2 w.heap.size w ht hz0 hA (Nat.le_refl _) (hmy.trans hm)).mono (fun e w' h => op_bad h)
  | true =>
    have hxy := hm
    rw [Bool.and_eq_true] at hxy
    have hkd := kd_list (vs := [x, y]) (fun v hv => by simp only [List.mem_cons, List.not_mem_nil, or_false] at hv; rcases hv with rfl | rfl; exact hxy.1; exact hxy.2)
    cases hf : fitsB 28 0 0 true [x, y] with
    | false =>
      have e : doAdd x y = (vlz, 3) := by unfold doAdd; rw [hm, hf]; rfl
      rw [e]
      exact (do_unfit 10 28 0 0 true 48 op_add vlz 0 0 ⟨#[]⟩ none 0 0 none 0 0 [x, y] (some ⟨g, 0, none⟩) 2 2 w.heap.size w ht hz0 hA (Nat.le_refl _) (hmy.trans hm) hkd (by omega) (by omega) (by omega) (by intro; omega) hf).mono (fun e w' h => op_bad h)
    | true =>
      have e : doAdd x y = addV x y := by unfold doAdd; rw [hm, hf]; rfl
      rw [e]
      exact do_run 10 28 0 0 true 48 op_add vlz 0 0 ⟨#[]⟩ none 0 0 none 0 0 [x, y] (some ⟨g, 0, none⟩) 2 2 w.heap.size w ht hz0 hA (Nat.le_refl _) (hmy.trans hm) hkd (by omega) (by omega) (by omega) (by intro; omega) hf (enters_of Tryz.func48 (by kernel_rfl) rfl) _ (fun u hu => add_op 0 0 ⟨#[]⟩ none 0 0 none 0 0 ⟨g, 0, none⟩ 2 2 p0 p1 p2 p3 p4 p5 p6 p7 p8 q0 q1 q2 q3 q4 q5 q6 q7 q8 x y B u (by omega) (Nat.lt_of_lt_of_le hl hu.size) (hcell u hu 0 _ rfl) (hcell u hu 1 _ rfl) (hcell u hu 2 _ rfl) (hcell u hu 3 _ rfl) (hcell u hu 4 _ rfl) (hcell u hu 5 _ rfl) (hcell u hu 6 _ rfl) (hcell u hu 7 _ rfl) (hcell u hu 8 _ rfl) (hcell u hu 9 _ rfl) (IsV.mono (hu.mono hBs) hx) (IsV.mono (hu.mono hBs) hy) (Nat.le_trans hBs hu.size) hxy.1 hxy.2 (fit_add2 hxy.1 hf).1)

set_option maxRecDepth 100000 in
theorem doL1 (x : Vl) (p0 p1 : Int) (p2 : ByteArray) (p3 : Option Addr) (p4 p5 : Nat) (p6 : Option Addr) (p7 p8 : Nat) (g B : Nat) (w : World) (ht : Tab w) (hx : IsV w B x (.agg #[.int .i64 p0, .int .i64 p1, .string p2, .slice p3 p4 p5, .slice p6 p7 p8])) (hBs : B ≤ w.heap.size) (hr : w.heap[g]? = some (.cells #[.int .i64 p0, .int .i64 p1, .string p2, .slice p3 p4 p5, .slice p6 p7 p8] 25 (0, 0))) (hrx : rightB x = true) (hk : x.kind = 3 ∨ x.kind = 4) :
    Calls Tryz.prog 12 #[.int .i64 27, .agg #[.int .i64 0, .int .i64 0, .string ⟨#[]⟩, .slice none 0 0, .slice none 0 0], .slice (some ⟨g, 0, none⟩) 1 1] w fun e w' => OpPost w (nm (cntO x), 0) e w' := by
  have hl : g < w.heap.size := (Array.getElem?_eq_some_iff.1 hr).1
  have hA : ArV w w.heap.size [x] (some ⟨g, 0, none⟩) 1 1 := rows_of (C := [[.int .i64 p0, .int .i64 p1, .string p2, .slice p3 p4 p5, .slice p6 p7 p8]]) (vs := [x]) (B := B) ⟨rfl, fun i y9 hy9 => by
    match i, hy9 with
    | 0, hy9 => cases hy9; exact ⟨_, rfl, rfl, hx⟩
    | i + 1, hy9 => simp at hy9⟩ hBs hr rfl (by simp)
  have hz0 : IsV w w.heap.size vlz (.agg #[.int .i64 0, .int .i64 0, .string ⟨#[]⟩, .slice none 0 0, .slice none 0 0]) := plain_is w _ 0 0 (by omega) (by omega)
  have hcell : ∀ u, Below w.heap.size w u → ∀ j v, ([.int .i64 p0, .int .i64 p1, .string p2, .slice p3 p4 p5, .slice p6 p7 p8] : List Value)[j]? = some v → u.cell? ⟨g, 0 + j, none⟩ = some v := fun u hu j v hv => by
    rw [Nat.zero_add, cell_of_row u g j _ _ (0, 0) ((hu.block g hl).trans hr)]
    simpa using hv
  have hmy := may1 27 (by decide) (by decide) (by decide) (by kernel_rfl) x
  have hkd := kd_list (vs := [x]) (fun v hv => by simp only [List.mem_cons, List.not_mem_nil, or_false] at hv; rcases hv with rfl; exact hrx)
  have hf : fitsB 56 0 0 false [x] = true := by
    have k0 : kdAt [x] 0 = x.kind := rfl
    unfold fitsB fit1
    rw [k0]
    rcases hk with e | e
    · rw [e, show bitK 56 3 = true by kernel_rfl]; rfl
    · rw [e, show bitK 56 4 = true by kernel_rfl]; rfl
  exact do_run 27 56 0 0 false 65 op_length vlz 0 0 ⟨#[]⟩ none 0 0 none 0 0 [x] (some ⟨g, 0, none⟩) 1 1 w.heap.size w ht hz0 hA (Nat.le_refl _) (hmy.trans hrx) hkd (by omega) (by omega) (by omega) (by intro h; cases h) hf (enters_of Tryz.func65 (by kernel_rfl) rfl) _ (fun u hu => length_op 0 0 ⟨#[]⟩ none 0 0 none 0 0 ⟨g, 0, none⟩ 1 1 p0 p1 p2 p3 p4 p5 p6 p7 p8 x B u (by omega) (Nat.lt_of_lt_of_le hl hu.size) (hcell u hu 0 _ rfl) (hcell u hu 1 _ rfl) (hcell u hu 2 _ rfl) (hcell u hu 3 _ rfl) (hcell u hu 4 _ rfl) (IsV.mono (hu.mono hBs) hx) (Nat.le_trans hBs hu.size) hrx)

set_option maxRecDepth 100000 in
theorem doS3 (x y z : Vl) (p0 p1 : Int) (p2 : ByteArray) (p3 : Option Addr) (p4 p5 : Nat) (p6 : Option Addr) (p7 p8 : Nat) (q0 q1 : Int) (q2 : ByteArray) (q3 : Option Addr) (q4 q5 : Nat) (q6 : Option Addr) (q7 q8 : Nat) (r0 r1 : Int) (r2 : ByteArray) (r3 : Option Addr) (r4 r5 : Nat) (r6 : Option Addr) (r7 r8 : Nat) (g B : Nat) (w : World) (ht : Tab w) (hx : IsV w B x (.agg #[.int .i64 p0, .int .i64 p1, .string p2, .slice p3 p4 p5, .slice p6 p7 p8])) (hy : IsV w B y (.agg #[.int .i64 q0, .int .i64 q1, .string q2, .slice q3 q4 q5, .slice q6 q7 q8])) (hz : IsV w B z (.agg #[.int .i64 r0, .int .i64 r1, .string r2, .slice r3 r4 r5, .slice r6 r7 r8])) (hBs : B ≤ w.heap.size) (hr : w.heap[g]? = some (.cells #[.int .i64 p0, .int .i64 p1, .string p2, .slice p3 p4 p5, .slice p6 p7 p8, .int .i64 q0, .int .i64 q1, .string q2, .slice q3 q4 q5, .slice q6 q7 q8, .int .i64 r0, .int .i64 r1, .string r2, .slice r3 r4 r5, .slice r6 r7 r8] 25 (0, 0))) (hrx : rightB x = true) (hk : x.kind = 3 ∨ x.kind = 4) (hry : rightB y = true) (hrz : rightB z = true) (hky : y.kind = 2) (hkz : z.kind = 2) :
    Calls Tryz.prog 12 #[.int .i64 30, .agg #[.int .i64 0, .int .i64 0, .string ⟨#[]⟩, .slice none 0 0, .slice none 0 0], .slice (some ⟨g, 0, none⟩) 3 3] w fun e w' => OpPost w (sliceV x y.n z.n) e w' := by
  have hl : g < w.heap.size := (Array.getElem?_eq_some_iff.1 hr).1
  have hA : ArV w w.heap.size [x, y, z] (some ⟨g, 0, none⟩) 3 3 := rows_of (C := [[.int .i64 p0, .int .i64 p1, .string p2, .slice p3 p4 p5, .slice p6 p7 p8], [.int .i64 q0, .int .i64 q1, .string q2, .slice q3 q4 q5, .slice q6 q7 q8], [.int .i64 r0, .int .i64 r1, .string r2, .slice r3 r4 r5, .slice r6 r7 r8]]) (vs := [x, y, z]) (B := B) ⟨rfl, fun i y9 hy9 => by
    match i, hy9 with
    | 0, hy9 => cases hy9; exact ⟨_, rfl, rfl, hx⟩
    | 1, hy9 => cases hy9; exact ⟨_, rfl, rfl, hy⟩
    | 2, hy9 => cases hy9; exact ⟨_, rfl, rfl, hz⟩
    | i + 3, hy9 => simp at hy9⟩ hBs hr rfl (by simp)
  have hz0 : IsV w w.heap.size vlz (.agg #[.int .i64 0, .int .i64 0, .string ⟨#[]⟩, .slice none 0 0, .slice none 0 0]) := plain_is w _ 0 0 (by omega) (by omega)
  have hcell : ∀ u, Below w.heap.size w u → ∀ j v, ([.int .i64 p0, .int .i64 p1, .string p2, .slice p3 p4 p5, .slice p6 p7 p8, .int .i64 q0, .int .i64 q1, .string q2, .slice q3 q4 q5, .slice q6 q7 q8, .int .i64 r0, .int .i64 r1, .string r2, .slice r3 r4 r5, .slice r6 r7 r8] : List Value)[j]? = some v → u.cell? ⟨g, 0 + j, none⟩ = some v := fun u hu j v hv => by
    rw [Nat.zero_add, cell_of_row u g j _ _ (0, 0) ((hu.block g hl).trans hr)]
    simpa using hv
  have hmy := may3 30 (by decide) (by decide) (by decide) (by kernel_rfl) x y z
  have hkd := kd_list (vs := [x, y, z]) (fun v hv => by simp only [List.mem_cons, List.not_mem_nil, or_false] at hv; rcases hv with rfl | rfl | rfl; exact hrx; exact hry; exact hrz)
  have hf : fitsB 24 4 4 false [x, y, z] = true := by
    have k0 : kdAt [x, y, z] 0 = x.kind := rfl
    have k1 : kdAt [x, y, z] 1 = y.kind := rfl
    have k2 : kdAt [x, y, z] 2 = z.kind := rfl
    unfold fitsB fit1
    rw [k0, k1, k2, hky, hkz, show bitK 4 2 = true by kernel_rfl]
    rcases hk with e | e
    · rw [e, show bitK 24 3 = true by kernel_rfl]; rfl
    · rw [e, show bitK 24 4 = true by kernel_rfl]; rfl
  exact do_run 30 24 4 4 false 68 op_slice vlz 0 0 ⟨#[]⟩ none 0 0 none 0 0 [x, y, z] (some ⟨g, 0, none⟩) 3 3 w.heap.size w ht hz0 hA (Nat.le_refl _) (hmy.trans (by rw [hrx, hry, hrz]; rfl)) hkd (by omega) (by omega) (by omega) (by intro h; cases h) hf (enters_of Tryz.func68 (by kernel_rfl) rfl) _ (fun u hu => slice_op 0 0 ⟨#[]⟩ none 0 0 none 0 0 ⟨g, 0, none⟩ 3 3 p0 p1 p2 p3 p4 p5 p6 p7 p8 q0 q1 q2 q3 q4 q5 q6 q7 q8 r0 r1 r2 r3 r4 r5 r6 r7 r8 x y z B u (by omega) (Nat.lt_of_lt_of_le hl hu.size) (hcell u hu 0 _ rfl) (hcell u hu 1 _ rfl) (hcell u hu 2 _ rfl) (hcell u hu 3 _ rfl) (hcell u hu 4 _ rfl) (hcell u hu 5 _ rfl) (hcell u hu 6 _ rfl) (hcell u hu 7 _ rfl) (hcell u hu 8 _ rfl) (hcell u hu 9 _ rfl) (hcell u hu 10 _ rfl) (hcell u hu 11 _ rfl) (hcell u hu 12 _ rfl) (hcell u hu 13 _ rfl) (hcell u hu 14 _ rfl) (IsV.mono (hu.mono hBs) hx) (IsV.mono (hu.mono hBs) hy) (IsV.mono (hu.mono hBs) hz) (Nat.le_trans hBs hu.size) hrx)

theorem bytes_ext {a b : ByteArray} (h : a.data.toList = b.data.toList) : a = b := by
  cases a; cases b
  simp only at h
  congr 1
  exact Array.ext' h

theorem ext_left (s t : ByteArray) : (s ++ t).extract 0 s.size = s := by
  refine bytes_ext ?_
  rw [ByteArray.data_extract, Array.toList_extract, ByteArray.data_append, Array.toList_append, show s.size = s.data.toList.length from rfl]
  simp [List.extract]

theorem ext_right (s t : ByteArray) : (s ++ t).extract s.size (s.size + t.size) = t := by
  refine bytes_ext ?_
  rw [ByteArray.data_extract, Array.toList_extract, ByteArray.data_append, Array.toList_append, show s.size = s.data.toList.length from rfl, show t.size = t.data.toList.length from rfl]
  simp [List.extract]
  exact List.take_of_length_le (Nat.le_refl _)

theorem right_form3 {x : Vl} (h : rightB x = true) (hk : x.kind = 3) : x = .mk 3 0 x.s [] [] := by
  obtain ⟨k, n, s, l, ks⟩ := x
  dsimp only at hk
  subst hk
  have h1 := (right_wt h).1
  simp only [okB, formB, formM, Bool.and_eq_true] at h1
  have h2 := h1.1
  rw [if_neg (by decide), if_neg (by decide), if_neg (by decide), if_pos trivial] at h2
  simp only [Bool.and_eq_true, decide_eq_true_eq] at h2
  obtain ⟨⟨e1, e2⟩, e3⟩ := h2
  have hl : l = [] := List.eq_nil_of_length_eq_zero e2
  have hks : ks = [] := List.eq_nil_of_length_eq_zero e3
  rw [e1, hl, hks]

theorem right_form4 {x : Vl} (h : rightB x = true) (hk : x.kind = 4) : x = .mk 4 0 ⟨#[]⟩ x.l [] := by
  obtain ⟨k, n, s, l, ks⟩ := x
  dsimp only at hk
  subst hk
  have h1 := (right_wt h).1
  simp only [okB, formB, formM, Bool.and_eq_true] at h1
  have h2 := h1.1
  rw [if_neg (by decide), if_neg (by decide), if_neg (by decide), if_neg (by decide), if_pos trivial] at h2
  simp only [Bool.and_eq_true, decide_eq_true_eq] at h2
  obtain ⟨⟨e1, e2⟩, e3⟩ := h2
  have hks : ks = [] := List.eq_nil_of_length_eq_zero e3
  have hs : s = ⟨#[]⟩ := by
    refine (bytes_beq s ⟨#[]⟩).1 ?_
    have : s.toList = [] := by simpa using e2
    rw [this]
    first | kernel_rfl | decide +kernel | simp [ByteArray.toList, ByteArray.toList.loop]
  rw [e1, hs, hks]

theorem szV_ok {v : Vl} (h : rightB v = true) : szV v = (v, 0) := by unfold szV; rw [if_pos h]

/-- slice takes apart what add put together -/
theorem joins {x y : Vl} (ht : (doAdd x y).2 = 0) (hk2 : ¬ (doAdd x y).1.kind = 2) : rightB x = true ∧ rightB y = true ∧ (x.kind = 3 ∨ x.kind = 4) ∧ rightB (doAdd x y).1 = true ∧ (doAdd x y).1.kind = x.kind ∧ sliceV (doAdd x y).1 0 (cntO x) = (x, 0) ∧ sliceV (doAdd x y).1 (cntO x) (cntO (doAdd x y).1) = (y, 0) := by
  unfold doAdd at ht hk2 ⊢
  cases hc : ((rightB x && rightB y) && fitsB 28 0 0 true [x, y]) with
  | false => rw [hc] at ht; cases ht
  | true =>
    rw [hc] at ht hk2
    rw [if_pos rfl] at ht hk2 ⊢
    simp only [Bool.and_eq_true] at hc
    obtain ⟨⟨hx, hy⟩, hf⟩ := hc
    obtain ⟨hk, hkk⟩ := fit_add2 hx hf
    rcases hk with e | e | e
    · exfalso
      apply hk2
      unfold addV
      rw [if_pos e]
      rfl
    · have ey : y.kind = 3 := by rw [← hkk, e]
      have hav : addV x y = szV (.mk 3 0 (x.s ++ y.s) [] []) := by unfold addV; rw [if_neg (by omega), if_pos e]
      have hr : rightB (.mk 3 0 (x.s ++ y.s) [] []) = true := by
        rw [hav] at ht
        unfold szV at ht
        cases h : rightB (.mk 3 0 (x.s ++ y.s) [] []) with
        | true => rfl
        | false => rw [h] at ht; cases ht
      rw [hav, szV_ok hr]
      have c1 : cntO x = (x.s.size : Int) := by unfold cntO; rw [if_pos e]
      have c2 : cntO (.mk 3 0 (x.s ++ y.s) [] []) = ((x.s.size + y.s.size : Nat) : Int) := by unfold cntO; rw [if_pos rfl]; dsimp only; rw [ByteArray.size_append]
      refine ⟨hx, hy, Or.inl e, hr, e.symm, ?_, ?_⟩
      · unfold sliceV
        rw [c1, c2, if_neg (by omega), if_pos rfl]
        have : (.mk 3 0 ((x.s ++ y.s).extract (0 : Int).toNat ((x.s.size : Int)).toNat) [] [] : Vl) = x := by
          rw [Int.toNat_natCast, show (0 : Int).toNat = 0 from rfl, ext_left]
          exact (right_form3 hx e).symm
        rw [this, szV_ok hx]
      · unfold sliceV
        rw [c1, c2, if_neg (by omega), if_pos rfl]
        have : (.mk 3 0 ((x.s ++ y.s).extract ((x.s.size : Int)).toNat ((x.s.size + y.s.size : Nat) : Int).toNat) [] [] : Vl) = y := by
          rw [Int.toNat_natCast, Int.toNat_natCast, ext_right]
          exact (right_form3 hy ey).symm
        rw [this, szV_ok hy]
    · have ey : y.kind = 4 := by rw [← hkk, e]
      have hav : addV x y = szV (.mk 4 0 ⟨#[]⟩ (x.l ++ y.l) []) := by unfold addV; rw [if_neg (by omega), if_neg (by omega)]
      have hr : rightB (.mk 4 0 ⟨#[]⟩ (x.l ++ y.l) []) = true := by
        rw [hav] at ht
        unfold szV at ht
        cases h : rightB (.mk 4 0 ⟨#[]⟩ (x.l ++ y.l) []) with
        | true => rfl
        | false => rw [h] at ht; cases ht
      rw [hav, szV_ok hr]
      have c1 : cntO x = (x.l.length : Int) := by unfold cntO; rw [if_neg (by omega)]
      have c2 : cntO (.mk 4 0 ⟨#[]⟩ (x.l ++ y.l) []) = ((x.l.length + y.l.length : Nat) : Int) := by unfold cntO; rw [if_neg (show ¬ (4 : Int) = 3 by decide)]; dsimp only; rw [List.length_append]
      refine ⟨hx, hy, Or.inr e, hr, e.symm, ?_, ?_⟩
      · unfold sliceV
        rw [c1, c2, if_neg (by omega), if_neg (show ¬ (4 : Int) = 3 by decide)]
        have : (.mk 4 0 ⟨#[]⟩ (((x.l ++ y.l).drop (0 : Int).toNat).take (((x.l.length : Int)).toNat - (0 : Int).toNat)) [] : Vl) = x := by
          rw [Int.toNat_natCast, show (0 : Int).toNat = 0 from rfl, List.drop_zero, Nat.sub_zero, List.take_left' rfl]
          exact (right_form4 hx e).symm
        rw [this, szV_ok hx]
      · unfold sliceV
        rw [c1, c2, if_neg (by omega), if_neg (show ¬ (4 : Int) = 3 by decide)]
        have : (.mk 4 0 ⟨#[]⟩ (((x.l ++ y.l).drop ((x.l.length : Int)).toNat).take (((x.l.length + y.l.length : Nat) : Int).toNat - ((x.l.length : Int)).toNat)) [] : Vl) = y := by
          rw [Int.toNat_natCast, Int.toNat_natCast, List.drop_left' rfl, show x.l.length + y.l.length - x.l.length = y.l.length by omega, List.take_length]
          exact (right_form4 hy ey).symm
        rw [this, szV_ok hy]

/-- boxes and values that stand -/
structure PJ (w u : World) (L : List (Nat × Array Value)) (VS : List (Vl × Value)) : Prop where
  below : Below w.heap.size w u
  box : ∀ p ∈ L, u.heap[p.1]? = some (.cells p.2 25 (0, 0))
  val : ∀ q ∈ VS, IsV u u.heap.size q.1 q.2

theorem PJ.later {w u u' : World} {L : List (Nat × Array Value)} {VS : List (Vl × Value)} (h : PJ w u L VS) (hb : Below u.heap.size u u') : PJ w u' L VS where
  below := h.below.trans (hb.mono h.below.size)
  box := fun p hp => (hb.block p.1 (Array.getElem?_eq_some_iff.1 (h.box p hp)).1).trans (h.box p hp)
  val := fun q hq => IsV.lift hb.size (IsV.mono hb (h.val q hq))

theorem PJ.addB {w u u' : World} {L : List (Nat × Array Value)} {VS : List (Vl × Value)} {g : Nat} {c : Array Value} (h : PJ w u L VS) (hu : u.alloc (.cells c 25) = u') (hg : u.heap.size = g) : PJ w u' ((g, c) :: L) VS := by
  have hb : Below u.heap.size u u' := by rw [← hu]; exact (Below.refl _ _).alloc (Nat.le_refl _) _
  have h' := h.later hb
  refine ⟨h'.below, fun p hp => ?_, h'.val⟩
  rcases List.mem_cons.1 hp with rfl | hp
  · dsimp only
    rw [← hu, ← hg]
    exact heap_alloc_new u _
  · exact h'.box p hp

theorem PJ.addV {w u : World} {L : List (Nat × Array Value)} {VS : List (Vl × Value)} {v : Vl} {x : Value} (h : PJ w u L VS) (hv : IsV u u.heap.size v x) : PJ w u L ((v, x) :: VS) :=
  ⟨h.below, h.box, fun q hq => by
    rcases List.mem_cons.1 hq with rfl | hq
    · exact hv
    · exact h.val q hq⟩
end Go.Proofs.YtgkmdjmigehmeaaGreatDoor
