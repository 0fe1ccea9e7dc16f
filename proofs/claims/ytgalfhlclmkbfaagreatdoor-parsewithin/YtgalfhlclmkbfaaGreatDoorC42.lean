/-
  Layer 17 (parse): the walks of Program and Expr, of any source; conditions: what the variables of strconv hold.
-/
import Derived.Test.YtgalfhlclmkbfaaGreatDoorC20
import Derived.Test.YtgalfhlclmkbfaaGreatDoorC40
import Derived.Test.YtgalfhlclmkbfaaGreatDoorC41
set_option linter.unusedVariables false
set_option linter.unusedSimpArgs false
namespace Go.Proofs.YtgalfhlclmkbfaaGreatDoor
open Go.RowKit
set_option linter.unusedVariables false
set_option linter.unusedSimpArgs false

/-- what comes of a source: the error of its tokens, or what a job makes of them -/
def PgOf (j : Nat) (s : List UInt8) (r : Rs (List Nd)) : Prop := (∃ p er, allT s = .error (p, er) ∧ r = .error (er, p)) ∨ (∃ ts f, allT s = .ok ts ∧ PJ f j 0 [] ts 0 = some r)

theorem PgOf.tot (j : Nat) (hj : ¬ j = 2 ∧ ¬ j = 3 ∧ j < 28) (s : List UInt8) : ∃ r, PgOf j s r := by
  cases h : allT s with
  | error x => exact ⟨.error (x.2, x.1), .inl ⟨x.1, x.2, h, rfl⟩⟩
  | ok ts =>
    obtain ⟨r, hr⟩ := PJ_tot (32 * ts.length + rk j 0 + 64) j 0 [] ts 0 (by first | exact ⟨by omega, by omega⟩ | omega) (by omega)
    exact ⟨r, .inr ⟨ts, _, h, hr⟩⟩

theorem lp_len : ∀ (f p : Nat) (l : List UInt8) (ts : List Tk), lpT f p l = .ok ts → ts.length ≤ l.length + 1
  | 0, p, l, ts, h => by simp [lpT] at h
  | f + 1, p, [], ts, h => by
    simp only [lpT, Except.ok.injEq] at h
    subst h
    simp
  | f + 1, p, c :: r, ts, h => by
    obtain ⟨t, n, us, h1, h2, rfl⟩ := lp_ok h
    have hn := fst_pos h1
    have hlen := rest_len (c :: r) n hn.2
    have ih := lp_len f _ _ us h2
    simp only [List.length_cons] at hlen ih ⊢
    omega
theorem all_fin {s : List UInt8} {ts : List Tk} (h : allT s = .ok ts) : ts.length ≤ 10000 ∧ ∃ us p, ts = us ++ [endT p] := by
  have hs := all_small h
  rw [all_split hs] at h
  have h1 := lp_len _ _ _ _ h
  have h2 := blk_le false s
  rw [List.length_drop] at h1
  obtain ⟨us, hu⟩ := (lp_all (s.length + 1) _ _ ts (by rw [List.length_drop]; omega) h).1
  exact ⟨by omega, us, _, hu⟩

/-- what Program and Expr answer -/
def TrR (w : World) (r : Rs (List Nd)) (e : Ending) (w' : World) : Prop := ∃ (k : Nat) (t : List UInt8) (vk vn : Nat) (vs : List UInt8) (f : Bool) (n : Nat) (ak : Option Addr) (ck p : Nat) (pl er : Nat) (S : List Nat),
  e = .returned (.tuple #[.agg #[.int .i64 (k : Int), .string (bA t), .int .i64 (vk : Int), .int .i64 (vn : Int), .string (bA vs), .slice none 0 0, .slice none 0 0, .bool f, .slice ak n ck, .int .i64 (p : Int)], .int .i64 (pl : Int), .int .i64 (er : Int)]) ∧
  Hid (match r with
  | .error (a, q) => (k = 0 ∧ t = [] ∧ vk = 0 ∧ vn = 0 ∧ vs = [] ∧ f = false ∧ n = 0 ∧ ak = none ∧ ck = 0 ∧ p = 0) ∧ pl = q ∧ er = a
  | .ok (ns, l) => ((hdT l).k = 0 → pl = 0 ∧ er = 0 ∧ ns.length = 1 ∧ NdOk w.heap.size w' ns (ndC k t vk vn vs f n ak ck p) S) ∧ (¬ (hdT l).k = 0 → (k = 0 ∧ t = [] ∧ vk = 0 ∧ vn = 0 ∧ vs = [] ∧ f = false ∧ n = 0 ∧ ak = none ∧ ck = 0 ∧ p = 0) ∧ pl = (hdT l).p ∧ er = 170))

theorem zero10 : (.agg ndZ : Value) = .agg #[.int .i64 ((0 : Nat) : Int), .string (bA []), .int .i64 ((0 : Nat) : Int), .int .i64 ((0 : Nat) : Int), .string (bA []), .slice none 0 0, .slice none 0 0, .bool false, .slice none 0 0, .int .i64 ((0 : Nat) : Int)] := rfl

theorem RdR.tr {w w' : World} {r : Rs (List Nd)} {e : Ending} (h : RdR w r e w') : TrR w r e w' := by
  match r, h with
  | .error (a, q), h =>
    rw [show e = _ from h, zero10]
    exact ⟨0, [], 0, 0, [], false, 0, none, 0, 0, q, a, [], rfl, ⟨rfl, rfl, rfl, rfl, rfl, rfl, rfl, rfl, rfl, rfl⟩, rfl, rfl⟩
  | .ok (ns, l), h =>
    by_cases hk : (hdT l).k = 0
    · obtain ⟨k, t, vk, vn, vs, f, n, ak, ck, p, S, rfl, h1, h2⟩ := h.1 hk
      exact ⟨k, t, vk, vn, vs, f, n, ak, ck, p, 0, 0, S, rfl, fun _ => ⟨rfl, rfl, h1, h2⟩, fun e => absurd hk e⟩
    · rw [h.2 hk, zero10]
      exact ⟨0, [], 0, 0, [], false, 0, none, 0, 0, (hdT l).p, 170, [], rfl, fun e => absurd e hk, fun _ => ⟨⟨rfl, rfl, rfl, rfl, rfl, rfl, rfl, rfl, rfl, rfl⟩, rfl, rfl⟩⟩

theorem all_er {s : List UInt8} {p er : Nat} (h : allT s = .error (p, er)) : ¬ er = 0 := by
  unfold allT at h
  split at h
  · simp at h; omega
  · have := lp_fault _ _ _ _ _ (by rw [List.length_drop]; omega) h
    omega

theorem readU_p (s : ByteArray) (w : World) (he : Ev w) (hw6 : 5 < w.heap.size) {r : Rs (List Nd)} (h : PgOf 27 s.data.toList r) :
    Calls Tryz.prog 17 #[.string s, .func (Fn.func 18) #[] #[]] w fun e w' => TrR w r e w' ∧ Below w.heap.size w w' := by
  rcases h with ⟨p, er, h1, rfl⟩ | ⟨ts, f, h1, h2⟩
  · exact (read_bad s _ w he hw6 h1 (all_er h1)).mono (fun e w' h => ⟨RdR.tr (r := .error (er, p)) h.1, h.2⟩)
  · exact (read_p s w he hw6 h1 (all_fin h1).1 (all_fin h1).2 (fun c w h => (all_J f f (Nat.le_refl _)).prog h2 h)).mono (fun e w' h => ⟨h.1.tr, h.2⟩)

set_option maxRecDepth 100000 in
set_option maxHeartbeats 4000000 in
theorem program_any (s : ByteArray) (w : World) (he : Ev w) (hw6 : 5 < w.heap.size) {r : Rs (List Nd)} (h : PgOf 27 s.data.toList r) :
    Calls Tryz.prog 8 #[.string s] w fun e w' => TrR w r e w' ∧ Below w.heap.size w w' := by
  obtain ⟨R, hR⟩ : ∃ R : Ending → World → Prop, ∀ e w', R e w' ↔ TrR w r e w' := ⟨fun e w' => TrR w r e w', fun _ _ => Iff.rfl⟩
  have HR := hide hR
  suffices hX : Calls Tryz.prog 8 #[.string s] w fun e w' => R e w' ∧ Below w.heap.size w w' from hX.mono (fun e w' h => ⟨(hR e w').1 h.1, h.2⟩)
  clear hR
  obtain ⟨G, hG⟩ : ∃ G, w.heap.size = G := ⟨_, rfl⟩
  obtain ⟨w1, hw1⟩ : ∃ w1, w.alloc (.cells ndZ 29) = w1 := ⟨_, rfl⟩
  have A1 : w1.heap[G]? = some (.cells ndZ 29 (0, 0)) := by rw [← hw1, ← hG]; exact heap_alloc_new _ _
  have B1 : Below w.heap.size w w1 := by rw [← hw1]; exact (Below.refl _ _).alloc (Nat.le_refl _) _
  have CR := hide (readU_p s w1 (he.below B1 hw6) (by have := B1.size; omega) h)
  have HW := hide hw1
  have H1 := hide (And.intro A1 (And.intro B1 hG))
  clear he hw6 h A1 B1 hw1
  go_enter Tryz.func8, Tryz.ntmps8
  go_upto_region 1 with fail
  have e1 := unhide HW
  unfold ndZ at e1
  rw [e1]
  clear e1 HW
  go_wp2_with fail
  refine (unhide CR).mono ?_
  rintro e w2 ⟨⟨k, t, vk, vn, vs, f, n, ak, ck, p, pl, er, S, rfl, HX⟩, b2⟩
  obtain ⟨A1, B1, hG2⟩ := unhide H1
  have hlt : G < w1.heap.size := (Array.getElem?_eq_some_iff.1 A1).1
  have A2 := (b2.block G hlt).trans A1
  obtain ⟨e0, e1, e2, e3, e4, e5, e6, e7, e8, e9⟩ := row_cell10 A2
  obtain ⟨f0, f1, f2, f3, f4, f5, f6, f7, f8, f9⟩ := frozen10 A2
  have H2 := hide (And.intro A2 (And.intro b2 hlt))
  clear A1 B1 hG2 hlt A2 b2 CR hG
  go_wp2_with fail
  obtain ⟨A2, b2, hlt⟩ := unhide H2
  obtain ⟨A1, B1, hG2⟩ := unhide H1
  have W3 := set10 A2 (.int .i64 (k : Int)) (.string (bA t)) (.int .i64 (vk : Int)) (.int .i64 (vn : Int)) (.string (bA vs)) (.slice none 0 0) (.slice none 0 0) (.bool f) (.slice ak n ck) (.int .i64 (p : Int))
  have O3 : ∀ b, b ≠ G → ((((((((((w2.setCell ⟨G, 0, none⟩ (.int .i64 (k : Int))).setCell ⟨G, 1, none⟩ (.string (bA t))).setCell ⟨G, 2, none⟩ (.int .i64 (vk : Int))).setCell ⟨G, 3, none⟩ (.int .i64 (vn : Int))).setCell ⟨G, 4, none⟩ (.string (bA vs))).setCell ⟨G, 5, none⟩ (.slice none 0 0)).setCell ⟨G, 6, none⟩ (.slice none 0 0)).setCell ⟨G, 7, none⟩ (.bool f)).setCell ⟨G, 8, none⟩ (.slice ak n ck)).setCell ⟨G, 9, none⟩ (.int .i64 (p : Int))).heap[b]? = w2.heap[b]? := fun b hb => by
    iterate 10 rw [heap_setCell_other _ _ _ _ hb]
  have E3 : Below G w2 ((((((((((w2.setCell ⟨G, 0, none⟩ (.int .i64 (k : Int))).setCell ⟨G, 1, none⟩ (.string (bA t))).setCell ⟨G, 2, none⟩ (.int .i64 (vk : Int))).setCell ⟨G, 3, none⟩ (.int .i64 (vn : Int))).setCell ⟨G, 4, none⟩ (.string (bA vs))).setCell ⟨G, 5, none⟩ (.slice none 0 0)).setCell ⟨G, 6, none⟩ (.slice none 0 0)).setCell ⟨G, 7, none⟩ (.bool f)).setCell ⟨G, 8, none⟩ (.slice ak n ck)).setCell ⟨G, 9, none⟩ (.int .i64 (p : Int))) := by
    have e : ∀ (x : World) (f : Nat) (v : Value), Below G w2 x → Below G w2 (x.setCell ⟨G, f, none⟩ v) := fun x f v hx => hx.setCell (p := ⟨G, f, none⟩) (Nat.le_refl _) v
    iterate 10 refine e _ _ _ ?_
    exact Below.refl _ _
  clear e0 e1 e2 e3 e4 e5 e6 e7 e8 e9 f0 f1 f2 f3 f4 f5 f6 f7 f8 f9
  generalize ((((((((((w2.setCell ⟨G, 0, none⟩ (.int .i64 (k : Int))).setCell ⟨G, 1, none⟩ (.string (bA t))).setCell ⟨G, 2, none⟩ (.int .i64 (vk : Int))).setCell ⟨G, 3, none⟩ (.int .i64 (vn : Int))).setCell ⟨G, 4, none⟩ (.string (bA vs))).setCell ⟨G, 5, none⟩ (.slice none 0 0)).setCell ⟨G, 6, none⟩ (.slice none 0 0)).setCell ⟨G, 7, none⟩ (.bool f)).setCell ⟨G, 8, none⟩ (.slice ak n ck)).setCell ⟨G, 9, none⟩ (.int .i64 (p : Int))) = w3 at W3 O3 E3 ⊢
  have bel : Below w.heap.size w w3 := by
    rw [hG2]
    rw [hG2] at B1
    have b2' : Below G w1 w2 := ⟨b2.os, b2.tape, b2.output, b2.size, fun k hk => b2.block k (by omega)⟩
    exact (B1.trans b2').trans E3
  obtain ⟨r0, r1, r2, r3, r4, r5, r6, r7, r8, r9⟩ := row_cell10 W3
  have HE : TrR w r (.returned (.tuple #[.agg #[.int .i64 (k : Int), .string (bA t), .int .i64 (vk : Int), .int .i64 (vn : Int), .string (bA vs), .slice none 0 0, .slice none 0 0, .bool f, .slice ak n ck, .int .i64 (p : Int)], .int .i64 (pl : Int), .int .i64 (er : Int)])) w3 := by
    refine ⟨k, t, vk, vn, vs, f, n, ak, ck, p, pl, er, S, rfl, ?_⟩
    have hx := unhide HX
    match r, hx with
    | .error (a, q), hx => exact hx
    | .ok (ns, l), hx =>
      refine ⟨fun hk => ?_, hx.2⟩
      obtain ⟨h1, h2, h3, h4⟩ := hx.1 hk
      exact ⟨h1, h2, h3, (h4.to (fun b hb _ _ => O3 b (by omega)) E3.size).low (by have := B1.size; omega)⟩
  refine bodyPost_ret (v := .tuple #[.agg #[.int .i64 (k : Int), .string (bA t), .int .i64 (vk : Int), .int .i64 (vn : Int), .string (bA vs), .slice none 0 0, .slice none 0 0, .bool f, .slice ak n ck, .int .i64 (p : Int)], .int .i64 (pl : Int), .int .i64 (er : Int)]) ?_ rfl ⟨((unhide HR) _ _).2 HE, bel⟩
  simp [results, Tryz.results8, go_sem, r0, r1, r2, r3, r4, r5, r6, r7, r8, r9]

theorem readU_e (s : ByteArray) (w : World) (he : Ev w) (hw6 : 5 < w.heap.size) {r : Rs (List Nd)} (h : PgOf 0 s.data.toList r) :
    Calls Tryz.prog 17 #[.string s, .func (Fn.func 22) #[] #[]] w fun e w' => TrR w r e w' ∧ Below w.heap.size w w' := by
  rcases h with ⟨p, er, h1, rfl⟩ | ⟨ts, f, h1, h2⟩
  · exact (read_bad s _ w he hw6 h1 (all_er h1)).mono (fun e w' h => ⟨RdR.tr (r := .error (er, p)) h.1, h.2⟩)
  · exact (read_e s w he hw6 h1 (all_fin h1).1 (all_fin h1).2 (fun c w h => (all_J f f (Nat.le_refl _)).expr h2 h)).mono (fun e w' h => ⟨h.1.tr, h.2⟩)

set_option maxRecDepth 100000 in
set_option maxHeartbeats 4000000 in
theorem expr_any (s : ByteArray) (w : World) (he : Ev w) (hw6 : 5 < w.heap.size) {r : Rs (List Nd)} (h : PgOf 0 s.data.toList r) :
    Calls Tryz.prog 12 #[.string s] w fun e w' => TrR w r e w' ∧ Below w.heap.size w w' := by
  obtain ⟨R, hR⟩ : ∃ R : Ending → World → Prop, ∀ e w', R e w' ↔ TrR w r e w' := ⟨fun e w' => TrR w r e w', fun _ _ => Iff.rfl⟩
  have HR := hide hR
  suffices hX : Calls Tryz.prog 12 #[.string s] w fun e w' => R e w' ∧ Below w.heap.size w w' from hX.mono (fun e w' h => ⟨(hR e w').1 h.1, h.2⟩)
  clear hR
  obtain ⟨G, hG⟩ : ∃ G, w.heap.size = G := ⟨_, rfl⟩
  obtain ⟨w1, hw1⟩ : ∃ w1, w.alloc (.cells ndZ 29) = w1 := ⟨_, rfl⟩
  have A1 : w1.heap[G]? = some (.cells ndZ 29 (0, 0)) := by rw [← hw1, ← hG]; exact heap_alloc_new _ _
  have B1 : Below w.heap.size w w1 := by rw [← hw1]; exact (Below.refl _ _).alloc (Nat.le_refl _) _
  have CR := hide (readU_e s w1 (he.below B1 hw6) (by have := B1.size; omega) h)
  have HW := hide hw1
  have H1 := hide (And.intro A1 (And.intro B1 hG))
  clear he hw6 h A1 B1 hw1
  go_enter Tryz.func12, Tryz.ntmps12
  go_upto_region 1 with fail
  have e1 := unhide HW
  unfold ndZ at e1
  rw [e1]
  clear e1 HW
  go_wp2_with fail
  refine (unhide CR).mono ?_
  rintro e w2 ⟨⟨k, t, vk, vn, vs, f, n, ak, ck, p, pl, er, S, rfl, HX⟩, b2⟩
  obtain ⟨A1, B1, hG2⟩ := unhide H1
  have hlt : G < w1.heap.size := (Array.getElem?_eq_some_iff.1 A1).1
  have A2 := (b2.block G hlt).trans A1
  obtain ⟨e0, e1, e2, e3, e4, e5, e6, e7, e8, e9⟩ := row_cell10 A2
  obtain ⟨f0, f1, f2, f3, f4, f5, f6, f7, f8, f9⟩ := frozen10 A2
  have H2 := hide (And.intro A2 (And.intro b2 hlt))
  clear A1 B1 hG2 hlt A2 b2 CR hG
  go_wp2_with fail
  obtain ⟨A2, b2, hlt⟩ := unhide H2
  obtain ⟨A1, B1, hG2⟩ := unhide H1
  have W3 := set10 A2 (.int .i64 (k : Int)) (.string (bA t)) (.int .i64 (vk : Int)) (.int .i64 (vn : Int)) (.string (bA vs)) (.slice none 0 0) (.slice none 0 0) (.bool f) (.slice ak n ck) (.int .i64 (p : Int))
  have O3 : ∀ b, b ≠ G → ((((((((((w2.setCell ⟨G, 0, none⟩ (.int .i64 (k : Int))).setCell ⟨G, 1, none⟩ (.string (bA t))).setCell ⟨G, 2, none⟩ (.int .i64 (vk : Int))).setCell ⟨G, 3, none⟩ (.int .i64 (vn : Int))).setCell ⟨G, 4, none⟩ (.string (bA vs))).setCell ⟨G, 5, none⟩ (.slice none 0 0)).setCell ⟨G, 6, none⟩ (.slice none 0 0)).setCell ⟨G, 7, none⟩ (.bool f)).setCell ⟨G, 8, none⟩ (.slice ak n ck)).setCell ⟨G, 9, none⟩ (.int .i64 (p : Int))).heap[b]? = w2.heap[b]? := fun b hb => by
    iterate 10 rw [heap_setCell_other _ _ _ _ hb]
  have E3 : Below G w2 ((((((((((w2.setCell ⟨G, 0, none⟩ (.int .i64 (k : Int))).setCell ⟨G, 1, none⟩ (.string (bA t))).setCell ⟨G, 2, none⟩ (.int .i64 (vk : Int))).setCell ⟨G, 3, none⟩ (.int .i64 (vn : Int))).setCell ⟨G, 4, none⟩ (.string (bA vs))).setCell ⟨G, 5, none⟩ (.slice none 0 0)).setCell ⟨G, 6, none⟩ (.slice none 0 0)).setCell ⟨G, 7, none⟩ (.bool f)).setCell ⟨G, 8, none⟩ (.slice ak n ck)).setCell ⟨G, 9, none⟩ (.int .i64 (p : Int))) := by
    have e : ∀ (x : World) (f : Nat) (v : Value), Below G w2 x → Below G w2 (x.setCell ⟨G, f, none⟩ v) := fun x f v hx => hx.setCell (p := ⟨G, f, none⟩) (Nat.le_refl _) v
    iterate 10 refine e _ _ _ ?_
    exact Below.refl _ _
  clear e0 e1 e2 e3 e4 e5 e6 e7 e8 e9 f0 f1 f2 f3 f4 f5 f6 f7 f8 f9
  generalize ((((((((((w2.setCell ⟨G, 0, none⟩ (.int .i64 (k : Int))).setCell ⟨G, 1, none⟩ (.string (bA t))).setCell ⟨G, 2, none⟩ (.int .i64 (vk : Int))).setCell ⟨G, 3, none⟩ (.int .i64 (vn : Int))).setCell ⟨G, 4, none⟩ (.string (bA vs))).setCell ⟨G, 5, none⟩ (.slice none 0 0)).setCell ⟨G, 6, none⟩ (.slice none 0 0)).setCell ⟨G, 7, none⟩ (.bool f)).setCell ⟨G, 8, none⟩ (.slice ak n ck)).setCell ⟨G, 9, none⟩ (.int .i64 (p : Int))) = w3 at W3 O3 E3 ⊢
  have bel : Below w.heap.size w w3 := by
    rw [hG2]
    rw [hG2] at B1
    have b2' : Below G w1 w2 := ⟨b2.os, b2.tape, b2.output, b2.size, fun k hk => b2.block k (by omega)⟩
    exact (B1.trans b2').trans E3
  obtain ⟨r0, r1, r2, r3, r4, r5, r6, r7, r8, r9⟩ := row_cell10 W3
  have HE : TrR w r (.returned (.tuple #[.agg #[.int .i64 (k : Int), .string (bA t), .int .i64 (vk : Int), .int .i64 (vn : Int), .string (bA vs), .slice none 0 0, .slice none 0 0, .bool f, .slice ak n ck, .int .i64 (p : Int)], .int .i64 (pl : Int), .int .i64 (er : Int)])) w3 := by
    refine ⟨k, t, vk, vn, vs, f, n, ak, ck, p, pl, er, S, rfl, ?_⟩
    have hx := unhide HX
    match r, hx with
    | .error (a, q), hx => exact hx
    | .ok (ns, l), hx =>
      refine ⟨fun hk => ?_, hx.2⟩
      obtain ⟨h1, h2, h3, h4⟩ := hx.1 hk
      exact ⟨h1, h2, h3, (h4.to (fun b hb _ _ => O3 b (by omega)) E3.size).low (by have := B1.size; omega)⟩
  refine bodyPost_ret (v := .tuple #[.agg #[.int .i64 (k : Int), .string (bA t), .int .i64 (vk : Int), .int .i64 (vn : Int), .string (bA vs), .slice none 0 0, .slice none 0 0, .bool f, .slice ak n ck, .int .i64 (p : Int)], .int .i64 (pl : Int), .int .i64 (er : Int)]) ?_ rfl ⟨((unhide HR) _ _).2 HE, bel⟩
  simp [results, Tryz.results12, go_sem, r0, r1, r2, r3, r4, r5, r6, r7, r8, r9]
end Go.Proofs.YtgalfhlclmkbfaaGreatDoor
