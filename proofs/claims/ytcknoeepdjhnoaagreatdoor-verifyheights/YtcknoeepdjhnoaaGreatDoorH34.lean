/-
  Layer 12 (verify): the walks of Module and Heights; conditions: the package's variables.
-/
import Derived.Test.YtcknoeepdjhnoaaGreatDoorH33
import Derived.Laws.MakeOwn
set_option linter.unusedVariables false
set_option linter.unusedSimpArgs false
namespace Go.Proofs.YtcknoeepdjhnoaaGreatDoor
open Go.RowKit
set_option linter.unusedVariables false
set_option linter.unusedSimpArgs false

theorem ret_c1 {P : Program} {fn : Func} {p : Tmp} {T : TypeId} (h : fn.results = #[.cell p T]) (tmps : Array Value) (w : World) (g : Nat) (c : Array Value) (d : TypeDesc) (t : TypeId)
    (hp : tmps.getD p undef = .pointer (some ⟨g, 0, none⟩)) (hb : w.heap[g]? = some (.cells c t (0, 0))) (hu : P.underlying T = some d) (hd : (match d with | .struct _ | .array _ _ => true | _ => false) = true) (hi : (P.info? T).map (·.size) = some c.size) :
    (results fn tmps).run P w = .ok (.agg c) w := by
  have hl := run_loadVar_row (P := P) w g t T c (0, 0) _ hb hu hd hi
  have hp' : tmps[p]?.getD undef = .pointer (some ⟨g, 0, none⟩) := by simpa using hp
  simp [results, h, hp', asAddr, hl]

theorem wpl_makeN {P : Program} {w : World} {ops : Array Oper} {rest : List Oper} {o : Oper} {a : Act} {Q : Exit → Act → World → Prop} (hgd : o.guard = none) (l c : Operand) (T e : TypeId) (i0 : TypeInfo) (z : Value) (ho : o.op = .makeSlice T l c)
    (hu : P.underlying T = some (.slice e)) (hi : P.info? e = some i0) (hz : i0.zero = some z) (n m : Nat) (hl : a.eval l = .int .i64 (n : Int)) (hc : a.eval c = .int .i64 (m : Int)) (hnm : n ≤ m) (hb : i0.bytes * m ≤ 281474976710656) (hm : m ≤ 9223372036854775807)
    (h : ∀ w', Hid (w' = w.alloc (.cells (madeCells z.cells (m * i0.size)) e)) → wpList P ops Q rest (a.put o.dst (.slice (some ⟨w.heap.size, 0, none⟩) n m)) w') : wpList P ops Q (o :: rest) a w := by
  refine wpList_plain hgd fun K hK => ?_
  have hrun := run_make (P := P) w T e i0 z hu hi hz .i64 .i64 (n : Int) (m : Int) (by omega) (by omega) (by have e : ((i0.bytes * m : Nat) : Int) = (i0.bytes : Int) * (m : Int) := Int.natCast_mul _ _; omega) (by omega)
  unfold Oper.wp
  simp only [execOp, ho, hl, hc, hrun, Sem.run_bind, Result.andThen]
  exact hK _ _ (h _ (by simp [hide]))

/-- a module's functions are formed, if it is right -/
theorem right_fs {m : Md} (h : rightM m = true) : ∀ f ∈ m.fs, fnB f = true := by
  unfold rightM formedB at h
  simp only [Bool.and_eq_true, List.all_eq_true] at h
  exact h.1.1.2

def fltV (f : Flt) : Array Value := #[.int .i64 f.1, .int .i64 f.2.1, .int .i64 f.2.2]

/-- what look tells, as a fault -/
theorem LookR.flt {w w' : World} {B : Nat} {m : Md} {f : Nat} {fn : Fn} {e : Ending} (h : LookR w w' B m f fn e) (hf : m.fs[f]? = some fn) : ∃ pv, e = .returned (.tuple #[pv, .agg (fltV (fltF m f))]) ∧ Below w.heap.size w w' := by
  unfold fltV fltF
  rw [getD_of hf]
  rcases h with ⟨h1, rfl, h2⟩ | ⟨h1, g, hb, x, wv, rfl, h2⟩
  · rw [if_neg h1]
    exact ⟨_, rfl, h2⟩
  · rw [if_pos h1]
    exact ⟨_, rfl, h2.below⟩

set_option maxRecDepth 100000 in
set_option maxHeartbeats 4000000 in
theorem module_any (m : Md) (b1 : Option Addr) (n1 d1 : Nat) (b2 : Option Addr) (n2 d2 : Nat) (b3 : Option Addr) (n3 d3 : Nat) (B : Nat) (w : World)
    (hM : IsM w (fun b => b < B) m b1 d1 b2 d2 b3 d3) (hB : B ≤ w.heap.size) (h1B : 1 < B) (hT : Tab2 w) (hn1 : m.cs.length = n1) (hn2 : m.fs.length = n2) (hn3 : m.xs.length = n3) :
    Calls Tryz.prog 6 #[.agg #[.slice b1 n1 d1, .slice b2 n2 d2, .slice b3 n3 d3]] w fun e w' => e = .returned (.agg (fltV (modF m))) ∧ Below w.heap.size w w' := by
  obtain ⟨G, hG⟩ : ∃ G, w.heap.size = G := ⟨_, rfl⟩
  obtain ⟨w1, hw1⟩ : ∃ w1, w.alloc (.cells #[.slice b1 n1 d1, .slice b2 n2 d2, .slice b3 n3 d3] 27) = w1 := ⟨_, rfl⟩
  have z1 : w1.heap.size = G + 1 := by rw [← hw1, ← hG]; simp
  have A1 : w1.heap[G]? = some (.cells #[.slice b1 n1 d1, .slice b2 n2 d2, .slice b3 n3 d3] 27 (0, 0)) := by rw [← hw1, ← hG]; exact heap_alloc_new _ _
  have B1 : Below w.heap.size w w1 := by rw [← hw1]; exact (Below.refl _ _).alloc (Nat.le_refl _) _
  obtain ⟨w2, hw2⟩ : ∃ w2, w1.alloc (.cells #[.int .i64 0, .int .i64 0, .int .i64 0] 31) = w2 := ⟨_, rfl⟩
  have z2 : w2.heap.size = G + 2 := by rw [← hw2]; simp; omega
  have A2 : w2.heap[G + 1]? = some (.cells #[.int .i64 0, .int .i64 0, .int .i64 0] 31 (0, 0)) := by rw [← hw2, ← z1]; exact heap_alloc_new _ _
  have B2 : Below w1.heap.size w1 w2 := by rw [← hw2]; exact (Below.refl _ _).alloc (Nat.le_refl _) _
  have BW : Below w.heap.size w w2 := B1.trans (B2.mono B1.size)
  have A1' : w2.heap[G]? = some (.cells #[.slice b1 n1 d1, .slice b2 n2 d2, .slice b3 n3 d3] 27 (0, 0)) := (B2.block G (by omega)).trans A1
  obtain ⟨c0, c1, c2⟩ := row_cell3 A1'
  have CR := hide (rightM_any m b1 b2 b3 n1 d1 n2 d2 n3 d3 B w2 hn1 hn2 hn3 (hM.later (BW.mono hB)) (Nat.le_trans hB BW.size))
  have hn2b : n2 ≤ 140737488351232 := by have := hM.len.2.1; omega
  obtain ⟨R, hR⟩ : ∃ R, modF m = R := ⟨_, rfl⟩
  obtain ⟨r, hr⟩ : ∃ r, rightM m = r := ⟨_, rfl⟩
  have hR' := hR
  unfold modF at hR'
  rw [hr] at hR' CR
  rw [hR]
  have HW := hide (And.intro A1' (And.intro A2 BW))
  have HM := hide (And.intro hM (And.intro hB (And.intro h1B (And.intro hT (And.intro hn1 hn2)))))
  have HR := hide (And.intro hR' hr)
  clear hM hT hR hR' hr A1 A2 B1 B2 BW A1' hn1 hn2 hn3
  go_enter Tryz.func6, Tryz.ntmps6
  go_wp2_with fail
  refine (unhide CR).mono ?_
  rintro e w3 ⟨rfl, b3'⟩
  have H3 : Hid (Below w2.heap.size w2 w3) := hide b3'
  have F3 : Hid (w3.heap[G + 1]? = some (.cells #[.int .i64 0, .int .i64 0, .int .i64 0] 31 (0, 0))) := hide ((b3'.block _ (by omega)).trans (unhide HW).2.1)
  have X3 : Hid (Below w.heap.size w w3) := hide ((unhide HW).2.2.trans (b3'.mono (unhide HW).2.2.size))
  have s3 := b3'.size
  clear b3' CR
  cases r with
  | false =>
    have HE : Hid (R = (120, 0, 0)) := hide (by rw [← (unhide HR).1]; rfl)
    obtain ⟨q0, q1, q2⟩ := row_cell3 (unhide F3)
    have y0 := frozen_of_row w3 (G + 1) 0 _ _ (unhide F3)
    have y1 := frozen_of_row w3 (G + 1) 1 _ _ (unhide F3)
    have y2 := frozen_of_row w3 (G + 1) 2 _ _ (unhide F3)
    go_wp2_with fail
    exact bodyPost_ret (ret_c1 (p := 2) (T := 31) rfl _ _ (G + 1) _ _ _ rfl (set3 (unhide F3) _ _ _) Tryz.underlying31 rfl size_flt) rfl ⟨by rw [unhide HE]; rfl, set3_below (unhide X3) (by omega) _ _ _⟩
  | true =>
    have HE : Hid (modN m n2 0 = R) := hide (by rw [← (unhide HR).1, if_pos rfl, (unhide HM).2.2.2.2.2])
    have A3 : Hid (w3.heap[G]? = some (.cells #[.slice b1 n1 d1, .slice b2 n2 d2, .slice b3 n3 d3] 27 (0, 0))) := hide (((unhide H3).block _ (by omega)).trans (unhide HW).1)
    obtain ⟨m0, m1, m2⟩ := row_cell3 (unhide A3)
    clear c0 c1 c2
    go_wp2_with fail
    go_loopw [13] (fun v wr => ∃ i : Nat, v = .int .i64 (i : Int) ∧ Hid (i ≤ n2) ∧ Hid (Below w3.heap.size w3 wr ∧ modN m (n2 - i) i = R)) (fun v _ => n2 - (intOf v).toNat)
    case atStart => exact ⟨0, rfl, hide (by omega), hide ⟨Below.refl _ _, by rw [Nat.sub_zero]; exact unhide HE⟩⟩
    case round =>
      obtain ⟨i, rfl, Hi, HX⟩ := hrel
      have X4 : Hid (Below w.heap.size w wr) := hide ((unhide X3).trans ((unhide HX).1.mono (unhide X3).size))
      have A4 := ((unhide HX).1.block G (by omega)).trans (unhide A3)
      have F4 : Hid (wr.heap[G + 1]? = some (.cells #[.int .i64 0, .int .i64 0, .int .i64 0] 31 (0, 0))) := hide (((unhide HX).1.block _ (by omega)).trans (unhide F3))
      have s4 := (unhide HX).1.size
      obtain ⟨e0, e1, e2⟩ := row_cell3 A4
      clear A4 m0 m1 m2
      by_cases hlt : i < n2
      · have j1 : (i : Int) < (n2 : Int) := by omega
        obtain ⟨⟨p, l, s, tt⟩, hy⟩ : ∃ y, m.fs[i]? = some y := ⟨_, List.getElem?_eq_getElem (by have := (unhide HM).2.2.2.2.2; omega)⟩
        obtain ⟨hM, hB, h1B, hT, hn1, hn2⟩ := unhide HM
        have CL := hide ((look_any m b1 n1 d1 b2 n2 d2 b3 n3 d3 B i p l s tt wr (hM.later ((unhide X4).mono hB)) (Nat.le_trans hB (unhide X4).size) h1B (hT.below (unhide X4)) hn1 hn2 hy (right_fs (unhide HR).2)).mono (fun e u h => h.flt hy))
        obtain ⟨k, hk⟩ : ∃ k, n2 - i = k + 1 := ⟨n2 - i - 1, by omega⟩
        have hst := (unhide HX).2
        rw [hk] at hst
        unfold modN at hst
        obtain ⟨⟨fa, fb, fc⟩, hfl⟩ : ∃ fl, fltF m i = fl := ⟨_, rfl⟩
        rw [hfl] at hst CL
        simp only [fltV] at CL
        have HST := hide (And.intro hst (And.intro hk (And.intro hM (And.intro hB hT))))
        clear hst hk hfl hy hM hB h1B hT hn1 hn2
        go_wp2_with fail
        refine (unhide CL).mono ?_
        rintro e w5 ⟨pv, rfl, b5⟩
        have H5 : Hid (Below w.heap.size w w5) := hide ((unhide X4).trans (b5.mono (unhide X4).size))
        have H5' : Hid (Below w3.heap.size w3 w5) := hide ((unhide HX).1.trans (b5.mono (unhide HX).1.size))
        have F5 : Hid (w5.heap[G + 1]? = some (.cells #[.int .i64 0, .int .i64 0, .int .i64 0] 31 (0, 0))) := hide ((b5.block _ (by omega)).trans (unhide F4))
        have s5 := b5.size
        clear b5 CL e0 e1 e2
        obtain ⟨w6, hw6⟩ : ∃ w6, w5.alloc (.cells #[.int .i64 fa, .int .i64 fb, .int .i64 fc] 31) = w6 := ⟨_, rfl⟩
        have A6 : w6.heap[w5.heap.size]? = some (.cells #[.int .i64 fa, .int .i64 fb, .int .i64 fc] 31 (0, 0)) := by rw [← hw6]; exact heap_alloc_new _ _
        have B6 : Below w5.heap.size w5 w6 := by rw [← hw6]; exact (Below.refl _ _).alloc (Nat.le_refl _) _
        obtain ⟨k0, k1, k2⟩ := row_cell3 A6
        have H6 : Hid (Below w.heap.size w w6) := hide ((unhide H5).trans (B6.mono (unhide H5).size))
        have H6' : Hid (Below w3.heap.size w3 w6) := hide ((unhide H5').trans (B6.mono (unhide H5').size))
        have F6 : Hid (w6.heap[G + 1]? = some (.cells #[.int .i64 0, .int .i64 0, .int .i64 0] 31 (0, 0))) := hide ((B6.block _ (by omega)).trans (unhide F5))
        clear A6 B6
        by_cases hfa : fa = 0
        · subst hfa
          have HN : Hid (modN m (n2 - (i + 1)) (i + 1) = R) := hide (by
            have := (unhide HST).1
            rw [if_pos (by trivial)] at this
            rw [show n2 - (i + 1) = k by have := (unhide HST).2.1; omega]
            exact this)
          go_wp2_with fail
          go_roundw
          case rel => exact ⟨i + 1, by go_num, hide (by omega), hide ⟨unhide H6', unhide HN⟩⟩
          case measure => simp [intOf]; omega
        · have qfa : (fa == 0) = false := by simpa using hfa
          have HN : Hid (R = (fa, fb, fc)) := hide (by
            have := (unhide HST).1
            rw [if_neg hfa] at this
            exact this.symm)
          obtain ⟨q0, q1, q2⟩ := row_cell3 (unhide F6)
          have y0 := frozen_of_row w6 (G + 1) 0 _ _ (unhide F6)
          have y1 := frozen_of_row w6 (G + 1) 1 _ _ (unhide F6)
          have y2 := frozen_of_row w6 (G + 1) 2 _ _ (unhide F6)
          go_wp2_with fail
          exact bodyPost_ret (ret_c1 (p := 2) (T := 31) rfl _ _ (G + 1) _ _ _ rfl (set3 (unhide F6) _ _ _) Tryz.underlying31 rfl size_flt) rfl ⟨by rw [unhide HN]; rfl, set3_below (unhide H6) (by omega) _ _ _⟩
      · have j1 : ¬ (i : Int) < (n2 : Int) := by omega
        have HN : Hid (R = (0, 0, 0)) := hide (by
          rw [← (unhide HX).2, show n2 - i = 0 by omega]
          rfl)
        obtain ⟨q0, q1, q2⟩ := row_cell3 (unhide F4)
        have y0 := frozen_of_row wr (G + 1) 0 _ _ (unhide F4)
        have y1 := frozen_of_row wr (G + 1) 1 _ _ (unhide F4)
        have y2 := frozen_of_row wr (G + 1) 2 _ _ (unhide F4)
        go_wp2_with fail
        exact bodyPost_ret (ret_c1 (p := 2) (T := 31) rfl _ _ (G + 1) _ _ _ rfl (set3 (unhide F4) _ _ _) Tryz.underlying31 rfl size_flt) rfl ⟨by rw [unhide HN]; rfl, by first | exact set3_below (unhide X4) (by omega) _ _ _ | (rw [← hG]; exact set3_below (unhide X4) (by omega) _ _ _)⟩

/-- what Heights answers -/
def HgtR (w w' : World) (m : Md) (f : Int) (e : Ending) : Prop :=
  ∃ ao, (∃ cap, e = .returned (.tuple #[.slice ao (hgtF m f).1.length cap, .agg (fltV (hgtF m f).2)]) ∧ w'.ownsRow w.heap.size 3 1 (.slice ao (hgtF m f).1.length cap) (hgtF m f).1.length ((hgtF m f).1.map (Value.int .i64))) ∧ Below w.heap.size w w'

theorem cells_all {cur : List Value} {zs : List Int} (hl : cur.length = zs.length) (h : ∀ (j : Nat) (z : Int), zs[j]? = some z → cur[j]? = some (Value.int .i64 z)) : cur = zs.map (Value.int .i64) := by
  apply List.ext_getElem?
  intro j
  rw [List.getElem?_map]
  cases e : zs[j]? with
  | none =>
    rw [List.getElem?_eq_none_iff] at e
    rw [List.getElem?_eq_none (by omega)]
    rfl
  | some z => exact h j z e

set_option maxRecDepth 100000 in
set_option maxHeartbeats 4000000 in
theorem heights_any (m : Md) (b1 : Option Addr) (n1 d1 : Nat) (b2 : Option Addr) (n2 d2 : Nat) (b3 : Option Addr) (n3 d3 : Nat) (B : Nat) (f : Int) (w : World)
    (hM : IsM w (fun b => b < B) m b1 d1 b2 d2 b3 d3) (hB : B ≤ w.heap.size) (h1B : 1 < B) (hT : Tab2 w) (hn1 : m.cs.length = n1) (hn2 : m.fs.length = n2) (hn3 : m.xs.length = n3) :
    Calls Tryz.prog 10 #[.agg #[.slice b1 n1 d1, .slice b2 n2 d2, .slice b3 n3 d3], .int .i64 f] w fun e w' => HgtR w w' m f e := by
  obtain ⟨G, hG⟩ : ∃ G, w.heap.size = G := ⟨_, rfl⟩
  obtain ⟨w1, hw1⟩ : ∃ w1, w.alloc (.cells #[.slice b1 n1 d1, .slice b2 n2 d2, .slice b3 n3 d3] 27) = w1 := ⟨_, rfl⟩
  have z1 : w1.heap.size = G + 1 := by rw [← hw1, ← hG]; simp
  have A1 : w1.heap[G]? = some (.cells #[.slice b1 n1 d1, .slice b2 n2 d2, .slice b3 n3 d3] 27 (0, 0)) := by rw [← hw1, ← hG]; exact heap_alloc_new _ _
  have B1 : Below w.heap.size w w1 := by rw [← hw1]; exact (Below.refl _ _).alloc (Nat.le_refl _) _
  obtain ⟨w2, hw2⟩ : ∃ w2, w1.alloc (.cells #[.int .i64 0, .int .i64 0, .int .i64 0] 31) = w2 := ⟨_, rfl⟩
  have z2 : w2.heap.size = G + 2 := by rw [← hw2]; simp; omega
  have A2 : w2.heap[G + 1]? = some (.cells #[.int .i64 0, .int .i64 0, .int .i64 0] 31 (0, 0)) := by rw [← hw2, ← z1]; exact heap_alloc_new _ _
  have B2 : Below w1.heap.size w1 w2 := by rw [← hw2]; exact (Below.refl _ _).alloc (Nat.le_refl _) _
  have BW : Below w.heap.size w w2 := B1.trans (B2.mono B1.size)
  have A1' : w2.heap[G]? = some (.cells #[.slice b1 n1 d1, .slice b2 n2 d2, .slice b3 n3 d3] 27 (0, 0)) := (B2.block G (by omega)).trans A1
  obtain ⟨c0, c1, c2⟩ := row_cell3 A1'
  have CR := hide (rightM_any m b1 b2 b3 n1 d1 n2 d2 n3 d3 B w2 hn1 hn2 hn3 (hM.later (BW.mono hB)) (Nat.le_trans hB BW.size))
  have hn2b : n2 ≤ 140737488351232 := by have := hM.len.2.1; omega
  obtain ⟨⟨RL, RF⟩, hR⟩ : ∃ R, hgtF m f = R := ⟨_, rfl⟩
  obtain ⟨r, hr⟩ : ∃ r, rightM m = r := ⟨_, rfl⟩
  have hR' := hR
  unfold hgtF at hR'
  rw [hr, hn2] at hR'
  rw [hr] at CR
  unfold HgtR
  rw [hR]
  simp only []
  have HW := hide (And.intro A1' (And.intro A2 BW))
  have HM := hide (And.intro hM (And.intro hB (And.intro h1B (And.intro hT (And.intro hn1 hn2)))))
  have HR := hide (And.intro hR' hr)
  clear hM hT hR hR' hr A1 A2 B1 B2 BW A1' hn1 hn2 hn3
  go_enter Tryz.func10, Tryz.ntmps10
  go_wp2_with fail
  refine (unhide CR).mono ?_
  rintro e w3 ⟨rfl, b3'⟩
  have H3 : Hid (Below w2.heap.size w2 w3) := hide b3'
  have F3 : Hid (w3.heap[G + 1]? = some (.cells #[.int .i64 0, .int .i64 0, .int .i64 0] 31 (0, 0))) := hide ((b3'.block _ (by omega)).trans (unhide HW).2.1)
  have X3 : Hid (Below w.heap.size w w3) := hide ((unhide HW).2.2.trans (b3'.mono (unhide HW).2.2.size))
  have A3 : Hid (w3.heap[G]? = some (.cells #[.slice b1 n1 d1, .slice b2 n2 d2, .slice b3 n3 d3] 27 (0, 0))) := hide ((b3'.block _ (by omega)).trans (unhide HW).1)
  have s3 := b3'.size
  clear b3' CR c0 c1 c2
  by_cases hbad : ¬ (r = true ∧ 0 ≤ f ∧ f < (n2 : Int))
  · have HE : Hid (RL = [] ∧ RF = (120, 0, 0)) := hide (by
      have := (unhide HR).1
      rw [if_neg hbad] at this
      cases this
      exact ⟨rfl, rfl⟩)
    obtain ⟨m0, m1, m2⟩ := row_cell3 (unhide A3)
    obtain ⟨q0, q1, q2⟩ := row_cell3 (unhide F3)
    have y0 := frozen_of_row w3 (G + 1) 0 _ _ (unhide F3)
    have y1 := frozen_of_row w3 (G + 1) 1 _ _ (unhide F3)
    have y2 := frozen_of_row w3 (G + 1) 2 _ _ (unhide F3)
    have FIN : Hid (∃ ao, (∃ cap, Ending.returned (.tuple #[.slice none 0 0, .agg #[.int .i64 120, .int .i64 0, .int .i64 0]]) = .returned (.tuple #[.slice ao RL.length cap, .agg (fltV RF)]) ∧ (((w3.setCell ⟨G + 1, 0, none⟩ (.int .i64 120)).setCell ⟨G + 1, 1, none⟩ (.int .i64 0)).setCell ⟨G + 1, 2, none⟩ (.int .i64 0)).ownsRow w.heap.size 3 1 (.slice ao RL.length cap) RL.length (RL.map (Value.int .i64))) ∧ Below w.heap.size w (((w3.setCell ⟨G + 1, 0, none⟩ (.int .i64 120)).setCell ⟨G + 1, 1, none⟩ (.int .i64 0)).setCell ⟨G + 1, 2, none⟩ (.int .i64 0))) := hide (by
      refine ⟨none, ⟨0, ?_, ?_⟩, set3_below (unhide X3) (by omega) _ _ _⟩
      · rw [(unhide HE).1, (unhide HE).2]; rfl
      · rw [(unhide HE).1]; exact World.ownsRow_nil _ _ _ _)
    cases r with
    | false =>
      go_wp2_with fail
      exact bodyPost_ret (ret_tc (p := 5) (u := 4) (T := 31) rfl _ _ (G + 1) _ _ _ rfl (set3 (unhide F3) _ _ _) Tryz.underlying31 rfl size_flt) rfl (unhide FIN)
    | true =>
      by_cases hf0 : f < 0
      · go_wp2_with fail
        exact bodyPost_ret (ret_tc (p := 5) (u := 4) (T := 31) rfl _ _ (G + 1) _ _ _ rfl (set3 (unhide F3) _ _ _) Tryz.underlying31 rfl size_flt) rfl (unhide FIN)
      · have hf1 : (n2 : Int) ≤ f := by
          rcases Int.lt_or_le f (n2 : Int) with h | h
          · exact absurd ⟨rfl, by omega, h⟩ hbad
          · exact h
        clear hbad
        go_wp2_with fail
        exact bodyPost_ret (ret_tc (p := 5) (u := 4) (T := 31) rfl _ _ (G + 1) _ _ _ rfl (set3 (unhide F3) _ _ _) Tryz.underlying31 rfl size_flt) rfl (unhide FIN)
  · have hgd : r = true ∧ 0 ≤ f ∧ f < (n2 : Int) := Classical.not_not.1 hbad
    clear hbad
    obtain ⟨rfl, hf0, hf1⟩ := hgd
    obtain ⟨k, rfl⟩ : ∃ k : Nat, f = (k : Int) := ⟨f.toNat, by omega⟩
    have nf0 : ¬ (k : Int) < 0 := by omega
    have nf1 : ¬ (n2 : Int) ≤ (k : Int) := by omega
    obtain ⟨⟨p, l, s, tt⟩, hy⟩ : ∃ y, m.fs[k]? = some y := ⟨_, List.getElem?_eq_getElem (by have := (unhide HM).2.2.2.2.2; omega)⟩
    obtain ⟨hM, hB, h1B, hT, hn1, hn2⟩ := unhide HM
    have CL := hide (look_any m b1 n1 d1 b2 n2 d2 b3 n3 d3 B k p l s tt w3 (hM.later ((unhide X3).mono hB)) (Nat.le_trans hB (unhide X3).size) h1B (hT.below (unhide X3)) hn1 hn2 hy (right_fs (unhide HR).2))
    have hRR : htsF m k = RL ∧ fltF m k = RF := by
      have := (unhide HR).1
      rw [if_pos ⟨rfl, hf0, hf1⟩, Int.toNat_natCast] at this
      cases this
      exact ⟨rfl, rfl⟩
    unfold htsF fltF at hRR
    rw [getD_of hy] at hRR
    simp only [] at hRR
    have HRR := hide hRR
    have HY := hide hy
    obtain ⟨m0, m1, m2⟩ := row_cell3 (unhide A3)
    clear hRR hM hT hn1 hn2 hy
    go_wp2_with fail
    refine (unhide CL).mono ?_
    rintro e w5 hlk
    clear CL m0 m1 m2
    rcases hlk with ⟨hne, rfl, b5⟩ | ⟨he0, g, hb, x, wv, rfl, L5⟩
    · have H5 : Hid (Below w.heap.size w w5) := hide ((unhide X3).trans (b5.mono (unhide X3).size))
      have F5 : Hid (w5.heap[G + 1]? = some (.cells #[.int .i64 0, .int .i64 0, .int .i64 0] 31 (0, 0))) := hide ((b5.block _ (by omega)).trans (unhide F3))
      have s5 := b5.size
      obtain ⟨⟨rh, ra, re⟩, hlf⟩ : ∃ r, lookF m (p, l, s, tt) = r := ⟨_, rfl⟩
      simp only [hlf] at hne HRR ⊢
      have HE : Hid (RL = [] ∧ RF = (re, (k : Int), ra)) := hide (by
        have := unhide HRR
        rw [if_neg hne, if_neg hne] at this
        exact ⟨this.1.symm, this.2.symm⟩)
      have qre : (re == 0) = false := by simpa using hne
      obtain ⟨w6, hw6⟩ : ∃ w6, w5.alloc (.cells #[.int .i64 re, .int .i64 (k : Int), .int .i64 ra] 31) = w6 := ⟨_, rfl⟩
      have A6 : w6.heap[w5.heap.size]? = some (.cells #[.int .i64 re, .int .i64 (k : Int), .int .i64 ra] 31 (0, 0)) := by rw [← hw6]; exact heap_alloc_new _ _
      have B6 : Below w5.heap.size w5 w6 := by rw [← hw6]; exact (Below.refl _ _).alloc (Nat.le_refl _) _
      obtain ⟨k0, k1, k2⟩ := row_cell3 A6
      have X6 : Hid (Below w.heap.size w w6) := hide ((unhide H5).trans (B6.mono (unhide H5).size))
      have F6 : Hid (w6.heap[G + 1]? = some (.cells #[.int .i64 0, .int .i64 0, .int .i64 0] 31 (0, 0))) := hide ((B6.block _ (by omega)).trans (unhide F5))
      obtain ⟨K5, hK5⟩ : ∃ K5, w5.heap.size = K5 := ⟨_, rfl⟩
      rw [hK5] at k0 k1 k2
      clear b5 A6 B6 hlf
      go_upto_region 5 with fail
      obtain ⟨wd, hwd⟩ : ∃ wd, w6.drew = wd := ⟨_, rfl⟩
      have HS0 : Hid (wd.cell? ⟨K5, 0, none⟩ = some (.int .i64 re) ∧ wd.cell? ⟨K5, 1, none⟩ = some (.int .i64 (k : Int)) ∧ wd.cell? ⟨K5, 2, none⟩ = some (.int .i64 ra)) := hide (by rw [← hwd]; exact ⟨k0, k1, k2⟩)
      have HF6 : Hid (wd.heap[G + 1]? = some (.cells #[.int .i64 0, .int .i64 0, .int .i64 0] 31 (0, 0))) := hide (by rw [← hwd]; exact unhide F6)
      have XD : Hid (Below w.heap.size w wd) := hide (by rw [← hwd]; exact (unhide X6).drew)
      clear k0 k1 k2
      refine till_begin (S := fun w' => w'.cell? ⟨K5, 0, none⟩ = some (.int .i64 re) ∧ w'.cell? ⟨K5, 1, none⟩ = some (.int .i64 (k : Int)) ∧ w'.cell? ⟨K5, 2, none⟩ = some (.int .i64 ra)) 2 (by kernel_rfl) ?_
      rw [hwd]
      clear hwd
      refine till_take 0 (v := .agg #[.int .i64 re, .int .i64 (k : Int), .int .i64 ra]) (some 37) rfl rfl rfl (by kernel_rfl) (by kernel_rfl) (by kernel_rfl) (by kernel_rfl) (fun _ _ _ h => h) (Or.inl ⟨by rfl, fun u hu => by obtain ⟨k0, k1, k2⟩ := hu; go_simp⟩) (unhide HS0) ?_
      try simp only [Act.put, List.setIfInBounds_toArray, List.set_cons_zero, List.set_cons_succ]
      refine till_one 1 (by kernel_rfl) rfl (fun K hK => ?_)
      go_simp
      refine hK.out _ _ (Or.inr (unhide HS0)) ?_
      clear hK K
      try simp only [Act.put, List.setIfInBounds_toArray, List.set_cons_zero, List.set_cons_succ]
      refine till_one 2 (by kernel_rfl) rfl (fun K hK => ?_)
      obtain ⟨q0, q1, q2⟩ := row_cell3 (unhide HF6)
      have y0 := frozen_of_row wd (G + 1) 0 _ _ (unhide HF6)
      have y1 := frozen_of_row wd (G + 1) 1 _ _ (unhide HF6)
      have y2 := frozen_of_row wd (G + 1) 2 _ _ (unhide HF6)
      go_simp
      refine hK.out _ _ (Or.inl (by first | rfl | trivial)) ?_
      clear hK K q0 q1 q2 y0 y1 y2
      try simp only [Act.put, List.setIfInBounds_toArray, List.set_cons_zero, List.set_cons_succ]
      refine till_done (by kernel_rfl) ?_ _
      go_wp2_with fail
      refine bodyPost_ret (ret_tc (p := 5) (u := 4) (T := 31) rfl _ _ (G + 1) _ _ _ rfl (set3 (unhide HF6) _ _ _) Tryz.underlying31 rfl size_flt) rfl ⟨none, ⟨0, ?_, ?_⟩, ?_⟩
      · rw [(unhide HE).1, (unhide HE).2]; rfl
      · rw [(unhide HE).1]; exact World.ownsRow_nil _ _ _ _
      · exact set3_below (unhide XD) (by omega) _ _ _
    · obtain ⟨rb1, rn1, rd1, rb2, rn2, rd2, rb3, rn3, rd3, al, nl, cl, ap, np, cp⟩ := x
      obtain ⟨⟨H, ra, re⟩, hlf⟩ : ∃ r, lookF m (p, l, s, tt) = r := ⟨_, rfl⟩
      rw [hlf] at he0 HRR L5
      simp only [] at he0 HRR L5
      subst he0
      obtain ⟨ps, hps⟩ : ∃ ps, (lsF tt).2.1 = ps := ⟨_, rfl⟩
      have hsee := L5.see
      simp only [hps] at hsee HRR
      have HE : Hid (RL = ps.map (fun p => (H.lookup p).getD (-1)) ∧ RF = (0, 0, 0)) := hide (by
        have := unhide HRR
        rw [if_pos (by trivial), if_pos (by trivial)] at this
        exact ⟨this.1.symm, this.2.symm⟩)
      have hin : ∀ z ∈ ps, i64B z := by
        have hl0 : (lsF tt).2.2.2 = 0 := by
          rcases Classical.em ((lsF tt).2.2.2 = 0) with h | h
          · exact h
          · exfalso
            have h2 := hlf
            unfold lookF at h2
            simp only [if_neg h] at h2
            cases h2
        have hg := (lsF_good hl0).2.1
        rw [hps] at hg
        have htz := (fnB_parts (right_fs (unhide HR).2 _ (List.mem_of_getElem? (unhide HY)))).2.2.2.2
        simp only [] at htz
        intro z hz
        have := hg z hz
        exact i64_of (by omega) (by omega)
      have s5 := L5.below.size
      have HL5 := hide (And.intro L5 (And.intro hsee hin))
      clear L5 hsee hin hps hlf
      go_upto_region 4 with fail
      obtain ⟨L5, hsee, hin⟩ := unhide HL5
      obtain ⟨w6, hw6⟩ : ∃ w6, w5.alloc (.cells #[.int .i64 0, .int .i64 0, .int .i64 0] 31) = w6 := ⟨_, rfl⟩
      rw [hw6]
      have A6 : w6.heap[w5.heap.size]? = some (.cells #[.int .i64 0, .int .i64 0, .int .i64 0] 31 (0, 0)) := by rw [← hw6]; exact heap_alloc_new _ _
      have B6 : Below w5.heap.size w5 w6 := by rw [← hw6]; exact (Below.refl _ _).alloc (Nat.le_refl _) _
      obtain ⟨k0, k1, k2⟩ := row_cell3 A6
      have X6 : Hid (Below w.heap.size w w6) := hide ((unhide X3).trans ((L5.below.trans (B6.mono L5.below.size)).mono (unhide X3).size))
      have F6 : Hid (w6.heap[G + 1]? = some (.cells #[.int .i64 0, .int .i64 0, .int .i64 0] 31 (0, 0))) := hide ((B6.block _ (by omega)).trans ((L5.below.block _ (by omega)).trans (unhide F3)))
      have SB6 := hide (hsee.later B6)
      have hmp := L5.map
      have hhl : hb < w5.heap.size := by obtain ⟨es, ck, h⟩ := hmp.isMap; exact (Array.getElem?_eq_some_iff.1 h).1
      have MP6 : Hid (Hts w6 hb H) := hide (hmp.later (B6.block _ hhl))
      obtain ⟨e0, e1, e2, e3, e4, e5, e6, e7, e8, e9, e10⟩ := (unhide SB6).cells
      simp only [] at e8 e9
      have hnp := (unhide SB6).lp
      have hbp := (unhide SB6).bp
      simp only [] at hnp hbp
      have s6 : w5.heap.size ≤ w6.heap.size := B6.size
      have hgl : g < w6.heap.size := (Array.getElem?_eq_some_iff.1 (unhide SB6).box).1
      have HIN := hide (And.intro hin (And.intro hnp hhl))
      obtain ⟨i3, hi3, hz30, hz31, hz32⟩ := info_parts infoInt
      have HJ := hide (And.intro hi3 (And.intro hz30 (And.intro hz31 hz32)))
      clear A6 B6 L5 hsee hmp e0 e1 e2 e3 e4 e5 e6 e7 e10 hin hw6 HL5 hi3 hz30 hz31 hz32 HRR hnp
      obtain ⟨O, hO⟩ : ∃ O, w6.heap.size = O := ⟨_, rfl⟩
      have tokA : True := trivial
      go_upto_region 7 with (first
        | (at_make; have _t := tokA; refine wpl_makeN rfl _ _ 36 3 i3 _ rfl Tryz.underlying36 (unhide HJ).1 (unhide HJ).2.1 np np rfl rfl (Nat.le_refl _) (by rw [(unhide HJ).2.2.2]; omega) (by omega) ?_; clear tokA; intro w7 hw7))
      have A7 : w7.heap[O]? = some (.cells (madeCells #[.int .i64 0] (np * 1)) 3 (0, 0)) := by rw [unhide hw7, (unhide HJ).2.2.1, ← hO]; exact heap_alloc_new _ _
      have B7 : Below w6.heap.size w6 w7 := by rw [unhide hw7]; exact (Below.refl _ _).alloc (Nat.le_refl _) _
      have X7 : Hid (Below w.heap.size w w7) := hide ((unhide X6).trans (B7.mono (unhide X6).size))
      have sw7 := B7.size
      have HC7 : Hid (∃ cur : List Value, w7.heap[O]? = some (.cells cur.toArray 3 (0, 0)) ∧ cur.length = np) := hide ⟨(madeCells #[.int .i64 0] (np * 1)).toList, by simpa using A7, by rw [Array.length_toList, size_madeCells]; omega⟩
      have hwO : w.heap.size ≤ O := by have := (unhide X6).size; omega
      have KEEP : Hid (∀ u, (∀ b, b ≠ O → u.heap[b]? = w7.heap[b]?) → u.cell? ⟨g, 8, none⟩ = some (.slice ap np cp) ∧ u.cell? ⟨g, 9, none⟩ = some (.map (some hb)) ∧ RdI u ap ps ∧ Hts u hb H ∧ u.heap[G + 1]? = some (.cells #[.int .i64 0, .int .i64 0, .int .i64 0] 31 (0, 0))) := hide (fun u hu => by
        have hlt : ∀ b, b < O → u.heap[b]? = w6.heap[b]? := fun b hb' => (hu b (by omega)).trans (B7.block b (by omega))
        refine ⟨cell_ne e8 (hlt _ (by have := cell_lt e8; omega)), cell_ne e9 (hlt _ (by have := cell_lt e9; omega)), fun j z hj => ?_, (unhide MP6).later (hlt _ (by have := (unhide HIN).2.2; omega)), ?_⟩
        · obtain ⟨a, ha, hc⟩ := (unhide SB6).pls j z hj
          exact ⟨a, ha, cell_ne hc (hlt _ (by have := cell_lt hc; omega))⟩
        · exact (hlt _ (by have := (Array.getElem?_eq_some_iff.1 (unhide F6)).1; omega)).trans (unhide F6))
      have hOg : ¬ O = g := by omega
      have hlp : ps.length = np := (unhide HIN).2.1
      have HLP := hide hlp
      have K0 := unhide KEEP w7 (fun _ _ => rfl)
      obtain ⟨e8', e9', _⟩ := K0
      clear e8 e9 A7 B7 hw7 hlp k0 k1 k2
      go_wp2_with fail
      go_loopw [49] (fun v wr => ∃ i : Nat, v = .int .i64 (i : Int) ∧ Hid (i ≤ np) ∧ Hid ((∀ b, b ≠ O → wr.heap[b]? = w7.heap[b]?) ∧ wr.heap.size = w7.heap.size ∧ Below w.heap.size w wr ∧ ∃ cur : List Value, wr.heap[O]? = some (.cells cur.toArray 3 (0, 0)) ∧ cur.length = np ∧ ∀ j z, j < i → ps[j]? = some z → cur[j]? = some (.int .i64 ((H.lookup z).getD (-1))))) (fun v _ => np - (intOf v).toNat)
      case atStart =>
        obtain ⟨cur, h1, h2⟩ := unhide HC7
        exact ⟨0, rfl, hide (by omega), hide ⟨fun _ _ => rfl, rfl, unhide X7, cur, h1, h2, fun j z hj => by omega⟩⟩
      case round =>
        obtain ⟨i, rfl, Hi, HX⟩ := hrel
        clear e8' e9'
        obtain ⟨f8, f9, frd, fmp, ff1⟩ := unhide KEEP wr (unhide HX).1
        obtain ⟨cur, hcr, hcl, hcj⟩ := (unhide HX).2.2.2
        by_cases hlt : i < np
        · have j1 : (i : Int) < (np : Int) := by omega
          obtain ⟨z, hz⟩ : ∃ z, ps[i]? = some z := ⟨_, List.getElem?_eq_getElem (by have := unhide HLP; omega)⟩
          obtain ⟨pd, rfl, r2⟩ := frd i z hz
          have hzi := (unhide HIN).1 z (List.mem_of_getElem? hz)
          obtain ⟨cv, hcv⟩ : ∃ cv, cur[i]? = some cv := ⟨_, List.getElem?_eq_getElem (by omega)⟩
          have cO : wr.cell? ⟨O, i, none⟩ = some cv := by rw [cell_of_row wr O i _ _ (0, 0) hcr]; simpa using hcv
          have yO := frozen_of_row wr O i _ _ hcr
          have hset : ∀ (u : World) (c2 : List Value) (v : Value), u.heap[O]? = some (.cells c2.toArray 3 (0, 0)) → (u.setCell ⟨O, i, none⟩ v).heap[O]? = some (.cells (c2.set i v).toArray 3 (0, 0)) := fun u c2 v hu => by
            have := heap_setCell_same u O i _ 3 v hu
            simpa using this
          have HSET := hide hset
          have HCR := hide (And.intro hcr (And.intro hcl (And.intro hcj hz)))
          clear hcr hcl hcj hset hz frd
          go_upto_region 11 with fail
          obtain ⟨u1, hu1⟩ : ∃ u1, wr.setCell ⟨O, i, none⟩ (.int .i64 (-1)) = u1 := ⟨_, rfl⟩
          rw [hu1]
          have o1 : ∀ b, b ≠ O → u1.heap[b]? = w7.heap[b]? := fun b hb' => by rw [← hu1, heap_setCell_other _ _ _ _ hb']; exact (unhide HX).1 b hb'
          have R1 : u1.heap[O]? = some (.cells (cur.set i (.int .i64 (-1))).toArray 3 (0, 0)) := by rw [← hu1]; exact unhide HSET wr cur _ (unhide HCR).1
          have X1 : Below w.heap.size w u1 := by rw [← hu1]; exact (unhide HX).2.2.1.setCell (p := ⟨O, i, none⟩) hwO _
          have sz1 : u1.heap.size = w7.heap.size := by rw [← hu1]; simpa using (unhide HX).2.1
          obtain ⟨g8, g9, grd, gmp, gf1⟩ := unhide KEEP u1 o1
          have hask := gmp.ask hzi 54 Tryz.underlying54
          have cO1 : u1.cell? ⟨O, i, none⟩ = some (.int .i64 (-1)) := by
            rw [cell_of_row u1 O i _ _ (0, 0) R1]
            have hil : i < cur.length := by have := (unhide HCR).2.1; omega
            simp [hil]
          have yO1 := frozen_of_row u1 O i _ _ R1
          have HU1 := hide (And.intro o1 (And.intro R1 (And.intro X1 sz1)))
          clear cO yO r2 f8 f9 fmp ff1 o1 R1 X1 sz1 grd gmp gf1 g8 hu1
          cases hlk : H.lookup z with
          | none =>
            rw [hlk] at hask
            simp only [Option.getD_none, Option.isSome_none] at hask
            have HLK := hide hlk
            clear hlk
            go_wp2_with fail
            go_roundw
            case rel =>
              obtain ⟨o1, R1, X1, sz1⟩ := unhide HU1
              refine ⟨i + 1, by go_num, hide (by omega), hide ⟨o1, sz1, X1, _, R1, by rw [List.length_set]; exact (unhide HCR).2.1, fun j y hj hy => ?_⟩⟩
              rcases Nat.lt_or_ge j i with hji | hji
              · rw [List.getElem?_set_ne (by omega)]
                exact (unhide HCR).2.2.1 j y hji hy
              · obtain rfl : j = i := by omega
                rw [(unhide HCR).2.2.2] at hy
                cases hy
                rw [List.getElem?_set_self (by have := (unhide HCR).2.1; omega), unhide HLK]
                rfl
            case measure => simp [intOf]; omega
          | some h =>
            rw [hlk] at hask
            simp only [Option.getD_some, Option.isSome_some] at hask
            have HLK := hide hlk
            clear hlk
            go_wp2_with fail
            go_roundw
            case rel =>
              obtain ⟨o1, R1, X1, sz1⟩ := unhide HU1
              refine ⟨i + 1, by go_num, hide (by omega), hide ⟨fun b hb' => by rw [heap_setCell_other _ _ _ _ hb']; exact o1 b hb', by simpa using sz1, X1.setCell (p := ⟨O, i, none⟩) hwO _, _, unhide HSET u1 _ _ R1, by rw [List.length_set, List.length_set]; exact (unhide HCR).2.1, fun j y hj hy => ?_⟩⟩
              rcases Nat.lt_or_ge j i with hji | hji
              · rw [List.getElem?_set_ne (by omega), List.getElem?_set_ne (by omega)]
                exact (unhide HCR).2.2.1 j y hji hy
              · obtain rfl : j = i := by omega
                rw [(unhide HCR).2.2.2] at hy
                cases hy
                rw [List.getElem?_set_self (by rw [List.length_set]; have := (unhide HCR).2.1; omega), unhide HLK]
                rfl
            case measure => simp [intOf]; omega
        · have j1 : ¬ (i : Int) < (np : Int) := by omega
          obtain ⟨q0, q1, q2⟩ := row_cell3 ff1
          have y0 := frozen_of_row wr (G + 1) 0 _ _ ff1
          have y1 := frozen_of_row wr (G + 1) 1 _ _ ff1
          have y2 := frozen_of_row wr (G + 1) 2 _ _ ff1
          have HF1 := hide ff1
          have HCR := hide (And.intro hcr (And.intro hcl hcj))
          clear ff1 hcr hcl hcj f8 f9 frd fmp
          go_wp2_with fail
          refine bodyPost_ret (ret_tc (p := 5) (u := 4) (T := 31) rfl _ _ (G + 1) _ _ _ rfl (set3 (unhide HF1) _ _ _) Tryz.underlying31 rfl size_flt) rfl ⟨⟨some ⟨O, 0, none⟩, np, ?_, ?_⟩, ?_⟩
          · rw [(unhide HE).1, (unhide HE).2, List.length_map, unhide HLP]; rfl
          · obtain ⟨hcr, hcl, hcj⟩ := unhide HCR
            have hlen : RL.length = np := by rw [(unhide HE).1, List.length_map, unhide HLP]
            have hGO : ¬ O = G + 1 := by have := (Array.getElem?_eq_some_iff.1 (unhide F6)).1; omega
            have hcur : cur = RL.map (Value.int .i64) := cells_all (by omega) (fun j y hy => by
              rw [(unhide HE).1, List.getElem?_map] at hy
              cases e : ps[j]? with
              | none => rw [e] at hy; cases hy
              | some z =>
                rw [e] at hy
                cases hy
                exact hcj j z (by have := (List.getElem?_eq_some_iff.1 e).1; have := unhide HLP; omega) e)
            rw [hlen]
            refine ⟨by rw [List.length_map]; omega, .inr ⟨O, np, cur.toArray, rfl, by omega, ?_, Nat.le_refl _, by unfold maxLen; omega, by simpa using hcl, by rw [List.take_of_length_le (by simp; omega)]; simpa using hcur⟩⟩
            rw [heap_setCell_other _ _ _ _ hGO, heap_setCell_other _ _ _ _ hGO, heap_setCell_other _ _ _ _ hGO]
            exact hcr
          · have hq := unhide HX
            rw [hG] at hq
            exact set3_below hq.2.2.1 (by omega) _ _ _
end Go.Proofs.YtcknoeepdjhnoaaGreatDoor
