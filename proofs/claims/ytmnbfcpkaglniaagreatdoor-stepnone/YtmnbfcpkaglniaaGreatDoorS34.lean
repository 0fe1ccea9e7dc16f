/-
  Layer 12 (verify): the walks of Module and Heights; conditions: the package's variables.
  Layer 15 (step): what the functions of a machine answer of no machine; no conditions.
  gas.Cost, and the document's own (layer 11); conditions: the package's variables.
  How an operation of a drawn region is taken ahead, none of them being exempt; no conditions.
-/
import Derived.Test.YtmnbfcpkaglniaaGreatDoorS33
import Derived.Laws.MakeOwn
import Derived.Test.YtmnbfcpkaglniaaGreatDoorS00
import Derived.Test.YtmnbfcpkaglniaaGreatDoorS01
set_option linter.unusedVariables false
set_option linter.unusedSimpArgs false
namespace Go.Proofs.YtmnbfcpkaglniaaGreatDoor
open Go.RowKit
set_option linter.unusedVariables false
set_option linter.unusedSimpArgs false
theorem ret_c1 {P : Program} {fn : Func} {p : Tmp} {T : TypeId} (h : fn.results = #[.cell p T]) (tmps : Array Value) (w : World) (g : Nat) (c : Array Value) (d : TypeDesc) (t : TypeId)
    (hp : tmps.getD p undef = .pointer (some ⟨g, 0, none⟩)) (hb : w.heap[g]? = some (.cells c t (0, 0))) (hu : P.underlying T = some d) (hd : (match d with | .struct _ | .array _ _ => true | _ => false) = true) (hi : (P.info? T).map (·.size) = some c.size) :
    (results fn tmps).run P w = .ok (.agg c) w := by
  have hl := run_loadVar_row (P := P) w g t T c (0, 0) _ hb hu hd hi
  have hp' : tmps[p]?.getD undef = .pointer (some ⟨g, 0, none⟩) := by simpa using hp
  simp [results, h, hp', asAddr, hl]
theorem wpl_makeN {P : Program} {w : World} {ops : Array Oper} {rest : List Oper} {o : Oper} {a : Act} {Q : Exit → Act → World → Prop} (hgd : o.guard = none) (l c : Operand) (T e : TypeId) (i0 : TypeInfo) (z : Value) (ho : o.op = .makeSlice T l c)
    (hu : P.underlying T = some (.slice e)) (hi : P.info? e = some i0) (hz : i0.zero = some z) (n m : Nat) (hl : a.eval l = .int .i64 (n : Int)) (hc : a.eval c = .int .i64 (m : Int)) (hnm : n ≤ m) (hb : i0.bytes * m ≤ 281474976710656) (hm : m ≤ 9223372036854775807)
    (h : ∀ w', Hid (w' = w.alloc (.cells (madeCells z.cells (m * i0.size)) e)) → wpList P ops Q rest (a.put o.dst (.slice (some ⟨w.heap.size, 0, none⟩) n m)) w') : wpList P ops Q (o :: rest) a w := by
  refine wpList_plain hgd fun K hK => ?_
  have hrun := run_make (P := P) w T e i0 z hu hi hz .i64 .i64 (n : Int) (m : Int) (by omega) (by omega) (by have e : ((i0.bytes * m : Nat) : Int) = (i0.bytes : Int) * (m : Int) := Int.natCast_mul _ _; omega) (by omega)
  unfold Oper.wp
  simp only [execOp, ho, hl, hc, hrun, Sem.run_bind, Result.andThen]
  exact hK _ _ (h _ (by simp [hide]))
/-- a module's functions are formed, if it is right -/
theorem right_fs {m : Md} (h : rightM m = true) : ∀ f ∈ m.fs, fnB f = true := by
  unfold rightM formedB at h
  simp only [Bool.and_eq_true, List.all_eq_true] at h
  exact h.1.1.2
def fltV (f : Flt) : Array Value := #[.int .i64 f.1, .int .i64 f.2.1, .int .i64 f.2.2]
/-- what look tells, as a fault -/
theorem LookR.flt {w w' : World} {B : Nat} {m : Md} {f : Nat} {fn : Fn} {e : Ending} (h : LookR w w' B m f fn e) (hf : m.fs[f]? = some fn) : ∃ pv, e = .returned (.tuple #[pv, .agg (fltV (fltF m f))]) ∧ Below w.heap.size w w' := by
  unfold fltV fltF
  rw [getD_of hf]
  rcases h with ⟨h1, rfl, h2⟩ | ⟨h1, g, hb, x, wv, rfl, h2⟩
  · rw [if_neg h1]
    exact ⟨_, rfl, h2⟩
  · rw [if_pos h1]
    exact ⟨_, rfl, h2.below⟩
set_option maxRecDepth 100000 in
set_option maxHeartbeats 4000000 in
theorem module_any (m : Md) (b1 : Option Addr) (n1 d1 : Nat) (b2 : Option Addr) (n2 d2 : Nat) (b3 : Option Addr) (n3 d3 : Nat) (B : Nat) (w : World)
    (hM : IsM w (fun b => b < B) m b1 d1 b2 d2 b3 d3) (hB : B ≤ w.heap.size) (h1B : 1 < B) (hT : Tab2 w) (hn1 : m.cs.length = n1) (hn2 : m.fs.length = n2) (hn3 : m.xs.length = n3) :
    Calls Tryz.prog 26 #[.agg #[.slice b1 n1 d1, .slice b2 n2 d2, .slice b3 n3 d3]] w fun e w' => e = .returned (.agg (fltV (modF m))) ∧ Below w.heap.size w w' := by
  obtain ⟨G, hG⟩ : ∃ G, w.heap.size = G := ⟨_, rfl⟩
  obtain ⟨w1, hw1⟩ : ∃ w1, w.alloc (.cells #[.slice b1 n1 d1, .slice b2 n2 d2, .slice b3 n3 d3] 47) = w1 := ⟨_, rfl⟩
  have z1 : w1.heap.size = G + 1 := by rw [← hw1, ← hG]; simp
  have A1 : w1.heap[G]? = some (.cells #[.slice b1 n1 d1, .slice b2 n2 d2, .slice b3 n3 d3] 47 (0, 0)) := by rw [← hw1, ← hG]; exact heap_alloc_new _ _
  have B1 : Below w.heap.size w w1 := by rw [← hw1]; exact (Below.refl _ _).alloc (Nat.le_refl _) _
  obtain ⟨w2, hw2⟩ : ∃ w2, w1.alloc (.cells #[.int .i64 0, .int .i64 0, .int .i64 0] 83) = w2 := ⟨_, rfl⟩
  have z2 : w2.heap.size = G + 2 := by rw [← hw2]; simp; omega
  have A2 : w2.heap[G + 1]? = some (.cells #[.int .i64 0, .int .i64 0, .int .i64 0] 83 (0, 0)) := by rw [← hw2, ← z1]; exact heap_alloc_new _ _
  have B2 : Below w1.heap.size w1 w2 := by rw [← hw2]; exact (Below.refl _ _).alloc (Nat.le_refl _) _
  have BW : Below w.heap.size w w2 := B1.trans (B2.mono B1.size)
  have A1' : w2.heap[G]? = some (.cells #[.slice b1 n1 d1, .slice b2 n2 d2, .slice b3 n3 d3] 47 (0, 0)) := (B2.block G (by omega)).trans A1
  obtain ⟨c0, c1, c2⟩ := row_cell3 A1'
  have CR := hide (rightM_any m b1 b2 b3 n1 d1 n2 d2 n3 d3 B w2 hn1 hn2 hn3 (hM.later (BW.mono hB)) (Nat.le_trans hB BW.size))
  have hn2b : n2 ≤ 140737488351232 := by have := hM.len.2.1; omega
  obtain ⟨R, hR⟩ : ∃ R, modF m = R := ⟨_, rfl⟩
  obtain ⟨r, hr⟩ : ∃ r, rightM m = r := ⟨_, rfl⟩
  have hR' := hR
  unfold modF at hR'
  rw [hr] at hR' CR
  rw [hR]
  have HW := hide (And.intro A1' (And.intro A2 BW))
  have HM := hide (And.intro hM (And.intro hB (And.intro h1B (And.intro hT (And.intro hn1 hn2)))))
  have HR := hide (And.intro hR' hr)
  clear hM hT hR hR' hr A1 A2 B1 B2 BW A1' hn1 hn2 hn3
  go_enter Tryz.func26, Tryz.ntmps26
  go_wp2_with fail
  refine (unhide CR).mono ?_
  rintro e w3 ⟨rfl, b3'⟩
  have H3 : Hid (Below w2.heap.size w2 w3) := hide b3'
  have F3 : Hid (w3.heap[G + 1]? = some (.cells #[.int .i64 0, .int .i64 0, .int .i64 0] 83 (0, 0))) := hide ((b3'.block _ (by omega)).trans (unhide HW).2.1)
  have X3 : Hid (Below w.heap.size w w3) := hide ((unhide HW).2.2.trans (b3'.mono (unhide HW).2.2.size))
  have s3 := b3'.size
  clear b3' CR
  cases r with
  | false =>
    have HE : Hid (R = (120, 0, 0)) := hide (by rw [← (unhide HR).1]; rfl)
    obtain ⟨q0, q1, q2⟩ := row_cell3 (unhide F3)
    have y0 := frozen_of_row w3 (G + 1) 0 _ _ (unhide F3)
    have y1 := frozen_of_row w3 (G + 1) 1 _ _ (unhide F3)
    have y2 := frozen_of_row w3 (G + 1) 2 _ _ (unhide F3)
    go_wp2_with fail
    exact bodyPost_ret (ret_c1 (p := 2) (T := 83) rfl _ _ (G + 1) _ _ _ rfl (set3 (unhide F3) _ _ _) Tryz.underlying83 rfl size_flt) rfl ⟨by rw [unhide HE]; rfl, set3_below (unhide X3) (by omega) _ _ _⟩
  | true =>
    have HE : Hid (modN m n2 0 = R) := hide (by rw [← (unhide HR).1, if_pos rfl, (unhide HM).2.2.2.2.2])
    have A3 : Hid (w3.heap[G]? = some (.cells #[.slice b1 n1 d1, .slice b2 n2 d2, .slice b3 n3 d3] 47 (0, 0))) := hide (((unhide H3).block _ (by omega)).trans (unhide HW).1)
    obtain ⟨m0, m1, m2⟩ := row_cell3 (unhide A3)
    clear c0 c1 c2
    go_wp2_with fail
    go_loopw [13] (fun v wr => ∃ i : Nat, v = .int .i64 (i : Int) ∧ Hid (i ≤ n2) ∧ Hid (Below w3.heap.size w3 wr ∧ modN m (n2 - i) i = R)) (fun v _ => n2 - (intOf v).toNat)
    case atStart => exact ⟨0, rfl, hide (by omega), hide ⟨Below.refl _ _, by rw [Nat.sub_zero]; exact unhide HE⟩⟩
    case round =>
      obtain ⟨i, rfl, Hi, HX⟩ := hrel
      have X4 : Hid (Below w.heap.size w wr) := hide ((unhide X3).trans ((unhide HX).1.mono (unhide X3).size))
      have A4 := ((unhide HX).1.block G (by omega)).trans (unhide A3)
      have F4 : Hid (wr.heap[G + 1]? = some (.cells #[.int .i64 0, .int .i64 0, .int .i64 0] 83 (0, 0))) := hide (((unhide HX).1.block _ (by omega)).trans (unhide F3))
      have s4 := (unhide HX).1.size
      obtain ⟨e0, e1, e2⟩ := row_cell3 A4
      clear A4 m0 m1 m2
      by_cases hlt : i < n2
      · have j1 : (i : Int) < (n2 : Int) := by omega
        obtain ⟨⟨p, l, s, tt⟩, hy⟩ : ∃ y, m.fs[i]? = some y := ⟨_, List.getElem?_eq_getElem (by have := (unhide HM).2.2.2.2.2; omega)⟩
        obtain ⟨hM, hB, h1B, hT, hn1, hn2⟩ := unhide HM
        have CL := hide ((look_any m b1 n1 d1 b2 n2 d2 b3 n3 d3 B i p l s tt wr (hM.later ((unhide X4).mono hB)) (Nat.le_trans hB (unhide X4).size) h1B (hT.below (unhide X4)) hn1 hn2 hy (right_fs (unhide HR).2)).mono (fun e u h => h.flt hy))
        obtain ⟨k, hk⟩ : ∃ k, n2 - i = k + 1 := ⟨n2 - i - 1, by omega⟩
        have hst := (unhide HX).2
        rw [hk] at hst
        unfold modN at hst
        obtain ⟨⟨fa, fb, fc⟩, hfl⟩ : ∃ fl, fltF m i = fl := ⟨_, rfl⟩
        rw [hfl] at hst CL
        simp only [fltV] at CL
        have HST := hide (And.intro hst (And.intro hk (And.intro hM (And.intro hB hT))))
        clear hst hk hfl hy hM hB h1B hT hn1 hn2
        go_wp2_with fail
        refine (unhide CL).mono ?_
        rintro e w5 ⟨pv, rfl, b5⟩
        have H5 : Hid (Below w.heap.size w w5) := hide ((unhide X4).trans (b5.mono (unhide X4).size))
        have H5' : Hid (Below w3.heap.size w3 w5) := hide ((unhide HX).1.trans (b5.mono (unhide HX).1.size))
        have F5 : Hid (w5.heap[G + 1]? = some (.cells #[.int .i64 0, .int .i64 0, .int .i64 0] 83 (0, 0))) := hide ((b5.block _ (by omega)).trans (unhide F4))
        have s5 := b5.size
        clear b5 CL e0 e1 e2
        obtain ⟨w6, hw6⟩ : ∃ w6, w5.alloc (.cells #[.int .i64 fa, .int .i64 fb, .int .i64 fc] 83) = w6 := ⟨_, rfl⟩
        have A6 : w6.heap[w5.heap.size]? = some (.cells #[.int .i64 fa, .int .i64 fb, .int .i64 fc] 83 (0, 0)) := by rw [← hw6]; exact heap_alloc_new _ _
        have B6 : Below w5.heap.size w5 w6 := by rw [← hw6]; exact (Below.refl _ _).alloc (Nat.le_refl _) _
        obtain ⟨k0, k1, k2⟩ := row_cell3 A6
        have H6 : Hid (Below w.heap.size w w6) := hide ((unhide H5).trans (B6.mono (unhide H5).size))
        have H6' : Hid (Below w3.heap.size w3 w6) := hide ((unhide H5').trans (B6.mono (unhide H5').size))
        have F6 : Hid (w6.heap[G + 1]? = some (.cells #[.int .i64 0, .int .i64 0, .int .i64 0] 83 (0, 0))) := hide ((B6.block _ (by omega)).trans (unhide F5))
        clear A6 B6
        by_cases hfa : fa = 0
        · subst hfa
          have HN : Hid (modN m (n2 - (i + 1)) (i + 1) = R) := hide (by
            have := (unhide HST).1
            rw [if_pos (by trivial)] at this
            rw [show n2 - (i + 1) = k by have := (unhide HST).2.1; omega]
            exact this)
          go_wp2_with fail
          go_roundw
          case rel => exact ⟨i + 1, by go_num, hide (by omega), hide ⟨unhide H6', unhide HN⟩⟩
          case measure => simp [intOf]; omega
        · have qfa : (fa == 0) = false := by simpa using hfa
          have HN : Hid (R = (fa, fb, fc)) := hide (by
            have := (unhide HST).1
            rw [if_neg hfa] at this
            exact this.symm)
          obtain ⟨q0, q1, q2⟩ := row_cell3 (unhide F6)
          have y0 := frozen_of_row w6 (G + 1) 0 _ _ (unhide F6)
          have y1 := frozen_of_row w6 (G + 1) 1 _ _ (unhide F6)
          have y2 := frozen_of_row w6 (G + 1) 2 _ _ (unhide F6)
          go_wp2_with fail
          exact bodyPost_ret (ret_c1 (p := 2) (T := 83) rfl _ _ (G + 1) _ _ _ rfl (set3 (unhide F6) _ _ _) Tryz.underlying83 rfl size_flt) rfl ⟨by rw [unhide HN]; rfl, set3_below (unhide H6) (by omega) _ _ _⟩
      · have j1 : ¬ (i : Int) < (n2 : Int) := by omega
        have HN : Hid (R = (0, 0, 0)) := hide (by
          rw [← (unhide HX).2, show n2 - i = 0 by omega]
          rfl)
        obtain ⟨q0, q1, q2⟩ := row_cell3 (unhide F4)
        have y0 := frozen_of_row wr (G + 1) 0 _ _ (unhide F4)
        have y1 := frozen_of_row wr (G + 1) 1 _ _ (unhide F4)
        have y2 := frozen_of_row wr (G + 1) 2 _ _ (unhide F4)
        go_wp2_with fail
        exact bodyPost_ret (ret_c1 (p := 2) (T := 83) rfl _ _ (G + 1) _ _ _ rfl (set3 (unhide F4) _ _ _) Tryz.underlying83 rfl size_flt) rfl ⟨by rw [unhide HN]; rfl, by first | exact set3_below (unhide X4) (by omega) _ _ _ | (rw [← hG]; exact set3_below (unhide X4) (by omega) _ _ _)⟩
theorem size_ins0 : (Tryz.prog.info? 36).map (·.size) = some 2 := by kernel_rfl
theorem size_view : (Tryz.prog.info? 33).map (·.size) = some 12 := by kernel_rfl
theorem goes_none (w : World) : Calls Tryz.prog 11 #[.pointer none] w fun e w' => e = .returned (.bool false) ∧ w' = w := by
  go_enter Tryz.func11, Tryz.ntmps11
  go_wp2_with fail
  go_ret
  exact ⟨rfl, rfl⟩
theorem step_none0 (w : World) : Calls Tryz.prog 5 #[.pointer none] w fun e w' => e = .returned (.bool false) ∧ w' = w := by
  go_enter Tryz.func5, Tryz.ntmps5
  go_wp2_with fail
  refine (goes_none w).mono ?_
  rintro e w1 ⟨rfl, rfl⟩
  go_wp2_with fail
  go_ret
  exact ⟨rfl, rfl⟩
theorem run_none0 (m : Int) (w : World) : Calls Tryz.prog 6 #[.pointer none, .int .i64 m] w fun e w' => e = .returned (.int .i64 0) ∧ w' = w := by
  have C := hide (step_none0 w)
  go_enter Tryz.func6, Tryz.ntmps6
  go_wp2_with fail
  go_loopw [5] (fun d wr => d = .int .i64 0 ∧ wr = w) (fun _ _ => 0)
  case atStart => exact ⟨rfl, rfl⟩
  case round =>
    obtain ⟨rfl, rfl⟩ := hrel
    by_cases h : (0 : Int) < m
    · go_wp2_with fail
      refine (unhide C).mono ?_
      rintro e w1 ⟨rfl, rfl⟩
      go_wp2_with fail
      go_ret
      exact ⟨rfl, rfl⟩
    · go_wp2_with fail
      go_ret
      exact ⟨rfl, rfl⟩
theorem next_none0 (w : World) : Calls Tryz.prog 8 #[.pointer none] w fun e w' => e = .returned (.tuple #[.agg #[.int .i64 0, .int .i64 0], .bool false]) ∧ Below w.heap.size w w' := by
  go_enter Tryz.func8, Tryz.ntmps8
  go_wp2_with fail
  refine (goes_none _).mono ?_
  rintro e w1 ⟨rfl, rfl⟩
  go_wp2_with fail
  exact bodyPost_ret (ret_ct (p := 2) (u := 3) (T := 36) rfl _ _ w.heap.size #[.int .i64 0, .int .i64 0] _ _ rfl (heap_alloc_new _ _) Tryz.underlying36 rfl size_ins0) rfl ⟨rfl, (Below.refl _ _).alloc (Nat.le_refl _) _⟩
theorem view_none0 (w : World) : Calls Tryz.prog 7 #[.pointer none] w fun e w' => e = .returned (.agg #[.slice none 0 0, .int .i64 0, .int .i64 0, .bool false, .int .i64 0, .int .i64 0, .int .i64 0, .string ⟨#[]⟩, .slice none 0 0, .slice none 0 0, .int .i64 0, .int .i64 0]) ∧ Below w.heap.size w w' := by
  go_enter Tryz.func7, Tryz.ntmps7
  go_wp2_with fail
  exact bodyPost_ret (ret_c1 (p := 2) (T := 33) rfl _ _ w.heap.size _ _ _ rfl (heap_alloc_new _ _) Tryz.underlying33 rfl size_view) rfl ⟨rfl, (Below.refl _ _).alloc (Nat.le_refl _) _⟩
/-- what Cost answers -/
def costA (n m : Int) : Int × Int :=
  if (infoA n).2 then (if 0 ≤ m ∧ m ≤ 1048576 then (wrap64 ((infoA n).1.2.2.2.2.1 + wrap64 ((infoA n).1.2.2.2.2.2 * m)), 0) else (0, 2)) else (0, 111)
set_option maxRecDepth 100000 in
theorem cost_any (n m : Int) (w : World) (h : Tab w) : Calls Tryz.prog 14 #[.int .i64 n, .int .i64 m] w fun e w' => e = .returned (.tuple #[.int .i64 (costA n m).1, .int .i64 (costA n m).2]) ∧ Below w.heap.size w w' := by
  have C := hide (info_any n w h)
  obtain ⟨R, hR⟩ : ∃ R, costA n m = R := ⟨_, rfl⟩
  rw [hR]
  unfold costA at hR
  obtain ⟨x, hx⟩ : ∃ x, infoA n = x := ⟨_, rfl⟩
  rw [hx] at C hR
  obtain ⟨⟨s, a, b, c, d, f⟩, t⟩ := x
  simp only [infV] at C hR
  clear h hx
  cases t
  · obtain rfl : R = (0, 111) := by rw [← hR]; rfl
    clear hR
    go_enter Tryz.func14, Tryz.ntmps14
    go_wp2_with fail
    refine (unhide C).mono ?_
    rintro e w1 ⟨rfl, B1⟩
    have H1 := hide B1
    clear B1
    go_wp2_with fail
    go_ret2
    exact ⟨rfl, (unhide H1).alloc (unhide H1).size _⟩
  · by_cases m0 : m < 0
    · obtain rfl : R = (0, 2) := by rw [← hR, if_pos rfl, if_neg (by omega)]
      clear hR
      go_enter Tryz.func14, Tryz.ntmps14
      go_wp2_with fail
      refine (unhide C).mono ?_
      rintro e w1 ⟨rfl, B1⟩
      have H1 := hide B1
      clear B1
      go_wp2_with fail
      go_ret2
      exact ⟨rfl, (unhide H1).alloc (unhide H1).size _⟩
    · have m0' : 0 ≤ m := by omega
      by_cases m1 : 1048576 < m
      · obtain rfl : R = (0, 2) := by rw [← hR, if_pos rfl, if_neg (by omega)]
        clear hR
        go_enter Tryz.func14, Tryz.ntmps14
        go_wp2_with fail
        refine (unhide C).mono ?_
        rintro e w1 ⟨rfl, B1⟩
        have H1 := hide B1
        clear B1
        go_wp2_with fail
        go_ret2
        exact ⟨rfl, (unhide H1).alloc (unhide H1).size _⟩
      · have m1' : m ≤ 1048576 := by omega
        obtain rfl : R = (wrap64 (d + wrap64 (f * m)), 0) := by rw [← hR, if_pos rfl, if_pos ⟨m0', m1'⟩]
        clear hR
        go_enter Tryz.func14, Tryz.ntmps14
        go_wp2_with fail
        refine (unhide C).mono ?_
        rintro e w1 ⟨rfl, B1⟩
        have H1 := hide B1
        clear B1
        go_wp2_with fail
        go_ret2
        exact ⟨rfl, (unhide H1).alloc (unhide H1).size _⟩
theorem Till.firstN {P : Program} {ops : Array Oper} {Q : Exit → Act → World → Prop} {md : Region.Mode} {S : World → Prop} {z : Nat} {i : Nat} {oi : Oper} {v : Value} (hi : ops[i]? = some oi) (hz : ops[z]? = Option.none)
    (hsel : ∀ (j : Nat) (o : Oper) cs b, ops[j]? = some o → o.op ≠ .select cs b) (hQ : ∀ c a w, Q (.panic c) (a.put oi.dst v) w → Q (.panic c) a w) :
    ∀ (f : Nat) (listed : Array Bool) (a : Act) (w : World),
      (∀ j oj, ops[j]? = some oj → j ≠ i → listed.getD j true = false → (∀ e ∈ oj.after, Region.binds md e = true → e.on ≠ i) → oi.apart ops oj = true) →
      i ∈ Region.ready md ops listed → YieldsIf P ops S oi v a → S w →
      Till P md ops Q S z f (listed.setIfInBounds i true) (a.put oi.dst v) w → Till P md ops Q S z (f + 1) listed a w := by
  intro f
  induction f with
  | zero =>
    intro listed a w _ hr hy hS H
    refine ⟨fun h => (by rw [h] at hr; cases hr), fun j hj => ?_⟩
    by_cases e : j = i
    · rw [e]
      exact hy.wpOp hi hS ⟨Or.inr hS, H⟩
    · exact absurd (ready_mono hj e) (by rw [H.1]; simp)
  | succ f ih =>
    intro listed a w hfree hr hy hS H
    refine ⟨fun h => (by rw [h] at hr; cases hr), fun j hj => ?_⟩
    by_cases e : j = i
    · rw [e]
      exact hy.wpOp hi hS ⟨Or.inr hS, H⟩
    · obtain ⟨hun, oj, hoj, hall⟩ := mem_ready.1 hj
      have hi0 := (mem_ready.1 hr).1
      have hnot : ∀ x ∈ oj.after, Region.binds md x = true → x.on ≠ i := fun x hx hb he => by
        have h1 := hall x hx hb
        rw [he] at h1
        rcases Nat.lt_or_ge i listed.size with hl | hl
        · simp [hl] at hi0 h1
          rw [hi0] at h1
          cases h1
        · simp [Array.getElem?_eq_none hl] at h1
      have hjz : j ≠ z := fun he => by
        rw [he, hz] at hoj
        cases hoj
      have h2 := wpOp_putIf hoj (hfree j oj hoj e hun hnot) (fun cs b => hsel i oi cs b hi) (fun cs b => hsel j oj cs b hoj) hQ hy (H.2 j (ready_mono hj e))
      refine wpOp_mono (fun a' w' h3 => ?_) h2
      obtain ⟨hy', hS', hT⟩ := h3
      have hSw : S w' := hS'.resolve_left hjz
      refine ⟨Or.inr hSw, ih (listed.setIfInBounds j true) a' w' (fun k ok hk hki hu hno => hfree k ok hk hki ?_ hno) (ready_mono hr (Ne.symm e)) hy' hSw ?_⟩
      · by_cases hjk : j = k
        · rw [← hjk]; exact hun
        · rw [getD_set_ne true hjk] at hu; exact hu
      · rw [Array.setIfInBounds_comm _ _ e]
        exact hT
theorem till_takeN {P : Program} {ops : Array Oper} {Q : Exit → Act → World → Prop} {md : Region.Mode} {S : World → Prop} {z : Nat} {f : Nat} {listed : Array Bool} {a : Act} {w : World} (i : Nat) {oi : Oper} {v : Value} (d : Option Tmp) (hi : ops[i]? = some oi) (hd : oi.dst = d) (hz : ops[z]? = Option.none)
    (hs : Region.noSelect ops = true) (hf : Region.free md ops listed i = true) (hr : (Region.ready md ops listed).contains i = true)
    (hQ : ∀ c a w, Q (.panic c) (a.put d v) w → Q (.panic c) a w) (hy : YieldsIf P ops S oi v a) (hS : S w)
    (h : Till P md ops Q S z f (listed.setIfInBounds i true) (a.put d v) w) : Till P md ops Q S z (f + 1) listed a w := by
  subst hd
  exact Till.firstN hi hz (Region.noSelect_spec hs) hQ f listed a w (Region.free_spec hi hf) (by simpa using hr) hy hS h
end Go.Proofs.YtmnbfcpkaglniaaGreatDoor
