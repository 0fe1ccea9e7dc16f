/-
  store's Get, After, Len, Weight, Open, Checkpoint; conditions: the form's own reach.
-/
import Derived.Test.YtdaooapfokhfcaaGreatA29
import Derived.Deep.AppendLies
namespace Go.Proofs.YtdaooapfokhfcaaGreat
open Go.RowKit
set_option linter.unusedVariables false
set_option linter.unusedSimpArgs false

/-- the zero value -/
def vz : Vl := .mk 0 0 ⟨#[]⟩ [] []
theorem vz_right : rightB vz = true := by
  have e0 : (⟨#[]⟩ : ByteArray).size = 0 := rfl
  simp [vz, rightB, okB, formB, formM, okL_nil, wt, keysW, wtL_nil, e0]

theorem isP_flat (w : World) (P : Nat → Prop) (k n : Int) (s : ByteArray) (bk : 0 ≤ k ∧ k ≤ 5) (bn : -9223372036854775808 ≤ n ∧ n ≤ 9223372036854775807) (bs : s.size ≤ 2048) :
    IsP w P (.mk k n s [] []) (.agg #[.int .i64 k, .int .i64 n, .string s, .slice none 0 0, .slice none 0 0]) := by
  have h := heap_alloc_new w (.cells #[.int .i64 k, .int .i64 n, .string s, .slice none 0 0, .slice none 0 0] 32)
  have hs : (w.alloc (.cells #[.int .i64 k, .int .i64 n, .string s, .slice none 0 0, .slice none 0 0] 32)).heap.size = w.heap.size + 1 := by simp
  generalize w.alloc (.cells #[.int .i64 k, .int .i64 n, .string s, .slice none 0 0, .slice none 0 0] 32) = u at h hs
  have M : Mid u (w.heap.size + 1) w.heap.size k n s [] [] (.slice none 0 0) (.slice none 0 0) 0 0 (fun _ => []) := ⟨h, by omega, by omega, World.ownsRow_nil _ _ _ _, World.ownsRow_nil _ _ _ _, Or.inl rfl, fun c h => by omega, fun c y h => by omega⟩
  exact (M.made rfl rfl (by omega) bn (by omega) (by simp) (by simp) (by simp)).1.to (fun b hb => by omega) (fun b hb => by omega)
theorem vz_is (w : World) (P : Nat → Prop) : IsP w P vz (.agg #[.int .i64 0, .int .i64 0, .string ⟨#[]⟩, .slice none 0 0, .slice none 0 0]) := isP_flat w P 0 0 ⟨#[]⟩ (by omega) (by omega) (by decide)

/-- the least key above another one -/
def aft : Xs → ByteArray → Option ByteArray
  | [], _ => none
  | p :: r, k => if bl k p.1 = true then some p.1 else aft r k

theorem aft_at : ∀ (X : Xs) (k : ByteArray), Rk X → (X[lowK X k + (if (X.map Prod.fst)[lowK X k]? = some k then 1 else 0)]?).map Prod.fst = aft X k
  | [], k, _ => by simp [lowK, aft]
  | p :: r, k, h => by
    have ih := aft_at r k (rk_tail h)
    unfold lowK aft
    by_cases hb : bl p.1 k = true
    · have hn : bl k p.1 = false := by
        cases e : bl k p.1 with
        | false => rfl
        | true => exact absurd (kl_trans hb e) (by rw [kl_irr]; simp)
      rw [if_pos hb, hn]
      simp only [List.map_cons, List.getElem?_cons_succ, Bool.false_eq_true, if_false]
      rw [Nat.add_right_comm, List.getElem?_cons_succ]
      exact ih
    · rw [if_neg hb]
      simp only [List.map_cons, List.getElem?_cons_zero, Option.some.injEq, Nat.zero_add]
      by_cases he : p.1 = k
      · subst he
        rw [if_pos rfl, kl_irr]
        simp only [List.getElem?_cons_succ, Bool.false_eq_true, if_false]
        cases r with
        | nil => rfl
        | cons q r' =>
          have := rk_head h q (List.mem_cons_self ..)
          simp [aft, this]
      · have hk : bl k p.1 = true := by
          rcases kl_tri p.1 k with h1 | h1 | h1
          · exact absurd h1 hb
          · exact absurd h1 he
          · exact h1
        rw [if_neg he, if_pos hk]
        rfl

section
variable {w w' : World} {V V' : Nat → Prop} {t t' : Sx} {X B : Xs} {Bs : List Xs}

set_option maxRecDepth 100000 in
theorem len_store (h : Stt w V t X Bs) : Calls Tryz.prog 15 #[.pointer (some ⟨t.s, 0, none⟩)] w fun e w' => e = .returned (.int .i64 (X.length : Int)) ∧ w' = w := by
  have CR := hide (rows_any h.sto)
  have CL := len_V h.sto.tab
  have hl : (mapK Prod.fst t.l).length = X.length := by rw [mapK_len, ← h.ent]; exact (mapK_len _ _).symm
  rw [hl] at CL
  have CL := hide CL
  clear h hl
  obtain ⟨s, g, v0, l0, W, mv, ms⟩ := t
  dsimp only at CR CL ⊢
  go_enter Tryz.func15, Tryz.ntmps15
  go_wp2_with fail
  refine (unhide CR).mono ?_
  rintro e u1 ⟨rfl, hu1⟩
  obtain rfl := hu1.symm
  clear hu1
  go_wp2_with fail
  refine (unhide CL).mono ?_
  rintro e u1 ⟨rfl, hu1⟩
  obtain rfl := hu1.symm
  clear hu1
  go_wp2_with fail
  go_ret
  exact ⟨rfl, rfl⟩

set_option maxRecDepth 100000 in
theorem weight_store (h : Stt w V t X Bs) : Calls Tryz.prog 23 #[.pointer (some ⟨t.s, 0, none⟩)] w fun e w' => e = .returned (.int .i64 (tot X : Int)) ∧ w' = w := by
  have c1 := h.sto.c1
  rw [h.fine] at c1
  clear h
  obtain ⟨s, g, v0, l0, W, mv, ms⟩ := t
  dsimp only at c1 ⊢
  go_enter Tryz.func23, Tryz.ntmps23
  go_wp2_with fail
  go_ret
  exact ⟨rfl, rfl⟩

theorem Stt.mv_is (h : Stt w V t X Bs) : ∃ ao cap, t.mv = .slice ao Bs.length cap := by
  have hm := h.sto.marks
  rw [h.count] at hm
  rcases hm.2 with ⟨e, e2⟩ | ⟨b, cap, cur, e, _⟩
  · exact ⟨none, 0, by rw [e, e2]⟩
  · exact ⟨_, _, e⟩

set_option maxRecDepth 100000 in
theorem open_store (h : Stt w V t X Bs) : Calls Tryz.prog 25 #[.pointer (some ⟨t.s, 0, none⟩)] w fun e w' => e = .returned (.int .i64 (Bs.length : Int)) ∧ w' = w := by
  have c2 := h.sto.c2
  obtain ⟨ao, cap, hmv⟩ := h.mv_is
  rw [hmv] at c2
  clear h hmv
  obtain ⟨s, g, v0, l0, W, mv, ms⟩ := t
  dsimp only at c2 ⊢
  go_enter Tryz.func25, Tryz.ntmps25
  go_wp2_with fail
  go_ret
  exact ⟨rfl, rfl⟩

set_option maxRecDepth 100000 in
set_option maxHeartbeats 800000 in
theorem get_store (h : Stt w V t X Bs) (k : ByteArray) : Calls Tryz.prog 17 #[.pointer (some ⟨t.s, 0, none⟩), .string k] w fun e w' => ∃ x, e = .returned (.tuple #[x, .bool (lookK X k).isSome]) ∧ Below w.heap.size w w' ∧ IsQ w' (fun b => w.heap.size ≤ b ∧ b < w'.heap.size) ((lookK X k).getD vz) x := by
  obtain ⟨G, hG⟩ : ∃ G, w.heap.size = G := ⟨_, rfl⟩
  obtain ⟨w0, hw0⟩ : ∃ w0, w.alloc (.cells #[.int .i64 0, .int .i64 0, .string ⟨#[]⟩, .slice none 0 0, .slice none 0 0] 32) = w0 := ⟨_, rfl⟩
  have N0 : w0.heap[G]? = some (.cells #[.int .i64 0, .int .i64 0, .string ⟨#[]⟩, .slice none 0 0, .slice none 0 0] 32 (0, 0)) := by rw [← hw0, ← hG]; exact heap_alloc_new w _
  have B0 : Below w.heap.size w w0 := by rw [← hw0]; exact (Below.refl _ _).alloc (Nat.le_refl _) _
  have hz0 : w0.heap.size = G + 1 := by rw [← hw0, ← hG]; simp
  have s0 := h.later B0
  have CR := hide (rows_any s0.sto)
  obtain ⟨t0, t1, t2, t3, t4, t5, t6, t7, t8, b, hb, CG, HV⟩ : ∃ (t0 t1 : Int) (t2 : ByteArray) (t3 : Option Addr) (t4 t5 : Nat) (t6 : Option Addr) (t7 t8 : Nat) (b : Bool), b = (lookK X k).isSome ∧ Hid (Calls Tryz.prog 55 #[.pointer (some ⟨t.g, 0, none⟩), .string k] w0 fun e w' => e = .returned (.tuple #[.agg #[.int .i64 t0, .int .i64 t1, .string t2, .slice t3 t4 t5, .slice t6 t7 t8], .bool b]) ∧ Below w0.heap.size w0 w') ∧ Hid (∀ u, Below w0.heap.size w0 u → IsV u u.heap.size ((lookK X k).getD vz) (.agg #[.int .i64 t0, .int .i64 t1, .string t2, .slice t3 t4 t5, .slice t6 t7 t8]) ∧ rightB ((lookK X k).getD vz) = true) := by
    have CV := get_V s0.sto.tab (mapK_rk _ h.sto.rk) k
    rw [mapK_look] at CV
    rw [h.look]
    cases hO : lookK t.l k with
    | none =>
      rw [hO] at CV
      exact ⟨0, 0, ⟨#[]⟩, none, 0, 0, none, 0, 0, false, rfl, hide CV, hide (fun u hu => ⟨vz_is u _, vz_right⟩)⟩
    | some x =>
      rw [hO] at CV
      have hx := h.sto.ok k x (look_mem hO)
      obtain ⟨⟨t0, t1, t2, t3, t4, t5, t6, t7, t8⟩, xv⟩ := x
      refine ⟨t0, t1, t2, t3, t4, t5, t6, t7, t8, true, rfl, hide CV, hide (fun u hu => ⟨?_, hx.right⟩)⟩
      have su := (s0.later hu).sto
      exact (su.ok k _ (look_mem hO)).is.isV (fun b hb => (su.vs b hb).1)
  rw [← hb]
  obtain ⟨y, hy⟩ : ∃ y, (lookK X k).getD vz = y := ⟨_, rfl⟩
  rw [hy] at HV ⊢
  have H0 := hide (And.intro N0 B0)
  clear h s0 N0 B0 hb hy
  obtain ⟨s, g, v0, l0, W, mv, ms⟩ := t
  dsimp only at CR CG ⊢
  go_enter Tryz.func17, Tryz.ntmps17
  go_wp2_with fail
  refine (unhide CR).mono ?_
  rintro e u1 ⟨rfl, hu1⟩
  obtain rfl := hu1.symm
  clear hu1
  go_wp2_with fail
  refine (unhide CG).mono ?_
  rintro e u2 ⟨rfl, b2⟩
  obtain ⟨P, hP⟩ : ∃ P, u2.heap.size = P := ⟨_, rfl⟩
  obtain ⟨w2, hw2⟩ : ∃ w2, u2.alloc (.cells #[.int .i64 t0, .int .i64 t1, .string t2, .slice t3 t4 t5, .slice t6 t7 t8] 32) = w2 := ⟨_, rfl⟩
  have B2 : Below w0.heap.size w0 w2 := by rw [← hw2]; exact b2.trans ((Below.refl _ _).alloc b2.size _)
  have N2 : w2.heap[P]? = some (.cells #[.int .i64 t0, .int .i64 t1, .string t2, .slice t3 t4 t5, .slice t6 t7 t8] 32 (0, 0)) := by rw [← hw2, ← hP]; exact heap_alloc_new u2 _
  obtain ⟨c0, c1, c2, c3, c4⟩ := row_cell N2
  have CC := hide (copy_any y _ w2.heap.size w2 (unhide HV w2 B2).1 (Nat.le_refl _))
  have hr := (unhide HV w2 B2).2
  have H2 := hide B2
  clear b2 B2 N2 CR CG HV hw0
  go_wp2_with fail
  refine (unhide CC).mono ?_
  rintro e u3 ⟨x3, rfl, b3, q3, -⟩
  have q3 := q3 hr
  obtain ⟨k3, n3, s3, l3, ks3, al3, ak3, cl3, ck3, hv3, rfl⟩ := q3.shape
  clear hv3
  obtain ⟨lc, hlc⟩ : ∃ lc, l3.length = lc := ⟨_, rfl⟩
  obtain ⟨mc, hmc⟩ : ∃ mc, ks3.length = mc := ⟨_, rfl⟩
  rw [hlc, hmc] at q3 ⊢
  have X3 := (unhide H2).trans (b3.mono (unhide H2).size)
  have ATX := (X3.block G (by omega)).trans (unhide H0).1
  obtain ⟨z0, z1, z2, z3, z4⟩ := row_cell ATX
  have fz : ∀ q, u3.frozen? ⟨G, q, none⟩ = false := fun q => frozen_of_row u3 G q _ _ ATX
  have fz0 := fz 0
  have fz1 := fz 1
  have fz2 := fz 2
  have fz3 := fz 3
  have fz4 := fz 4
  have HAT := hide (And.intro ATX (And.intro q3 (And.intro X3 (And.intro (unhide H2).size b3.size))))
  clear fz ATX q3 X3 b3 CC hlc hmc c0 c1 c2 c3 c4 hr
  go_wp2_with fail
  obtain ⟨ATX, q3, X3, z2', z3'⟩ := unhide HAT
  obtain ⟨s1, s2, s3', s4⟩ := setsV (a0 := .int .i64 k3) (a1 := .int .i64 n3) (a2 := .string s3) (a3 := .slice al3 lc cl3) (a4 := .slice ak3 mc ck3) ATX
  refine bodyPost_ret (ret_ctV (p := 4) (u := 5) (T := 32) rfl _ _ G _ _ _ rfl s1 (show Tryz.prog.underlying 32 = some _ from rfl) rfl size_thV) rfl ?_
  have hB := s4 _ _ ((unhide H0).2.trans (X3.mono (unhide H0).2.size)) (by omega)
  have hQ : IsQ _ (fun b => w.heap.size ≤ b ∧ b < (((((u3.setCell ⟨G, 0, none⟩ (.int .i64 k3)).setCell ⟨G, 1, none⟩ (.int .i64 n3)).setCell ⟨G, 2, none⟩ (.string s3)).setCell ⟨G, 3, none⟩ (.slice al3 lc cl3)).setCell ⟨G, 4, none⟩ (.slice ak3 mc ck3)).heap.size) y _ := (q3.move (fun b hb => s3' b (by have := hb.1; omega))).weak (fun b hb => ⟨by have := hb.1; omega, by rw [s2]; exact hb.2⟩)
  refine ⟨_, rfl, ?_, ?_⟩
  · first | exact hB | (rw [← hG]; exact hB)
  · first | exact hQ | (rw [← hG]; exact hQ)

set_option maxRecDepth 100000 in
set_option maxHeartbeats 400000 in
theorem after_gen {g s : Nat} (k : ByteArray) (L : Nat) (b : Bool) (i : Nat) (hi : i = L + (if b = true then 1 else 0)) (hL : L ≤ 1000000) (z : ByteArray) (th : Bool) (t0 t1 : Int) (t2 : ByteArray) (t3 : Option Addr) (t4 t5 : Nat) (t6 : Option Addr) (t7 t8 : Nat) (hz : z.size ≤ 32)
    (CR : ∀ u, Below w.heap.size w u → Calls Tryz.prog 41 #[.pointer (some ⟨s, 0, none⟩)] u fun e w' => e = .returned (.pointer (some ⟨g, 0, none⟩)) ∧ w' = u)
    (CF : Calls Tryz.prog 56 #[.pointer (some ⟨g, 0, none⟩), .string k] w fun e w' => e = .returned (.tuple #[.int .i64 (L : Int), .bool b]) ∧ ∃ q, w' = w.drewN q)
    (CA : ∀ u, Below w.heap.size w u → Calls Tryz.prog 57 #[.pointer (some ⟨g, 0, none⟩), .int .i64 (i : Int)] u fun e w' => e = .returned (.tuple #[.string z, .agg #[.int .i64 t0, .int .i64 t1, .string t2, .slice t3 t4 t5, .slice t6 t7 t8], .bool th]) ∧ Below u.heap.size u w') :
    Calls Tryz.prog 18 #[.pointer (some ⟨s, 0, none⟩), .string k] w fun e w' => e = .returned (.tuple #[.string z, .bool th]) ∧ Below w.heap.size w w' := by
  have HC : Hid (∀ u, Calls Tryz.prog 45 #[.string z] u fun e w' => e = .returned (.string z) ∧ Below u.heap.size u w') := hide (fun u => str_clone z u (by omega))
  have HA := hide CA
  have HR := hide CR
  have CR0 := hide (CR w (Below.refl _ _))
  have CF0 := hide CF
  have HZ := hide hz
  clear CA CR CF hz
  cases b with
  | false =>
    simp only [Bool.false_eq_true, if_false, Nat.add_zero] at hi
    subst hi
    go_enter Tryz.func18, Tryz.ntmps18
    go_wp2_with fail
    refine (unhide CR0).mono ?_
    rintro e u1 ⟨rfl, hu1⟩
    obtain rfl := hu1.symm
    clear hu1
    go_wp2_with fail
    refine (unhide CF0).mono ?_
    rintro e u2 ⟨rfl, q, hq⟩
    have B2 : Below w.heap.size w u2 := by rw [hq]; exact ⟨rfl, rfl, rfl, Nat.le_refl _, fun _ _ => rfl⟩
    have CR2 := hide (unhide HR u2 B2)
    have CA2 := hide (unhide HA u2 B2)
    have H2 := hide B2
    clear hq B2 HR HA CR0 CF0
    go_wp2_with fail
    refine (unhide CR2).mono ?_
    rintro e u3 ⟨rfl, hu3⟩
    obtain rfl := hu3.symm
    clear hu3
    go_wp2_with fail
    refine (unhide CA2).mono ?_
    rintro e u4 ⟨rfl, b4⟩
    obtain ⟨w4, hw4⟩ : ∃ w4, u4.alloc (.cells #[.int .i64 t0, .int .i64 t1, .string t2, .slice t3 t4 t5, .slice t6 t7 t8] 32) = w4 := ⟨_, rfl⟩
    have B4 : Below u2.heap.size u2 w4 := by rw [← hw4]; exact b4.trans ((Below.refl _ _).alloc b4.size _)
    have H4 := hide ((unhide H2).trans (B4.mono (unhide H2).size))
    have CC := hide (unhide HC w4)
    clear b4 B4 CA2 CR2 HC
    go_wp2_with fail
    refine (unhide CC).mono ?_
    rintro e u5 ⟨rfl, b5⟩
    have H5 := hide ((unhide H4).trans (b5.mono (unhide H4).size))
    clear b5 CC
    go_wp2_with fail
    go_ret2
    exact ⟨rfl, unhide H5⟩
  | true =>
    simp only [if_true] at hi
    subst hi
    have w1 : IntKind.i64.wrap ((L : Int) + 1) = ((L + 1 : Nat) : Int) := by rw [IntKind.wrap_i64]; omega
    go_enter Tryz.func18, Tryz.ntmps18
    go_wp2_with fail
    refine (unhide CR0).mono ?_
    rintro e u1 ⟨rfl, hu1⟩
    obtain rfl := hu1.symm
    clear hu1
    go_wp2_with fail
    refine (unhide CF0).mono ?_
    rintro e u2 ⟨rfl, q, hq⟩
    have B2 : Below w.heap.size w u2 := by rw [hq]; exact ⟨rfl, rfl, rfl, Nat.le_refl _, fun _ _ => rfl⟩
    have CR2 := hide (unhide HR u2 B2)
    have CA2 := hide (unhide HA u2 B2)
    have H2 := hide B2
    clear hq B2 HR HA CR0 CF0
    go_wp2_with fail
    refine (unhide CR2).mono ?_
    rintro e u3 ⟨rfl, hu3⟩
    obtain rfl := hu3.symm
    clear hu3
    go_wp2_with fail
    refine (unhide CA2).mono ?_
    rintro e u4 ⟨rfl, b4⟩
    obtain ⟨w4, hw4⟩ : ∃ w4, u4.alloc (.cells #[.int .i64 t0, .int .i64 t1, .string t2, .slice t3 t4 t5, .slice t6 t7 t8] 32) = w4 := ⟨_, rfl⟩
    have B4 : Below u2.heap.size u2 w4 := by rw [← hw4]; exact b4.trans ((Below.refl _ _).alloc b4.size _)
    have H4 := hide ((unhide H2).trans (B4.mono (unhide H2).size))
    have CC := hide (unhide HC w4)
    clear b4 B4 CA2 CR2 HC
    go_wp2_with fail
    refine (unhide CC).mono ?_
    rintro e u5 ⟨rfl, b5⟩
    have H5 := hide ((unhide H4).trans (b5.mono (unhide H4).size))
    clear b5 CC
    go_wp2_with fail
    go_ret2
    exact ⟨rfl, unhide H5⟩

theorem after_store (h : Stt w V t X Bs) (k : ByteArray) : Calls Tryz.prog 18 #[.pointer (some ⟨t.s, 0, none⟩), .string k] w fun e w' => e = .returned (.tuple #[.string ((aft X k).getD ⟨#[]⟩), .bool (aft X k).isSome]) ∧ Below w.heap.size w w' := by
  have hXl : mapK Prod.snd t.l = X := h.ent
  have hl1 : lowK (mapK Prod.fst t.l) k = lowK t.l k := mapK_low _ _ _
  have hl2 : lowK X k = lowK t.l k := by rw [← hXl]; exact mapK_low _ _ _
  have hm1 : (mapK Prod.fst t.l).map Prod.fst = t.l.map Prod.fst := by simp [mapK, Function.comp_def]
  have hm2 : X.map Prod.fst = t.l.map Prod.fst := by rw [← hXl]; simp [mapK, Function.comp_def]
  have hA := aft_at X k h.rk
  rw [hl2, hm2] at hA
  have CF := find_V h.sto.tab (mapK_rk _ h.sto.rk) k
  rw [hl1, hm1] at CF
  have hLb : lowK t.l k ≤ 1000000 := by have := low_le t.l k; have := h.lenL; omega
  obtain ⟨i, hi⟩ : ∃ i, i = lowK t.l k + (if decide ((t.l.map Prod.fst)[lowK t.l k]? = some k) = true then 1 else 0) := ⟨_, rfl⟩
  have hi2 : lowK t.l k + (if (t.l.map Prod.fst)[lowK t.l k]? = some k then 1 else 0) = i := by
    rw [hi]
    by_cases hc : (t.l.map Prod.fst)[lowK t.l k]? = some k
    · rw [if_pos hc, if_pos (decide_eq_true hc)]
    · rw [if_neg hc, if_neg (fun e => hc (of_decide_eq_true e))]
  rw [hi2] at hA
  have CR : ∀ u, Below w.heap.size w u → Calls Tryz.prog 41 #[.pointer (some ⟨t.s, 0, none⟩)] u fun e w' => e = .returned (.pointer (some ⟨t.g, 0, none⟩)) ∧ w' = u := fun u hu => rows_any (h.sto.later hu)
  cases hx : t.l[i]? with
  | none =>
    have hX : X[i]? = none := by rw [← hXl]; simp [mapK, hx]
    rw [hX] at hA
    have e1 : aft X k = none := hA.symm
    rw [e1]
    refine after_gen k _ _ i hi hLb ⟨#[]⟩ false 0 0 ⟨#[]⟩ none 0 0 none 0 0 (by decide) CR CF (fun u hu => ?_)
    refine at_genV _ (i : Int) t.l.length u (by have := List.getElem?_eq_none_iff.1 hx; omega) (fun u' hu' => ?_)
    have := len_V ((h.sto.later hu).later hu').tab
    rw [mapK_len] at this
    exact this
  | some p =>
    obtain ⟨key, ⟨⟨t0, t1, t2, t3, t4, t5, t6, t7, t8⟩, xv⟩⟩ := p
    have hX : X[i]? = some (key, xv) := by rw [← hXl]; simp [mapK, hx]
    rw [hX] at hA
    have e1 : aft X k = some key := hA.symm
    rw [e1]
    refine after_gen k _ _ i hi hLb key true t0 t1 t2 t3 t4 t5 t6 t7 t8 ((h.sto.ok key _ (List.mem_of_getElem? hx)).key.2) CR CF (fun u hu => ?_)
    exact at_inV (h.sto.later hu).tab i key (t0, t1, t2, t3, t4, t5, t6, t7, t8) (by simp [mapK, hx])

theorem infoM : (Tryz.prog.info? 88).map (fun i => (i.zero, i.size, i.bytes)) = some (some (.pointer none), 1, 8) := by kernel_rfl

/-- the marks with one more -/
theorem st_mark (h : Stt w V t X Bs) {w5 w7 : World} {G b cap : Nat} (hb5 : Below w.heap.size w w5) (hG : w.heap.size ≤ G) (hn : w5.heap[G]? = some (.cells #[.slice none 0 0] 112 (0, 0))) (ho : w7.ownsRow 0 88 1 (.slice (some ⟨b, 0, none⟩) (Bs.length + 1) cap) (Bs.length + 1) (ptrs t.ms ++ [.pointer (some ⟨G, 0, none⟩)])) (hg : w5.grownBy w7 t.mv.ownBlock) (hat : t.mv.ownBlock = some b ∨ w.heap.size ≤ b) :
    ∃ t', Stt (w7.setCell ⟨t.s, 2, none⟩ (.slice (some ⟨b, 0, none⟩) (Bs.length + 1) cap)) V t' X (X :: Bs) ∧ Adv w (w7.setCell ⟨t.s, 2, none⟩ (.slice (some ⟨b, 0, none⟩) (Bs.length + 1) cap)) V V t t' ∧ t'.mv = .slice (some ⟨b, 0, none⟩) (Bs.length + 1) cap := by
  have s5 := h.sto.later hb5
  have hf : Fr (fun j => t.mv.ownBlock = some j) w w7 := (Fr.of hb5).trans (G' := fun j => t.mv.ownBlock = some j) ⟨hg.os, hg.tape, hg.output, hg.size, fun j hj hn => hg.block j hj (fun e => hn e.symm)⟩ (fun _ _ e => e)
  have hGn : t.mv.ownBlock ≠ some G := fun e => by
    have := (h.sto.marks.lt G e).2
    omega
  have hn7 : w7.heap[G]? = some (.cells #[.slice none 0 0] 112 (0, 0)) := (hg.block G (Array.getElem?_eq_some_iff.1 hn).1 (fun e => hGn e.symm)).trans hn
  have hlen : (t.ms ++ [(⟨G, .slice none 0 0, []⟩ : Mk)]).length = Bs.length + 1 := by simp [h.count]
  obtain ⟨a, b'⟩ := h.sto.remark (w1 := w7) (mv' := .slice (some ⟨b, 0, none⟩) (Bs.length + 1) cap) (ms' := t.ms ++ [⟨G, .slice none 0 0, []⟩]) (by rw [hlen]; simpa [ptrs] using ho) hf (fun j hj => by
      cases hj
      exact hat) (fun m hm => by
      rcases List.mem_append.1 hm with hm | hm
      · exact .inl hm
      · rw [List.mem_singleton] at hm
        subst hm
        refine .inr ⟨⟨⟨hn7, World.ownsRow_nil _ _ _ _⟩, List.Pairwise.nil, fun k x hx => by cases hx⟩, fun j hj => ?_⟩
        rcases hj with rfl | hj
        · exact hG
        · cases hj) (by
      rw [List.pairwise_append]
      refine ⟨h.sto.apart, by simp, fun a ha m hm j hj hj' => ?_⟩
      rw [List.mem_singleton] at hm
      subst hm
      have h1 := h.sto.lt (.inr (.inr (.inr (.inr ⟨a, ha, hj⟩))))
      rcases hj' with rfl | hj'
      · omega
      · cases hj')
  refine ⟨_, ⟨a, h.ent, h.fine, h.len, h.wt, ?_⟩, b', rfl⟩
  show Chain X (absM (t.ms ++ [⟨G, .slice none 0 0, []⟩])).reverse _
  rw [absM_snoc, List.reverse_append]
  exact chain_new h.ch h.rk h.len h.wt

set_option maxRecDepth 100000 in
set_option maxHeartbeats 1000000 in
theorem checkpoint_store (h : Stt w V t X Bs) (hb : Bs.length ≤ 2000000000000) : Calls Tryz.prog 24 #[.pointer (some ⟨t.s, 0, none⟩)] w fun e w' => e = .returned (.int .i64 ((Bs.length + 1 : Nat) : Int)) ∧ ∃ t', Stt w' V t' X (X :: Bs) ∧ Adv w w' V V t t' := by
  have CR := hide (rows_any h.sto)
  have hsl : t.s < w.heap.size := (Array.getElem?_eq_some_iff.1 h.sto.box).1
  have hne : some t.s ≠ t.mv.ownBlock := fun e => ty_ne ⟨_, h.sto.box⟩ (row_ty h.sto.marks e.symm) (by decide) rfl
  have HSL : Hid ((t.s < w.heap.size ∧ some t.s ≠ t.mv.ownBlock) ∧ ∀ u, Below w.heap.size w u → u.cell? ⟨t.s, 2, none⟩ = some t.mv) := hide ⟨⟨hsl, hne⟩, fun u hu => (h.sto.later hu).c2⟩
  have HFZ : Hid (∀ u, Below w.heap.size w u → u.frozen? ⟨t.s, 2, none⟩ = false) := hide (fun u hu => frozen_of_row u t.s 2 _ _ (h.sto.later hu).box)
  have HOW : Hid (∀ u, Below w.heap.size w u → u.ownsRow 0 88 1 t.mv Bs.length (ptrs t.ms)) := hide (fun u hu => by rw [← h.count]; exact (h.sto.later hu).marks)
  have HM := hide (fun (w5 w7 : World) (b cap : Nat) (h1 : Below w.heap.size w w5) (h2 : w5.heap[w.heap.size]? = some (.cells #[.slice none 0 0] 112 (0, 0))) h3 h4 h5 => st_mark h (b := b) (cap := cap) (w7 := w7) h1 (Nat.le_refl _) h2 h3 h4 h5)
  have HS0 : Hid (w.drew.cell? ⟨t.s, 2, none⟩ = some t.mv) := hide h.sto.c2
  obtain ⟨iv, hiv, hz0, hz1, hz2⟩ := info_parts infoM
  have HI := hide (And.intro hiv (And.intro hz0 (And.intro hz1 hz2)))
  obtain ⟨G, hG⟩ : ∃ G, w.heap.size = G := ⟨_, rfl⟩
  obtain ⟨n, hn⟩ : ∃ n, Bs.length = n := ⟨_, rfl⟩
  rw [hn] at HOW HM hb ⊢
  have hc := h.count
  clear h hsl hne hiv hz0 hz1 hz2 hn hc
  obtain ⟨s, g, v0, l0, W, mv, ms⟩ := t
  dsimp only at CR HSL HFZ HOW HM HS0 ⊢
  obtain ⟨PS, hPS⟩ : ∃ PS, ptrs ms = PS := ⟨_, rfl⟩
  rw [hPS] at HOW HM
  go_enter Tryz.func24, Tryz.ntmps24
  go_wp2_with fail
  refine (unhide CR).mono ?_
  rintro e u1 ⟨rfl, hu1⟩
  obtain rfl := hu1.symm
  clear hu1 CR
  go_upto_region 3 with fail
  refine till_begin (S := fun w' => w'.cell? ⟨s, 2, none⟩ = some mv) 10 (by kernel_rfl) ?_
  refine till_take 0 (v := .pointer (some ⟨s, 0, none⟩)) (some 6) rfl rfl rfl (by kernel_rfl) (by kernel_rfl) (by kernel_rfl) (by kernel_rfl) (fun _ _ _ h => h) (Or.inl ⟨by rfl, fun u hu => by obtain b0 := hu; go_simp⟩) (unhide HS0) ?_
  try simp only [Act.put, List.setIfInBounds_toArray, List.set_cons_zero, List.set_cons_succ]
  refine till_take 1 (v := .pointer (some ⟨s, 0, none⟩)) (some 7) rfl rfl rfl (by kernel_rfl) (by kernel_rfl) (by kernel_rfl) (by kernel_rfl) (fun _ _ _ h => h) (Or.inl ⟨by rfl, fun u hu => by obtain b0 := hu; go_simp⟩) (unhide HS0) ?_
  try simp only [Act.put, List.setIfInBounds_toArray, List.set_cons_zero, List.set_cons_succ]
  refine till_take 2 (v := .pointer (some ⟨s, 0, none⟩)) (some 8) rfl rfl rfl (by kernel_rfl) (by kernel_rfl) (by kernel_rfl) (by kernel_rfl) (fun _ _ _ h => h) (Or.inl ⟨by rfl, fun u hu => by obtain b0 := hu; go_simp⟩) (unhide HS0) ?_
  try simp only [Act.put, List.setIfInBounds_toArray, List.set_cons_zero, List.set_cons_succ]
  refine till_take 3 (v := .pointer (some ⟨s, 2, none⟩)) (some 9) rfl rfl rfl (by kernel_rfl) (by kernel_rfl) (by kernel_rfl) (by kernel_rfl) (fun _ _ _ h => h) (Or.inl ⟨by rfl, fun u hu => by obtain b0 := hu; go_simp⟩) (unhide HS0) ?_
  try simp only [Act.put, List.setIfInBounds_toArray, List.set_cons_zero, List.set_cons_succ]
  refine till_take 4 (v := mv) (some 10) rfl rfl rfl (by kernel_rfl) (by kernel_rfl) (by kernel_rfl) (by kernel_rfl) (fun _ _ _ h => h) (Or.inl ⟨by rfl, fun u hu => by obtain b0 := hu; go_simp⟩) (unhide HS0) ?_
  try simp only [Act.put, List.setIfInBounds_toArray, List.set_cons_zero, List.set_cons_succ]
  refine till_one 5 (by kernel_rfl) rfl (fun K hK => ?_)
  go_simp
  refine (new_U _).mono ?_
  rintro e w5 ⟨rfl, hw5⟩
  have b5 : Below w.heap.size w w5 := by rw [hw5]; exact ((Below.refl _ w).drew).alloc (Nat.le_refl _) _
  have n5 : w5.heap[w.heap.size]? = some (.cells #[.slice none 0 0] 112 (0, 0)) := by rw [hw5]; exact heap_alloc_new w.drew _
  have HS5 : Hid (w5.cell? ⟨s, 2, none⟩ = some mv) := hide ((unhide HSL).2 w5 b5)
  have H5 := hide (And.intro b5 n5)
  have hG5 : w.drew.heap.size = G := hG
  rw [hG5]
  clear b5 n5 hw5
  go_wp2_with fail
  refine hK.out _ _ (Or.inr (unhide HS5)) ?_
  clear hK K HS0
  try simp only [Act.put, List.setIfInBounds_toArray, List.set_cons_zero, List.set_cons_succ]
  refine till_one 6 (by kernel_rfl) rfl (fun K hK => ?_)
  go_simp
  obtain ⟨w6, hw6⟩ : ∃ w6, w5.alloc (.cells #[.pointer (some ⟨G, 0, none⟩)] 88) = w6 := ⟨_, rfl⟩
  have X6 : Below w5.heap.size w5 w6 := by rw [← hw6]; exact (Below.refl _ _).alloc (Nat.le_refl _) _
  have at6 : w6.heap[w5.heap.size]? = some (.cells #[.pointer (some ⟨G, 0, none⟩)] 88 (0, 0)) := by rw [← hw6]; exact heap_alloc_new w5 _
  rw [hw6]
  have b6 : Below w.heap.size w w6 := (unhide H5).1.trans (X6.mono (unhide H5).1.size)
  have HS6 : Hid (w6.cell? ⟨s, 2, none⟩ = some mv) := hide ((unhide HSL).2 w6 b6)
  have n6 := (X6.block w.heap.size (Array.getElem?_eq_some_iff.1 (unhide H5).2).1).trans (unhide H5).2
  have H6 := hide (And.intro b6 n6)
  obtain ⟨h5s, hh5s⟩ : ∃ h5s, w5.heap.size = h5s := ⟨_, rfl⟩
  rw [hh5s] at at6 ⊢
  refine hK.out _ _ (Or.inr (unhide HS6)) ?_
  clear hK K hw6 X6 hh5s b6 n6 HS5
  try simp only [Act.put, List.setIfInBounds_toArray, List.set_cons_zero, List.set_cons_succ]
  refine till_one 7 (by kernel_rfl) rfl (fun K hK => ?_)
  refine step_append_lies _ (by rfl) _ _ 50 (by rfl) 0 88 iv (.pointer none) 1 8 Tryz.underlying50 (unhide HI).1 (unhide HI).2.1 (unhide HI).2.2.1 (unhide HI).2.2.2 rfl (by omega) mv n PS (by rfl) (unhide HOW w6 (unhide H6).1) ⟨h5s, 0, none⟩ 1 1 [.pointer (some ⟨G, 0, none⟩)] (by rfl) (by rfl) (World.news_of_block at6) (by simp [Value.oneCell']) (by omega) (by unfold maxLen; omega) (by omega) (Nat.zero_le _) _ rfl ?_
  intro g7 cap7 w7 hown7 hgrow7 hat7 hlt7
  change K (Act.put _ (some 13) _) w7
  have HS7 : Hid (w7.cell? ⟨s, 2, none⟩ = some mv) := hide (((hgrow7.cell_far ⟨s, 2, none⟩ (Nat.lt_of_lt_of_le (unhide HSL).1.1 (unhide H6).1.size) (unhide HSL).1.2).trans (unhide HS6)))
  have f7 : w7.frozen? ⟨s, 2, none⟩ = false := (hgrow7.frozen_far ⟨s, 2, none⟩ (Nat.lt_of_lt_of_le (unhide HSL).1.1 (unhide H6).1.size) (unhide HSL).1.2).trans (unhide HFZ w6 (unhide H6).1)
  have H7 := hide (And.intro hown7 (And.intro hgrow7 hat7))
  refine hK.out _ _ (Or.inr (unhide HS7)) ?_
  clear hK K hown7 hgrow7 hat7 hlt7 HS6
  try simp only [Act.put, List.setIfInBounds_toArray, List.set_cons_zero, List.set_cons_succ]
  refine till_one 8 (by kernel_rfl) rfl (fun K hK => ?_)
  obtain b0 := unhide HS7
  go_simp
  refine hK.out _ _ (Or.inr (unhide HS7)) ?_
  clear hK K b0
  try simp only [Act.put, List.setIfInBounds_toArray, List.set_cons_zero, List.set_cons_succ]
  refine till_one 9 (by kernel_rfl) rfl (fun K hK => ?_)
  obtain b0 := unhide HS7
  go_simp
  refine hK.out _ _ (Or.inr (unhide HS7)) ?_
  clear hK K b0
  try simp only [Act.put, List.setIfInBounds_toArray, List.set_cons_zero, List.set_cons_succ]
  refine till_one 10 (by kernel_rfl) rfl (fun K hK => ?_)
  have c7 := unhide HS7
  go_simp
  refine hK.out _ _ (Or.inl (by first | rfl | trivial)) ?_
  clear hK K c7 f7
  try simp only [Act.put, List.setIfInBounds_toArray, List.set_cons_zero, List.set_cons_succ]
  refine till_done (by kernel_rfl) ?_ _
  obtain ⟨w8, hw8⟩ : ∃ w8, w7.setCell ⟨s, 2, none⟩ (.slice (some ⟨g7, 0, none⟩) (n + 1) cap7) = w8 := ⟨_, rfl⟩
  have H8 : Hid (∃ t', Stt w8 V t' X (X :: Bs) ∧ Adv w w8 V V ⟨s, g, v0, l0, W, mv, ms⟩ t' ∧ t'.mv = .slice (some ⟨g7, 0, none⟩) (n + 1) cap7) := hide (by
    rw [← hw8]
    refine unhide HM w6 w7 g7 cap7 (unhide H6).1 (unhide H6).2 (by rw [hG]; exact (unhide H7).1) (unhide H7).2.1 ?_
    rcases (unhide H7).2.2 with e | e
    · exact .inl e
    · exact .inr (Nat.le_trans (unhide H6).1.size (by omega)))
  rw [hw8]
  have c8 : w8.cell? ⟨s, 2, none⟩ = some (.slice (some ⟨g7, 0, none⟩) (n + 1) cap7) := by
    obtain ⟨t', h1, h2, h3⟩ := unhide H8
    have h4 := h1.sto.c2
    rw [h3, h2.s] at h4
    exact h4
  clear hw8 H7 H6 HS7 HSL HFZ HOW HM HI hPS
  go_wp2_with fail
  go_ret
  obtain ⟨t', h1, h2, h3⟩ := unhide H8
  exact ⟨by first | rfl | (congr 1), t', h1, h2⟩
end
end Go.Proofs.YtdaooapfokhfcaaGreat
