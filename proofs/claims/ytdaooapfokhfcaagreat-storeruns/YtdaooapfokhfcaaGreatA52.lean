/-
  A nil store: what each call answers; conditions: the form's own reach.
-/
import Derived.Test.YtdaooapfokhfcaaGreatA51
namespace Go.Proofs.YtdaooapfokhfcaaGreat
open Go.RowKit Go.Shelf
set_option linter.unusedVariables false
set_option linter.unusedSimpArgs false

theorem rows_nil (w : World) : Calls Tryz.prog 41 #[.pointer none] w fun e w' => e = .returned (.pointer none) ∧ w' = w := by
  go_enter Tryz.func41, Tryz.ntmps41
  go_wp2_with fail
  go_ret
  exact ⟨rfl, rfl⟩

set_option maxRecDepth 100000 in
set_option maxHeartbeats 800000 in
theorem get_nil (k : ByteArray) (w : World) : Calls Tryz.prog 17 #[.pointer none, .string k] w fun e w' => ∃ x, e = .returned (.tuple #[x, .bool false]) ∧ Below w.heap.size w w' ∧ IsQ w' (fun b => w.heap.size ≤ b ∧ b < w'.heap.size) vz x := by
  obtain ⟨G, hG⟩ : ∃ G, w.heap.size = G := ⟨_, rfl⟩
  obtain ⟨w0, hw0⟩ : ∃ w0, w.alloc (.cells #[.int .i64 0, .int .i64 0, .string ⟨#[]⟩, .slice none 0 0, .slice none 0 0] 32) = w0 := ⟨_, rfl⟩
  have N0 : w0.heap[G]? = some (.cells #[.int .i64 0, .int .i64 0, .string ⟨#[]⟩, .slice none 0 0, .slice none 0 0] 32 (0, 0)) := by rw [← hw0, ← hG]; exact heap_alloc_new w _
  have B0 : Below w.heap.size w w0 := by rw [← hw0]; exact (Below.refl _ _).alloc (Nat.le_refl _) _
  have hz0 : w0.heap.size = G + 1 := by rw [← hw0, ← hG]; simp
  have CR := hide (rows_nil w0)
  obtain ⟨t0, t1, t2, t3, t4, t5, t6, t7, t8, CG, HV⟩ : ∃ (t0 t1 : Int) (t2 : ByteArray) (t3 : Option Addr) (t4 t5 : Nat) (t6 : Option Addr) (t7 t8 : Nat), Hid (Calls Tryz.prog 55 #[.pointer none, .string k] w0 fun e w' => e = .returned (.tuple #[.agg #[.int .i64 t0, .int .i64 t1, .string t2, .slice t3 t4 t5, .slice t6 t7 t8], .bool false]) ∧ Below w0.heap.size w0 w') ∧ Hid (∀ u, Below w0.heap.size w0 u → IsV u u.heap.size vz (.agg #[.int .i64 t0, .int .i64 t1, .string t2, .slice t3 t4 t5, .slice t6 t7 t8]) ∧ rightB vz = true) := ⟨0, 0, ⟨#[]⟩, none, 0, 0, none, 0, 0, hide (get_nilV k w0), hide (fun u hu => ⟨vz_is u _, vz_right⟩)⟩
  obtain ⟨y, hy⟩ : ∃ y, vz = y := ⟨_, rfl⟩
  rw [hy] at HV ⊢
  have H0 := hide (And.intro N0 B0)
  clear N0 B0 hy
  go_enter Tryz.func17, Tryz.ntmps17
  go_wp2_with fail
  refine (unhide CR).mono ?_
  rintro e u1 ⟨rfl, hu1⟩
  obtain rfl := hu1.symm
  clear hu1
  go_wp2_with fail
  refine (unhide CG).mono ?_
  rintro e u2 ⟨rfl, b2⟩
  obtain ⟨P, hP⟩ : ∃ P, u2.heap.size = P := ⟨_, rfl⟩
  obtain ⟨w2, hw2⟩ : ∃ w2, u2.alloc (.cells #[.int .i64 t0, .int .i64 t1, .string t2, .slice t3 t4 t5, .slice t6 t7 t8] 32) = w2 := ⟨_, rfl⟩
  have B2 : Below w0.heap.size w0 w2 := by rw [← hw2]; exact b2.trans ((Below.refl _ _).alloc b2.size _)
  have N2 : w2.heap[P]? = some (.cells #[.int .i64 t0, .int .i64 t1, .string t2, .slice t3 t4 t5, .slice t6 t7 t8] 32 (0, 0)) := by rw [← hw2, ← hP]; exact heap_alloc_new u2 _
  obtain ⟨c0, c1, c2, c3, c4⟩ := row_cell N2
  have CC := hide (copy_any y _ w2.heap.size w2 (unhide HV w2 B2).1 (Nat.le_refl _))
  have hr := (unhide HV w2 B2).2
  have H2 := hide B2
  clear b2 B2 N2 CR CG HV hw0
  go_wp2_with fail
  refine (unhide CC).mono ?_
  rintro e u3 ⟨x3, rfl, b3, q3, -⟩
  have q3 := q3 hr
  obtain ⟨k3, n3, s3, l3, ks3, al3, ak3, cl3, ck3, hv3, rfl⟩ := q3.shape
  clear hv3
  obtain ⟨lc, hlc⟩ : ∃ lc, l3.length = lc := ⟨_, rfl⟩
  obtain ⟨mc, hmc⟩ : ∃ mc, ks3.length = mc := ⟨_, rfl⟩
  rw [hlc, hmc] at q3 ⊢
  have X3 := (unhide H2).trans (b3.mono (unhide H2).size)
  have ATX := (X3.block G (by omega)).trans (unhide H0).1
  obtain ⟨z0, z1, z2, z3, z4⟩ := row_cell ATX
  have fz : ∀ q, u3.frozen? ⟨G, q, none⟩ = false := fun q => frozen_of_row u3 G q _ _ ATX
  have fz0 := fz 0
  have fz1 := fz 1
  have fz2 := fz 2
  have fz3 := fz 3
  have fz4 := fz 4
  have HAT := hide (And.intro ATX (And.intro q3 (And.intro X3 (And.intro (unhide H2).size b3.size))))
  clear fz ATX q3 X3 b3 CC hlc hmc c0 c1 c2 c3 c4 hr
  go_wp2_with fail
  obtain ⟨ATX, q3, X3, z2', z3'⟩ := unhide HAT
  obtain ⟨s1, s2, s3', s4⟩ := setsV (a0 := .int .i64 k3) (a1 := .int .i64 n3) (a2 := .string s3) (a3 := .slice al3 lc cl3) (a4 := .slice ak3 mc ck3) ATX
  refine bodyPost_ret (ret_ctV (p := 4) (u := 5) (T := 32) rfl _ _ G _ _ _ rfl s1 (show Tryz.prog.underlying 32 = some _ from rfl) rfl size_thV) rfl ?_
  have hB := s4 _ _ ((unhide H0).2.trans (X3.mono (unhide H0).2.size)) (by omega)
  have hQ : IsQ _ (fun b => w.heap.size ≤ b ∧ b < (((((u3.setCell ⟨G, 0, none⟩ (.int .i64 k3)).setCell ⟨G, 1, none⟩ (.int .i64 n3)).setCell ⟨G, 2, none⟩ (.string s3)).setCell ⟨G, 3, none⟩ (.slice al3 lc cl3)).setCell ⟨G, 4, none⟩ (.slice ak3 mc ck3)).heap.size) y _ := (q3.move (fun b hb => s3' b (by have := hb.1; omega))).weak (fun b hb => ⟨by have := hb.1; omega, by rw [s2]; exact hb.2⟩)
  refine ⟨_, rfl, ?_, ?_⟩
  · first | exact hB | (rw [← hG]; exact hB)
  · first | exact hQ | (rw [← hG]; exact hQ)

set_option maxRecDepth 100000 in
set_option maxHeartbeats 400000 in
theorem after_genN {w : World} (k : ByteArray) (L : Nat) (b : Bool) (i : Nat) (hi : i = L + (if b = true then 1 else 0)) (hL : L ≤ 1000000) (z : ByteArray) (th : Bool) (t0 t1 : Int) (t2 : ByteArray) (t3 : Option Addr) (t4 t5 : Nat) (t6 : Option Addr) (t7 t8 : Nat) (hz : z.size ≤ 32)
    (CR : ∀ u, Below w.heap.size w u → Calls Tryz.prog 41 #[.pointer none] u fun e w' => e = .returned (.pointer none) ∧ w' = u)
    (CF : Calls Tryz.prog 56 #[.pointer none, .string k] w fun e w' => e = .returned (.tuple #[.int .i64 (L : Int), .bool b]) ∧ ∃ q, w' = w.drewN q)
    (CA : ∀ u, Below w.heap.size w u → Calls Tryz.prog 57 #[.pointer none, .int .i64 (i : Int)] u fun e w' => e = .returned (.tuple #[.string z, .agg #[.int .i64 t0, .int .i64 t1, .string t2, .slice t3 t4 t5, .slice t6 t7 t8], .bool th]) ∧ Below u.heap.size u w') :
    Calls Tryz.prog 18 #[.pointer none, .string k] w fun e w' => e = .returned (.tuple #[.string z, .bool th]) ∧ Below w.heap.size w w' := by
  have HC : Hid (∀ u, Calls Tryz.prog 45 #[.string z] u fun e w' => e = .returned (.string z) ∧ Below u.heap.size u w') := hide (fun u => str_clone z u (by omega))
  have HA := hide CA
  have HR := hide CR
  have CR0 := hide (CR w (Below.refl _ _))
  have CF0 := hide CF
  have HZ := hide hz
  clear CA CR CF hz
  cases b with
  | false =>
    simp only [Bool.false_eq_true, if_false, Nat.add_zero] at hi
    subst hi
    go_enter Tryz.func18, Tryz.ntmps18
    go_wp2_with fail
    refine (unhide CR0).mono ?_
    rintro e u1 ⟨rfl, hu1⟩
    obtain rfl := hu1.symm
    clear hu1
    go_wp2_with fail
    refine (unhide CF0).mono ?_
    rintro e u2 ⟨rfl, q, hq⟩
    have B2 : Below w.heap.size w u2 := by rw [hq]; exact ⟨rfl, rfl, rfl, Nat.le_refl _, fun _ _ => rfl⟩
    have CR2 := hide (unhide HR u2 B2)
    have CA2 := hide (unhide HA u2 B2)
    have H2 := hide B2
    clear hq B2 HR HA CR0 CF0
    go_wp2_with fail
    refine (unhide CR2).mono ?_
    rintro e u3 ⟨rfl, hu3⟩
    obtain rfl := hu3.symm
    clear hu3
    go_wp2_with fail
    refine (unhide CA2).mono ?_
    rintro e u4 ⟨rfl, b4⟩
    obtain ⟨w4, hw4⟩ : ∃ w4, u4.alloc (.cells #[.int .i64 t0, .int .i64 t1, .string t2, .slice t3 t4 t5, .slice t6 t7 t8] 32) = w4 := ⟨_, rfl⟩
    have B4 : Below u2.heap.size u2 w4 := by rw [← hw4]; exact b4.trans ((Below.refl _ _).alloc b4.size _)
    have H4 := hide ((unhide H2).trans (B4.mono (unhide H2).size))
    have CC := hide (unhide HC w4)
    clear b4 B4 CA2 CR2 HC
    go_wp2_with fail
    refine (unhide CC).mono ?_
    rintro e u5 ⟨rfl, b5⟩
    have H5 := hide ((unhide H4).trans (b5.mono (unhide H4).size))
    clear b5 CC
    go_wp2_with fail
    go_ret2
    exact ⟨rfl, unhide H5⟩
  | true =>
    simp only [if_true] at hi
    subst hi
    have w1 : IntKind.i64.wrap ((L : Int) + 1) = ((L + 1 : Nat) : Int) := by rw [IntKind.wrap_i64]; omega
    go_enter Tryz.func18, Tryz.ntmps18
    go_wp2_with fail
    refine (unhide CR0).mono ?_
    rintro e u1 ⟨rfl, hu1⟩
    obtain rfl := hu1.symm
    clear hu1
    go_wp2_with fail
    refine (unhide CF0).mono ?_
    rintro e u2 ⟨rfl, q, hq⟩
    have B2 : Below w.heap.size w u2 := by rw [hq]; exact ⟨rfl, rfl, rfl, Nat.le_refl _, fun _ _ => rfl⟩
    have CR2 := hide (unhide HR u2 B2)
    have CA2 := hide (unhide HA u2 B2)
    have H2 := hide B2
    clear hq B2 HR HA CR0 CF0
    go_wp2_with fail
    refine (unhide CR2).mono ?_
    rintro e u3 ⟨rfl, hu3⟩
    obtain rfl := hu3.symm
    clear hu3
    go_wp2_with fail
    refine (unhide CA2).mono ?_
    rintro e u4 ⟨rfl, b4⟩
    obtain ⟨w4, hw4⟩ : ∃ w4, u4.alloc (.cells #[.int .i64 t0, .int .i64 t1, .string t2, .slice t3 t4 t5, .slice t6 t7 t8] 32) = w4 := ⟨_, rfl⟩
    have B4 : Below u2.heap.size u2 w4 := by rw [← hw4]; exact b4.trans ((Below.refl _ _).alloc b4.size _)
    have H4 := hide ((unhide H2).trans (B4.mono (unhide H2).size))
    have CC := hide (unhide HC w4)
    clear b4 B4 CA2 CR2 HC
    go_wp2_with fail
    refine (unhide CC).mono ?_
    rintro e u5 ⟨rfl, b5⟩
    have H5 := hide ((unhide H4).trans (b5.mono (unhide H4).size))
    clear b5 CC
    go_wp2_with fail
    go_ret2
    exact ⟨rfl, unhide H5⟩

theorem after_nil (k : ByteArray) (w : World) : Calls Tryz.prog 18 #[.pointer none, .string k] w fun e w' => e = .returned (.tuple #[.string ⟨#[]⟩, .bool false]) ∧ Below w.heap.size w w' :=
  after_genN k 0 false 0 rfl (by omega) ⟨#[]⟩ false 0 0 ⟨#[]⟩ none 0 0 none 0 0 (by decide) (fun u _ => rows_nil u) (find_nilV k w) (fun u _ => at_genV none 0 0 u (by omega) (fun u' _ => len_nilV u'))

set_option maxRecDepth 100000 in
theorem put_nil (k : ByteArray) (x0 x1 : Int) (x2 : ByteArray) (x3 : Option Addr) (x4 x5 : Nat) (x6 : Option Addr) (x7 x8 : Nat) (w : World) : Calls Tryz.prog 9 #[.pointer none, .string k, .agg #[.int .i64 x0, .int .i64 x1, .string x2, .slice x3 x4 x5, .slice x6 x7 x8]] w fun e w' => e = .returned (.int .i64 1) ∧ Below w.heap.size w w' := by
  obtain ⟨w1, hw1⟩ : ∃ w1, w.alloc (.cells #[.int .i64 x0, .int .i64 x1, .string x2, .slice x3 x4 x5, .slice x6 x7 x8] 32) = w1 := ⟨_, rfl⟩
  have B1 : Below w.heap.size w w1 := by rw [← hw1]; exact (Below.refl _ _).alloc (Nat.le_refl _) _
  have CR := hide (rows_nil w1)
  have H1 := hide B1
  clear B1
  go_enter Tryz.func9, Tryz.ntmps9
  go_wp2_with fail
  refine (unhide CR).mono ?_
  rintro e u1 ⟨rfl, hu1⟩
  obtain rfl := hu1.symm
  clear hu1
  go_wp2_with fail
  go_ret
  exact ⟨rfl, unhide H1⟩

set_option maxRecDepth 100000 in
theorem shut_nil (fF : Nat) (bd : Array Value) (w : World) :
    Calls Tryz.prog 58 #[.pointer none, .func (.func fF) bd #[]] w fun e w' => e = .returned (.int .i64 1) ∧ Below w.heap.size w w' := by
  obtain ⟨w1, hw1⟩ : ∃ w1, w.alloc (.cells #[.func (.func fF) bd #[]] 71) = w1 := ⟨_, rfl⟩
  have B1 : Below w.heap.size w w1 := by rw [← hw1]; exact (Below.refl _ _).alloc (Nat.le_refl _) _
  have CR := hide (rows_nil w1)
  go_enter Tryz.func58, Tryz.ntmps58
  go_wp2_with (first | (go_at_call 41; refine (unhide CR).mono ?_; rintro e u1 ⟨rfl, rfl⟩))
  go_ret
  exact ⟨rfl, B1⟩

set_option maxRecDepth 100000 in
theorem rollback_nil (w : World) : Calls Tryz.prog 19 #[.pointer none] w fun e w' => e = .returned (.int .i64 1) ∧ Below w.heap.size w w' := by
  have C := hide (shut_nil 59 #[] w)
  go_enter Tryz.func19, Tryz.ntmps19
  go_wp2_with fail
  refine (unhide C).mono ?_
  rintro e u1 ⟨rfl, b1⟩
  have H1 := hide b1
  clear b1 C
  go_wp2_with fail
  go_ret
  exact ⟨rfl, unhide H1⟩

set_option maxRecDepth 100000 in
theorem commit_nil (w : World) : Calls Tryz.prog 20 #[.pointer none] w fun e w' => e = .returned (.int .i64 1) ∧ Below w.heap.size w w' := by
  have C := hide (shut_nil 60 #[.pointer none] w)
  go_enter Tryz.func20, Tryz.ntmps20
  go_wp2_with fail
  refine (unhide C).mono ?_
  rintro e u1 ⟨rfl, b1⟩
  have H1 := hide b1
  clear b1 C
  go_wp2_with fail
  go_ret
  exact ⟨rfl, unhide H1⟩

set_option maxRecDepth 100000 in
theorem del_nil (k : ByteArray) (w : World) : Calls Tryz.prog 22 #[.pointer none, .string k] w fun e w' => e = .returned (.bool false) ∧ Below w.heap.size w w' := by
  have CR := hide (rows_nil w)
  have CG := hide (get_nilV k w)
  go_enter Tryz.func22, Tryz.ntmps22
  go_wp2_with fail
  refine (unhide CR).mono ?_
  rintro e u1 ⟨rfl, hu1⟩
  obtain rfl := hu1.symm
  clear hu1
  go_wp2_with fail
  refine (unhide CG).mono ?_
  rintro e u2 ⟨rfl, b2⟩
  have H2 := hide b2
  clear b2 CG
  go_wp2_with fail
  go_ret
  exact ⟨rfl, (unhide H2).alloc (unhide H2).size _⟩

set_option maxRecDepth 100000 in
theorem len_nil (w : World) : Calls Tryz.prog 15 #[.pointer none] w fun e w' => e = .returned (.int .i64 0) ∧ w' = w := by
  have CR := hide (rows_nil w)
  have CL := hide (len_nilV w)
  go_enter Tryz.func15, Tryz.ntmps15
  go_wp2_with fail
  refine (unhide CR).mono ?_
  rintro e u1 ⟨rfl, hu1⟩
  obtain rfl := hu1.symm
  clear hu1
  go_wp2_with fail
  refine (unhide CL).mono ?_
  rintro e u2 ⟨rfl, hu2⟩
  obtain rfl := hu2.symm
  clear hu2
  go_wp2_with fail
  go_ret
  exact ⟨rfl, rfl⟩

set_option maxRecDepth 100000 in
theorem weight_nil (w : World) : Calls Tryz.prog 23 #[.pointer none] w fun e w' => e = .returned (.int .i64 0) ∧ w' = w := by
  go_enter Tryz.func23, Tryz.ntmps23
  go_wp2_with fail
  go_ret
  exact ⟨rfl, rfl⟩

set_option maxRecDepth 100000 in
theorem open_nil (w : World) : Calls Tryz.prog 25 #[.pointer none] w fun e w' => e = .returned (.int .i64 0) ∧ w' = w := by
  go_enter Tryz.func25, Tryz.ntmps25
  go_wp2_with fail
  go_ret
  exact ⟨rfl, rfl⟩

set_option maxRecDepth 100000 in
theorem check_nil (w : World) : Calls Tryz.prog 24 #[.pointer none] w fun e w' => e = .returned (.int .i64 0) ∧ w' = w := by
  have CR := hide (rows_nil w)
  go_enter Tryz.func24, Tryz.ntmps24
  go_wp2_with fail
  refine (unhide CR).mono ?_
  rintro e u1 ⟨rfl, hu1⟩
  obtain rfl := hu1.symm
  clear hu1
  go_wp2_with fail
  go_ret
  exact ⟨rfl, rfl⟩

set_option maxRecDepth 100000 in
set_option maxHeartbeats 400000 in
theorem from_nilV (k : ByteArray) (w : World) :
    Calls Tryz.prog 91 #[.pointer none, .string k] w fun e w' => ∃ f G v', e = .returned f ∧ SeqV w.heap.size w' f [] G v' ∧ Below w.heap.size w w' := by
  obtain ⟨G, hG⟩ : ∃ G, w.heap.size = G := ⟨_, rfl⟩
  obtain ⟨w1, hw1⟩ : ∃ w1, w.alloc (.cells #[.slice none 0 0] 79) = w1 := ⟨_, rfl⟩
  have N1 : w1.heap[G]? = some (.cells #[.slice none 0 0] 79 (0, 0)) := by rw [← hw1, ← hG]; exact heap_alloc_new w _
  have B1 : Below w.heap.size w w1 := by rw [← hw1]; exact (Below.refl _ _).alloc (Nat.le_refl _) _
  have HF := hide (find_nilV k w1)
  have CL : Hid (∀ q, Calls Tryz.prog 54 #[.pointer none] (w1.drewN q) fun e w' => e = .returned (.int .i64 0) ∧ w' = w1.drewN q) := hide (fun q => len_nilV _)
  have HZ := hide (And.intro N1 B1)
  clear N1 B1
  go_enter Tryz.func91, Tryz.ntmps91
  go_wp2_with fail
  refine (unhide HF).mono ?_
  rintro e w2 ⟨rfl, q, rfl⟩
  have CL2 := hide (unhide CL q)
  clear HF CL
  have hww := hide hw1
  clear hw1
  go_wp2_with fail
  refine (unhide CL2).mono ?_
  rintro e w3 ⟨rfl, rfl⟩
  go_wp2_with fail
  go_ret
  obtain ⟨N1, B1⟩ := unhide HZ
  exact ⟨_, G, .slice none 0 0, rfl, ⟨rfl, N1, World.ownsRow_nil _ _ _ _, by omega⟩, below_drewN B1 q⟩

set_option maxRecDepth 100000 in
set_option maxHeartbeats 400000 in
theorem all_zN {w : World} (k0 : ByteArray)
    (CA : Calls Tryz.prog 57 #[.pointer (none), .int .i64 0] w fun e w' => e = .returned (.tuple #[.string k0, .agg #[.int .i64 0, .int .i64 0, .string ⟨#[]⟩, .slice none 0 0, .slice none 0 0], .bool false]) ∧ Below w.heap.size w w') :
    Calls Tryz.prog 66 #[.pointer (none)] w fun e w' => ∃ f G v', e = .returned f ∧ SeqV w.heap.size w' f [] G v' ∧ Below w.heap.size w w' := by
  have HT : Hid (∀ u, Below w.heap.size w u → Calls Tryz.prog 91 #[.pointer (none), .string k0] u fun e w' => ∃ f G v', e = .returned f ∧ SeqV u.heap.size w' f [] G v' ∧ Below u.heap.size u w') := hide (fun u hu => from_nilV k0 u)
  have HA := hide CA
  clear CA
  go_enter Tryz.func66, Tryz.ntmps66
  go_wp2_with fail
  refine (unhide HA).mono ?_
  rintro e w1 ⟨rfl, b1⟩
  have b2 : Below w.heap.size w (w1.alloc (.cells #[.int .i64 0, .int .i64 0, .string ⟨#[]⟩, .slice none 0 0, .slice none 0 0] 32)) := b1.alloc b1.size _
  have CF := hide (unhide HT _ b2)
  have HB := hide b2
  clear HA b1 b2
  go_wp2_with fail
  refine (unhide CF).mono ?_
  rintro e w3 ⟨f, G, v', rfl, hs, b3⟩
  obtain ⟨hfn, hs1, hs2, hs3⟩ := hs
  subst hfn
  have HS := hide (And.intro hs1 (And.intro hs2 (And.intro hs3 b3)))
  clear b3 hs1 hs2 hs3
  go_wp2_with fail
  go_ret
  obtain ⟨hs1, hs2, hs3, b3⟩ := unhide HS
  have hz := (unhide HB).size
  refine ⟨_, G, v', rfl, ⟨rfl, hs1, ⟨hs2.1, ?_⟩, by omega⟩, (unhide HB).trans (b3.mono hz)⟩
  rcases hs2.2 with h | ⟨b', cap', cur, hv, hb', rest⟩
  · exact .inl h
  · exact .inr ⟨b', cap', cur, hv, by omega, rest⟩

theorem all_nilV (w : World) : Calls Tryz.prog 66 #[.pointer none] w fun e w' => ∃ f G v', e = .returned f ∧ SeqV w.heap.size w' f [] G v' ∧ Below w.heap.size w w' :=
  all_zN ⟨#[]⟩ (at_genV none 0 0 w (by omega) (fun u' _ => len_nilV u'))

set_option maxRecDepth 100000 in
set_option maxHeartbeats 2000000 in
attribute [local go_sem] Oper.semAt_some in
theorem entries_nil (w : World) :
    Calls Tryz.prog 26 #[.pointer none] w fun e w' => ∃ sv es, e = .returned sv ∧ mapK Prod.snd es = ([] : Xs) ∧ EnO w' w.heap.size sv es ∧ Below w.heap.size w w' := by
  obtain ⟨w1, hw1⟩ : ∃ w1, w.alloc (.cells #[.slice none 0 0] 38) = w1 := ⟨_, rfl⟩
  obtain ⟨go, hgo⟩ : ∃ go, w.heap.size = go := ⟨_, rfl⟩
  have N1 : w1.heap[go]? = some (.cells #[.slice none 0 0] 38 (0, 0)) := by rw [← hw1, ← hgo]; exact heap_alloc_new w _
  have B1 : Below w.heap.size w w1 := by rw [← hw1]; exact (Below.refl _ _).alloc (Nat.le_refl _) _
  obtain ⟨l0, hl0⟩ : ∃ l0 : List (ByteArray × (ThV × Vl)), l0 = [] := ⟨_, rfl⟩
  have CR := hide (rows_nil w1)
  have CA : Hid (Calls Tryz.prog 66 #[.pointer none] w1 fun e w' => ∃ f G v', e = .returned f ∧ SeqV w1.heap.size w' f (mapK Prod.fst l0) G v' ∧ Below w1.heap.size w1 w') := hide (by rw [hl0]; exact all_nilV w1)
  have HE : Hid (∀ u, Below w.heap.size w u → ∀ x ∈ l0, IsV u u.heap.size x.2.2 (.agg (thV x.2.1).toArray) ∧ rightB x.2.2 = true ∧ KeyOk x.1) := hide (fun u hu x hx => by
    rw [hl0] at hx
    cases hx)
  obtain ⟨X, hX⟩ : ∃ X : Xs, X = [] := ⟨_, rfl⟩
  have HX : Hid (mapK Prod.snd l0 = X) := hide (by rw [hl0, hX]; rfl)
  have hll : l0.length ≤ 128 := by rw [hl0]; simp
  have HB1 := hide (And.intro B1 N1)
  rw [← hX]
  clear B1 N1 hl0 hX
  refine (callsIn_wide (n := 5)).1 ?_
  refine callsIn_of_wp_marks Tryz.func26 rfl trivial ?_ rfl
  simp only [Tryz.ntmps26, List.size_toArray, List.length_cons, List.length_nil, Nat.reduceAdd, Nat.reduceSub, Array.replicate_succ, Array.replicate_zero, List.push_toArray, List.append_toArray, List.nil_append, List.cons_append]
  refine wpIn_wide.2 ?_
  go_wp2_with (first | (go_at_call 41; refine (unhide CR).mono ?_; rintro e u1 ⟨rfl, hu1⟩; obtain rfl := hu1.symm; clear hu1) | (go_at_call 66; refine (unhide CA).mono ?_; rintro e w7 ⟨f, G, v', rfl, ⟨rfl, hsG, hsrow, hslow⟩, b7⟩))
  have B7 : Below w.heap.size w w7 := (unhide HB1).1.trans (b7.mono (unhide HB1).1.size)
  have N7 : w7.heap[go]? = some (.cells #[.slice none 0 0] 38 (0, 0)) := (b7.block go (Array.getElem?_eq_some_iff.1 (unhide HB1).2).1).trans (unhide HB1).2
  let en : { x // x ∈ l0 } → ByteArray × ThV := fun x => (x.1.1, x.1.2.1)
  have hatt : l0.attach.map en = mapK Prod.fst l0 := by
    show List.map ((fun p : ByteArray × (ThV × Vl) => (p.1, p.2.1)) ∘ Subtype.val) l0.attach = _
    rw [← List.map_map, List.attach_map_subtype_val]
    rfl
  have hsrow' : w7.ownsRow w1.heap.size 104 6 v' l0.attach.length (cellsV (l0.attach.map en)) := by
    rw [hatt]
    rw [mapK_len] at hsrow
    rw [List.length_attach]
    exact hsrow
  have hP : ∀ b, v'.ownBlock = some b → b < w7.heap.size ∧ w1.heap.size ≤ b := fun b hb => ⟨(hsrow.lt b hb).2, (hsrow.lt b hb).1⟩
  have hg1 : go < w1.heap.size := (Array.getElem?_eq_some_iff.1 (unhide HB1).2).1
  have H7 := hide (And.intro B7 (And.intro N7 hP))
  have HSQ := hide (And.intro hsG hsrow')
  have HG1 := hide hg1
  clear B7 N7 hsrow hsrow' hsG hslow b7 CA CR hatt hP hg1 HB1
  refine (wpIn_wide (n := 5)).1 ?_
  refine wpIn_rangeFunc_ownH rfl (by decide) (gf := 108) (lb := #[.pointer (some ⟨G, 0, none⟩)]) rfl trivial (enters_of Tryz.func108 (by kernel_rfl) rfl)
    (iter_stopsV en _ (by decide) l0.attach G v' w1.heap.size w7 (unhide HSQ).1 (unhide HSQ).2) (fun h1 h2 b hb => (h2 b hb).trans (h1 b hb)) (fun W j o o' hj _ _ _ b hb => World.putObj_heap_other (by have := ((unhide H7).2.2 b hb).1; omega)) (Below.refl _ _) (fun _ => rfl)
    (fun pre W => ∃ sv es, W.heap[go]? = some (.cells #[sv] 38 (0, 0)) ∧ EnO W w7.heap.size sv es ∧ mapK Prod.snd es = mapK Prod.snd (pre.map Subtype.val) ∧ es.length = pre.length ∧ Below w.heap.size w W ∧ w7.heap.size ≤ W.heap.size ∧ KeepV v' w7 W) (fun _ _ _ => False) ?hI (fun _ _ _ _ _ hs _ _ => hs) ?h0
    (fun x a' W => ∃ bu, a' = { tmps := #[.pointer none, undef, .slice none 0 0, .pointer (some ⟨go, 0, none⟩), .string x.1.1, .pointer (some ⟨bu, 0, none⟩), .pointer none, .pointer none, .func (.func 108) #[] #[.pointer (some ⟨G, 0, none⟩)], .string x.1.1, .agg (thV x.1.2.1).toArray, undef, undef, undef, undef, undef, undef, undef, undef, undef], defers := [] } ∧ W.heap[bu]? = some (.cells (thV x.1.2.1).toArray 32 (0, 0)) ∧ w7.heap.size ≤ bu) ?hAx ?assign ?body ?done ?stop
  case hI =>
    rintro pre W W' row ⟨sv, es, h1, h2, h3, h4, h5, h6, h7⟩ hg hr
    have hne : ∀ b, isC W b → some b ≠ row := fun b hb e => by
      obtain ⟨_, o, ho, hc⟩ := hr b e.symm
      obtain ⟨c, T, f, hh⟩ := hb
      rw [hh] at ho
      cases ho
      cases hc
    refine ⟨sv, es, (hg.block go (Array.getElem?_eq_some_iff.1 h1).1 (hne _ ⟨_, _, _, h1⟩)).trans h1, h2.to (Nat.le_refl _) hg.size (fun b _ hl hc => hg.block b hl (hne b hc)), h3, h4, h5.grown hg (by have := h5.size; omega) (fun k hk => by have a1 := (hr k hk).1; have a2 := (unhide H7).1.size; omega), by have := hg.size; omega, fun b hb => ?_⟩
    have a1 := ((unhide H7).2.2 b hb).1
    exact (hg.block b (by omega) (fun e => by have := (hr b e.symm).1; omega)).trans (h7 b hb)
  case h0 => exact ⟨_, [], (unhide H7).2.1, EnO.nil _ _, rfl, rfl, (unhide H7).1, Nat.le_refl _, fun _ _ => rfl⟩
  case hAx =>
    rintro x a' _ W W' row ⟨bu, h1, h2, h3⟩ hg hr
    refine ⟨bu, h1, (hg.block bu (Array.getElem?_eq_some_iff.1 h2).1 (fun e => ?_)).trans h2, h3⟩
    obtain ⟨_, o, ho, hc⟩ := hr bu e.symm
    rw [h2] at ho
    cases ho
    cases hc
  case assign =>
    rintro j pre ⟨⟨k, ⟨⟨c0, c1, c2, c3, c4, c5, c6, c7, c8⟩, oo⟩⟩, hx⟩ W K ⟨sv, es, h1, h2, h3, h4, h5, h6, h7⟩ hK
    have hb : Below W.heap.size W (W.alloc (.cells #[.int .i64 c0, .int .i64 c1, .string c2, .slice c3 c4 c5, .slice c6 c7 c8] 32)) := (Below.refl _ _).alloc (Nat.le_refl _) _
    have hk : KeepV v' W (W.alloc (.cells #[.int .i64 c0, .int .i64 c1, .string c2, .slice c3 c4 c5, .slice c6 c7 c8] 32)) := fun b hb' => hb.block b (Nat.lt_of_lt_of_le ((unhide H7).2.2 b hb').1 h6)
    have HKK : Hid (∀ a', a' = { tmps := #[.pointer none, undef, .slice none 0 0, .pointer (some ⟨go, 0, none⟩), .string k, .pointer (some ⟨W.heap.size, 0, none⟩), .pointer none, .pointer none, .func (.func 108) #[] #[.pointer (some ⟨G, 0, none⟩)], .string k, .agg #[.int .i64 c0, .int .i64 c1, .string c2, .slice c3 c4 c5, .slice c6 c7 c8], undef, undef, undef, undef, undef, undef, undef, undef, undef], defers := [] } → K a' (W.alloc (.cells #[.int .i64 c0, .int .i64 c1, .string c2, .slice c3 c4 c5, .slice c6 c7 c8] 32))) := hide (fun a' ha => hK a' _ ((KeepsOthers.alloc _ _).from _) hk ⟨sv, es, (hb.block go (Array.getElem?_eq_some_iff.1 h1).1).trans h1, h2.later hb, h3, h4, h5.trans (hb.mono h5.size), Nat.le_trans h6 hb.size, fun b hb' => (hk b hb').trans (h7 b hb')⟩ ⟨W.heap.size, ha, heap_alloc_new W _, h6⟩)
    clear h1 h2 h3 h4 h5 h6 h7 hb hk hK
    dsimp only [en, encPV, thV]
    gi_wp2
    exact unhide HKK _ rfl
  case body =>
    rintro j pre ⟨x, hx⟩ a' W hj ⟨rr, hrr⟩ ⟨sv, es, h1, h2, h3, h4, h5, h6, h7⟩ ⟨bu, rfl, hbu, hbl⟩ hlt
    obtain ⟨n, hn⟩ : ∃ n, es.length = n := ⟨_, rfl⟩
    obtain ⟨so, sc, hsv⟩ : ∃ so sc, sv = .slice so n sc := by
      have := h2.row
      rw [hn] at this
      rcases this.2 with ⟨e, e2⟩ | ⟨b, cap, cur, e, _⟩
      · exact ⟨none, 0, by rw [e, e2]⟩
      · exact ⟨_, _, e⟩
    subst hsv
    have hx3 := unhide HE W h5 x hx
    obtain ⟨k, ⟨⟨c0, c1, c2, c3, c4, c5, c6, c7, c8⟩, y⟩⟩ := x
    dsimp only [thV] at hbu hx3 ⊢
    have hnb : n < 1000 := by
      rw [List.length_attach] at hlt
      omega
    have HCl : Hid (∀ u, Calls Tryz.prog 45 #[.string k] u fun e w' => e = .returned (.string k) ∧ Below u.heap.size u w') := hide (fun u => str_clone k u (by have := hx3.2.2.2; omega))
    have HCo : Hid (∀ u, Below W.heap.size W u → Calls Tryz.prog 49 #[.agg #[.int .i64 c0, .int .i64 c1, .string c2, .slice c3 c4 c5, .slice c6 c7 c8]] u fun e w' => ∃ d : ThV, e = .returned (.agg (thV d).toArray) ∧ Below u.heap.size u w' ∧ IsQ w' (fun b => u.heap.size ≤ b ∧ b < w'.heap.size) y (.agg (thV d).toArray)) := hide (fun u hu => by
      refine (copy_any y _ u.heap.size u ((hx3.1.mono hu).lift hu.size) (Nat.le_refl _)).mono ?_
      rintro e w' ⟨x', rfl, b, q, -⟩
      have hq := q hx3.2.1
      obtain ⟨d, rfl⟩ := isP_th hq.1
      exact ⟨d, rfl, b, hq⟩)
    have hgol : go < W.heap.size := (Array.getElem?_eq_some_iff.1 h1).1
    have hbul : bu < W.heap.size := (Array.getElem?_eq_some_iff.1 hbu).1
    have hgw : go < w7.heap.size := (Array.getElem?_eq_some_iff.1 (unhide H7).2.1).1
    have hgn : some go ≠ (Value.slice so n sc).ownBlock := fun e => by have := (h2.row.lt go e.symm).1; omega
    have hbn : some bu ≠ (Value.slice so n sc).ownBlock := fun e => ty_ne ⟨_, hbu⟩ (row_ty h2.row e.symm) (by decide) rfl
    have HGO : Hid (go < W.heap.size ∧ some go ≠ (Value.slice so n sc).ownBlock ∧ bu < W.heap.size ∧ some bu ≠ (Value.slice so n sc).ownBlock ∧ ∀ u, Below W.heap.size W u → u.frozen? ⟨go, 0, none⟩ = false) := hide ⟨hgol, hgn, hbul, hbn, fun u hu => frozen_of_row u go 0 _ _ ((hu.block go hgol).trans h1)⟩
    obtain ⟨CS, hCS⟩ : ∃ CS, cellsV (mapK Prod.fst es) = CS := ⟨_, rfl⟩
    obtain ⟨lo, hlo⟩ : ∃ lo, w7.heap.size = lo := ⟨_, rfl⟩
    have HOW : Hid (∀ u, Below W.heap.size W u → u.ownsRow lo 77 6 (.slice so n sc) n CS) := hide (fun u hu => by
      have := (h2.later hu).row
      rw [hn, hCS, hlo] at this
      exact this)
    have hloW : lo ≤ W.heap.size := by omega
    obtain ⟨iv, hiv, hz0, hz1, hz2⟩ := info_parts infoEn
    have HI := hide (And.intro hiv (And.intro hz0 (And.intro hz1 hz2)))
    have HS0 : Hid (W.drew.cell? ⟨go, 0, none⟩ = some (.slice so n sc) ∧ W.drew.cell? ⟨bu, 0, none⟩ = some (.int .i64 c0) ∧ W.drew.cell? ⟨bu, 1, none⟩ = some (.int .i64 c1) ∧ W.drew.cell? ⟨bu, 2, none⟩ = some (.string c2) ∧ W.drew.cell? ⟨bu, 3, none⟩ = some (.slice c3 c4 c5) ∧ W.drew.cell? ⟨bu, 4, none⟩ = some (.slice c6 c7 c8)) := hide ⟨by rw [cell_of_row _ go 0 _ _ (0, 0) (show W.drew.heap[go]? = _ from h1)]; rfl, by rw [cell_of_row _ bu 0 _ _ (0, 0) (show W.drew.heap[bu]? = _ from hbu)]; rfl, by rw [cell_of_row _ bu 1 _ _ (0, 0) (show W.drew.heap[bu]? = _ from hbu)]; rfl, by rw [cell_of_row _ bu 2 _ _ (0, 0) (show W.drew.heap[bu]? = _ from hbu)]; rfl, by rw [cell_of_row _ bu 3 _ _ (0, 0) (show W.drew.heap[bu]? = _ from hbu)]; rfl, by rw [cell_of_row _ bu 4 _ _ (0, 0) (show W.drew.heap[bu]? = _ from hbu)]; rfl⟩
    have HA := hide (And.intro h1 (And.intro h2 (And.intro h3 (And.intro h4 (And.intro h5 (And.intro h6 h7))))))
    have HN := hide (And.intro hn (And.intro hCS hlo))
    clear h1 h2 h3 h4 h5 h6 h7 hx3 hgol hbul hgw hgn hbn hiv hz0 hz1 hz2 hbu hbl hrr hn hCS hlo hlt
    gi_wp2_with fail
    refine till_in (S := fun w' => w'.cell? ⟨go, 0, none⟩ = some (.slice so n sc) ∧ w'.cell? ⟨bu, 0, none⟩ = some (.int .i64 c0) ∧ w'.cell? ⟨bu, 1, none⟩ = some (.int .i64 c1) ∧ w'.cell? ⟨bu, 2, none⟩ = some (.string c2) ∧ w'.cell? ⟨bu, 3, none⟩ = some (.slice c3 c4 c5) ∧ w'.cell? ⟨bu, 4, none⟩ = some (.slice c6 c7 c8)) 8 (by kernel_rfl) ?nd ?nq ?_
    case nd =>
      intro i o ho c
      have : i < 9 := by
        have := (Array.getElem?_eq_some_iff.1 ho).1
        exact this
      rcases (show i = 0 ∨ i = 1 ∨ i = 2 ∨ i = 3 ∨ i = 4 ∨ i = 5 ∨ i = 6 ∨ i = 7 ∨ i = 8 by omega) with rfl | rfl | rfl | rfl | rfl | rfl | rfl | rfl | rfl <;> (cases ho; intro e; cases e)
    case nq =>
      rintro ⟨a, w, h⟩
      exact h
    refine till_take 0 (v := .slice so n sc) (some 11) rfl rfl rfl (by kernel_rfl) (by kernel_rfl) (by kernel_rfl) (by kernel_rfl) (fun _ _ _ h => h) (Or.inl ⟨by rfl, fun u hu => by obtain ⟨b0, b1, b2, b3, b4, b5⟩ := hu; go_simp⟩) (unhide HS0) ?_
    try simp only [Act.put, List.setIfInBounds_toArray, List.set_cons_zero, List.set_cons_succ]
    refine till_take 1 (v := .string k) (some 12) rfl rfl rfl (by kernel_rfl) (by kernel_rfl) (by kernel_rfl) (by kernel_rfl) (fun _ _ _ h => h) (Or.inl ⟨by rfl, fun u hu => by obtain ⟨b0, b1, b2, b3, b4, b5⟩ := hu; go_simp⟩) (unhide HS0) ?_
    try simp only [Act.put, List.setIfInBounds_toArray, List.set_cons_zero, List.set_cons_succ]
    refine till_take 3 (v := .agg #[.int .i64 c0, .int .i64 c1, .string c2, .slice c3 c4 c5, .slice c6 c7 c8]) (some 14) rfl rfl rfl (by kernel_rfl) (by kernel_rfl) (by kernel_rfl) (by kernel_rfl) (fun _ _ _ h => h) (Or.inl ⟨by rfl, fun u hu => by obtain ⟨b0, b1, b2, b3, b4, b5⟩ := hu; go_simp⟩) (unhide HS0) ?_
    try simp only [Act.put, List.setIfInBounds_toArray, List.set_cons_zero, List.set_cons_succ]
    refine till_one 2 (by kernel_rfl) rfl (fun K hK => ?_)
    go_simp
    refine (unhide HCl W.drew).mono ?_
    rintro e W2 ⟨rfl, b2⟩
    have X2 : Below W.heap.size W W2 := below_drew_of' b2
    have HS2 : Hid (W2.cell? ⟨go, 0, none⟩ = some (.slice so n sc) ∧ W2.cell? ⟨bu, 0, none⟩ = some (.int .i64 c0) ∧ W2.cell? ⟨bu, 1, none⟩ = some (.int .i64 c1) ∧ W2.cell? ⟨bu, 2, none⟩ = some (.string c2) ∧ W2.cell? ⟨bu, 3, none⟩ = some (.slice c3 c4 c5) ∧ W2.cell? ⟨bu, 4, none⟩ = some (.slice c6 c7 c8)) := hide ⟨cell_later X2 ((unhide HS0).1), cell_later X2 ((unhide HS0).2.1), cell_later X2 ((unhide HS0).2.2.1), cell_later X2 ((unhide HS0).2.2.2.1), cell_later X2 ((unhide HS0).2.2.2.2.1), cell_later X2 ((unhide HS0).2.2.2.2.2)⟩
    have H2 := hide X2
    clear b2 X2
    go_wp2_with fail
    refine hK.out _ _ (Or.inr (unhide HS2)) ?_
    clear hK K HS0
    try simp only [Act.put, List.setIfInBounds_toArray, List.set_cons_zero, List.set_cons_succ]
    refine till_one 4 (by kernel_rfl) rfl (fun K hK => ?_)
    have CC := hide (unhide HCo W2 (unhide H2))
    go_simp
    refine (unhide CC).mono ?_
    rintro e W3 ⟨⟨d0, d1, d2, d3, d4, d5, d6, d7, d8⟩, rfl, b3, q3⟩
    dsimp only [thV] at q3 ⊢
    have HS3 : Hid (W3.cell? ⟨go, 0, none⟩ = some (.slice so n sc) ∧ W3.cell? ⟨bu, 0, none⟩ = some (.int .i64 c0) ∧ W3.cell? ⟨bu, 1, none⟩ = some (.int .i64 c1) ∧ W3.cell? ⟨bu, 2, none⟩ = some (.string c2) ∧ W3.cell? ⟨bu, 3, none⟩ = some (.slice c3 c4 c5) ∧ W3.cell? ⟨bu, 4, none⟩ = some (.slice c6 c7 c8)) := hide ⟨cell_later b3 ((unhide HS2).1), cell_later b3 ((unhide HS2).2.1), cell_later b3 ((unhide HS2).2.2.1), cell_later b3 ((unhide HS2).2.2.2.1), cell_later b3 ((unhide HS2).2.2.2.2.1), cell_later b3 ((unhide HS2).2.2.2.2.2)⟩
    have H3 := hide (And.intro ((unhide H2).trans (b3.mono (unhide H2).size)) (q3.weak (Q := fun b => W.heap.size ≤ b ∧ b < W3.heap.size) (fun b hb => ⟨by have := hb.1; have := (unhide H2).size; omega, hb.2⟩)))
    clear b3 q3 CC
    go_wp2_with fail
    refine hK.out _ _ (Or.inr (unhide HS3)) ?_
    clear hK K HS2
    try simp only [Act.put, List.setIfInBounds_toArray, List.set_cons_zero, List.set_cons_succ]
    refine till_one 5 (by kernel_rfl) rfl (fun K hK => ?_)
    obtain ⟨b0, b1, b2, b3, b4, b5⟩ := unhide HS3
    go_simp
    refine hK.out _ _ (Or.inr (unhide HS3)) ?_
    clear hK K b0 b1 b2 b3 b4 b5
    try simp only [Act.put, List.setIfInBounds_toArray, List.set_cons_zero, List.set_cons_succ]
    refine till_one 6 (by kernel_rfl) rfl (fun K hK => ?_)
    go_simp
    obtain ⟨W4, hW4⟩ : ∃ W4, W3.alloc (.cells #[.string k, .int .i64 d0, .int .i64 d1, .string d2, .slice d3 d4 d5, .slice d6 d7 d8] 77) = W4 := ⟨_, rfl⟩
    have X4 : Below W3.heap.size W3 W4 := by rw [← hW4]; exact (Below.refl _ _).alloc (Nat.le_refl _) _
    have at4 : W4.heap[W3.heap.size]? = some (.cells #[.string k, .int .i64 d0, .int .i64 d1, .string d2, .slice d3 d4 d5, .slice d6 d7 d8] 77 (0, 0)) := by rw [← hW4]; exact heap_alloc_new W3 _
    rw [hW4]
    have HS4 : Hid (W4.cell? ⟨go, 0, none⟩ = some (.slice so n sc) ∧ W4.cell? ⟨bu, 0, none⟩ = some (.int .i64 c0) ∧ W4.cell? ⟨bu, 1, none⟩ = some (.int .i64 c1) ∧ W4.cell? ⟨bu, 2, none⟩ = some (.string c2) ∧ W4.cell? ⟨bu, 3, none⟩ = some (.slice c3 c4 c5) ∧ W4.cell? ⟨bu, 4, none⟩ = some (.slice c6 c7 c8)) := hide ⟨cell_later X4 ((unhide HS3).1), cell_later X4 ((unhide HS3).2.1), cell_later X4 ((unhide HS3).2.2.1), cell_later X4 ((unhide HS3).2.2.2.1), cell_later X4 ((unhide HS3).2.2.2.2.1), cell_later X4 ((unhide HS3).2.2.2.2.2)⟩
    have H4 : Hid (Below W.heap.size W W4 ∧ IsQ W4 (fun b => W.heap.size ≤ b ∧ b < W4.heap.size) y (.agg #[.int .i64 d0, .int .i64 d1, .string d2, .slice d3 d4 d5, .slice d6 d7 d8])) := hide ⟨(unhide H3).1.trans (X4.mono (unhide H3).1.size), ((unhide H3).2.move (fun b hb => X4.block b hb.2)).weak (fun b hb => ⟨hb.1, Nat.lt_of_lt_of_le hb.2 X4.size⟩)⟩
    obtain ⟨h3s, hh3s⟩ : ∃ h3s, W3.heap.size = h3s := ⟨_, rfl⟩
    rw [hh3s] at at4 ⊢
    refine hK.out _ _ (Or.inr (unhide HS4)) ?_
    clear hK K hW4 X4 hh3s HS3 H3 H2
    try simp only [Act.put, List.setIfInBounds_toArray, List.set_cons_zero, List.set_cons_succ]
    refine till_one 7 (by kernel_rfl) rfl (fun K hK => ?_)
    refine step_append_lies _ (by rfl) _ _ 38 (by rfl) lo 77 iv (.agg #[.string ⟨#[]⟩, .int .i64 0, .int .i64 0, .string ⟨#[]⟩, .slice none 0 0, .slice none 0 0]) 6 96 Tryz.underlying38 (unhide HI).1 (unhide HI).2.1 (unhide HI).2.2.1 (unhide HI).2.2.2 rfl (by omega) (.slice so n sc) n CS (by rfl) (unhide HOW W4 (unhide H4).1) ⟨h3s, 0, none⟩ 1 1 [.string k, .int .i64 d0, .int .i64 d1, .string d2, .slice d3 d4 d5, .slice d6 d7 d8] (by rfl) (by rfl) (World.news_of_block at4) (by simp [Value.oneCell']) (by omega) (by unfold maxLen; omega) (by omega) (Nat.le_trans hloW (unhide H4).1.size) _ rfl ?_
    intro g5 cap5 W5 hown5 hgrow5 hat5 hlt5
    change K (Act.put _ (some 18) _) W5
    have cz5 : W5.cell? ⟨go, 0, none⟩ = some (.slice so n sc) := (hgrow5.cell_far ⟨go, 0, none⟩ (Nat.lt_of_lt_of_le (unhide HGO).1 (unhide H4).1.size) (unhide HGO).2.1).trans ((unhide HS4).1)
    have HS5 : Hid (W5.cell? ⟨go, 0, none⟩ = some (.slice so n sc) ∧ W5.cell? ⟨bu, 0, none⟩ = some (.int .i64 c0) ∧ W5.cell? ⟨bu, 1, none⟩ = some (.int .i64 c1) ∧ W5.cell? ⟨bu, 2, none⟩ = some (.string c2) ∧ W5.cell? ⟨bu, 3, none⟩ = some (.slice c3 c4 c5) ∧ W5.cell? ⟨bu, 4, none⟩ = some (.slice c6 c7 c8)) := hide ⟨cz5, (hgrow5.cell_far ⟨bu, 0, none⟩ (Nat.lt_of_lt_of_le (unhide HGO).2.2.1 (unhide H4).1.size) (unhide HGO).2.2.2.1).trans ((unhide HS4).2.1), (hgrow5.cell_far ⟨bu, 1, none⟩ (Nat.lt_of_lt_of_le (unhide HGO).2.2.1 (unhide H4).1.size) (unhide HGO).2.2.2.1).trans ((unhide HS4).2.2.1), (hgrow5.cell_far ⟨bu, 2, none⟩ (Nat.lt_of_lt_of_le (unhide HGO).2.2.1 (unhide H4).1.size) (unhide HGO).2.2.2.1).trans ((unhide HS4).2.2.2.1), (hgrow5.cell_far ⟨bu, 3, none⟩ (Nat.lt_of_lt_of_le (unhide HGO).2.2.1 (unhide H4).1.size) (unhide HGO).2.2.2.1).trans ((unhide HS4).2.2.2.2.1), (hgrow5.cell_far ⟨bu, 4, none⟩ (Nat.lt_of_lt_of_le (unhide HGO).2.2.1 (unhide H4).1.size) (unhide HGO).2.2.2.1).trans ((unhide HS4).2.2.2.2.2)⟩
    have f5 : W5.frozen? ⟨go, 0, none⟩ = false := (hgrow5.frozen_far ⟨go, 0, none⟩ (Nat.lt_of_lt_of_le (unhide HGO).1 (unhide H4).1.size) (unhide HGO).2.1).trans ((unhide HGO).2.2.2.2 W4 (unhide H4).1)
    have H5 := hide (And.intro hown5 (And.intro hgrow5 hat5))
    refine hK.out _ _ (Or.inr (unhide HS5)) ?_
    clear hK K hown5 hgrow5 hat5 hlt5 HS4 cz5
    try simp only [Act.put, List.setIfInBounds_toArray, List.set_cons_zero, List.set_cons_succ]
    refine till_one 8 (by kernel_rfl) rfl (fun K hK => ?_)
    obtain ⟨b0, b1, b2, b3, b4, b5⟩ := unhide HS5
    go_simp
    refine hK.out _ _ (Or.inl (by first | rfl | trivial)) ?_
    clear hK K b0 b1 b2 b3 b4 b5 f5
    try simp only [Act.put, List.setIfInBounds_toArray, List.set_cons_zero, List.set_cons_succ]
    refine till_done (by kernel_rfl) ?_ _
    obtain ⟨h1, h2, h3, h4, h5, h6, h7⟩ := unhide HA
    obtain ⟨hn, hCS, hlo⟩ := unhide HN
    obtain ⟨o5, g5', a5⟩ := unhide H5
    obtain ⟨b4, q4⟩ := unhide H4
    obtain ⟨gw1, gn, bl, bn, gf⟩ := unhide HGO
    have hpush := h2.push (k := k) (c := (d0, d1, d2, d3, d4, d5, d6, d7, d8)) (y := y) hn b4 h6 q4 (by rw [hCS, hlo]; exact o5) g5' a5
    have hgw : go < w7.heap.size := (Array.getElem?_eq_some_iff.1 (unhide H7).2.1).1
    have e1 : (W5.setCell ⟨go, 0, none⟩ (.slice (some ⟨g5, 0, none⟩) (n + 1) cap5)).heap[go]? = some (.cells #[.slice (some ⟨g5, 0, none⟩) (n + 1) cap5] 38 (0, 0)) := heap_setCell_same W5 go 0 _ _ _ ((g5'.block go (Nat.lt_of_lt_of_le gw1 b4.size) gn).trans ((b4.block go gw1).trans h1))
    have hoth : ∀ b, b ≠ go → (W5.setCell ⟨go, 0, none⟩ (.slice (some ⟨g5, 0, none⟩) (n + 1) cap5)).heap[b]? = W5.heap[b]? := fun b hb => heap_setCell_other _ _ _ _ hb
    have hfr : Fr (fun j => j = go ∨ (Value.slice so n sc).ownBlock = some j) W (W5.setCell ⟨go, 0, none⟩ (.slice (some ⟨g5, 0, none⟩) (n + 1) cap5)) := (Fr.of b4).trans (G' := fun j => j = go ∨ (Value.slice so n sc).ownBlock = some j) ⟨g5'.os, g5'.tape, g5'.output, by rw [sz_setCell]; exact g5'.size, fun j hj hnn => (hoth j (fun e => hnn (.inl e))).trans (g5'.block j hj (fun e => hnn (.inr e.symm)))⟩ (fun _ _ e => e)
    have kv : KeepV v' W (W5.setCell ⟨go, 0, none⟩ (.slice (some ⟨g5, 0, none⟩) (n + 1) cap5)) := fun b hb => by
      have hb1 := (unhide H7).2.2 b hb
      have hg1 := unhide HG1
      refine hfr.block b (by omega) (fun e => ?_)
      rcases e with e | e
      · omega
      · have := (h2.row.lt b e).1
        omega
    have ko : KeepsOthers W (W5.setCell ⟨go, 0, none⟩ (.slice (some ⟨g5, 0, none⟩) (n + 1) cap5)) := ⟨hfr.size, fun b o hb ho => (hfr.block b (Array.getElem?_eq_some_iff.1 hb).1 (fun e => by
      rcases e with e | e
      · rw [e, h1] at hb
        cases hb
        cases ho
      · obtain ⟨c, hc⟩ := row_ty h2.row e
        rw [hc] at hb
        cases hb
        cases ho)).trans hb⟩
    have hwg : w.heap.size ≤ go := by omega
    have hF : Hid (KeepsFrom w7.heap.size W (W5.setCell ⟨go, 0, none⟩ (.slice (some ⟨g5, 0, none⟩) (n + 1) cap5)) ∧ KeepV v' W (W5.setCell ⟨go, 0, none⟩ (.slice (some ⟨g5, 0, none⟩) (n + 1) cap5)) ∧ ∃ sv es, (W5.setCell ⟨go, 0, none⟩ (.slice (some ⟨g5, 0, none⟩) (n + 1) cap5)).heap[go]? = some (.cells #[sv] 38 (0, 0)) ∧ EnO (W5.setCell ⟨go, 0, none⟩ (.slice (some ⟨g5, 0, none⟩) (n + 1) cap5)) w7.heap.size sv es ∧ mapK Prod.snd es = mapK Prod.snd ((pre ++ [(⟨(k, (c0, c1, c2, c3, c4, c5, c6, c7, c8), y), hx⟩ : { x // x ∈ l0 })]).map Subtype.val) ∧ es.length = (pre ++ [(⟨(k, (c0, c1, c2, c3, c4, c5, c6, c7, c8), y), hx⟩ : { x // x ∈ l0 })]).length ∧ Below w.heap.size w (W5.setCell ⟨go, 0, none⟩ (.slice (some ⟨g5, 0, none⟩) (n + 1) cap5)) ∧ w7.heap.size ≤ (W5.setCell ⟨go, 0, none⟩ (.slice (some ⟨g5, 0, none⟩) (n + 1) cap5)).heap.size ∧ KeepV v' w7 (W5.setCell ⟨go, 0, none⟩ (.slice (some ⟨g5, 0, none⟩) (n + 1) cap5))) := hide ⟨ko.from _, kv, _, _, e1, hpush.to (Nat.le_refl _) (by rw [sz_setCell]; exact Nat.le_refl _) (fun b hb _ _ => hoth b (by omega)), by rw [mapK_snoc, h3, List.map_append, List.map_singleton, mapK_snoc], by simp [h4], h5.trans (hfr.below h5.size (fun j hj => by
      rcases hj with hj | hj
      · omega
      · have h8 := (h2.row.lt j hj).1
        have h9 := (unhide H7).1.size
        omega)), Nat.le_trans h6 hfr.size, fun b hb => (kv b hb).trans (h7 b hb)⟩
    obtain ⟨W6, hW6⟩ : ∃ W6, W5.setCell ⟨go, 0, none⟩ (.slice (some ⟨g5, 0, none⟩) (n + 1) cap5) = W6 := ⟨_, rfl⟩
    rw [hW6] at hF ⊢
    exact unhide hF
  case done =>
    rintro D ys W hD rfl ⟨sv, es, h1, h2, h3, h4, h5, h6, h7⟩ hK
    have hg : W.grownBy (W.putObj D (.deferred none)) (some D) := grownBy_putObj' _ _ _
    have hne : ∀ b, isC W b → some b ≠ some D := fun b hb e => by
      cases e
      obtain ⟨c, T, f, hh⟩ := hb
      rw [hh] at hK
      cases hK
    have f1 := h2.to (w' := W.putObj D (.deferred none)) (lo' := w.heap.size) (unhide H7).1.size hg.size (fun b _ hl hc => hg.block b hl (hne b hc))
    have f2 : Below w.heap.size w (W.putObj D (.deferred none)) := h5.grown hg (by have := h5.size; omega) (fun k hk => by cases hk; have := (unhide H7).1.size; omega)
    rw [List.attach_map_subtype_val, unhide HX] at h3
    have c0 : W.cell? ⟨go, 0, none⟩ = some sv := by rw [cell_of_row W go 0 _ _ (0, 0) h1]; rfl
    have hsv : sv.oneCell' = true := by
      rcases h2.row.2 with ⟨rfl, _⟩ | ⟨b, cap, cur, rfl, _⟩ <;> rfl
    have HF := hide (And.intro h3 (And.intro f1 f2))
    clear h1 h2 h3 h4 h5 h6 h7 hg hne f1 f2
    go_wp2_with fail
    refine ⟨by simp, .inl ⟨_, _, rfl, run_takeDeferred hK, ?_⟩⟩
    obtain ⟨h3, f1, f2⟩ := unhide HF
    exact ⟨_, results_tmp rfl _ _ _, sv, es, rfl, h3, f1, f2⟩
  case stop =>
    rintro D c pre W _ _ h _
    exact h.elim

end Go.Proofs.YtdaooapfokhfcaaGreat
