/-
  The document's own Most, width and Put (layer 8): an instruction behind bytes, in new memory; conditions: the bytes at most 2^47.
-/
import Derived.Test.YtbilcninhhkkpaaDoorCRef2
import Derived.Test.YtbilcninhhkkpaaDoorCPut
namespace Go.Proofs.YtbilcninhhkkpaaDoor
open Go.RowKit

/-- append of one byte that was just laid -/
theorem wpl_one {w : World} {ops : Array Oper} {rest : List Oper} {o : Oper} {a : Act} {Q : Exit → Act → World → Prop} (hgd : o.guard = none) (sl x : Operand)
    (ho : o.op = .call { callee := .builtin .append, args := #[sl, x], argTypes := #[34, 34] })
    (base n : Nat) (v : Value) (xs : List Int) (c : Int) (hs : a.eval sl = v) (hown : w.ownsRow base 5 1 v n (xs.map (Value.int .u8)))
    (hx : a.eval x = .slice (some ⟨w.heap.size, 0, none⟩) 1 1) (hc : 0 ≤ c ∧ c ≤ 255) (hbytes : n + 1 ≤ 140737489403904) (hbase : base ≤ w.heap.size)
    (h : ∀ v' w', Hid (w'.ownsRow base 5 1 v' (n + 1) ((xs ++ [c]).map (Value.int .u8)) ∧ Below base w w') → wpList Tryd.prog ops Q rest (a.put o.dst v') w') :
    wpList Tryd.prog ops Q (o :: rest) a (w.alloc (.cells #[.int .u8 c] 5)) := by
  have hb : Below w.heap.size w (w.alloc (.cells #[.int .u8 c] 5)) := (Below.refl _ _).alloc (Nat.le_refl _) _
  have ho1 := own_below hown hb
  refine wpl_app hgd sl x ho base n v xs hs ho1 (some ⟨w.heap.size, 0, none⟩) 1 1 [c] hx (row_one (heap_alloc_new _ _) hc.1 hc.2) hbytes (by have := hb.size; omega) ?_
  intro v' w' H
  exact h v' w' ⟨(unhide H).1, (hb.mono hbase).trans ((unhide H).2.below ho1 (by have := hb.size; omega))⟩

set_option maxRecDepth 100000 in
theorem most_any (k : Nat) (w : World) (hk : k ≤ 5) :
    Calls Tryd.prog 28 #[.int .i64 (k : Int)] w fun e w' => e = .returned (.int .i64 (mst k)) ∧ Below w.heap.size w w' := by
  have e : mst k = ([0, 99, 31, 3999, 23, 40] : List Int).getD k 0 := by
    unfold mst
    rw [OPD_is]
    match k, hk with
    | 0, _ => rfl
    | 1, _ => rfl
    | 2, _ => rfl
    | 3, _ => rfl
    | 4, _ => rfl
    | 5, _ => rfl
  rw [e]
  match k, hk with
  | 0, _ => go_enter Tryd.func28, Tryd.ntmps28; go_wp2_with fail; go_ret; exact ⟨rfl, (Below.refl _ _).alloc (Nat.le_refl _) _⟩
  | 1, _ => go_enter Tryd.func28, Tryd.ntmps28; go_wp2_with fail; go_ret; exact ⟨rfl, (Below.refl _ _).alloc (Nat.le_refl _) _⟩
  | 2, _ => go_enter Tryd.func28, Tryd.ntmps28; go_wp2_with fail; go_ret; exact ⟨rfl, (Below.refl _ _).alloc (Nat.le_refl _) _⟩
  | 3, _ => go_enter Tryd.func28, Tryd.ntmps28; go_wp2_with fail; go_ret; exact ⟨rfl, (Below.refl _ _).alloc (Nat.le_refl _) _⟩
  | 4, _ => go_enter Tryd.func28, Tryd.ntmps28; go_wp2_with fail; go_ret; exact ⟨rfl, (Below.refl _ _).alloc (Nat.le_refl _) _⟩
  | 5, _ => go_enter Tryd.func28, Tryd.ntmps28; go_wp2_with fail; go_ret; exact ⟨rfl, (Below.refl _ _).alloc (Nat.le_refl _) _⟩

set_option maxRecDepth 100000 in
theorem width_any (k : Nat) (w : World) (hk : k ≤ 5) :
    Calls Tryd.prog 29 #[.int .i64 (k : Int)] w fun e w' => e = .returned (.int .i64 (siz k : Int)) ∧ Below w.heap.size w w' := by
  have e : ((siz k : Nat) : Int) = ([0, 1, 1, 2, 1, 1] : List Int).getD k 0 := by
    unfold siz
    rw [OPD_is]
    match k, hk with
    | 0, _ => rfl
    | 1, _ => rfl
    | 2, _ => rfl
    | 3, _ => rfl
    | 4, _ => rfl
    | 5, _ => rfl
  rw [e]
  match k, hk with
  | 0, _ => go_enter Tryd.func29, Tryd.ntmps29; go_wp2_with fail; go_ret; exact ⟨rfl, (Below.refl _ _).alloc (Nat.le_refl _) _⟩
  | 1, _ => go_enter Tryd.func29, Tryd.ntmps29; go_wp2_with fail; go_ret; exact ⟨rfl, (Below.refl _ _).alloc (Nat.le_refl _) _⟩
  | 2, _ => go_enter Tryd.func29, Tryd.ntmps29; go_wp2_with fail; go_ret; exact ⟨rfl, (Below.refl _ _).alloc (Nat.le_refl _) _⟩
  | 3, _ => go_enter Tryd.func29, Tryd.ntmps29; go_wp2_with fail; go_ret; exact ⟨rfl, (Below.refl _ _).alloc (Nat.le_refl _) _⟩
  | 4, _ => go_enter Tryd.func29, Tryd.ntmps29; go_wp2_with fail; go_ret; exact ⟨rfl, (Below.refl _ _).alloc (Nat.le_refl _) _⟩
  | 5, _ => go_enter Tryd.func29, Tryd.ntmps29; go_wp2_with fail; go_ret; exact ⟨rfl, (Below.refl _ _).alloc (Nat.le_refl _) _⟩

set_option maxRecDepth 100000 in
set_option maxHeartbeats 1000000 in
theorem rput_any (ab : Option Addr) (lb cb : Nat) (zs : List Int) (op a : Int) (w : World) (hz : Row8 w ab lb cb zs) (hb : lb + 3 ≤ 140737489403904) :
    Calls Tryd.prog 17 #[.slice ab lb cb, .agg #[.int .i64 op, .int .i64 a]] w fun e w' => ∃ (ao : Option Addr) (len cap : Nat), e = .returned (.tuple #[.slice ao len cap, .int .i64 (faultI op a)]) ∧ Below w.heap.size w w' ∧ w'.ownsRow w.heap.size 5 1 (.slice ao len cap) len ((if faultI op a = 0 then zs ++ insB op a else []).map (Value.int .u8)) := by
  obtain ⟨w1, hw1⟩ : ∃ w1, w.alloc (.cells #[.int .i64 op, .int .i64 a] 42) = w1 := ⟨_, rfl⟩
  have B1 : Below w.heap.size w w1 := by rw [← hw1]; exact (Below.refl _ _).alloc (Nat.le_refl _) _
  have A1 : w1.heap[w.heap.size]? = some (.cells #[.int .i64 op, .int .i64 a] 42 (0, 0)) := by rw [← hw1]; exact heap_alloc_new _ _
  have Z1 : w1.heap.size = w.heap.size + 1 := by rw [← hw1]; simp
  have CI := hide (rinfo_any op w1)
  obtain ⟨g, hg⟩ : ∃ g, w.heap.size = g := ⟨_, rfl⟩
  have z1g : w1.heap.size = g + 1 := by omega
  have HRW : Hid (∀ u, Below w1.heap.size w1 u → u.heap[g]? = some (.cells #[.int .i64 op, .int .i64 a] 42 (0, 0)) ∧ Row8 u ab lb cb zs ∧ Below w.heap.size w u) := hide (fun u hu => ⟨by rw [← hg]; exact (hu.block _ (by omega)).trans A1, (hz.later B1).later hu, B1.trans (hu.mono (by omega))⟩)
  obtain ⟨c0, c1⟩ := ins_cells (unhide HRW w1 (Below.refl _ _)).1
  have hlen := hz.length
  obtain ⟨F, hF⟩ : ∃ F, faultI op a = F := ⟨_, rfl⟩
  rw [hF]
  obtain ⟨R, hR⟩ : ∃ R, (if F = 0 then zs ++ insB op a else []).map (Value.int .u8) = R := ⟨_, rfl⟩
  rw [hR]
  have HR := hide hR
  clear hz B1 A1 Z1 hR
  by_cases hin : 1 ≤ op ∧ op ≤ 41
  · have e1 := infoA_in op hin
    have e2 := srt_is op hin
    have e3 := opd_at (srt op) e2.2
    rw [e1] at CI
    obtain ⟨x, hx⟩ : ∃ x, OPS.getD op.toNat blank = x := ⟨_, rfl⟩
    rw [hx] at CI e2
    obtain ⟨xn, xa, xb, xc, xd, xf⟩ := x
    simp only [infV] at CI e2
    have hib : insB op a = op :: tailB a (siz (srt op)) := rfl
    obtain ⟨k, hk⟩ : ∃ k, srt op = k := ⟨_, rfl⟩
    rw [hk] at e2 e3 hib
    obtain ⟨rfl, k5⟩ := e2
    have CM := fun u => hide (most_any k u k5)
    have CW := fun u => hide (width_any k u k5)
    obtain ⟨m, hm⟩ : ∃ m, mst k = m := ⟨_, rfl⟩
    obtain ⟨S, hS⟩ : ∃ S, siz k = S := ⟨_, rfl⟩
    rw [hm] at e3 CM
    rw [hS] at e3 CW hib
    have HF : Hid ((0 ≤ a ∧ a ≤ m → F = 0) ∧ (¬ (0 ≤ a ∧ a ≤ m) → F = 81)) := hide (by
      rw [← hF]
      unfold faultI
      rw [if_pos hin, hk, hm]
      exact ⟨fun h => if_pos h, fun h => if_neg h⟩)
    have HE3 := hide e3.2
    have HIB := hide hib
    clear e1 e3 hF hk hm hS hx hib
    go_enter Tryd.func17, Tryd.ntmps17
    go_wp2_with fail
    refine (unhide CI).mono ?_
    rintro e w2 ⟨rfl, B2⟩
    have H2 := hide B2
    clear B2 CI
    go_upto_region 4 with fail
    obtain ⟨w3, hw3⟩ : ∃ w3, w3 = w2.alloc (.cells #[.string xn, .int .i64 (k : Int), .int .i64 xb, .int .i64 xc, .int .i64 xd, .int .i64 xf] 25) := ⟨_, rfl⟩
    rw [← hw3]
    have A3 : w3.heap[w2.heap.size]? = some (.cells #[.string xn, .int .i64 (k : Int), .int .i64 xb, .int .i64 xc, .int .i64 xd, .int .i64 xf] 25 (0, 0)) := by rw [hw3]; exact heap_alloc_new w2 _
    have B3 : Below w1.heap.size w1 w3 := by rw [hw3]; exact (unhide H2).alloc (unhide H2).size _
    have Z3 : w3.heap.size = w2.heap.size + 1 := by rw [hw3]; simp
    have z2 := (unhide H2).size
    have HK : Hid (∀ u, Below w3.heap.size w3 u → (u.cell? ⟨g, 0, none⟩ = some (.int .i64 op) ∧ u.cell? ⟨g, 1, none⟩ = some (.int .i64 a)) ∧ u.cell? ⟨w2.heap.size, 1, none⟩ = some (.int .i64 (k : Int)) ∧ Row8 u ab lb cb zs ∧ Below w.heap.size w u) := hide (fun u hu => by
      have h1 : Below w1.heap.size w1 u := B3.trans (hu.mono B3.size)
      refine ⟨ins_cells (unhide HRW u h1).1, ?_, (unhide HRW u h1).2.1, (unhide HRW u h1).2.2⟩
      rw [cell_of_row u _ 1 _ _ (0, 0) ((hu.block _ (by omega)).trans A3)]
      rfl)
    obtain ⟨c0, c1⟩ := (unhide HK w3 (Below.refl _ _)).1
    have d1 := (unhide HK w3 (Below.refl _ _)).2.1
    clear hw3 A3 B3 HRW
    go_wp2_with fail
    refine (unhide (CM w3)).mono ?_
    rintro e w4 ⟨rfl, B4⟩
    have H4 := hide B4
    have z4 := B4.size
    clear B4 c0 c1 d1
    obtain ⟨c0, c1⟩ := (unhide HK w4 (unhide H4)).1
    have d1 := (unhide HK w4 (unhide H4)).2.1
    by_cases h0 : a < 0
    · obtain rfl : F = 81 := (unhide HF).2 (by omega)
      clear HF
      go_wp2_with fail
      go_ret2
      exact ⟨none, 0, 0, rfl, by first | exact (unhide HK w4 (unhide H4)).2.2.2 | (rw [← hg]; exact (unhide HK w4 (unhide H4)).2.2.2), by rw [← unhide HR, if_neg (by decide)]; exact World.ownsRow_nil _ _ _ _⟩
    · by_cases h1 : m < a
      · obtain rfl : F = 81 := (unhide HF).2 (by omega)
        clear HF
        go_wp2_with fail
        go_ret2
        exact ⟨none, 0, 0, rfl, by first | exact (unhide HK w4 (unhide H4)).2.2.2 | (rw [← hg]; exact (unhide HK w4 (unhide H4)).2.2.2), by rw [← unhide HR, if_neg (by decide)]; exact World.ownsRow_nil _ _ _ _⟩
      · obtain rfl : F = 0 := (unhide HF).1 (by omega)
        have hwr : IntKind.u8.wrap op = op := by rw [IntKind.wrap_u8]; omega
        have hop : 0 ≤ op ∧ op ≤ 255 := by omega
        have hm4 := (unhide HE3).2.2.1
        obtain ⟨q1, hq1⟩ : ∃ q1, a / 256 = q1 := ⟨_, rfl⟩
        obtain ⟨q2, hq2⟩ : ∃ q2, a % 256 = q2 := ⟨_, rfl⟩
        have t1 : a.tdiv 256 = q1 := by rw [Int.tdiv_eq_ediv_of_nonneg (by omega)]; exact hq1
        have t2 : a.tmod 256 = q2 := by rw [Int.tmod_eq_emod_of_nonneg (by omega)]; exact hq2
        have w1q : IntKind.u8.wrap q1 = q1 := by rw [IntKind.wrap_u8]; omega
        have w2q : IntKind.u8.wrap q2 = q2 := by rw [IntKind.wrap_u8]; omega
        have b1q : 0 ≤ q1 ∧ q1 ≤ 255 := by omega
        have b2q : 0 ≤ q2 ∧ q2 ≤ 255 := by omega
        have hS2 := (unhide HE3).1
        have HQ := hide (And.intro hq1 hq2)
        clear HF hq1 hq2 hm4
        have tokA : True := trivial
        have tokB : True := trivial
        go_wp2_with (first
          | (at_builtin; have _t := tokA; refine wpl_app rfl (.tmp 31) (.tmp 32) rfl w4.heap.size 0 _ [] rfl (World.ownsRow_nil _ _ _ _) ab lb cb zs rfl (unhide HK w4 (unhide H4)).2.2.1 (by omega) (Nat.le_refl _) ?_; clear tokA; intro v5 w5 H5; have X5 : Hid (Below w4.heap.size w4 w5) := (hide ((unhide H5).2.below (World.ownsRow_nil w4 w4.heap.size 5 1) (Nat.le_refl _))); clear c0 c1 d1; have c0 := (unhide HK w5 ((unhide H4).trans ((unhide X5).mono (unhide H4).size))).1.1)
          | (at_builtin; have _t := tokB; refine wpl_one rfl (.tmp 34) (.tmp 38) rfl w4.heap.size (0 + lb) v5 ([] ++ zs) op rfl (unhide H5).1 rfl hop (by omega) (unhide X5).size ?_; clear tokB; intro v6 w6 H6; have X6 : Hid (Below w4.heap.size w4 w6) := (hide ((unhide X5).trans (unhide H6).2)); clear c0; have d1 := (unhide HK w6 ((unhide H4).trans ((unhide X6).mono (unhide H4).size))).2.1))
        refine (unhide (CW w6)).mono ?_
        rintro e w7 ⟨rfl, B7⟩
        have H7 := hide (And.intro (own_below (unhide H6).1 B7) B7)
        have X7 : Hid (Below w4.heap.size w4 w7) := hide ((unhide X6).trans (B7.mono (unhide X6).size))
        have z7 := (unhide X7).size
        clear B7 d1
        have c1 := (unhide HK w7 ((unhide H4).trans ((unhide X7).mono (unhide H4).size))).1.2
        match S, hS2, HIB with
        | 0, _, HIB =>
          obtain ⟨ao, cap, rfl⟩ := own_slice (unhide H6).1
          go_wp2_with fail
          go_ret2
          refine ⟨ao, _, cap, rfl, ?_, ?_⟩
          · have h9 := (unhide HK _ ((unhide H4).trans ((unhide X7).mono (unhide H4).size))).2.2.2
            first | exact h9 | (rw [← hg]; exact h9)
          · rw [← unhide HR, if_pos (by trivial), unhide HIB, show zs ++ op :: tailB a 0 = [] ++ zs ++ [op] by simp [tailB]]
            have h9 := own_low (lo := w.heap.size) (unhide H7).1 (by omega)
            simp only [Nat.zero_add, List.nil_append] at h9 ⊢
            first | exact h9 | (rw [← hg]; exact h9)
        | 1, _, HIB =>
          have tokC : True := trivial
          go_wp2_with (first
            | (at_builtin; have _t := tokC; refine wpl_one rfl (.tmp 54) (.tmp 59) rfl w4.heap.size (0 + lb + 1) v6 ([] ++ zs ++ [op]) q2 rfl (unhide H7).1 rfl b2q (by omega) (by omega) ?_; clear tokC; intro v8 w8 H8; have X8 : Hid (Below w4.heap.size w4 w8) := (hide ((unhide X7).trans (unhide H8).2)); obtain ⟨ao, cap, rfl⟩ := own_slice (unhide H8).1))
          go_ret2
          refine ⟨ao, _, cap, rfl, ?_, ?_⟩
          · have h9 := (unhide HK _ ((unhide H4).trans ((unhide X8).mono (unhide H4).size))).2.2.2
            first | exact h9 | (rw [← hg]; exact h9)
          · rw [← unhide HR, if_pos (by trivial), unhide HIB, show zs ++ op :: tailB a 1 = [] ++ zs ++ [op] ++ [q2] by simp [tailB, (unhide HQ).2]]
            have h9 := own_low (lo := w.heap.size) (unhide H8).1 (by omega)
            simp only [Nat.zero_add, List.nil_append, List.append_assoc, List.cons_append] at h9 ⊢
            first | exact h9 | (rw [← hg]; exact h9)
        | 2, _, HIB =>
          have tokC : True := trivial
          have tokD : True := trivial
          go_wp2_with (first
            | (at_builtin; have _t := tokC; refine wpl_one rfl (.tmp 45) (.tmp 50) rfl w4.heap.size (0 + lb + 1) v6 ([] ++ zs ++ [op]) q1 rfl (unhide H7).1 rfl b1q (by omega) (by omega) ?_; clear tokC; intro v8 w8 H8; have X8 : Hid (Below w4.heap.size w4 w8) := (hide ((unhide X7).trans (unhide H8).2)); have z8 := (unhide X8).size; clear c1; have c1 := (unhide HK w8 ((unhide H4).trans ((unhide X8).mono (unhide H4).size))).1.2)
            | (at_builtin; have _t := tokD; refine wpl_one rfl (.tmp 54) (.tmp 59) rfl w4.heap.size (0 + lb + 1 + 1) v8 ([] ++ zs ++ [op] ++ [q1]) q2 rfl (unhide H8).1 rfl b2q (by omega) (by omega) ?_; clear tokD; intro v9 w9 H9; have X9 : Hid (Below w4.heap.size w4 w9) := (hide ((unhide X8).trans (unhide H9).2)); obtain ⟨ao, cap, rfl⟩ := own_slice (unhide H9).1))
          go_ret2
          refine ⟨ao, _, cap, rfl, ?_, ?_⟩
          · have h9 := (unhide HK _ ((unhide H4).trans ((unhide X9).mono (unhide H4).size))).2.2.2
            first | exact h9 | (rw [← hg]; exact h9)
          · rw [← unhide HR, if_pos (by trivial), unhide HIB, show zs ++ op :: tailB a 2 = [] ++ zs ++ [op] ++ [q1] ++ [q2] by simp [tailB, (unhide HQ).1, (unhide HQ).2]]
            have h9 := own_low (lo := w.heap.size) (unhide H9).1 (by omega)
            simp only [Nat.zero_add, List.nil_append, List.append_assoc, List.cons_append] at h9 ⊢
            first | exact h9 | (rw [← hg]; exact h9)
        | S + 3, h, _ => exact absurd h (by omega)
  · have e1 : infoA op = (blank, false) := by unfold infoA; rw [if_neg hin]
    rw [e1] at CI
    simp only [infV, blank] at CI
    obtain rfl : F = 80 := (by rw [← hF]; unfold faultI; rw [if_neg hin])
    clear e1 hF hin
    go_enter Tryd.func17, Tryd.ntmps17
    go_wp2_with fail
    refine (unhide CI).mono ?_
    rintro e w2 ⟨rfl, B2⟩
    have H2 := hide B2
    clear B2 CI
    go_wp2_with fail
    go_ret2
    refine ⟨none, 0, 0, rfl, ?_, by rw [← unhide HR, if_neg (by decide)]; exact World.ownsRow_nil _ _ _ _⟩
    have h3 := (unhide HRW w2 (unhide H2)).2.2
    first | exact h3.alloc h3.size _ | (rw [← hg]; exact h3.alloc h3.size _)
end Go.Proofs.YtbilcninhhkkpaaDoor
