/-
  The document's own Info and Named (layer 8); no conditions.
-/
import Derived.Test.YtdjipdpibkcecaaDoorCRef
import Derived.Test.YtdjipdpibkcecaaDoorArrVar
namespace Go.Proofs.YtdjipdpibkcecaaDoor
open Go.RowKit

theorem rowv_cell {w : World} {g : Nat} (h : w.heap[g]? = some (.cells ROWV.toArray 28 (0, 0))) (k : Nat) (x : Inf) (hx : OPS[k + 1]? = some x) (j : Nat) (v : Value) (hv : (infV x)[j]? = some v) : w.cell? ⟨g, k * 6 + j, none⟩ = some v := by
  rw [cell_of_row w g _ _ _ (0, 0) h]
  simpa using ROWV_at k x hx j v hv

theorem one_inf (s : ByteArray) (a b c d f : Int) : (#[.string s, .int .i64 a, .int .i64 b, .int .i64 c, .int .i64 d, .int .i64 f] : Array Value).all (·.oneCell') = true := by simp [Value.oneCell']

theorem built_inf : Tryd.prog.built 28 [] = some #[.string ⟨#[]⟩, .int .i64 0, .int .i64 0, .int .i64 0, .int .i64 0, .int .i64 0] := by kernel_rfl

set_option maxRecDepth 100000 in
set_option maxHeartbeats 400000 in
theorem rinfo_any (n : Int) (w : World) :
    Calls Tryd.prog 9 #[.int .i64 n] w fun e w' => e = .returned (.tuple #[.agg (infV (infoA n).1).toArray, .bool (infoA n).2]) ∧ Below w.heap.size w w' := by
  obtain ⟨g, hg⟩ : ∃ g, w.heap.size = g := ⟨_, rfl⟩
  obtain ⟨w1, hw1⟩ : ∃ w1, w.alloc (.cells #[.string ⟨#[]⟩, .int .i64 0, .int .i64 0, .int .i64 0, .int .i64 0, .int .i64 0] 28) = w1 := ⟨_, rfl⟩
  have B1 : Below w.heap.size w w1 := by rw [← hw1]; exact (Below.refl _ _).alloc (Nat.le_refl _) _
  have A1 : w1.heap[g]? = some (.cells #[.string ⟨#[]⟩, .int .i64 0, .int .i64 0, .int .i64 0, .int .i64 0, .int .i64 0] 28 (0, 0)) := by rw [← hw1, ← hg]; exact heap_alloc_new _ _
  have Z1 : w1.heap.size = g + 1 := by rw [← hw1, ← hg]; simp
  have CR := hide (rows_any w1)
  have H1 := hide (And.intro B1 A1)
  clear B1 A1
  by_cases hn : 1 ≤ n ∧ n ≤ 41
  · obtain ⟨k, rfl⟩ : ∃ k : Nat, n = ((k + 1 : Nat) : Int) := ⟨n.toNat - 1, by omega⟩
    have hk := getD_ops (k + 1) (by omega)
    have e1 : infoA ((k + 1 : Nat) : Int) = (OPS.getD (k + 1) blank, true) := by unfold infoA; rw [if_pos hn]; simp
    rw [e1]
    obtain ⟨x, hx⟩ : ∃ x, OPS.getD (k + 1) blank = x := ⟨_, rfl⟩
    rw [hx] at hk
    rw [hx]
    obtain ⟨s, a, b, c, d, f⟩ := x
    obtain ⟨m, hm⟩ : ∃ m : Int, ((k + 1 : Nat) : Int) = m := ⟨_, rfl⟩
    rw [hm]
    rw [hm] at hn
    have hm1 : m - 1 = (k : Int) := by omega
    have hm2 : IntKind.i64.wrap (k : Int) = (k : Int) := by rw [IntKind.wrap_i64]; omega
    have n3 : ¬ m < 1 := by omega
    have n4 : ¬ 41 < m := by omega
    have n5 : (k : Int) < 41 := by omega
    have HK := hide hk
    clear hk e1 hx hm hn
    go_enter Tryd.func9, Tryd.ntmps9
    go_wp2_with fail
    refine (unhide CR).mono ?_
    rintro e w2 ⟨rfl, A2, Z2, B2⟩
    have c0 : w2.cell? ⟨w1.heap.size, k * 6, none⟩ = some (.string s) := rowv_cell A2 k _ (unhide HK) 0 _ rfl
    have c1 : w2.cell? ⟨w1.heap.size, k * 6 + 1, none⟩ = some (.int .i64 a) := rowv_cell A2 k _ (unhide HK) 1 _ rfl
    have c2 : w2.cell? ⟨w1.heap.size, k * 6 + 2, none⟩ = some (.int .i64 b) := rowv_cell A2 k _ (unhide HK) 2 _ rfl
    have c3 : w2.cell? ⟨w1.heap.size, k * 6 + 3, none⟩ = some (.int .i64 c) := rowv_cell A2 k _ (unhide HK) 3 _ rfl
    have c4 : w2.cell? ⟨w1.heap.size, k * 6 + 4, none⟩ = some (.int .i64 d) := rowv_cell A2 k _ (unhide HK) 4 _ rfl
    have c5 : w2.cell? ⟨w1.heap.size, k * 6 + 5, none⟩ = some (.int .i64 f) := rowv_cell A2 k _ (unhide HK) 5 _ rfl
    have A2' := (B2.block g (by omega)).trans (unhide H1).2
    have H2 := hide (And.intro A2' B2)
    rw [Z1] at c0 c1 c2 c3 c4 c5
    clear A2 A2' B2 CR Z2
    have tok : True := trivial
    go_wp2_with (first | (have _t := tok; refine wpList_put_arr rfl 28 (.tmp 2) (.tmp 19) rfl g _ _ rfl rfl (unhide H2).1 rfl size_inf (one_inf _ _ _ _ _ _) ?_; clear tok; intro w3 M3))
    exact bodyPost_ret (ret_ct (p := 2) (u := 3) (T := 28) rfl _ _ g _ _ _ rfl (unhide M3).at' Tryd.underlying28 rfl size_inf) rfl ⟨rfl, (unhide M3).below w.heap.size w ((unhide H1).1.trans ((unhide H2).2.mono (unhide H1).1.size)) (by omega)⟩
  · have e1 : infoA n = (blank, false) := by unfold infoA; rw [if_neg hn]
    rw [e1]
    have tok : True := trivial
    by_cases n1 : n < 1
    · go_enter Tryd.func9, Tryd.ntmps9
      go_wp2_with fail
      refine (unhide CR).mono ?_
      rintro e w2 ⟨rfl, A2, Z2, B2⟩
      have A2' := (B2.block g (by omega)).trans (unhide H1).2
      have H2 := hide (And.intro A2' B2)
      clear A2 A2' B2 CR Z2
      go_wp2_with (first | (have _t := tok; refine wpList_put_arr rfl 28 (.tmp 2) (.tmp 14) rfl g _ _ rfl rfl (unhide H2).1 rfl size_inf (one_inf _ _ _ _ _ _) ?_; clear tok; intro w3 M3))
      exact bodyPost_ret (ret_ct (p := 2) (u := 3) (T := 28) rfl _ _ g _ _ _ rfl (unhide M3).at' Tryd.underlying28 rfl size_inf) rfl ⟨rfl, (unhide M3).below w.heap.size w ((unhide H1).1.trans ((unhide H2).2.mono (unhide H1).1.size)) (by omega)⟩
    · have n2 : 41 < n := by omega
      go_enter Tryd.func9, Tryd.ntmps9
      go_wp2_with fail
      refine (unhide CR).mono ?_
      rintro e w2 ⟨rfl, A2, Z2, B2⟩
      have A2' := (B2.block g (by omega)).trans (unhide H1).2
      have H2 := hide (And.intro A2' B2)
      clear A2 A2' B2 CR Z2
      go_wp2_with (first | (have _t := tok; refine wpList_put_arr rfl 28 (.tmp 2) (.tmp 14) rfl g _ _ rfl rfl (unhide H2).1 rfl size_inf (one_inf _ _ _ _ _ _) ?_; clear tok; intro w3 M3))
      exact bodyPost_ret (ret_ct (p := 2) (u := 3) (T := 28) rfl _ _ g _ _ _ rfl (unhide M3).at' Tryd.underlying28 rfl size_inf) rfl ⟨rfl, (unhide M3).below w.heap.size w ((unhide H1).1.trans ((unhide H2).2.mono (unhide H1).1.size)) (by omega)⟩

set_option maxRecDepth 100000 in
set_option maxHeartbeats 400000 in
theorem rnamed_any (s : ByteArray) (w : World) :
    Calls Tryd.prog 8 #[.string s] w fun e w' => e = .returned (.tuple #[.int .i64 (namA s).1, .bool (namA s).2]) ∧ Below w.heap.size w w' := by
  have CR := hide (rows_any w)
  obtain ⟨r1, hr1⟩ : ∃ r, (namA s).1 = r := ⟨_, rfl⟩
  obtain ⟨r2, hr2⟩ : ∃ r, (namA s).2 = r := ⟨_, rfl⟩
  rw [hr1, hr2]
  have HA := hide (And.intro hr1 hr2)
  obtain ⟨g, hg⟩ : ∃ g, w.heap.size = g := ⟨_, rfl⟩
  clear hr1 hr2
  go_enter Tryd.func8, Tryd.ntmps8
  go_wp2_with fail
  refine (unhide CR).mono ?_
  rintro e w2 ⟨rfl, A2, Z2, B2⟩
  have H2 := hide (And.intro A2 B2)
  clear A2 B2 CR
  go_wp2_with fail
  go_loopw [5] (fun x wr => ∃ (i : Nat), x = .int .i64 (i : Int) ∧ Hid (i ≤ 41 ∧ i ≤ nidx s ∧ wr = w2)) (fun x _ => 41 - (intOf x).toNat)
  case atStart => exact ⟨0, rfl, hide ⟨by omega, by omega, rfl⟩⟩
  case round =>
    obtain ⟨i, rfl, HX⟩ := hrel
    obtain rfl : wr = w2 := (unhide HX).2.2
    by_cases hlt : i < 41
    · have i1 : (i : Int) < 41 := by omega
      have hx := getD_ops (i + 1) (by omega)
      obtain ⟨x, hxx⟩ : ∃ x, OPS.getD (i + 1) blank = x := ⟨_, rfl⟩
      rw [hxx] at hx
      obtain ⟨n, a, b, c, d, f⟩ := x
      have c0 : wr.cell? ⟨w.heap.size, i * 6, none⟩ = some (.string n) := rowv_cell (unhide H2).1 i _ hx 0 _ rfl
      rw [hg] at c0
      have HH := hide hx
      have HL := hide hlt
      have hw1 : IntKind.i64.wrap ((i : Int) + 1) = (i : Int) + 1 := by rw [IntKind.wrap_i64]; omega
      clear hx hxx
      cases hs : n.toList == s.toList with
      | true =>
        have HS : Hid (r1 = (i : Int) + 1 ∧ r2 = true) := hide (by
          have e := nidx_hit s i _ (unhide HH) hs (unhide HX).2.1
          rw [← (unhide HA).1, ← (unhide HA).2]
          unfold namA
          rw [e, if_pos hlt]
          exact ⟨by simp, rfl⟩)
        clear HH
        go_wp2_with fail
        go_ret2
        exact ⟨by rw [(unhide HS).1, (unhide HS).2]; rfl, by rw [← hg]; exact (unhide H2).2⟩
      | false =>
        have HS : Hid (i + 1 ≤ 41 ∧ i + 1 ≤ nidx s) := hide ⟨by omega, nidx_miss s i _ (unhide HH) hs (unhide HX).2.1⟩
        clear HH
        go_wp2_with fail
        go_roundw
        case rel => exact ⟨i + 1, by go_num, hide ⟨(unhide HS).1, (unhide HS).2, by trivial⟩⟩
        case measure => have := unhide HL; simp [intOf]; omega
    · have hi : i = 41 := by have := (unhide HX).1; omega
      subst hi
      have HS : Hid (r1 = 0 ∧ r2 = false) := hide (by
        have e : ¬ nidx s < 41 := by have := (unhide HX).2.1; omega
        rw [← (unhide HA).1, ← (unhide HA).2]
        unfold namA
        rw [if_neg e]
        exact ⟨rfl, rfl⟩)
      go_wp2_with fail
      go_ret2
      exact ⟨by rw [(unhide HS).1, (unhide HS).2]; rfl, by rw [← hg]; exact (unhide H2).2⟩
end Go.Proofs.YtdjipdpibkcecaaDoor
