/-
  slices.Insert of one pair into a row of pairs of the call's own, at its end; no conditions but that the row's bytes are within 2^47.
-/
import Derived.Test.YtflopmhjgamcfaaTRow
namespace Go.Proofs.Ytflopmhjgamcfaa
open Go.RowKit

theorem infoI : (Try.prog.info? 71).map (fun i => (i.zero, i.size, i.bytes)) = some (some (.agg #[.int .i64 0, .int .i64 0]), 2, 16) := by kernel_rfl

set_option maxRecDepth 100000 in
theorem insert_endI (base : Nat) (v x y : Value) (l : List (Value × Value)) (gv : Nat) (w : World) (ho : w.ownsRow base 71 2 v l.length (cells2 l)) (hv : w.heap[gv]? = some (.cells #[x, y] 71 (0, 0)))
    (hx : x.oneCell' = true) (hy : y.oneCell' = true) (hb : (l.length + 1) * 16 ≤ 140737488355328) (hbase : base ≤ w.heap.size) :
    Calls Try.prog 34 #[v, .int .i64 l.length, .slice (some ⟨gv, 0, none⟩) 1 1] w fun e w' => ∃ v', e = .returned v' ∧ w'.ownsRow base 71 2 v' (l.length + 1) (cells2 (l ++ [(x, y)])) ∧ Grew w w' v v' := by
  obtain ⟨i0, hi, hz0, hz1, hz2⟩ := info_parts infoI
  obtain ⟨ao, cap, hv', hcap, hmax, hnone, hsome⟩ := own_shape ho
  have HO := hide ho
  have HV := hide hv
  have HS := hide hsome
  have HP := hide (And.intro hx (And.intro hy (And.intro hb hbase)))
  obtain ⟨n, hn⟩ : ∃ n, l.length = n := ⟨_, rfl⟩
  rw [hn] at hv' hcap hnone HO hb ⊢
  subst hv'
  have HN := hide hn
  have hmx : cap ≤ 9223372036854775807 := by unfold maxLen at hmax; omega
  clear ho hv hsome hx hy hbase hn hmax
  go_enter Try.func34, Try.ntmps34
  cases ao with
  | none =>
    obtain rfl := hnone rfl
    go_wp2_with (first | (at_builtin; refine wpl_app2 rfl (.tmp 23) (.tmp 24) 68 71 i0 _ 16 Try.underlying68 hi hz0 hz1 hz2 rfl rfl base 0 (.slice none 0 cap) _ rfl (unhide HO) gv x y rfl (unhide HV) (unhide HP).1 (unhide HP).2.1 (by unfold maxLen; omega) (by omega) (unhide HP).2.2.2 ?_; intro v2 w2 o2))
    go_ret
    exact ⟨_, rfl, by rw [cells2_append]; exact (unhide o2).1, (unhide o2).2.grown, (unhide o2).2.row⟩
  | some ad =>
    obtain ⟨b, rfl, -⟩ := unhide HS ad rfl
    have i1 : (0 : Int) ≤ (n : Int) := by omega
    have i2 : (n : Int) ≤ (cap : Int) := by omega
    have i3 : (n : Int) ≤ (n : Int) := by omega
    go_wp2_with (first | (at_builtin; refine wpl_app2 rfl (.tmp 23) (.tmp 24) 68 71 i0 _ 16 Try.underlying68 hi hz0 hz1 hz2 rfl rfl base n (.slice (some ⟨b, 0, none⟩) n cap) _ rfl (unhide HO) gv x y rfl (unhide HV) (unhide HP).1 (unhide HP).2.1 (by unfold maxLen; omega) (by omega) (unhide HP).2.2.2 ?_; intro v2 w2 o2))
    all_goals (go_ret; exact ⟨_, rfl, by rw [cells2_append]; exact (unhide o2).1, (unhide o2).2.grown, (unhide o2).2.row⟩)
end Go.Proofs.Ytflopmhjgamcfaa
