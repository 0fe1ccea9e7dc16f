/-
  The function that From hands out: it goes through its pairs, whatever the loop's body does that keeps what lay ahead of it; no conditions.
-/
import Derived.Test.YtflopmhjgamcfaaTFromI
import Derived.RangeFuncBox
import Derived.RangeFuncLeaves
import Derived.RangeFuncNested
import Derived.RangeFuncBound
import Derived.RangeFuncCalls
import Derived.Shelf.Abstract
import Derived.Shelf.RegionOpen
import Derived.OwnWalkIn
import Derived.TacticsInMore
import Derived.LoopNIn
import Derived.LoopIn
set_option linter.unusedSimpArgs false
namespace Go.Proofs.Ytflopmhjgamcfaa
open Go.RowKit Go.Shelf
set_option linter.unusedVariables false
attribute [local go_sem] Oper.semAt_some

/-- a row of its own stands as it stood -/
def KeepV (v : Value) (W W' : World) : Prop := ∀ b, v.ownBlock = some b → W'.heap[b]? = W.heap[b]?

/-- a pair, as yield takes it -/
abbrev encP (p : Int × Int) : Array Value := #[.int .i64 p.1, .int .i64 p.2]

set_option maxRecDepth 100000 in
set_option maxHeartbeats 2000000 in
theorem iter_in (n : Nat) (hn : 1 ≤ n) (l : Nat) (ps : Prs) (G : Nat) (v : Value) (w0 W : World) (hG : W.heap[G]? = some (.cells #[v] 68 (0, 0))) (hrow : W.ownsRow w0.heap.size 71 2 v ps.length (cells2 (valsI ps)))
    (J Jx : List (Int × Int) → World → Prop) (hJ : AbidesFrom W.heap.size J)
    (hY : ∀ pre x W1, J pre W1 → pre.length < ps.length → YieldAt Fence.wide (n - 1) Try.prog l (encP x) W1 fun e W' =>
      (e = .returned (.bool true) ∧ J (pre ++ [x]) W' ∧ KeepV v W1 W') ∨ (e = .returned (.bool false) ∧ Jx (pre ++ [x]) W')) (h0 : J [] W) :
    CallsIn Fence.wide n Try.prog 32 #[.func (.yield l) #[] #[], .pointer (some ⟨G, 0, none⟩)] W fun e W' => (∃ v, e = .returned v) ∧ ((∃ xs, xs = ps ∧ J xs W') ∨ (∃ pre, pre <+: ps ∧ Jx pre W')) := by
  have hblk : ∀ b, v.ownBlock = some b → ∃ cur, W.heap[b]? = some (.cells cur 71 (0, 0)) := fun b hb => by
    rcases hrow.2 with ⟨rfl, _⟩ | ⟨g, c, cur, rfl, _, hg, _⟩
    · cases hb
    · cases hb
      exact ⟨cur, hg⟩
  obtain ⟨ao, cap, rfl, hcap, hmax, hnone, hsome⟩ := own_shape (l := valsI ps) (by rw [valsI_len]; exact hrow)
  rw [valsI_len] at hcap hnone
  have c0 : W.cell? ⟨G, 0, none⟩ = some (.slice ao (valsI ps).length cap) := by rw [cell_of_row W G 0 _ _ (0, 0) hG]; rfl
  rw [valsI_len] at c0
  obtain ⟨m, hm⟩ : ∃ m, ps.length = m := ⟨_, rfl⟩
  have hmx : m ≤ 9223372036854775807 := by unfold maxLen at hmax; omega
  have HC : Hid (∀ i p, ps[i]? = some p → ∃ b, ao = some ⟨b, 0, none⟩ ∧ W.cell? ⟨b, i * 2, none⟩ = some (.int .i64 p.1) ∧ W.cell? ⟨b, i * 2 + 1, none⟩ = some (.int .i64 p.2)) := hide (fun i p hp => by
    cases ao with
    | none =>
      have := (List.getElem?_eq_some_iff.1 hp).1
      have := hnone rfl
      omega
    | some ad =>
      obtain ⟨b, rfl, -, -, hb⟩ := hsome ad rfl
      exact ⟨b, rfl, (hb i _ (valsI_at hp)).1, (hb i _ (valsI_at hp)).2⟩)
  rw [hm] at c0
  have HM := hide hm
  have HB := hide hblk
  clear hrow hG hsome hnone hcap hmax hm hblk
  refine callsIn_of_wp Try.func32 rfl trivial ?_ rfl
  simp only [Try.ntmps32, List.size_toArray, List.length_cons, List.length_nil, Nat.reduceAdd, Nat.reduceSub, Array.replicate_succ, Array.replicate_zero, List.push_toArray, List.append_toArray, List.nil_append, List.cons_append]
  gi_wp2
  gi_loopw [7] (fun i wr => ∃ k : Nat, k ≤ m ∧ i = .int .i64 k ∧ J (ps.take k) wr ∧ Hid (KeepV (.slice ao ps.length cap) W wr)) (fun i _ => m - (intOf i).toNat)
  case atStart => exact ⟨0, Nat.zero_le _, rfl, h0, hide (fun b _ => rfl)⟩
  case round =>
    obtain ⟨k, hk, rfl, hJs, HNX⟩ := hrel
    by_cases hlt : k < m
    · obtain ⟨p, hp⟩ : ∃ p, ps[k]? = some p := ⟨_, List.getElem?_eq_getElem (by have := unhide HM; omega)⟩
      obtain ⟨b, rfl, d0, d1⟩ := unhide HC k p hp
      have hbe : wr.heap[b]? = W.heap[b]? := unhide HNX b rfl
      obtain ⟨cur, hcur⟩ := unhide HB b rfl
      have hbl : b < wr.heap.size := (Array.getElem?_eq_some_iff.1 (hbe.trans hcur)).1
      have d0' : wr.cell? ⟨b, k * 2, none⟩ = some (.int .i64 p.1) := (World.cell?_of_block (w := W) hbe).trans d0
      have d1' : wr.cell? ⟨b, k * 2 + 1, none⟩ = some (.int .i64 p.2) := (World.cell?_of_block (w := W) hbe).trans d1
      have k1 : (k : Int) < (m : Int) := by omega
      have hJ2 : J (ps.take k) (wr.alloc (.cells #[.int .i64 p.1, .int .i64 p.2] 71)) := hJ _ _ _ none hJs (World.grownBy_alloc _ _ _) (fun r h => by cases h)
      obtain ⟨fn, tmps, assign, body, hy, hR⟩ := hY _ p _ hJ2 (by have := unhide HM; rw [List.length_take]; omega)
      have htk : ps.take k ++ [p] = ps.take (k + 1) := by rw [List.take_add_one, hp]; rfl
      rw [htk] at hR
      have HA : Hid ((wr.alloc (.cells #[.int .i64 p.1, .int .i64 p.2] 71)).heap[b]? = W.heap[b]?) := hide ((((Below.refl wr.heap.size wr).alloc (Nat.le_refl _) (.cells #[.int .i64 p.1, .int .i64 p.2] 71)).block b hbl).trans hbe)
      clear hcur hbe
      gi_wp2
      refine hR.mono ?_
      rintro e W3 (⟨rfl, hJ3, hk3⟩ | ⟨rfl, hJx3⟩)
      · have HK3 : Hid (KeepV (.slice (some ⟨b, 0, none⟩) ps.length cap) W W3) := hide (fun c hc => by
          have hcb : c = b := by simpa [Value.ownBlock] using hc.symm
          subst hcb
          exact (hk3 c rfl).trans (unhide HA))
        clear hk3
        gi_wp2
        go_roundw
        case rel => exact ⟨k + 1, by omega, by simp, hJ3, HK3⟩
        case measure => simp [intOf]; omega
      · gi_wp2
        refine bodyPost_ret (results_none rfl _ _ _) rfl ?_
        exact ⟨⟨_, rfl⟩, .inr ⟨_, List.take_prefix _ _, hJx3⟩⟩
    · obtain rfl : k = m := by omega
      have k1 : ¬ (k : Int) < (k : Int) := by omega
      have htk : ps.take k = ps := List.take_of_length_le (by have := unhide HM; omega)
      rw [htk] at hJs
      gi_wp2
      go_end0
      first | exact ⟨⟨_, rfl⟩, .inl ⟨_, rfl, hJs⟩⟩ | exact ⟨⟨_, rfl⟩, .inl hJs⟩

/-- .. as the laws of a range want it -/
theorem iter_stops (n : Nat) (hn : 1 ≤ n) (ps : Prs) (G : Nat) (v : Value) (w0 w : World) (hG : w.heap[G]? = some (.cells #[v] 68 (0, 0))) (hrow : w.ownsRow w0.heap.size 71 2 v ps.length (cells2 (valsI ps))) :
    SeqStopsK Fence.wide n Try.prog 32 #[.pointer (some ⟨G, 0, none⟩)] encP (KeepV v) (fun xs => xs = ps) (fun pre => pre <+: ps) ps.length w := fun l J Jx W hW hJ _ hY h0 => by
  have hgl := (Array.getElem?_eq_some_iff.1 hG).1
  refine iter_in n hn l ps G v w0 W ((hW.block G hgl).trans hG) ?_ J Jx hJ hY h0
  refine ⟨hrow.1, ?_⟩
  rcases hrow.2 with h | ⟨b, cap, cur, e, hb', hg', rest⟩
  · exact .inl h
  · exact .inr ⟨b, cap, cur, e, hb', (hW.block b (Array.getElem?_eq_some_iff.1 hg').1).trans hg', rest⟩
end Go.Proofs.Ytflopmhjgamcfaa
