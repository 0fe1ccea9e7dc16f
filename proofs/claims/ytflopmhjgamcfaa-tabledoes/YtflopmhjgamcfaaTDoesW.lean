/-
  The walk of the law TableDoes; conditions: the script's steps lie in memory, 2^42 at the most.
-/
import Derived.Test.YtflopmhjgamcfaaTPlay
import Derived.Test.YtflopmhjgamcfaaTHold
set_option linter.unusedSimpArgs false
namespace Go.Proofs.Ytflopmhjgamcfaa.tableDoes
open Go.RowKit
set_option linter.unusedVariables false

set_option maxRecDepth 100000 in
set_option maxHeartbeats 1000000 in
theorem walk (ao : Option Addr) (n cap : Nat) (ss : List Stp4) (w : World) (hk : Script w w.heap.size ao n ss) (hn : (n + 2) * 16 ≤ 140737488355328) :
    Calls Try.prog 3 #[.slice ao n cap] w fun e w' => e = .returned (.bool true) ∧ Below w.heap.size w w' := by
  have CP := hide (played_I ao n cap ss w hk hn)
  clear hk
  go_enter Try.func3, Try.ntmps3
  go_wp2_with fail
  refine (unhide CP).mono ?_
  rintro e w1 ⟨av, es, rfl, q1, q2, q3, q4⟩
  obtain ⟨A, ac, hav⟩ : ∃ A ac, av = .slice (some ⟨A, 0, none⟩) es.length ac := by
    rcases q1.row.2 with ⟨_, h0⟩ | ⟨A, cap, cur, rfl, _⟩
    · omega
    · exact ⟨A, cap, rfl⟩
  subst hav
  obtain ⟨m, hm⟩ : ∃ m, es.length = m := ⟨_, rfl⟩
  have HQ := hide (And.intro q1 q2)
  have HM := hide hm
  rw [hm] at q3 q4 ⊢
  clear q1 q2 hm CP
  go_wp2_with fail
  go_loopw [5] (fun x wr => ∃ i : Nat, i ≤ m ∧ x = .int .i64 i ∧ Hid (Below w1.heap.size w1 wr)) (fun x _ => m - (intOf x).toNat)
  case atStart => exact ⟨0, Nat.zero_le _, rfl, hide (Below.refl _ _)⟩
  case round =>
    obtain ⟨i, hi, rfl, HB⟩ := hrel
    by_cases hlt : i < m
    · have i1 : (i : Int) < (m : Int) := by omega
      obtain ⟨a, ha⟩ : ∃ a, es[i]? = some a := ⟨_, List.getElem?_eq_getElem (by have := unhide HM; omega)⟩
      have hA := (unhide HQ).1.later (unhide HB)
      obtain ⟨t0, t1⟩ := all_cells hA ha
      have ho := hA.ok i a ha
      have hl := (unhide HQ).2 a (List.mem_of_getElem? ha)
      have CH : Hid (Calls Try.prog 9 #[.agg #[.pointer (some ⟨a.g, 0, none⟩), a.r]] wr fun e w' => e = .returned (.bool true) ∧ Below wr.heap.size wr w') := hide (holds_I ho.tab (by rw [hl]; exact ho.ref))
      obtain ⟨r, hr⟩ : ∃ r, a.r = r := ⟨_, rfl⟩
      obtain ⟨g, hg⟩ : ∃ g, a.g = g := ⟨_, rfl⟩
      rw [hr] at t1 CH
      rw [hg] at t0 CH
      clear hA ho hl ha hr hg
      go_wp2_with fail
      refine (unhide CH).mono ?_
      rintro e y1 ⟨rfl, d1⟩
      have Q1 : Hid (Below w1.heap.size w1 y1) := hide ((unhide HB).trans (d1.mono (unhide HB).size))
      clear d1 CH t0 t1
      go_wp2_with fail
      go_roundw
      case rel => exact ⟨i + 1, by omega, by go_num, Q1⟩
      case measure => simp [intOf]; omega
    · obtain rfl : i = m := by omega
      have i1 : decide ((i : Int) < (i : Int)) = false := by simp
      have i2 : decide (i < i) = false := by simp
      go_wp2_with fail
      go_ret
      exact ⟨rfl, (unhide HQ).1.below.trans ((unhide HB).mono (unhide HQ).1.below.size)⟩
end Go.Proofs.Ytflopmhjgamcfaa.tableDoes
