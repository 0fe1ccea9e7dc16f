/-
  A script is played: its tables have what they must have; conditions: the script's steps lie in memory, 2^42 at the most.
-/
import Derived.Test.YtflopmhjgamcfaaTDoesA
set_option linter.unusedSimpArgs false
namespace Go.Proofs.Ytflopmhjgamcfaa
open Go.RowKit
set_option linter.unusedVariables false

/-- a step -/
structure Stp4 where
  kd : Int
  on : Int
  k : Int
  x : Int

/-- a script in memory -/
structure Script (w : World) (B : Nat) (ao : Option Addr) (n : Nat) (ss : List Stp4) : Prop where
  length : ss.length = n
  cell : ∀ i s, ss[i]? = some s → ∃ a b o, ao = some a ∧ a.add (i * 4) = ⟨b, o, none⟩ ∧ b < B ∧ w.cell? ⟨b, o, none⟩ = some (.int .i64 s.kd) ∧ w.cell? ⟨b, o + 1, none⟩ = some (.int .i64 s.on) ∧ w.cell? ⟨b, o + 2, none⟩ = some (.int .i64 s.k) ∧ w.cell? ⟨b, o + 3, none⟩ = some (.int .i64 s.x)

theorem Script.later {w u : World} {B : Nat} {ao : Option Addr} {n : Nat} {ss : List Stp4} (h : Script w B ao n ss) (hb : Below B w u) : Script u B ao n ss :=
  ⟨h.length, fun i t ht => by
    obtain ⟨a, b, o, ha, he, hlt, c0, c1, c2, c3⟩ := h.cell i t ht
    exact ⟨a, b, o, ha, he, hlt, (hb.cell hlt).trans c0, (hb.cell hlt).trans c1, (hb.cell hlt).trans c2, (hb.cell hlt).trans c3⟩⟩

theorem Script.mono {w : World} {B B' : Nat} {ao : Option Addr} {n : Nat} {ss : List Stp4} (h : Script w B ao n ss) (hb : B ≤ B') : Script w B' ao n ss :=
  ⟨h.length, fun i t ht => by
    obtain ⟨a, b, o, ha, he, hlt, q⟩ := h.cell i t ht
    exact ⟨a, b, o, ha, he, Nat.lt_of_lt_of_le hlt hb, q⟩⟩

/-- the tables behind a script -/
def PlayPost (w : World) (n : Nat) (e : Ending) (w' : World) : Prop := ∃ av es, e = .returned (.tuple #[av, .bool true]) ∧ AllT (fun _ _ => False) w w' av es n ∧ (∀ a ∈ es, a.l = a.m) ∧ 1 ≤ es.length ∧ es.length ≤ 6

set_option maxRecDepth 100000 in
set_option maxHeartbeats 1000000 in
theorem played_I (ao : Option Addr) (n cap : Nat) (ss : List Stp4) (w : World) (hk : Script w w.heap.size ao n ss) (hn : (n + 2) * 16 ≤ 140737488355328) :
    Calls Try.prog 8 #[.slice ao n cap] w fun e w' => PlayPost w n e w' := by
  obtain ⟨g, hg⟩ : ∃ g, w.heap.size = g := ⟨_, rfl⟩
  have N1 := heap_alloc_new w (.cells #[.slice none 0 0] 73)
  obtain ⟨w1, hw1⟩ : ∃ w1, w.alloc (.cells #[.slice none 0 0] 73) = w1 := ⟨_, rfl⟩
  have B1 : Below w.heap.size w w1 := by rw [← hw1]; exact (Below.refl _ _).alloc (Nat.le_refl _) _
  have Z1 : w1.heap.size = g + 1 := by rw [← hw1, ← hg]; simp
  have N2 := heap_alloc_new w1 (.cells #[.pointer (some ⟨g, 0, none⟩), .slice none 0 0] 29)
  obtain ⟨w2, hw2⟩ : ∃ w2, w1.alloc (.cells #[.pointer (some ⟨g, 0, none⟩), .slice none 0 0] 29) = w2 := ⟨_, rfl⟩
  have B2 : Below w1.heap.size w1 w2 := by rw [← hw2]; exact (Below.refl _ _).alloc (Nat.le_refl _) _
  rw [hw1, hg] at N1
  rw [hw2, Z1] at N2
  have A0 : AllT (fun _ _ => False) w w2 (.slice (some ⟨g + 1, 0, none⟩) 1 1) [⟨g, .slice none 0 0, [], .slice none 0 0, []⟩] 0 := by
    have hg2 : w2.heap[g]? = some (.cells #[.slice none 0 0] 73 (0, 0)) := (B2.block g (by omega)).trans N1
    refine ⟨⟨rfl, .inr ⟨g + 1, 1, _, rfl, by omega, N2, by simp, by decide, rfl, rfl⟩⟩, fun i e he => ?_, fun i j a b hij ha hb => ?_, B1.trans (B2.mono B1.size), fun b o h => h.elim⟩
    · match i, he with
      | 0, he =>
        cases he
        exact ⟨⟨hg2, World.ownsRow_nil _ _ _ _⟩, (fun i j p q _ h => by simp at h), (fun h => by cases h), World.ownsRow_nil _ _ _ _, ⟨Nat.le_refl _, Nat.le_refl _⟩, by show w.heap.size ≤ g; omega⟩
      | i + 1, he => simp at he
    · have h1 := (List.getElem?_eq_some_iff.1 ha).1
      have h2 := (List.getElem?_eq_some_iff.1 hb).1
      simp at h1 h2
      omega
  have HK := hide hk
  have HA := hide A0
  have W1 := hide hw1
  have W2 := hide hw2
  have Z1' := hide Z1
  have HG := hide hg
  clear hk N1 N2 B1 B2 hw1 hw2 Z1 A0 hg
  go_enter Try.func8, Try.ntmps8
  go_wp2_with fail
  refine (new_I w).mono ?_
  rintro e x1 ⟨rfl, hx1⟩
  rw [unhide W1] at hx1
  subst hx1
  rw [unhide HG]
  go_upto_region 5 with fail
  rw [unhide Z1', unhide W2]
  go_wp2_with fail
  go_loopw [5, 6] (fun xa x wr => ∃ (i : Nat) (es : List Ent), i ≤ n ∧ x = .int .i64 i ∧ Hid (AllT (fun _ _ => False) w wr xa es i ∧ (∀ a ∈ es, a.l = a.m) ∧ 1 ≤ es.length ∧ es.length ≤ 6)) (fun _ x _ => n - (intOf x).toNat)
  case atStart => exact ⟨0, _, Nat.zero_le _, rfl, hide ⟨unhide HA, fun a ha => by rw [List.mem_singleton.1 ha], by simp, by simp⟩⟩
  case round =>
    obtain ⟨i, es, hi, rfl, HQ⟩ := hrel
    by_cases hlt : i < n
    · have i1 : (i : Int) < (n : Int) := by omega
      obtain ⟨s, hs⟩ : ∃ s, ss[i]? = some s := ⟨_, List.getElem?_eq_getElem (by have := (unhide HK).length; omega)⟩
      obtain ⟨a, b, o, rfl, he, _, c0, c1, c2, c3⟩ := ((unhide HK).later (unhide HQ).1.below).cell i s hs
      obtain ⟨kd, on, k, x⟩ := s
      simp only at c0 c1 c2 c3
      have CD := hide (does_I (unhide HQ).1 (unhide HQ).2.1 (unhide HQ).2.2.1 (unhide HQ).2.2.2 (by omega) kd on k x)
      clear hs
      go_wp2_with fail
      refine (unhide CD).mono ?_
      rintro e y1 ⟨av', es', rfl, q1, q2, q3, q4⟩
      have Q1 : Hid (AllT (fun _ _ => False) w y1 av' es' (i + 1) ∧ (∀ a ∈ es', a.l = a.m) ∧ 1 ≤ es'.length ∧ es'.length ≤ 6) := hide ⟨q1, q2, q3, q4⟩
      clear q1 q2 q3 q4 c0 c1 c2 c3 CD he
      go_wp2_with fail
      go_roundw
      case rel => exact ⟨i + 1, es', by omega, by go_num, Q1⟩
      case measure => simp [intOf]; omega
    · obtain rfl : i = n := by omega
      have i1 : decide ((i : Int) < (i : Int)) = false := by simp
      have i2 : decide (i < i) = false := by simp
      go_wp2_with fail
      go_ret2
      exact ⟨_, es, rfl, (unhide HQ)⟩
end Go.Proofs.Ytflopmhjgamcfaa
