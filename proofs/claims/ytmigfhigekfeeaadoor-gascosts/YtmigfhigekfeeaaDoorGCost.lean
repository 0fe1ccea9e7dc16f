/-
  gas.Cost, and the document's own (layer 11); conditions: the package's variables.
-/
import Derived.Test.YtmigfhigekfeeaaDoorCRef2
namespace Go.Proofs.YtmigfhigekfeeaaDoor
open Go.RowKit

/-- what Cost answers -/
def costA (n m : Int) : Int × Int :=
  if (infoA n).2 then (if 0 ≤ m ∧ m ≤ 1048576 then (wrap64 ((infoA n).1.2.2.2.2.1 + wrap64 ((infoA n).1.2.2.2.2.2 * m)), 0) else (0, 2)) else (0, 111)

set_option maxRecDepth 100000 in
theorem cost_any (n m : Int) (w : World) (h : Tab w) : Calls Tryd.prog 4 #[.int .i64 n, .int .i64 m] w fun e w' => e = .returned (.tuple #[.int .i64 (costA n m).1, .int .i64 (costA n m).2]) ∧ Below w.heap.size w w' := by
  have C := hide (info_any n w h)
  obtain ⟨R, hR⟩ : ∃ R, costA n m = R := ⟨_, rfl⟩
  rw [hR]
  unfold costA at hR
  obtain ⟨x, hx⟩ : ∃ x, infoA n = x := ⟨_, rfl⟩
  rw [hx] at C hR
  obtain ⟨⟨s, a, b, c, d, f⟩, t⟩ := x
  simp only [infV] at C hR
  clear h hx
  cases t
  · obtain rfl : R = (0, 111) := by rw [← hR]; rfl
    clear hR
    go_enter Tryd.func4, Tryd.ntmps4
    go_wp2_with fail
    refine (unhide C).mono ?_
    rintro e w1 ⟨rfl, B1⟩
    have H1 := hide B1
    clear B1
    go_wp2_with fail
    go_ret2
    exact ⟨rfl, (unhide H1).alloc (unhide H1).size _⟩
  · by_cases m0 : m < 0
    · obtain rfl : R = (0, 2) := by rw [← hR, if_pos rfl, if_neg (by omega)]
      clear hR
      go_enter Tryd.func4, Tryd.ntmps4
      go_wp2_with fail
      refine (unhide C).mono ?_
      rintro e w1 ⟨rfl, B1⟩
      have H1 := hide B1
      clear B1
      go_wp2_with fail
      go_ret2
      exact ⟨rfl, (unhide H1).alloc (unhide H1).size _⟩
    · have m0' : 0 ≤ m := by omega
      by_cases m1 : 1048576 < m
      · obtain rfl : R = (0, 2) := by rw [← hR, if_pos rfl, if_neg (by omega)]
        clear hR
        go_enter Tryd.func4, Tryd.ntmps4
        go_wp2_with fail
        refine (unhide C).mono ?_
        rintro e w1 ⟨rfl, B1⟩
        have H1 := hide B1
        clear B1
        go_wp2_with fail
        go_ret2
        exact ⟨rfl, (unhide H1).alloc (unhide H1).size _⟩
      · have m1' : m ≤ 1048576 := by omega
        obtain rfl : R = (wrap64 (d + wrap64 (f * m)), 0) := by rw [← hR, if_pos rfl, if_pos ⟨m0', m1'⟩]
        clear hR
        go_enter Tryd.func4, Tryd.ntmps4
        go_wp2_with fail
        refine (unhide C).mono ?_
        rintro e w1 ⟨rfl, B1⟩
        have H1 := hide B1
        clear B1
        go_wp2_with fail
        go_ret2
        exact ⟨rfl, (unhide H1).alloc (unhide H1).size _⟩

set_option maxRecDepth 100000 in
theorem rcost_any (n m : Int) (w : World) : Calls Tryd.prog 5 #[.int .i64 n, .int .i64 m] w fun e w' => e = .returned (.tuple #[.int .i64 (costA n m).1, .int .i64 (costA n m).2]) ∧ Below w.heap.size w w' := by
  have C := hide (rinfo_any n w)
  obtain ⟨R, hR⟩ : ∃ R, costA n m = R := ⟨_, rfl⟩
  rw [hR]
  unfold costA at hR
  obtain ⟨x, hx⟩ : ∃ x, infoA n = x := ⟨_, rfl⟩
  rw [hx] at C hR
  obtain ⟨⟨s, a, b, c, d, f⟩, t⟩ := x
  simp only [infV] at C hR
  clear hx
  cases t
  · obtain rfl : R = (0, 111) := by rw [← hR]; rfl
    clear hR
    go_enter Tryd.func5, Tryd.ntmps5
    go_wp2_with fail
    refine (unhide C).mono ?_
    rintro e w1 ⟨rfl, B1⟩
    have H1 := hide B1
    clear B1
    go_wp2_with fail
    go_ret2
    exact ⟨rfl, (unhide H1).alloc (unhide H1).size _⟩
  · by_cases m0 : m < 0
    · obtain rfl : R = (0, 2) := by rw [← hR, if_pos rfl, if_neg (by omega)]
      clear hR
      go_enter Tryd.func5, Tryd.ntmps5
      go_wp2_with fail
      refine (unhide C).mono ?_
      rintro e w1 ⟨rfl, B1⟩
      have H1 := hide B1
      clear B1
      go_wp2_with fail
      go_ret2
      exact ⟨rfl, (unhide H1).alloc (unhide H1).size _⟩
    · have m0' : 0 ≤ m := by omega
      by_cases m1 : 1048576 < m
      · obtain rfl : R = (0, 2) := by rw [← hR, if_pos rfl, if_neg (by omega)]
        clear hR
        go_enter Tryd.func5, Tryd.ntmps5
        go_wp2_with fail
        refine (unhide C).mono ?_
        rintro e w1 ⟨rfl, B1⟩
        have H1 := hide B1
        clear B1
        go_wp2_with fail
        go_ret2
        exact ⟨rfl, (unhide H1).alloc (unhide H1).size _⟩
      · have m1' : m ≤ 1048576 := by omega
        obtain rfl : R = (wrap64 (d + wrap64 (f * m)), 0) := by rw [← hR, if_pos rfl, if_pos ⟨m0', m1'⟩]
        clear hR
        go_enter Tryd.func5, Tryd.ntmps5
        go_wp2_with fail
        refine (unhide C).mono ?_
        rintro e w1 ⟨rfl, B1⟩
        have H1 := hide B1
        clear B1
        go_wp2_with fail
        go_ret2
        exact ⟨rfl, (unhide H1).alloc (unhide H1).size _⟩

end Go.Proofs.YtmigfhigekfeeaaDoor
