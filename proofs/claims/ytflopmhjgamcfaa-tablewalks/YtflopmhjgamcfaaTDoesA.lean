/-
  One step of a script over tables, of any kind; no conditions but that the rows' bytes are within 2^47.
-/
import Derived.Test.YtflopmhjgamcfaaTDoes0
import Derived.Test.YtflopmhjgamcfaaTDoes1
import Derived.Test.YtflopmhjgamcfaaTDoes2
import Derived.Test.YtflopmhjgamcfaaTDoes3
import Derived.Test.YtflopmhjgamcfaaTDoes4
import Derived.Test.YtflopmhjgamcfaaTDoes5
import Derived.Test.YtflopmhjgamcfaaTDoes6
namespace Go.Proofs.Ytflopmhjgamcfaa
open Go.RowKit

theorem does_I {I : Nat → Obj → Prop} {w wr : World} {av : Value} {es : List Ent} {N : Nat} (h : AllT I w wr av es N) (hsame : ∀ a ∈ es, a.l = a.m) (h1 : 1 ≤ es.length) (h6 : es.length ≤ 6) (hN : (N + 2) * 16 ≤ 140737488355328) (kd on k x : Int) :
    Calls Try.prog 11 #[av, .agg #[.int .i64 kd, .int .i64 on, .int .i64 k, .int .i64 x]] wr fun e w' => DoesPost I w N e w' := by
  rcases h.row.2 with ⟨_, h0⟩ | ⟨A, cap, cur, rfl, _⟩
  · omega
  · by_cases k1 : kd = 1
    · exact does_1 h hsame h1 h6 hN kd on k x k1
    by_cases k2 : kd = 2
    · exact does_2 h hsame h1 h6 hN kd on k x k2
    by_cases k3 : kd = 3
    · exact does_3 h hsame h1 h6 hN kd on k x k3
    by_cases k4 : kd = 4
    · exact does_4 h hsame h1 h6 hN kd on k x k4
    by_cases k5 : kd = 5
    · exact does_5 h hsame h1 h6 hN kd on k x k5
    by_cases k6 : kd = 6
    · exact does_6 h hsame h1 h6 hN kd on k x k6
    exact does_0 h hsame h1 h6 hN kd on k x ⟨k1, k2, k3, k4, k5, k6⟩
end Go.Proofs.Ytflopmhjgamcfaa
