/-
  The walk of the document's turned (layer 2): a word, turned to the right; condition: by 1 to 31 places.
-/
import Derived.Test.YtfmbaidpeliakaaDoorDigDefs
import Derived.Deep.QuietTactic
import Derived.BigQuiet
namespace Go.Proofs.YtfmbaidpeliakaaDoor
open Go.RowKit

/-- a word, turned to the right by n places -/
def rotr (x : Int) (n : Nat) : Int := bits .or .u32 (x / 2 ^ n) (IntKind.u32.wrap (x * 2 ^ (32 - n)))

set_option maxHeartbeats 400000 in
theorem refTurned_any (x : Int) (n : Nat) (w : World) (hn : n ≤ 32) :
    Calls Tryd.prog 20 #[.int .u32 x, .int .i64 n] w fun e w' => e = .returned (.int .u32 (rotr x n)) ∧ ∃ q, w' = w.drewN q := by
  have i1 : (0 : Int) ≤ (n : Int) := by omega
  have i2 : (n : Int) ≤ 32 := by omega
  have i3 : (0 : Int) ≤ 32 - (n : Int) := by omega
  have i4 : 32 - (n : Int) ≤ 32 := by omega
  have e1 : (32 - (n : Int)).toNat = 32 - n := by omega
  go_enter Tryd.func20, Tryd.ntmps20
  go_wp2_with fail
  go_quiet (fail)
  go_wp2_with fail
  go_ret
  exact ⟨rfl, _, rfl⟩
end Go.Proofs.YtfmbaidpeliakaaDoor
