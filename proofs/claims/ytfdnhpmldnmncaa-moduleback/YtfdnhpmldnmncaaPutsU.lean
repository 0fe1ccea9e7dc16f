/-
  The walk of num's unfold; no conditions.
-/
import Derived.Test.YtfdnhpmldnmncaaPuts
namespace Go.Proofs.Ytfdnhpmldnmncaa
open Go.RowKit

set_option maxRecDepth 100000 in
set_option maxHeartbeats 400000 in
theorem unfold_any (n : Int) (w : World) (h0 : 0 ≤ n) (h1 : n ≤ 18446744073709551615) :
    Calls Try.prog 93 #[.int .u64 n] w fun e w' => e = .returned (.int .i64 (unfoldI n)) ∧ w' = w := by
  by_cases hn : n % 2 = 1
  · have hx := not_i64 (n / 2) (by omega) (by omega)
    have hb : (n % 2 == 1) = true := by simp [hn]
    have HN := hide hn
    clear hn
    go_enter Try.func93, Try.ntmps93
    go_wp2
    go_ret
    exact ⟨ret_int (by rw [unfoldI, if_pos (unhide HN)]), rfl⟩
  · have hb : (n % 2 == 1) = false := by simp [hn]
    go_enter Try.func93, Try.ntmps93
    go_wp2
    go_ret
    exact ⟨ret_int (by rw [unfoldI, if_neg hn]), rfl⟩

end Go.Proofs.Ytfdnhpmldnmncaa
