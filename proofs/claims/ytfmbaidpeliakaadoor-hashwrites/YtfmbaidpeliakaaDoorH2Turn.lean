/-
  The walks of math/bits.RotateLeft32, hash.right and hash.turns: words turned to the right; condition: by 1 to 31 places.
-/
import Derived.Test.YtfmbaidpeliakaaDoorDigDefs
import Derived.Deep.QuietTactic
import Derived.BigQuiet
import Derived.WalkSmall
import Derived.Laws.BitsAllLaws
namespace Go.Proofs.YtfmbaidpeliakaaDoor
open Go.RowKit

/-- a word, turned to the right by n places -/
def rotR (x : Int) (n : Nat) : Int := bits .or .u32 (IntKind.u32.wrap (x * 2 ^ (32 - n))) (x / 2 ^ n)

theorem and_all : ∀ n : Fin 32, 1 ≤ n.val → bits .and .u64 (IntKind.u64.wrap (-(n.val : Int))) 31 = 32 - (n.val : Int) := by decide +kernel

set_option maxRecDepth 100000 in
set_option maxHeartbeats 400000 in
theorem rotL_any (x : Int) (n : Nat) (w : World) (h1 : 1 ≤ n) (h2 : n ≤ 31) :
    Calls Tryd.prog 24 #[.int .u32 x, .int .i64 (-(n : Int))] w fun e w' => e = .returned (.int .u32 (rotR x n)) ∧ w' = w := by
  have e0 := and_all ⟨n, by omega⟩ h1
  simp only at e0
  have e1 : 32 - (32 - (n : Int)) = (n : Int) := by omega
  have e2 : (32 - (n : Int)).toNat = 32 - n := by omega
  have e3 : IntKind.u64.wrap (32 - (32 - (n : Int))) = (n : Int) := by rw [IntKind.wrap_u64]; omega
  have i1 : (0 : Int) ≤ (n : Int) := by omega
  have i2 : (n : Int) ≤ 32 := by omega
  have i3 : (0 : Int) ≤ 32 - (n : Int) := by omega
  have i4 : 32 - (n : Int) ≤ 32 := by omega
  go_enter Tryd.func24, Tryd.ntmps24
  go_wp2_with fail
  go_ret
  exact ⟨rfl, rfl⟩

theorem right_any (x N : Int) (w : World) (h1 : 1 ≤ N) (h2 : N ≤ 31) :
    Calls Tryd.prog 23 #[.int .u32 x, .int .i64 N] w fun e w' => e = .returned (.int .u32 (rotR x N.toNat)) ∧ w' = w := by
  obtain ⟨n, rfl⟩ : ∃ n : Nat, N = n := ⟨N.toNat, by omega⟩
  have C := fun w => hide (rotL_any x n w (by omega) (by omega))
  go_enter Tryd.func23, Tryd.ntmps23
  go_wp2_with fail
  refine (unhide (C _)).mono ?_
  rintro e w1 ⟨rfl, rfl⟩
  go_wp2_with fail
  go_ret
  exact ⟨rfl, rfl⟩

/-- three turns, laid over each other -/
def turns3 (x : Int) (a b c : Nat) : Int := bits .xor .u32 (bits .xor .u32 (rotR x a) (rotR x b)) (rotR x c)

theorem turns_any (x N M O : Int) (w : World) (h1 : 1 ≤ N) (h2 : N ≤ 31) (h3 : 1 ≤ M) (h4 : M ≤ 31) (h5 : 1 ≤ O) (h6 : O ≤ 31) :
    Calls Tryd.prog 22 #[.int .u32 x, .int .i64 N, .int .i64 M, .int .i64 O] w fun e w' => e = .returned (.int .u32 (turns3 x N.toNat M.toNat O.toNat)) ∧ w' = w := by
  have C1 := fun w => hide (right_any x N w h1 h2)
  have C2 := fun w => hide (right_any x M w h3 h4)
  have C3 := fun w => hide (right_any x O w h5 h6)
  unfold turns3
  go_enter Tryd.func22, Tryd.ntmps22
  go_wp2_with fail
  refine (unhide (C1 _)).mono ?_
  rintro e w1 ⟨rfl, rfl⟩
  go_wp2_with fail
  refine (unhide (C2 _)).mono ?_
  rintro e w2 ⟨rfl, rfl⟩
  go_wp2_with fail
  refine (unhide (C3 _)).mono ?_
  rintro e w3 ⟨rfl, rfl⟩
  go_wp2_with fail
  go_ret
  exact ⟨rfl, rfl⟩

theorem bits_bounds (op : BinOp) (a b : Int) : 0 ≤ bits op .u32 a b ∧ bits op .u32 a b ≤ 4294967295 := by
  unfold bits
  simp only [IntKind.wrap_u32']
  omega

theorem rotR_bounds (x : Int) (n : Nat) : 0 ≤ rotR x n ∧ rotR x n ≤ 4294967295 := bits_bounds _ _ _
theorem turns3_bounds (x : Int) (a b c : Nat) : 0 ≤ turns3 x a b c ∧ turns3 x a b c ≤ 4294967295 := bits_bounds _ _ _
end Go.Proofs.YtfmbaidpeliakaaDoor
