/-
  What strings.IndexByte answers of the sixteen digits: what a digit says, or -1; no conditions.
-/
import Derived.Test.YtbdieoknbpcbnabDigDefs
import Derived.Laws.Externs
namespace Go.Proofs.Ytbdieoknbpcbnab
open Go.RowKit

theorem first_all : ∀ n : Fin 256, firstIdx ⟨#[48, 49, 50, 51, 52, 53, 54, 55, 56, 57, 97, 98, 99, 100, 101, 102]⟩ (n.val : Int).toNat.toUInt8 = digI (n.val : Int) := by decide +kernel

theorem first_dig (c : Int) (h0 : 0 ≤ c) (h1 : c ≤ 255) : firstIdx ⟨#[48, 49, 50, 51, 52, 53, 54, 55, 56, 57, 97, 98, 99, 100, 101, 102]⟩ c.toNat.toUInt8 = digI c := by
  have h := first_all ⟨c.toNat, by omega⟩
  have e : ((c.toNat : Nat) : Int) = c := by omega
  simp only [e] at h
  exact h

set_option maxRecDepth 100000 in
set_option maxHeartbeats 400000 in
theorem index_any (c : Int) (w : World) (h0 : 0 ≤ c) (h1 : c ≤ 255) :
    Calls Try.prog 7 #[.string ⟨#[48, 49, 50, 51, 52, 53, 54, 55, 56, 57, 97, 98, 99, 100, 101, 102]⟩, .int .u8 c] w fun e w' => e = .returned (.int .i64 (digI c)) ∧ w' = w := by
  have hx := @run_callFunc_extern Try.prog 9 _ Extern.BytealgIndexByte.indexByte Try.func9 (by kernel_rfl) (by kernel_rfl) (by kernel_rfl) (by kernel_rfl)
  have hi := run_indexByte_string (P := Try.prog) ⟨#[48, 49, 50, 51, 52, 53, 54, 55, 56, 57, 97, 98, 99, 100, 101, 102]⟩ c w
  rw [first_dig c h0 h1] at hi
  generalize digI c = d at hi
  generalize (⟨#[48, 49, 50, 51, 52, 53, 54, 55, 56, 57, 97, 98, 99, 100, 101, 102]⟩ : ByteArray) = S at hi
  clear h0 h1
  go_enter Try.func7, Try.ntmps7
  go_wp2_with go_in
  go_ret
  exact ⟨rfl, rfl⟩
end Go.Proofs.Ytbdieoknbpcbnab
