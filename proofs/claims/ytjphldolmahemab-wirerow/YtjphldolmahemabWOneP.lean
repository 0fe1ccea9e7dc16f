/-
  A plain value in any memory; the bytes of an integer are read back; no conditions.
-/
import Derived.Test.YtjphldolmahemabWDec
import Derived.Test.YtjphldolmahemabWPut
namespace Go.Proofs.Ytjphldolmahemab
open Go.RowKit

/-- a value without lists lies in any memory -/
theorem plain_val (w : World) (P : Nat → Prop) (k n : Int) (s : ByteArray) (bk : 0 ≤ k ∧ k ≤ 5) (bn : -9223372036854775808 ≤ n ∧ n ≤ 9223372036854775807) (bs : s.size ≤ 2048) :
    IsP w P (.mk k n s [] []) (.agg #[.int .i64 k, .int .i64 n, .string s, .slice none 0 0, .slice none 0 0]) := by
  have h := heap_alloc_new w (.cells #[.int .i64 k, .int .i64 n, .string s, .slice none 0 0, .slice none 0 0] 26)
  have hs : (w.alloc (.cells #[.int .i64 k, .int .i64 n, .string s, .slice none 0 0, .slice none 0 0] 26)).heap.size = w.heap.size + 1 := by simp
  generalize w.alloc (.cells #[.int .i64 k, .int .i64 n, .string s, .slice none 0 0, .slice none 0 0] 26) = u at h hs
  have M : Mid u (w.heap.size + 1) w.heap.size k n s [] [] (.slice none 0 0) (.slice none 0 0) 0 0 (fun _ => []) := ⟨h, by omega, by omega, World.ownsRow_nil _ _ _ _, World.ownsRow_nil _ _ _ _, Or.inl rfl, fun c h => by omega, fun c y h => by omega⟩
  exact (M.made rfl rfl (by omega) bn (by omega) (by simp) (by simp) (by simp)).to (fun b hb => by omega) (fun b hb => by omega)

theorem right_int (n : Int) : rightB (.mk 2 n ⟨#[]⟩ [] []) = true := by
  simp [rightB, okB, formB, formM, okL_nil, wt, keysW, wtL_nil, e0s]
theorem right_unit : rightB (.mk 0 0 ⟨#[]⟩ [] []) = true := by
  simp [rightB, okB, formB, formM, okL_nil, wt, keysW, wtL_nil, e0s]

theorem wenc_int (n : Int) : wenc (.mk 2 n ⟨#[]⟩ [] []) = 3 :: encF 9 (foldI n) := by simp [wenc, encN]

theorem take_int (n : Int) (hn : -9223372036854775808 ≤ n ∧ n ≤ 9223372036854775807) : decR (wenc (.mk 2 n ⟨#[]⟩ [] [])) = .ok (.mk 2 n ⟨#[]⟩ [] []) := by
  have hu := uint_back [3] [] (foldI n) (foldI_range hn).1 (foldI_range hn).2
  rw [List.append_nil] at hu
  have e1 : ([3] ++ encF 9 (foldI n) : List Int) = wenc (.mk 2 n ⟨#[]⟩ [] []) := by rw [wenc_int]; rfl
  rw [e1] at hu
  have h3 : (wenc (.mk 2 n ⟨#[]⟩ [] []))[0]? = some 3 := by rw [wenc_int]; rfl
  have hlen : (wenc (.mk 2 n ⟨#[]⟩ [] [])).length = 1 + (encF 9 (foldI n)).length := by rw [wenc_int]; simp; omega
  generalize wenc (.mk 2 n ⟨#[]⟩ [] []) = zs at *
  have hv : rdV zs 8 0 0 = .ok (.mk 2 n ⟨#[]⟩ [] [], zs.length, 1) := by
    rw [show (8 : Nat) = 7 + 1 from rfl]
    simp only [rdV, h3]
    have hi : intOfU (uintAt zs ((0 + 1 : Nat) : Int)) = (n, ((1 + (encF 9 (foldI n)).length : Nat) : Int), 0) := by
      have : uintAt zs ((0 + 1 : Nat) : Int) = (foldI n, ((1 + (encF 9 (foldI n)).length : Nat) : Int), 0) := by simpa using hu
      rw [this]
      simp [intOfU, unfold_fold]
    simp only [rdNum, hi]
    simp [hlen]
    omega
  have ht : takeR zs 0 = .ok (.mk 2 n ⟨#[]⟩ [] [], zs.length) := by
    unfold takeR
    rw [if_neg (by omega)]
    simp only [Int.toNat_zero, hv]
  simp only [decR, ht]
  rw [if_neg (by omega)]
end Go.Proofs.Ytjphldolmahemab
