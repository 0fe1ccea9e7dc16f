/-
  The walk of the document's words (layer 2): the table K; no conditions.
-/
import Derived.Test.YtfmbaidpeliakaaDoorDoorLaid
namespace Go.Proofs.YtfmbaidpeliakaaDoor
open Go.RowKit

theorem ks_size : zw64.size = (KS.map (Value.int .u32)).toArray.size := by kernel_rfl

set_option maxRecDepth 100000 in
set_option maxHeartbeats 1000000 in
theorem refWords_any (w : World) :
    Calls Tryd.prog 13 #[] w fun e w' => e = .returned (.agg (KS.map (Value.int .u32)).toArray) ∧ Below w.heap.size w w' := by
  obtain ⟨i0, hi, hz⟩ := zi64
  have HS := hide ks_size
  have HZ := hide (sizeW (T := 46) sw64 KS_len)
  have tokA : True := trivial
  have tokB : True := trivial
  go_enter Tryd.func13, Tryd.ntmps13
  go_wp2_with (first
    | (have _t := tokA; refine wpList_new_arr rfl 46 rfl i0 zw64 hi hz ?_; intro w1 M1; clear tokA)
    | (have _t := tokB; refine wpList_put_arr rfl 46 (.tmp 0) (.tmp 1) rfl w.heap.size zw64 (KS.map (Value.int .u32)).toArray rfl rfl (unhide M1).at' (unhide HS) (unhide HZ) (words_one _) ?_; intro w2 M2; clear tokB))
  exact bodyPost_ret (ret_cell (p := 0) (T := 46) rfl _ _ w.heap.size (KS.map (Value.int .u32)).toArray 64 _ rfl (unhide M2).at' Tryd.underlying46 (unhide HZ)) rfl ⟨rfl, (unhide M2).below _ _ (unhide M1).below (Nat.le_refl _)⟩
end Go.Proofs.YtfmbaidpeliakaaDoor
