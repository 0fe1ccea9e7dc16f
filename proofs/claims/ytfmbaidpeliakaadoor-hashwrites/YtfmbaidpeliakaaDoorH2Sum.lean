/-
  The walks of a Hash's Sum and of hash.Sum: the digest of what was taken; conditions: as of Write.
-/
import Derived.Test.YtfmbaidpeliakaaDoorH2Pad
namespace Go.Proofs.YtfmbaidpeliakaaDoor
open Go.RowKit

/-- the digest of what a Hash has -/
def digS (ks : List Int) (s : List Int × List Int × Nat) : List Int := bytesL (feed ks s (padL s.2.2)).1

/-- a Hash that has taken nothing -/
def S0 : List Int × List Int × Nat := (H0, List.replicate 64 0, 0)

/-- the digest of bytes -/
def digM (ks m : List Int) : List Int := digS ks (feed ks S0 m)

theorem digS_len (ks : List Int) (s : List Int × List Int × Nat) : (digS ks s).length = 32 := bytesL_len _
theorem digM_len (ks m : List Int) : (digM ks m).length = 32 := bytesL_len _

theorem feed_n (ks : List Int) : ∀ (bs : List Int) (s : List Int × List Int × Nat), (feed ks s bs).2.2 = s.2.2 + bs.length
  | [], s => rfl
  | c :: bs, s => by
    have h := feed_n ks bs (step1 ks s c)
    have e : (step1 ks s c).2.2 = s.2.2 + 1 := by unfold step1; split <;> rfl
    rw [show feed ks s (c :: bs) = feed ks (step1 ks s c) bs from rfl, h, e, List.length_cons]
    omega

set_option maxRecDepth 100000 in
set_option maxHeartbeats 1000000 in
theorem hsum_any {tK : TypeId} (g : Nat) (st bf ks : List Int) (n : Nat) (w : World)
    (hh : Hsh w g st bf n) (h1 : st.length = 8) (h2 : bf.length = 64) (hsb : ∀ y ∈ st, 0 ≤ y ∧ y ≤ 4294967295) (hbb : ∀ y ∈ bf, 0 ≤ y ∧ y ≤ 255)
    (hk : ks.length = 64) (hK : Words w 1 tK ks) (hn : n + 72 < 18446744073709551616) :
    Calls Tryd.prog 6 #[.pointer (some ⟨g, 0, none⟩)] w fun e w' => e = .returned (.agg ((digS ks (st, bf, n)).map (Value.int .u8)).toArray) ∧ Below w.heap.size w w' := by
  obtain ⟨i0, hi, hz⟩ := zi32
  obtain ⟨ih, hih, hzh⟩ := zih
  have hgw : g < w.heap.size := (Array.getElem?_eq_some_iff.1 hh).1
  have hK1 : 1 < w.heap.size := (Array.getElem?_eq_some_iff.1 hK).1
  have HH : Hid (w.heap[g]? = some (.cells (hc st bf n).toArray 44 (0, 0))) := hide hh
  have HB := hide (And.intro h1 (And.intro h2 (And.intro hsb hbb)))
  have HK := hide (And.intro hk hK)
  have Z1 := hide (szh' (n := n) h1 h2)
  have Z2 := hide (zh_size (n := n) h1 h2)
  have Z3 := hide (hc_one st bf n)
  obtain ⟨C, hC⟩ : ∃ C, (hc st bf n).toArray = C := ⟨_, rfl⟩
  rw [hC] at HH Z1 Z2 Z3
  have HC := hide hC
  obtain ⟨D, HD⟩ : ∃ D, Hid (digS ks (st, bf, n) = D) := ⟨_, rfl⟩
  rw [unhide HD]
  have HDL : Hid (D.length = 32) := hide (by rw [← unhide HD]; exact digS_len _ _)
  have HDS := hide (sizeB (T := 26) sb32 (unhide HDL))
  clear hh h1 h2 hsb hbb hk hK hC
  have tokA : True := trivial
  have tokB : True := trivial
  have tokC : True := trivial
  have tokD : True := trivial
  have tokE : True := trivial
  have tokF : True := trivial
  go_enter Tryd.func6, Tryd.ntmps6
  go_wp2_with (first
    | (have _t := tokA; refine wpList_new_arr rfl 26 rfl i0 zb32 hi hz ?_; intro w1 M1; clear tokA; have z1 : w1.heap.size = w.heap.size + 1 := (unhide M1).size)
    | (have _t := tokB; refine wpList_load_blk rfl 44 (.tmp 8) rfl g C _ rfl (((unhide M1).below.block g hgw).trans (unhide HH)) Tryd.underlying44 rfl (unhide Z1) ?_; clear tokB)
    | (have _t := tokC; refine wpList_new_arr rfl 44 rfl ih zh hih hzh ?_; intro w2 M2; clear tokC; have z2 : w2.heap.size = w.heap.size + 1 + 1 := (by rw [(unhide M2).size, z1]))
    | (have _t := tokD; refine wpList_put_arr rfl 44 (.tmp 3) (.tmp 9) rfl w1.heap.size zh C rfl rfl (unhide M2).at' (unhide Z2) (unhide Z1) (unhide Z3) ?_; intro w3 M3; clear tokD; have z3 : w3.heap.size = w.heap.size + 1 + 1 := (by rw [(unhide M3).size, z2])))
  have hb := unhide HB
  have h3 : Hsh w3 (w.heap.size + 1) st bf n := by unfold Hsh; rw [unhide HC, ← z1]; exact (unhide M3).at'
  have B3 : Hid (Below w.heap.size w w3) := hide ((unhide M3).below _ _ ((unhide M1).below.trans ((unhide M2).below.mono (by omega))) (by omega))
  have R3 : Hid (w3.heap[w.heap.size]? = some (.cells zb32 26 (0, 0))) := hide (((unhide M3).other _ (by omega)).trans (((unhide M2).below.block _ (by omega)).trans (unhide M1).at'))
  have hK3 : Words w3 1 tK ks := ((unhide B3).block 1 hK1).trans (unhide HK).2
  have CP := hide (pad_any (w.heap.size + 1) st bf ks n w3 h3 hb.1 hb.2.1 hb.2.2.1 hb.2.2.2 (unhide HK).1 hK3 (by omega) hn)
  clear hb h3 hK3 M1 M2 M3 z1
  obtain ⟨G, hG⟩ : ∃ G, w.heap.size + 1 = G := ⟨_, rfl⟩
  rw [hG] at CP
  rw [hG]
  refine (unhide CP).mono ?_
  rintro e w4 ⟨rfl, st', bf', N, q1, q2, q3, q4, q5, q6, q7⟩
  have HF : Hid (digS ks (st, bf, n) = bytesL st') := hide (by unfold digS; rw [q1])
  have CB := fun w => hide (bytesOf_any st' w q4 q6)
  have hst := hide (show (Tryd.prog.info? 40).map (·.size) = some (st'.map (Value.int .u32)).length by rw [List.length_map, q4]; exact sw8)
  have HR4 := hide (q2.state)
  have B4 : Hid (Below w.heap.size w w4) := hide (q3.below (unhide B3) (by omega) (by omega))
  have R4 : Hid (w4.heap[w.heap.size]? = some (.cells zb32 26 (0, 0))) := hide ((q3.other _ (by omega) (by omega)).trans (unhide R3))
  rw [← unhide HF, unhide HD] at CB
  have q8 : w.heap.size < w4.heap.size := by have := q3.size; omega
  clear q1 q2 q3 q4 q5 q6 q7 R3 B3
  go_wp2_with (first
    | (have _t := tokE; refine wpList_load_mid rfl 40 (.tmp 11) rfl G 0 rfl (st'.map (Value.int .u32)) _ (unhide HR4) Tryd.underlying40 rfl (unhide hst) ?_; clear tokE))
  refine (unhide (CB _)).mono ?_
  rintro e w5 ⟨rfl, B5⟩
  have H5 := hide B5
  clear B5
  go_wp2_with (first
    | (have _t := tokF; refine wpList_put_arr rfl 26 (.tmp 2) (.tmp 13) rfl w.heap.size zb32 (D.map (Value.int .u8)).toArray rfl rfl (((unhide H5).block _ q8).trans (unhide R4)) (by simp [zb32, unhide HDL]) (unhide HDS) (bytes_one _) ?_; intro w6 M6; clear tokF))
  exact bodyPost_ret (ret_cell (p := 2) (T := 26) rfl _ _ w.heap.size (D.map (Value.int .u8)).toArray 32 _ rfl (unhide M6).at' Tryd.underlying26 (unhide HDS)) rfl ⟨rfl, (unhide M6).below _ _ ((unhide B4).trans ((unhide H5).mono (by omega))) (Nat.le_refl _)⟩
end Go.Proofs.YtfmbaidpeliakaaDoor
