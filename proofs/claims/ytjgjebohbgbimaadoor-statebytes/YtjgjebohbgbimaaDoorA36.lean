/-
  The walks of a Hash's Sum and of hash.Sum: the digest of what was taken; conditions: as of Write.
  The walk of the document's turned (layer 2): a word, turned to the right; condition: by 1 to 31 places.
  The document's turned and its words against the code's: the same numbers; no conditions.
-/
import Derived.Test.YtjgjebohbgbimaaDoorA35
import Derived.Test.YtjgjebohbgbimaaDoorA28
import Derived.Deep.QuietTactic
import Derived.BigQuiet
import Derived.Test.YtjgjebohbgbimaaDoorA31
set_option linter.unusedVariables false
set_option linter.unusedSimpArgs false
namespace Go.Proofs.YtjgjebohbgbimaaDoor
open Go.RowKit

/-- the digest of what a Hash has -/
def digS (ks : List Int) (s : List Int × List Int × Nat) : List Int := bytesL (feed ks s (padL s.2.2)).1

/-- a Hash that has taken nothing -/
def S0 : List Int × List Int × Nat := (H0, List.replicate 64 0, 0)

/-- the digest of bytes -/
def digM (ks m : List Int) : List Int := digS ks (feed ks S0 m)

theorem digS_len (ks : List Int) (s : List Int × List Int × Nat) : (digS ks s).length = 32 := bytesL_len _
theorem digM_len (ks m : List Int) : (digM ks m).length = 32 := bytesL_len _

theorem feed_n (ks : List Int) : ∀ (bs : List Int) (s : List Int × List Int × Nat), (feed ks s bs).2.2 = s.2.2 + bs.length
  | [], s => rfl
  | c :: bs, s => by
    have h := feed_n ks bs (step1 ks s c)
    have e : (step1 ks s c).2.2 = s.2.2 + 1 := by unfold step1; split <;> rfl
    rw [show feed ks s (c :: bs) = feed ks (step1 ks s c) bs from rfl, h, e, List.length_cons]
    omega

set_option maxRecDepth 100000 in
set_option maxHeartbeats 1000000 in
theorem hsum_any {tK : TypeId} (g : Nat) (st bf ks : List Int) (n : Nat) (w : World)
    (hh : Hsh w g st bf n) (h1 : st.length = 8) (h2 : bf.length = 64) (hsb : ∀ y ∈ st, 0 ≤ y ∧ y ≤ 4294967295) (hbb : ∀ y ∈ bf, 0 ≤ y ∧ y ≤ 255)
    (hk : ks.length = 64) (hK : Words w 1 tK ks) (hn : n + 72 < 18446744073709551616) :
    Calls Tryd.prog 36 #[.pointer (some ⟨g, 0, none⟩)] w fun e w' => e = .returned (.agg ((digS ks (st, bf, n)).map (Value.int .u8)).toArray) ∧ Below w.heap.size w w' := by
  obtain ⟨i0, hi, hz⟩ := zi32
  obtain ⟨ih, hih, hzh⟩ := zih
  have hgw : g < w.heap.size := (Array.getElem?_eq_some_iff.1 hh).1
  have hK1 : 1 < w.heap.size := (Array.getElem?_eq_some_iff.1 hK).1
  have HH : Hid (w.heap[g]? = some (.cells (hc st bf n).toArray 74 (0, 0))) := hide hh
  have HB := hide (And.intro h1 (And.intro h2 (And.intro hsb hbb)))
  have HK := hide (And.intro hk hK)
  have Z1 := hide (szh' (n := n) h1 h2)
  have Z2 := hide (zh_size (n := n) h1 h2)
  have Z3 := hide (hc_one st bf n)
  obtain ⟨C, hC⟩ : ∃ C, (hc st bf n).toArray = C := ⟨_, rfl⟩
  rw [hC] at HH Z1 Z2 Z3
  have HC := hide hC
  obtain ⟨D, HD⟩ : ∃ D, Hid (digS ks (st, bf, n) = D) := ⟨_, rfl⟩
  rw [unhide HD]
  have HDL : Hid (D.length = 32) := hide (by rw [← unhide HD]; exact digS_len _ _)
  have HDS := hide (sizeB (T := 29) sb32 (unhide HDL))
  clear hh h1 h2 hsb hbb hk hK hC
  have tokA : True := trivial
  have tokB : True := trivial
  have tokC : True := trivial
  have tokD : True := trivial
  have tokE : True := trivial
  have tokF : True := trivial
  go_enter Tryd.func36, Tryd.ntmps36
  go_wp2_with (first
    | (have _t := tokA; refine wpList_new_arr rfl 29 rfl i0 zb32 hi hz ?_; intro w1 M1; clear tokA; have z1 : w1.heap.size = w.heap.size + 1 := (unhide M1).size)
    | (have _t := tokB; refine wpList_load_blk rfl 74 (.tmp 8) rfl g C _ rfl (((unhide M1).below.block g hgw).trans (unhide HH)) Tryd.underlying74 rfl (unhide Z1) ?_; clear tokB)
    | (have _t := tokC; refine wpList_new_arr rfl 74 rfl ih zh hih hzh ?_; intro w2 M2; clear tokC; have z2 : w2.heap.size = w.heap.size + 1 + 1 := (by rw [(unhide M2).size, z1]))
    | (have _t := tokD; refine wpList_put_arr rfl 74 (.tmp 3) (.tmp 9) rfl w1.heap.size zh C rfl rfl (unhide M2).at' (unhide Z2) (unhide Z1) (unhide Z3) ?_; intro w3 M3; clear tokD; have z3 : w3.heap.size = w.heap.size + 1 + 1 := (by rw [(unhide M3).size, z2])))
  have hb := unhide HB
  have h3 : Hsh w3 (w.heap.size + 1) st bf n := by unfold Hsh; rw [unhide HC, ← z1]; exact (unhide M3).at'
  have B3 : Hid (Below w.heap.size w w3) := hide ((unhide M3).below _ _ ((unhide M1).below.trans ((unhide M2).below.mono (by omega))) (by omega))
  have R3 : Hid (w3.heap[w.heap.size]? = some (.cells zb32 29 (0, 0))) := hide (((unhide M3).other _ (by omega)).trans (((unhide M2).below.block _ (by omega)).trans (unhide M1).at'))
  have hK3 : Words w3 1 tK ks := ((unhide B3).block 1 hK1).trans (unhide HK).2
  have CP := hide (pad_any (w.heap.size + 1) st bf ks n w3 h3 hb.1 hb.2.1 hb.2.2.1 hb.2.2.2 (unhide HK).1 hK3 (by omega) hn)
  clear hb h3 hK3 M1 M2 M3 z1
  obtain ⟨G, hG⟩ : ∃ G, w.heap.size + 1 = G := ⟨_, rfl⟩
  rw [hG] at CP
  rw [hG]
  refine (unhide CP).mono ?_
  rintro e w4 ⟨rfl, st', bf', N, q1, q2, q3, q4, q5, q6, q7⟩
  have HF : Hid (digS ks (st, bf, n) = bytesL st') := hide (by unfold digS; rw [q1])
  have CB := fun w => hide (bytesOf_any st' w q4 q6)
  have hst := hide (show (Tryd.prog.info? 63).map (·.size) = some (st'.map (Value.int .u32)).length by rw [List.length_map, q4]; exact sw8)
  have HR4 := hide (q2.state)
  have B4 : Hid (Below w.heap.size w w4) := hide (q3.below (unhide B3) (by omega) (by omega))
  have R4 : Hid (w4.heap[w.heap.size]? = some (.cells zb32 29 (0, 0))) := hide ((q3.other _ (by omega) (by omega)).trans (unhide R3))
  rw [← unhide HF, unhide HD] at CB
  have q8 : w.heap.size < w4.heap.size := by have := q3.size; omega
  clear q1 q2 q3 q4 q5 q6 q7 R3 B3
  go_wp2_with (first
    | (have _t := tokE; refine wpList_load_mid rfl 63 (.tmp 11) rfl G 0 rfl (st'.map (Value.int .u32)) _ (unhide HR4) Tryd.underlying63 rfl (unhide hst) ?_; clear tokE))
  refine (unhide (CB _)).mono ?_
  rintro e w5 ⟨rfl, B5⟩
  have H5 := hide B5
  clear B5
  go_wp2_with (first
    | (have _t := tokF; refine wpList_put_arr rfl 29 (.tmp 2) (.tmp 13) rfl w.heap.size zb32 (D.map (Value.int .u8)).toArray rfl rfl (((unhide H5).block _ q8).trans (unhide R4)) (by simp [zb32, unhide HDL]) (unhide HDS) (bytes_one _) ?_; intro w6 M6; clear tokF))
  exact bodyPost_ret (ret_cell (p := 2) (T := 29) rfl _ _ w.heap.size (D.map (Value.int .u8)).toArray 32 _ rfl (unhide M6).at' Tryd.underlying29 (unhide HDS)) rfl ⟨rfl, (unhide M6).below _ _ ((unhide B4).trans ((unhide H5).mono (by omega))) (Nat.le_refl _)⟩

set_option maxRecDepth 100000 in
set_option maxHeartbeats 1000000 in
theorem sum_any {t0 tK : TypeId} (p : Nat) (ao : Option Addr) (cap : Nat) (zs ks : List Int) (w : World) (hzb : ∀ y ∈ zs, 0 ≤ y ∧ y ≤ 255)
    (hk : ks.length = 64) (h0 : Words w 0 t0 H0) (hK : Words w 1 tK ks) (hcz : zs.length ≤ cap) (hcm : zs.length ≤ 9223372036854775807)
    (hp : 0 < zs.length → ∃ o, ao = some ⟨p, o, none⟩ ∧ p < w.heap.size ∧ ∀ j, j < zs.length → w.cell? ⟨p, o + j, none⟩ = some (.int .u8 (zs.getD j 0))) :
    Calls Tryd.prog 20 #[.slice ao zs.length cap] w fun e w' => e = .returned (.agg ((digM ks zs).map (Value.int .u8)).toArray) ∧ Below w.heap.size w w' := by
  obtain ⟨i0, hi, hz⟩ := zi32
  have hK1 : 1 < w.heap.size := (Array.getElem?_eq_some_iff.1 hK).1
  have H := hide (And.intro hzb (And.intro hk (And.intro h0 (And.intro hK (And.intro hcz (And.intro hcm hp))))))
  obtain ⟨D, HD⟩ : ∃ D, Hid (digM ks zs = D) := ⟨_, rfl⟩
  rw [unhide HD]
  have HDL : Hid (D.length = 32) := hide (by rw [← unhide HD]; exact digM_len _ _)
  have HDS := hide (sizeB (T := 29) sb32 (unhide HDL))
  clear hzb hk h0 hK hcz hcm hp
  have tokA : True := trivial
  have tokB : True := trivial
  go_enter Tryd.func20, Tryd.ntmps20
  go_wp2_with (first
    | (have _t := tokA; refine wpList_new_arr rfl 29 rfl i0 zb32 hi hz ?_; intro w1 M1; clear tokA; have z1 : w1.heap.size = w.heap.size + 1 := (unhide M1).size))
  have C1 := hide (new_any w1 (((unhide M1).below.block 0 (by omega)).trans (unhide H).2.2.1))
  refine (unhide C1).mono ?_
  rintro e w2 ⟨rfl, M2'⟩
  have M2 := hide M2'
  have z2 : w2.heap.size = w.heap.size + 1 + 1 := by rw [M2'.size, z1]
  have B2 : Hid (Below w.heap.size w w2) := hide ((unhide M1).below.trans (M2'.below.mono (by omega)))
  have hh := unhide H
  have C2 := write_any w1.heap.size p ao cap H0 (List.replicate 64 0) zs ks 0 w2 M2'.at' rfl rfl H0_bounds (by intro y hy; rw [List.eq_of_mem_replicate hy]; omega) hh.1 hh.2.1 (((unhide B2).block 1 hK1).trans hh.2.2.2.1) (by omega) hh.2.2.2.2.1
    (fun h => by
      obtain ⟨o, e1, e2, e3⟩ := hh.2.2.2.2.2.2 h
      exact ⟨o, e1, by omega, by omega, fun j hj => cell_later (unhide B2) (e3 j hj)⟩) (by have := hh.2.2.2.2.1; have := hh.2.2.2.2.2.1; omega)
  have R2 : Hid (w2.heap[w.heap.size]? = some (.cells zb32 29 (0, 0))) := hide ((M2'.below.block _ (by omega)).trans (unhide M1).at')
  have HC2 := hide C2
  have hG : w.heap.size + 1 = w1.heap.size := z1.symm
  clear C2 hh M2' C1 M1 M2 z1
  generalize w1.heap.size = G at *
  go_wp2_with fail
  refine (unhide HC2).mono ?_
  rintro e w3 ⟨rfl, st', bf', q1, q2, q3, q4, q5, q6, q7⟩
  have hh := unhide H
  have B3 : Hid (Below w.heap.size w w3) := hide (q3.below (unhide B2) (by omega) (by omega))
  have R3 : Hid (w3.heap[w.heap.size]? = some (.cells zb32 29 (0, 0))) := hide ((q3.other _ (by omega) (by omega)).trans (unhide R2))
  have C3 := hsum_any G st' bf' ks (0 + zs.length) w3 q2 q4 q5 q6 q7 hh.2.1 (((unhide B3).block 1 hK1).trans hh.2.2.2.1) (by have := hh.2.2.2.2.1; have := hh.2.2.2.2.2.1; omega)
  have hD : digS ks (st', bf', 0 + zs.length) = D := by rw [← q1, ← unhide HD]; rfl
  rw [hD] at C3
  have HC3 := hide C3
  have q8 : w.heap.size < w3.heap.size := by have := q3.size; omega
  clear C3 hD hh q1 q2 q3 q4 q5 q6 q7 HC2
  go_wp2_with fail
  refine (unhide HC3).mono ?_
  rintro e w4 ⟨rfl, B4⟩
  have H4 := hide B4
  clear B4
  go_wp2_with (first
    | (have _t := tokB; refine wpList_put_arr rfl 29 (.tmp 2) (.tmp 9) rfl w.heap.size zb32 (D.map (Value.int .u8)).toArray rfl rfl (((unhide H4).block _ q8).trans (unhide R3)) (by simp [zb32, unhide HDL]) (unhide HDS) (bytes_one _) ?_; intro w6 M6; clear tokB))
  exact bodyPost_ret (ret_cell (p := 2) (T := 29) rfl _ _ w.heap.size (D.map (Value.int .u8)).toArray 32 _ rfl (unhide M6).at' Tryd.underlying29 (unhide HDS)) rfl ⟨rfl, (unhide M6).below _ _ ((unhide B3).trans ((unhide H4).mono (by omega))) (Nat.le_refl _)⟩
end Go.Proofs.YtjgjebohbgbimaaDoor

namespace Go.Proofs.YtjgjebohbgbimaaDoor
open Go.RowKit

/-- a word, turned to the right by n places -/
def rotr (x : Int) (n : Nat) : Int := bits .or .u32 (x / 2 ^ n) (IntKind.u32.wrap (x * 2 ^ (32 - n)))

set_option maxHeartbeats 400000 in
theorem refTurned_any (x : Int) (n : Nat) (w : World) (hn : n ≤ 32) :
    Calls Tryd.prog 49 #[.int .u32 x, .int .i64 n] w fun e w' => e = .returned (.int .u32 (rotr x n)) ∧ ∃ q, w' = w.drewN q := by
  have i1 : (0 : Int) ≤ (n : Int) := by omega
  have i2 : (n : Int) ≤ 32 := by omega
  have i3 : (0 : Int) ≤ 32 - (n : Int) := by omega
  have i4 : 32 - (n : Int) ≤ 32 := by omega
  have e1 : (32 - (n : Int)).toNat = 32 - n := by omega
  go_enter Tryd.func49, Tryd.ntmps49
  go_wp2_with fail
  go_quiet (fail)
  go_wp2_with fail
  go_ret
  exact ⟨rfl, _, rfl⟩
end Go.Proofs.YtjgjebohbgbimaaDoor

namespace Go.Proofs.YtjgjebohbgbimaaDoor
open Go.RowKit

theorem or_comm (a b : Int) : bits .or .u32 a b = bits .or .u32 b a := by
  unfold bits
  simp only [BitVec.or_comm]

theorem rotr_is (x : Int) (n : Nat) : rotr x n = rotR x n := or_comm _ _

theorem refTurned_N (x N : Int) (w : World) (h0 : 0 ≤ N) (h1 : N ≤ 32) :
    Calls Tryd.prog 49 #[.int .u32 x, .int .i64 N] w fun e w' => e = .returned (.int .u32 (rotR x N.toNat)) ∧ ∃ q, w' = w.drewN q := by
  have h := refTurned_any x N.toNat w (by omega)
  rw [show ((N.toNat : Nat) : Int) = N from by omega, rotr_is] at h
  exact h

/-- a word of four bytes, the highest first -/
def word4 (a b c d : Int) : Int := a * 16777216 + b * 65536 + c * 256 + d

theorem wrap_u32_id (n : Int) (h0 : 0 ≤ n) (h1 : n < 2 ^ 32) : IntKind.u32.wrap n = n := by
  have e : (2 : Int) ^ 32 = 4294967296 := by decide
  rw [IntKind.wrap_u32']; omega

theorem word4_or (a b c d : Int) (ha : 0 ≤ a ∧ a ≤ 255) (hb : 0 ≤ b ∧ b ≤ 255) (hc : 0 ≤ c ∧ c ≤ 255) (hd : 0 ≤ d ∧ d ≤ 255) :
    bits .or .u32 (bits .or .u32 (bits .or .u32 (a % 4294967296 * 16777216 % 4294967296) (b % 4294967296 * 65536 % 4294967296)) (c % 4294967296 * 256 % 4294967296)) (d % 4294967296) = word4 a b c d := by
  have e32 : (2 : Int) ^ 32 = 4294967296 := by decide
  have e24 : (2 : Int) ^ 24 = 16777216 := by decide
  have e16 : (2 : Int) ^ 16 = 65536 := by decide
  have e8 : (2 : Int) ^ 8 = 256 := by decide
  have x1 : a % 4294967296 * 16777216 % 4294967296 = a * 16777216 := by omega
  have x2 : b % 4294967296 * 65536 % 4294967296 = b * 65536 := by omega
  have x3 : c % 4294967296 * 256 % 4294967296 = c * 256 := by omega
  have x4 : d % 4294967296 = d := by omega
  rw [x1, x2, x3, x4]
  rw [bits_join .u32 32 (by decide) wrap_u32_id 24 (a * 16777216) (b * 65536) (by omega) (by omega) (by omega) (by omega) (by omega) (by omega)]
  rw [bits_join .u32 32 (by decide) wrap_u32_id 16 (a * 16777216 + b * 65536) (c * 256) (by omega) (by omega) (by omega) (by omega) (by omega) (by omega)]
  rw [bits_join .u32 32 (by decide) wrap_u32_id 8 (a * 16777216 + b * 65536 + c * 256) d (by omega) (by omega) (by omega) (by omega) (by omega) (by omega)]
  rfl

theorem oneMore_is (x c : Int) (hx : 0 ≤ x ∧ x ≤ 16777215) (hc : 0 ≤ c ∧ c ≤ 255) : oneMore x c = x * 256 + c := by
  have e32 : (2 : Int) ^ 32 = 4294967296 := by decide
  have e8 : (2 : Int) ^ 8 = 256 := by decide
  unfold oneMore
  rw [show x * 256 % 4294967296 = x * 256 by omega]
  exact bits_join .u32 32 (by decide) wrap_u32_id 8 (x * 256) c (by omega) (by omega) (by omega) (by omega) (by omega) (by omega)

theorem oneMore4 (a b c d : Int) (ha : 0 ≤ a ∧ a ≤ 255) (hb : 0 ≤ b ∧ b ≤ 255) (hc : 0 ≤ c ∧ c ≤ 255) (hd : 0 ≤ d ∧ d ≤ 255) : oneMore (oneMore (oneMore (oneMore 0 a) b) c) d = word4 a b c d := by
  rw [oneMore_is 0 a (by omega) ha, oneMore_is _ b (by omega) hb, oneMore_is _ c (by omega) hc, oneMore_is _ d (by omega) hd]
  unfold word4
  omega

/-- the document's next word -/
def nextW (bs ws : List Int) (t : Nat) : Int :=
  if t < 16 then word4 (bs.getD (4 * t) 0) (bs.getD (4 * t + 1) 0) (bs.getD (4 * t + 2) 0) (bs.getD (4 * t + 3) 0)
  else add32 (add32 (add32 (ws.getD (t - 16) 0) (ws.getD (t - 7) 0)) (sgm0 (ws.getD (t - 15) 0))) (sgm1 (ws.getD (t - 2) 0))

/-- the document's words, one behind the other -/
def refL (bs : List Int) : Nat → List Int
  | 0 => List.replicate 64 0
  | t + 1 => (refL bs t).set t (nextW bs (refL bs t) t)

theorem refL_len (bs : List Int) (t : Nat) : (refL bs t).length = 64 := by
  induction t with
  | zero => simp [refL]
  | succ t ih => simp [refL, ih]

theorem nextW_bounds (bs ws : List Int) (t : Nat) (hb : ∀ c ∈ bs, 0 ≤ c ∧ c ≤ 255) : 0 ≤ nextW bs ws t ∧ nextW bs ws t ≤ 4294967295 := by
  unfold nextW
  split
  · have h0 := getD_bounds hb (by omega) (4 * t)
    have h1 := getD_bounds hb (by omega) (4 * t + 1)
    have h2 := getD_bounds hb (by omega) (4 * t + 2)
    have h3 := getD_bounds hb (by omega) (4 * t + 3)
    unfold word4
    omega
  · exact add32_bounds _ _

theorem refL_bounds (bs : List Int) (hb : ∀ c ∈ bs, 0 ≤ c ∧ c ≤ 255) (t : Nat) : ∀ y ∈ refL bs t, 0 ≤ y ∧ y ≤ 4294967295 := by
  induction t with
  | zero => intro y hy; rw [List.eq_of_mem_replicate hy]; omega
  | succ t ih => exact mem_set' _ _ _ (nextW_bounds _ _ _ hb) ih

theorem refL_zero (bs : List Int) : ∀ t j, t ≤ j → (refL bs t).getD j 0 = 0
  | 0, j, _ => by
    simp only [refL, List.getD_eq_getElem?_getD, List.getElem?_replicate]
    split <;> rfl
  | t + 1, j, h => by
    have ih := refL_zero bs t j (by omega)
    rw [List.getD_eq_getElem?_getD] at ih ⊢
    show (((refL bs t).set t _)[j]?).getD 0 = 0
    rw [List.getElem?_set_ne (by omega)]
    exact ih

theorem getD_set_same (ws : List Int) (t : Nat) (x : Int) (h : t < ws.length) : (ws.set t x).getD t 0 = x := by
  rw [List.getD_eq_getElem?_getD, List.getElem?_set_self h]
  rfl

theorem set_set' (ws : List Int) (t : Nat) (x y : Int) : (ws.set t x).set t y = ws.set t y := by simp

theorem ref_fill (bs : List Int) (hb : ∀ c ∈ bs, 0 ≤ c ∧ c ≤ 255) : ∀ t, t ≤ 16 → refL bs t = fill bs (4 * t)
  | 0, _ => rfl
  | t + 1, h => by
    have ih := ref_fill bs hb t (by omega)
    have hl := refL_len bs t
    have hz := refL_zero bs t t (Nat.le_refl _)
    rw [show 4 * (t + 1) = 4 * t + 1 + 1 + 1 + 1 from by omega]
    simp only [fill]
    rw [show (4 * t + 1 + 1 + 1) / 4 = t by omega, show (4 * t + 1 + 1) / 4 = t by omega, show (4 * t + 1) / 4 = t by omega, show (4 * t) / 4 = t by omega, ← ih, hz]
    have g := fun x => getD_set_same (refL bs t) t x (by omega)
    simp only [set_set', g]
    show (refL bs t).set t (nextW bs (refL bs t) t) = _
    rw [show nextW bs (refL bs t) t = word4 (bs.getD (4 * t) 0) (bs.getD (4 * t + 1) 0) (bs.getD (4 * t + 2) 0) (bs.getD (4 * t + 3) 0) by unfold nextW; rw [if_pos (by omega)]]
    rw [oneMore4 _ _ _ _ (getD_bounds hb (by omega) _) (getD_bounds hb (by omega) _) (getD_bounds hb (by omega) _) (getD_bounds hb (by omega) _)]

theorem add_turn (a b c d : Int) : add32 (add32 (add32 a b) c) d = add32 (add32 (add32 a c) b) d := by
  unfold add32
  simp only [IntKind.wrap_u32']
  omega

theorem ref_more (bs : List Int) (hb : ∀ c ∈ bs, 0 ≤ c ∧ c ≤ 255) : ∀ k, refL bs (16 + k) = more (fill bs 64) k
  | 0 => ref_fill bs hb 16 (by omega)
  | k + 1 => by
    have ih := ref_more bs hb k
    show (refL bs (16 + k)).set (16 + k) (nextW bs (refL bs (16 + k)) (16 + k)) = (more (fill bs 64) k).set (16 + k) (later (more (fill bs 64) k) (16 + k))
    rw [ih]
    unfold nextW later
    rw [if_neg (by omega), add_turn]

theorem ref_spread (bs : List Int) (hb : ∀ c ∈ bs, 0 ≤ c ∧ c ≤ 255) : refL bs 64 = spreadL bs := ref_more bs hb 48
end Go.Proofs.YtjgjebohbgbimaaDoor
