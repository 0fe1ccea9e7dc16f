/-
  The walk of a Hash's pad: what stands behind the bytes taken; conditions: as of Write.
-/
import Derived.Test.YtgkmdjmigehmeaaGreatDoorR27
namespace Go.Proofs.YtgkmdjmigehmeaaGreatDoor
set_option linter.unusedVariables false
set_option linter.unusedSimpArgs false
set_option maxRecDepth 100000
set_option maxHeartbeats 16000000
open Go.RowKit
def padE (n : Nat) : Nat := if 64 - n % 64 ≤ 8 then 64 - n % 64 + 64 else 64 - n % 64
def tailL (n : Nat) : Nat → List Int
 | 0 => (List.replicate 72 0).set 0 128
 | i + 1 => (tailL n i).set (padE n - 1 - i) (((8 * n % 18446744073709551616 : Nat) : Int) / 2 ^ (8 * i) % 256)
def padL (n : Nat) : List Int := (tailL n 8).take (padE n)
theorem padE_bounds (n : Nat) : 9 ≤ padE n ∧ padE n ≤ 72 := by unfold padE; split <;> omega
theorem tailL_len (n i : Nat) : (tailL n i).length = 72 := by
 induction i with
 | zero => simp [tailL]
 | succ i ih => simp [tailL, ih]
theorem mem_set8 (ws : List Int) (t : Nat) (x : Int) (hx : 0 ≤ x ∧ x ≤ 255) (h : ∀ y ∈ ws, 0 ≤ y ∧ y ≤ 255) : ∀ y ∈ ws.set t x, 0 ≤ y ∧ y ≤ 255 := by
 intro y hy
 rcases List.mem_or_eq_of_mem_set hy with h1 | h1
 ·exact h y h1
 ·rw [h1]; exact hx
theorem tailL_bounds (n i : Nat) : ∀ y ∈ tailL n i, 0 ≤ y ∧ y ≤ 255 := by
 induction i with
 | zero => exact mem_set8 _ _ _ (by omega) (by intro y hy; rw [List.eq_of_mem_replicate hy]; omega)
 | succ i ih => exact mem_set8 _ _ _ (by omega) ih
theorem padL_len (n : Nat) : (padL n).length = padE n := by
 have := padE_bounds n
 simp [padL, tailL_len]; omega
theorem padL_bounds (n : Nat) : ∀ y ∈ padL n, 0 ≤ y ∧ y ≤ 255 := fun y hy => tailL_bounds n 8 y (List.mem_of_mem_take hy)
theorem pad_any {tK : TypeId} (g : Nat) (st bf ks : List Int) (n : Nat) (w : World)
  (hh : Hsh w g st bf n) (h1 : st.length = 8) (h2 : bf.length = 64) (hsb : ∀ y ∈ st, 0 ≤ y ∧ y ≤ 4294967295) (hbb : ∀ y ∈ bf, 0 ≤ y ∧ y ≤ 255)
  (hk : ks.length = 64) (hK : Words w 2 tK ks) (hg1 : 2 < g) (hn : n + 72 < 18446744073709551616) :
  Calls Tryz.prog 162 #[.pointer (some ⟨g, 0, none⟩)] w fun e w' => e = .returned (.tuple #[]) ∧
   ∃ st' bf' N, feed ks (st, bf, n) (padL n) = (st', bf', N) ∧ Hsh w' g st' bf' N ∧ Keeps w w' g ∧ st'.length = 8 ∧ bf'.length = 64 ∧ (∀ y ∈ st', 0 ≤ y ∧ y ≤ 4294967295) ∧ ∀ y ∈ bf', 0 ≤ y ∧ y ≤ 255 := by
 obtain ⟨i0, hi, hz⟩ := zi72
 have hgw : g < w.heap.size := (Array.getElem?_eq_some_iff.1 hh).1
 have hcell := hh.taken h1 h2
 have HH := hide hh
 have HB := hide (And.intro h1 (And.intro h2 (And.intro hsb hbb)))
 have HK := hide (And.intro hk hK)
 clear hh h1 h2 hsb hbb hk hK
 obtain ⟨r, hr⟩ : ∃ r, n % 64 = r := ⟨_, rfl⟩
 have r1 : (n : Int) % 64 = (r : Int) := by omega
 have hE := padE_bounds n
 obtain ⟨E, hEE⟩ : ∃ E, padE n = E := ⟨_, rfl⟩
 rw [hEE] at hE
 obtain ⟨L, hL⟩ : ∃ L, 8 * n % 18446744073709551616 = L := ⟨_, rfl⟩
 have l1 : 8 * (n : Int) % 18446744073709551616 = (L : Int) := by omega
 have l2 : IntKind.u64.wrap (8 * (n : Int)) = (L : Int) := by rw [IntKind.wrap_u64]; omega
 have tokA : True := trivial
 have hr64 : (r : Int) < 64 := by omega
 by_cases h8 : 64 - r ≤ 8
 ·have hE1 : E = 64 - r + 64 := by rw [← hEE, padE, hr, if_pos h8]
  have e1 : (64 : Int) - (r : Int) ≤ 8 := by omega
  have e2 : IntKind.u64.wrap (64 - (r : Int)) = 64 - (r : Int) := by rw [IntKind.wrap_u64]; omega
  have e3 : (64 : Int) - (r : Int) + 64 = (E : Int) := by omega
  have e4 : IntKind.u64.wrap (64 - (r : Int) + 64) = (E : Int) := by rw [IntKind.wrap_u64]; omega
  clear hE1
  go_enter Tryz.func162, Tryz.ntmps162
  go_wp2_with (first
   | (have _t := tokA; refine wpList_new_arr rfl 167 rfl i0 zb72 hi hz ?_; intro w1 M1; clear tokA; have HA1 : Hid (Arr8 w1 w.heap.size 167 (List.replicate 72 0)) := (uh M1).at'; have ca := (uh HA1).cell 0 (by simp); have cf := (uh HA1).free 0; have hcell1 := ((uh M1).below.cell (p := ⟨g, 72, none⟩) hgw).trans hcell; have hne : ¬ g = w.heap.size := (by omega); have hne' : ¬ w.heap.size = g := (by omega)))
  have A1 : Hid (Arr8 (w1.setCell ⟨w.heap.size, 0, none⟩ (.int .u8 128)) w.heap.size 167 (tailL n 0)) := hide ((uh HA1).set 0 128)
  have B1 : Hid (Below w.heap.size w (w1.setCell ⟨w.heap.size, 0, none⟩ (.int .u8 128))) := hide ((uh M1).below.setCell (p := ⟨w.heap.size, 0, none⟩) (Nat.le_refl _) (.int .u8 128))
  clear ca cf hcell1 hcell M1 HA1
  go_loopw [22] (fun x wr => ∃ i : Nat, i ≤ 8 ∧ x = .int .u64 i ∧ Hid (Arr8 wr w.heap.size 167 (tailL n i)) ∧ Hid (Below w.heap.size w wr)) (fun x _ => 8 - (intOf x).toNat)
  case atStart => exact ⟨0, by omega, rfl, A1, B1⟩
  case round =>
   clear A1 B1
   obtain ⟨i, hi8, rfl, HA, HBel⟩ := hrel
   by_cases hlt : i < 8
   ·obtain ⟨E1, hE1⟩ : ∃ E1, E - 1 = E1 := ⟨_, rfl⟩
    obtain ⟨j, hj⟩ : ∃ j, E1 - i = j := ⟨_, rfl⟩
    obtain ⟨k8, hk8⟩ : ∃ k8, 8 * i = k8 := ⟨_, rfl⟩
    have ct := (uh HA).cell j (by rw [tailL_len]; omega)
    have cf := (uh HA).free j
    have HN : Hid (tailL n (i + 1) = (tailL n i).set j ((L : Int) / 2 ^ k8 % 256)) := hide (by show (tailL n i).set (padE n - 1 - i) _ = _; rw [hEE, hE1, hj, hL, hk8])
    have HA' := hide ((uh HA).set j ((L : Int) / 2 ^ k8 % 256))
    have HB' := hide ((uh HBel).setCell (p := ⟨w.heap.size, j, none⟩) (Nat.le_refl _) (.int .u8 ((L : Int) / 2 ^ k8 % 256)))
    generalize (tailL n i).getD j 0 = y0 at *
    have f1 : (E : Int) - 1 = (E1 : Int) := by omega
    have f2 : IntKind.u64.wrap ((E : Int) - 1) = (E1 : Int) := by rw [IntKind.wrap_u64]; omega
    have f3 : (E1 : Int) - (i : Int) = (j : Int) := by omega
    have f4 : IntKind.u64.wrap ((E1 : Int) - (i : Int)) = (j : Int) := by rw [IntKind.wrap_u64]; omega
    have f5 : 8 * (i : Int) = (k8 : Int) := by omega
    have f6 : IntKind.u64.wrap (8 * (i : Int)) = (k8 : Int) := by rw [IntKind.wrap_u64]; omega
    have f7 : (j : Int) < 72 := by omega
    have f8 : (0 : Int) ≤ (j : Int) := by omega
    have f9 : (k8 : Int) ≤ 56 := by omega
    have i1 : (i : Int) < 8 := by omega
    have HG := hide (And.intro hE1 (And.intro hj (And.intro hk8 (And.intro hEE hL))))
    clear hE1 hj hk8 hEE hL
    go_wp2_with fail
    go_roundw
    case rel => exact ⟨i + 1, by omega, by go_num, hide (by rw [uh HN]; exact uh HA'), HB'⟩
    case measure => simp [intOf]; omega
   ·rw [show ((i : Nat) : Int) = 8 from by omega]
    have hi' : i = 8 := by omega
    subst hi'
    have hb := uh HB
    have hhr : Hsh wr g st bf n := ((uh HBel).block g hgw).trans (uh HH)
    have hKr : Words wr 2 tK ks := ((uh HBel).block 2 (by omega)).trans (uh HK).2
    have hpw : w.heap.size < wr.heap.size := (Array.getElem?_eq_some_iff.1 (uh HA)).1
    have C := write_any g w.heap.size (some ⟨w.heap.size, 0, none⟩) 72 st bf (padL n) ks n wr hhr hb.1 hb.2.1 hb.2.2.1 hb.2.2.2 (padL_bounds n) (uh HK).1 hKr hg1 (by rw [padL_len, hEE]; omega)
     (fun _ => ⟨0, rfl, by omega, hpw, fun j hj => by
      rw [padL_len] at hj
      have ht := tailL_len n 8
      have h := (uh HA).cell j (by rw [ht]; rw [hEE] at hj; omega)
      rw [Nat.zero_add, h]
      unfold padL
      rw [List.getD_eq_getElem?_getD, List.getD_eq_getElem?_getD, List.getElem?_take_of_lt hj]⟩) (by rw [padL_len, hEE]; omega)
    rw [padL_len, hEE] at C
    have CW := hide C
    have e5 : (E : Int) ≤ 72 := by omega
    have e6 : (0 : Int) ≤ (E : Int) := by omega
    clear C hb hhr hKr
    go_wp2_with fail
    refine (uh CW).mono ?_
    rintro e w4 ⟨rfl, st', bf', q1, q2, q3, q4, q5, q6, q7⟩
    have HQ := hide (And.intro q1 (And.intro q2 (And.intro q3 (And.intro q4 (And.intro q5 (And.intro q6 q7))))))
    clear q1 q2 q3 q4 q5 q6 q7
    go_wp2_with fail
    obtain ⟨q1, q2, q3, q4, q5, q6, q7⟩ := uh HQ
    go_end0
    exact ⟨rfl, st', bf', _, q1, q2, Keeps.trans (Keeps.of_below (uh HBel)) q3, q4, q5, q6, q7⟩
 ·have hE1 : E = 64 - r := by rw [← hEE, padE, hr, if_neg h8]
  have e1 : ¬ (64 : Int) - (r : Int) ≤ 8 := by omega
  have e3 : (64 : Int) - (r : Int) = (E : Int) := by omega
  have e2 : IntKind.u64.wrap (64 - (r : Int)) = (E : Int) := by rw [IntKind.wrap_u64]; omega
  have e4 : ¬ (E : Int) ≤ 8 := by omega
  clear hE1
  go_enter Tryz.func162, Tryz.ntmps162
  go_wp2_with (first
   | (have _t := tokA; refine wpList_new_arr rfl 167 rfl i0 zb72 hi hz ?_; intro w1 M1; clear tokA; have HA1 : Hid (Arr8 w1 w.heap.size 167 (List.replicate 72 0)) := (uh M1).at'; have ca := (uh HA1).cell 0 (by simp); have cf := (uh HA1).free 0; have hcell1 := ((uh M1).below.cell (p := ⟨g, 72, none⟩) hgw).trans hcell; have hne : ¬ g = w.heap.size := (by omega); have hne' : ¬ w.heap.size = g := (by omega)))
  have A1 : Hid (Arr8 (w1.setCell ⟨w.heap.size, 0, none⟩ (.int .u8 128)) w.heap.size 167 (tailL n 0)) := hide ((uh HA1).set 0 128)
  have B1 : Hid (Below w.heap.size w (w1.setCell ⟨w.heap.size, 0, none⟩ (.int .u8 128))) := hide ((uh M1).below.setCell (p := ⟨w.heap.size, 0, none⟩) (Nat.le_refl _) (.int .u8 128))
  clear ca cf hcell1 hcell M1 HA1
  go_loopw [22] (fun x wr => ∃ i : Nat, i ≤ 8 ∧ x = .int .u64 i ∧ Hid (Arr8 wr w.heap.size 167 (tailL n i)) ∧ Hid (Below w.heap.size w wr)) (fun x _ => 8 - (intOf x).toNat)
  case atStart => exact ⟨0, by omega, rfl, A1, B1⟩
  case round =>
   clear A1 B1
   obtain ⟨i, hi8, rfl, HA, HBel⟩ := hrel
   by_cases hlt : i < 8
   ·obtain ⟨E1, hE1⟩ : ∃ E1, E - 1 = E1 := ⟨_, rfl⟩
    obtain ⟨j, hj⟩ : ∃ j, E1 - i = j := ⟨_, rfl⟩
    obtain ⟨k8, hk8⟩ : ∃ k8, 8 * i = k8 := ⟨_, rfl⟩
    have ct := (uh HA).cell j (by rw [tailL_len]; omega)
    have cf := (uh HA).free j
    have HN : Hid (tailL n (i + 1) = (tailL n i).set j ((L : Int) / 2 ^ k8 % 256)) := hide (by show (tailL n i).set (padE n - 1 - i) _ = _; rw [hEE, hE1, hj, hL, hk8])
    have HA' := hide ((uh HA).set j ((L : Int) / 2 ^ k8 % 256))
    have HB' := hide ((uh HBel).setCell (p := ⟨w.heap.size, j, none⟩) (Nat.le_refl _) (.int .u8 ((L : Int) / 2 ^ k8 % 256)))
    generalize (tailL n i).getD j 0 = y0 at *
    have f1 : (E : Int) - 1 = (E1 : Int) := by omega
    have f2 : IntKind.u64.wrap ((E : Int) - 1) = (E1 : Int) := by rw [IntKind.wrap_u64]; omega
    have f3 : (E1 : Int) - (i : Int) = (j : Int) := by omega
    have f4 : IntKind.u64.wrap ((E1 : Int) - (i : Int)) = (j : Int) := by rw [IntKind.wrap_u64]; omega
    have f5 : 8 * (i : Int) = (k8 : Int) := by omega
    have f6 : IntKind.u64.wrap (8 * (i : Int)) = (k8 : Int) := by rw [IntKind.wrap_u64]; omega
    have f7 : (j : Int) < 72 := by omega
    have f8 : (0 : Int) ≤ (j : Int) := by omega
    have f9 : (k8 : Int) ≤ 56 := by omega
    have i1 : (i : Int) < 8 := by omega
    have HG := hide (And.intro hE1 (And.intro hj (And.intro hk8 (And.intro hEE hL))))
    clear hE1 hj hk8 hEE hL
    go_wp2_with fail
    go_roundw
    case rel => exact ⟨i + 1, by omega, by go_num, hide (by rw [uh HN]; exact uh HA'), HB'⟩
    case measure => simp [intOf]; omega
   ·rw [show ((i : Nat) : Int) = 8 from by omega]
    have hi' : i = 8 := by omega
    subst hi'
    have hb := uh HB
    have hhr : Hsh wr g st bf n := ((uh HBel).block g hgw).trans (uh HH)
    have hKr : Words wr 2 tK ks := ((uh HBel).block 2 (by omega)).trans (uh HK).2
    have hpw : w.heap.size < wr.heap.size := (Array.getElem?_eq_some_iff.1 (uh HA)).1
    have C := write_any g w.heap.size (some ⟨w.heap.size, 0, none⟩) 72 st bf (padL n) ks n wr hhr hb.1 hb.2.1 hb.2.2.1 hb.2.2.2 (padL_bounds n) (uh HK).1 hKr hg1 (by rw [padL_len, hEE]; omega)
     (fun _ => ⟨0, rfl, by omega, hpw, fun j hj => by
      rw [padL_len] at hj
      have ht := tailL_len n 8
      have h := (uh HA).cell j (by rw [ht]; rw [hEE] at hj; omega)
      rw [Nat.zero_add, h]
      unfold padL
      rw [List.getD_eq_getElem?_getD, List.getD_eq_getElem?_getD, List.getElem?_take_of_lt hj]⟩) (by rw [padL_len, hEE]; omega)
    rw [padL_len, hEE] at C
    have CW := hide C
    have e5 : (E : Int) ≤ 72 := by omega
    have e6 : (0 : Int) ≤ (E : Int) := by omega
    clear C hb hhr hKr
    go_wp2_with fail
    refine (uh CW).mono ?_
    rintro e w4 ⟨rfl, st', bf', q1, q2, q3, q4, q5, q6, q7⟩
    have HQ := hide (And.intro q1 (And.intro q2 (And.intro q3 (And.intro q4 (And.intro q5 (And.intro q6 q7))))))
    clear q1 q2 q3 q4 q5 q6 q7
    go_wp2_with fail
    obtain ⟨q1, q2, q3, q4, q5, q6, q7⟩ := uh HQ
    go_end0
    exact ⟨rfl, st', bf', _, q1, q2, Keeps.trans (Keeps.of_below (uh HBel)) q3, q4, q5, q6, q7⟩
def digS (ks : List Int) (s : List Int × List Int × Nat) : List Int := bytesL (feed ks s (padL s.2.2)).1
def S0 : List Int × List Int × Nat := (H0, List.replicate 64 0, 0)
def digM (ks m : List Int) : List Int := digS ks (feed ks S0 m)
theorem digS_len (ks : List Int) (s : List Int × List Int × Nat) : (digS ks s).length = 32 := bytesL_len _
theorem digM_len (ks m : List Int) : (digM ks m).length = 32 := bytesL_len _
theorem hsum_any {tK : TypeId} (g : Nat) (st bf ks : List Int) (n : Nat) (w : World)
  (hh : Hsh w g st bf n) (h1 : st.length = 8) (h2 : bf.length = 64) (hsb : ∀ y ∈ st, 0 ≤ y ∧ y ≤ 4294967295) (hbb : ∀ y ∈ bf, 0 ≤ y ∧ y ≤ 255)
  (hk : ks.length = 64) (hK : Words w 2 tK ks) (hn : n + 72 < 18446744073709551616) :
  Calls Tryz.prog 142 #[.pointer (some ⟨g, 0, none⟩)] w fun e w' => e = .returned (.agg ((digS ks (st, bf, n)).map (Value.int .u8)).toArray) ∧ Below w.heap.size w w' := by
 obtain ⟨i0, hi, hz⟩ := zi32
 obtain ⟨ih, hih, hzh⟩ := zih
 have hgw : g < w.heap.size := (Array.getElem?_eq_some_iff.1 hh).1
 have hK1 : 2 < w.heap.size := (Array.getElem?_eq_some_iff.1 hK).1
 have HH : Hid (w.heap[g]? = some (.cells (hc st bf n).toArray 151 (0, 0))) := hide hh
 have HB := hide (And.intro h1 (And.intro h2 (And.intro hsb hbb)))
 have HK := hide (And.intro hk hK)
 have Z1 := hide (szh' (n := n) h1 h2)
 have Z2 := hide (zh_size (n := n) h1 h2)
 have Z3 := hide (hc_one st bf n)
 obtain ⟨C, hC⟩ : ∃ C, (hc st bf n).toArray = C := ⟨_, rfl⟩
 rw [hC] at HH Z1 Z2 Z3
 have HC := hide hC
 obtain ⟨D, HD⟩ : ∃ D, Hid (digS ks (st, bf, n) = D) := ⟨_, rfl⟩
 rw [uh HD]
 have HDL : Hid (D.length = 32) := hide (by rw [← uh HD]; exact digS_len _ _)
 have HDS := hide (sizeB (T := 94) sb32 (uh HDL))
 clear hh h1 h2 hsb hbb hk hK hC
 have tokA : True := trivial
 have tokB : True := trivial
 have tokC : True := trivial
 have tokD : True := trivial
 have tokE : True := trivial
 have tokF : True := trivial
 go_enter Tryz.func142, Tryz.ntmps142
 go_wp2_with (first
  | (have _t := tokA; refine wpList_new_arr rfl 94 rfl i0 zb32 hi hz ?_; intro w1 M1; clear tokA; have z1 : w1.heap.size = w.heap.size + 1 := (uh M1).size)
  | (have _t := tokB; refine wpList_load_blk rfl 151 (.tmp 8) rfl g C _ rfl (((uh M1).below.block g hgw).trans (uh HH)) Tryz.underlying151 rfl (uh Z1) ?_; clear tokB)
  | (have _t := tokC; refine wpList_new_arr rfl 151 rfl ih zh hih hzh ?_; intro w2 M2; clear tokC; have z2 : w2.heap.size = w.heap.size + 1 + 1 := (by rw [(uh M2).size, z1]))
  | (have _t := tokD; refine wpList_put_arr rfl 151 (.tmp 3) (.tmp 9) rfl w1.heap.size zh C rfl rfl (uh M2).at' (uh Z2) (uh Z1) (uh Z3) ?_; intro w3 M3; clear tokD; have z3 : w3.heap.size = w.heap.size + 1 + 1 := (by rw [(uh M3).size, z2])))
 have hb := uh HB
 have h3 : Hsh w3 (w.heap.size + 1) st bf n := by unfold Hsh; rw [uh HC, ← z1]; exact (uh M3).at'
 have B3 : Hid (Below w.heap.size w w3) := hide ((uh M3).below _ _ ((uh M1).below.trans ((uh M2).below.mono (by omega))) (by omega))
 have R3 : Hid (w3.heap[w.heap.size]? = some (.cells zb32 94 (0, 0))) := hide (((uh M3).other _ (by omega)).trans (((uh M2).below.block _ (by omega)).trans (uh M1).at'))
 have hK3 : Words w3 2 tK ks := ((uh B3).block 2 hK1).trans (uh HK).2
 have CP := hide (pad_any (w.heap.size + 1) st bf ks n w3 h3 hb.1 hb.2.1 hb.2.2.1 hb.2.2.2 (uh HK).1 hK3 (by omega) hn)
 clear hb h3 hK3 M1 M2 M3 z1
 obtain ⟨G, hG⟩ : ∃ G, w.heap.size + 1 = G := ⟨_, rfl⟩
 rw [hG] at CP
 rw [hG]
 refine (uh CP).mono ?_
 rintro e w4 ⟨rfl, st', bf', N, q1, q2, q3, q4, q5, q6, q7⟩
 have HF : Hid (digS ks (st, bf, n) = bytesL st') := hide (by unfold digS; rw [q1])
 have CB := fun w => hide (bytesOf_any st' w q4 q6)
 have hst := hide (show (Tryz.prog.info? 113).map (·.size) = some (st'.map (Value.int .u32)).length by rw [List.length_map, q4]; exact sw8)
 have HR4 := hide (q2.state)
 have B4 : Hid (Below w.heap.size w w4) := hide (q3.below (uh B3) (by omega) (by omega))
 have R4 : Hid (w4.heap[w.heap.size]? = some (.cells zb32 94 (0, 0))) := hide ((q3.other _ (by omega) (by omega)).trans (uh R3))
 rw [← uh HF, uh HD] at CB
 have q8 : w.heap.size < w4.heap.size := by have := q3.size; omega
 clear q1 q2 q3 q4 q5 q6 q7 R3 B3
 go_wp2_with (first
  | (have _t := tokE; refine wpList_load_mid rfl 113 (.tmp 11) rfl G 0 rfl (st'.map (Value.int .u32)) _ (uh HR4) Tryz.underlying113 rfl (uh hst) ?_; clear tokE))
 refine (uh (CB _)).mono ?_
 rintro e w5 ⟨rfl, B5⟩
 have H5 := hide B5
 clear B5
 go_wp2_with (first
  | (have _t := tokF; refine wpList_put_arr rfl 94 (.tmp 2) (.tmp 13) rfl w.heap.size zb32 (D.map (Value.int .u8)).toArray rfl rfl (((uh H5).block _ q8).trans (uh R4)) (by simp [zb32, uh HDL]) (uh HDS) (bytes_one _) ?_; intro w6 M6; clear tokF))
 exact bodyPost_ret (ret_cell (p := 2) (T := 94) rfl _ _ w.heap.size (D.map (Value.int .u8)).toArray 32 _ rfl (uh M6).at' Tryz.underlying94 (uh HDS)) rfl ⟨rfl, (uh M6).below _ _ ((uh B4).trans ((uh H5).mono (by omega))) (Nat.le_refl _)⟩
theorem sum_any {t0 tK : TypeId} (p : Nat) (ao : Option Addr) (cap : Nat) (zs ks : List Int) (w : World) (hzb : ∀ y ∈ zs, 0 ≤ y ∧ y ≤ 255)
  (hk : ks.length = 64) (h0 : Words w 1 t0 H0) (hK : Words w 2 tK ks) (hcz : zs.length ≤ cap) (hcm : zs.length ≤ 9223372036854775807)
  (hp : 0 < zs.length → ∃ o, ao = some ⟨p, o, none⟩ ∧ p < w.heap.size ∧ ∀ j, j < zs.length → w.cell? ⟨p, o + j, none⟩ = some (.int .u8 (zs.getD j 0))) :
  Calls Tryz.prog 114 #[.slice ao zs.length cap] w fun e w' => e = .returned (.agg ((digM ks zs).map (Value.int .u8)).toArray) ∧ Below w.heap.size w w' := by
 obtain ⟨i0, hi, hz⟩ := zi32
 have hK1 : 2 < w.heap.size := (Array.getElem?_eq_some_iff.1 hK).1
 have H := hide (And.intro hzb (And.intro hk (And.intro h0 (And.intro hK (And.intro hcz (And.intro hcm hp))))))
 obtain ⟨D, HD⟩ : ∃ D, Hid (digM ks zs = D) := ⟨_, rfl⟩
 rw [uh HD]
 have HDL : Hid (D.length = 32) := hide (by rw [← uh HD]; exact digM_len _ _)
 have HDS := hide (sizeB (T := 94) sb32 (uh HDL))
 clear hzb hk h0 hK hcz hcm hp
 have tokA : True := trivial
 have tokB : True := trivial
 go_enter Tryz.func114, Tryz.ntmps114
 go_wp2_with (first
  | (have _t := tokA; refine wpList_new_arr rfl 94 rfl i0 zb32 hi hz ?_; intro w1 M1; clear tokA; have z1 : w1.heap.size = w.heap.size + 1 := (uh M1).size))
 have C1 := hide (new_any w1 (((uh M1).below.block 1 (by omega)).trans (uh H).2.2.1))
 refine (uh C1).mono ?_
 rintro e w2 ⟨rfl, M2'⟩
 have M2 := hide M2'
 have z2 : w2.heap.size = w.heap.size + 1 + 1 := by rw [M2'.size, z1]
 have B2 : Hid (Below w.heap.size w w2) := hide ((uh M1).below.trans (M2'.below.mono (by omega)))
 have hh := uh H
 have C2 := write_any w1.heap.size p ao cap H0 (List.replicate 64 0) zs ks 0 w2 M2'.at' rfl rfl H0_bounds (by intro y hy; rw [List.eq_of_mem_replicate hy]; omega) hh.1 hh.2.1 (((uh B2).block 2 hK1).trans hh.2.2.2.1) (by omega) hh.2.2.2.2.1
  (fun h => by
   obtain ⟨o, e1, e2, e3⟩ := hh.2.2.2.2.2.2 h
   exact ⟨o, e1, by omega, by omega, fun j hj => cell_later (uh B2) (e3 j hj)⟩) (by have := hh.2.2.2.2.1; have := hh.2.2.2.2.2.1; omega)
 have R2 : Hid (w2.heap[w.heap.size]? = some (.cells zb32 94 (0, 0))) := hide ((M2'.below.block _ (by omega)).trans (uh M1).at')
 have HC2 := hide C2
 have hG : w.heap.size + 1 = w1.heap.size := z1.symm
 clear C2 hh M2' C1 M1 M2 z1
 generalize w1.heap.size = G at *
 go_wp2_with fail
 refine (uh HC2).mono ?_
 rintro e w3 ⟨rfl, st', bf', q1, q2, q3, q4, q5, q6, q7⟩
 have hh := uh H
 have B3 : Hid (Below w.heap.size w w3) := hide (q3.below (uh B2) (by omega) (by omega))
 have R3 : Hid (w3.heap[w.heap.size]? = some (.cells zb32 94 (0, 0))) := hide ((q3.other _ (by omega) (by omega)).trans (uh R2))
 have C3 := hsum_any G st' bf' ks (0 + zs.length) w3 q2 q4 q5 q6 q7 hh.2.1 (((uh B3).block 2 hK1).trans hh.2.2.2.1) (by have := hh.2.2.2.2.1; have := hh.2.2.2.2.2.1; omega)
 have hD : digS ks (st', bf', 0 + zs.length) = D := by rw [← q1, ← uh HD]; rfl
 rw [hD] at C3
 have HC3 := hide C3
 have q8 : w.heap.size < w3.heap.size := by have := q3.size; omega
 clear C3 hD hh q1 q2 q3 q4 q5 q6 q7 HC2
 go_wp2_with fail
 refine (uh HC3).mono ?_
 rintro e w4 ⟨rfl, B4⟩
 have H4 := hide B4
 clear B4
 go_wp2_with (first
  | (have _t := tokB; refine wpList_put_arr rfl 94 (.tmp 2) (.tmp 9) rfl w.heap.size zb32 (D.map (Value.int .u8)).toArray rfl rfl (((uh H4).block _ q8).trans (uh R3)) (by simp [zb32, uh HDL]) (uh HDS) (bytes_one _) ?_; intro w6 M6; clear tokB))
 exact bodyPost_ret (ret_cell (p := 2) (T := 94) rfl _ _ w.heap.size (D.map (Value.int .u8)).toArray 32 _ rfl (uh M6).at' Tryz.underlying94 (uh HDS)) rfl ⟨rfl, (uh M6).below _ _ ((uh B3).trans ((uh H4).mono (by omega))) (Nat.le_refl _)⟩
end Go.Proofs.YtgkmdjmigehmeaaGreatDoor
