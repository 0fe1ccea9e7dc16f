/-
  The walk of a Hash's pad: what stands behind the bytes taken; conditions: as of Write.
-/
import Derived.Test.YtjgjebohbgbimaaDoorA34
set_option linter.unusedVariables false
set_option linter.unusedSimpArgs false
namespace Go.Proofs.YtjgjebohbgbimaaDoor
open Go.RowKit

/-- how long the padding is -/
def padE (n : Nat) : Nat := if 64 - n % 64 ≤ 8 then 64 - n % 64 + 64 else 64 - n % 64

/-- the padding behind i bytes of the length, with what lies behind it -/
def tailL (n : Nat) : Nat → List Int
  | 0 => (List.replicate 72 0).set 0 128
  | i + 1 => (tailL n i).set (padE n - 1 - i) (((8 * n % 18446744073709551616 : Nat) : Int) / 2 ^ (8 * i) % 256)

def padL (n : Nat) : List Int := (tailL n 8).take (padE n)

theorem padE_bounds (n : Nat) : 9 ≤ padE n ∧ padE n ≤ 72 := by unfold padE; split <;> omega

theorem tailL_len (n i : Nat) : (tailL n i).length = 72 := by
  induction i with
  | zero => simp [tailL]
  | succ i ih => simp [tailL, ih]

theorem mem_set8 (ws : List Int) (t : Nat) (x : Int) (hx : 0 ≤ x ∧ x ≤ 255) (h : ∀ y ∈ ws, 0 ≤ y ∧ y ≤ 255) : ∀ y ∈ ws.set t x, 0 ≤ y ∧ y ≤ 255 := by
  intro y hy
  rcases List.mem_or_eq_of_mem_set hy with h1 | h1
  · exact h y h1
  · rw [h1]; exact hx

theorem tailL_bounds (n i : Nat) : ∀ y ∈ tailL n i, 0 ≤ y ∧ y ≤ 255 := by
  induction i with
  | zero => exact mem_set8 _ _ _ (by omega) (by intro y hy; rw [List.eq_of_mem_replicate hy]; omega)
  | succ i ih => exact mem_set8 _ _ _ (by omega) ih

theorem padL_len (n : Nat) : (padL n).length = padE n := by
  have := padE_bounds n
  simp [padL, tailL_len]; omega

theorem padL_bounds (n : Nat) : ∀ y ∈ padL n, 0 ≤ y ∧ y ≤ 255 := fun y hy => tailL_bounds n 8 y (List.mem_of_mem_take hy)

set_option maxRecDepth 100000 in
set_option maxHeartbeats 1000000 in
theorem pad_any {tK : TypeId} (g : Nat) (st bf ks : List Int) (n : Nat) (w : World)
    (hh : Hsh w g st bf n) (h1 : st.length = 8) (h2 : bf.length = 64) (hsb : ∀ y ∈ st, 0 ≤ y ∧ y ≤ 4294967295) (hbb : ∀ y ∈ bf, 0 ≤ y ∧ y ≤ 255)
    (hk : ks.length = 64) (hK : Words w 1 tK ks) (hg1 : 1 < g) (hn : n + 72 < 18446744073709551616) :
    Calls Tryd.prog 47 #[.pointer (some ⟨g, 0, none⟩)] w fun e w' => e = .returned (.tuple #[]) ∧
      ∃ st' bf' N, feed ks (st, bf, n) (padL n) = (st', bf', N) ∧ Hsh w' g st' bf' N ∧ Keeps w w' g ∧ st'.length = 8 ∧ bf'.length = 64 ∧ (∀ y ∈ st', 0 ≤ y ∧ y ≤ 4294967295) ∧ ∀ y ∈ bf', 0 ≤ y ∧ y ≤ 255 := by
  obtain ⟨i0, hi, hz⟩ := zi72
  have hgw : g < w.heap.size := (Array.getElem?_eq_some_iff.1 hh).1
  have hcell := hh.taken h1 h2
  have HH := hide hh
  have HB := hide (And.intro h1 (And.intro h2 (And.intro hsb hbb)))
  have HK := hide (And.intro hk hK)
  clear hh h1 h2 hsb hbb hk hK
  obtain ⟨r, hr⟩ : ∃ r, n % 64 = r := ⟨_, rfl⟩
  have r1 : (n : Int) % 64 = (r : Int) := by omega
  have hE := padE_bounds n
  obtain ⟨E, hEE⟩ : ∃ E, padE n = E := ⟨_, rfl⟩
  rw [hEE] at hE
  obtain ⟨L, hL⟩ : ∃ L, 8 * n % 18446744073709551616 = L := ⟨_, rfl⟩
  have l1 : 8 * (n : Int) % 18446744073709551616 = (L : Int) := by omega
  have l2 : IntKind.u64.wrap (8 * (n : Int)) = (L : Int) := by rw [IntKind.wrap_u64]; omega
  have tokA : True := trivial
  have hr64 : (r : Int) < 64 := by omega
  by_cases h8 : 64 - r ≤ 8
  · have hE1 : E = 64 - r + 64 := by rw [← hEE, padE, hr, if_pos h8]
    have e1 : (64 : Int) - (r : Int) ≤ 8 := by omega
    have e2 : IntKind.u64.wrap (64 - (r : Int)) = 64 - (r : Int) := by rw [IntKind.wrap_u64]; omega
    have e3 : (64 : Int) - (r : Int) + 64 = (E : Int) := by omega
    have e4 : IntKind.u64.wrap (64 - (r : Int) + 64) = (E : Int) := by rw [IntKind.wrap_u64]; omega
    clear hE1
    go_enter Tryd.func47, Tryd.ntmps47
    go_wp2_with (first
      | (have _t := tokA; refine wpList_new_arr rfl 82 rfl i0 zb72 hi hz ?_; intro w1 M1; clear tokA; have HA1 : Hid (Arr8 w1 w.heap.size 82 (List.replicate 72 0)) := (unhide M1).at'; have ca := (unhide HA1).cell 0 (by simp); have cf := (unhide HA1).free 0; have hcell1 := ((unhide M1).below.cell (p := ⟨g, 72, none⟩) hgw).trans hcell; have hne : ¬ g = w.heap.size := (by omega); have hne' : ¬ w.heap.size = g := (by omega)))
    have A1 : Hid (Arr8 (w1.setCell ⟨w.heap.size, 0, none⟩ (.int .u8 128)) w.heap.size 82 (tailL n 0)) := hide ((unhide HA1).set 0 128)
    have B1 : Hid (Below w.heap.size w (w1.setCell ⟨w.heap.size, 0, none⟩ (.int .u8 128))) := hide ((unhide M1).below.setCell (p := ⟨w.heap.size, 0, none⟩) (Nat.le_refl _) (.int .u8 128))
    clear ca cf hcell1 hcell M1 HA1
    go_loopw [22] (fun x wr => ∃ i : Nat, i ≤ 8 ∧ x = .int .u64 i ∧ Hid (Arr8 wr w.heap.size 82 (tailL n i)) ∧ Hid (Below w.heap.size w wr)) (fun x _ => 8 - (intOf x).toNat)
    case atStart => exact ⟨0, by omega, rfl, A1, B1⟩
    case round =>
      clear A1 B1
      obtain ⟨i, hi8, rfl, HA, HBel⟩ := hrel
      by_cases hlt : i < 8
      · obtain ⟨E1, hE1⟩ : ∃ E1, E - 1 = E1 := ⟨_, rfl⟩
        obtain ⟨j, hj⟩ : ∃ j, E1 - i = j := ⟨_, rfl⟩
        obtain ⟨k8, hk8⟩ : ∃ k8, 8 * i = k8 := ⟨_, rfl⟩
        have ct := (unhide HA).cell j (by rw [tailL_len]; omega)
        have cf := (unhide HA).free j
        have HN : Hid (tailL n (i + 1) = (tailL n i).set j ((L : Int) / 2 ^ k8 % 256)) := hide (by show (tailL n i).set (padE n - 1 - i) _ = _; rw [hEE, hE1, hj, hL, hk8])
        have HA' := hide ((unhide HA).set j ((L : Int) / 2 ^ k8 % 256))
        have HB' := hide ((unhide HBel).setCell (p := ⟨w.heap.size, j, none⟩) (Nat.le_refl _) (.int .u8 ((L : Int) / 2 ^ k8 % 256)))
        generalize (tailL n i).getD j 0 = y0 at *
        have f1 : (E : Int) - 1 = (E1 : Int) := by omega
        have f2 : IntKind.u64.wrap ((E : Int) - 1) = (E1 : Int) := by rw [IntKind.wrap_u64]; omega
        have f3 : (E1 : Int) - (i : Int) = (j : Int) := by omega
        have f4 : IntKind.u64.wrap ((E1 : Int) - (i : Int)) = (j : Int) := by rw [IntKind.wrap_u64]; omega
        have f5 : 8 * (i : Int) = (k8 : Int) := by omega
        have f6 : IntKind.u64.wrap (8 * (i : Int)) = (k8 : Int) := by rw [IntKind.wrap_u64]; omega
        have f7 : (j : Int) < 72 := by omega
        have f8 : (0 : Int) ≤ (j : Int) := by omega
        have f9 : (k8 : Int) ≤ 56 := by omega
        have i1 : (i : Int) < 8 := by omega
        have HG := hide (And.intro hE1 (And.intro hj (And.intro hk8 (And.intro hEE hL))))
        clear hE1 hj hk8 hEE hL
        go_wp2_with fail
        go_roundw
        case rel => exact ⟨i + 1, by omega, by go_num, hide (by rw [unhide HN]; exact unhide HA'), HB'⟩
        case measure => simp [intOf]; omega
      · rw [show ((i : Nat) : Int) = 8 from by omega]
        have hi' : i = 8 := by omega
        subst hi'
        have hb := unhide HB
        have hhr : Hsh wr g st bf n := ((unhide HBel).block g hgw).trans (unhide HH)
        have hKr : Words wr 1 tK ks := ((unhide HBel).block 1 (by omega)).trans (unhide HK).2
        have hpw : w.heap.size < wr.heap.size := (Array.getElem?_eq_some_iff.1 (unhide HA)).1
        have C := write_any g w.heap.size (some ⟨w.heap.size, 0, none⟩) 72 st bf (padL n) ks n wr hhr hb.1 hb.2.1 hb.2.2.1 hb.2.2.2 (padL_bounds n) (unhide HK).1 hKr hg1 (by rw [padL_len, hEE]; omega)
          (fun _ => ⟨0, rfl, by omega, hpw, fun j hj => by
            rw [padL_len] at hj
            have ht := tailL_len n 8
            have h := (unhide HA).cell j (by rw [ht]; rw [hEE] at hj; omega)
            rw [Nat.zero_add, h]
            unfold padL
            rw [List.getD_eq_getElem?_getD, List.getD_eq_getElem?_getD, List.getElem?_take_of_lt hj]⟩) (by rw [padL_len, hEE]; omega)
        rw [padL_len, hEE] at C
        have CW := hide C
        have e5 : (E : Int) ≤ 72 := by omega
        have e6 : (0 : Int) ≤ (E : Int) := by omega
        clear C hb hhr hKr
        go_wp2_with fail
        refine (unhide CW).mono ?_
        rintro e w4 ⟨rfl, st', bf', q1, q2, q3, q4, q5, q6, q7⟩
        have HQ := hide (And.intro q1 (And.intro q2 (And.intro q3 (And.intro q4 (And.intro q5 (And.intro q6 q7))))))
        clear q1 q2 q3 q4 q5 q6 q7
        go_wp2_with fail
        obtain ⟨q1, q2, q3, q4, q5, q6, q7⟩ := unhide HQ
        go_end0
        exact ⟨rfl, st', bf', _, q1, q2, Keeps.trans (Keeps.of_below (unhide HBel)) q3, q4, q5, q6, q7⟩
  · have hE1 : E = 64 - r := by rw [← hEE, padE, hr, if_neg h8]
    have e1 : ¬ (64 : Int) - (r : Int) ≤ 8 := by omega
    have e3 : (64 : Int) - (r : Int) = (E : Int) := by omega
    have e2 : IntKind.u64.wrap (64 - (r : Int)) = (E : Int) := by rw [IntKind.wrap_u64]; omega
    have e4 : ¬ (E : Int) ≤ 8 := by omega
    clear hE1
    go_enter Tryd.func47, Tryd.ntmps47
    go_wp2_with (first
      | (have _t := tokA; refine wpList_new_arr rfl 82 rfl i0 zb72 hi hz ?_; intro w1 M1; clear tokA; have HA1 : Hid (Arr8 w1 w.heap.size 82 (List.replicate 72 0)) := (unhide M1).at'; have ca := (unhide HA1).cell 0 (by simp); have cf := (unhide HA1).free 0; have hcell1 := ((unhide M1).below.cell (p := ⟨g, 72, none⟩) hgw).trans hcell; have hne : ¬ g = w.heap.size := (by omega); have hne' : ¬ w.heap.size = g := (by omega)))
    have A1 : Hid (Arr8 (w1.setCell ⟨w.heap.size, 0, none⟩ (.int .u8 128)) w.heap.size 82 (tailL n 0)) := hide ((unhide HA1).set 0 128)
    have B1 : Hid (Below w.heap.size w (w1.setCell ⟨w.heap.size, 0, none⟩ (.int .u8 128))) := hide ((unhide M1).below.setCell (p := ⟨w.heap.size, 0, none⟩) (Nat.le_refl _) (.int .u8 128))
    clear ca cf hcell1 hcell M1 HA1
    go_loopw [22] (fun x wr => ∃ i : Nat, i ≤ 8 ∧ x = .int .u64 i ∧ Hid (Arr8 wr w.heap.size 82 (tailL n i)) ∧ Hid (Below w.heap.size w wr)) (fun x _ => 8 - (intOf x).toNat)
    case atStart => exact ⟨0, by omega, rfl, A1, B1⟩
    case round =>
      clear A1 B1
      obtain ⟨i, hi8, rfl, HA, HBel⟩ := hrel
      by_cases hlt : i < 8
      · obtain ⟨E1, hE1⟩ : ∃ E1, E - 1 = E1 := ⟨_, rfl⟩
        obtain ⟨j, hj⟩ : ∃ j, E1 - i = j := ⟨_, rfl⟩
        obtain ⟨k8, hk8⟩ : ∃ k8, 8 * i = k8 := ⟨_, rfl⟩
        have ct := (unhide HA).cell j (by rw [tailL_len]; omega)
        have cf := (unhide HA).free j
        have HN : Hid (tailL n (i + 1) = (tailL n i).set j ((L : Int) / 2 ^ k8 % 256)) := hide (by show (tailL n i).set (padE n - 1 - i) _ = _; rw [hEE, hE1, hj, hL, hk8])
        have HA' := hide ((unhide HA).set j ((L : Int) / 2 ^ k8 % 256))
        have HB' := hide ((unhide HBel).setCell (p := ⟨w.heap.size, j, none⟩) (Nat.le_refl _) (.int .u8 ((L : Int) / 2 ^ k8 % 256)))
        generalize (tailL n i).getD j 0 = y0 at *
        have f1 : (E : Int) - 1 = (E1 : Int) := by omega
        have f2 : IntKind.u64.wrap ((E : Int) - 1) = (E1 : Int) := by rw [IntKind.wrap_u64]; omega
        have f3 : (E1 : Int) - (i : Int) = (j : Int) := by omega
        have f4 : IntKind.u64.wrap ((E1 : Int) - (i : Int)) = (j : Int) := by rw [IntKind.wrap_u64]; omega
        have f5 : 8 * (i : Int) = (k8 : Int) := by omega
        have f6 : IntKind.u64.wrap (8 * (i : Int)) = (k8 : Int) := by rw [IntKind.wrap_u64]; omega
        have f7 : (j : Int) < 72 := by omega
        have f8 : (0 : Int) ≤ (j : Int) := by omega
        have f9 : (k8 : Int) ≤ 56 := by omega
        have i1 : (i : Int) < 8 := by omega
        have HG := hide (And.intro hE1 (And.intro hj (And.intro hk8 (And.intro hEE hL))))
        clear hE1 hj hk8 hEE hL
        go_wp2_with fail
        go_roundw
        case rel => exact ⟨i + 1, by omega, by go_num, hide (by rw [unhide HN]; exact unhide HA'), HB'⟩
        case measure => simp [intOf]; omega
      · rw [show ((i : Nat) : Int) = 8 from by omega]
        have hi' : i = 8 := by omega
        subst hi'
        have hb := unhide HB
        have hhr : Hsh wr g st bf n := ((unhide HBel).block g hgw).trans (unhide HH)
        have hKr : Words wr 1 tK ks := ((unhide HBel).block 1 (by omega)).trans (unhide HK).2
        have hpw : w.heap.size < wr.heap.size := (Array.getElem?_eq_some_iff.1 (unhide HA)).1
        have C := write_any g w.heap.size (some ⟨w.heap.size, 0, none⟩) 72 st bf (padL n) ks n wr hhr hb.1 hb.2.1 hb.2.2.1 hb.2.2.2 (padL_bounds n) (unhide HK).1 hKr hg1 (by rw [padL_len, hEE]; omega)
          (fun _ => ⟨0, rfl, by omega, hpw, fun j hj => by
            rw [padL_len] at hj
            have ht := tailL_len n 8
            have h := (unhide HA).cell j (by rw [ht]; rw [hEE] at hj; omega)
            rw [Nat.zero_add, h]
            unfold padL
            rw [List.getD_eq_getElem?_getD, List.getD_eq_getElem?_getD, List.getElem?_take_of_lt hj]⟩) (by rw [padL_len, hEE]; omega)
        rw [padL_len, hEE] at C
        have CW := hide C
        have e5 : (E : Int) ≤ 72 := by omega
        have e6 : (0 : Int) ≤ (E : Int) := by omega
        clear C hb hhr hKr
        go_wp2_with fail
        refine (unhide CW).mono ?_
        rintro e w4 ⟨rfl, st', bf', q1, q2, q3, q4, q5, q6, q7⟩
        have HQ := hide (And.intro q1 (And.intro q2 (And.intro q3 (And.intro q4 (And.intro q5 (And.intro q6 q7))))))
        clear q1 q2 q3 q4 q5 q6 q7
        go_wp2_with fail
        obtain ⟨q1, q2, q3, q4, q5, q6, q7⟩ := unhide HQ
        go_end0
        exact ⟨rfl, st', bf', _, q1, q2, Keeps.trans (Keeps.of_below (unhide HBel)) q3, q4, q5, q6, q7⟩
end Go.Proofs.YtjgjebohbgbimaaDoor
