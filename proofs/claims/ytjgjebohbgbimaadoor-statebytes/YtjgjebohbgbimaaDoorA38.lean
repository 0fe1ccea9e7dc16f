/-
  What the listed package variables of the seat give the walks; a world that has them; no conditions.
  The walk of the document's words (layer 2): the table K; no conditions.
  What a Hash has taken, block by block: the digest is that of the blocks of the padded message; the padding written out; no conditions.
-/
import Derived.Test.YtjgjebohbgbimaaDoorA32
import Derived.Test.YtjgjebohbgbimaaDoorRows
import Derived.ProofKit
import Derived.LaidMore
import Derived.OpenShut
import Derived.Stop.Joined
import Derived.Test.YtjgjebohbgbimaaDoorA36
set_option linter.unusedVariables false
set_option linter.unusedSimpArgs false
namespace Go.Proofs.YtjgjebohbgbimaaDoor
open Go.ChangeShapes Go.WideShapes Go.ChangeAt Go.RowKit

theorem own : ownKnob Tryd.prog.godebug = none := by kernel_rfl
theorem laidOut : laidOutB Tryd.prog = true := by kernel_rfl
theorem gStart : Tryd.prog.globalNamed "scruple/hash.start" = some 0 := by kernel_rfl
theorem gWords : Tryd.prog.globalNamed "scruple/hash.roundWords" = some 1 := by kernel_rfl
theorem tStart : (Tryd.prog.globals[0]?).map (·.type) = some 63 := by kernel_rfl
theorem tWords : (Tryd.prog.globals[1]?).map (·.type) = some 61 := by kernel_rfl
theorem cells1w : Tryd.prog.cellsOf 60 = 1 := by kernel_rfl

def seatLaid : List (String × DataW Unit) := [("scruple/hash.start", Rows.laid_scruple_hash_start), ("scruple/hash.roundWords", Rows.laid_scruple_hash_roundWords)]

/-- the numbers of an array of numbers -/
def numsOf {H : Type} : DataW H → List Int
  | .agg ps => ps.map fun d => match d with | .lit (.int _ n) => n | _ => 0
  | _ => []

def KS : List Int := numsOf (H := Unit) Rows.laid_scruple_hash_roundWords
theorem KS_len : KS.length = 64 := by kernel_rfl
theorem H0_is : numsOf (H := Unit) Rows.laid_scruple_hash_start = H0 := by kernel_rfl

theorem words_of {W : World} {T : TypeId} {n fuel : Nat} {cs : List Value} {d : DataW Unit} {p : List MemPlace} (hu : Tryd.prog.underlying T = some (.array n 60)) (hn : Tryd.prog.cellsOf T = n) (h : DataW.trod (fun _ => ()) Tryd.prog W 0 (fun _ => true) false fuel T cs = some (d, p)) :
    cs = (numsOf d).map (Value.int .u32) := by
  obtain ⟨xs, m, _, hx1, hlen, hn3, hel⟩ := DataW.trod_array hu h
  simp only [Prod.mk.injEq] at hx1
  obtain ⟨rfl, _⟩ := hx1
  rw [hn] at hlen
  refine List.ext_getElem? fun i => ?_
  by_cases hi : i < n
  · have h1 := hel i hi
    rw [List.getElem?_eq_getElem (by omega)] at h1
    obtain ⟨k, e1, e2, _⟩ := DataW.trod_int Tryd.underlying60 h1
    rw [cells1w, Nat.mul_one] at e1
    have e3 : cs[i]? = some (.int .u32 k) := by
      have := congrArg (·[0]?) e1
      simpa using this
    rw [e3]
    simp [numsOf, List.getElem?_eq_getElem (show i < xs.length by omega), e2]
  · rw [List.getElem?_eq_none (by omega), List.getElem?_eq_none (by simp [numsOf]; omega)]

theorem of_laid {W : World} (h : laidMetH Tryd.prog seatLaid W) : ∃ t0 tK, Words W 0 t0 H0 ∧ Words W 1 tK KS := by
  rw [MakeChecks.laidMetH_plain _ _ _ (by kernel_rfl)] at h
  obtain ⟨ps, ⟨g0, t0, cs0, f0, p0, q0, hg0, ht0, hv0, hd0, ⟨g1, t1, cs1, f1, p1, q1, hg1, ht1, hv1, hd1, _, hq⟩, hps⟩, _, hfz⟩ := h
  obtain rfl := Option.some.inj (gStart.symm.trans hg0)
  obtain rfl := Option.some.inj (gWords.symm.trans hg1)
  obtain rfl := Option.some.inj (tStart.symm.trans ht0)
  obtain rfl := Option.some.inj (tWords.symm.trans ht1)
  have e0 := words_of Tryd.underlying63 (by kernel_rfl) hd0
  have e1 := words_of Tryd.underlying61 (by kernel_rfl) hd1
  rw [H0_is] at e0
  have z0 : 0 < cs0.size := by rw [← Array.length_toList, e0]; decide
  have z1 : 0 < cs1.size := by rw [← Array.length_toList, e1]; show 0 < (KS.map _).length; rw [List.length_map, KS_len]; decide
  obtain ⟨⟨c, t, hc⟩, _⟩ := hfz 0 0 (by rw [hps]; exact List.mem_append_left _ (List.mem_append_left _ (MemPlace.mem_row.2 ⟨0, z0, rfl⟩)))
  obtain ⟨⟨c', t', hc'⟩, _⟩ := hfz 1 0 (by rw [hps, hq]; exact List.mem_append_right _ (List.mem_append_left _ (List.mem_append_left _ (MemPlace.mem_row.2 ⟨0, z1, rfl⟩))))
  refine ⟨t, t', ?_, ?_⟩
  · have hv : some cs0 = some c := by rw [← hv0]; unfold World.var?; rw [gStart]; simp [hc]
    cases hv
    unfold Words
    rw [hc, ← e0]
  · have hv : some cs1 = some c' := by rw [← hv1]; unfold World.var?; rw [gWords]; simp [hc']
    cases hv
    unfold Words
    have e2 : KS.map (Value.int .u32) = cs1.toList := e1.symm
    rw [hc', e2]

/-- the door's own heap meets the condition -/
theorem door_met (os : Os) (args : Array Value) : laidMetH Tryd.prog seatLaid ((World.doorLaid Tryd.prog 400 os).forCall (fun _ _ => 0) ⟨#[], args, []⟩).memory :=
  laidMetH_of_parts3 (fuel := 8) (laidMet_of_run' 8 (by kernel_rfl) (by kernel_rfl)) (by kernel_rfl) (by kernel_rfl)
end Go.Proofs.YtjgjebohbgbimaaDoor

namespace Go.Proofs.YtjgjebohbgbimaaDoor
open Go.RowKit

theorem ks_size : zw64.size = (KS.map (Value.int .u32)).toArray.size := by kernel_rfl

set_option maxRecDepth 100000 in
set_option maxHeartbeats 1000000 in
theorem refWords_any (w : World) :
    Calls Tryd.prog 37 #[] w fun e w' => e = .returned (.agg (KS.map (Value.int .u32)).toArray) ∧ Below w.heap.size w w' := by
  obtain ⟨i0, hi, hz⟩ := zi64
  have HS := hide ks_size
  have HZ := hide (sizeW (T := 61) sw64 KS_len)
  have tokA : True := trivial
  have tokB : True := trivial
  go_enter Tryd.func37, Tryd.ntmps37
  go_wp2_with (first
    | (have _t := tokA; refine wpList_new_arr rfl 61 rfl i0 zw64 hi hz ?_; intro w1 M1; clear tokA)
    | (have _t := tokB; refine wpList_put_arr rfl 61 (.tmp 0) (.tmp 1) rfl w.heap.size zw64 (KS.map (Value.int .u32)).toArray rfl rfl (unhide M1).at' (unhide HS) (unhide HZ) (words_one _) ?_; intro w2 M2; clear tokB))
  exact bodyPost_ret (ret_cell (p := 0) (T := 61) rfl _ _ w.heap.size (KS.map (Value.int .u32)).toArray 64 _ rfl (unhide M2).at' Tryd.underlying61 (unhide HZ)) rfl ⟨rfl, (unhide M2).below _ _ (unhide M1).below (Nat.le_refl _)⟩
end Go.Proofs.YtjgjebohbgbimaaDoor

namespace Go.Proofs.YtjgjebohbgbimaaDoor
open Go.RowKit

/-- the state behind k blocks -/
def foldB (ks st l : List Int) : Nat → List Int
  | 0 => st
  | k + 1 => comp ks (foldB ks st l k) ((l.drop (64 * k)).take 64)

theorem foldB_len (ks st l : List Int) (k : Nat) : (foldB ks st l k).length = st.length := by
  induction k with
  | zero => rfl
  | succ k ih => show (comp ks _ _).length = _; rw [comp_len, ih]

theorem splice_all (bf c : List Int) (h1 : bf.length = 64) (h2 : c.length = 64) : splice bf 0 c = c := by
  unfold splice
  rw [List.take_zero, List.nil_append, Nat.zero_add, h2, List.drop_eq_nil_of_le (by omega), List.append_nil]

theorem feed_blocks (ks st bf l : List Int) (hb : bf.length = 64) : ∀ k, 64 * k ≤ l.length → ∃ bf', bf'.length = 64 ∧ feed ks (st, bf, 0) (l.take (64 * k)) = (foldB ks st l k, bf', 64 * k)
  | 0, _ => ⟨bf, hb, rfl⟩
  | k + 1, h => by
    obtain ⟨b1, h1, e1⟩ := feed_blocks ks st bf l hb k (by omega)
    have hc : ((l.drop (64 * k)).take 64).length = 64 := by simp; omega
    have hs : l.take (64 * (k + 1)) = l.take (64 * k) ++ (l.drop (64 * k)).take 64 := by
      rw [show 64 * (k + 1) = 64 * k + 64 from by omega, List.take_add]
    refine ⟨(l.drop (64 * k)).take 64, hc, ?_⟩
    rw [hs, feed_app, e1, feed_chunk ks _ _ b1 (64 * k) (by intro e; rw [e] at hc; simp at hc) (by rw [hc]; omega) h1, hc]
    rw [if_pos (by omega), show 64 * k % 64 = 0 by omega, splice_all b1 _ h1 hc]
    rfl

theorem pad_whole (n : Nat) : (n + padE n) % 64 = 0 := by unfold padE; split <;> omega

/-- the digest, by the padded message's blocks -/
theorem digM_is (ks m : List Int) : digM ks m = bytesL (foldB ks H0 (m ++ padL m.length) ((m.length + padE m.length) / 64)) := by
  have hn : (feed ks S0 m).2.2 = m.length := by rw [feed_n]; show 0 + m.length = _; omega
  unfold digM digS
  rw [hn, ← feed_app]
  have hl : (m ++ padL m.length).length = m.length + padE m.length := by rw [List.length_append, padL_len]
  have hw := pad_whole m.length
  have h64 : 64 * ((m.length + padE m.length) / 64) = m.length + padE m.length := by omega
  obtain ⟨bf', _, e⟩ := feed_blocks ks H0 (List.replicate 64 0) (m ++ padL m.length) (by simp) ((m.length + padE m.length) / 64) (by rw [hl, h64]; exact Nat.le_refl _)
  rw [h64, List.take_of_length_le (by omega)] at e
  show bytesL (feed ks (H0, List.replicate 64 0, 0) (m ++ padL m.length)).1 = _
  rw [e]

/-- the bytes of the length, the highest first -/
def lenL (n : Nat) : List Int := (List.range 8).map fun i => ((8 * n % 18446744073709551616 : Nat) : Int) / 2 ^ (8 * (7 - i)) % 256

theorem tail_at (n : Nat) : ∀ i, i ≤ 8 → ∀ j, j < padE n → (tailL n i).getD j 0 = if j = 0 then 128 else if padE n - i ≤ j then ((8 * n % 18446744073709551616 : Nat) : Int) / 2 ^ (8 * (padE n - 1 - j)) % 256 else 0
  | 0, _, j, hj => by
    have hE := padE_bounds n
    rw [if_neg (show ¬ padE n - 0 ≤ j by omega)]
    show ((List.replicate 72 (0 : Int)).set 0 128).getD j 0 = _
    rw [List.getD_eq_getElem?_getD]
    by_cases h0 : j = 0
    · subst h0
      rw [List.getElem?_set_self (by simp)]
      rfl
    · rw [List.getElem?_set_ne (by omega), List.getElem?_replicate, if_pos (by omega), if_neg h0]
      rfl
  | i + 1, hi, j, hj => by
    have hE := padE_bounds n
    have ih := tail_at n i (by omega) j hj
    show ((tailL n i).set (padE n - 1 - i) _).getD j 0 = _
    by_cases hji : padE n - 1 - i = j
    · subst hji
      rw [List.getD_eq_getElem?_getD, List.getElem?_set_self (by rw [tailL_len]; omega), if_neg (by omega), if_pos (by omega), show padE n - 1 - (padE n - 1 - i) = i by omega]
      rfl
    · rw [List.getD_eq_getElem?_getD, List.getElem?_set_ne hji, ← List.getD_eq_getElem?_getD, ih]
      by_cases h0 : j = 0
      · rw [if_pos h0, if_pos h0]
      · rw [if_neg h0, if_neg h0]
        by_cases hc : padE n - i ≤ j
        · rw [if_pos hc, if_pos (by omega)]
        · rw [if_neg hc, if_neg (by omega)]

/-- the padding, written out -/
theorem padL_is (n : Nat) : padL n = 128 :: (List.replicate (padE n - 9) 0 ++ lenL n) := by
  have hE := padE_bounds n
  have hl : (128 :: (List.replicate (padE n - 9) (0 : Int) ++ lenL n)).length = padE n := by simp [lenL]; omega
  refine List.ext_getElem (by rw [padL_len, hl]) fun j h1 h2 => ?_
  rw [padL_len] at h1
  have e1 : (padL n)[j]'(by rw [padL_len]; exact h1) = (tailL n 8).getD j 0 := by
    unfold padL
    rw [List.getElem_take]
    simp [List.getD, (by rw [tailL_len]; omega : j < (tailL n 8).length)]
  rw [e1, tail_at n 8 (by omega) j h1]
  by_cases h0 : j = 0
  · subst h0
    rfl
  · obtain ⟨k, rfl⟩ : ∃ k, j = k + 1 := ⟨j - 1, by omega⟩
    rw [if_neg (by omega), List.getElem_cons_succ]
    by_cases hc : padE n - 8 ≤ k + 1
    · rw [if_pos hc, List.getElem_append_right (by simp; omega)]
      simp only [lenL, List.getElem_map, List.getElem_range, List.length_replicate]
      rw [show 7 - (k - (padE n - 9)) = padE n - 1 - (k + 1) by omega]
    · rw [if_neg hc, List.getElem_append_left (by simp; omega)]
      simp
end Go.Proofs.YtjgjebohbgbimaaDoor
