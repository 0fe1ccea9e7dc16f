/-
  The walk of hash.takeIn: the state behind a block; conditions: eight words, a block of 64 bytes, the package's table of words.
-/
import Derived.Test.YtjgjebohbgbimaaDoorA30
set_option linter.unusedVariables false
set_option linter.unusedSimpArgs false
namespace Go.Proofs.YtjgjebohbgbimaaDoor
open Go.RowKit

def chE (e f g : Int) : Int := bits .xor .u32 (bits .and .u32 e f) (bits .and .u32 (bits .xor .u32 (if IntKind.u32.signed = true then -1 else IntKind.u32.max) e) g)
def majA (a b c : Int) : Int := bits .xor .u32 (bits .xor .u32 (bits .and .u32 a b) (bits .and .u32 a c)) (bits .and .u32 b c)
def tOne (e f g h k wt : Int) : Int := (h + turns3 e 6 11 25 + chE e f g + k + wt) % 4294967296
def tTwo (a b c : Int) : Int := (turns3 a 2 13 22 + majA a b c) % 4294967296

/-- one round -/
def rnd (k wt : Int) : List Int → List Int
  | [a, b, c, d, e, f, g, h] => [(tOne e f g h k wt + tTwo a b c) % 4294967296, a, b, c, (d + tOne e f g h k wt) % 4294967296, e, f, g]
  | l => l

def rnds (st ks ws : List Int) : Nat → List Int
  | 0 => st
  | t + 1 => rnd (ks.getD t 0) (ws.getD t 0) (rnds st ks ws t)

/-- the first i words of l, added to those of st -/
def addTo (st l : List Int) : Nat → List Int
  | 0 => st
  | i + 1 => (addTo st l i).set i (((addTo st l i).getD i 0 + l.getD i 0) % 4294967296)

/-- the state behind a block -/
def comp (ks st bs : List Int) : List Int := addTo st (rnds st ks (spreadL bs) 64) 8

theorem addTo_len (st l : List Int) (i : Nat) : (addTo st l i).length = st.length := by
  induction i with
  | zero => rfl
  | succ i ih => simp [addTo, ih]

theorem comp_len (ks st bs : List Int) : (comp ks st bs).length = st.length := addTo_len _ _ _

theorem addTo_bounds (st l : List Int) (h : ∀ y ∈ st, 0 ≤ y ∧ y ≤ 4294967295) (i : Nat) : ∀ y ∈ addTo st l i, 0 ≤ y ∧ y ≤ 4294967295 := by
  induction i with
  | zero => exact h
  | succ i ih => exact mem_set' _ _ _ (by omega) ih

theorem comp_bounds (ks st bs : List Int) (h : ∀ y ∈ st, 0 ≤ y ∧ y ≤ 4294967295) : ∀ y ∈ comp ks st bs, 0 ≤ y ∧ y ≤ 4294967295 := addTo_bounds _ _ h _

set_option maxRecDepth 100000 in
set_option maxHeartbeats 1000000 in
theorem take8 {tK : TypeId} (s0 s1 s2 s3 s4 s5 s6 s7 : Int) (bs ks : List Int) (w : World) (hl : bs.length = 64) (hb : ∀ c ∈ bs, 0 ≤ c ∧ c ≤ 255) (hk : ks.length = 64) (hK : Words w 1 tK ks) :
    Calls Tryd.prog 46 #[.agg (([s0, s1, s2, s3, s4, s5, s6, s7] : List Int).map (Value.int .u32)).toArray, .agg (bs.map (Value.int .u8)).toArray] w fun e w' => e = .returned (.agg ((comp ks [s0, s1, s2, s3, s4, s5, s6, s7] bs).map (Value.int .u32)).toArray) ∧ Below w.heap.size w w' := by
  obtain ⟨i8, hi8, hz8⟩ := zi8
  obtain ⟨i64, hi64, hz64⟩ := zi64
  have C1 := fun w => hide (spread_any bs w hl hb)
  have H64 := hide (sizeB (T := 72) sb64 hl)
  have HD := hide hl
  have hsl := spreadL_len bs
  have HSW := hide (sizeW (T := 61) sw64 hsl)
  have HSZ : Hid (zw64.size = ((spreadL bs).map (Value.int .u32)).toArray.size) := hide (by simp [zw64, hsl])
  have HSB := hide (spreadL_bounds bs)
  have HSL := hide hsl
  have HK := hide hK
  have HKL := hide hk
  have hK1 : 1 < w.heap.size := (Array.getElem?_eq_some_iff.1 hK).1
  have HCP : Hid (comp ks [s0, s1, s2, s3, s4, s5, s6, s7] bs = addTo [s0, s1, s2, s3, s4, s5, s6, s7] (rnds [s0, s1, s2, s3, s4, s5, s6, s7] ks (spreadL bs) 64) 8) := hide rfl
  obtain ⟨R, HR⟩ : ∃ R, Hid (R = comp ks [s0, s1, s2, s3, s4, s5, s6, s7] bs) := ⟨_, rfl⟩
  rw [← unhide HR] at HCP ⊢
  generalize spreadL bs = ws at *
  obtain ⟨w1, hw1⟩ : ∃ w1, w.alloc (.cells (([s0, s1, s2, s3, s4, s5, s6, s7] : List Int).map (Value.int .u32)).toArray 63) = w1 := ⟨_, rfl⟩
  obtain ⟨w2, hw2⟩ : ∃ w2, w1.alloc (.cells (bs.map (Value.int .u8)).toArray 72) = w2 := ⟨_, rfl⟩
  have M1 : Hid (Made w w1 (([s0, s1, s2, s3, s4, s5, s6, s7] : List Int).map (Value.int .u32)).toArray 63) := hide (by rw [← hw1]; exact Made.mk')
  have M2 : Hid (Made w1 w2 (bs.map (Value.int .u8)).toArray 72) := hide (by rw [← hw2]; exact Made.mk')
  have z1 : w1.heap.size = w.heap.size + 1 := (unhide M1).size
  have z2 : w2.heap.size = w.heap.size + 1 + 1 := by rw [(unhide M2).size, z1]
  obtain ⟨w3, hw3⟩ : ∃ w3, w2.alloc (.cells #[.int .u32 0, .int .u32 0, .int .u32 0, .int .u32 0, .int .u32 0, .int .u32 0, .int .u32 0, .int .u32 0] 63) = w3 := ⟨_, rfl⟩
  have M3 : Hid (Made w2 w3 zw8 63) := hide (by rw [← hw3]; exact Made.mk')
  have z3 : w3.heap.size = w.heap.size + 1 + 1 + 1 := by rw [(unhide M3).size, z2]
  have A3 : Hid (w3.heap[w.heap.size + 1]? = some (.cells (bs.map (Value.int .u8)).toArray 72 (0, 0))) := hide (((unhide M3).below.block (w.heap.size + 1) (by omega)).trans (by rw [← z1]; exact (unhide M2).at'))
  have B3 : Hid (Below w.heap.size w w3) := hide (((unhide M1).below.trans ((unhide M2).below.mono (by omega))).trans ((unhide M3).below.mono (by omega)))
  clear hl hb hsl hk hK
  simp only [List.map_cons, List.map_nil] at hw1 M1 ⊢
  have tokA : True := trivial
  have tokB : True := trivial
  have tokC : True := trivial
  have tokD : True := trivial
  go_enter Tryd.func46, Tryd.ntmps46
  go_wp2_with (first
    | (have _t := tokB; refine wpList_load_arr rfl 72 (.tmp 3) rfl (w.heap.size + 1) (bs.map (Value.int .u8)).toArray 64 5 rfl (unhide A3) Tryd.underlying72 (unhide H64) ?_; clear tokB))
  refine (unhide (C1 _)).mono ?_
  rintro e w4 ⟨rfl, B4⟩
  have H4 := hide B4
  clear hw1 hw2 hw3 B4
  go_wp2_with (first
    | (have _t := tokC; refine wpList_new_arr rfl 61 rfl i64 zw64 hi64 hz64 ?_; intro w5 M5; clear tokC)
    | (have _t := tokD; refine wpList_put_arr rfl 61 (.tmp 5) (.tmp 21) rfl w4.heap.size zw64 (ws.map (Value.int .u32)).toArray rfl rfl (unhide M5).at' (unhide HSZ) (unhide HSW) (words_one _) ?_; intro w6 M6; clear tokD))
  have q4 : w.heap.size + 3 ≤ w4.heap.size := by have := (unhide H4).size; omega
  have B6 : Hid (Below w.heap.size w w6) := hide ((unhide M6).below w.heap.size w (((unhide B3).trans ((unhide H4).mono (by omega))).trans ((unhide M5).below.mono (by omega))) (by omega))
  have keep6 : ∀ g, g < w.heap.size + 3 → w6.heap[g]? = w3.heap[g]? := fun g hg => ((unhide M6).other g (by omega)).trans (((unhide M5).below.block g (by omega)).trans ((unhide H4).block g (by omega)))
  have S6 : Hid (Words w6 w.heap.size 63 [s0, s1, s2, s3, s4, s5, s6, s7]) := hide ((keep6 _ (by omega)).trans (((unhide M3).below.block _ (by omega)).trans (((unhide M2).below.block _ (by omega)).trans (unhide M1).at')))
  have Z6 : Hid (w6.heap[w.heap.size + 1 + 1]? = some (.cells zw8 63 (0, 0))) := hide ((keep6 _ (by omega)).trans (by rw [← z2]; exact (unhide M3).at'))
  have W6 : Hid (Words w6 w4.heap.size 61 ws) := hide (unhide M6).at'
  have K6 : Hid (Words w6 1 tK ks) := hide (((unhide B6).block 1 hK1).trans (unhide HK))
  have g4 : w.heap.size + 1 + 1 ≠ w4.heap.size := by omega
  have G4 := hide q4
  clear keep6 M1 M2 M3 M5 M6 H4 A3 B3 z1 z2 z3 HSZ q4
  have c0 := (unhide S6).cell 0 (by simp)
  have c1 := (unhide S6).cell 1 (by simp)
  have c2 := (unhide S6).cell 2 (by simp)
  have c3 := (unhide S6).cell 3 (by simp)
  have c4 := (unhide S6).cell 4 (by simp)
  have c5 := (unhide S6).cell 5 (by simp)
  have c6 := (unhide S6).cell 6 (by simp)
  have c7 := (unhide S6).cell 7 (by simp)
  simp only [List.getD_cons_zero, List.getD_cons_succ] at c0 c1 c2 c3 c4 c5 c6 c7
  generalize w4.heap.size = G at *
  go_quiet (fail)
  go_wp2_with fail
  go_quiet (fail)
  have tokE : True := trivial
  have hks := hide (sizeW (T := 61) sw64 (unhide HKL))
  go_wp2_with (first
    | (have _t := tokE; refine wpList_load_tbl rfl 61 (.global 1) rfl 1 (ks.map (Value.int .u32)).toArray 64 _ tK rfl (unhide K6) Tryd.underlying61 (unhide hks) ?_; clear tokE))
  clear c0 c1 c2 c3 c4 c5 c6 c7
  go_loopw [6, 7, 8, 9, 10, 11, 12, 13, 39] (fun va vb vc vd ve vf vg vh x wr => ∃ (t : Nat) (a b c d e f g h : Int), t ≤ 64 ∧ x = .int .i64 t ∧ va = .int .u32 a ∧ vb = .int .u32 b ∧ vc = .int .u32 c ∧ vd = .int .u32 d ∧ ve = .int .u32 e ∧ vf = .int .u32 f ∧ vg = .int .u32 g ∧ vh = .int .u32 h ∧ Hid (Words wr w.heap.size 63 [s0, s1, s2, s3, s4, s5, s6, s7]) ∧ Hid (wr.heap[w.heap.size + 1 + 1]? = some (.cells zw8 63 (0, 0))) ∧ Hid (Words wr G 61 ws) ∧ Hid (Below w.heap.size w wr) ∧ Hid (rnds [s0, s1, s2, s3, s4, s5, s6, s7] ks ws t = [a, b, c, d, e, f, g, h])) (fun _ _ _ _ _ _ _ _ x _ => 64 - (intOf x).toNat)
  case atStart => exact ⟨0, s0, s1, s2, s3, s4, s5, s6, s7, by omega, rfl, rfl, rfl, rfl, rfl, rfl, rfl, rfl, rfl, S6, Z6, W6, hide (below_drewH (unhide B6) _), hide rfl⟩
  case round =>
    clear S6 Z6 W6 B6 K6 HK
    obtain ⟨t, a, b, c, d, e, f, g, h, ht, rfl, rfl, rfl, rfl, rfl, rfl, rfl, rfl, rfl, HS, HZ, HW, HB, HRN⟩ := hrel
    by_cases hlt : t < 64
    · have hat := arr_at32 (ds := ks) (i := t) (by have := unhide HKL; omega)
      have rx := run_index_arr (P := Tryd.prog) wr 61 60 64 (ks.map (Value.int .u32)).toArray .i64 .u32 t _ Tryd.underlying61 Tryd.underlying60 s1w hlt hat
      have ct := (unhide HW).cell t (by have := unhide HSL; omega)
      have i0 : (t : Int) < 64 := by omega
      have i1 : (0 : Int) ≤ (t : Int) := by omega
      have HRN' : Hid (rnds [s0, s1, s2, s3, s4, s5, s6, s7] ks ws (t + 1) = rnd (ks.getD t 0) (ws.getD t 0) [a, b, c, d, e, f, g, h]) := hide (by show rnd _ _ (rnds _ ks ws t) = _; rw [unhide HRN])
      generalize ks.getD t 0 = k at *
      generalize ws.getD t 0 = wt at *
      clear hat
      go_wp2_with fail
      go_quiet ((go_at_call 58; exact Calls.quiet_of_same (turns_any _ _ _ _ _ (by decide) (by decide) (by decide) (by decide) (by decide) (by decide))))
      go_wp2_with (first | (go_at_call 58; refine (turns_any _ _ _ _ _ (by decide) (by decide) (by decide) (by decide) (by decide) (by decide)).mono ?_; rintro e v ⟨rfl, rfl⟩))
      go_roundw
      case rel => exact ⟨t + 1, _, _, _, _, _, _, _, _, by omega, by go_num, rfl, rfl, rfl, rfl, rfl, rfl, rfl, rfl, HS, HZ, HW, hide (below_drewH (unhide HB) _), HRN'⟩
      case measure => simp [intOf]; omega
    · rw [show ((t : Nat) : Int) = 64 from by omega]
      have ht64 : t = 64 := by omega
      subst ht64
      rw [unhide HRN] at HCP
      clear HRN HW
      go_wp2_with fail
      go_loopw [98] (fun x wr => ∃ i : Nat, i ≤ 8 ∧ x = .int .i64 i ∧ Hid (Words wr w.heap.size 63 (addTo [s0, s1, s2, s3, s4, s5, s6, s7] [a, b, c, d, e, f, g, h] i)) ∧ Hid (wr.heap[w.heap.size + 1 + 1]? = some (.cells zw8 63 (0, 0))) ∧ Hid (Below w.heap.size w wr)) (fun x _ => 8 - (intOf x).toNat)
      case atStart => exact ⟨0, by omega, rfl, HS, HZ, HB⟩
      case round =>
        clear HS HZ HB
        obtain ⟨i, hi', rfl, HS, HZ, HB⟩ := hrel
        by_cases hlt : i < 8
        · have hat := arr_at32 (ds := [a, b, c, d, e, f, g, h]) (i := i) (by simpa using hlt)
          have rx := run_index_arr (P := Tryd.prog) wr 63 60 8 (([a, b, c, d, e, f, g, h] : List Int).map (Value.int .u32)).toArray .i64 .u32 i _ Tryd.underlying63 Tryd.underlying60 s1w hlt hat
          simp only [List.map_cons, List.map_nil] at rx
          have hl8 : (addTo [s0, s1, s2, s3, s4, s5, s6, s7] [a, b, c, d, e, f, g, h] i).length = 8 := addTo_len _ _ _
          have ct := (unhide HS).cell i (by omega)
          have cf := (unhide HS).free i
          have i1 : (i : Int) < 8 := by omega
          have i2 : (0 : Int) ≤ (i : Int) := by omega
          have HS' := hide ((unhide HS).set i (((addTo [s0, s1, s2, s3, s4, s5, s6, s7] [a, b, c, d, e, f, g, h] i).getD i 0 + ([a, b, c, d, e, f, g, h] : List Int).getD i 0) % 4294967296))
          have HAd : Hid (addTo [s0, s1, s2, s3, s4, s5, s6, s7] [a, b, c, d, e, f, g, h] (i + 1) = (addTo [s0, s1, s2, s3, s4, s5, s6, s7] [a, b, c, d, e, f, g, h] i).set i (((addTo [s0, s1, s2, s3, s4, s5, s6, s7] [a, b, c, d, e, f, g, h] i).getD i 0 + ([a, b, c, d, e, f, g, h] : List Int).getD i 0) % 4294967296)) := hide rfl
          generalize ([a, b, c, d, e, f, g, h] : List Int).getD i 0 = n at *
          generalize (addTo [s0, s1, s2, s3, s4, s5, s6, s7] [a, b, c, d, e, f, g, h] i).getD i 0 = m at *
          have HZ' : Hid ((wr.setCell ⟨w.heap.size, i, none⟩ (.int .u32 ((m + n) % 4294967296))).heap[w.heap.size + 1 + 1]? = some (.cells zw8 63 (0, 0))) := hide (by rw [heap_setCell_other _ _ _ _ (by simp; omega)]; exact unhide HZ)
          have HB' := hide ((unhide HB).setCell (p := ⟨w.heap.size, i, none⟩) (Nat.le_refl _) (.int .u32 ((m + n) % 4294967296)))
          clear hat hl8
          go_wp2_with fail
          go_roundw
          case rel => exact ⟨i + 1, by omega, by go_num, hide (by rw [unhide HAd]; exact unhide HS'), HZ', HB'⟩
          case measure => simp [intOf]; omega
        · have hi8' : i = 8 := by omega
          subst hi8'
          rw [← unhide HCP] at HS
          have hR8 : R.length = 8 := by rw [unhide HR, comp_len]; rfl
          have hsp := hide (sizeW (T := 63) sw8 hR8)
          have HR8 := hide hR8
          clear hR8 HR HCP
          have tokF : True := trivial
          have tokG : True := trivial
          go_wp2_with (first
            | (have _t := tokF; refine wpList_load_arr rfl 63 (.tmp 2) rfl w.heap.size (R.map (Value.int .u32)).toArray 8 _ rfl (unhide HS) Tryd.underlying63 (unhide hsp) ?_; clear tokF)
            | (have _t := tokG; refine wpList_put_arr rfl 63 (.tmp 4) (.tmp 109) rfl (w.heap.size + 1 + 1) zw8 (R.map (Value.int .u32)).toArray rfl rfl (unhide HZ) (by simp [zw8, unhide HR8]) (unhide hsp) (words_one _) ?_; intro w9 H9; clear tokG))
          exact bodyPost_ret (ret_cell (p := 4) (T := 63) rfl _ _ (w.heap.size + 1 + 1) (R.map (Value.int .u32)).toArray 8 _ rfl (unhide H9).at' Tryd.underlying63 (unhide hsp)) rfl ⟨rfl, (unhide H9).below w.heap.size w (unhide HB) (by omega)⟩

theorem takeIn_any {tK : TypeId} (st bs ks : List Int) (w : World) (hst : st.length = 8) (hl : bs.length = 64) (hb : ∀ c ∈ bs, 0 ≤ c ∧ c ≤ 255) (hk : ks.length = 64) (hK : Words w 1 tK ks) :
    Calls Tryd.prog 46 #[.agg (st.map (Value.int .u32)).toArray, .agg (bs.map (Value.int .u8)).toArray] w fun e w' => e = .returned (.agg ((comp ks st bs).map (Value.int .u32)).toArray) ∧ Below w.heap.size w w' := by
  match st, hst with
  | [s0, s1, s2, s3, s4, s5, s6, s7], _ => exact take8 s0 s1 s2 s3 s4 s5 s6 s7 bs ks w hl hb hk hK
end Go.Proofs.YtjgjebohbgbimaaDoor
