/-
  The walk of hash.spread: the sixty-four words of a block; conditions: a block of 64 bytes.
-/
import Derived.Test.YtgkmdjmigehmeaaGreatDoorR24
import Derived.Deep.RegionHeld3
namespace Go.Proofs.YtgkmdjmigehmeaaGreatDoor
set_option linter.unusedVariables false
set_option linter.unusedSimpArgs false
set_option maxRecDepth 100000
set_option maxHeartbeats 16000000
open Go.RowKit
def add32 (a b : Int) : Int := IntKind.u32.wrap (a + b)
theorem add32_bounds (a b : Int) : 0 ≤ add32 a b ∧ add32 a b ≤ 4294967295 := by
 unfold add32; rw [IntKind.wrap_u32']; omega
def oneMore (x c : Int) : Int := bits .or .u32 (x * 256 % 4294967296) c
def fill (bs : List Int) : Nat → List Int
 | 0 => List.replicate 64 0
 | i + 1 => (fill bs i).set (i / 4) (oneMore ((fill bs i).getD (i / 4) 0) (bs.getD i 0))
def sgm0 (x : Int) : Int := bits .xor .u32 (bits .xor .u32 (rotR x 7) (rotR x 18)) (x / 8)
def sgm1 (x : Int) : Int := bits .xor .u32 (bits .xor .u32 (rotR x 17) (rotR x 19)) (x / 1024)
def later (ws : List Int) (t : Nat) : Int :=
 add32 (add32 (add32 (ws.getD (t - 16) 0) (sgm0 (ws.getD (t - 15) 0))) (ws.getD (t - 7) 0)) (sgm1 (ws.getD (t - 2) 0))
def more (ws : List Int) : Nat → List Int
 | 0 => ws
 | k + 1 => (more ws k).set (16 + k) (later (more ws k) (16 + k))
def spreadL (bs : List Int) : List Int := more (fill bs 64) 48
theorem fill_len (bs : List Int) (i : Nat) : (fill bs i).length = 64 := by
 induction i with
 | zero => simp [fill]
 | succ i ih => simp [fill, ih]
theorem fill_bounds (bs : List Int) (i : Nat) : ∀ y ∈ fill bs i, 0 ≤ y ∧ y ≤ 4294967295 := by
 induction i with
 | zero => intro y hy; simp [fill] at hy; omega
 | succ i ih => exact mem_set' _ _ _ (bits_bounds _ _ _) ih
theorem more_len (ws : List Int) (k : Nat) : (more ws k).length = ws.length := by
 induction k with
 | zero => rfl
 | succ k ih => simp [more, ih]
theorem more_bounds (ws : List Int) (h : ∀ y ∈ ws, 0 ≤ y ∧ y ≤ 4294967295) (k : Nat) : ∀ y ∈ more ws k, 0 ≤ y ∧ y ≤ 4294967295 := by
 induction k with
 | zero => exact h
 | succ k ih => exact mem_set' _ _ _ (add32_bounds _ _) ih
theorem spreadL_len (bs : List Int) : (spreadL bs).length = 64 := by unfold spreadL; rw [more_len, fill_len]
theorem spreadL_bounds (bs : List Int) : ∀ y ∈ spreadL bs, 0 ≤ y ∧ y ≤ 4294967295 := more_bounds _ (fill_bounds bs 64) 48
theorem below_drewH {B : Nat} {a w : World} (h : Below B a w) (q : Nat) : Below B a (w.drewN q) := ⟨h.os, h.tape, h.output, h.size, h.block⟩
theorem cell_same {w : World} {g j k : Nat} (x : Value) (h : j ≠ k) : ((w.setCell ⟨g, k, none⟩ x)).cell? ⟨g, j, none⟩ = w.cell? ⟨g, j, none⟩ := by
 exact World.cell?_setCell_other w _ _ _ (fun e => h (by cases e; rfl))
theorem spread_any (bs : List Int) (w : World) (hl : bs.length = 64) (hb : ∀ c ∈ bs, 0 ≤ c ∧ c ≤ 255) :
  Calls Tryz.prog 182 #[.agg (bs.map (Value.int .u8)).toArray] w fun e w' => e = .returned (.agg ((spreadL bs).map (Value.int .u32)).toArray) ∧ Below w.heap.size w w' := by
 obtain ⟨i0, hi, hz⟩ := zi64
 have H64 := hide (sizeB (T := 149) sb64 hl)
 have HD := hide hl
 have HBD := hide hb
 have HA := hide (heap_alloc_new w (.cells (bs.map (Value.int .u8)).toArray 149))
 have HBA := hide ((Below.refl w.heap.size w).alloc (Nat.le_refl _) (.cells (bs.map (Value.int .u8)).toArray 149))
 have hsz : (w.alloc (.cells (bs.map (Value.int .u8)).toArray 149)).heap.size = w.heap.size + 1 := by simp
 clear hl hb
 have tokA : True := trivial
 have tokB : True := trivial
 have tokC : True := trivial
 go_enter Tryz.func182, Tryz.ntmps182
 go_wp2_with (first
  | (have _t := tokA; refine wpList_new_arr rfl 111 rfl i0 zw64 hi hz ?_; intro w2 H2; clear tokA; have s2 : w2.heap.size = w.heap.size + 1 + 1 := (by rw [(uh H2).size, hsz]))
  | (have _t := tokB; refine wpList_new_arr rfl 111 rfl i0 zw64 hi hz ?_; intro w3 H3; clear tokB; have s3 : w3.heap.size = w.heap.size + 3 := (by rw [(uh H3).size, s2]); have hA1 := hide (((uh H3).below.block w.heap.size (by omega)).trans (((uh H2).below.block w.heap.size (by omega)).trans (uh HA))))
  | (have _t := tokC; refine wpList_load_arr rfl 149 (.tmp 1) rfl w.heap.size (bs.map (Value.int .u8)).toArray 64 5 rfl (uh hA1) Tryz.underlying149 (uh H64) ?_; clear tokC))
 have hR3 := (uh H3).at'
 rw [s2] at hR3
 have hR2 := (uh H2).at'
 rw [hsz] at hR2
 have hR2 := ((uh H3).below.block (w.heap.size + 1) (by omega)).trans hR2
 have HB3 := hide (((uh HBA).trans ((uh H2).below.mono (by omega))).trans ((uh H3).below.mono (by omega)))
 have HR3 := hide hR3
 have HR2 := hide hR2
 clear hR3 hR2 H2 H3 hA1 HA HBA
 clear hsz s2
 go_loopw [10] (fun x wr => ∃ i : Nat, i ≤ 64 ∧ x = .int .i64 i ∧ Hid (Words wr (w.heap.size + 1 + 1) 111 (fill bs i)) ∧ Hid (wr.heap[w.heap.size + 1]? = some (.cells zw64 111 (0, 0))) ∧ Hid (Below w.heap.size w wr)) (fun x _ => 64 - (intOf x).toNat)
 case atStart => exact ⟨0, by omega, rfl, HR3, HR2, HB3⟩
 case round =>
  clear HR3 HR2 HB3
  obtain ⟨i, hi64, rfl, HW, HZ, HBel⟩ := hrel
  by_cases hlt : i < 64
  ·have hat := arr_at8 (ds := bs) (i := i) (by have := uh HD; omega)
   have rx := run_index_arr (P := Tryz.prog) wr 149 5 64 (bs.map (Value.int .u8)).toArray .i64 .u8 i _ Tryz.underlying149 Tryz.underlying5 s1b hlt hat
   have hc := getD_bounds (uh HBD) (by omega) i
   have ct := (uh HW).cell (i / 4) (by rw [fill_len]; omega)
   have cf := (uh HW).free (i / 4)
   have hx := getD_bounds (fill_bounds bs i) (by omega) (i / 4)
   have HS := hide ((uh HW).set (i / 4) (oneMore ((fill bs i).getD (i / 4) 0) (bs.getD i 0)))
   have q1 : (i : Int) / 4 = ((i / 4 : Nat) : Int) := by omega
   have q2 : (i : Int).tdiv 4 = ((i / 4 : Nat) : Int) := by rw [Int.tdiv_eq_ediv_of_nonneg (by omega)]; exact q1
   have q3 : ((i / 4 : Nat) : Int) < 64 := by omega
   have q4 : (0 : Int) ≤ ((i / 4 : Nat) : Int) := by omega
   have HFill : Hid (fill bs (i + 1) = (fill bs i).set (i / 4) (oneMore ((fill bs i).getD (i / 4) 0) (bs.getD i 0))) := hide rfl
   unfold oneMore at HS HFill
   obtain ⟨F1, HF1⟩ : ∃ F1, Hid (fill bs (i + 1) = F1) := ⟨_, rfl⟩
   rw [uh HF1] at HFill
   generalize bs.getD i 0 = c at *
   generalize (fill bs i).getD (i / 4) 0 = x at *
   generalize i / 4 = j at *
   clear hat
   have HZ' : Hid ((wr.setCell ⟨w.heap.size + 1 + 1, j, none⟩ (.int .u32 (bits .or .u32 (x * 256 % 4294967296) c))).heap[w.heap.size + 1]? = some (.cells zw64 111 (0, 0))) := hide (by rw [heap_setCell_other _ _ _ _ (by simp)]; exact uh HZ)
   have HB' := hide ((uh HBel).setCell (p := ⟨w.heap.size + 1 + 1, j, none⟩) (by simp; omega) (.int .u32 (bits .or .u32 (x * 256 % 4294967296) c)))
   go_wp2_with fail
   go_roundw
   case rel => exact ⟨i + 1, by omega, by go_num, hide (by rw [show fill bs (i + 1) = F1 from uh HF1, uh HFill]; exact uh HS), HZ', HB'⟩
   case measure => simp [intOf]; omega
  ·have hi' : i = 64 := by omega
   rw [show ((i : Nat) : Int) = 64 from by omega]
   subst hi'
   go_wp2_with fail
   have hf64 := fill_len bs 64
   have hfb := fill_bounds bs 64
   have HSP : Hid (spreadL bs = more (fill bs 64) 48) := hide rfl
   generalize fill bs 64 = ws0 at *
   have HF64 := hide hf64
   have HFB := hide hfb
   clear hf64 hfb
   go_loopw [6] (fun x wr => ∃ k : Nat, k ≤ 48 ∧ x = .int .i64 ((16 + k : Nat) : Int) ∧ Hid (Words wr (w.heap.size + 1 + 1) 111 (more ws0 k)) ∧ Hid (wr.heap[w.heap.size + 1]? = some (.cells zw64 111 (0, 0))) ∧ Hid (Below w.heap.size w wr)) (fun x _ => 64 - (intOf x).toNat)
   case atStart => exact ⟨0, by omega, rfl, HW, HZ, HBel⟩
   case round =>
    clear HW HZ HBel
    obtain ⟨k, hk48, rfl, HW, HZ, HBel⟩ := hrel
    have hl := more_len ws0 k
    rw [uh HF64] at hl
    by_cases hlt : k < 48
    ·obtain ⟨t, ht⟩ : ∃ t : Nat, 16 + k = t := ⟨_, rfl⟩
     have hbd := more_bounds ws0 (uh HFB) k
     have hmore : more ws0 (k + 1) = (more ws0 k).set t (later (more ws0 k) t) := by rw [← ht]; rfl
     unfold later at hmore
     obtain ⟨a16, h16'⟩ : ∃ a : Nat, t - 16 = a := ⟨_, rfl⟩
     obtain ⟨a15, h15'⟩ : ∃ a : Nat, t - 15 = a := ⟨_, rfl⟩
     obtain ⟨a7, h7'⟩ : ∃ a : Nat, t - 7 = a := ⟨_, rfl⟩
     obtain ⟨a2, h2'⟩ : ∃ a : Nat, t - 2 = a := ⟨_, rfl⟩
     rw [h16', h15', h7', h2'] at hmore
     have c16 := (uh HW).cell a16 (by omega)
     have c15 := (uh HW).cell a15 (by omega)
     have c7 := (uh HW).cell a7 (by omega)
     have c2 := (uh HW).cell a2 (by omega)
     have ct := (uh HW).cell t (by omega)
     have cf := (uh HW).free t
     have x16b := getD_bounds hbd (by omega) a16
     have x15b := getD_bounds hbd (by omega) a15
     have x7b := getD_bounds hbd (by omega) a7
     have x2b := getD_bounds hbd (by omega) a2
     rw [ht]
     generalize hM : more ws0 k = M at *
     generalize M.getD a16 0 = x16 at *
     generalize M.getD a15 0 = x15 at *
     generalize M.getD a7 0 = x7 at *
     generalize M.getD a2 0 = x2 at *
     generalize M.getD t 0 = xt at *
     have HMM := hide hmore
     have n16 : ((t : Int) - 16).toNat = a16 := by omega
     have n15 : ((t : Int) - 15).toNat = a15 := by omega
     have n7 : ((t : Int) - 7).toNat = a7 := by omega
     have n2 : ((t : Int) - 2).toNat = a2 := by omega
     have p16 : IntKind.i64.wrap ((t : Int) - 16) = (t : Int) - 16 := by rw [IntKind.wrap_i64]; omega
     have p7 : IntKind.i64.wrap ((t : Int) - 7) = (t : Int) - 7 := by rw [IntKind.wrap_i64]; omega
     have p15 : IntKind.i64.wrap ((t : Int) - 15) = (t : Int) - 15 := by rw [IntKind.wrap_i64]; omega
     have p2 : IntKind.i64.wrap ((t : Int) - 2) = (t : Int) - 2 := by rw [IntKind.wrap_i64]; omega
     have o16 : (0 : Int) ≤ (t : Int) - 16 := by omega
     have o7 : (0 : Int) ≤ (t : Int) - 7 := by omega
     have o15 : (0 : Int) ≤ (t : Int) - 15 := by omega
     have o2 : (0 : Int) ≤ (t : Int) - 2 := by omega
     have w16 : (16 : Int) ≤ (t : Int) := by omega
     have w7 : (7 : Int) ≤ (t : Int) := by omega
     have w15 : (15 : Int) ≤ (t : Int) := by omega
     have w2' : (2 : Int) ≤ (t : Int) := by omega
     have u16 : (t : Int) - 16 < 64 := by omega
     have u7 : (t : Int) - 7 < 64 := by omega
     have u15 : (t : Int) - 15 < 64 := by omega
     have u2 : (t : Int) - 2 < 64 := by omega
     have u71 : (t : Int) < 71 := by omega
     have u80 : (t : Int) < 80 := by omega
     have u79 : (t : Int) < 79 := by omega
     have u66 : (t : Int) < 66 := by omega
     have i0' : (t : Int) < 64 := by omega
     have i00 : (0 : Int) ≤ (t : Int) := by omega
     have e16 : a16 ≠ t := by omega
     have e7 : a7 ≠ t := by omega
     have HKT := hide (And.intro ht hM)
     have HWW := hide HW
     clear hl hbd hmore h16' h15' h7' h2' hM ht HW
     go_wp2_with fail
     go_quiet (fail)
     go_wp2_with fail
     go_region_held3 (fun w' => w'.cell? ⟨w.heap.size + 1 + 1, a16, none⟩ = some (.int .u32 x16) ∧ w'.cell? ⟨w.heap.size + 1 + 1, a7, none⟩ = some (.int .u32 x7))
      (first | exact ⟨c16, c7⟩ | exact ⟨(cell_same _ e16).trans c16, (cell_same _ e7).trans c7⟩ | (simp [*]; done))
      ((go_at_call 193; refine (rightH_any _ _ _ (by decide) (by decide)).mono ?_; rintro e v ⟨rfl, rfl⟩))
     go_wp2_with fail
     go_roundw
     case rel =>
      refine ⟨k + 1, by omega, by rw [← (uh HKT).1]; go_num, hide ?_, hide ?_, hide ?_⟩
      ·rw [uh HMM]
       exact ((uh (uh HWW)).drewN _).set t _
      ·rw [heap_setCell_other _ _ _ _ (by simp)]; exact uh HZ
      ·exact Below.setCell (w := World.drewN wr _) (p := ⟨w.heap.size + 1 + 1, t, none⟩) (below_drewH (uh HBel) _) (by simp; omega) _
     case measure => simp [intOf]; omega
    ·have hk' : k = 48 := by omega
     subst hk'
     have hsp := hide (sizeW (T := 111) sw64 hl)
     have HL := hide hl
     clear hl
     have tokD : True := trivial
     have tokE : True := trivial
     go_wp2_with (first
      | (have _t := tokD; refine wpList_load_arr rfl 111 (.tmp 3) rfl (w.heap.size + 1 + 1) ((more ws0 48).map (Value.int .u32)).toArray 64 _ rfl (uh HW) Tryz.underlying111 (uh hsp) ?_; clear tokD)
      | (have _t := tokE; refine wpList_put_arr rfl 111 (.tmp 2) (.tmp 67) rfl (w.heap.size + 1) zw64 ((more ws0 48).map (Value.int .u32)).toArray rfl rfl (uh HZ) (by simp [zw64, uh HL]) (uh hsp) (words_one _) ?_; intro w9 H9; clear tokE))
     refine bodyPost_ret (ret_cell (p := 2) (T := 111) rfl _ _ (w.heap.size + 1) ((more ws0 48).map (Value.int .u32)).toArray 64 _ rfl (uh H9).at' Tryz.underlying111 (uh hsp)) rfl ⟨?_, (uh H9).below w.heap.size w (uh HBel) (by omega)⟩
     rw [uh HSP]
def chE (e f g : Int) : Int := bits .xor .u32 (bits .and .u32 e f) (bits .and .u32 (bits .xor .u32 (if IntKind.u32.signed = true then -1 else IntKind.u32.max) e) g)
def majA (a b c : Int) : Int := bits .xor .u32 (bits .xor .u32 (bits .and .u32 a b) (bits .and .u32 a c)) (bits .and .u32 b c)
def tOne (e f g h k wt : Int) : Int := (h + turns3 e 6 11 25 + chE e f g + k + wt) % 4294967296
def tTwo (a b c : Int) : Int := (turns3 a 2 13 22 + majA a b c) % 4294967296
def rnd (k wt : Int) : List Int → List Int
 | [a, b, c, d, e, f, g, h] => [(tOne e f g h k wt + tTwo a b c) % 4294967296, a, b, c, (d + tOne e f g h k wt) % 4294967296, e, f, g]
 | l => l
def rnds (st ks ws : List Int) : Nat → List Int
 | 0 => st
 | t + 1 => rnd (ks.getD t 0) (ws.getD t 0) (rnds st ks ws t)
def addTo (st l : List Int) : Nat → List Int
 | 0 => st
 | i + 1 => (addTo st l i).set i (((addTo st l i).getD i 0 + l.getD i 0) % 4294967296)
def comp (ks st bs : List Int) : List Int := addTo st (rnds st ks (spreadL bs) 64) 8
theorem addTo_len (st l : List Int) (i : Nat) : (addTo st l i).length = st.length := by
 induction i with
 | zero => rfl
 | succ i ih => simp [addTo, ih]
theorem comp_len (ks st bs : List Int) : (comp ks st bs).length = st.length := addTo_len _ _ _
theorem addTo_bounds (st l : List Int) (h : ∀ y ∈ st, 0 ≤ y ∧ y ≤ 4294967295) (i : Nat) : ∀ y ∈ addTo st l i, 0 ≤ y ∧ y ≤ 4294967295 := by
 induction i with
 | zero => exact h
 | succ i ih => exact mem_set' _ _ _ (by omega) ih
theorem comp_bounds (ks st bs : List Int) (h : ∀ y ∈ st, 0 ≤ y ∧ y ≤ 4294967295) : ∀ y ∈ comp ks st bs, 0 ≤ y ∧ y ≤ 4294967295 := addTo_bounds _ _ h _
theorem take8 {tK : TypeId} (s0 s1 s2 s3 s4 s5 s6 s7 : Int) (bs ks : List Int) (w : World) (hl : bs.length = 64) (hb : ∀ c ∈ bs, 0 ≤ c ∧ c ≤ 255) (hk : ks.length = 64) (hK : Words w 2 tK ks) :
  Calls Tryz.prog 161 #[.agg (([s0, s1, s2, s3, s4, s5, s6, s7] : List Int).map (Value.int .u32)).toArray, .agg (bs.map (Value.int .u8)).toArray] w fun e w' => e = .returned (.agg ((comp ks [s0, s1, s2, s3, s4, s5, s6, s7] bs).map (Value.int .u32)).toArray) ∧ Below w.heap.size w w' := by
 obtain ⟨i8, hi8, hz8⟩ := zi8
 obtain ⟨i64, hi64, hz64⟩ := zi64
 have C1 := fun w => hide (spread_any bs w hl hb)
 have H64 := hide (sizeB (T := 149) sb64 hl)
 have HD := hide hl
 have hsl := spreadL_len bs
 have HSW := hide (sizeW (T := 111) sw64 hsl)
 have HSZ : Hid (zw64.size = ((spreadL bs).map (Value.int .u32)).toArray.size) := hide (by simp [zw64, hsl])
 have HSB := hide (spreadL_bounds bs)
 have HSL := hide hsl
 have HK := hide hK
 have HKL := hide hk
 have hK1 : 2 < w.heap.size := (Array.getElem?_eq_some_iff.1 hK).1
 have HCP : Hid (comp ks [s0, s1, s2, s3, s4, s5, s6, s7] bs = addTo [s0, s1, s2, s3, s4, s5, s6, s7] (rnds [s0, s1, s2, s3, s4, s5, s6, s7] ks (spreadL bs) 64) 8) := hide rfl
 obtain ⟨R, HR⟩ : ∃ R, Hid (R = comp ks [s0, s1, s2, s3, s4, s5, s6, s7] bs) := ⟨_, rfl⟩
 rw [← uh HR] at HCP ⊢
 generalize spreadL bs = ws at *
 obtain ⟨w1, hw1⟩ : ∃ w1, w.alloc (.cells (([s0, s1, s2, s3, s4, s5, s6, s7] : List Int).map (Value.int .u32)).toArray 113) = w1 := ⟨_, rfl⟩
 obtain ⟨w2, hw2⟩ : ∃ w2, w1.alloc (.cells (bs.map (Value.int .u8)).toArray 149) = w2 := ⟨_, rfl⟩
 have M1 : Hid (Made w w1 (([s0, s1, s2, s3, s4, s5, s6, s7] : List Int).map (Value.int .u32)).toArray 113) := hide (by rw [← hw1]; exact Made.mk')
 have M2 : Hid (Made w1 w2 (bs.map (Value.int .u8)).toArray 149) := hide (by rw [← hw2]; exact Made.mk')
 have z1 : w1.heap.size = w.heap.size + 1 := (uh M1).size
 have z2 : w2.heap.size = w.heap.size + 1 + 1 := by rw [(uh M2).size, z1]
 obtain ⟨w3, hw3⟩ : ∃ w3, w2.alloc (.cells #[.int .u32 0, .int .u32 0, .int .u32 0, .int .u32 0, .int .u32 0, .int .u32 0, .int .u32 0, .int .u32 0] 113) = w3 := ⟨_, rfl⟩
 have M3 : Hid (Made w2 w3 zw8 113) := hide (by rw [← hw3]; exact Made.mk')
 have z3 : w3.heap.size = w.heap.size + 1 + 1 + 1 := by rw [(uh M3).size, z2]
 have A3 : Hid (w3.heap[w.heap.size + 1]? = some (.cells (bs.map (Value.int .u8)).toArray 149 (0, 0))) := hide (((uh M3).below.block (w.heap.size + 1) (by omega)).trans (by rw [← z1]; exact (uh M2).at'))
 have B3 : Hid (Below w.heap.size w w3) := hide (((uh M1).below.trans ((uh M2).below.mono (by omega))).trans ((uh M3).below.mono (by omega)))
 clear hl hb hsl hk hK
 simp only [List.map_cons, List.map_nil] at hw1 M1 ⊢
 have tokA : True := trivial
 have tokB : True := trivial
 have tokC : True := trivial
 have tokD : True := trivial
 go_enter Tryz.func161, Tryz.ntmps161
 go_wp2_with (first
  | (have _t := tokB; refine wpList_load_arr rfl 149 (.tmp 3) rfl (w.heap.size + 1) (bs.map (Value.int .u8)).toArray 64 5 rfl (uh A3) Tryz.underlying149 (uh H64) ?_; clear tokB))
 refine (uh (C1 _)).mono ?_
 rintro e w4 ⟨rfl, B4⟩
 have H4 := hide B4
 clear hw1 hw2 hw3 B4
 go_wp2_with (first
  | (have _t := tokC; refine wpList_new_arr rfl 111 rfl i64 zw64 hi64 hz64 ?_; intro w5 M5; clear tokC)
  | (have _t := tokD; refine wpList_put_arr rfl 111 (.tmp 5) (.tmp 21) rfl w4.heap.size zw64 (ws.map (Value.int .u32)).toArray rfl rfl (uh M5).at' (uh HSZ) (uh HSW) (words_one _) ?_; intro w6 M6; clear tokD))
 have q4 : w.heap.size + 3 ≤ w4.heap.size := by have := (uh H4).size; omega
 have B6 : Hid (Below w.heap.size w w6) := hide ((uh M6).below w.heap.size w (((uh B3).trans ((uh H4).mono (by omega))).trans ((uh M5).below.mono (by omega))) (by omega))
 have keep6 : ∀ g, g < w.heap.size + 3 → w6.heap[g]? = w3.heap[g]? := fun g hg => ((uh M6).other g (by omega)).trans (((uh M5).below.block g (by omega)).trans ((uh H4).block g (by omega)))
 have S6 : Hid (Words w6 w.heap.size 113 [s0, s1, s2, s3, s4, s5, s6, s7]) := hide ((keep6 _ (by omega)).trans (((uh M3).below.block _ (by omega)).trans (((uh M2).below.block _ (by omega)).trans (uh M1).at')))
 have Z6 : Hid (w6.heap[w.heap.size + 1 + 1]? = some (.cells zw8 113 (0, 0))) := hide ((keep6 _ (by omega)).trans (by rw [← z2]; exact (uh M3).at'))
 have W6 : Hid (Words w6 w4.heap.size 111 ws) := hide (uh M6).at'
 have K6 : Hid (Words w6 2 tK ks) := hide (((uh B6).block 2 hK1).trans (uh HK))
 have g4 : w.heap.size + 1 + 1 ≠ w4.heap.size := by omega
 have G4 := hide q4
 clear keep6 M1 M2 M3 M5 M6 H4 A3 B3 z1 z2 z3 HSZ q4
 have c0 := (uh S6).cell 0 (by simp)
 have c1 := (uh S6).cell 1 (by simp)
 have c2 := (uh S6).cell 2 (by simp)
 have c3 := (uh S6).cell 3 (by simp)
 have c4 := (uh S6).cell 4 (by simp)
 have c5 := (uh S6).cell 5 (by simp)
 have c6 := (uh S6).cell 6 (by simp)
 have c7 := (uh S6).cell 7 (by simp)
 simp only [List.getD_cons_zero, List.getD_cons_succ] at c0 c1 c2 c3 c4 c5 c6 c7
 generalize w4.heap.size = G at *
 go_quiet (fail)
 go_wp2_with fail
 go_quiet (fail)
 have tokE : True := trivial
 have hks := hide (sizeW (T := 111) sw64 (uh HKL))
 go_wp2_with (first
  | (have _t := tokE; refine wpList_load_tbl rfl 111 (.global 2) rfl 2 (ks.map (Value.int .u32)).toArray 64 _ tK rfl (uh K6) Tryz.underlying111 (uh hks) ?_; clear tokE))
 clear c0 c1 c2 c3 c4 c5 c6 c7
 go_loopw [6, 7, 8, 9, 10, 11, 12, 13, 39] (fun va vb vc vd ve vf vg vh x wr => ∃ (t : Nat) (a b c d e f g h : Int), t ≤ 64 ∧ x = .int .i64 t ∧ va = .int .u32 a ∧ vb = .int .u32 b ∧ vc = .int .u32 c ∧ vd = .int .u32 d ∧ ve = .int .u32 e ∧ vf = .int .u32 f ∧ vg = .int .u32 g ∧ vh = .int .u32 h ∧ Hid (Words wr w.heap.size 113 [s0, s1, s2, s3, s4, s5, s6, s7]) ∧ Hid (wr.heap[w.heap.size + 1 + 1]? = some (.cells zw8 113 (0, 0))) ∧ Hid (Words wr G 111 ws) ∧ Hid (Below w.heap.size w wr) ∧ Hid (rnds [s0, s1, s2, s3, s4, s5, s6, s7] ks ws t = [a, b, c, d, e, f, g, h])) (fun _ _ _ _ _ _ _ _ x _ => 64 - (intOf x).toNat)
 case atStart => exact ⟨0, s0, s1, s2, s3, s4, s5, s6, s7, by omega, rfl, rfl, rfl, rfl, rfl, rfl, rfl, rfl, rfl, S6, Z6, W6, hide (below_drewH (uh B6) _), hide rfl⟩
 case round =>
  clear S6 Z6 W6 B6 K6 HK
  obtain ⟨t, a, b, c, d, e, f, g, h, ht, rfl, rfl, rfl, rfl, rfl, rfl, rfl, rfl, rfl, HS, HZ, HW, HB, HRN⟩ := hrel
  by_cases hlt : t < 64
  ·have hat := arr_at32 (ds := ks) (i := t) (by have := uh HKL; omega)
   have rx := run_index_arr (P := Tryz.prog) wr 111 110 64 (ks.map (Value.int .u32)).toArray .i64 .u32 t _ Tryz.underlying111 Tryz.underlying110 s1w hlt hat
   have ct := (uh HW).cell t (by have := uh HSL; omega)
   have i0 : (t : Int) < 64 := by omega
   have i1 : (0 : Int) ≤ (t : Int) := by omega
   have HRN' : Hid (rnds [s0, s1, s2, s3, s4, s5, s6, s7] ks ws (t + 1) = rnd (ks.getD t 0) (ws.getD t 0) [a, b, c, d, e, f, g, h]) := hide (by show rnd _ _ (rnds _ ks ws t) = _; rw [uh HRN])
   generalize ks.getD t 0 = k at *
   generalize ws.getD t 0 = wt at *
   clear hat
   go_wp2_with fail
   go_quiet ((go_at_call 183; exact Calls.quiet_of_same (turns_any _ _ _ _ _ (by decide) (by decide) (by decide) (by decide) (by decide) (by decide))))
   go_wp2_with (first | (go_at_call 183; refine (turns_any _ _ _ _ _ (by decide) (by decide) (by decide) (by decide) (by decide) (by decide)).mono ?_; rintro e v ⟨rfl, rfl⟩))
   go_roundw
   case rel => exact ⟨t + 1, _, _, _, _, _, _, _, _, by omega, by go_num, rfl, rfl, rfl, rfl, rfl, rfl, rfl, rfl, HS, HZ, HW, hide (below_drewH (uh HB) _), HRN'⟩
   case measure => simp [intOf]; omega
  ·rw [show ((t : Nat) : Int) = 64 from by omega]
   have ht64 : t = 64 := by omega
   subst ht64
   rw [uh HRN] at HCP
   clear HRN HW
   go_wp2_with fail
   go_loopw [98] (fun x wr => ∃ i : Nat, i ≤ 8 ∧ x = .int .i64 i ∧ Hid (Words wr w.heap.size 113 (addTo [s0, s1, s2, s3, s4, s5, s6, s7] [a, b, c, d, e, f, g, h] i)) ∧ Hid (wr.heap[w.heap.size + 1 + 1]? = some (.cells zw8 113 (0, 0))) ∧ Hid (Below w.heap.size w wr)) (fun x _ => 8 - (intOf x).toNat)
   case atStart => exact ⟨0, by omega, rfl, HS, HZ, HB⟩
   case round =>
    clear HS HZ HB
    obtain ⟨i, hi', rfl, HS, HZ, HB⟩ := hrel
    by_cases hlt : i < 8
    ·have hat := arr_at32 (ds := [a, b, c, d, e, f, g, h]) (i := i) (by simpa using hlt)
     have rx := run_index_arr (P := Tryz.prog) wr 113 110 8 (([a, b, c, d, e, f, g, h] : List Int).map (Value.int .u32)).toArray .i64 .u32 i _ Tryz.underlying113 Tryz.underlying110 s1w hlt hat
     simp only [List.map_cons, List.map_nil] at rx
     have hl8 : (addTo [s0, s1, s2, s3, s4, s5, s6, s7] [a, b, c, d, e, f, g, h] i).length = 8 := addTo_len _ _ _
     have ct := (uh HS).cell i (by omega)
     have cf := (uh HS).free i
     have i1 : (i : Int) < 8 := by omega
     have i2 : (0 : Int) ≤ (i : Int) := by omega
     have HS' := hide ((uh HS).set i (((addTo [s0, s1, s2, s3, s4, s5, s6, s7] [a, b, c, d, e, f, g, h] i).getD i 0 + ([a, b, c, d, e, f, g, h] : List Int).getD i 0) % 4294967296))
     have HAd : Hid (addTo [s0, s1, s2, s3, s4, s5, s6, s7] [a, b, c, d, e, f, g, h] (i + 1) = (addTo [s0, s1, s2, s3, s4, s5, s6, s7] [a, b, c, d, e, f, g, h] i).set i (((addTo [s0, s1, s2, s3, s4, s5, s6, s7] [a, b, c, d, e, f, g, h] i).getD i 0 + ([a, b, c, d, e, f, g, h] : List Int).getD i 0) % 4294967296)) := hide rfl
     generalize ([a, b, c, d, e, f, g, h] : List Int).getD i 0 = n at *
     generalize (addTo [s0, s1, s2, s3, s4, s5, s6, s7] [a, b, c, d, e, f, g, h] i).getD i 0 = m at *
     have HZ' : Hid ((wr.setCell ⟨w.heap.size, i, none⟩ (.int .u32 ((m + n) % 4294967296))).heap[w.heap.size + 1 + 1]? = some (.cells zw8 113 (0, 0))) := hide (by rw [heap_setCell_other _ _ _ _ (by simp; omega)]; exact uh HZ)
     have HB' := hide ((uh HB).setCell (p := ⟨w.heap.size, i, none⟩) (Nat.le_refl _) (.int .u32 ((m + n) % 4294967296)))
     clear hat hl8
     go_wp2_with fail
     go_roundw
     case rel => exact ⟨i + 1, by omega, by go_num, hide (by rw [uh HAd]; exact uh HS'), HZ', HB'⟩
     case measure => simp [intOf]; omega
    ·have hi8' : i = 8 := by omega
     subst hi8'
     rw [← uh HCP] at HS
     have hR8 : R.length = 8 := by rw [uh HR, comp_len]; rfl
     have hsp := hide (sizeW (T := 113) sw8 hR8)
     have HR8 := hide hR8
     clear hR8 HR HCP
     have tokF : True := trivial
     have tokG : True := trivial
     go_wp2_with (first
      | (have _t := tokF; refine wpList_load_arr rfl 113 (.tmp 2) rfl w.heap.size (R.map (Value.int .u32)).toArray 8 _ rfl (uh HS) Tryz.underlying113 (uh hsp) ?_; clear tokF)
      | (have _t := tokG; refine wpList_put_arr rfl 113 (.tmp 4) (.tmp 109) rfl (w.heap.size + 1 + 1) zw8 (R.map (Value.int .u32)).toArray rfl rfl (uh HZ) (by simp [zw8, uh HR8]) (uh hsp) (words_one _) ?_; intro w9 H9; clear tokG))
     exact bodyPost_ret (ret_cell (p := 4) (T := 113) rfl _ _ (w.heap.size + 1 + 1) (R.map (Value.int .u32)).toArray 8 _ rfl (uh H9).at' Tryz.underlying113 (uh hsp)) rfl ⟨rfl, (uh H9).below w.heap.size w (uh HB) (by omega)⟩
theorem takeIn_any {tK : TypeId} (st bs ks : List Int) (w : World) (hst : st.length = 8) (hl : bs.length = 64) (hb : ∀ c ∈ bs, 0 ≤ c ∧ c ≤ 255) (hk : ks.length = 64) (hK : Words w 2 tK ks) :
  Calls Tryz.prog 161 #[.agg (st.map (Value.int .u32)).toArray, .agg (bs.map (Value.int .u8)).toArray] w fun e w' => e = .returned (.agg ((comp ks st bs).map (Value.int .u32)).toArray) ∧ Below w.heap.size w w' := by
 match st, hst with
 | [s0, s1, s2, s3, s4, s5, s6, s7], _ => exact take8 s0 s1 s2 s3 s4 s5 s6 s7 bs ks w hl hb hk hK
end Go.Proofs.YtgkmdjmigehmeaaGreatDoor
