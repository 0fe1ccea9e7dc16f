/-
  The walk of hash.spread: the sixty-four words of a block; conditions: a block of 64 bytes.
-/
import Derived.Test.YtjgjebohbgbimaaDoorA28
import Derived.Test.YtjgjebohbgbimaaDoorA29
import Derived.Deep.RegionHeld3
set_option linter.unusedVariables false
set_option linter.unusedSimpArgs false
namespace Go.Proofs.YtjgjebohbgbimaaDoor
open Go.RowKit

def add32 (a b : Int) : Int := IntKind.u32.wrap (a + b)
theorem add32_bounds (a b : Int) : 0 ≤ add32 a b ∧ add32 a b ≤ 4294967295 := by
  unfold add32; rw [IntKind.wrap_u32']; omega

/-- a byte more of a word -/
def oneMore (x c : Int) : Int := bits .or .u32 (x * 256 % 4294967296) c

/-- the words behind the first i bytes -/
def fill (bs : List Int) : Nat → List Int
  | 0 => List.replicate 64 0
  | i + 1 => (fill bs i).set (i / 4) (oneMore ((fill bs i).getD (i / 4) 0) (bs.getD i 0))

def sgm0 (x : Int) : Int := bits .xor .u32 (bits .xor .u32 (rotR x 7) (rotR x 18)) (x / 8)
def sgm1 (x : Int) : Int := bits .xor .u32 (bits .xor .u32 (rotR x 17) (rotR x 19)) (x / 1024)

def later (ws : List Int) (t : Nat) : Int :=
  add32 (add32 (add32 (ws.getD (t - 16) 0) (sgm0 (ws.getD (t - 15) 0))) (ws.getD (t - 7) 0)) (sgm1 (ws.getD (t - 2) 0))

/-- the words behind k of the later ones -/
def more (ws : List Int) : Nat → List Int
  | 0 => ws
  | k + 1 => (more ws k).set (16 + k) (later (more ws k) (16 + k))

def spreadL (bs : List Int) : List Int := more (fill bs 64) 48

theorem fill_len (bs : List Int) (i : Nat) : (fill bs i).length = 64 := by
  induction i with
  | zero => simp [fill]
  | succ i ih => simp [fill, ih]

theorem fill_bounds (bs : List Int) (i : Nat) : ∀ y ∈ fill bs i, 0 ≤ y ∧ y ≤ 4294967295 := by
  induction i with
  | zero => intro y hy; simp [fill] at hy; omega
  | succ i ih => exact mem_set' _ _ _ (bits_bounds _ _ _) ih

theorem more_len (ws : List Int) (k : Nat) : (more ws k).length = ws.length := by
  induction k with
  | zero => rfl
  | succ k ih => simp [more, ih]

theorem more_bounds (ws : List Int) (h : ∀ y ∈ ws, 0 ≤ y ∧ y ≤ 4294967295) (k : Nat) : ∀ y ∈ more ws k, 0 ≤ y ∧ y ≤ 4294967295 := by
  induction k with
  | zero => exact h
  | succ k ih => exact mem_set' _ _ _ (add32_bounds _ _) ih

theorem spreadL_len (bs : List Int) : (spreadL bs).length = 64 := by unfold spreadL; rw [more_len, fill_len]
theorem spreadL_bounds (bs : List Int) : ∀ y ∈ spreadL bs, 0 ≤ y ∧ y ≤ 4294967295 := more_bounds _ (fill_bounds bs 64) 48

theorem below_drewH {B : Nat} {a w : World} (h : Below B a w) (q : Nat) : Below B a (w.drewN q) := ⟨h.os, h.tape, h.output, h.size, h.block⟩

theorem cell_same {w : World} {g j k : Nat} (x : Value) (h : j ≠ k) : ((w.setCell ⟨g, k, none⟩ x)).cell? ⟨g, j, none⟩ = w.cell? ⟨g, j, none⟩ := by
  exact World.cell?_setCell_other w _ _ _ (fun e => h (by cases e; rfl))

set_option maxRecDepth 100000 in
set_option maxHeartbeats 1000000 in
theorem spread_any (bs : List Int) (w : World) (hl : bs.length = 64) (hb : ∀ c ∈ bs, 0 ≤ c ∧ c ≤ 255) :
    Calls Tryd.prog 57 #[.agg (bs.map (Value.int .u8)).toArray] w fun e w' => e = .returned (.agg ((spreadL bs).map (Value.int .u32)).toArray) ∧ Below w.heap.size w w' := by
  obtain ⟨i0, hi, hz⟩ := zi64
  have H64 := hide (sizeB (T := 72) sb64 hl)
  have HD := hide hl
  have HBD := hide hb
  have HA := hide (heap_alloc_new w (.cells (bs.map (Value.int .u8)).toArray 72))
  have HBA := hide ((Below.refl w.heap.size w).alloc (Nat.le_refl _) (.cells (bs.map (Value.int .u8)).toArray 72))
  have hsz : (w.alloc (.cells (bs.map (Value.int .u8)).toArray 72)).heap.size = w.heap.size + 1 := by simp
  clear hl hb
  have tokA : True := trivial
  have tokB : True := trivial
  have tokC : True := trivial
  go_enter Tryd.func57, Tryd.ntmps57
  go_wp2_with (first
    | (have _t := tokA; refine wpList_new_arr rfl 61 rfl i0 zw64 hi hz ?_; intro w2 H2; clear tokA; have s2 : w2.heap.size = w.heap.size + 1 + 1 := (by rw [(unhide H2).size, hsz]))
    | (have _t := tokB; refine wpList_new_arr rfl 61 rfl i0 zw64 hi hz ?_; intro w3 H3; clear tokB; have s3 : w3.heap.size = w.heap.size + 3 := (by rw [(unhide H3).size, s2]); have hA1 := hide (((unhide H3).below.block w.heap.size (by omega)).trans (((unhide H2).below.block w.heap.size (by omega)).trans (unhide HA))))
    | (have _t := tokC; refine wpList_load_arr rfl 72 (.tmp 1) rfl w.heap.size (bs.map (Value.int .u8)).toArray 64 5 rfl (unhide hA1) Tryd.underlying72 (unhide H64) ?_; clear tokC))
  have hR3 := (unhide H3).at'
  rw [s2] at hR3
  have hR2 := (unhide H2).at'
  rw [hsz] at hR2
  have hR2 := ((unhide H3).below.block (w.heap.size + 1) (by omega)).trans hR2
  have HB3 := hide (((unhide HBA).trans ((unhide H2).below.mono (by omega))).trans ((unhide H3).below.mono (by omega)))
  have HR3 := hide hR3
  have HR2 := hide hR2
  clear hR3 hR2 H2 H3 hA1 HA HBA
  clear hsz s2
  go_loopw [10] (fun x wr => ∃ i : Nat, i ≤ 64 ∧ x = .int .i64 i ∧ Hid (Words wr (w.heap.size + 1 + 1) 61 (fill bs i)) ∧ Hid (wr.heap[w.heap.size + 1]? = some (.cells zw64 61 (0, 0))) ∧ Hid (Below w.heap.size w wr)) (fun x _ => 64 - (intOf x).toNat)
  case atStart => exact ⟨0, by omega, rfl, HR3, HR2, HB3⟩
  case round =>
    clear HR3 HR2 HB3
    obtain ⟨i, hi64, rfl, HW, HZ, HBel⟩ := hrel
    by_cases hlt : i < 64
    · have hat := arr_at8 (ds := bs) (i := i) (by have := unhide HD; omega)
      have rx := run_index_arr (P := Tryd.prog) wr 72 5 64 (bs.map (Value.int .u8)).toArray .i64 .u8 i _ Tryd.underlying72 Tryd.underlying5 s1b hlt hat
      have hc := getD_bounds (unhide HBD) (by omega) i
      have ct := (unhide HW).cell (i / 4) (by rw [fill_len]; omega)
      have cf := (unhide HW).free (i / 4)
      have hx := getD_bounds (fill_bounds bs i) (by omega) (i / 4)
      have HS := hide ((unhide HW).set (i / 4) (oneMore ((fill bs i).getD (i / 4) 0) (bs.getD i 0)))
      have q1 : (i : Int) / 4 = ((i / 4 : Nat) : Int) := by omega
      have q2 : (i : Int).tdiv 4 = ((i / 4 : Nat) : Int) := by rw [Int.tdiv_eq_ediv_of_nonneg (by omega)]; exact q1
      have q3 : ((i / 4 : Nat) : Int) < 64 := by omega
      have q4 : (0 : Int) ≤ ((i / 4 : Nat) : Int) := by omega
      have HFill : Hid (fill bs (i + 1) = (fill bs i).set (i / 4) (oneMore ((fill bs i).getD (i / 4) 0) (bs.getD i 0))) := hide rfl
      unfold oneMore at HS HFill
      obtain ⟨F1, HF1⟩ : ∃ F1, Hid (fill bs (i + 1) = F1) := ⟨_, rfl⟩
      rw [unhide HF1] at HFill
      generalize bs.getD i 0 = c at *
      generalize (fill bs i).getD (i / 4) 0 = x at *
      generalize i / 4 = j at *
      clear hat
      have HZ' : Hid ((wr.setCell ⟨w.heap.size + 1 + 1, j, none⟩ (.int .u32 (bits .or .u32 (x * 256 % 4294967296) c))).heap[w.heap.size + 1]? = some (.cells zw64 61 (0, 0))) := hide (by rw [heap_setCell_other _ _ _ _ (by simp)]; exact unhide HZ)
      have HB' := hide ((unhide HBel).setCell (p := ⟨w.heap.size + 1 + 1, j, none⟩) (by simp; omega) (.int .u32 (bits .or .u32 (x * 256 % 4294967296) c)))
      go_wp2_with fail
      go_roundw
      case rel => exact ⟨i + 1, by omega, by go_num, hide (by rw [show fill bs (i + 1) = F1 from unhide HF1, unhide HFill]; exact unhide HS), HZ', HB'⟩
      case measure => simp [intOf]; omega
    · have hi' : i = 64 := by omega
      rw [show ((i : Nat) : Int) = 64 from by omega]
      subst hi'
      go_wp2_with fail
      have hf64 := fill_len bs 64
      have hfb := fill_bounds bs 64
      have HSP : Hid (spreadL bs = more (fill bs 64) 48) := hide rfl
      generalize fill bs 64 = ws0 at *
      have HF64 := hide hf64
      have HFB := hide hfb
      clear hf64 hfb
      go_loopw [6] (fun x wr => ∃ k : Nat, k ≤ 48 ∧ x = .int .i64 ((16 + k : Nat) : Int) ∧ Hid (Words wr (w.heap.size + 1 + 1) 61 (more ws0 k)) ∧ Hid (wr.heap[w.heap.size + 1]? = some (.cells zw64 61 (0, 0))) ∧ Hid (Below w.heap.size w wr)) (fun x _ => 64 - (intOf x).toNat)
      case atStart => exact ⟨0, by omega, rfl, HW, HZ, HBel⟩
      case round =>
        clear HW HZ HBel
        obtain ⟨k, hk48, rfl, HW, HZ, HBel⟩ := hrel
        have hl := more_len ws0 k
        rw [unhide HF64] at hl
        by_cases hlt : k < 48
        · obtain ⟨t, ht⟩ : ∃ t : Nat, 16 + k = t := ⟨_, rfl⟩
          have hbd := more_bounds ws0 (unhide HFB) k
          have hmore : more ws0 (k + 1) = (more ws0 k).set t (later (more ws0 k) t) := by rw [← ht]; rfl
          unfold later at hmore
          obtain ⟨a16, h16'⟩ : ∃ a : Nat, t - 16 = a := ⟨_, rfl⟩
          obtain ⟨a15, h15'⟩ : ∃ a : Nat, t - 15 = a := ⟨_, rfl⟩
          obtain ⟨a7, h7'⟩ : ∃ a : Nat, t - 7 = a := ⟨_, rfl⟩
          obtain ⟨a2, h2'⟩ : ∃ a : Nat, t - 2 = a := ⟨_, rfl⟩
          rw [h16', h15', h7', h2'] at hmore
          have c16 := (unhide HW).cell a16 (by omega)
          have c15 := (unhide HW).cell a15 (by omega)
          have c7 := (unhide HW).cell a7 (by omega)
          have c2 := (unhide HW).cell a2 (by omega)
          have ct := (unhide HW).cell t (by omega)
          have cf := (unhide HW).free t
          have x16b := getD_bounds hbd (by omega) a16
          have x15b := getD_bounds hbd (by omega) a15
          have x7b := getD_bounds hbd (by omega) a7
          have x2b := getD_bounds hbd (by omega) a2
          rw [ht]
          generalize hM : more ws0 k = M at *
          generalize M.getD a16 0 = x16 at *
          generalize M.getD a15 0 = x15 at *
          generalize M.getD a7 0 = x7 at *
          generalize M.getD a2 0 = x2 at *
          generalize M.getD t 0 = xt at *
          have HMM := hide hmore
          have n16 : ((t : Int) - 16).toNat = a16 := by omega
          have n15 : ((t : Int) - 15).toNat = a15 := by omega
          have n7 : ((t : Int) - 7).toNat = a7 := by omega
          have n2 : ((t : Int) - 2).toNat = a2 := by omega
          have p16 : IntKind.i64.wrap ((t : Int) - 16) = (t : Int) - 16 := by rw [IntKind.wrap_i64]; omega
          have p7 : IntKind.i64.wrap ((t : Int) - 7) = (t : Int) - 7 := by rw [IntKind.wrap_i64]; omega
          have p15 : IntKind.i64.wrap ((t : Int) - 15) = (t : Int) - 15 := by rw [IntKind.wrap_i64]; omega
          have p2 : IntKind.i64.wrap ((t : Int) - 2) = (t : Int) - 2 := by rw [IntKind.wrap_i64]; omega
          have o16 : (0 : Int) ≤ (t : Int) - 16 := by omega
          have o7 : (0 : Int) ≤ (t : Int) - 7 := by omega
          have o15 : (0 : Int) ≤ (t : Int) - 15 := by omega
          have o2 : (0 : Int) ≤ (t : Int) - 2 := by omega
          have w16 : (16 : Int) ≤ (t : Int) := by omega
          have w7 : (7 : Int) ≤ (t : Int) := by omega
          have w15 : (15 : Int) ≤ (t : Int) := by omega
          have w2' : (2 : Int) ≤ (t : Int) := by omega
          have u16 : (t : Int) - 16 < 64 := by omega
          have u7 : (t : Int) - 7 < 64 := by omega
          have u15 : (t : Int) - 15 < 64 := by omega
          have u2 : (t : Int) - 2 < 64 := by omega
          have u71 : (t : Int) < 71 := by omega
          have u80 : (t : Int) < 80 := by omega
          have u79 : (t : Int) < 79 := by omega
          have u66 : (t : Int) < 66 := by omega
          have i0' : (t : Int) < 64 := by omega
          have i00 : (0 : Int) ≤ (t : Int) := by omega
          have e16 : a16 ≠ t := by omega
          have e7 : a7 ≠ t := by omega
          have HKT := hide (And.intro ht hM)
          have HWW := hide HW
          clear hl hbd hmore h16' h15' h7' h2' hM ht HW
          go_wp2_with fail
          go_quiet (fail)
          go_wp2_with fail
          go_region_held3 (fun w' => w'.cell? ⟨w.heap.size + 1 + 1, a16, none⟩ = some (.int .u32 x16) ∧ w'.cell? ⟨w.heap.size + 1 + 1, a7, none⟩ = some (.int .u32 x7))
            (first | exact ⟨c16, c7⟩ | exact ⟨(cell_same _ e16).trans c16, (cell_same _ e7).trans c7⟩ | (simp [*]; done))
            ((go_at_call 61; refine (rightH_any _ _ _ (by decide) (by decide)).mono ?_; rintro e v ⟨rfl, rfl⟩))
          go_wp2_with fail
          go_roundw
          case rel =>
            refine ⟨k + 1, by omega, by rw [← (unhide HKT).1]; go_num, hide ?_, hide ?_, hide ?_⟩
            · rw [unhide HMM]
              exact ((unhide (unhide HWW)).drewN _).set t _
            · rw [heap_setCell_other _ _ _ _ (by simp)]; exact unhide HZ
            · exact Below.setCell (w := World.drewN wr _) (p := ⟨w.heap.size + 1 + 1, t, none⟩) (below_drewH (unhide HBel) _) (by simp; omega) _
          case measure => simp [intOf]; omega
        · have hk' : k = 48 := by omega
          subst hk'
          have hsp := hide (sizeW (T := 61) sw64 hl)
          have HL := hide hl
          clear hl
          have tokD : True := trivial
          have tokE : True := trivial
          go_wp2_with (first
            | (have _t := tokD; refine wpList_load_arr rfl 61 (.tmp 3) rfl (w.heap.size + 1 + 1) ((more ws0 48).map (Value.int .u32)).toArray 64 _ rfl (unhide HW) Tryd.underlying61 (unhide hsp) ?_; clear tokD)
            | (have _t := tokE; refine wpList_put_arr rfl 61 (.tmp 2) (.tmp 67) rfl (w.heap.size + 1) zw64 ((more ws0 48).map (Value.int .u32)).toArray rfl rfl (unhide HZ) (by simp [zw64, unhide HL]) (unhide hsp) (words_one _) ?_; intro w9 H9; clear tokE))
          refine bodyPost_ret (ret_cell (p := 2) (T := 61) rfl _ _ (w.heap.size + 1) ((more ws0 48).map (Value.int .u32)).toArray 64 _ rfl (unhide H9).at' Tryd.underlying61 (unhide hsp)) rfl ⟨?_, (unhide H9).below w.heap.size w (unhide HBel) (by omega)⟩
          rw [unhide HSP]
end Go.Proofs.YtjgjebohbgbimaaDoor
