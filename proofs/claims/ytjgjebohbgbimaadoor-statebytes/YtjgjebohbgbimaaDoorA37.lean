/-
  The walk of the document's block (layer 2): a block taken into eight words; conditions: words of 32 bits, a block of 64 bytes.
-/
import Derived.Test.YtjgjebohbgbimaaDoorA36
import Derived.BigRegion
import Derived.Deep.CutRange
set_option linter.unusedVariables false
set_option linter.unusedSimpArgs false
namespace Go.Proofs.YtjgjebohbgbimaaDoor
open Go.RowKit

theorem cell_other {w : World} {g b j k : Nat} (x : Value) (h : b ≠ g) : ((w.setCell ⟨g, k, none⟩ x).drew).cell? ⟨b, j, none⟩ = w.cell? ⟨b, j, none⟩ := by
  show (w.setCell ⟨g, k, none⟩ x).cell? ⟨b, j, none⟩ = _
  exact World.cell?_of_block (heap_setCell_other w ⟨g, k, none⟩ b x h)

theorem cell_far {w : World} {g b j k : Nat} (x : Value) (h : b ≠ g) : (w.setCell ⟨g, k, none⟩ x).cell? ⟨b, j, none⟩ = w.cell? ⟨b, j, none⟩ :=
  World.cell?_of_block (heap_setCell_other w ⟨g, k, none⟩ b x h)

/-- what the walk of block keeps in hand -/
structure Blk (w wr : World) (B b off : Nat) (st ks bs : List Int) : Prop where
  st : Words wr B 63 st
  ks : Words wr (B + 1) 61 ks
  out : wr.heap[B + 1 + 1]? = some (.cells zw8 63 (0, 0))
  bytes : ∀ j, j < 64 → wr.cell? ⟨b, off + j, none⟩ = some (.int .u8 (bs.getD j 0))
  below : Below B w wr

theorem Blk.set {w wr : World} {B b off : Nat} {st ks bs : List Int} (h : Blk w wr B b off st ks bs) (g j : Nat) (x : Value) (hg : B + 2 < g) (hb : b ≠ g) : Blk w (wr.setCell ⟨g, j, none⟩ x) B b off st ks bs :=
  ⟨by unfold Words; rw [heap_setCell_other _ _ _ _ (by simp; omega)]; exact h.st, by unfold Words; rw [heap_setCell_other _ _ _ _ (by simp; omega)]; exact h.ks, by rw [heap_setCell_other _ _ _ _ (by simp; omega)]; exact h.out,
    fun k hk => (cell_far x hb).trans (h.bytes k hk), h.below.setCell (p := ⟨g, j, none⟩) (by show B ≤ g; omega) x⟩

theorem Blk.put {w wr wx : World} {B b off g : Nat} {st ks bs : List Int} {cx : Array Value} {T : TypeId} (h : Blk w wr B b off st ks bs) (p : Put wr wx g cx T) (hg : B + 2 < g) (hb : b ≠ g) : Blk w wx B b off st ks bs :=
  ⟨(p.other _ (by omega)).trans h.st, (p.other _ (by omega)).trans h.ks, (p.other _ (by omega)).trans h.out, fun k hk => (p.cell (p := ⟨b, off + k, none⟩) hb).trans (h.bytes k hk), p.below B w h.below (by omega)⟩

theorem Blk.drewN {w wr : World} {B b off : Nat} {st ks bs : List Int} (h : Blk w wr B b off st ks bs) (q : Nat) : Blk w (wr.drewN q) B b off st ks bs := ⟨h.st, h.ks, h.out, h.bytes, below_drewH h.below q⟩

set_option maxRecDepth 100000 in
set_option maxHeartbeats 4000000 in
theorem block8 (s0 s1 s2 s3 s4 s5 s6 s7 : Int) (ks bs : List Int) (b off cap : Nat) (w : World) (hk : ks.length = 64) (hl : bs.length = 64)
    (hc : ∀ j, j < 64 → w.cell? ⟨b, off + j, none⟩ = some (.int .u8 (bs.getD j 0))) (hs : ∀ c ∈ bs, 0 ≤ c ∧ c ≤ 255) (hbB : b < w.heap.size) :
    Calls Tryd.prog 38 #[.agg (([s0, s1, s2, s3, s4, s5, s6, s7] : List Int).map (Value.int .u32)).toArray, .agg (ks.map (Value.int .u32)).toArray, .slice (some ⟨b, off, none⟩) 64 cap] w fun e w' => e = .returned (.agg ((comp ks [s0, s1, s2, s3, s4, s5, s6, s7] bs).map (Value.int .u32)).toArray) ∧ Below w.heap.size w w' := by
  obtain ⟨i64, hi64, hz64⟩ := zi64
  obtain ⟨B, hB⟩ : ∃ B, w.heap.size = B := ⟨_, rfl⟩
  obtain ⟨w1, hw1⟩ : ∃ w1, w.alloc (.cells (([s0, s1, s2, s3, s4, s5, s6, s7] : List Int).map (Value.int .u32)).toArray 63) = w1 := ⟨_, rfl⟩
  obtain ⟨w2, hw2⟩ : ∃ w2, w1.alloc (.cells (ks.map (Value.int .u32)).toArray 61) = w2 := ⟨_, rfl⟩
  obtain ⟨w3, hw3⟩ : ∃ w3, w2.alloc (.cells #[.int .u32 0, .int .u32 0, .int .u32 0, .int .u32 0, .int .u32 0, .int .u32 0, .int .u32 0, .int .u32 0] 63) = w3 := ⟨_, rfl⟩
  have M1 : Hid (Made w w1 (([s0, s1, s2, s3, s4, s5, s6, s7] : List Int).map (Value.int .u32)).toArray 63) := hide (by rw [← hw1]; exact Made.mk')
  have M2 : Hid (Made w1 w2 (ks.map (Value.int .u32)).toArray 61) := hide (by rw [← hw2]; exact Made.mk')
  have M3 : Hid (Made w2 w3 zw8 63) := hide (by rw [← hw3]; exact Made.mk')
  have z1 : w1.heap.size = B + 1 := by rw [(unhide M1).size, hB]
  have z2 : w2.heap.size = B + 1 + 1 := by rw [(unhide M2).size, z1]
  have z3 : w3.heap.size = B + 1 + 1 + 1 := by rw [(unhide M3).size, z2]
  have HRS := hide (ref_spread bs hs)
  have HIN := hide (And.intro hk (And.intro hl (And.intro hc hs)))
  rw [hB] at hbB ⊢
  simp only [List.map_cons, List.map_nil] at hw1 ⊢
  clear hk hl hc hs
  have tokA : True := trivial
  go_enter Tryd.func38, Tryd.ntmps38
  go_wp2_with (first
    | (have _t := tokA; refine wpList_new_arr rfl 61 rfl i64 zw64 hi64 hz64 ?_; intro w4 M4; clear tokA; have z4 : w4.heap.size = B + 1 + 1 + 1 + 1 := (by rw [(unhide M4).size, z3])))
  have A4 : Hid (Words w4 (B + 1 + 1 + 1) 61 (refL bs 0)) := hide (by rw [← z3]; exact (unhide M4).at')
  have K4 : Hid (Blk w w4 B b off [s0, s1, s2, s3, s4, s5, s6, s7] ks bs) := hide (by
    have b4 : Below B w w4 := by
      have k := (((unhide M1).below.trans ((unhide M2).below.mono (by omega))).trans ((unhide M3).below.mono (by omega))).trans ((unhide M4).below.mono (by omega))
      rw [hB] at k
      exact k
    have m1 := (unhide M1).at'
    rw [hB] at m1
    have m2 := (unhide M2).at'
    rw [z1] at m2
    have m3 := (unhide M3).at'
    rw [z2] at m3
    exact ⟨((unhide M4).below.block B (by omega)).trans (((unhide M3).below.block B (by omega)).trans (((unhide M2).below.block B (by omega)).trans m1)), ((unhide M4).below.block _ (by omega)).trans (((unhide M3).below.block _ (by omega)).trans m2), ((unhide M4).below.block _ (by omega)).trans m3, fun j hj => (b4.cell (p := ⟨b, off + j, none⟩) hbB).trans ((unhide HIN).2.2.1 j hj), b4⟩)
  clear M1 M2 M3 M4 hw1 hw2 hw3 z1 z2 z3 hB
  have hne : b ≠ B + 1 + 1 + 1 := by omega
  go_loopw [8] (fun x wr => ∃ t : Nat, t ≤ 64 ∧ x = .int .i64 t ∧ Hid (Words wr (B + 1 + 1 + 1) 61 (refL bs t)) ∧ Hid (Blk w wr B b off [s0, s1, s2, s3, s4, s5, s6, s7] ks bs) ∧ wr.heap.size = B + 1 + 1 + 1 + 1) (fun x _ => 64 - (intOf x).toNat)
  case atStart => exact ⟨0, by omega, rfl, A4, K4, z4⟩
  case round =>
    clear A4 K4 z4
    obtain ⟨t, ht, rfl, HW, HR, hsz⟩ := hrel
    by_cases hlt : t < 64
    · by_cases h16 : t < 16
      · have i0 : (t : Int) < 64 := by omega
        have i1 : (t : Int) < 16 := by omega
        have c0 := (unhide HR).bytes (4 * t) (by omega)
        have c1 := (unhide HR).bytes (4 * t + 1) (by omega)
        have c2 := (unhide HR).bytes (4 * t + 2) (by omega)
        have c3 := (unhide HR).bytes (4 * t + 3) (by omega)
        have hin := unhide HIN
        have hnw : nextW bs (refL bs t) t = word4 (bs.getD (4 * t) 0) (bs.getD (4 * t + 1) 0) (bs.getD (4 * t + 2) 0) (bs.getD (4 * t + 3) 0) := by unfold nextW; rw [if_pos h16]
        have HO := hide (word4_or _ _ _ _ (getD_bounds hin.2.2.2 (by omega) (4 * t)) (getD_bounds hin.2.2.2 (by omega) (4 * t + 1)) (getD_bounds hin.2.2.2 (by omega) (4 * t + 2)) (getD_bounds hin.2.2.2 (by omega) (4 * t + 3)))
        rw [← hnw] at HO
        have HN : Hid (refL bs (t + 1) = (refL bs t).set t (nextW bs (refL bs t) t)) := hide rfl
        clear hin hnw
        generalize nextW bs (refL bs t) t = X at *
        generalize bs.getD (4 * t) 0 = y0 at *
        generalize bs.getD (4 * t + 1) 0 = y1 at *
        generalize bs.getD (4 * t + 2) 0 = y2 at *
        generalize bs.getD (4 * t + 3) 0 = y3 at *
        have j0 : (0 : Int) ≤ 4 * (t : Int) := by omega
        have j1 : 4 * (t : Int) < 64 := by omega
        have j01 : (0 : Int) ≤ 4 * (t : Int) + 1 := by omega
        have j02 : (0 : Int) ≤ 4 * (t : Int) + 2 := by omega
        have j03 : (0 : Int) ≤ 4 * (t : Int) + 3 := by omega
        have j2 : 4 * (t : Int) + 1 < 64 := by omega
        have j3 : 4 * (t : Int) + 2 < 64 := by omega
        have j4 : 4 * (t : Int) + 3 < 64 := by omega
        have m1 : IntKind.i64.wrap (4 * (t : Int)) = 4 * (t : Int) := by rw [IntKind.wrap_i64]; omega
        have m2 : IntKind.i64.wrap (4 * (t : Int) + 1) = 4 * (t : Int) + 1 := by rw [IntKind.wrap_i64]; omega
        have m3 : IntKind.i64.wrap (4 * (t : Int) + 2) = 4 * (t : Int) + 2 := by rw [IntKind.wrap_i64]; omega
        have m4 : IntKind.i64.wrap (4 * (t : Int) + 3) = 4 * (t : Int) + 3 := by rw [IntKind.wrap_i64]; omega
        have n1 : (4 * (t : Int)).toNat = 4 * t := by omega
        have n2 : (4 * (t : Int) + 1).toNat = 4 * t + 1 := by omega
        have n3 : (4 * (t : Int) + 2).toNat = 4 * t + 2 := by omega
        have n4 : (4 * (t : Int) + 3).toNat = 4 * t + 3 := by omega
        have ct := (unhide HW).cell t (by rw [refL_len]; omega)
        have cf := (unhide HW).free t
        generalize (refL bs t).getD t 0 = z at *
        have i00 : (0 : Int) ≤ (t : Int) := by omega
        go_wp2_with fail
        go_region_held3 (fun w' => w'.cell? ⟨b, off + 4 * t, none⟩ = some (.int .u8 y0) ∧ w'.cell? ⟨b, off + (4 * t + 1), none⟩ = some (.int .u8 y1) ∧ w'.cell? ⟨b, off + (4 * t + 2), none⟩ = some (.int .u8 y2) ∧ w'.cell? ⟨b, off + (4 * t + 3), none⟩ = some (.int .u8 y3))
          (first | exact ⟨c0, c1, c2, c3⟩ | exact ⟨(cell_other _ hne).trans c0, (cell_other _ hne).trans c1, (cell_other _ hne).trans c2, (cell_other _ hne).trans c3⟩) (fail)
        go_wp2_with fail
        go_roundw
        case rel =>
          rw [unhide HO]
          exact ⟨t + 1, by omega, by go_num, hide (by rw [unhide HN]; exact (unhide HW).set t X), hide (((unhide HR).set (B + 1 + 1 + 1) t (.int .u32 X) (by omega) hne).drewN 1), by simpa [World.setCell] using hsz⟩
        case measure => simp [intOf]; omega
      · have hl := refL_len bs t
        obtain ⟨a16, h16'⟩ : ∃ a : Nat, t - 16 = a := ⟨_, rfl⟩
        obtain ⟨a15, h15'⟩ : ∃ a : Nat, t - 15 = a := ⟨_, rfl⟩
        obtain ⟨a7, h7'⟩ : ∃ a : Nat, t - 7 = a := ⟨_, rfl⟩
        obtain ⟨a2, h2'⟩ : ∃ a : Nat, t - 2 = a := ⟨_, rfl⟩
        have c16 := (unhide HW).cell a16 (by omega)
        have c15 := (unhide HW).cell a15 (by omega)
        have c7 := (unhide HW).cell a7 (by omega)
        have c2 := (unhide HW).cell a2 (by omega)
        have ct := (unhide HW).cell t (by omega)
        have cf := (unhide HW).free t
        have hbd := refL_bounds bs (unhide HIN).2.2.2 t
        have x16b := getD_bounds hbd (by omega) a16
        have x15b := getD_bounds hbd (by omega) a15
        have x7b := getD_bounds hbd (by omega) a7
        have x2b := getD_bounds hbd (by omega) a2
        have hnw : refL bs (t + 1) = (refL bs t).set t (add32 (add32 (add32 ((refL bs t).getD (t - 16) 0) ((refL bs t).getD (t - 7) 0)) (sgm0 ((refL bs t).getD (t - 15) 0))) (sgm1 ((refL bs t).getD (t - 2) 0))) := by
          show (refL bs t).set t (nextW bs (refL bs t) t) = _
          unfold nextW
          rw [if_neg h16]
        rw [h16', h15', h7', h2'] at hnw
        generalize (refL bs t).getD a16 0 = x16 at *
        generalize (refL bs t).getD a15 0 = x15 at *
        generalize (refL bs t).getD a7 0 = x7 at *
        generalize (refL bs t).getD a2 0 = x2 at *
        generalize (refL bs t).getD t 0 = z at *
        have HNW := hide hnw
        have n16 : ((t : Int) - 16).toNat = a16 := by omega
        have n15 : ((t : Int) - 15).toNat = a15 := by omega
        have n7 : ((t : Int) - 7).toNat = a7 := by omega
        have n2 : ((t : Int) - 2).toNat = a2 := by omega
        have p16 : IntKind.i64.wrap ((t : Int) - 16) = (t : Int) - 16 := by rw [IntKind.wrap_i64]; omega
        have p7 : IntKind.i64.wrap ((t : Int) - 7) = (t : Int) - 7 := by rw [IntKind.wrap_i64]; omega
        have o16 : (0 : Int) ≤ (t : Int) - 16 := by omega
        have o7 : (0 : Int) ≤ (t : Int) - 7 := by omega
        have o15 : (0 : Int) ≤ (t : Int) - 15 := by omega
        have o2 : (0 : Int) ≤ (t : Int) - 2 := by omega
        have u16 : (t : Int) - 16 < 64 := by omega
        have u7 : (t : Int) - 7 < 64 := by omega
        have u71 : (t : Int) < 71 := by omega
        have w7 : (7 : Int) ≤ (t : Int) := by omega
        have w15 : (15 : Int) ≤ (t : Int) := by omega
        have w2' : (2 : Int) ≤ (t : Int) := by omega
        have u80 : (t : Int) < 80 := by omega
        have u79 : (t : Int) < 79 := by omega
        have u66 : (t : Int) < 66 := by omega
        have u15 : (t : Int) - 15 < 64 := by omega
        have u2 : (t : Int) - 2 < 64 := by omega
        have i0 : (t : Int) < 64 := by omega
        have i1 : ¬ (t : Int) < 16 := by omega
        have i00 : (0 : Int) ≤ (t : Int) := by omega
        have e16 : a16 ≠ t := by omega
        have e7 : a7 ≠ t := by omega
        clear hnw hbd hl h16' h15' h7' h2'
        go_wp2_with fail
        go_region_held3 (fun w' => w'.cell? ⟨B + 1 + 1 + 1, a16, none⟩ = some (.int .u32 x16) ∧ w'.cell? ⟨B + 1 + 1 + 1, a7, none⟩ = some (.int .u32 x7))
          (first | exact ⟨c16, c7⟩ | exact ⟨(cell_same _ e16).trans c16, (cell_same _ e7).trans c7⟩ | (simp [*]; done))
          ((go_at_call 49; refine (refTurned_N _ _ _ (by decide) (by decide)).mono ?_; rintro e v ⟨rfl, q, rfl⟩))
        go_wp2_with fail
        go_roundw
        case rel =>
          refine ⟨t + 1, by omega, by go_num, hide ?_, hide ?_, ?_⟩
          · rw [unhide HNW]
            exact ((unhide HW).drewN _).set t _
          · exact ((unhide HR).drewN _).set (B + 1 + 1 + 1) t _ (by omega) hne
          · simpa [World.setCell] using hsz
        case measure => simp [intOf]; omega
    · rw [show ((t : Nat) : Int) = 64 from by omega]
      have ht64 : t = 64 := by omega
      subst ht64
      rw [unhide HRS] at HW
      have HCP : Hid (comp ks [s0, s1, s2, s3, s4, s5, s6, s7] bs = addTo [s0, s1, s2, s3, s4, s5, s6, s7] (rnds [s0, s1, s2, s3, s4, s5, s6, s7] ks (spreadL bs) 64) 8) := hide rfl
      have HSL := hide (spreadL_len bs)
      have HR8 : Hid ((comp ks [s0, s1, s2, s3, s4, s5, s6, s7] bs).length = 8) := hide (by rw [comp_len]; rfl)
      obtain ⟨R, HRR⟩ : ∃ R, Hid (comp ks [s0, s1, s2, s3, s4, s5, s6, s7] bs = R) := ⟨_, rfl⟩
      rw [unhide HRR] at HCP HR8
      clear HRS
      generalize spreadL bs = ws at *
      obtain ⟨w5, hw5⟩ : ∃ w5, wr.alloc (.cells #[.int .u32 0, .int .u32 0, .int .u32 0, .int .u32 0, .int .u32 0, .int .u32 0, .int .u32 0, .int .u32 0] 63) = w5 := ⟨_, rfl⟩
      have M5 : Hid (Made wr w5 zw8 63) := hide (by rw [← hw5]; exact Made.mk')
      have sz8 : Hid ((Tryd.prog.info? 63).map (·.size) = some 8) := hide sw8
      have m5 : w5.heap[B + 1 + 1 + 1 + 1]? = some (.cells zw8 63 (0, 0)) := by rw [← hsz]; exact (unhide M5).at'
      have HM5 := hide m5
      have HST := hide ((unhide HR).st)
      clear m5
      have tokB : True := trivial
      have tokC : True := trivial
      go_wp2_with (first
        | (have _t := tokB; refine wpList_load_arr rfl 63 (.tmp 3) rfl B (([s0, s1, s2, s3, s4, s5, s6, s7] : List Int).map (Value.int .u32)).toArray 8 _ rfl (unhide HST) Tryd.underlying63 (unhide sz8) ?_; clear tokB)
        | (have _t := tokC; refine wpList_put_arr rfl 63 (.tmp 11) (.tmp 96) rfl (B + 1 + 1 + 1 + 1) zw8 (([s0, s1, s2, s3, s4, s5, s6, s7] : List Int).map (Value.int .u32)).toArray rfl rfl (unhide HM5) rfl (unhide sz8) (words_one _) ?_; intro w6 M6; clear tokC))
      have b6 : Below wr.heap.size wr w6 := (unhide M6).below _ _ (unhide M5).below (by omega)
      have V6 : Hid (Words w6 (B + 1 + 1 + 1 + 1) 63 [s0, s1, s2, s3, s4, s5, s6, s7]) := hide (unhide M6).at'
      have W6 : Hid (Words w6 (B + 1 + 1 + 1) 61 ws) := hide ((b6.block _ (by omega)).trans (unhide HW))
      have K6 : Hid (Blk w w6 B b off [s0, s1, s2, s3, s4, s5, s6, s7] ks bs) := hide (by
        have h := unhide HR
        exact ⟨(b6.block _ (by omega)).trans h.st, (b6.block _ (by omega)).trans h.ks, (b6.block _ (by omega)).trans h.out, fun j hj => (b6.cell (p := ⟨b, off + j, none⟩) (by show b < _; omega)).trans (h.bytes j hj), h.below.trans (b6.mono (by omega))⟩)
      clear b6 M5 M6 hw5 HM5 HST HW HR hsz
      go_loopw [12] (fun x wr => ∃ (t : Nat) (a b' c d e f g h : Int), t ≤ 64 ∧ x = .int .i64 t ∧ Hid (Words wr (B + 1 + 1 + 1 + 1) 63 [a, b', c, d, e, f, g, h]) ∧ Hid (Words wr (B + 1 + 1 + 1) 61 ws) ∧ Hid (Blk w wr B b off [s0, s1, s2, s3, s4, s5, s6, s7] ks bs) ∧ Hid (rnds [s0, s1, s2, s3, s4, s5, s6, s7] ks ws t = [a, b', c, d, e, f, g, h])) (fun x _ => 64 - (intOf x).toNat)
      case atStart => exact ⟨0, s0, s1, s2, s3, s4, s5, s6, s7, by omega, rfl, V6, W6, K6, hide rfl⟩
      case round =>
        clear V6 W6 K6
        obtain ⟨t, a, b', c, d, e, f, g, h, ht, rfl, HV, HW, HR, HRN⟩ := hrel
        by_cases hlt : t < 64
        · have c0 := (unhide HV).cell 0 (by simp)
          have c1 := (unhide HV).cell 1 (by simp)
          have c2 := (unhide HV).cell 2 (by simp)
          have c3 := (unhide HV).cell 3 (by simp)
          have c4 := (unhide HV).cell 4 (by simp)
          have c5 := (unhide HV).cell 5 (by simp)
          have c6 := (unhide HV).cell 6 (by simp)
          have c7 := (unhide HV).cell 7 (by simp)
          simp only [List.getD_cons_zero, List.getD_cons_succ] at c0 c1 c2 c3 c4 c5 c6 c7
          have ck := (unhide HR).ks.cell t (by have := (unhide HIN).1; omega)
          have cw := (unhide HW).cell t (by have := unhide HSL; omega)
          have i0 : (t : Int) < 64 := by omega
          have i1 : (0 : Int) ≤ (t : Int) := by omega
          have HRN' : Hid (rnds [s0, s1, s2, s3, s4, s5, s6, s7] ks ws (t + 1) = rnd (ks.getD t 0) (ws.getD t 0) [a, b', c, d, e, f, g, h]) := hide (by show rnd _ _ (rnds _ ks ws t) = _; rw [unhide HRN])
          generalize ks.getD t 0 = k at *
          generalize ws.getD t 0 = wt at *
          have tokD : True := trivial
          have hT1 : ((h + bits .xor .u32 (bits .xor .u32 (rotR e 6) (rotR e 11)) (rotR e 25) + bits .xor .u32 (bits .and .u32 e f) (bits .and .u32 (bits .xor .u32 (if IntKind.u32.signed = true then -1 else IntKind.u32.max) e) g) + k) % 4294967296 + wt) % 4294967296 = tOne e f g h k wt := by
            unfold tOne turns3 chE
            generalize bits .xor .u32 (bits .xor .u32 (rotR e 6) (rotR e 11)) (rotR e 25) = A1
            generalize bits .xor .u32 (bits .and .u32 e f) (bits .and .u32 (bits .xor .u32 (if IntKind.u32.signed = true then -1 else IntKind.u32.max) e) g) = A2
            omega
          obtain ⟨T1, hT1'⟩ : ∃ T1, tOne e f g h k wt = T1 := ⟨_, rfl⟩
          rw [hT1'] at hT1
          have HT1 := hide hT1
          have HT1' := hide hT1'
          clear hT1 hT1'
          have hT2 : (bits .xor .u32 (bits .xor .u32 (rotR a 2) (rotR a 13)) (rotR a 22) + bits .xor .u32 (bits .xor .u32 (bits .and .u32 a b') (bits .and .u32 a c)) (bits .and .u32 b' c)) % 4294967296 = tTwo a b' c := rfl
          obtain ⟨T2, hT2'⟩ : ∃ T2, tTwo a b' c = T2 := ⟨_, rfl⟩
          rw [hT2'] at hT2
          have HT2 := hide hT2
          have HT2' := hide hT2'
          clear hT2 hT2'
          go_upto_region 16 with fail
          go_cut [15] from 97 to 178 (fun sx wx => sx = .int .u32 T1 ∧ Hid (Words wx (B + 1 + 1 + 1 + 1) 63 [a, b', c, d, e, f, g, h]) ∧ Hid (Words wx (B + 1 + 1 + 1) 61 ws) ∧ Hid (Blk w wx B b off [s0, s1, s2, s3, s4, s5, s6, s7] ks bs))
          case first =>
            go_quiet ((go_at_call 49; exact Calls.quiet_of (refTurned_N _ _ _ (by decide) (by decide))))
            rw [unhide HT1]
            clear c0 c1 c2 c3 c4 c5 c6 c7 ck cw
            go_wp2_with fail
            go_meet
            exact ⟨rfl, hide ((unhide HV).drewN _), hide ((unhide HW).drewN _), hide ((unhide HR).drewN _)⟩
          case rest =>
            obtain ⟨rfl, HV1, HW1, HR1⟩ := hcut
            clear c0 c1 c2 c3 c4 c5 c6 c7 ck cw HV HW HR
            have c0 := (unhide HV1).cell 0 (by simp)
            have c1 := (unhide HV1).cell 1 (by simp)
            have c2 := (unhide HV1).cell 2 (by simp)
            have c3 := (unhide HV1).cell 3 (by simp)
            have c4 := (unhide HV1).cell 4 (by simp)
            have c5 := (unhide HV1).cell 5 (by simp)
            have c6 := (unhide HV1).cell 6 (by simp)
            simp only [List.getD_cons_zero, List.getD_cons_succ] at c0 c1 c2 c3 c4 c5 c6
            go_upto_region 17 with fail
            go_cut [16] from 97 to 178 (fun sx wx => sx = .int .u32 T2 ∧ Hid (Words wx (B + 1 + 1 + 1 + 1) 63 [a, b', c, d, e, f, g, h]) ∧ Hid (Words wx (B + 1 + 1 + 1) 61 ws) ∧ Hid (Blk w wx B b off [s0, s1, s2, s3, s4, s5, s6, s7] ks bs))
            case first =>
              go_quiet ((go_at_call 49; exact Calls.quiet_of (refTurned_N _ _ _ (by decide) (by decide))))
              rw [unhide HT2]
              clear c0 c1 c2 c3 c4 c5 c6
              go_wp2_with fail
              go_meet
              exact ⟨rfl, hide ((unhide HV1).drewN _), hide ((unhide HW1).drewN _), hide ((unhide HR1).drewN _)⟩
            case rest =>
              obtain ⟨rfl, HV2, HW2, HR2⟩ := hcut
              clear c0 c1 c2 c3 c4 c5 c6 HV1 HW1 HR1
              have c0 := (unhide HV2).cell 0 (by simp)
              have c1 := (unhide HV2).cell 1 (by simp)
              have c2 := (unhide HV2).cell 2 (by simp)
              have c3 := (unhide HV2).cell 3 (by simp)
              have c4 := (unhide HV2).cell 4 (by simp)
              have c5 := (unhide HV2).cell 5 (by simp)
              have c6 := (unhide HV2).cell 6 (by simp)
              simp only [List.getD_cons_zero, List.getD_cons_succ] at c0 c1 c2 c3 c4 c5 c6
              go_wp2_with (first
                | (have _t := tokD; refine wpList_put_arr rfl 63 (.tmp 11) (.tmp 178) rfl (B + 1 + 1 + 1 + 1) (([a, b', c, d, e, f, g, h] : List Int).map (Value.int .u32)).toArray (([(T1 + T2) % 4294967296, a, b', c, (d + T1) % 4294967296, e, f, g] : List Int).map (Value.int .u32)).toArray rfl rfl (unhide HV2) rfl (unhide sz8) (words_one _) ?_; intro w9 M9; clear tokD))
              go_roundw
              case rel => exact ⟨t + 1, _, _, _, _, _, _, _, _, by omega, by go_num, hide (unhide M9).at', hide (((unhide M9).other _ (by omega)).trans (unhide HW2)), hide ((unhide HR2).put (unhide M9) (by omega) (by omega)), hide (by rw [unhide HRN']; show [(tOne e f g h k wt + tTwo a b' c) % 4294967296, a, b', c, (d + tOne e f g h k wt) % 4294967296, e, f, g] = _; rw [unhide HT1', unhide HT2'])⟩
              case measure => simp [intOf]; omega
        · rw [show ((t : Nat) : Int) = 64 from by omega]
          have ht64 : t = 64 := by omega
          subst ht64
          rw [unhide HRN] at HCP
          clear HRN HW HIN
          have HST := hide ((unhide HR).st)
          have HOUT := hide ((unhide HR).out)
          have HBL := hide ((unhide HR).below)
          clear HR
          go_wp2_with fail
          go_loopw [17] (fun x wr => ∃ i : Nat, i ≤ 8 ∧ x = .int .i64 i ∧ Hid (Words wr B 63 (addTo [s0, s1, s2, s3, s4, s5, s6, s7] [a, b', c, d, e, f, g, h] i)) ∧ Hid (Words wr (B + 1 + 1 + 1 + 1) 63 [a, b', c, d, e, f, g, h]) ∧ Hid (wr.heap[B + 1 + 1]? = some (.cells zw8 63 (0, 0))) ∧ Hid (Below B w wr)) (fun x _ => 8 - (intOf x).toNat)
          case atStart => exact ⟨0, by omega, rfl, HST, HV, HOUT, HBL⟩
          case round =>
            clear HST HV HOUT HBL
            obtain ⟨i, hi', rfl, HS, HV, HZ, HBL⟩ := hrel
            by_cases hlt : i < 8
            · have hl8 : (addTo [s0, s1, s2, s3, s4, s5, s6, s7] [a, b', c, d, e, f, g, h] i).length = 8 := addTo_len _ _ _
              have ct := (unhide HS).cell i (by omega)
              have cf := (unhide HS).free i
              have cv := (unhide HV).cell i (by simpa using hlt)
              have i1 : (i : Int) < 8 := by omega
              have i2 : (0 : Int) ≤ (i : Int) := by omega
              have HAd : Hid (addTo [s0, s1, s2, s3, s4, s5, s6, s7] [a, b', c, d, e, f, g, h] (i + 1) = (addTo [s0, s1, s2, s3, s4, s5, s6, s7] [a, b', c, d, e, f, g, h] i).set i (((addTo [s0, s1, s2, s3, s4, s5, s6, s7] [a, b', c, d, e, f, g, h] i).getD i 0 + ([a, b', c, d, e, f, g, h] : List Int).getD i 0) % 4294967296)) := hide rfl
              generalize ([a, b', c, d, e, f, g, h] : List Int).getD i 0 = n at *
              generalize (addTo [s0, s1, s2, s3, s4, s5, s6, s7] [a, b', c, d, e, f, g, h] i).getD i 0 = m at *
              clear hl8
              have HS2 : Hid (Words (wr.setCell ⟨B, i, none⟩ (.int .u32 ((m + n) % 4294967296))) B 63 ((addTo [s0, s1, s2, s3, s4, s5, s6, s7] [a, b', c, d, e, f, g, h] i).set i ((m + n) % 4294967296))) := hide ((unhide HS).set i _)
              have HV2 : Hid (Words (wr.setCell ⟨B, i, none⟩ (.int .u32 ((m + n) % 4294967296))) (B + 1 + 1 + 1 + 1) 63 [a, b', c, d, e, f, g, h]) := hide (by unfold Words; rw [heap_setCell_other _ _ _ _ (by simp; omega)]; exact unhide HV)
              have HZ2 : Hid ((wr.setCell ⟨B, i, none⟩ (.int .u32 ((m + n) % 4294967296))).heap[B + 1 + 1]? = some (.cells zw8 63 (0, 0))) := hide (by rw [heap_setCell_other _ _ _ _ (by simp; omega)]; exact unhide HZ)
              have HBL2 := hide ((unhide HBL).setCell (p := ⟨B, i, none⟩) (Nat.le_refl _) (.int .u32 ((m + n) % 4294967296)))
              go_wp2_with fail
              go_region
              go_wp2_with fail
              go_roundw
              case rel => exact ⟨i + 1, by omega, by go_num, hide (by rw [unhide HAd]; exact unhide HS2), HV2, HZ2, hide ((unhide HBL2).drew)⟩
              case measure => simp [intOf]; omega
            · have hi8' : i = 8 := by omega
              subst hi8'
              rw [← unhide HCP] at HS
              have hsp := hide (sizeW (T := 63) sw8 (unhide HR8))
              clear HCP
              have tokF : True := trivial
              have tokG : True := trivial
              go_wp2_with (first
                | (have _t := tokF; refine wpList_load_arr rfl 63 (.tmp 3) rfl B (R.map (Value.int .u32)).toArray 8 _ rfl (unhide HS) Tryd.underlying63 (unhide hsp) ?_; clear tokF)
                | (have _t := tokG; refine wpList_put_arr rfl 63 (.tmp 6) (.tmp 192) rfl (B + 1 + 1) zw8 (R.map (Value.int .u32)).toArray rfl rfl (unhide HZ) (by simp [zw8, unhide HR8]) (unhide hsp) (words_one _) ?_; intro w9 H9; clear tokG))
              refine bodyPost_ret (ret_cell (p := 6) (T := 63) rfl _ _ (B + 1 + 1) (R.map (Value.int .u32)).toArray 8 _ rfl (unhide H9).at' Tryd.underlying63 (unhide hsp)) rfl ⟨?_, (unhide H9).below B w (unhide HBL) (by omega)⟩
              rw [unhide HRR]

theorem block_any (st ks bs : List Int) (b off cap : Nat) (w : World) (hst : st.length = 8) (hk : ks.length = 64) (hl : bs.length = 64)
    (hc : ∀ j, j < 64 → w.cell? ⟨b, off + j, none⟩ = some (.int .u8 (bs.getD j 0))) (hs : ∀ c ∈ bs, 0 ≤ c ∧ c ≤ 255) (hbB : b < w.heap.size) :
    Calls Tryd.prog 38 #[.agg (st.map (Value.int .u32)).toArray, .agg (ks.map (Value.int .u32)).toArray, .slice (some ⟨b, off, none⟩) 64 cap] w fun e w' => e = .returned (.agg ((comp ks st bs).map (Value.int .u32)).toArray) ∧ Below w.heap.size w w' := by
  match st, hst with
  | [s0, s1, s2, s3, s4, s5, s6, s7], _ => exact block8 s0 s1 s2 s3 s4 s5 s6 s7 ks bs b off cap w hk hl hc hs hbB
end Go.Proofs.YtjgjebohbgbimaaDoor
