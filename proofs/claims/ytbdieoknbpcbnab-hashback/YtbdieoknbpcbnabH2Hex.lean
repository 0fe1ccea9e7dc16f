/-
  The walk of hash.Hex: sixty-four digits of a digest; no conditions.
-/
import Derived.Test.YtbdieoknbpcbnabHexDefs
import Derived.Test.YtbdieoknbpcbnabArrVar
namespace Go.Proofs.Ytbdieoknbpcbnab
open Go.RowKit

def zero64 : Array Value := ((List.replicate 64 (0 : Int)).map (Value.int .u8)).toArray
theorem info64 : (Try.prog.info? 30).map (fun i => (i.zero, i.size)) = some (some (.agg zero64), 64) := by kernel_rfl
theorem size64 : (Try.prog.info? 30).map (·.size) = some 64 := by kernel_rfl
theorem size32' : (Try.prog.info? 22).map (·.size) = some 32 := by kernel_rfl

theorem size1' : (Try.prog.info? 5).map (·.size) = some 1 := by kernel_rfl

theorem arr_at {ds : List Int} {i : Nat} (h : i < ds.length) : (ds.map (Value.int .u8)).toArray[i]? = some (.int .u8 (ds.getD i 0)) := by
  simp [List.getD, h]

set_option maxRecDepth 100000 in
set_option maxHeartbeats 1000000 in
theorem hHex_any (ds : List Int) (w : World) (hd : ds.length = 32) (hb : ∀ c ∈ ds, 0 ≤ c ∧ c ≤ 255) :
    Calls Try.prog 4 #[.agg (ds.map (Value.int .u8)).toArray] w fun e w' => (∃ s : ByteArray, e = .returned (.string s) ∧ s.data.toList = (hexL ds).map fun n => UInt8.ofNat n.toNat) ∧ Below w.heap.size w w' := by
  obtain ⟨i0, hi, hz⟩ : ∃ i, Try.prog.info? 30 = some i ∧ i.zero = some (.agg zero64) := by
    have h := info64
    cases hq : Try.prog.info? 30 with
    | none => rw [hq] at h; cases h
    | some i => rw [hq] at h; simp at h; exact ⟨i, rfl, h.1⟩
  have hs32 : (Try.prog.info? 22).map (·.size) = some (ds.map (Value.int .u8)).toArray.size := by
    rw [show (ds.map (Value.int .u8)).toArray.size = 32 by simp [hd]]
    exact size32'
  have H32 := hide hs32
  have HD := hide hd
  clear hd hs32
  have HA := hide (heap_alloc_new w (.cells (ds.map (Value.int .u8)).toArray 22))
  have HBA := hide ((Below.refl w.heap.size w).alloc (Nat.le_refl _) (.cells (ds.map (Value.int .u8)).toArray 22))
  have hsz : (w.alloc (.cells (ds.map (Value.int .u8)).toArray 22)).heap.size = w.heap.size + 1 := by simp
  have tokA : True := trivial
  have tokB : True := trivial
  go_enter Try.func4, Try.ntmps4
  go_wp2_with (first
    | (have _t := tokA; refine wpList_new_arr rfl 30 rfl i0 zero64 hi hz ?_; intro w2 H2; clear tokA; have hA1 := hide (((unhide H2).below.block w.heap.size (by rw [hsz]; omega)).trans (unhide HA)))
    | (have _t := tokB; refine wpList_load_arr rfl 22 (.tmp 1) rfl w.heap.size (ds.map (Value.int .u8)).toArray 32 5 rfl (unhide hA1) Try.underlying22 (unhide H32) ?_; clear tokB))
  have h2at := (unhide H2).at'
  rw [hsz] at h2at
  have HB2 := hide ((unhide HBA).trans ((unhide H2).below.mono (by rw [hsz]; omega)))
  have HAT := hide h2at
  clear h2at H2 hA1 HA HBA hsz
  go_loopw [7] (fun x wr => ∃ (i : Nat) (xs : List Int), i ≤ 32 ∧ x = .int .i64 i ∧ Hid (Arr8 wr (w.heap.size + 1) 30 xs) ∧ Hid (Below w.heap.size w wr) ∧ Hid (xs.length = 64 ∧ xs.take (2 * i) = hexL (ds.take i))) (fun x _ => 32 - (intOf x).toNat)
  case atStart => exact ⟨0, List.replicate 64 0, by omega, rfl, HAT, HB2, hide ⟨rfl, rfl⟩⟩
  case round =>
    clear HAT HB2
    obtain ⟨i, xs, hi32, rfl, HX, HBel, HL⟩ := hrel
    by_cases hlt : i < 32
    · have hdl := unhide HD
      have hat := arr_at (ds := ds) (i := i) (by omega)
      have rx := run_index_arr (P := Try.prog) wr 22 5 32 (ds.map (Value.int .u8)).toArray .i64 .u8 i _ Try.underlying22 Try.underlying5 size1' hlt hat
      have hc : 0 ≤ ds.getD i 0 ∧ ds.getD i 0 ≤ 255 := by
        have g : ds.getD i 0 = ds[i] := by simp [List.getD, (by omega : i < ds.length)]
        rw [g]; exact hb _ (List.getElem_mem _)
      generalize hcc : ds.getD i 0 = c at *
      have HCC := hide hcc
      clear hat hcc
      have ct1 := (unhide HX).cell (2 * i) (by have := (unhide HL).1; omega)
      have cf1 := (unhide HX).free (2 * i)
      have ct2 := (unhide HX).cell (2 * i + 1) (by have := (unhide HL).1; omega)
      have cf2 := (unhide HX).free (2 * i + 1)
      obtain ⟨k1, hk1⟩ : ∃ k : Nat, (k : Int) = c / 16 := ⟨(c / 16).toNat, by omega⟩
      obtain ⟨k2, hk2⟩ : ∃ k : Nat, (k : Int) = c % 16 := ⟨(c % 16).toNat, by omega⟩
      have q1 : c / 16 = (k1 : Int) := hk1.symm
      have q2 : c % 16 = (k2 : Int) := hk2.symm
      have l1 : k1 < 16 := by omega
      have l2 : k2 < 16 := by omega
      have m1 : (k1 : Int) < 16 := by omega
      have m2 : (k2 : Int) < 16 := by omega
      have z1 : k1 < (⟨#[48, 49, 50, 51, 52, 53, 54, 55, 56, 57, 97, 98, 99, 100, 101, 102]⟩ : ByteArray).size := l1
      have z2 : k2 < (⟨#[48, 49, 50, 51, 52, 53, 54, 55, 56, 57, 97, 98, 99, 100, 101, 102]⟩ : ByteArray).size := l2
      have r1 := digs_at k1 z1
      have r2 := digs_at k2 z2
      have HA' := hide (((unhide HX).set (2 * i) (hexC k1)).set (2 * i + 1) (hexC k2))
      have HB' := hide (((unhide HBel).setCell (p := ⟨w.heap.size + 1, 2 * i, none⟩) (by simp) (.int .u8 (hexC k1))).setCell (p := ⟨w.heap.size + 1, 2 * i + 1, none⟩) (by simp) (.int .u8 (hexC k2)))
      have HL' : Hid (((xs.set (2 * i) (hexC k1)).set (2 * i + 1) (hexC k2)).length = 64 ∧ ((xs.set (2 * i) (hexC k1)).set (2 * i + 1) (hexC k2)).take (2 * (i + 1)) = hexL (ds.take (i + 1))) := hide ⟨by simpa using (unhide HL).1, by
        have hl := unhide HL
        rw [show 2 * (i + 1) = 2 * i + 1 + 1 from by omega, take_set_next _ _ _ (by simp; omega), take_set_next _ _ _ (by omega), hl.2]
        have e : ds.take (i + 1) = ds.take i ++ [c] := by
          rw [List.take_succ_eq_append_getElem (by omega), ← unhide HCC]
          simp [List.getD, (by omega : i < ds.length)]
        rw [e, hexL_app, ← hk1, ← hk2]
        simp⟩
      clear hk1 hk2 hdl
      go_wp2_with fail
      go_roundw
      case rel => exact ⟨i + 1, _, by omega, by go_num, HA', HB', HL'⟩
      case measure => simp [intOf]; omega
    · have hi' : i = 32 := by omega
      subst hi'
      have hl := unhide HD
      have hx := unhide HL
      have hxs : xs = hexL ds := by
        have h := hx.2
        rw [List.take_of_length_le (by omega), List.take_of_length_le (by omega)] at h
        exact h
      have hx1 := hx.1
      subst hxs
      have k := run_convert_bytes_arg (P := Try.prog) wr 28 5 Try.underlying28 Try.underlying5 (w.heap.size + 1) 0 64 64 (hexL ds) hx1 (fun j hj => by rw [Nat.zero_add]; exact (unhide HX).cell j (by omega)) 9 Try.underlying9
      obtain ⟨S, hS⟩ : ∃ S, strOfNums (hexL ds) = S := ⟨_, rfl⟩
      rw [hS] at k
      have HS := hide hS
      clear hS hl hx hx1
      go_wp2_with fail
      go_ret
      exact ⟨⟨S, rfl, by rw [← unhide HS]; rfl⟩, unhide HBel⟩
end Go.Proofs.Ytbdieoknbpcbnab
