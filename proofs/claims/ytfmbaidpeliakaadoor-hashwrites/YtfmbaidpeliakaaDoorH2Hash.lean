/-
  A Hash in memory: its state, its block, how many bytes it has taken; New, Copy, bytesOf; conditions: the package's variable start.
-/
import Derived.Test.YtfmbaidpeliakaaDoorH2Take
import Derived.Test.YtfmbaidpeliakaaDoorArrG
namespace Go.Proofs.YtfmbaidpeliakaaDoor
open Go.RowKit

/-- the cells of a Hash -/
def hc (st bf : List Int) (n : Nat) : List Value := st.map (Value.int .u32) ++ (bf.map (Value.int .u8) ++ [.int .u64 n])

/-- a Hash in memory -/
def Hsh (w : World) (g : Nat) (st bf : List Int) (n : Nat) : Prop := w.heap[g]? = some (.cells (hc st bf n).toArray 44 (0, 0))

theorem hc_len {st bf : List Int} {n : Nat} (h1 : st.length = 8) (h2 : bf.length = 64) : (hc st bf n).length = 73 := by simp [hc, h1, h2]
theorem hc_one (st bf : List Int) (n : Nat) : (hc st bf n).toArray.all (·.oneCell') = true :=
  all_oneCell_toArray (by
    intro v hv
    simp only [hc, List.mem_append, List.mem_map, List.mem_singleton] at hv
    rcases hv with ⟨_, _, rfl⟩ | ⟨_, _, rfl⟩ | rfl <;> rfl)

def H0 : List Int := [1779033703, 3144134277, 1013904242, 2773480762, 1359893119, 2600822924, 528734635, 1541459225]
theorem H0_len : H0.length = 8 := rfl
theorem H0_bounds : ∀ y ∈ H0, 0 ≤ y ∧ y ≤ 4294967295 := by decide

def zh : Array Value := (hc (List.replicate 8 0) (List.replicate 64 0) 0).toArray
theorem zih : ∃ i, Tryd.prog.info? 44 = some i ∧ i.zero = some (.agg zh) := zinfo (by kernel_rfl)
theorem szh : (Tryd.prog.info? 44).map (·.size) = some 73 := by kernel_rfl
theorem szh' {st bf : List Int} {n : Nat} (h1 : st.length = 8) (h2 : bf.length = 64) : (Tryd.prog.info? 44).map (·.size) = some (hc st bf n).toArray.size := by
  rw [show (hc st bf n).toArray.size = 73 by simpa using hc_len h1 h2]
  exact szh

set_option maxRecDepth 100000 in
set_option maxHeartbeats 400000 in
theorem new_any {t0 : TypeId} (w : World) (h0 : Words w 0 t0 H0) :
    Calls Tryd.prog 4 #[] w fun e w' => e = .returned (.pointer (some ⟨w.heap.size, 0, none⟩)) ∧ Made w w' (hc H0 (List.replicate 64 0) 0).toArray 44 := by
  have H0' := hide h0
  have hsp := hide (sizeW (T := 40) sw8 H0_len)
  have hfold : List.foldl (fun (cs : Array Value) (x : Value × Nat) => cs.setIfInBounds x.snd x.fst) zh (H0.map (Value.int .u32)).zipIdx = (hc H0 (List.replicate 64 0) 0).toArray := by kernel_rfl
  have hz57 : ∀ w, Sem.run Tryd.prog (zeroValue 44) w = .ok (.agg zh) w := by
    intro w
    obtain ⟨i0, hi, hz⟩ := zih
    simp [zeroValue, typeInfo, hi, hz, Result.andThen]
  have hL : H0.length = 8 := rfl
  have hzs : zh.size = 73 := by decide
  clear h0
  have tokA : True := trivial
  generalize H0 = L at *
  generalize (hc L (List.replicate 64 0) 0).toArray = C at *
  generalize zh = Z at *
  go_enter Tryd.func4, Tryd.ntmps4
  go_wp2_with (first
    | (have _t := tokA; refine wpList_load_tbl rfl 40 (.global 0) rfl 0 (L.map (Value.int .u32)).toArray 8 _ t0 rfl (unhide H0') Tryd.underlying40 (unhide hsp) ?_; clear tokA))
  go_ret
  exact ⟨rfl, Made.mk'⟩

theorem copy_nil (w : World) : Calls Tryd.prog 10 #[.pointer none] w fun e w' => e = .returned (.pointer none) ∧ w' = w := by
  go_enter Tryd.func10, Tryd.ntmps10
  go_wp2
  go_ret
  exact ⟨rfl, rfl⟩

theorem zh_size {st bf : List Int} {n : Nat} (h1 : st.length = 8) (h2 : bf.length = 64) : zh.size = (hc st bf n).toArray.size := by
  have := hc_len (n := n) h1 h2
  simp only [List.size_toArray, this]
  rfl

set_option maxRecDepth 100000 in
set_option maxHeartbeats 400000 in
theorem copy_any (g : Nat) (st bf : List Int) (n : Nat) (w : World) (hh : Hsh w g st bf n) (h1 : st.length = 8) (h2 : bf.length = 64) :
    Calls Tryd.prog 10 #[.pointer (some ⟨g, 0, none⟩)] w fun e w' => e = .returned (.pointer (some ⟨w.heap.size, 0, none⟩)) ∧ Made w w' (hc st bf n).toArray 44 := by
  obtain ⟨i0, hi, hz⟩ := zih
  have HH := hide hh
  have S1 := hide (szh' (n := n) h1 h2)
  have S2 := hide (zh_size (n := n) h1 h2)
  have S3 := hide (hc_one st bf n)
  clear hh h1 h2
  unfold Hsh at HH
  generalize (hc st bf n).toArray = C at *
  have tokA : True := trivial
  have tokB : True := trivial
  have tokC : True := trivial
  go_enter Tryd.func10, Tryd.ntmps10
  go_wp2_with (first
    | (have _t := tokA; refine wpList_load_blk rfl 44 (.tmp 7) rfl g C _ rfl (unhide HH) Tryd.underlying44 rfl (unhide S1) ?_; clear tokA)
    | (have _t := tokB; refine wpList_new_arr rfl 44 rfl i0 zh hi hz ?_; intro w2 M2; clear tokB)
    | (have _t := tokC; refine wpList_put_arr rfl 44 (.tmp 3) (.tmp 8) rfl w.heap.size zh C rfl rfl (unhide M2).at' (unhide S2) (unhide S1) (unhide S3) ?_; intro w3 M3; clear tokC))
  go_ret
  exact ⟨rfl, (unhide M3).at', (unhide M3).size.trans (unhide M2).size, (unhide M3).below _ _ (unhide M2).below (Nat.le_refl _)⟩

/-- a digest's byte i -/
def byteI (st : List Int) (i : Nat) : Int := st.getD (i / 4) 0 / 2 ^ (24 - 8 * (i % 4)) % 256

def bytesL (st : List Int) : List Int := (List.range 32).map (byteI st)

theorem bytesL_len (st : List Int) : (bytesL st).length = 32 := by simp [bytesL]
theorem bytesL_bounds (st : List Int) : ∀ y ∈ bytesL st, 0 ≤ y ∧ y ≤ 255 := by
  intro y hy
  obtain ⟨i, _, rfl⟩ := List.mem_map.1 hy
  unfold byteI
  omega

set_option maxRecDepth 100000 in
set_option maxHeartbeats 1000000 in
theorem bytesOf_any (st : List Int) (w : World) (h1 : st.length = 8) (hb : ∀ y ∈ st, 0 ≤ y ∧ y ≤ 4294967295) :
    Calls Tryd.prog 12 #[.agg (st.map (Value.int .u32)).toArray] w fun e w' => e = .returned (.agg ((bytesL st).map (Value.int .u8)).toArray) ∧ Below w.heap.size w w' := by
  obtain ⟨i0, hi, hz⟩ := zi32
  obtain ⟨w1, hw1⟩ : ∃ w1, w.alloc (.cells (st.map (Value.int .u32)).toArray 40) = w1 := ⟨_, rfl⟩
  have M1 : Hid (Made w w1 (st.map (Value.int .u32)).toArray 40) := hide (by rw [← hw1]; exact Made.mk')
  have z1 : w1.heap.size = w.heap.size + 1 := (unhide M1).size
  have HB := hide hb
  have HL := hide h1
  clear hb h1
  have tokA : True := trivial
  have tokB : True := trivial
  go_enter Tryd.func12, Tryd.ntmps12
  go_wp2_with (first
    | (have _t := tokA; refine wpList_new_arr rfl 26 rfl i0 zb32 hi hz ?_; intro w2 M2; clear tokA; have z2 : w2.heap.size = w.heap.size + 1 + 1 := (by rw [(unhide M2).size, z1]))
    | (have _t := tokB; refine wpList_new_arr rfl 26 rfl i0 zb32 hi hz ?_; intro w3 M3; clear tokB; have z3 : w3.heap.size = w.heap.size + 1 + 1 + 1 := (by rw [(unhide M3).size, z2])))
  have A3 : Hid (Arr8 w3 (w.heap.size + 1 + 1) 26 (List.replicate 32 0)) := hide (by rw [← z2]; exact (unhide M3).at')
  have R3 : Hid (w3.heap[w.heap.size + 1]? = some (.cells zb32 26 (0, 0))) := hide (((unhide M3).below.block _ (by omega)).trans (by rw [← z1]; exact (unhide M2).at'))
  have S3 : Hid (Words w3 w.heap.size 40 st) := hide (((unhide M3).below.block _ (by omega)).trans (((unhide M2).below.block _ (by omega)).trans (unhide M1).at'))
  have B3 : Hid (Below w.heap.size w w3) := hide (((unhide M1).below.trans ((unhide M2).below.mono (by omega))).trans ((unhide M3).below.mono (by omega)))
  clear M1 M2 M3 hw1
  go_loopw [5] (fun x wr => ∃ (i : Nat) (xs : List Int), i ≤ 32 ∧ x = .int .i64 i ∧ Hid (Arr8 wr (w.heap.size + 1 + 1) 26 xs) ∧ Hid (wr.heap[w.heap.size + 1]? = some (.cells zb32 26 (0, 0))) ∧ Hid (Words wr w.heap.size 40 st) ∧ Hid (Below w.heap.size w wr) ∧ Hid (xs.length = 32 ∧ xs.take i = (List.range i).map (byteI st))) (fun x _ => 32 - (intOf x).toNat)
  case atStart => exact ⟨0, List.replicate 32 0, by omega, rfl, A3, R3, S3, B3, hide ⟨rfl, rfl⟩⟩
  case round =>
    clear A3 R3 S3 B3
    obtain ⟨i, xs, hi32, rfl, HX, HZ, HS, HBel, HXL⟩ := hrel
    by_cases hlt : i < 32
    · have hl := unhide HL
      have c1 := (unhide HS).cell (i / 4) (by omega)
      have ct := (unhide HX).cell i (by have := (unhide HXL).1; omega)
      have cf := (unhide HX).free i
      have hx := getD_bounds (unhide HB) (by omega) (i / 4)
      have hbyte : byteI st i = st.getD (i / 4) 0 / 2 ^ (24 - 8 * (i % 4)) % 256 := rfl
      obtain ⟨j, hj⟩ : ∃ j, i / 4 = j := ⟨_, rfl⟩
      obtain ⟨r, hr⟩ : ∃ r, i % 4 = r := ⟨_, rfl⟩
      obtain ⟨k, hk⟩ : ∃ k : Nat, 24 - 8 * r = k := ⟨_, rfl⟩
      rw [hj, hr, hk] at hbyte
      rw [hj] at c1 hx
      generalize st.getD j 0 = x at *
      generalize xs.getD i 0 = y0 at *
      have q2 : (i : Int).tdiv 4 = (j : Int) := by rw [Int.tdiv_eq_ediv_of_nonneg (by omega)]; omega
      have q1 : (i : Int) / 4 = (j : Int) := by omega
      have q3 : (i : Int).tmod 4 = (r : Int) := by rw [Int.tmod_eq_emod_of_nonneg (by omega)]; omega
      have q3' : (i : Int) % 4 = (r : Int) := by omega
      have q4 : 24 - 8 * (r : Int) = (k : Int) := by omega
      have q5 : IntKind.i64.wrap (24 - 8 * (r : Int)) = (k : Int) := by rw [IntKind.wrap_i64]; omega
      have q6 : (j : Int) < 8 := by omega
      have q7 : (0 : Int) ≤ (j : Int) := by omega
      have q8 : (k : Int) ≤ 24 := by omega
      have q9 : (0 : Int) ≤ (k : Int) := by omega
      have i1 : (i : Int) < 32 := by omega
      have i2 : (0 : Int) ≤ (i : Int) := by omega
      have HBY := hide hbyte
      clear hl hj hr hk hbyte
      have HX' := hide ((unhide HX).set i (x / 2 ^ k % 256))
      have HZ' : Hid ((wr.setCell ⟨w.heap.size + 1 + 1, i, none⟩ (.int .u8 (x / 2 ^ k % 256))).heap[w.heap.size + 1]? = some (.cells zb32 26 (0, 0))) := hide (by rw [heap_setCell_other _ _ _ _ (by simp)]; exact unhide HZ)
      have HS' : Hid (Words (wr.setCell ⟨w.heap.size + 1 + 1, i, none⟩ (.int .u8 (x / 2 ^ k % 256))) w.heap.size 40 st) := hide (by unfold Words; rw [heap_setCell_other _ _ _ _ (by simp; omega)]; exact unhide HS)
      have HB' := hide ((unhide HBel).setCell (p := ⟨w.heap.size + 1 + 1, i, none⟩) (by simp; omega) (.int .u8 (x / 2 ^ k % 256)))
      have HL' : Hid ((xs.set i (x / 2 ^ k % 256)).length = 32 ∧ (xs.set i (x / 2 ^ k % 256)).take (i + 1) = (List.range (i + 1)).map (byteI st)) := hide ⟨by simpa using (unhide HXL).1, by
        rw [take_set_next _ _ _ (by have := (unhide HXL).1; omega), (unhide HXL).2, List.range_succ, List.map_append, List.map_singleton, unhide HBY]⟩
      go_wp2_with fail
      go_roundw
      case rel => exact ⟨i + 1, _, by omega, by go_num, HX', HZ', HS', HB', HL'⟩
      case measure => simp [intOf]; omega
    · have hi' : i = 32 := by omega
      subst hi'
      have hxs : xs = bytesL st := by
        have h := (unhide HXL).2
        rw [List.take_of_length_le (by have := (unhide HXL).1; omega)] at h
        exact h
      subst hxs
      have hsp := hide (sizeB (T := 26) sb32 (bytesL_len st))
      have HL8 := hide (bytesL_len st)
      have tokF : True := trivial
      have tokG : True := trivial
      obtain ⟨R, HR⟩ : ∃ R, Hid (bytesL st = R) := ⟨_, rfl⟩
      rw [unhide HR] at hsp HL8 HX
      go_wp2_with (first
        | (have _t := tokF; refine wpList_load_arr rfl 26 (.tmp 3) rfl (w.heap.size + 1 + 1) (R.map (Value.int .u8)).toArray 32 _ rfl (unhide HX) Tryd.underlying26 (unhide hsp) ?_; clear tokF)
        | (have _t := tokG; refine wpList_put_arr rfl 26 (.tmp 2) (.tmp 21) rfl (w.heap.size + 1) zb32 (R.map (Value.int .u8)).toArray rfl rfl (unhide HZ) (by simp [zb32, unhide HL8]) (unhide hsp) (bytes_one _) ?_; intro w9 H9; clear tokG))
      exact bodyPost_ret (ret_cell (p := 2) (T := 26) rfl _ _ (w.heap.size + 1) (R.map (Value.int .u8)).toArray 32 _ rfl (unhide H9).at' Tryd.underlying26 (unhide hsp)) rfl ⟨by rw [unhide HR], (unhide H9).below w.heap.size w (unhide HBel) (by omega)⟩
end Go.Proofs.YtfmbaidpeliakaaDoor
