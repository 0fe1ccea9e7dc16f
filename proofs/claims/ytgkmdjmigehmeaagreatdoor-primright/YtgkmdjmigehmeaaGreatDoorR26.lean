/-
  Arrays of bytes compared as values; no conditions.
-/
import Derived.Test.YtgkmdjmigehmeaaGreatDoorR02
import Derived.Laws.StructEq
import Derived.Deep.MidRow
import Derived.Test.YtgkmdjmigehmeaaGreatDoorR25
import Derived.Laws.CopyOwn
import Derived.Laws.IdiomCopy
import Derived.Deep.RegionHeld3
namespace Go.Proofs.YtgkmdjmigehmeaaGreatDoor
set_option linter.unusedVariables false
set_option linter.unusedSimpArgs false
set_option maxRecDepth 100000
set_option maxHeartbeats 16000000
open Go.RowKit
def hc (st bf : List Int) (n : Nat) : List Value := st.map (Value.int .u32) ++ (bf.map (Value.int .u8) ++ [.int .u64 n])
def Hsh (w : World) (g : Nat) (st bf : List Int) (n : Nat) : Prop := w.heap[g]? = some (.cells (hc st bf n).toArray 151 (0, 0))
theorem hc_len {st bf : List Int} {n : Nat} (h1 : st.length = 8) (h2 : bf.length = 64) : (hc st bf n).length = 73 := by simp [hc, h1, h2]
theorem hc_one (st bf : List Int) (n : Nat) : (hc st bf n).toArray.all (·.oneCell') = true :=
 all_oneCell_toArray (by
  intro v hv
  simp only [hc, List.mem_append, List.mem_map, List.mem_singleton] at hv
  rcases hv with ⟨_, _, rfl⟩ | ⟨_, _, rfl⟩ | rfl <;> rfl)
def H0 : List Int := [1779033703, 3144134277, 1013904242, 2773480762, 1359893119, 2600822924, 528734635, 1541459225]
theorem H0_len : H0.length = 8 := rfl
theorem H0_bounds : ∀ y ∈ H0, 0 ≤ y ∧ y ≤ 4294967295 := by decide
def zh : Array Value := (hc (List.replicate 8 0) (List.replicate 64 0) 0).toArray
theorem zih : ∃ i, Tryz.prog.info? 151 = some i ∧ i.zero = some (.agg zh) := zinfo (by kernel_rfl)
theorem szh : (Tryz.prog.info? 151).map (·.size) = some 73 := by kernel_rfl
theorem szh' {st bf : List Int} {n : Nat} (h1 : st.length = 8) (h2 : bf.length = 64) : (Tryz.prog.info? 151).map (·.size) = some (hc st bf n).toArray.size := by
 rw [show (hc st bf n).toArray.size = 73 by simpa using hc_len h1 h2]
 exact szh
theorem new_any {t0 : TypeId} (w : World) (h0 : Words w 1 t0 H0) :
  Calls Tryz.prog 140 #[] w fun e w' => e = .returned (.pointer (some ⟨w.heap.size, 0, none⟩)) ∧ Made w w' (hc H0 (List.replicate 64 0) 0).toArray 151 := by
 have H0' := hide h0
 have hsp := hide (sizeW (T := 113) sw8 H0_len)
 have hfold : List.foldl (fun (cs : Array Value) (x : Value × Nat) => cs.setIfInBounds x.snd x.fst) zh (H0.map (Value.int .u32)).zipIdx = (hc H0 (List.replicate 64 0) 0).toArray := by kernel_rfl
 have hz57 : ∀ w, Sem.run Tryz.prog (zeroValue 151) w = .ok (.agg zh) w := by
  intro w
  obtain ⟨i0, hi, hz⟩ := zih
  simp [zeroValue, typeInfo, hi, hz, Result.andThen]
 have hL : H0.length = 8 := rfl
 have hzs : zh.size = 73 := by decide
 clear h0
 have tokA : True := trivial
 generalize H0 = L at *
 generalize (hc L (List.replicate 64 0) 0).toArray = C at *
 generalize zh = Z at *
 go_enter Tryz.func140, Tryz.ntmps140
 go_wp2_with (first
  | (have _t := tokA; refine wpList_load_tbl rfl 113 (.global 1) rfl 1 (L.map (Value.int .u32)).toArray 8 _ t0 rfl (uh H0') Tryz.underlying113 (uh hsp) ?_; clear tokA))
 go_ret
 exact ⟨rfl, Made.mk'⟩
theorem zh_size {st bf : List Int} {n : Nat} (h1 : st.length = 8) (h2 : bf.length = 64) : zh.size = (hc st bf n).toArray.size := by
 have := hc_len (n := n) h1 h2
 simp only [List.size_toArray, this]
 rfl
def byteI (st : List Int) (i : Nat) : Int := st.getD (i / 4) 0 / 2 ^ (24 - 8 * (i % 4)) % 256
def bytesL (st : List Int) : List Int := (List.range 32).map (byteI st)
theorem bytesL_len (st : List Int) : (bytesL st).length = 32 := by simp [bytesL]
theorem bytesL_bounds (st : List Int) : ∀ y ∈ bytesL st, 0 ≤ y ∧ y ≤ 255 := by
 intro y hy
 obtain ⟨i, _, rfl⟩ := List.mem_map.1 hy
 unfold byteI
 omega
theorem bytesOf_any (st : List Int) (w : World) (h1 : st.length = 8) (hb : ∀ y ∈ st, 0 ≤ y ∧ y ≤ 4294967295) :
  Calls Tryz.prog 163 #[.agg (st.map (Value.int .u32)).toArray] w fun e w' => e = .returned (.agg ((bytesL st).map (Value.int .u8)).toArray) ∧ Below w.heap.size w w' := by
 obtain ⟨i0, hi, hz⟩ := zi32
 obtain ⟨w1, hw1⟩ : ∃ w1, w.alloc (.cells (st.map (Value.int .u32)).toArray 113) = w1 := ⟨_, rfl⟩
 have M1 : Hid (Made w w1 (st.map (Value.int .u32)).toArray 113) := hide (by rw [← hw1]; exact Made.mk')
 have z1 : w1.heap.size = w.heap.size + 1 := (uh M1).size
 have HB := hide hb
 have HL := hide h1
 clear hb h1
 have tokA : True := trivial
 have tokB : True := trivial
 go_enter Tryz.func163, Tryz.ntmps163
 go_wp2_with (first
  | (have _t := tokA; refine wpList_new_arr rfl 94 rfl i0 zb32 hi hz ?_; intro w2 M2; clear tokA; have z2 : w2.heap.size = w.heap.size + 1 + 1 := (by rw [(uh M2).size, z1]))
  | (have _t := tokB; refine wpList_new_arr rfl 94 rfl i0 zb32 hi hz ?_; intro w3 M3; clear tokB; have z3 : w3.heap.size = w.heap.size + 1 + 1 + 1 := (by rw [(uh M3).size, z2])))
 have A3 : Hid (Arr8 w3 (w.heap.size + 1 + 1) 94 (List.replicate 32 0)) := hide (by rw [← z2]; exact (uh M3).at')
 have R3 : Hid (w3.heap[w.heap.size + 1]? = some (.cells zb32 94 (0, 0))) := hide (((uh M3).below.block _ (by omega)).trans (by rw [← z1]; exact (uh M2).at'))
 have S3 : Hid (Words w3 w.heap.size 113 st) := hide (((uh M3).below.block _ (by omega)).trans (((uh M2).below.block _ (by omega)).trans (uh M1).at'))
 have B3 : Hid (Below w.heap.size w w3) := hide (((uh M1).below.trans ((uh M2).below.mono (by omega))).trans ((uh M3).below.mono (by omega)))
 clear M1 M2 M3 hw1
 go_loopw [5] (fun x wr => ∃ (i : Nat) (xs : List Int), i ≤ 32 ∧ x = .int .i64 i ∧ Hid (Arr8 wr (w.heap.size + 1 + 1) 94 xs) ∧ Hid (wr.heap[w.heap.size + 1]? = some (.cells zb32 94 (0, 0))) ∧ Hid (Words wr w.heap.size 113 st) ∧ Hid (Below w.heap.size w wr) ∧ Hid (xs.length = 32 ∧ xs.take i = (List.range i).map (byteI st))) (fun x _ => 32 - (intOf x).toNat)
 case atStart => exact ⟨0, List.replicate 32 0, by omega, rfl, A3, R3, S3, B3, hide ⟨rfl, rfl⟩⟩
 case round =>
  clear A3 R3 S3 B3
  obtain ⟨i, xs, hi32, rfl, HX, HZ, HS, HBel, HXL⟩ := hrel
  by_cases hlt : i < 32
  ·have hl := uh HL
   have c1 := (uh HS).cell (i / 4) (by omega)
   have ct := (uh HX).cell i (by have := (uh HXL).1; omega)
   have cf := (uh HX).free i
   have hx := getD_bounds (uh HB) (by omega) (i / 4)
   have hbyte : byteI st i = st.getD (i / 4) 0 / 2 ^ (24 - 8 * (i % 4)) % 256 := rfl
   obtain ⟨j, hj⟩ : ∃ j, i / 4 = j := ⟨_, rfl⟩
   obtain ⟨r, hr⟩ : ∃ r, i % 4 = r := ⟨_, rfl⟩
   obtain ⟨k, hk⟩ : ∃ k : Nat, 24 - 8 * r = k := ⟨_, rfl⟩
   rw [hj, hr, hk] at hbyte
   rw [hj] at c1 hx
   generalize st.getD j 0 = x at *
   generalize xs.getD i 0 = y0 at *
   have q2 : (i : Int).tdiv 4 = (j : Int) := by rw [Int.tdiv_eq_ediv_of_nonneg (by omega)]; omega
   have q1 : (i : Int) / 4 = (j : Int) := by omega
   have q3 : (i : Int).tmod 4 = (r : Int) := by rw [Int.tmod_eq_emod_of_nonneg (by omega)]; omega
   have q3' : (i : Int) % 4 = (r : Int) := by omega
   have q4 : 24 - 8 * (r : Int) = (k : Int) := by omega
   have q5 : IntKind.i64.wrap (24 - 8 * (r : Int)) = (k : Int) := by rw [IntKind.wrap_i64]; omega
   have q6 : (j : Int) < 8 := by omega
   have q7 : (0 : Int) ≤ (j : Int) := by omega
   have q8 : (k : Int) ≤ 24 := by omega
   have q9 : (0 : Int) ≤ (k : Int) := by omega
   have i1 : (i : Int) < 32 := by omega
   have i2 : (0 : Int) ≤ (i : Int) := by omega
   have HBY := hide hbyte
   clear hl hj hr hk hbyte
   have HX' := hide ((uh HX).set i (x / 2 ^ k % 256))
   have HZ' : Hid ((wr.setCell ⟨w.heap.size + 1 + 1, i, none⟩ (.int .u8 (x / 2 ^ k % 256))).heap[w.heap.size + 1]? = some (.cells zb32 94 (0, 0))) := hide (by rw [heap_setCell_other _ _ _ _ (by simp)]; exact uh HZ)
   have HS' : Hid (Words (wr.setCell ⟨w.heap.size + 1 + 1, i, none⟩ (.int .u8 (x / 2 ^ k % 256))) w.heap.size 113 st) := hide (by unfold Words; rw [heap_setCell_other _ _ _ _ (by simp; omega)]; exact uh HS)
   have HB' := hide ((uh HBel).setCell (p := ⟨w.heap.size + 1 + 1, i, none⟩) (by simp; omega) (.int .u8 (x / 2 ^ k % 256)))
   have HL' : Hid ((xs.set i (x / 2 ^ k % 256)).length = 32 ∧ (xs.set i (x / 2 ^ k % 256)).take (i + 1) = (List.range (i + 1)).map (byteI st)) := hide ⟨by simpa using (uh HXL).1, by
    rw [take_set_next _ _ _ (by have := (uh HXL).1; omega), (uh HXL).2, List.range_succ, List.map_append, List.map_singleton, uh HBY]⟩
   go_wp2_with fail
   go_roundw
   case rel => exact ⟨i + 1, _, by omega, by go_num, HX', HZ', HS', HB', HL'⟩
   case measure => simp [intOf]; omega
  ·have hi' : i = 32 := by omega
   subst hi'
   have hxs : xs = bytesL st := by
    have h := (uh HXL).2
    rw [List.take_of_length_le (by have := (uh HXL).1; omega)] at h
    exact h
   subst hxs
   have hsp := hide (sizeB (T := 94) sb32 (bytesL_len st))
   have HL8 := hide (bytesL_len st)
   have tokF : True := trivial
   have tokG : True := trivial
   obtain ⟨R, HR⟩ : ∃ R, Hid (bytesL st = R) := ⟨_, rfl⟩
   rw [uh HR] at hsp HL8 HX
   go_wp2_with (first
    | (have _t := tokF; refine wpList_load_arr rfl 94 (.tmp 3) rfl (w.heap.size + 1 + 1) (R.map (Value.int .u8)).toArray 32 _ rfl (uh HX) Tryz.underlying94 (uh hsp) ?_; clear tokF)
    | (have _t := tokG; refine wpList_put_arr rfl 94 (.tmp 2) (.tmp 21) rfl (w.heap.size + 1) zb32 (R.map (Value.int .u8)).toArray rfl rfl (uh HZ) (by simp [zb32, uh HL8]) (uh hsp) (bytes_one _) ?_; intro w9 H9; clear tokG))
   exact bodyPost_ret (ret_cell (p := 2) (T := 94) rfl _ _ (w.heap.size + 1) (R.map (Value.int .u8)).toArray 32 _ rfl (uh H9).at' Tryz.underlying94 (uh hsp)) rfl ⟨by rw [uh HR], (uh H9).below w.heap.size w (uh HBel) (by omega)⟩
def step1 (ks : List Int) (s : List Int × List Int × Nat) (c : Int) : List Int × List Int × Nat :=
 if (s.2.2 + 1) % 64 = 0 then (comp ks s.1 (s.2.1.set (s.2.2 % 64) c), s.2.1.set (s.2.2 % 64) c, s.2.2 + 1) else (s.1, s.2.1.set (s.2.2 % 64) c, s.2.2 + 1)
def feed (ks : List Int) (s : List Int × List Int × Nat) (bs : List Int) : List Int × List Int × Nat := bs.foldl (step1 ks) s
theorem feed_app (ks : List Int) (s : List Int × List Int × Nat) (a b : List Int) : feed ks s (a ++ b) = feed ks (feed ks s a) b := by simp [feed]
theorem splice_next {α : Type} (L : List α) (r : Nat) (c : α) (rest : List α) (h : r < L.length) : splice (L.set r c) (r + 1) rest = splice L r (c :: rest) := by
 unfold splice
 have e1 : (L.set r c).take (r + 1) = L.take r ++ [c] := by
  rw [List.take_succ_eq_append_getElem (by simpa using h), List.take_set_of_le (Nat.le_refl r)]
  simp
 have e2 : (L.set r c).drop (r + 1 + rest.length) = L.drop (r + 1 + rest.length) := List.drop_set_of_lt (by omega)
 rw [e1, e2]
 simp only [List.append_assoc, List.cons_append, List.nil_append, List.length_cons]
 rw [show r + 1 + rest.length = r + (rest.length + 1) from by omega]
theorem splice_one {α : Type} (L : List α) (r : Nat) (c : α) (h : r < L.length) : splice L r [c] = L.set r c := by
 rw [← splice_next L r c [] h]
 simp [splice]
theorem feed_chunk (ks : List Int) : ∀ (bs : List Int) (st bf : List Int) (n : Nat), bs ≠ [] → n % 64 + bs.length ≤ 64 → bf.length = 64 →
  feed ks (st, bf, n) bs = (if (n + bs.length) % 64 = 0 then comp ks st (splice bf (n % 64) bs) else st, splice bf (n % 64) bs, n + bs.length)
 | [], _, _, _, h, _, _ => absurd rfl h
 | [c], st, bf, n, _, hl, hb => by
  simp only [feed, List.foldl_cons, List.foldl_nil, step1]
  rw [splice_one bf (n % 64) c (by omega)]
  simp only [List.length_cons, List.length_nil, Nat.zero_add]
  split <;> rfl
 | c :: d :: rest, st, bf, n, _, hl, hb => by
  simp only [List.length_cons] at hl
  have e : feed ks (st, bf, n) (c :: d :: rest) = feed ks (st, bf.set (n % 64) c, n + 1) (d :: rest) := by
   show feed ks (step1 ks (st, bf, n) c) (d :: rest) = _
   unfold step1
   rw [if_neg (by show ¬ (n + 1) % 64 = 0; omega)]
  rw [e, feed_chunk ks (d :: rest) st (bf.set (n % 64) c) (n + 1) (by simp) (by simp; omega) (by simpa using hb)]
  have e2 : (n + 1) % 64 = n % 64 + 1 := by omega
  rw [e2, splice_next bf (n % 64) c (d :: rest) (by omega)]
  simp only [List.length_cons]
  simp only [show n + 1 + (rest.length + 1) = n + (rest.length + 1 + 1) from by omega]
theorem hc_splice {st bf : List Int} {n : Nat} (h1 : st.length = 8) (r : Nat) (cs : List Int) (hf : r + cs.length ≤ bf.length) :
  splice (hc st bf n) (8 + r) (cs.map (Value.int .u8)) = hc st (splice bf r cs) n := by
 have hA : (st.map (Value.int .u32)).length = 8 := by simp [h1]
 unfold splice hc
 have t1 : ((st.map (Value.int .u32)) ++ (bf.map (Value.int .u8) ++ [Value.int .u64 (n : Int)])).take (8 + r) = st.map (Value.int .u32) ++ (bf.take r).map (Value.int .u8) := by
  rw [← hA, List.take_append, Nat.add_sub_cancel_left, List.take_of_length_le (by omega), List.take_append_of_le_length (by simp; omega), List.map_take]
 have t2 : ((st.map (Value.int .u32)) ++ (bf.map (Value.int .u8) ++ [Value.int .u64 (n : Int)])).drop (8 + r + (cs.map (Value.int .u8)).length) = (bf.drop (r + cs.length)).map (Value.int .u8) ++ [Value.int .u64 (n : Int)] := by
  rw [List.length_map, Nat.add_assoc, ← hA, ← List.drop_drop, List.drop_left, List.drop_append_of_le_length (by simp; omega), List.map_drop]
 rw [t1, t2]
 simp only [List.map_append, List.append_assoc]
theorem hc_state {st st' bf : List Int} {n : Nat} (h1 : st.length = 8) (h2 : st'.length = 8) : splice (hc st bf n) 0 (st'.map (Value.int .u32)) = hc st' bf n := by
 unfold splice hc
 rw [List.take_zero, List.nil_append, Nat.zero_add, List.length_map, h2, ← h1]
 rw [show st.length = (st.map (Value.int .u32)).length by simp, List.drop_left]
theorem hc_taken {st bf : List Int} {n m : Nat} (h1 : st.length = 8) (h2 : bf.length = 64) : (hc st bf n).set 72 (.int .u64 m) = hc st bf m := by
 unfold hc
 rw [List.set_append_right _ _ (by simp; omega), List.set_append_right _ _ (by simp; omega)]
 simp [h1, h2]
theorem Hsh.taken {w : World} {g : Nat} {st bf : List Int} {n : Nat} (h : Hsh w g st bf n) (h1 : st.length = 8) (h2 : bf.length = 64) : w.cell? ⟨g, 72, none⟩ = some (.int .u64 n) := by
 rw [cell_of_row w g 72 _ _ (0, 0) h]
 simp [hc, h1, h2]
theorem Hsh.free {w : World} {g : Nat} {st bf : List Int} {n : Nat} (h : Hsh w g st bf n) (j : Nat) : w.frozen? ⟨g, j, none⟩ = false := frozen_of_row w g j _ _ h
theorem Hsh.setTaken {w : World} {g : Nat} {st bf : List Int} {n : Nat} (h : Hsh w g st bf n) (h1 : st.length = 8) (h2 : bf.length = 64) (m : Nat) : Hsh (w.setCell ⟨g, 72, none⟩ (.int .u64 m)) g st bf m := by
 have := heap_setCell_same w g 72 _ _ (.int .u64 m) h
 unfold Hsh
 rw [this, List.setIfInBounds_toArray, hc_taken h1 h2]
theorem Hsh.state {w : World} {g : Nat} {st bf : List Int} {n : Nat} (h : Hsh w g st bf n) : w.rangeAt g 0 (st.map (Value.int .u32)) := by
 intro j v hv
 have hj : j < st.length := by simpa using (List.getElem?_eq_some_iff.1 hv).1
 rw [Nat.zero_add, cell_of_row w g j _ _ (0, 0) h, ← hv]
 unfold hc
 rw [List.getElem?_toArray, List.getElem?_append_left (by simpa using hj)]
theorem Hsh.block {w : World} {g : Nat} {st bf : List Int} {n : Nat} (h : Hsh w g st bf n) (h1 : st.length = 8) : w.rangeAt g 8 (bf.map (Value.int .u8)) := by
 intro j v hv
 have hj : j < bf.length := by simpa using (List.getElem?_eq_some_iff.1 hv).1
 rw [cell_of_row w g (8 + j) _ _ (0, 0) h, ← hv]
 unfold hc
 rw [List.getElem?_toArray, List.getElem?_append_right (by simp; omega), List.getElem?_append_left (by simp [h1]; omega)]
 simp [h1]
structure Keeps (w w' : World) (g : Nat) : Prop where
 zero : Below 0 w w'
 other : ∀ k, k < w.heap.size → k ≠ g → w'.heap[k]? = w.heap[k]?
theorem Keeps.refl (w : World) (g : Nat) : Keeps w w g := ⟨Below.refl _ _, fun _ _ _ => rfl⟩
theorem Keeps.size {w w' : World} {g : Nat} (h : Keeps w w' g) : w.heap.size ≤ w'.heap.size := h.zero.size
theorem Keeps.trans {w w1 w2 : World} {g : Nat} (h : Keeps w w1 g) (k : Keeps w1 w2 g) : Keeps w w2 g :=
 ⟨h.zero.trans k.zero, fun j hj hne => (k.other j (Nat.lt_of_lt_of_le hj h.size) hne).trans (h.other j hj hne)⟩
theorem Keeps.of_put {w w' : World} {g : Nat} {c : Array Value} {T : TypeId} (h : Put w w' g c T) : Keeps w w' g :=
 ⟨h.below 0 w (Below.refl _ _) (Nat.zero_le _), fun k _ hne => h.other k hne⟩
theorem Keeps.of_below {w w' : World} {g : Nat} (h : Below w.heap.size w w') : Keeps w w' g := ⟨h.mono (Nat.zero_le _), fun k hk _ => h.block k hk⟩
theorem Keeps.of_set {w : World} {g j : Nat} (v : Value) : Keeps w (w.setCell ⟨g, j, none⟩ v) g :=
 ⟨(Below.refl 0 w).setCell (Nat.zero_le _) v, fun k _ hne => heap_setCell_other w _ k v hne⟩
theorem Keeps.below {B g : Nat} {a w w' : World} (h : Keeps w w' g) (hb : Below B a w) (hB : B ≤ g) (hw : B ≤ w.heap.size) : Below B a w' :=
 ⟨h.zero.os.trans hb.os, h.zero.tape.trans hb.tape, h.zero.output.trans hb.output, Nat.le_trans hb.size h.size, fun k hk => (h.other k (by omega) (by omega)).trans (hb.block k hk)⟩
theorem setCells_put (g : Nat) (T : TypeId) : ∀ (vs cur : List Value) (o : Nat) (w : World), w.heap[g]? = some (.cells cur.toArray T (0, 0)) → o + vs.length ≤ cur.length → Put w (w.setCells g o vs) g (splice cur o vs).toArray T
 | [], cur, o, w, h, _ => by
  have e : splice cur o [] = cur := by simp [splice]
  rw [e]
  exact ⟨h, rfl, fun _ _ => rfl, fun _ _ h _ => h⟩
 | v :: vs, cur, o, w, h, hl => by
  simp only [List.length_cons] at hl
  have h' : (w.setCell ⟨g, o, none⟩ v).heap[g]? = some (.cells (cur.set o v).toArray T (0, 0)) := by
   rw [heap_setCell_same w g o _ T v h]
   simp
  have k := setCells_put g T vs (cur.set o v) (o + 1) (w.setCell ⟨g, o, none⟩ v) h' (by simp; omega)
  rw [splice_next cur o v vs (by omega)] at k
  have s1 := ((Below.refl w.heap.size w)).size
  refine ⟨k.at', k.size.trans ?_, fun j hj => (k.other j hj).trans (heap_setCell_other w _ j v hj), fun B a hb hB => k.below B a (hb.setCell hB v) hB⟩
  simp [World.setCell]
theorem step_copy_put {P : Program} {ops : Array Oper} {o : Oper} {a : Act} {w : World} {K : Act → World → Prop} {Q : Exit → Act → World → Prop} {E : Prop} (hgd : o.guard = none) (d s : Operand) (dT sT : TypeId)
  (ho : o.op = .call { callee := .builtin .copy, args := #[d, s], argTypes := #[dT, sT] }) (elem : TypeId) (hu : P.underlying dT = some (.slice elem)) (hsz : (P.info? elem).map (·.size) = some 1)
  (g off dLen dCap : Nat) (ad : Addr) (sLen sCap : Nat) (hd : a.eval d = .slice (some ⟨g, off, none⟩) dLen dCap) (hs : a.eval s = .slice (some ad) sLen sCap)
  (cur : List Value) (t : TypeId) (hg : w.heap[g]? = some (.cells cur.toArray t (0, 0))) (cs : List Value) (hn : cs.length = Nat.min sLen dLen)
  (hsrc : ∀ j v, cs[j]? = some v → w.cell? (ad.add j) = some v) (hfit : off + cs.length ≤ cur.length) (h1 : ∀ v ∈ cs, v.oneCell' = true)
  (h : ∀ w', Hid (Put w w' g (splice cur off cs).toArray t) → K (a.put o.dst (goInt cs.length)) w') :
  if Region.wanted o (yielded ops a.tmps) = true then Oper.wp P o a w K Q else E := by
 have hw : Region.wanted o (yielded ops a.tmps) = true := by simp [Region.wanted, hgd]
 rw [if_pos hw]
 have hrun := run_copy_row (P := P) w dT sT o.type elem g off dLen dCap ad sLen sCap cur.toArray t cs hu hsz hg hn hsrc (by simpa using hfit) h1
 unfold Oper.wp
 simp [execOp, ho, resolve, invoke, builtin, hd, hs, hrun, Result.andThen]
 have hp : Put w (w.setRow g (splice cur off cs).toArray) g (splice cur off cs).toArray t := Put.mk' hg
 have := h _ hp
 unfold splice at this
 exact this
theorem take_at {P : Program} {md : Region.Mode} {ops : Array Oper} {Q : Exit → Act → World → Prop} {S : World → Prop} {fuel : Nat} {listed : Array Bool} {a : Act} {w : World} (i : Nat) {oi : Oper} {v : Value} (d : Option Tmp) (hi : ops[i]? = some oi) (hd : oi.dst = d)
  (hs : Region.noSelect ops = true) (hf : Region.free md ops listed i = true) (hr : (Region.ready md ops listed).contains i = true)
  (hQ : ∀ c a w, Q (.panic c) (a.put d v) w → Q (.panic c) a w) (hy : YieldsIf P ops S oi v a) (hS : S w)
  (h : wpAnyH P md ops Q S fuel (listed.setIfInBounds i true) (a.put d v) w) : wpAnyH P md ops Q S (fuel + 1) listed a w := by
 subst hd
 exact wpAnyH_take hi hs hf hr hQ hy hS h
theorem yields_move {P : Program} {ops : Array Oper} {S : World → Prop} {a : Act} {oi : Oper} (x : Operand) (ho : oi.op = .move x ∨ oi.op = .assign x) (hg : oi.guard = none) {v : Value} (hv : a.eval x = v) : YieldsIf P ops S oi v a :=
 .inl ⟨by simp [Region.wanted, hg], fun w _ => by
  rcases ho with ho | ho <;> simp [execOp, ho, hv]⟩
theorem ready_load {P : Program} {md : Region.Mode} {ops : Array Oper} {Q : Exit → Act → World → Prop} {S : World → Prop} {fuel : Nat} {listed : Array Bool} {a : Act} {w : World} (i : Nat) {o : Oper} (d : Option Tmp) (hr : Region.ready md ops listed = [i]) (ho : ops[i]? = some o) (hd : o.dst = d) (hg : o.guard = none) (ty : TypeId) (x : Operand) (hop : o.op = .load ty x)
  (b off : Nat) (hx : a.eval x = .pointer (some ⟨b, off, none⟩)) (cs : List Value) (ds : TypeDesc) (hc : w.rangeAt b off cs) (hu : P.underlying ty = some ds) (hdr : ds.isRow = true) (hi : (P.info? ty).map (·.size) = some cs.length) (hS : S w)
  (h : wpAnyH P md ops Q S fuel (listed.setIfInBounds i true) (a.put d (.agg cs.toArray)) w) : wpAnyH P md ops Q S (fuel + 1) listed a w := by
 subst hd
 refine wpAnyH_ready hr (by simp) (AllReadyH.cons ho (fun K hK => ?_) AllReadyH.nil)
 rw [if_pos (by simp [Region.wanted, hg])]
 exact wp_load_mid ty x hop b off hx cs ds hc hu hdr hi (hK.out _ _ hS (fun _ => h))
theorem ready_store {P : Program} {md : Region.Mode} {ops : Array Oper} {Q : Exit → Act → World → Prop} {S : World → Prop} {fuel : Nat} {listed : Array Bool} {a : Act} {w : World} (i : Nat) {o : Oper} (d : Option Tmp) (hr : Region.ready md ops listed = [i]) (ho : ops[i]? = some o) (hd : o.dst = d) (hg : o.guard = none) (ty : TypeId) (x y : Operand) (hop : o.op = .store ty x y)
  (b off : Nat) (cells : Array Value) (hx : a.eval x = .pointer (some ⟨b, off, none⟩)) (hy : a.eval y = .agg cells) (ht : w.there b off cells.size) (hi : (P.info? ty).map (·.size) = some cells.size) (h1 : cells.all (·.oneCell') = true)
  (hS : S (w.setCells b off cells.toList))
  (h : wpAnyH P md ops Q S fuel (listed.setIfInBounds i true) (a.put d undef) (w.setCells b off cells.toList)) : wpAnyH P md ops Q S (fuel + 1) listed a w := by
 subst hd
 refine wpAnyH_ready hr (by simp) (AllReadyH.cons ho (fun K hK => ?_) AllReadyH.nil)
 rw [if_pos (by simp [Region.wanted, hg])]
 exact wp_store_mid ty x y hop b off cells hx hy ht hi h1 (hK.out _ _ hS (fun _ => h))
end Go.Proofs.YtgkmdjmigehmeaaGreatDoor
