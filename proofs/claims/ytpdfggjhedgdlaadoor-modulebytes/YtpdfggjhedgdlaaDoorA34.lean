/-
  What the listed package variables of the seat give the walks; a world that has them; no conditions.
  The walk of the document's words (layer 2): the table K; no conditions.
  What a Hash has taken, block by block: the digest is that of the blocks of the padded message; the padding written out; no conditions.
  Bytes made of a text; texts as lists of numbers; no conditions.
  What a Hash in memory has taken, in one piece; New, Copy, Write, Sum said by it; conditions: the package's variables, no more than 2 to the 63 bytes.
  Append of bytes onto a row of the call's own, nil or not; no conditions but the form's own reach.
-/
import Derived.Test.YtpdfggjhedgdlaaDoorA28
import Derived.Test.YtpdfggjhedgdlaaDoorRows
import Derived.ProofKit
import Derived.LaidMore
import Derived.OpenShut
import Derived.Stop.Joined
import Derived.Test.YtpdfggjhedgdlaaDoorA32
import Derived.Test.YtpdfggjhedgdlaaDoorA29
import Derived.Test.YtpdfggjhedgdlaaDoorA25
import Derived.Lib.ConvBytes
import Derived.Laws.AppendOwn
import Derived.Deep.AppendLies
import Derived.Laws.AppendOwnNone
namespace Go.Proofs.YtpdfggjhedgdlaaDoor
open Go.ChangeShapes Go.WideShapes Go.ChangeAt Go.RowKit

theorem own : ownKnob Tryd.prog.godebug = none := by kernel_rfl
theorem laidOut : laidOutB Tryd.prog = true := by kernel_rfl
theorem gStart : Tryd.prog.globalNamed "scruple/hash.start" = some 0 := by kernel_rfl
theorem gWords : Tryd.prog.globalNamed "scruple/hash.roundWords" = some 1 := by kernel_rfl
theorem tStart : (Tryd.prog.globals[0]?).map (·.type) = some 74 := by kernel_rfl
theorem tWords : (Tryd.prog.globals[1]?).map (·.type) = some 72 := by kernel_rfl
theorem cells1w : Tryd.prog.cellsOf 71 = 1 := by kernel_rfl

def seatLaid : List (String × DataW Unit) := [("scruple/hash.start", Rows.laid_scruple_hash_start), ("scruple/hash.roundWords", Rows.laid_scruple_hash_roundWords)]

/-- the numbers of an array of numbers -/
def numsOf {H : Type} : DataW H → List Int
  | .agg ps => ps.map fun d => match d with | .lit (.int _ n) => n | _ => 0
  | _ => []

def KS : List Int := numsOf (H := Unit) Rows.laid_scruple_hash_roundWords
theorem KS_len : KS.length = 64 := by kernel_rfl
theorem H0_is : numsOf (H := Unit) Rows.laid_scruple_hash_start = H0 := by kernel_rfl

theorem words_of {W : World} {T : TypeId} {n fuel : Nat} {cs : List Value} {d : DataW Unit} {p : List MemPlace} (hu : Tryd.prog.underlying T = some (.array n 71)) (hn : Tryd.prog.cellsOf T = n) (h : DataW.trod (fun _ => ()) Tryd.prog W 0 (fun _ => true) false fuel T cs = some (d, p)) :
    cs = (numsOf d).map (Value.int .u32) := by
  obtain ⟨xs, m, _, hx1, hlen, hn3, hel⟩ := DataW.trod_array hu h
  simp only [Prod.mk.injEq] at hx1
  obtain ⟨rfl, _⟩ := hx1
  rw [hn] at hlen
  refine List.ext_getElem? fun i => ?_
  by_cases hi : i < n
  · have h1 := hel i hi
    rw [List.getElem?_eq_getElem (by omega)] at h1
    obtain ⟨k, e1, e2, _⟩ := DataW.trod_int Tryd.underlying71 h1
    rw [cells1w, Nat.mul_one] at e1
    have e3 : cs[i]? = some (.int .u32 k) := by
      have := congrArg (·[0]?) e1
      simpa using this
    rw [e3]
    simp [numsOf, List.getElem?_eq_getElem (show i < xs.length by omega), e2]
  · rw [List.getElem?_eq_none (by omega), List.getElem?_eq_none (by simp [numsOf]; omega)]

theorem of_laid {W : World} (h : laidMetH Tryd.prog seatLaid W) : ∃ t0 tK, Words W 0 t0 H0 ∧ Words W 1 tK KS := by
  rw [MakeChecks.laidMetH_plain _ _ _ (by kernel_rfl)] at h
  obtain ⟨ps, ⟨g0, t0, cs0, f0, p0, q0, hg0, ht0, hv0, hd0, ⟨g1, t1, cs1, f1, p1, q1, hg1, ht1, hv1, hd1, _, hq⟩, hps⟩, _, hfz⟩ := h
  obtain rfl := Option.some.inj (gStart.symm.trans hg0)
  obtain rfl := Option.some.inj (gWords.symm.trans hg1)
  obtain rfl := Option.some.inj (tStart.symm.trans ht0)
  obtain rfl := Option.some.inj (tWords.symm.trans ht1)
  have e0 := words_of Tryd.underlying74 (by kernel_rfl) hd0
  have e1 := words_of Tryd.underlying72 (by kernel_rfl) hd1
  rw [H0_is] at e0
  have z0 : 0 < cs0.size := by rw [← Array.length_toList, e0]; decide
  have z1 : 0 < cs1.size := by rw [← Array.length_toList, e1]; show 0 < (KS.map _).length; rw [List.length_map, KS_len]; decide
  obtain ⟨⟨c, t, hc⟩, _⟩ := hfz 0 0 (by rw [hps]; exact List.mem_append_left _ (List.mem_append_left _ (MemPlace.mem_row.2 ⟨0, z0, rfl⟩)))
  obtain ⟨⟨c', t', hc'⟩, _⟩ := hfz 1 0 (by rw [hps, hq]; exact List.mem_append_right _ (List.mem_append_left _ (List.mem_append_left _ (MemPlace.mem_row.2 ⟨0, z1, rfl⟩))))
  refine ⟨t, t', ?_, ?_⟩
  · have hv : some cs0 = some c := by rw [← hv0]; unfold World.var?; rw [gStart]; simp [hc]
    cases hv
    unfold Words
    rw [hc, ← e0]
  · have hv : some cs1 = some c' := by rw [← hv1]; unfold World.var?; rw [gWords]; simp [hc']
    cases hv
    unfold Words
    have e2 : KS.map (Value.int .u32) = cs1.toList := e1.symm
    rw [hc', e2]

/-- the door's own heap meets the condition -/
theorem door_met (os : Os) (args : Array Value) : laidMetH Tryd.prog seatLaid ((World.doorLaid Tryd.prog 400 os).forCall (fun _ _ => 0) ⟨#[], args, []⟩).memory :=
  laidMetH_of_parts3 (fuel := 8) (laidMet_of_run' 8 (by kernel_rfl) (by kernel_rfl)) (by kernel_rfl) (by kernel_rfl)
end Go.Proofs.YtpdfggjhedgdlaaDoor

namespace Go.Proofs.YtpdfggjhedgdlaaDoor
open Go.RowKit

theorem ks_size : zw64.size = (KS.map (Value.int .u32)).toArray.size := by kernel_rfl

set_option maxRecDepth 100000 in
set_option maxHeartbeats 1000000 in
theorem refWords_any (w : World) :
    Calls Tryd.prog 34 #[] w fun e w' => e = .returned (.agg (KS.map (Value.int .u32)).toArray) ∧ Below w.heap.size w w' := by
  obtain ⟨i0, hi, hz⟩ := zi64
  have HS := hide ks_size
  have HZ := hide (sizeW (T := 72) sw64 KS_len)
  have tokA : True := trivial
  have tokB : True := trivial
  go_enter Tryd.func34, Tryd.ntmps34
  go_wp2_with (first
    | (have _t := tokA; refine wpList_new_arr rfl 72 rfl i0 zw64 hi hz ?_; intro w1 M1; clear tokA)
    | (have _t := tokB; refine wpList_put_arr rfl 72 (.tmp 0) (.tmp 1) rfl w.heap.size zw64 (KS.map (Value.int .u32)).toArray rfl rfl (unhide M1).at' (unhide HS) (unhide HZ) (words_one _) ?_; intro w2 M2; clear tokB))
  exact bodyPost_ret (ret_cell (p := 0) (T := 72) rfl _ _ w.heap.size (KS.map (Value.int .u32)).toArray 64 _ rfl (unhide M2).at' Tryd.underlying72 (unhide HZ)) rfl ⟨rfl, (unhide M2).below _ _ (unhide M1).below (Nat.le_refl _)⟩
end Go.Proofs.YtpdfggjhedgdlaaDoor

namespace Go.Proofs.YtpdfggjhedgdlaaDoor
open Go.RowKit

/-- the state behind k blocks -/
def foldB (ks st l : List Int) : Nat → List Int
  | 0 => st
  | k + 1 => comp ks (foldB ks st l k) ((l.drop (64 * k)).take 64)

theorem foldB_len (ks st l : List Int) (k : Nat) : (foldB ks st l k).length = st.length := by
  induction k with
  | zero => rfl
  | succ k ih => show (comp ks _ _).length = _; rw [comp_len, ih]

theorem splice_all (bf c : List Int) (h1 : bf.length = 64) (h2 : c.length = 64) : splice bf 0 c = c := by
  unfold splice
  rw [List.take_zero, List.nil_append, Nat.zero_add, h2, List.drop_eq_nil_of_le (by omega), List.append_nil]

theorem feed_blocks (ks st bf l : List Int) (hb : bf.length = 64) : ∀ k, 64 * k ≤ l.length → ∃ bf', bf'.length = 64 ∧ feed ks (st, bf, 0) (l.take (64 * k)) = (foldB ks st l k, bf', 64 * k)
  | 0, _ => ⟨bf, hb, rfl⟩
  | k + 1, h => by
    obtain ⟨b1, h1, e1⟩ := feed_blocks ks st bf l hb k (by omega)
    have hc : ((l.drop (64 * k)).take 64).length = 64 := by simp; omega
    have hs : l.take (64 * (k + 1)) = l.take (64 * k) ++ (l.drop (64 * k)).take 64 := by
      rw [show 64 * (k + 1) = 64 * k + 64 from by omega, List.take_add]
    refine ⟨(l.drop (64 * k)).take 64, hc, ?_⟩
    rw [hs, feed_app, e1, feed_chunk ks _ _ b1 (64 * k) (by intro e; rw [e] at hc; simp at hc) (by rw [hc]; omega) h1, hc]
    rw [if_pos (by omega), show 64 * k % 64 = 0 by omega, splice_all b1 _ h1 hc]
    rfl

theorem pad_whole (n : Nat) : (n + padE n) % 64 = 0 := by unfold padE; split <;> omega

/-- the digest, by the padded message's blocks -/
theorem digM_is (ks m : List Int) : digM ks m = bytesL (foldB ks H0 (m ++ padL m.length) ((m.length + padE m.length) / 64)) := by
  have hn : (feed ks S0 m).2.2 = m.length := by rw [feed_n]; show 0 + m.length = _; omega
  unfold digM digS
  rw [hn, ← feed_app]
  have hl : (m ++ padL m.length).length = m.length + padE m.length := by rw [List.length_append, padL_len]
  have hw := pad_whole m.length
  have h64 : 64 * ((m.length + padE m.length) / 64) = m.length + padE m.length := by omega
  obtain ⟨bf', _, e⟩ := feed_blocks ks H0 (List.replicate 64 0) (m ++ padL m.length) (by simp) ((m.length + padE m.length) / 64) (by rw [hl, h64]; exact Nat.le_refl _)
  rw [h64, List.take_of_length_le (by omega)] at e
  show bytesL (feed ks (H0, List.replicate 64 0, 0) (m ++ padL m.length)).1 = _
  rw [e]

/-- the bytes of the length, the highest first -/
def lenL (n : Nat) : List Int := (List.range 8).map fun i => ((8 * n % 18446744073709551616 : Nat) : Int) / 2 ^ (8 * (7 - i)) % 256

theorem tail_at (n : Nat) : ∀ i, i ≤ 8 → ∀ j, j < padE n → (tailL n i).getD j 0 = if j = 0 then 128 else if padE n - i ≤ j then ((8 * n % 18446744073709551616 : Nat) : Int) / 2 ^ (8 * (padE n - 1 - j)) % 256 else 0
  | 0, _, j, hj => by
    have hE := padE_bounds n
    rw [if_neg (show ¬ padE n - 0 ≤ j by omega)]
    show ((List.replicate 72 (0 : Int)).set 0 128).getD j 0 = _
    rw [List.getD_eq_getElem?_getD]
    by_cases h0 : j = 0
    · subst h0
      rw [List.getElem?_set_self (by simp)]
      rfl
    · rw [List.getElem?_set_ne (by omega), List.getElem?_replicate, if_pos (by omega), if_neg h0]
      rfl
  | i + 1, hi, j, hj => by
    have hE := padE_bounds n
    have ih := tail_at n i (by omega) j hj
    show ((tailL n i).set (padE n - 1 - i) _).getD j 0 = _
    by_cases hji : padE n - 1 - i = j
    · subst hji
      rw [List.getD_eq_getElem?_getD, List.getElem?_set_self (by rw [tailL_len]; omega), if_neg (by omega), if_pos (by omega), show padE n - 1 - (padE n - 1 - i) = i by omega]
      rfl
    · rw [List.getD_eq_getElem?_getD, List.getElem?_set_ne hji, ← List.getD_eq_getElem?_getD, ih]
      by_cases h0 : j = 0
      · rw [if_pos h0, if_pos h0]
      · rw [if_neg h0, if_neg h0]
        by_cases hc : padE n - i ≤ j
        · rw [if_pos hc, if_pos (by omega)]
        · rw [if_neg hc, if_neg (by omega)]

/-- the padding, written out -/
theorem padL_is (n : Nat) : padL n = 128 :: (List.replicate (padE n - 9) 0 ++ lenL n) := by
  have hE := padE_bounds n
  have hl : (128 :: (List.replicate (padE n - 9) (0 : Int) ++ lenL n)).length = padE n := by simp [lenL]; omega
  refine List.ext_getElem (by rw [padL_len, hl]) fun j h1 h2 => ?_
  rw [padL_len] at h1
  have e1 : (padL n)[j]'(by rw [padL_len]; exact h1) = (tailL n 8).getD j 0 := by
    unfold padL
    rw [List.getElem_take]
    simp [List.getD, (by rw [tailL_len]; omega : j < (tailL n 8).length)]
  rw [e1, tail_at n 8 (by omega) j h1]
  by_cases h0 : j = 0
  · subst h0
    rfl
  · obtain ⟨k, rfl⟩ : ∃ k, j = k + 1 := ⟨j - 1, by omega⟩
    rw [if_neg (by omega), List.getElem_cons_succ]
    by_cases hc : padE n - 8 ≤ k + 1
    · rw [if_pos hc, List.getElem_append_right (by simp; omega)]
      simp only [lenL, List.getElem_map, List.getElem_range, List.length_replicate]
      rw [show 7 - (k - (padE n - 9)) = padE n - 1 - (k + 1) by omega]
    · rw [if_neg hc, List.getElem_append_left (by simp; omega)]
      simp
end Go.Proofs.YtpdfggjhedgdlaaDoor

namespace Go.Proofs.YtpdfggjhedgdlaaDoor
open Go.RowKit

/-- the bytes of a text -/
def txt (s : ByteArray) : List Int := s.data.toList.map fun b => (b.toNat : Int)

theorem txt_len (s : ByteArray) : (txt s).length = s.size := by
  unfold txt
  rw [List.length_map, Array.length_toList]
  rfl

theorem txt_bounds (s : ByteArray) : ∀ y ∈ txt s, 0 ≤ y ∧ y ≤ 255 := by
  intro y hy
  obtain ⟨b, _, rfl⟩ := List.mem_map.1 hy
  have := b.toNat_lt
  omega

theorem txt_at (s : ByteArray) (k : Nat) (h : k < s.size) : ((s.data.toList.getD k 0).toNat : Int) = (txt s).getD k 0 := by
  have hl : k < s.data.toList.length := by rw [Array.length_toList]; exact h
  unfold txt
  rw [List.getD_eq_getElem?_getD, List.getD_eq_getElem?_getD, List.getElem?_map, List.getElem?_eq_getElem hl]
  rfl

theorem txt_extract (s : ByteArray) (a b : Nat) : txt (s.extract a b) = ((txt s).take b).drop a := by
  unfold txt
  rw [ByteArray.data_extract, Array.toList_extract, List.extract_eq_take_drop, List.map_take, List.map_drop, List.drop_take]

theorem txt_append (s t : ByteArray) : txt (s ++ t) = txt s ++ txt t := by
  unfold txt
  rw [ByteArray.data_append, Array.toList_append, List.map_append]

theorem bytesWorld_below (w : World) (e : TypeId) (s : ByteArray) : Below w.heap.size w (Lib.bytesWorld w e s) :=
  ⟨by simp only [Lib.bytesWorld, World.freeze]; rfl, by simp only [Lib.bytesWorld, World.freeze]; rfl, by simp only [Lib.bytesWorld, World.freeze]; rfl, by rw [Lib.bytesWorld_size]; omega, fun k hk => Lib.bytesWorld_at_old w e s k hk⟩

/-- a row of bytes that was made of a text -/
structure Fresh (w w' : World) (s : ByteArray) (cap : Nat) : Prop where
  below : Below w.heap.size w w'
  size : w'.heap.size = w.heap.size + 1
  room : s.size ≤ cap
  cells : ∀ j, j < s.size → w'.cell? ⟨w.heap.size, j, none⟩ = some (.int .u8 ((txt s).getD j 0))

theorem fresh_of (w : World) (e : TypeId) (s : ByteArray) : Fresh w (Lib.bytesWorld w e s) s (grownCap w s.size 0 e) :=
  ⟨bytesWorld_below w e s, Lib.bytesWorld_size w e s, grownCap_ge w s.size 0 e, fun j hj => by rw [Lib.bytesWorld_cell w e s j hj, txt_at s j hj]⟩

theorem wpList_bytes_of {P : Program} {w : World} {ops : Array Oper} {rest : List Oper} {o : Oper} {a : Act} {Q : Exit → Act → World → Prop} (hw : Region.wanted o (yielded ops a.tmps) = true) (src dst e : TypeId) (x : Operand) (ho : o.op = .convert src dst x) (s : ByteArray) (hx : a.eval x = .string s)
    (hs : P.underlying src = some .string) (hd : P.underlying dst = some (.slice e)) (he : P.underlying e = some (.int .u8))
    (h : ∀ w' cap, Hid (Fresh w w' s cap) → wpList P ops Q rest (a.put o.dst (.slice (some ⟨w.heap.size, 0, none⟩) s.size cap)) w') : wpList P ops Q (o :: rest) a w := by
  refine wpList_step fun K hK => ?_
  rw [if_pos hw]
  have hr := Lib.run_convert_string_bytes (P := P) w src dst e s hs hd he
  unfold Oper.wp
  simp [execOp, ho, hx, hr, Result.andThen]
  exact hK _ _ (h _ _ (fresh_of w e s))

/-- .. as a step of a region that draws -/
theorem step_bytes_of {P : Program} {w : World} {ops : Array Oper} {o : Oper} {a : Act} {K : Act → World → Prop} {Q : Exit → Act → World → Prop} {E : Prop} (hw : Region.wanted o (yielded ops a.tmps) = true) (d : Option Tmp) (hdst : o.dst = d) (src dst e : TypeId) (x : Operand) (ho : o.op = .convert src dst x) (s : ByteArray) (hx : a.eval x = .string s)
    (hs : P.underlying src = some .string) (hd : P.underlying dst = some (.slice e)) (he : P.underlying e = some (.int .u8))
    (h : ∀ w' cap, Hid (Fresh w w' s cap) → K (a.put d (.slice (some ⟨w.heap.size, 0, none⟩) s.size cap)) w') : if Region.wanted o (yielded ops a.tmps) = true then Oper.wp P o a w K Q else E := by
  rw [if_pos hw]
  subst hdst
  have hr := Lib.run_convert_string_bytes (P := P) w src dst e s hs hd he
  unfold Oper.wp
  simp [execOp, ho, hx, hr, Result.andThen]
  exact h _ _ (fresh_of w e s)

/-- are two arrays of bytes not one? wherever it is asked -/
theorem yields_neq_arr {P : Program} {ops : Array Oper} {S : World → Prop} {o : Oper} {a : Act} (hw : Region.wanted o (yielded ops a.tmps) = true) (T T' : TypeId) (x y : Operand) (ho : o.op = .binOp .neq T x y T')
    (xs ys : List Int) (n : Nat) (e : TypeId) (hx : a.eval x = .agg (xs.map (Value.int .u8)).toArray) (hy : a.eval y = .agg (ys.map (Value.int .u8)).toArray) (hm : P.eqGuardType P.depth T = false)
    (ht : P.underlying T = some (.array n e)) (he : P.underlying e = some (.int .u8)) (hsz : (P.info? e).map (·.size) = some 1) (lx : xs.length = n) (ly : ys.length = n) : YieldsIf P ops S o (.bool (!decide (xs = ys))) a :=
  .inl ⟨hw, fun w _ => by
    have h1 := run_eqGuard_agg (P := P) w .neq T x y (xs.map (Value.int .u8)).toArray (ys.map (Value.int .u8)).toArray hm
    have h2 := run_neq_struct (P := P) w T (xs.map (Value.int .u8)).toArray (ys.map (Value.int .u8)).toArray
    rw [run_equalIn_arr8 w 9998 T e n ht he (size_one hsz) xs ys lx ly] at h2
    simp [execOp, ho, hx, hy, h1, h2, Result.andThen]⟩

/-- are two arrays of bytes one? wherever it is asked -/
theorem yields_eql_arr {P : Program} {ops : Array Oper} {S : World → Prop} {o : Oper} {a : Act} (hw : Region.wanted o (yielded ops a.tmps) = true) (T T' : TypeId) (x y : Operand) (ho : o.op = .binOp .eql T x y T')
    (xs ys : List Int) (n : Nat) (e : TypeId) (hx : a.eval x = .agg (xs.map (Value.int .u8)).toArray) (hy : a.eval y = .agg (ys.map (Value.int .u8)).toArray) (hm : P.eqGuardType P.depth T = false)
    (ht : P.underlying T = some (.array n e)) (he : P.underlying e = some (.int .u8)) (hsz : (P.info? e).map (·.size) = some 1) (lx : xs.length = n) (ly : ys.length = n) : YieldsIf P ops S o (.bool (decide (xs = ys))) a :=
  .inl ⟨hw, fun w _ => by
    have h1 := run_eqGuard_agg (P := P) w .eql T x y (xs.map (Value.int .u8)).toArray (ys.map (Value.int .u8)).toArray hm
    have h2 := run_eql_struct (P := P) w T (xs.map (Value.int .u8)).toArray (ys.map (Value.int .u8)).toArray
    rw [run_equalIn_arr8 w 9998 T e n ht he (size_one hsz) xs ys lx ly] at h2
    simp [execOp, ho, hx, hy, h1, h2, Result.andThen]⟩
end Go.Proofs.YtpdfggjhedgdlaaDoor

namespace Go.Proofs.YtpdfggjhedgdlaaDoor
open Go.RowKit

def Pkg (w : World) (t0 tK : TypeId) (ks : List Int) : Prop := ks.length = 64 ∧ Words w 0 t0 H0 ∧ Words w 1 tK ks

theorem Pkg.lt {w : World} {t0 tK : TypeId} {ks : List Int} (h : Pkg w t0 tK ks) : 1 < w.heap.size := (Array.getElem?_eq_some_iff.1 h.2.2).1

theorem Pkg.later {B : Nat} {w w' : World} {t0 tK : TypeId} {ks : List Int} (h : Pkg w t0 tK ks) (hb : Below B w w') (hB : 1 < B) : Pkg w' t0 tK ks :=
  ⟨h.1, (hb.block 0 (by omega)).trans h.2.1, (hb.block 1 hB).trans h.2.2⟩
end Go.Proofs.YtpdfggjhedgdlaaDoor

namespace Go.Proofs.YtpdfggjhedgdlaaDoor
open Go.RowKit

theorem infoU8' : (Tryd.prog.info? 5).map (fun i => (i.zero, i.size, i.bytes)) = some (some (.int .u8 0), 1, 1) := by kernel_rfl

/-- where the bytes to be laid behind lie -/
structure Src (w : World) (ao : Option Addr) (m c : Nat) (rs : List Int) : Prop where
  length : rs.length = m
  none : ao = none → m = 0 ∧ c = 0
  cells : ∀ ad, ao = some ad → ∀ j u, (rs.map (Value.int .u8))[j]? = some u → w.cell? (ad.add j) = some u

theorem app_own {w : World} {ops : Array Oper} {rest : List Oper} {o : Oper} {a : Act} {Q : Exit → Act → World → Prop} (hgd : o.guard = none) (sl x : Operand)
    (ho : o.op = .call { callee := .builtin .append, args := #[sl, x], argTypes := #[30, 30] })
    (base n : Nat) (v : Value) (xs : List Int) (hs : a.eval sl = v) (hown : w.ownsRow base 5 1 v n (xs.map (Value.int .u8)))
    (ao : Option Addr) (m c : Nat) (rs : List Int) (hx : a.eval x = .slice ao m c) (hr : Src w ao m c rs)
    (hbytes : n + m ≤ 140737488355328) (hbase : base ≤ w.heap.size)
    (h : ∀ v' w', Hid (w'.ownsRow base 5 1 v' (n + m) ((xs ++ rs).map (Value.int .u8)) ∧ w.grownBy w' v.ownBlock) → wpList Tryd.prog ops Q rest (a.put o.dst v') w') :
    wpList Tryd.prog ops Q (o :: rest) a w := by
  obtain ⟨i0, hi, hz0, hz1, hz2⟩ := info_parts infoU8'
  have hl := hr.length
  cases ao with
  | none =>
    obtain ⟨rfl, rfl⟩ := hr.none rfl
    have hrs : rs = [] := List.eq_nil_of_length_eq_zero hl
    subst hrs
    refine wpList_append_own_none hgd sl x 30 ho base 5 i0 1 Tryd.underlying30 hi _ n _ hs hown hx ?_
    exact h v w ⟨by simpa using hown, World.grownBy.refl _ _⟩
  | some ad =>
    refine wpList_append_own w hgd sl x 30 ho base 5 i0 (.int .u8 0) 1 1 Tryd.underlying30 hi hz0 hz1 hz2 rfl (by decide) v n _ hs hown ad m c (rs.map (Value.int .u8)) hx (by simp [hl]) (hr.cells ad rfl) (by intro u hu; obtain ⟨y, _, rfl⟩ := List.mem_map.1 hu; rfl) (by unfold maxLen; omega) (by omega) hbase ?_
    intro v' w' hown' hgrow _
    exact h v' w' ⟨by rw [List.map_append]; exact hown', hgrow⟩

/-- one byte that was just laid -/
theorem src_one (w : World) (x : Int) : Src (w.alloc (.cells #[.int .u8 x] 5)) (some ⟨w.heap.size, 0, none⟩) 1 1 [x] := by
  refine ⟨rfl, (fun e => by cases e), fun ad ha j u hj => ?_⟩
  cases ha
  have hj0 : j = 0 := by
    have := (List.getElem?_eq_some_iff.1 hj).1
    simpa using this
  subst hj0
  rw [Addr.add_mid, cell_of_row _ w.heap.size 0 #[.int .u8 x] 5 (0, 0) (heap_alloc_new w _)]
  simpa using hj
end Go.Proofs.YtpdfggjhedgdlaaDoor
