/-
  The walk of hash.Unhex: the digest that sixty-four digits tell, or the error, as the document's own; no conditions.
-/
import Derived.Test.YtbdieoknbpcbnabUnhDefs
import Derived.Test.YtbdieoknbpcbnabH2Index
import Derived.WalkSmall
import Derived.Laws.BitsAllLaws
namespace Go.Proofs.Ytbdieoknbpcbnab
open Go.RowKit

theorem or_all : ∀ a b : Fin 16, bits .or .i64 ((a.val : Int) * 16) (b.val : Int) % 256 = 16 * (a.val : Int) + (b.val : Int) := by decide +kernel

theorem or_dig (a b : Int) (a0 : 0 ≤ a) (a1 : a ≤ 15) (b0 : 0 ≤ b) (b1 : b ≤ 15) : bits .or .i64 (a * 16) b % 256 = 16 * a + b := by
  have h := or_all ⟨a.toNat, by omega⟩ ⟨b.toNat, by omega⟩
  have e1 : ((a.toNat : Nat) : Int) = a := by omega
  have e2 : ((b.toNat : Nat) : Int) = b := by omega
  simp only [e1, e2] at h
  exact h

theorem byte_le (b : UInt8) : ((b.toNat : Nat) : Int) ≤ 255 := by have := b.toNat_lt; omega

set_option maxRecDepth 100000 in
set_option maxHeartbeats 400000 in
theorem hUnhex_short (s : ByteArray) (w : World) (hs : s.size ≠ 64) :
    Calls Try.prog 5 #[.string s] w fun e w' => e = .returned (.tuple #[.agg zero32, .int .i64 20]) ∧ Below w.heap.size w w' := by
  have h1 : ((s.size : Int) != 64) = true := by simp; omega
  obtain ⟨i0, hi, hz⟩ : ∃ i, Try.prog.info? 22 = some i ∧ i.zero = some (.agg zero32) := by
    have h := info32
    cases hq : Try.prog.info? 22 with
    | none => rw [hq] at h; cases h
    | some i => rw [hq] at h; simp at h; exact ⟨i, rfl, h.1⟩
  have tokA : True := trivial
  have tokB : True := trivial
  have tokC : True := trivial
  have tokD : True := trivial
  go_enter Try.func5, Try.ntmps5
  go_wp2_with (first
    | (have _t := tokA; refine wpList_alloc_arr rfl 22 rfl i0 (.agg zero32) hi hz ?_; intro w1 H1; clear tokA; have b1 := block_new H1)
    | (have _t := tokB; refine wpList_alloc_arr rfl 22 rfl i0 (.agg zero32) hi hz ?_; intro w2 H2; clear tokB; have b2 := block_new H2; have c2 := (b2.2.2.block _ (by have := b1.2.1; omega)).trans b1.1)
    | (have _t := tokC; refine wpList_build_arr rfl 22 #[] rfl #[] rfl zero32 built32 ?_; clear tokC)
    | (have _t := tokD; refine wpList_store_arr rfl 22 (.tmp 2) (.tmp 11) rfl w.heap.size zero32 zero32 rfl rfl c2 rfl size32 zero32_one ?_; clear tokD))
  have hF := setRow_heap w2 w.heap.size _ zero32 22 _ c2
  have hB := below_setRow (B := w.heap.size) (b1.2.2.trans (b2.2.2.mono b1.2.2.size)) (Nat.le_refl _) zero32
  exact bodyPost_ret (ret_cell_tmp (p := 2) (u := 3) (T := 22) rfl _ _ w.heap.size zero32 _ _ rfl hF Try.underlying22 size32) rfl ⟨rfl, hB⟩

set_option maxRecDepth 100000 in
set_option maxHeartbeats 1000000 in
theorem hUnhex_long (s : ByteArray) (w : World) (hs : s.size = 64) :
    Calls Try.prog 5 #[.string s] w fun e w' => ((∃ l, unh s 32 = some l ∧ l.length = 32 ∧ e = .returned (.tuple #[.agg (l.map (Value.int .u8)).toArray, .int .i64 0])) ∨ (unh s 32 = none ∧ e = .returned (.tuple #[.agg zero32, .int .i64 20]))) ∧ Below w.heap.size w w' := by
  have h1 : ((s.size : Int) != 64) = false := by simp; omega
  obtain ⟨i0, hi, hz⟩ : ∃ i, Try.prog.info? 22 = some i ∧ i.zero = some (.agg zero32) := by
    have h := info32
    cases hq : Try.prog.info? 22 with
    | none => rw [hq] at h; cases h
    | some i => rw [hq] at h; simp at h; exact ⟨i, rfl, h.1⟩
  have tokA : True := trivial
  have tokB : True := trivial
  have HS := hide hs
  clear hs
  go_enter Try.func5, Try.ntmps5
  go_wp2_with (first
    | (have _t := tokA; refine wpList_alloc_arr rfl 22 rfl i0 (.agg zero32) hi hz ?_; intro w1 H1; clear tokA; have b1 := block_new H1)
    | (have _t := tokB; refine wpList_alloc_arr rfl 22 rfl i0 (.agg zero32) hi hz ?_; intro w2 H2; clear tokB; have b2 := block_new H2; have c2 := (b2.2.2.block _ (by have := b1.2.1; omega)).trans b1.1))
  have HB := hide (b1.2.2.trans (b2.2.2.mono b1.2.2.size))
  have hsz : w2.heap.size = w.heap.size + 1 + 1 := by have := b1.2.1; have := b2.2.1; omega
  have e2 : w2.heap[w.heap.size + 1]? = some (.cells zero32 22 (0, 0)) := by rw [← b1.2.1]; exact b2.1
  clear b1 b2 H1 H2
  go_loopw [12] (fun x wr => ∃ (i : Nat) (xs : List Int), i ≤ 32 ∧ x = .int .i64 i ∧ Arr8 wr (w.heap.size + 1) 22 xs ∧ wr.heap[w.heap.size]? = some (.cells zero32 22 (0, 0)) ∧ Hid (Below w.heap.size w wr) ∧ Hid (xs.length = 32 ∧ unh s i = some (xs.take i))) (fun x _ => 32 - (intOf x).toNat)
  case atStart => exact ⟨0, List.replicate 32 0, by omega, rfl, e2, c2, HB, hide ⟨rfl, rfl⟩⟩
  case round =>
    clear hsz e2 c2
    obtain ⟨i, xs, hi32, rfl, hA, hZ, HBel, HX⟩ := hrel
    by_cases hlt : i < 32
    · have hss := unhide HS
      have k1 : 2 * i < s.size := by omega
      have k2 : 2 * i + 1 < s.size := by omega
      have ct := hA.cell i (by have := (unhide HX).1; omega)
      have cf := hA.free i
      have HA := hide hA
      have HZ := hide hZ
      have u := unh_step s i _ (unhide HX).2 k1 k2
      have C1 := index_any ((s[2 * i]'k1).toNat : Int) wr (by omega) (byte_le _)
      have C2 := index_any ((s[2 * i + 1]'k2).toNat : Int) wr (by omega) (byte_le _)
      have d1 := dig_bounds ((s[2 * i]'k1).toNat : Int)
      have d2 := dig_bounds ((s[2 * i + 1]'k2).toNat : Int)
      generalize digI ((s[2 * i]'k1).toNat : Int) = a at u C1 d1
      generalize digI ((s[2 * i + 1]'k2).toNat : Int) = b at u C2 d2
      have HU := hide u
      have HC1 := hide C1
      have HC2 := hide C2
      obtain ⟨d10, d11⟩ := d1
      obtain ⟨d20, d21⟩ := d2
      clear hss hA hZ u C1 C2
      by_cases ha : a < 0 ∨ b < 0
      · have hn : unh s 32 = none := by
          have hn1 : unh s (i + 1) = none := by rw [unhide HU, if_pos ha]
          have := unh_none s (i + 1) (32 - (i + 1)) hn1
          rw [show i + 1 + (32 - (i + 1)) = 32 from by omega] at this
          exact this
        have HN := hide hn
        have c2 := unhide HZ
        have HF := hide (setRow_heap wr w.heap.size _ zero32 22 _ c2)
        have HB2 := hide (below_setRow (unhide HBel) (Nat.le_refl _) zero32)
        have C2' := hide c2
        have tokD : True := trivial
        clear hn c2
        rcases ha with ha | ha
        · go_wp2_with fail
          refine (unhide HC1).mono ?_
          rintro e v1 ⟨rfl, rfl⟩
          go_wp2_with fail
          refine (unhide HC2).mono ?_
          rintro e v2 ⟨rfl, rfl⟩
          go_wp2_with (first | (have _t := tokD; refine wpList_store_arr rfl 22 (.tmp 2) (.tmp 32) rfl w.heap.size zero32 zero32 rfl rfl (unhide C2') rfl size32 zero32_one ?_; clear tokD))
          exact bodyPost_ret (ret_cell_tmp (p := 2) (u := 3) (T := 22) rfl _ _ w.heap.size zero32 _ _ rfl (unhide HF) Try.underlying22 size32) rfl ⟨Or.inr ⟨unhide HN, rfl⟩, unhide HB2⟩
        · by_cases ha' : a < 0
          all_goals
            go_wp2_with fail
            refine (unhide HC1).mono ?_
            rintro e v1 ⟨rfl, rfl⟩
            go_wp2_with fail
            refine (unhide HC2).mono ?_
            rintro e v2 ⟨rfl, rfl⟩
            go_wp2_with (first | (have _t := tokD; refine wpList_store_arr rfl 22 (.tmp 2) (.tmp 32) rfl w.heap.size zero32 zero32 rfl rfl (unhide C2') rfl size32 zero32_one ?_; clear tokD))
            exact bodyPost_ret (ret_cell_tmp (p := 2) (u := 3) (T := 22) rfl _ _ w.heap.size zero32 _ _ rfl (unhide HF) Try.underlying22 size32) rfl ⟨Or.inr ⟨unhide HN, rfl⟩, unhide HB2⟩
      · have ha1 : ¬ a < 0 := by omega
        have ha2 : ¬ b < 0 := by omega
        have HA' := hide ((unhide HA).set i (16 * a + b))
        have HZ' : Hid ((wr.setCell ⟨w.heap.size + 1, i, none⟩ (.int .u8 (16 * a + b))).heap[w.heap.size]? = some (.cells zero32 22 (0, 0))) := hide (by rw [heap_setCell_other _ _ _ _ (by simp)]; exact unhide HZ)
        have HB' := hide ((unhide HBel).setCell (p := ⟨w.heap.size + 1, i, none⟩) (by simp) (.int .u8 (16 * a + b)))
        have HX' : Hid ((xs.set i (16 * a + b)).length = 32 ∧ unh s (i + 1) = some ((xs.set i (16 * a + b)).take (i + 1))) := hide ⟨by simpa using (unhide HX).1, by rw [take_set_next _ _ _ (by have := (unhide HX).1; omega), unhide HU, if_neg ha]⟩
        clear ha
        go_wp2_with fail
        refine (unhide HC1).mono ?_
        rintro e v1 ⟨rfl, rfl⟩
        go_wp2_with fail
        refine (unhide HC2).mono ?_
        rintro e v2 ⟨rfl, rfl⟩
        have hor := or_dig a b (by omega) d11 (by omega) d21
        have HOR := hide hor
        clear hor
        go_wp2_with fail
        rw [unhide HOR]
        go_roundw
        case rel => exact ⟨i + 1, _, by omega, by go_num, unhide HA', unhide HZ', HB', HX'⟩
        case measure => simp [intOf]; omega
    · have hi' : i = 32 := by omega
      subst hi'
      have hl := (unhide HX).1
      have hsz : (xs.map (Value.int .u8)).toArray.size = 32 := by simp [hl]
      have HF := hide (setRow_heap wr w.heap.size _ (xs.map (Value.int .u8)).toArray 22 _ hZ)
      have HB2 := hide (below_setRow (unhide HBel) (Nat.le_refl _) (xs.map (Value.int .u8)).toArray)
      have HR : Hid (unh s 32 = some xs) := hide (by rw [(unhide HX).2, List.take_of_length_le (by omega)])
      have HZ := hide hZ
      have HA := hide hA
      have HL := hide hl
      have HZ0 : Hid ((Try.prog.info? 22).map (·.size) = some (xs.map (Value.int .u8)).toArray.size) := hide (by rw [hsz]; exact size32)
      have tokE : True := trivial
      have tokF : True := trivial
      clear hA hZ hl hsz
      go_wp2_with (first
        | (have _t := tokE; refine wpList_load_arr rfl 22 (.tmp 4) rfl (w.heap.size + 1) (xs.map (Value.int .u8)).toArray 32 5 rfl (unhide HA) Try.underlying22 (unhide HZ0) ?_; clear tokE)
        | (have _t := tokF; refine wpList_store_arr rfl 22 (.tmp 2) (.tmp 41) rfl w.heap.size zero32 (xs.map (Value.int .u8)).toArray rfl rfl (unhide HZ) (by simp [unhide HL, zero32_size]) (unhide HZ0) (bytes_one xs) ?_; clear tokF))
      exact bodyPost_ret (ret_cell_tmp (p := 2) (u := 3) (T := 22) rfl _ _ w.heap.size (xs.map (Value.int .u8)).toArray _ _ rfl (unhide HF) Try.underlying22 (unhide HZ0)) rfl ⟨Or.inl ⟨xs, unhide HR, unhide HL, rfl⟩, unhide HB2⟩
end Go.Proofs.Ytbdieoknbpcbnab
