/-
  The walks of value's writeNumbers and quote; conditions: a text of at most 2^20 bytes, a builder of at most 2^40.
-/
import Derived.Test.YtjkfkneibcjgaaaGreatDoorA30
import Derived.Test.YtjkfkneibcjgaaaGreatDoorA33
set_option linter.unusedVariables false
set_option linter.unusedSimpArgs false
namespace Go.Proofs.YtjkfkneibcjgaaaGreatDoor
open Go.RowKit
set_option linter.unusedVariables false
set_option linter.unusedSimpArgs false

theorem hexN_fin : ∀ d : Fin 16, hexBV[d.val]'(by have := d.isLt; show d.val < 16; omega) = by8 (hxI (d.val : Int)) := by decide +kernel
theorem hexN (k : Nat) (h : k < 16) (hh : k < hexBV.size) : hexBV[k]'hh = by8 (hxI (k : Int)) := hexN_fin ⟨k, h⟩

set_option maxRecDepth 100000 in
set_option maxHeartbeats 1000000 in
theorem nums_any (B b : Nat) (l : List UInt8) (s : ByteArray) (w : World) (h : Bd w B b l) (hlen : l.length + 4 * s.size ≤ 1099511627776) (hBw : B ≤ w.heap.size) :
    Calls Tryz.prog 138 #[.pointer (some ⟨b, 0, none⟩), .string s] w fun e w' => e = .returned (.tuple #[]) ∧ Wr B b (l ++ s.data.toList.flatMap numU) w w' := by
  have HL := hide hlen
  have HB := hide hBw
  have HBd := hide h
  clear h hBw
  go_enter Tryz.func138, Tryz.ntmps138
  go_wp2_with fail
  go_loopw [7] (fun x wr => ∃ (i : Nat), x = .int .i64 (i : Int) ∧ i ≤ s.size ∧ Hid (Wr B b (l ++ (s.data.toList.take i).flatMap numU) w wr)) (fun x _ => s.size - (intOf x).toNat)
  case atStart => exact ⟨0, rfl, Nat.zero_le _, hide ⟨by simpa using unhide HBd, Below.refl _ _, Lib.OthersKept.refl _ _ _⟩⟩
  case round =>
    obtain ⟨i, rfl, hi, HX⟩ := hrel
    by_cases hlt : i < s.size
    · obtain ⟨c, hc⟩ : ∃ c : UInt8, s[i]'hlt = c := ⟨_, rfl⟩
      obtain ⟨z, hz⟩ : ∃ z : Nat, c.toNat = z := ⟨_, rfl⟩
      have z1 : (z : Int) ≤ 255 := by have := c.toNat_lt; omega
      have hzi : ((s[i]'hlt).toNat : Int) = (z : Int) := by rw [hc, hz]
      have HZ := hide hz
      have HC := hide hc
      have hll : ((s.data.toList.take i).flatMap numU).length ≤ 4 * i := by rw [flat_num_len]; have := List.length_take_le i s.data.toList; omega
      have C1 := hide (wstr_any B b _ ⟨#[92, 120]⟩ wr (unhide HX).bd (by rw [List.length_append]; show _ + 2 ≤ _; omega) ((unhide HX).size (unhide HB)))
      have HLL := hide hll
      clear hc hz hll
      go_wp2_with fail
      refine (unhide C1).mono ?_
      rintro e w1 ⟨rfl, k1⟩
      have HX1 := hide ((unhide HX).trans k1)
      clear k1 C1 HX
      have hs1 : hexBV.size = 16 := rfl
      go_wp2_with fail
      refine (wbyte_any B b _ (hexBV[z / 16]'(by omega)) w1 (unhide HX1).bd (by have := unhide HLL; have := unhide HL; rw [List.length_append, List.length_append]; show _ + 2 + 1 ≤ _; omega) ((unhide HX1).size (unhide HB))).mono ?_
      rintro e w2 ⟨rfl, k2⟩
      have HX2 := hide ((unhide HX1).trans k2)
      clear k2 HX1
      go_wp2_with fail
      refine (wbyte_any B b _ (hexBV[z % 16]'(by omega)) w2 (unhide HX2).bd (by have := unhide HLL; have := unhide HL; rw [List.length_append, List.length_append, List.length_append]; show _ + 2 + 1 + 1 ≤ _; omega) ((unhide HX2).size (unhide HB))).mono ?_
      rintro e w3 ⟨rfl, k3⟩
      have HX3 := hide ((unhide HX2).trans k3)
      clear k3 HX2
      have HN : Hid (Wr B b (l ++ (s.data.toList.take (i + 1)).flatMap numU) w w3) := hide (by
        have h3 := unhide HX3
        have e : s.data.toList[i]? = some c := by rw [Array.getElem?_toList, ← unhide HC]; exact Array.getElem?_eq_getElem hlt
        have e1 : hexBV[z / 16]'(by omega) = by8 (hxI ((z : Int) / 16)) := (hexN (z / 16) (by omega) (by omega)).trans (by rw [show ((z / 16 : Nat) : Int) = (z : Int) / 16 by omega])
        have e2 : hexBV[z % 16]'(by omega) = by8 (hxI ((z : Int) % 16)) := (hexN (z % 16) (by omega) (by omega)).trans (by rw [show ((z % 16 : Nat) : Int) = (z : Int) % 16 by omega])
        rw [List.take_add_one, e, List.flatMap_append]
        rw [e1, e2] at h3
        have en : numU c = [92, 120] ++ [by8 (hxI ((z : Int) / 16))] ++ [by8 (hxI ((z : Int) % 16))] := by unfold numU; rw [unhide HZ]; rfl
        have el : (l ++ ((s.data.toList.take i).flatMap numU ++ (some c).toList.flatMap numU)) = l ++ (s.data.toList.take i).flatMap numU ++ [92, 120] ++ [by8 (hxI ((z : Int) / 16))] ++ [by8 (hxI ((z : Int) % 16))] := by
          simp [en]
        rw [el]
        exact h3)
      have HLT := hide hlt
      clear HX3 HC HZ HLL
      go_wp2_with fail
      go_roundw
      case rel => exact ⟨i + 1, by go_num, unhide HLT, HN⟩
      case measure => have := unhide HLT; simp [intOf]; omega
    · have e : i = s.size := by omega
      subst e
      have HR : Hid (Wr B b (l ++ s.data.toList.flatMap numU) w wr) := hide (by have := unhide HX; rwa [show s.data.toList.take s.size = s.data.toList from List.take_of_length_le (Nat.le_refl _)] at this)
      go_wp2_with fail
      go_end0
      exact ⟨rfl, unhide HR⟩

theorem Wr.iterAt {B b k : Nat} {l : List UInt8} {w w' : World} {s : ByteArray} {pos : Nat} (h : Wr B b l w w') (hk : w'.heap[k]? = some (.stringIter s pos)) (hB : w.heap.size ≤ k) (hBw : B ≤ w.heap.size) (pos' : Nat) : Wr B b l w (w'.iterAt k s pos') :=
  ⟨h.bd.iterAt hk pos', Lib.below_iterAt h.below (by omega) s pos', fun j o hj hb ho => by
    have h1 := h.kept j o hj hb ho
    have hlt : j < w.heap.size := (Array.getElem?_eq_some_iff.1 hj).1
    rw [Lib.iterAt_other w' k j s pos' (by omega)]
    exact h1⟩

set_option maxRecDepth 100000 in
set_option maxHeartbeats 2000000 in
theorem quote_any (B b : Nat) (l : List UInt8) (s : ByteArray) (w : World) (h : Bd w B b l) (hlen : l.length + 8 * s.size + 8 ≤ 1099511627776) (hBw : B ≤ w.heap.size) :
    Calls Tryz.prog 112 #[.pointer (some ⟨b, 0, none⟩), .string s] w fun e w' => e = .returned (.tuple #[]) ∧ Wr B b (l ++ quoteU s) w w' := by
  have HL := hide hlen
  have HB := hide hBw
  have hss : (s.size : Int) ≤ 1099511627776 := by omega
  have hblt : b < w.heap.size := by rcases h with h | h <;> exact h.lt
  have C1 := hide (wbyte_lit B b l 34 34 rfl w h (by omega) hBw)
  have HBL := hide hblt
  clear h hBw hlen hblt
  go_enter Tryz.func112, Tryz.ntmps112
  go_wp2_with fail
  refine (unhide C1).mono ?_
  rintro e w1 ⟨rfl, k1⟩
  have HX1 := hide k1
  clear k1 C1
  obtain ⟨k, hk⟩ : ∃ k, w1.heap.size = k := ⟨_, rfl⟩
  have HK := hide hk
  go_wp2_with fail
  have HS : Hid (Wr B b (l ++ [34]) w (w1.iter s 0) ∧ (w1.iter s 0).heap[k]? = some (.stringIter s 0)) := hide (by
    refine ⟨⟨(unhide HX1).bd.alloc _, (unhide HX1).below.alloc (Nat.le_trans (unhide HB) (unhide HX1).below.size) _, (unhide HX1).kept.alloc _⟩, ?_⟩
    rw [← unhide HK]
    exact World.iter_heap w1 s 0)
  have HKB : Hid (w.heap.size ≤ k ∧ k ≠ b) := hide (by
    have h1 := (unhide HX1).below.size
    have h2 := unhide HK
    have h3 := unhide HBL
    omega)
  clear hk
  go_loopw [4] (fun x wr => ∃ (told pos : Nat), x = .int .i64 (told : Int) ∧ told ≤ pos ∧ pos ≤ s.size ∧ Hid (Odd s told pos ∧ Wr B b (l ++ 34 :: (s.data.toList.take told).flatMap qU) w wr ∧ wr.heap[k]? = some (.stringIter s pos))) (fun _ wr => s.size - wr.iterPos k)
  case atStart => exact ⟨0, 0, rfl, Nat.le_refl _, Nat.zero_le _, hide ⟨fun j h1 h2 => by omega, by simpa using (unhide HS).1, (unhide HS).2⟩⟩
  case round =>
    clear HS HX1 HK
    obtain ⟨told, pos, rfl, htp, hps, HX⟩ := hrel
    have htl := flat_q_len (s.data.toList.take told)
    have HTL : Hid ((l ++ 34 :: (s.data.toList.take told).flatMap qU).length ≤ l.length + 1 + 4 * told) := hide (by
      rw [List.length_append, List.length_cons]
      have := List.length_take_le told s.data.toList
      omega)
    clear htl
    by_cases hp : pos < s.size
    · have hnx : ∀ ty, (Instr.next (.pointer (some ⟨k, 0, none⟩)) true ty).run Tryz.prog wr = _ := fun ty => Lib.run_next_any_at wr k s pos ty (unhide HX).2.2 hp
      have hru := rune_of s pos hp
      obtain ⟨r, hr⟩ : ∃ r, (Utf8.decode s pos).1 = r := ⟨_, rfl⟩
      obtain ⟨n, hn⟩ : ∃ n, (Utf8.decode s pos).2 = n := ⟨_, rfl⟩
      rw [hr, hn] at hnx
      have hWn := (unhide HX).2.1.iterAt (unhide HX).2.2 (unhide HKB).1 (unhide HB) (pos + n)
      have hin := Lib.iterAt_heap wr k s pos (pos + n) (unhide HX).2.2
      obtain ⟨wn, hwn⟩ : ∃ wn, wr.iterAt k s (pos + n) = wn := ⟨_, rfl⟩
      rw [hwn] at hnx hWn hin
      have HIP : Hid (wr.iterPos k = pos) := hide (by unfold World.iterPos; rw [(unhide HX).2.2])
      by_cases hpr : (s[pos]'hp).toNat < 32 ∨ 126 < (s[pos]'hp).toNat
      · -- told by numbers, later
        have hrr : (r < 32 ∨ 126 < r) ∧ pos + n ≤ s.size ∧ 1 ≤ n ∧ ∀ j, pos ≤ j → j < pos + n → (s.get! j).toNat < 32 ∨ 126 < (s.get! j).toNat := by
          rcases hru with ⟨h1, h2⟩ | ⟨h1, h2, h3, h4⟩
          · have e1 : r = (s[pos]'hp).toNat := by rw [← hr, h2]
            have e2 : n = 1 := by rw [← hn, h2]
            refine ⟨by omega, by omega, by omega, fun j g1 g2 => ?_⟩
            obtain rfl : j = pos := by omega
            rw [get_bang s j hp]
            exact hpr
          · rw [hr] at h1
            rw [hn] at h2 h3 h4
            exact ⟨by omega, h3, h2, fun j g1 g2 => .inr (by have := h4 j g1 g2; omega)⟩
        have hrle : r ≤ 2147483647 := by rw [← hr]; exact decode_le s pos
        have HO : Hid (Odd s told (pos + n) ∧ Wr B b (l ++ 34 :: (s.data.toList.take told).flatMap qU) w wn ∧ wn.heap[k]? = some (.stringIter s (pos + n))) := hide ⟨fun j g1 g2 => by
          by_cases e : j < pos
          · exact (unhide HX).1 j g1 e
          · exact hrr.2.2.2 j (by omega) g2, hWn, hin⟩
        have HN : Hid (pos + n ≤ s.size ∧ 1 ≤ n) := hide ⟨hrr.2.1, hrr.2.2.1⟩
        have hr1 := hrr.1
        clear hrr hru hr hn hWn hin hwn hpr HTL HX
        rcases hr1 with r1 | r1
        · have r2 : (r : Int) < 32 := by omega
          go_wp2_with fail
          go_roundw
          case rel => exact ⟨told, pos + n, rfl, by omega, (unhide HN).1, HO⟩
          case measure => have h1 := unhide HIP; have h2 := unhide HN; have h3 : wn.iterPos k = pos + n := by unfold World.iterPos; rw [(unhide HO).2.2]
                          rw [h1, h3]; omega
        · have r2 : ¬ (r : Int) < 32 := by omega
          have r3 : (126 : Int) < r := by omega
          go_wp2_with fail
          go_roundw
          case rel => exact ⟨told, pos + n, rfl, by omega, (unhide HN).1, HO⟩
          case measure => have h1 := unhide HIP; have h2 := unhide HN; have h3 : wn.iterPos k = pos + n := by unfold World.iterPos; rw [(unhide HO).2.2]
                          rw [h1, h3]; omega
      · obtain ⟨h1, h2⟩ : (s[pos]'hp).toNat < 128 ∧ Utf8.decode s pos = ((s[pos]'hp).toNat, 1) := by
          rcases hru with h | ⟨h1, h2, h3, h4⟩
          · exact h
          · have := h4 pos (Nat.le_refl _) (by omega)
            rw [get_bang s pos hp] at this
            omega
        obtain ⟨c, hc⟩ : ∃ c, s[pos]'hp = c := ⟨_, rfl⟩
        rw [hc] at h1 h2 hpr
        have e1 : r = c.toNat := by rw [← hr, h2]
        obtain rfl : n = 1 := by rw [← hn, h2]
        have hrc : ((c.toNat : Nat) : Int) = (r : Int) := by rw [e1]
        have r0 : ¬ (r : Int) < 32 := by omega
        have r1 : ¬ (126 : Int) < (r : Int) := by omega
        have r2 : (32 : Int) ≤ (r : Int) := by omega
        have r3 : (r : Int) ≤ 126 := by omega
        have hsz : (s.extract told pos).size = pos - told := by rw [ByteArray.size_extract]; omega
        have CN := hide (nums_any B b _ (s.extract told pos) wn hWn.bd (by have := unhide HTL; have := unhide HL; rw [hsz]; omega) (hWn.size (unhide HB)))
        rw [List.append_assoc, List.cons_append, odd_piece (unhide HX).1 htp hps] at CN
        have HQ : Hid (34 :: (s.data.toList.take (pos + 1)).flatMap qU = (34 :: (s.data.toList.take pos).flatMap qU) ++ qU c) := hide (by rw [take_one s pos hp, hc]; rfl)
        have HPL : Hid ((l ++ 34 :: (s.data.toList.take pos).flatMap qU).length ≤ l.length + 1 + 4 * pos) := hide (by
          rw [List.length_append, List.length_cons]
          have := flat_q_len (s.data.toList.take pos)
          have := List.length_take_le pos s.data.toList
          omega)
        have HW := hide (And.intro hWn hin)
        have HRC := hide hrc
        have HEQ := hide e1
        have t1 : (told : Int) ≤ (pos : Int) := by omega
        have t2 : (pos : Int) ≤ (s.size : Int) := by omega
        have HP := hide hp
        clear hru hr hn hWn hin hwn hpr HTL HX h1 h2 hc hrc e1 hsz
        go_wp2_with fail
        refine (unhide CN).mono ?_
        rintro e w3 ⟨rfl, k3⟩
        have HX3 := hide (And.intro ((unhide HW).1.trans k3) (k3.kept.iter (unhide HW).2 (unhide HKB).2))
        clear k3 CN HW
        by_cases hq : r = 34 ∨ r = 92
        · have HQ2 : Hid (qU c = [92] ++ [c]) := hide (by rw [qU_esc c (by have := unhide HEQ; omega)]; rfl)
          have CW := hide (wbyte_lit B b _ 92 92 rfl w3 (unhide HX3).1.bd (by have := unhide HPL; have := unhide HL; omega) ((unhide HX3).1.size (unhide HB)))
          rcases hq with q1 | q1
          · have q2 : (r : Int) = 34 := by omega
            have q4 : ((r : Int) == 34) = true := by simpa using q2
            have q5 : r = 34 := q1
            clear q1
            have HRC34 : Hid ((c.toNat : Int) = 34) := hide (by have := unhide HRC; omega)
            go_wp2_with fail
            refine (unhide CW).mono ?_
            rintro e w4 ⟨rfl, k4⟩
            have HX4 := hide (And.intro ((unhide HX3).1.trans k4) (k4.kept.iter (unhide HX3).2 (unhide HKB).2))
            clear k4 CW HX3
            have CB := hide (wbyte_lit B b _ c 34 (unhide HRC34) w4 (unhide HX4).1.bd (by have := unhide HPL; have := unhide HL; rw [List.length_append]; show _ + 1 + 1 ≤ _; omega) ((unhide HX4).1.size (unhide HB)))
            go_wp2_with fail
            refine (unhide CB).mono ?_
            rintro e w5 ⟨rfl, k5⟩
            have HX5 := hide (And.intro ((unhide HX4).1.trans k5) (k5.kept.iter (unhide HX4).2 (unhide HKB).2))
            have HN : Hid (Wr B b (l ++ 34 :: (s.data.toList.take (pos + 1)).flatMap qU) w w5 ∧ w5.heap[k]? = some (.stringIter s (pos + 1))) := hide (by
              refine ⟨?_, (unhide HX5).2⟩
              have h5 := (unhide HX5).1
              rw [unhide HQ, unhide HQ2]
              simpa using h5)
            clear k5 CB HX4 HX5
            go_wp2_with fail
            go_roundw
            case rel => exact ⟨pos + 1, pos + 1, by go_num, Nat.le_refl _, unhide HP, hide ⟨fun j g1 g2 => by omega, (unhide HN).1, (unhide HN).2⟩⟩
            case measure =>
              have h1 := unhide HIP
              have h2 := unhide HP
              have h3 : w5.iterPos k = pos + 1 := by unfold World.iterPos; rw [(unhide HN).2]
              rw [h1, h3]
              omega
          · have q2 : ¬ (r : Int) = 34 := by omega
            have q3 : (r : Int) = 92 := by omega
            have q4 : ((r : Int) == 34) = false := by simpa using q2
            have q5 : ((r : Int) == 92) = true := by simpa using q3
            have HRC92 : Hid ((c.toNat : Int) = 92) := hide (by have := unhide HRC; omega)
            go_wp2_with fail
            refine (unhide CW).mono ?_
            rintro e w4 ⟨rfl, k4⟩
            have HX4 := hide (And.intro ((unhide HX3).1.trans k4) (k4.kept.iter (unhide HX3).2 (unhide HKB).2))
            clear k4 CW HX3
            have CB := hide (wbyte_lit B b _ c 92 (unhide HRC92) w4 (unhide HX4).1.bd (by have := unhide HPL; have := unhide HL; rw [List.length_append]; show _ + 1 + 1 ≤ _; omega) ((unhide HX4).1.size (unhide HB)))
            go_wp2_with fail
            refine (unhide CB).mono ?_
            rintro e w5 ⟨rfl, k5⟩
            have HX5 := hide (And.intro ((unhide HX4).1.trans k5) (k5.kept.iter (unhide HX4).2 (unhide HKB).2))
            have HN : Hid (Wr B b (l ++ 34 :: (s.data.toList.take (pos + 1)).flatMap qU) w w5 ∧ w5.heap[k]? = some (.stringIter s (pos + 1))) := hide (by
              refine ⟨?_, (unhide HX5).2⟩
              have h5 := (unhide HX5).1
              rw [unhide HQ, unhide HQ2]
              simpa using h5)
            clear k5 CB HX4 HX5
            go_wp2_with fail
            go_roundw
            case rel => exact ⟨pos + 1, pos + 1, by go_num, Nat.le_refl _, unhide HP, hide ⟨fun j g1 g2 => by omega, (unhide HN).1, (unhide HN).2⟩⟩
            case measure =>
              have h1 := unhide HIP
              have h2 := unhide HP
              have h3 : w5.iterPos k = pos + 1 := by unfold World.iterPos; rw [(unhide HN).2]
              rw [h1, h3]
              omega
        · have q2 : ¬ (r : Int) = 34 := by omega
          have q3 : ¬ (r : Int) = 92 := by omega
          have q4 : ((r : Int) == 34) = false := by simpa using q2
          have q5 : ((r : Int) == 92) = false := by simpa using q3
          have HQ2 : Hid (qU c = [c]) := hide (qU_own c (by have := unhide HEQ; omega) (by have := unhide HEQ; omega) (by have := unhide HEQ; omega) (by have := unhide HEQ; omega))
          have CB := hide (wbyte_lit B b _ c (r : Int) (unhide HRC) w3 (unhide HX3).1.bd (by have := unhide HPL; have := unhide HL; omega) ((unhide HX3).1.size (unhide HB)))
          go_wp2_with fail
          refine (unhide CB).mono ?_
          rintro e w5 ⟨rfl, k5⟩
          have HX5 := hide (And.intro ((unhide HX3).1.trans k5) (k5.kept.iter (unhide HX3).2 (unhide HKB).2))
          have HN : Hid (Wr B b (l ++ 34 :: (s.data.toList.take (pos + 1)).flatMap qU) w w5 ∧ w5.heap[k]? = some (.stringIter s (pos + 1))) := hide (by
            refine ⟨?_, (unhide HX5).2⟩
            have h5 := (unhide HX5).1
            rw [unhide HQ, unhide HQ2]
            simpa using h5)
          clear k5 CB HX3 HX5
          go_wp2_with fail
          go_roundw
          case rel => exact ⟨pos + 1, pos + 1, by go_num, Nat.le_refl _, unhide HP, hide ⟨fun j g1 g2 => by omega, (unhide HN).1, (unhide HN).2⟩⟩
          case measure =>
            have h1 := unhide HIP
            have h2 := unhide HP
            have h3 : w5.iterPos k = pos + 1 := by unfold World.iterPos; rw [(unhide HN).2]
            rw [h1, h3]
            omega
    · have e : pos = s.size := by omega
      have t1 : (told : Int) ≤ (s.size : Int) := by omega
      have hnx : ∀ ty, (Instr.next (.pointer (some ⟨k, 0, none⟩)) true ty).run Tryz.prog wr = _ := fun ty => Lib.run_next_end_at wr k s pos ty (unhide HX).2.2 hp
      subst e
      have hsz : (s.extract told s.size).size = s.size - told := by rw [ByteArray.size_extract]; omega
      have CN := hide (nums_any B b _ (s.extract told s.size) wr (unhide HX).2.1.bd (by have := unhide HTL; have := unhide HL; rw [hsz]; omega) ((unhide HX).2.1.size (unhide HB)))
      rw [List.append_assoc, List.cons_append, odd_piece (unhide HX).1 htp hps, show s.data.toList.take s.size = s.data.toList from List.take_of_length_le (Nat.le_refl _)] at CN
      have HSL : Hid ((l ++ 34 :: s.data.toList.flatMap qU).length ≤ l.length + 1 + 4 * s.size) := hide (by
        rw [List.length_append, List.length_cons]
        have := flat_q_len s.data.toList
        have e2 : s.data.toList.length = s.size := rfl
        omega)
      have HQ : Hid (quoteU s = (34 :: s.data.toList.flatMap qU) ++ [34]) := hide (quoteU_eq s)
      have HX0 := hide (unhide HX).2.1
      clear hsz HTL HX hp hps htp
      go_wp2_with fail
      refine (unhide CN).mono ?_
      rintro e w3 ⟨rfl, k3⟩
      have HX3 := hide ((unhide HX0).trans k3)
      clear k3 CN HX0
      have CB := hide (wbyte_lit B b _ 34 34 rfl w3 (unhide HX3).bd (by have := unhide HSL; have := unhide HL; omega) ((unhide HX3).size (unhide HB)))
      go_wp2_with fail
      refine (unhide CB).mono ?_
      rintro e w4 ⟨rfl, k4⟩
      have HX4 := hide ((unhide HX3).trans k4)
      clear k4 CB HX3
      go_wp2_with fail
      go_end0
      refine ⟨rfl, ?_⟩
      have h4 := unhide HX4
      rw [unhide HQ]
      simpa using h4
end Go.Proofs.YtjkfkneibcjgaaaGreatDoor
