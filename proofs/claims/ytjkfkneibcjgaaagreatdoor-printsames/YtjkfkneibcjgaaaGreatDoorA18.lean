/-
  Layer 18 (print): are two values the same, field by field; no conditions but the form's own reach.
-/
import Derived.Test.YtjkfkneibcjgaaaGreatDoorA16
import Derived.Test.YtjkfkneibcjgaaaGreatDoorA17
set_option linter.unusedVariables false
set_option linter.unusedSimpArgs false
namespace Go.Proofs.YtjkfkneibcjgaaaGreatDoor
open Go.RowKit
set_option linter.unusedVariables false
set_option linter.unusedSimpArgs false

theorem keys_no {ks ks' : List ByteArray} {i : Nat} {t t' : ByteArray} (h : ks[i]? = some t) (h' : ks'[i]? = some t') (hb : (t.toList == t'.toList) = false) : decide (ks = ks') = false := decide_eq_false (fun e => by
  rw [e, h'] at h
  have h2 := (bytes_beq t t').2 (Option.some.inj h).symm
  rw [hb] at h2
  cases h2)

set_option maxRecDepth 100000 in
set_option maxHeartbeats 2000000 in
theorem equalK_any (ks ks' : List ByteArray) (ak ak' : Option Addr) (m ck m' ck' B : Nat) (w : World) (hk : ∀ u, Below w.heap.size w u → IsK u ks ak ck) (hk' : ∀ u, Below w.heap.size w u → IsK u ks' ak' ck') (hm : ks.length = m) (hm' : ks'.length = m') :
    Calls Tryz.prog 95 #[.slice ak m ck, .slice ak' m' ck'] w fun e w' => e = .returned (.bool (decide (ks = ks'))) ∧ Below w.heap.size w w' := by
  have hb1 : m ≤ 140737488351232 ∧ m' ≤ 140737488351232 := by
    have h1 := (hk w (Below.refl _ _)).len
    have h2 := (hk' w (Below.refl _ _)).len
    have h3 := (hk w (Below.refl _ _)).bnd
    have h4 := (hk' w (Below.refl _ _)).bnd
    omega
  obtain ⟨hmb, hmb'⟩ := hb1
  have HK := hide (And.intro hk hk')
  have HL := hide (And.intro hm hm')
  obtain ⟨R, hR⟩ : ∃ R, decide (ks = ks') = R := ⟨_, rfl⟩
  rw [hR]
  have HR := hide hR
  clear hk hk' hm hm' hR
  by_cases h5 : m = m'
  · subst h5
    go_enter Tryz.func95, Tryz.ntmps95
    go_wp2_with fail
    go_loopw [13] (fun x wr => ∃ (i : Nat), i ≤ m ∧ x = .int .i64 i ∧ Hid (Below w.heap.size w wr) ∧ Hid (ks.take i = ks'.take i)) (fun x _ => m - (intOf x).toNat)
    case atStart => exact ⟨0, Nat.zero_le _, rfl, hide (Below.refl _ _), hide rfl⟩
    case round =>
      obtain ⟨i, hi, rfl, HX, HT⟩ := hrel
      obtain ⟨wq, hwq⟩ : ∃ wq, wq = wr := ⟨_, rfl⟩
      subst hwq
      by_cases hlt : i < m
      · have i2 : (i : Int) < (m : Int) := by omega
        have v1 := (unhide HK).1 wq (unhide HX)
        have v2 := (unhide HK).2 wq (unhide HX)
        obtain ⟨tk, htk⟩ : ∃ tk, ks[i]? = some tk := ⟨_, List.getElem?_eq_getElem (by have := (unhide HL).1; omega)⟩
        obtain ⟨tk', htk'⟩ : ∃ tk', ks'[i]? = some tk' := ⟨_, List.getElem?_eq_getElem (by have := (unhide HL).2; omega)⟩
        obtain ⟨a2, rfl⟩ : ∃ a2, ak = some a2 := by
          cases ak with
          | none => have h1 := v1.none rfl; have h2 := (unhide HL).1; omega
          | some a2 => exact ⟨a2, rfl⟩
        obtain ⟨a2', rfl⟩ : ∃ a2', ak' = some a2' := by
          cases ak' with
          | none => have h1 := v2.none rfl; have h2 := (unhide HL).2; omega
          | some a2 => exact ⟨a2, rfl⟩
        have cK := v1.cell a2 rfl i tk htk
        have cK' := v2.cell a2' rfl i tk' htk'
        have HTK := hide (And.intro htk htk')
        have HI1 : Hid (i + 1 ≤ m) := hide (by omega)
        clear v1 v2 htk htk'
        go_upto_region 6 with fail
        cases hbe : (tk.toList == tk'.toList) with
        | true =>
          have HT' : Hid (ks.take (i + 1) = ks'.take (i + 1)) := hide (by
            have e := (bytes_beq tk tk').1 hbe
            exact take_next ks ks' i tk (unhide HTK).1 (by rw [e]; exact (unhide HTK).2) (unhide HT))
          go_quiet (fail)
          go_wp2_with fail
          go_roundw
          case rel => exact ⟨i + 1, unhide HI1, by go_num, hide (below_drewP (unhide HX) _), HT'⟩
          case measure => have := unhide HI1; simp [intOf]; omega
        | false =>
          have HG2 : Hid (R = false) := hide (by rw [← unhide HR]; exact keys_no (unhide HTK).1 (unhide HTK).2 hbe)
          go_quiet (fail)
          go_wp2_with fail
          go_ret
          exact ⟨by rw [unhide HG2]; rfl, below_drewP (unhide HX) _⟩
      · have i2 : ¬ (i : Int) < (m : Int) := by omega
        have HG2 : Hid (R = true) := hide (by
          rw [← unhide HR]
          have h := unhide HT
          have e1 := (unhide HL).1
          have e3 := (unhide HL).2
          rw [List.take_of_length_le (by omega), List.take_of_length_le (by omega)] at h
          exact decide_eq_true h)
        go_wp2_with fail
        go_ret
        exact ⟨by rw [unhide HG2]; rfl, unhide HX⟩
  · have h5' : (m : Int) ≠ (m' : Int) := by omega
    have hb : ((m : Int) != (m' : Int)) = true := by simpa using h5'
    have hb2 : ((m : Int) == (m' : Int)) = false := by simpa using h5'
    have HG2 : Hid (R = false) := hide (by
      rw [← unhide HR]
      have e1 := (unhide HL).1
      have e3 := (unhide HL).2
      exact decide_eq_false (fun e => h5 (by rw [← e1, ← e3, e])))
    clear h5'
    go_enter Tryz.func95, Tryz.ntmps95
    go_wp2_with fail
    go_ret
    exact ⟨by rw [unhide HG2]; rfl, Below.refl _ _⟩

def SmvAt (b : Nat) : Prop := ∀ (v v' : Vl) (x x' : Value) (B : Nat) (w : World), dep v ≤ b → IsV w B v x → IsV w B v' x' → B ≤ w.heap.size →
    Calls Tryz.prog 61 #[x, x'] w fun e w' => e = .returned (.bool (sameB v v')) ∧ Below w.heap.size w w'

set_option maxRecDepth 100000 in
set_option maxHeartbeats 2000000 in
theorem eqfV_any (k n k' n' : Int) (s s' : ByteArray) (l l' : List Vl) (ks ks' : List ByteArray) (al ak al' ak' : Option Addr) (ln cl m ck ln' cl' m' ck' B : Nat) (w : World) (hv : IsV w B (.mk k n s l ks) (.agg #[.int .i64 k, .int .i64 n, .string s, .slice al ln cl, .slice ak m ck])) (hv' : IsV w B (.mk k' n' s' l' ks') (.agg #[.int .i64 k', .int .i64 n', .string s', .slice al' ln' cl', .slice ak' m' ck'])) (hBs : B ≤ w.heap.size) (hln : l.length = ln) (hln' : l'.length = ln') (ih : ∀ (i : Nat) (y y' : Vl), l[i]? = some y → l'[i]? = some y' → ∀ (x x' : Value) (u : World), IsV u B y x → IsV u B y' x' → B ≤ u.heap.size → Calls Tryz.prog 61 #[x, x'] u fun e u' => e = .returned (.bool (sameB y y')) ∧ Below u.heap.size u u') :
    Calls Tryz.prog 96 #[.slice al ln cl, .slice al' ln' cl', .func (.func 61) #[] #[]] w fun e w' => e = .returned (.bool (decide (ln = ln') && sameL l l')) ∧ Below w.heap.size w w' := by
  have hb1 : ln ≤ 140737488351232 ∧ ln' ≤ 140737488351232 := ⟨(isV_lt hv).2.2, (isV_lt hv').2.2⟩
  have hc1 : ln ≤ cl ∧ ln' ≤ cl' := ⟨(isV_lt hv).2.1, (isV_lt hv').2.1⟩
  obtain ⟨hlb, hlb'⟩ := hb1
  obtain ⟨hcl, hcl'⟩ := hc1
  have HV2 : Hid (∀ u, Below w.heap.size w u → IsV u B (.mk k n s l ks) (.agg #[.int .i64 k, .int .i64 n, .string s, .slice al ln cl, .slice ak m ck]) ∧ IsV u B (.mk k' n' s' l' ks') (.agg #[.int .i64 k', .int .i64 n', .string s', .slice al' ln' cl', .slice ak' m' ck']) ∧ B ≤ u.heap.size) := hide (fun u hu => ⟨hv.mono (hu.mono hBs), hv'.mono (hu.mono hBs), Nat.le_trans hBs hu.size⟩)
  have HI := hide ih
  have HL := hide (And.intro hln hln')
  obtain ⟨R, hR⟩ : ∃ R, (decide (ln = ln') && sameL l l') = R := ⟨_, rfl⟩
  rw [hR]
  have HR := hide hR
  clear hv hv' hBs ih hln hln' hR
  by_cases h4 : ln = ln'
  · subst h4
    go_enter Tryz.func96, Tryz.ntmps96
    go_wp2_with fail
    go_loopw [17] (fun x wr => ∃ (i : Nat), i ≤ ln ∧ x = .int .i64 i ∧ Hid (Below w.heap.size w wr) ∧ Hid (sameL (l.take i) (l'.take i) = true)) (fun x _ => ln - (intOf x).toNat)
    case atStart => exact ⟨0, Nat.zero_le _, rfl, hide (Below.refl _ _), hide (by simp [sameL])⟩
    case round =>
      obtain ⟨i, hi, rfl, HX, HT⟩ := hrel
      obtain ⟨wq, hwq⟩ : ∃ wq, wq = wr := ⟨_, rfl⟩
      subst hwq
      by_cases hlt : i < ln
      · have i3 : (i : Int) < (ln : Int) := by omega
        obtain ⟨v1, v2, hBq⟩ := (unhide HV2) wq (unhide HX)
        obtain ⟨y, hy⟩ : ∃ y, l[i]? = some y := ⟨_, List.getElem?_eq_getElem (by have := (unhide HL).1; omega)⟩
        obtain ⟨y', hy'⟩ : ∃ y', l'[i]? = some y' := ⟨_, List.getElem?_eq_getElem (by have := (unhide HL).2; omega)⟩
        obtain ⟨a, y0, y1, y2, bl, bk, ll', mm, cl1, ck1, rfl, hab, hce, hve⟩ := v1.elem i y hy
        obtain ⟨a', z0, z1, z2, bl', bk', zl', zm, cl2, ck2, rfl, hab', hce', hve'⟩ := v2.elem i y' hy'
        have e0 : wq.cell? (a.add (i * 5)) = some (.int .i64 y0) := hce 0 _ rfl
        have e1 : wq.cell? ⟨(a.add (i * 5)).block, (a.add (i * 5)).off + 1, none⟩ = some (.int .i64 y1) := hce 1 _ rfl
        have e2 : wq.cell? ⟨(a.add (i * 5)).block, (a.add (i * 5)).off + 2, none⟩ = some (.string y2) := hce 2 _ rfl
        have e3 : wq.cell? ⟨(a.add (i * 5)).block, (a.add (i * 5)).off + 3, none⟩ = some (.slice bl ll' cl1) := hce 3 _ rfl
        have e4 : wq.cell? ⟨(a.add (i * 5)).block, (a.add (i * 5)).off + 4, none⟩ = some (.slice bk mm ck1) := hce 4 _ rfl
        obtain ⟨w3, hw3⟩ : ∃ w3, wq.alloc (.cells #[(.int .i64 y0), (.int .i64 y1), (.string y2), (.slice bl ll' cl1), (.slice bk mm ck1)] 26) = w3 := ⟨_, rfl⟩
        have BX3 := Box.mk' wq (.int .i64 y0) (.int .i64 y1) (.string y2) (.slice bl ll' cl1) (.slice bk mm ck1)
        rw [hw3] at BX3
        have hlt' : a'.block < wq.heap.size := Nat.lt_of_lt_of_le hab' hBq
        have hce3 : ∀ j v, [Value.int .i64 z0, .int .i64 z1, .string z2, .slice bl' zl' cl2, .slice bk' zm ck2][j]? = some v → w3.cell? ((a'.add (i * 5)).add j) = some v := fun j v hj => (World.cell?_of_block (BX3.below.block _ (by rw [block_add, block_add]; exact hlt'))).trans (hce' j v hj)
        have f0 : w3.cell? (a'.add (i * 5)) = some (.int .i64 z0) := hce3 0 _ rfl
        have f1 : w3.cell? ⟨(a'.add (i * 5)).block, (a'.add (i * 5)).off + 1, none⟩ = some (.int .i64 z1) := hce3 1 _ rfl
        have f2 : w3.cell? ⟨(a'.add (i * 5)).block, (a'.add (i * 5)).off + 2, none⟩ = some (.string z2) := hce3 2 _ rfl
        have f3 : w3.cell? ⟨(a'.add (i * 5)).block, (a'.add (i * 5)).off + 3, none⟩ = some (.slice bl' zl' cl2) := hce3 3 _ rfl
        have f4 : w3.cell? ⟨(a'.add (i * 5)).block, (a'.add (i * 5)).off + 4, none⟩ = some (.slice bk' zm ck2) := hce3 4 _ rfl
        obtain ⟨w4, hw4⟩ : ∃ w4, w3.alloc (.cells #[(.int .i64 z0), (.int .i64 z1), (.string z2), (.slice bl' zl' cl2), (.slice bk' zm ck2)] 26) = w4 := ⟨_, rfl⟩
        have BX4 := Box.mk' w3 (.int .i64 z0) (.int .i64 z1) (.string z2) (.slice bl' zl' cl2) (.slice bk' zm ck2)
        rw [hw4] at BX4
        obtain ⟨g3, hg3⟩ : ∃ g, wq.heap.size = g := ⟨_, rfl⟩
        obtain ⟨g4, hg4⟩ : ∃ g, w3.heap.size = g := ⟨_, rfl⟩
        have b4 : Below wq.heap.size wq w4 := BX3.below.trans (BX4.below.mono BX3.below.size)
        have CR := hide ((unhide HI) i y y' hy hy' (.agg #[(.int .i64 y0), (.int .i64 y1), (.string y2), (.slice bl ll' cl1), (.slice bk mm ck1)]) (.agg #[(.int .i64 z0), (.int .i64 z1), (.string z2), (.slice bl' zl' cl2), (.slice bk' zm ck2)]) w4 (hve.mono (b4.mono hBq)) (hve'.mono (b4.mono hBq)) (Nat.le_trans hBq b4.size))
        have R3 := hide ((BX4.below.block _ (lt_of_row BX3.row)).trans BX3.row)
        have R4 := hide BX4.row
        have X4 := hide ((unhide HX).trans (b4.mono (unhide HX).size))
        have HY := hide (And.intro hy hy')
        have HW3 := hide (And.intro hw3 hg3)
        have HW4 := hide (And.intro hw4 hg4)
        obtain ⟨Q, hQ⟩ : ∃ Q, sameB y y' = Q := ⟨_, rfl⟩
        rw [hQ] at CR
        have HQ := hide hQ
        clear v1 v2 hBq hy hy' hab hce hve hab' hce' hve' hw3 hw4 BX3 BX4 hg3 hg4 b4 hlt' hce3 hQ
        go_upto_region 6 with fail
        rw [(unhide HW3).1]
        try rw [(unhide HW3).2]
        clear e0 e1 e2 e3 e4
        go_upto_region 7 with fail
        rw [(unhide HW4).1]
        try rw [(unhide HW4).2]
        clear f0 f1 f2 f3 f4
        obtain ⟨p0, p1, p2, p3, p4⟩ := row_cell (unhide R3)
        obtain ⟨q0, q1, q2, q3, q4⟩ := row_cell (unhide R4)
        rw [(unhide HW3).2] at p0 p1 p2 p3 p4
        rw [(unhide HW4).2] at q0 q1 q2 q3 q4
        clear HW3 HW4
        go_wp2_with fail
        refine (unhide CR).mono ?_
        rintro e w5 ⟨rfl, b5⟩
        have HX5 : Hid (Below w.heap.size w w5) := hide ((unhide X4).trans (b5.mono (unhide X4).size))
        clear b5 CR p0 p1 p2 p3 p4 q0 q1 q2 q3 q4
        have HI1 : Hid (i + 1 ≤ ln) := hide (by omega)
        cases Q with
        | true =>
          have HT' : Hid (sameL (l.take (i + 1)) (l'.take (i + 1)) = true) := hide (by
            rw [sameL_next l l' i y y' (unhide HY).1 (unhide HY).2, unhide HT, unhide HQ]; rfl)
          go_wp2_with fail
          go_roundw
          case rel => exact ⟨i + 1, unhide HI1, by go_num, HX5, HT'⟩
          case measure => have := unhide HI1; simp [intOf]; omega
        | false =>
          have HG2 : Hid (R = false) := hide (by
            obtain ⟨e1, e2⟩ := unhide HL
            rw [← unhide HR, sameL_no l l' i y y' (unhide HY).1 (unhide HY).2 (by omega) (unhide HQ), Bool.and_false])
          go_wp2_with fail
          go_ret
          exact ⟨by rw [unhide HG2]; rfl, unhide HX5⟩
      · have i3 : ¬ (i : Int) < (ln : Int) := by omega
        have HG2 : Hid (R = true) := hide (by
          obtain ⟨e1, e2⟩ := unhide HL
          have h := unhide HT
          rw [List.take_of_length_le (by omega), List.take_of_length_le (by omega)] at h
          rw [← unhide HR, h]; simp)
        go_wp2_with fail
        go_ret
        exact ⟨by rw [unhide HG2]; rfl, unhide HX⟩
  · have h4' : (ln : Int) ≠ (ln' : Int) := by omega
    have hb : ((ln : Int) != (ln' : Int)) = true := by simpa using h4'
    have hb2 : ((ln : Int) == (ln' : Int)) = false := by simpa using h4'
    have HG2 : Hid (R = false) := hide (by rw [← unhide HR, decide_eq_false h4, Bool.false_and])
    clear h4'
    go_enter Tryz.func96, Tryz.ntmps96
    go_wp2_with fail
    go_ret
    exact ⟨by rw [unhide HG2]; rfl, Below.refl _ _⟩

set_option maxRecDepth 100000 in
set_option maxHeartbeats 2000000 in
theorem smv_step (b : Nat) (ih : SmvAt b) : SmvAt (b + 1) := by
  intro v v' x x' B w hd hv hv' hBs
  obtain ⟨k, n, s, l, ks, al, ak, cl, ck, rfl, rfl⟩ := hv.shape
  obtain ⟨k', n', s', l', ks', al', ak', cl', ck', rfl, rfl⟩ := hv'.shape
  obtain ⟨m, hm⟩ : ∃ m, ks.length = m := ⟨_, rfl⟩
  obtain ⟨ln, hln⟩ : ∃ ln, l.length = ln := ⟨_, rfl⟩
  obtain ⟨m', hm'⟩ : ∃ m', ks'.length = m' := ⟨_, rfl⟩
  obtain ⟨ln', hln'⟩ : ∃ ln', l'.length = ln' := ⟨_, rfl⟩
  rw [hm, hln] at hv
  rw [hm', hln'] at hv'
  rw [hm, hln, hm', hln']
  have TW := TwoL.mk' w 26 #[.int .i64 k, .int .i64 n, .string s, .slice al ln cl, .slice ak m ck] #[.int .i64 k', .int .i64 n', .string s', .slice al' ln' cl', .slice ak' m' ck']
  obtain ⟨w2, hw2⟩ : ∃ w2, (w.alloc (.cells #[.int .i64 k, .int .i64 n, .string s, .slice al ln cl, .slice ak m ck] 26)).alloc (.cells #[.int .i64 k', .int .i64 n', .string s', .slice al' ln' cl', .slice ak' m' ck'] 26) = w2 := ⟨_, rfl⟩
  rw [hw2] at TW
  obtain ⟨g, hg⟩ : ∃ g, w.heap.size = g := ⟨_, rfl⟩
  rw [hg] at TW
  have HT := hide TW
  have HV : Hid (∀ u, Below w2.heap.size w2 u → IsV u B (.mk k n s l ks) (.agg #[.int .i64 k, .int .i64 n, .string s, .slice al ln cl, .slice ak m ck]) ∧ IsV u B (.mk k' n' s' l' ks') (.agg #[.int .i64 k', .int .i64 n', .string s', .slice al' ln' cl', .slice ak' m' ck']) ∧ B ≤ u.heap.size) :=
    hide (fun u hu => by
      have h1 : Below B w u := (TW.below.mono (by omega)).trans (hu.mono (by have := TW.size; omega))
      exact ⟨hv.mono h1, hv'.mono h1, by have := TW.size; have := hu.size; omega⟩)
  have HB : Hid (Below w.heap.size w w2) := hide TW.below
  have HGs : Hid (g ≤ w2.heap.size) := hide (by have := TW.size; omega)
  obtain ⟨c0, c1, c2, c3, c4⟩ := row_cell TW.at0
  obtain ⟨d0, d1, d2, d3, d4⟩ := row_cell TW.at1
  have HL := hide (And.intro hm (And.intro hln (And.intro hm' hln')))
  have hdl : ∀ i y, l[i]? = some y → dep y ≤ b := fun i y h => by have h1 := dep_elem l i y h; simp only [dep] at hd; omega
  have HD := hide hdl
  have CE := hide (equalK_any ks ks' ak ak' m ck m' ck' B w2 (fun u hu => ((unhide HV) u hu).1.keys.1) (fun u hu => ((unhide HV) u hu).2.1.keys.1) hm hm')
  obtain ⟨Q, hQ⟩ : ∃ Q, decide (ks = ks') = Q := ⟨_, rfl⟩
  rw [hQ] at CE
  have HS : Hid (sameB (.mk k n s l ks) (.mk k' n' s' l' ks') = (decide (k = k') && decide (n = n') && (s.toList == s'.toList) && decide (ln = ln') && Q && sameL l l')) := hide (by simp only [sameB]; rw [hln, hln', hQ])
  obtain ⟨R, hR⟩ : ∃ R, sameB (.mk k n s l ks) (.mk k' n' s' l' ks') = R := ⟨_, rfl⟩
  rw [hR] at HS ⊢
  clear TW hv hv' hm hln hm' hln' hdl hd hQ hR
  by_cases h1 : k = k'
  · subst h1
    by_cases h2 : n = n'
    · subst h2
      cases h3 : (s.toList == s'.toList) with
      | true =>
        rw [h3] at HS
        go_enter Tryz.func61, Tryz.ntmps61
        go_wp2_with fail
        refine (unhide CE).mono ?_
        rintro e w3 ⟨rfl, b3⟩
        have X3 := hide ((unhide HB).trans (b3.mono (by rw [hg]; exact unhide HGs)))
        have T3 := hide ((unhide HT).later b3)
        have B3 := hide b3
        clear b3 CE c0 c1 c2 c3 c4 d0 d1 d2 d3 d4
        cases Q with
        | false =>
          have HG : Hid (R = false) := hide (by rw [unhide HS]; simp)
          go_wp2_with fail
          go_ret
          exact ⟨by rw [unhide HG]; rfl, by first | exact unhide X3 | (rw [← hg]; exact unhide X3)⟩
        | true =>
          obtain ⟨v1, v2, hB3⟩ := (unhide HV) w3 (unhide B3)
          have CF := hide (eqfV_any k n k n s s' l l' ks ks' al ak al' ak' ln cl m ck ln' cl' m' ck' B w3 v1 v2 hB3 (unhide HL).2.1 (unhide HL).2.2.2 (fun i y y' hy hy' x x' u hx hx' hu => ih y y' x x' B u (unhide HD i y hy) hx hx' hu))
          obtain ⟨q, hq⟩ : ∃ q, (decide (ln = ln') && sameL l l') = q := ⟨_, rfl⟩
          rw [hq] at CF
          have HG : Hid (R = q) := hide (by rw [unhide HS, ← hq]; simp)
          obtain ⟨c0, c1, c2, c3, c4⟩ := row_cell (unhide T3).1
          obtain ⟨d0, d1, d2, d3, d4⟩ := row_cell (unhide T3).2
          clear hq v1 v2 hB3
          go_wp2_with fail
          refine (unhide CF).mono ?_
          rintro e w4 ⟨rfl, b4⟩
          have X4 := hide ((unhide X3).trans (b4.mono (unhide X3).size))
          clear b4 CF c0 c1 c2 c3 c4 d0 d1 d2 d3 d4
          go_wp2_with fail
          go_ret
          exact ⟨by rw [unhide HG]; rfl, by first | exact unhide X4 | (rw [← hg]; exact unhide X4)⟩
      | false =>
        have HG : Hid (R = false) := hide (by rw [unhide HS, h3]; simp)
        go_enter Tryz.func61, Tryz.ntmps61
        go_wp2_with fail
        go_ret
        exact ⟨by rw [unhide HG]; rfl, by first | exact unhide HB | (rw [← hg]; exact unhide HB)⟩
    · have HG : Hid (R = false) := hide (by rw [unhide HS]; simp [h2])
      have hb : (n == n') = false := by simpa using h2
      clear h2
      go_enter Tryz.func61, Tryz.ntmps61
      go_wp2_with fail
      go_ret
      exact ⟨by rw [unhide HG]; rfl, by first | exact unhide HB | (rw [← hg]; exact unhide HB)⟩
  · have HG : Hid (R = false) := hide (by rw [unhide HS]; simp [h1])
    have hb : (k == k') = false := by simpa using h1
    clear h1
    go_enter Tryz.func61, Tryz.ntmps61
    go_wp2_with fail
    go_ret
    exact ⟨by rw [unhide HG]; rfl, by first | exact unhide HB | (rw [← hg]; exact unhide HB)⟩
theorem smv_any : ∀ b, SmvAt b
  | 0 => fun v _ _ _ _ _ h => by have := dep_pos v; omega
  | b + 1 => smv_step b (smv_any b)
end Go.Proofs.YtjkfkneibcjgaaaGreatDoor
