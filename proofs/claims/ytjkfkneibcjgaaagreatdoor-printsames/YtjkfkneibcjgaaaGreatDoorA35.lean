/-
  The walk of the document's text; conditions: what a right value is.
-/
import Derived.Test.YtjkfkneibcjgaaaGreatDoorA33
import Derived.Test.YtjkfkneibcjgaaaGreatDoorA02
import Derived.WalkSpells
import Derived.WalkSmall
set_option linter.unusedVariables false
set_option linter.unusedSimpArgs false
namespace Go.Proofs.YtjkfkneibcjgaaaGreatDoor
open Go.RowKit
set_option linter.unusedVariables false
set_option linter.unusedSimpArgs false
def TextAt (b : Nat) : Prop := ∀ (v : Vl) (x : Value) (B : Nat) (w : World), okB b v = true → wt v ≤ 2048 → IsV w B v x → B ≤ w.heap.size →
    Calls Tryz.prog 89 #[x] w fun e w' => ∃ t : ByteArray, e = .returned (.string t) ∧ t.data.toList = txt v ∧ t.size + 2 ≤ 32 * wt v ∧ Below w.heap.size w w'

theorem text_zero : TextAt 0 := by
  intro v x B w h
  cases v
  simp [okB] at h

theorem okL_at : ∀ (b : Nat) (l : List Vl) (i : Nat) (y : Vl), okL b l = true → l[i]? = some y → okB b y = true
  | b, [], i, y, _, h => by simp at h
  | b, x :: r, 0, y, ho, h => by
    rw [okL_cons, Bool.and_eq_true] at ho
    simp at h
    subst h
    exact ho.1
  | b, x :: r, i + 1, y, ho, h => by
    rw [okL_cons, Bool.and_eq_true] at ho
    exact okL_at b r i y ho.2 (by simpa using h)

theorem wtL_take1 (l : List Vl) (i : Nat) (y : Vl) (h : l[i]? = some y) : wtL (l.take (i + 1)) = wtL (l.take i) + wt y := by
  rw [List.take_add_one, h, wtL_app]
  show wtL (l.take i) + wtL [y] = _
  rw [wtL_cons, wtL_nil]
  omega

theorem keysW_app2 : ∀ (a b : List ByteArray), keysW (a ++ b) = keysW a + keysW b
  | [], b => by simp [keysW]
  | t :: r, b => by
    have := keysW_app2 r b
    rw [List.cons_append]
    simp only [keysW]
    omega

theorem keysW_take1 (ks : List ByteArray) (i : Nat) (t : ByteArray) (h : ks[i]? = some t) : keysW (ks.take (i + 1)) = keysW (ks.take i) + 1 + t.size := by
  rw [List.take_add_one, h, keysW_app2]
  show keysW (ks.take i) + keysW [t] = _
  simp only [keysW]
  omega

theorem keysW_take_le2 (ks : List ByteArray) (i : Nat) : keysW (ks.take i) ≤ keysW ks := by
  have h := keysW_app2 (ks.take i) (ks.drop i)
  rw [List.take_append_drop] at h
  omega

theorem wtL_take_le2 (l : List Vl) (i : Nat) : wtL (l.take i) ≤ wtL l := by
  have h := wtL_app (l.take i) (l.drop i)
  rw [List.take_append_drop] at h
  omega

set_option maxRecDepth 100000 in
set_option maxHeartbeats 4000000 in
theorem text_step (b : Nat) (ih : TextAt b) : TextAt (b + 1) := by
  intro v x B w hok hwt hv hBs
  obtain ⟨k, n, s, l, ks, al, ak, cl, ck, rfl, rfl⟩ := hv.shape
  obtain ⟨m, hm⟩ : ∃ m, ks.length = m := ⟨_, rfl⟩
  obtain ⟨ln, hln⟩ : ∃ ln, l.length = ln := ⟨_, rfl⟩
  rw [hm, hln] at hv
  rw [hm, hln]
  have hbd : (-9223372036854775808 ≤ n ∧ n ≤ 9223372036854775807) := by
    obtain ⟨_, _, _, _, _, V, hf, _⟩ := IsP.at hv
    exact hf.bn
  rw [okB, Bool.and_eq_true] at hok
  have hwt' : 1 + s.size + keysW ks + wtL l ≤ 2048 := by simpa [wt] using hwt
  obtain ⟨g, hg⟩ : ∃ g, w.heap.size = g := ⟨_, rfl⟩
  have BX := Box.mk' w (.int .i64 k) (.int .i64 n) (.string s) (.slice al ln cl) (.slice ak m ck)
  obtain ⟨w1, hw1⟩ : ∃ w1, w.alloc (.cells #[.int .i64 k, .int .i64 n, .string s, .slice al ln cl, .slice ak m ck] 26) = w1 := ⟨_, rfl⟩
  rw [hw1] at BX
  have at0 := BX.row
  rw [hg] at at0
  have HB : Hid (Below g w w1) := hide (by rw [← hg]; exact BX.below)
  have zb : g < w1.heap.size := by have := BX.size; omega
  have HT : Hid (∀ u, Below w1.heap.size w1 u → u.heap[g]? = some (.cells #[.int .i64 k, .int .i64 n, .string s, .slice al ln cl, .slice ak m ck] 26 (0, 0)) ∧ IsV u B (.mk k n s l ks) (.agg #[.int .i64 k, .int .i64 n, .string s, .slice al ln cl, .slice ak m ck]) ∧ B ≤ u.heap.size ∧ Below g w u) := hide (fun u hu => by
    have h1 : Below g w u := (unhide HB).trans (hu.mono (by omega))
    exact ⟨(hu.block g zb).trans at0, hv.mono (h1.mono (by omega)), by have := h1.size; omega, h1⟩)
  obtain ⟨c0, c1, c2, c3, c4⟩ := row_cell at0
  have HL := hide (And.intro hm hln)
  have HO := hide (And.intro hok.1 hok.2)
  have HW := hide hwt'
  have HBD := hide hbd
  clear BX hv hm hln at0 hok hwt hwt' hbd
  by_cases k0 : k = 0
  · subst k0
    go_enter Tryz.func89, Tryz.ntmps89
    go_wp2_with fail
    go_ret
    exact ⟨_, rfl, by simp [txt, oneT], by have := unhide HW; simp only [wt]; show 4 + 2 ≤ _; omega, by first | exact unhide HB | (rw [hg]; exact unhide HB)⟩
  by_cases k1 : k = 1
  · subst k1
    by_cases n1 : n = 1
    · subst n1
      go_enter Tryz.func89, Tryz.ntmps89
      go_wp2_with fail
      go_ret
      exact ⟨_, rfl, by simp [txt, oneT], by have := unhide HW; simp only [wt]; show 4 + 2 ≤ _; omega, by first | exact unhide HB | (rw [hg]; exact unhide HB)⟩
    · have nb : (n == 1) = false := by simpa using n1
      go_enter Tryz.func89, Tryz.ntmps89
      go_wp2_with fail
      go_ret
      exact ⟨_, rfl, by simp [txt, oneT, n1], by have := unhide HW; simp only [wt]; show 5 + 2 ≤ _; omega, by first | exact unhide HB | (rw [hg]; exact unhide HB)⟩
  by_cases k2 : k = 2
  · subst k2
    have CD := hide (digits_any n (unhide HBD).1 (unhide HBD).2 w1)
    go_enter Tryz.func89, Tryz.ntmps89
    go_wp2_with fail
    refine (unhide CD).mono ?_
    rintro e u ⟨t, rfl, ht, rfl⟩
    have HTT := hide ht
    clear ht CD
    go_wp2_with fail
    go_ret
    refine ⟨t, rfl, by rw [unhide HTT]; simp [txt, oneT], ?_, by first | exact unhide HB | (rw [hg]; exact unhide HB)⟩
    have h1 := itoa_len n (unhide HBD).1 (unhide HBD).2
    rw [← unhide HTT] at h1
    have h2 := str_size t
    simp only [wt]
    omega
  by_cases k3 : k = 3
  · subst k3
    have CD := hide (quoted_any s (by have := unhide HW; omega) w1)
    go_enter Tryz.func89, Tryz.ntmps89
    go_wp2_with fail
    refine (unhide CD).mono ?_
    rintro e u ⟨rfl, bu⟩
    have HF := hide (unhide HT u bu).2.2.2
    clear bu CD
    go_wp2_with fail
    go_ret
    refine ⟨_, rfl, by simp [txt, oneT, quoteU], ?_, by first | exact unhide HF | (rw [hg]; exact unhide HF)⟩
    have h1 := quoteU_len s
    have h2 := str_size (strOfNums (quoteI s))
    unfold quoteU at h1
    simp only [wt]
    omega
  have b0 : (k == 0) = false := by simpa using k0
  have b1 : (k == 1) = false := by simpa using k1
  have b2 : (k == 2) = false := by simpa using k2
  have b3 : (k == 3) = false := by simpa using k3
  by_cases k5 : k = 5

  · subst k5
    clear c0 c1 c2 c3 c4 b0 b1 b2 b3 k0 k1 k2 k3
    obtain ⟨c0, c1, c2, c3, c4⟩ := row_cell (unhide HT w1 (Below.refl _ _)).1
    have HLM : Hid (ln = m) := hide (by have h := (unhide HO).1; unfold formB formM at h; simp at h; have h1 := (unhide HL).1; have h2 := (unhide HL).2; omega)
    have HE0 : Hid ((⟨#[]⟩ : ByteArray).data.toList = txtL true (l.take 0) ks true ∧ (⟨#[]⟩ : ByteArray).size ≤ 32 * (keysW (ks.take 0) + wtL (l.take 0))) := hide ⟨by simp [txtL], by show 0 ≤ _; omega⟩
    have hlb : ln ≤ 140737488351232 := by
      obtain ⟨_, _, _, _, _, V, hf, _⟩ := IsP.at (unhide HT w1 (Below.refl _ _)).2.1
      have h1 := hf.bl
      have h2 := (unhide HL).2
      omega
    go_enter Tryz.func89, Tryz.ntmps89
    go_wp2_with fail
    clear c0 c1 c2 c3 c4
    go_loopw [3, 4] (fun y z wr => ∃ (i : Nat) (t : ByteArray), i ≤ ln ∧ y = .string t ∧ z = .int .i64 i ∧ Hid (t.data.toList = txtL true (l.take i) ks true ∧ t.size ≤ 32 * (keysW (ks.take i) + wtL (l.take i))) ∧ Hid (Below w1.heap.size w1 wr)) (fun _ z _ => ln - (intOf z).toNat)
    case atStart => exact ⟨0, _, Nat.zero_le _, rfl, rfl, HE0, hide (Below.refl _ _)⟩
    case round =>
      clear HE0
      obtain ⟨i, t, hi, rfl, rfl, HTi, HX⟩ := hrel
      obtain ⟨c0, c1, c2, c3, c4⟩ := row_cell (unhide HT wr (unhide HX)).1
      have hts : t.size ≤ 70000 := by
        have h1 := (unhide HTi).2
        have h2 := unhide HW
        have h3 := wtL_take_le2 l i
        have h4 := keysW_take_le2 ks i
        omega
      by_cases hlt : i < ln
      · have i1 : (i : Int) < (ln : Int) := by omega
        have i0 : (0 : Int) ≤ (i : Int) := by omega
        have HI1 : Hid (i + 1 ≤ ln) := hide (by omega)
        obtain ⟨y, hy⟩ : ∃ y, l[i]? = some y := ⟨_, List.getElem?_eq_getElem (by have := (unhide HL).2; omega)⟩
        have HY := hide hy
        have hyw : wt y ≤ 2048 := by
          have h1 := wtL_take1 l i y hy
          have h2 := wtL_take_le2 l (i + 1)
          have h3 := unhide HW
          omega
        have hyo : okB b y = true := okL_at b l i y (unhide HO).2 hy
        have CT : Hid (∀ u x, IsV u B y x → B ≤ u.heap.size → _) := hide (fun u x (h1 : IsV u B y x) (h2 : B ≤ u.heap.size) => ih y x B u hyo hyw h1 h2)
        clear hy hyo hyw
        by_cases hi0 : i = 0
        · have j0 : ¬ (0 : Int) < (i : Int) := by omega
          have HI0 := hide hi0
          clear hi0
          have hz0 : ¬ 9223372036854775807 < t.size + 2 := by omega
          obtain ⟨tk, htk⟩ : ∃ tk, ks[i]? = some tk := ⟨_, List.getElem?_eq_getElem (by have := (unhide HL).1; have := unhide HLM; omega)⟩
          obtain ⟨a2, rfl⟩ : ∃ a2, ak = some a2 := by
            cases ak with
            | none => have h1 := (unhide HT wr (unhide HX)).2.1.keys.1.none rfl; have h2 := (unhide HL).1; have := unhide HLM; omega
            | some a2 => exact ⟨a2, rfl⟩
          have cK := (unhide HT wr (unhide HX)).2.1.keys.1.cell a2 rfl i tk htk
          have j2 : (i : Int) < (m : Int) := by have := unhide HLM; omega
          have hkw := keysW_take1 ks i tk htk
          have hkb : tk.size ≤ 5000 := by have h1 := unhide HW; have h2 := keysW_take_le2 ks (i + 1); omega
          have CQ := hide (quoted_any tk hkb wr)
          obtain ⟨qt, hqt⟩ : ∃ qt, strOfNums (quoteI tk) = qt := ⟨_, rfl⟩
          rw [hqt] at CQ
          have hql : qt.size ≤ 2 + 4 * tk.size := by
            have h1 := quoteU_len tk
            unfold quoteU at h1
            rw [hqt] at h1
            have h2 := str_size qt
            omega
          have HQT : Hid (qt.data.toList = quoteU tk ∧ ks[i]? = some tk) := hide ⟨by rw [← hqt]; rfl, htk⟩
          have hz1 : ¬ 9223372036854775807 < t.size + qt.size := by omega
          have hz2 : ¬ 9223372036854775807 < t.size + qt.size + 2 := by omega
          clear hqt htk
          go_wp2_with fail
          refine (unhide CQ).mono ?_
          rintro e u2 ⟨rfl, bq⟩
          have HX2 := hide ((unhide HX).trans (bq.mono (unhide HX).size))
          clear bq CQ cK c0 c1 c2 c3 c4
          obtain ⟨c0, c1, c2, c3, c4⟩ := row_cell (unhide HT u2 (unhide HX2)).1
          obtain ⟨a, y0, y1, y2, al', ak', ll', m', cl', ck', rfl, hab, hce, hve⟩ := (unhide HT u2 (unhide HX2)).2.1.elem i y (unhide HY)
          have e0 : u2.cell? (a.add (i * 5)) = some (.int .i64 y0) := hce 0 _ rfl
          have e1 : u2.cell? ⟨(a.add (i * 5)).block, (a.add (i * 5)).off + 1, none⟩ = some (.int .i64 y1) := hce 1 _ rfl
          have e2 : u2.cell? ⟨(a.add (i * 5)).block, (a.add (i * 5)).off + 2, none⟩ = some (.string y2) := hce 2 _ rfl
          have e3 : u2.cell? ⟨(a.add (i * 5)).block, (a.add (i * 5)).off + 3, none⟩ = some (.slice al' ll' cl') := hce 3 _ rfl
          have e4 : u2.cell? ⟨(a.add (i * 5)).block, (a.add (i * 5)).off + 4, none⟩ = some (.slice ak' m' ck') := hce 4 _ rfl
          have CC := hide (unhide CT u2 _ hve (unhide HT u2 (unhide HX2)).2.2.1)
          clear hce hve hab
          go_wp2_with fail
          refine (unhide CC).mono ?_
          rintro e u3 ⟨ty, rfl, hty, hsz, b3⟩
          have HX3 := hide ((unhide HX2).trans (b3.mono (unhide HX2).size))
          have HTY := hide hty
          have hyw := wtL_take1 l i y (unhide HY)
          have hyl := wtL_take_le2 l (i + 1)
          have hWW := unhide HW
          have hz3 : ¬ 9223372036854775807 < t.size + qt.size + 2 + ty.size := by omega
          have HN1 : Hid ((t ++ qt ++ ⟨#[58, 32]⟩ ++ ty).data.toList = txtL true (l.take (i + 1)) ks true ∧ (t ++ qt ++ ⟨#[58, 32]⟩ ++ ty).size ≤ 32 * (keysW (ks.take (i + 1)) + wtL (l.take (i + 1)))) := hide (by
            constructor
            · rw [txtL_next true l ks i y (unhide HY), ← (unhide HTi).1, ← unhide HTY]
              unfold headT
              obtain ⟨q1, q2⟩ := unhide HQT
              have hd : (ks.drop i).headD ⟨#[]⟩ = tk := by rw [List.headD_eq_head?_getD, List.head?_drop, q2]; rfl
              rw [hd, ← q1]
              simp [unhide HI0, ByteArray.data_append, List.append_assoc]
            · have h1 := (unhide HTi).2
              simp only [ByteArray.size_append]
              show t.size + qt.size + 2 + ty.size ≤ _
              rw [hkw, hyw]
              omega)
          clear b3 hty hsz CC e0 e1 e2 e3 e4 hyw hyl hWW
          go_wp2_with fail
          go_roundw
          case rel => exact ⟨i + 1, _, unhide HI1, rfl, by go_num, HN1, HX3⟩
          case measure => have := unhide HI1; simp [intOf]; omega
    
        · have j0 : (0 : Int) < (i : Int) := by omega
          have HI0 := hide hi0
          clear hi0
          have hz0 : ¬ 9223372036854775807 < t.size + 2 := by omega
          obtain ⟨tk, htk⟩ : ∃ tk, ks[i]? = some tk := ⟨_, List.getElem?_eq_getElem (by have := (unhide HL).1; have := unhide HLM; omega)⟩
          obtain ⟨a2, rfl⟩ : ∃ a2, ak = some a2 := by
            cases ak with
            | none => have h1 := (unhide HT wr (unhide HX)).2.1.keys.1.none rfl; have h2 := (unhide HL).1; have := unhide HLM; omega
            | some a2 => exact ⟨a2, rfl⟩
          have cK := (unhide HT wr (unhide HX)).2.1.keys.1.cell a2 rfl i tk htk
          have j2 : (i : Int) < (m : Int) := by have := unhide HLM; omega
          have hkw := keysW_take1 ks i tk htk
          have hkb : tk.size ≤ 5000 := by have h1 := unhide HW; have h2 := keysW_take_le2 ks (i + 1); omega
          have CQ := hide (quoted_any tk hkb wr)
          obtain ⟨qt, hqt⟩ : ∃ qt, strOfNums (quoteI tk) = qt := ⟨_, rfl⟩
          rw [hqt] at CQ
          have hql : qt.size ≤ 2 + 4 * tk.size := by
            have h1 := quoteU_len tk
            unfold quoteU at h1
            rw [hqt] at h1
            have h2 := str_size qt
            omega
          have HQT : Hid (qt.data.toList = quoteU tk ∧ ks[i]? = some tk) := hide ⟨by rw [← hqt]; rfl, htk⟩
          have hz1 : ¬ 9223372036854775807 < t.size + 2 + qt.size := by omega
          have hz2 : ¬ 9223372036854775807 < t.size + 2 + qt.size + 2 := by omega
          clear hqt htk
          go_wp2_with fail
          refine (unhide CQ).mono ?_
          rintro e u2 ⟨rfl, bq⟩
          have HX2 := hide ((unhide HX).trans (bq.mono (unhide HX).size))
          clear bq CQ cK c0 c1 c2 c3 c4
          obtain ⟨c0, c1, c2, c3, c4⟩ := row_cell (unhide HT u2 (unhide HX2)).1
          obtain ⟨a, y0, y1, y2, al', ak', ll', m', cl', ck', rfl, hab, hce, hve⟩ := (unhide HT u2 (unhide HX2)).2.1.elem i y (unhide HY)
          have e0 : u2.cell? (a.add (i * 5)) = some (.int .i64 y0) := hce 0 _ rfl
          have e1 : u2.cell? ⟨(a.add (i * 5)).block, (a.add (i * 5)).off + 1, none⟩ = some (.int .i64 y1) := hce 1 _ rfl
          have e2 : u2.cell? ⟨(a.add (i * 5)).block, (a.add (i * 5)).off + 2, none⟩ = some (.string y2) := hce 2 _ rfl
          have e3 : u2.cell? ⟨(a.add (i * 5)).block, (a.add (i * 5)).off + 3, none⟩ = some (.slice al' ll' cl') := hce 3 _ rfl
          have e4 : u2.cell? ⟨(a.add (i * 5)).block, (a.add (i * 5)).off + 4, none⟩ = some (.slice ak' m' ck') := hce 4 _ rfl
          have CC := hide (unhide CT u2 _ hve (unhide HT u2 (unhide HX2)).2.2.1)
          clear hce hve hab
          go_wp2_with fail
          refine (unhide CC).mono ?_
          rintro e u3 ⟨ty, rfl, hty, hsz, b3⟩
          have HX3 := hide ((unhide HX2).trans (b3.mono (unhide HX2).size))
          have HTY := hide hty
          have hyw := wtL_take1 l i y (unhide HY)
          have hyl := wtL_take_le2 l (i + 1)
          have hWW := unhide HW
          have hz3 : ¬ 9223372036854775807 < t.size + 2 + qt.size + 2 + ty.size := by omega
          have HN1 : Hid ((t ++ ⟨#[44, 32]⟩ ++ qt ++ ⟨#[58, 32]⟩ ++ ty).data.toList = txtL true (l.take (i + 1)) ks true ∧ (t ++ ⟨#[44, 32]⟩ ++ qt ++ ⟨#[58, 32]⟩ ++ ty).size ≤ 32 * (keysW (ks.take (i + 1)) + wtL (l.take (i + 1)))) := hide (by
            constructor
            · rw [txtL_next true l ks i y (unhide HY), ← (unhide HTi).1, ← unhide HTY]
              unfold headT
              obtain ⟨q1, q2⟩ := unhide HQT
              have hd : (ks.drop i).headD ⟨#[]⟩ = tk := by rw [List.headD_eq_head?_getD, List.head?_drop, q2]; rfl
              rw [hd, ← q1]
              simp [unhide HI0, ByteArray.data_append, List.append_assoc]
            · have h1 := (unhide HTi).2
              simp only [ByteArray.size_append]
              show t.size + 2 + qt.size + 2 + ty.size ≤ _
              rw [hkw, hyw]
              omega)
          clear b3 hty hsz CC e0 e1 e2 e3 e4 hyw hyl hWW
          go_wp2_with fail
          go_roundw
          case rel => exact ⟨i + 1, _, unhide HI1, rfl, by go_num, HN1, HX3⟩
          case measure => have := unhide HI1; simp [intOf]; omega
      · have i1 : ¬ (i : Int) < (ln : Int) := by omega
        have hz1 : ¬ 9223372036854775807 < 1 + t.size := by omega
        have hz2 : ¬ 9223372036854775807 < 1 + t.size + 1 := by omega
        have HFN : Hid (t.data.toList = txtL true l ks true ∧ t.size ≤ 32 * (keysW ks + wtL l) ∧ Below g w wr) := hide (by
          obtain ⟨h1, h2⟩ := unhide HTi
          have hle : l.length ≤ i := by have := (unhide HL).2; omega
          rw [List.take_of_length_le hle] at h1 h2
          rw [List.take_of_length_le (by have := (unhide HL).1; have := unhide HLM; omega)] at h2
          exact ⟨h1, h2, (unhide HT wr (unhide HX)).2.2.2⟩)
        go_wp2_with fail
        go_ret
        obtain ⟨h1, h2, h3⟩ := unhide HFN
        refine ⟨_, rfl, ?_, ?_, by first | exact h3 | (rw [hg]; exact h3)⟩
        · simp [txt, oneT, ByteArray.data_append, h1]
        · have hWW := unhide HW
          simp only [ByteArray.size_append, wt]
          show 1 + t.size + 1 + 2 ≤ _
          omega
  · have b5 : (k == 5) = false := by simpa using k5
    clear c0 c1 c2 c3 c4 
    obtain ⟨c0, c1, c2, c3, c4⟩ := row_cell (unhide HT w1 (Below.refl _ _)).1
    have HLM : Hid (True) := hide (trivial)
    have HE0 : Hid ((⟨#[]⟩ : ByteArray).data.toList = txtL false (l.take 0) ks true ∧ (⟨#[]⟩ : ByteArray).size ≤ 32 * (wtL (l.take 0))) := hide ⟨by simp [txtL], by show 0 ≤ _; omega⟩
    have hlb : ln ≤ 140737488351232 := by
      obtain ⟨_, _, _, _, _, V, hf, _⟩ := IsP.at (unhide HT w1 (Below.refl _ _)).2.1
      have h1 := hf.bl
      have h2 := (unhide HL).2
      omega
    go_enter Tryz.func89, Tryz.ntmps89
    go_wp2_with fail
    clear c0 c1 c2 c3 c4
    go_loopw [3, 4] (fun y z wr => ∃ (i : Nat) (t : ByteArray), i ≤ ln ∧ y = .string t ∧ z = .int .i64 i ∧ Hid (t.data.toList = txtL false (l.take i) ks true ∧ t.size ≤ 32 * (wtL (l.take i))) ∧ Hid (Below w1.heap.size w1 wr)) (fun _ z _ => ln - (intOf z).toNat)
    case atStart => exact ⟨0, _, Nat.zero_le _, rfl, rfl, HE0, hide (Below.refl _ _)⟩
    case round =>
      clear HE0
      obtain ⟨i, t, hi, rfl, rfl, HTi, HX⟩ := hrel
      obtain ⟨c0, c1, c2, c3, c4⟩ := row_cell (unhide HT wr (unhide HX)).1
      have hts : t.size ≤ 70000 := by
        have h1 := (unhide HTi).2
        have h2 := unhide HW
        have h3 := wtL_take_le2 l i
        have h4 := keysW_take_le2 ks i
        omega
      by_cases hlt : i < ln
      · have i1 : (i : Int) < (ln : Int) := by omega
        have i0 : (0 : Int) ≤ (i : Int) := by omega
        have HI1 : Hid (i + 1 ≤ ln) := hide (by omega)
        obtain ⟨y, hy⟩ : ∃ y, l[i]? = some y := ⟨_, List.getElem?_eq_getElem (by have := (unhide HL).2; omega)⟩
        have HY := hide hy
        have hyw : wt y ≤ 2048 := by
          have h1 := wtL_take1 l i y hy
          have h2 := wtL_take_le2 l (i + 1)
          have h3 := unhide HW
          omega
        have hyo : okB b y = true := okL_at b l i y (unhide HO).2 hy
        have CT : Hid (∀ u x, IsV u B y x → B ≤ u.heap.size → _) := hide (fun u x (h1 : IsV u B y x) (h2 : B ≤ u.heap.size) => ih y x B u hyo hyw h1 h2)
        clear hy hyo hyw
        by_cases hi0 : i = 0
        · have j0 : ¬ (0 : Int) < (i : Int) := by omega
          have HI0 := hide hi0
          clear hi0
          have hz0 : ¬ 9223372036854775807 < t.size + 2 := by omega
          obtain ⟨a, y0, y1, y2, al', ak', ll', m', cl', ck', rfl, hab, hce, hve⟩ := (unhide HT wr (unhide HX)).2.1.elem i y (unhide HY)
          have e0 : wr.cell? (a.add (i * 5)) = some (.int .i64 y0) := hce 0 _ rfl
          have e1 : wr.cell? ⟨(a.add (i * 5)).block, (a.add (i * 5)).off + 1, none⟩ = some (.int .i64 y1) := hce 1 _ rfl
          have e2 : wr.cell? ⟨(a.add (i * 5)).block, (a.add (i * 5)).off + 2, none⟩ = some (.string y2) := hce 2 _ rfl
          have e3 : wr.cell? ⟨(a.add (i * 5)).block, (a.add (i * 5)).off + 3, none⟩ = some (.slice al' ll' cl') := hce 3 _ rfl
          have e4 : wr.cell? ⟨(a.add (i * 5)).block, (a.add (i * 5)).off + 4, none⟩ = some (.slice ak' m' ck') := hce 4 _ rfl
          have CC := hide (unhide CT wr _ hve (unhide HT wr (unhide HX)).2.2.1)
          clear hce hve hab
          go_wp2_with fail
          refine (unhide CC).mono ?_
          rintro e u3 ⟨ty, rfl, hty, hsz, b3⟩
          have HX3 := hide ((unhide HX).trans (b3.mono (unhide HX).size))
          have HTY := hide hty
          have hyw := wtL_take1 l i y (unhide HY)
          have hyl := wtL_take_le2 l (i + 1)
          have hWW := unhide HW
          have hz3 : ¬ 9223372036854775807 < t.size + ty.size := by omega
          have HN1 : Hid ((t ++ ty).data.toList = txtL false (l.take (i + 1)) ks true ∧ (t ++ ty).size ≤ 32 * (wtL (l.take (i + 1)))) := hide (by
            constructor
            · rw [txtL_next false l ks i y (unhide HY), ← (unhide HTi).1, ← unhide HTY]
              unfold headT
          
          
          
              simp [unhide HI0, ByteArray.data_append, List.append_assoc]
            · have h1 := (unhide HTi).2
              simp only [ByteArray.size_append]
              show t.size + ty.size ≤ _
              rw [hyw]
              omega)
          clear b3 hty hsz CC e0 e1 e2 e3 e4 hyw hyl hWW
          go_wp2_with fail
          go_roundw
          case rel => exact ⟨i + 1, _, unhide HI1, rfl, by go_num, HN1, HX3⟩
          case measure => have := unhide HI1; simp [intOf]; omega
    
        · have j0 : (0 : Int) < (i : Int) := by omega
          have HI0 := hide hi0
          clear hi0
          have hz0 : ¬ 9223372036854775807 < t.size + 2 := by omega
          obtain ⟨a, y0, y1, y2, al', ak', ll', m', cl', ck', rfl, hab, hce, hve⟩ := (unhide HT wr (unhide HX)).2.1.elem i y (unhide HY)
          have e0 : wr.cell? (a.add (i * 5)) = some (.int .i64 y0) := hce 0 _ rfl
          have e1 : wr.cell? ⟨(a.add (i * 5)).block, (a.add (i * 5)).off + 1, none⟩ = some (.int .i64 y1) := hce 1 _ rfl
          have e2 : wr.cell? ⟨(a.add (i * 5)).block, (a.add (i * 5)).off + 2, none⟩ = some (.string y2) := hce 2 _ rfl
          have e3 : wr.cell? ⟨(a.add (i * 5)).block, (a.add (i * 5)).off + 3, none⟩ = some (.slice al' ll' cl') := hce 3 _ rfl
          have e4 : wr.cell? ⟨(a.add (i * 5)).block, (a.add (i * 5)).off + 4, none⟩ = some (.slice ak' m' ck') := hce 4 _ rfl
          have CC := hide (unhide CT wr _ hve (unhide HT wr (unhide HX)).2.2.1)
          clear hce hve hab
          go_wp2_with fail
          refine (unhide CC).mono ?_
          rintro e u3 ⟨ty, rfl, hty, hsz, b3⟩
          have HX3 := hide ((unhide HX).trans (b3.mono (unhide HX).size))
          have HTY := hide hty
          have hyw := wtL_take1 l i y (unhide HY)
          have hyl := wtL_take_le2 l (i + 1)
          have hWW := unhide HW
          have hz3 : ¬ 9223372036854775807 < t.size + 2 + ty.size := by omega
          have HN1 : Hid ((t ++ ⟨#[44, 32]⟩ ++ ty).data.toList = txtL false (l.take (i + 1)) ks true ∧ (t ++ ⟨#[44, 32]⟩ ++ ty).size ≤ 32 * (wtL (l.take (i + 1)))) := hide (by
            constructor
            · rw [txtL_next false l ks i y (unhide HY), ← (unhide HTi).1, ← unhide HTY]
              unfold headT
          
          
          
              simp [unhide HI0, ByteArray.data_append, List.append_assoc]
            · have h1 := (unhide HTi).2
              simp only [ByteArray.size_append]
              show t.size + 2 + ty.size ≤ _
              rw [hyw]
              omega)
          clear b3 hty hsz CC e0 e1 e2 e3 e4 hyw hyl hWW
          go_wp2_with fail
          go_roundw
          case rel => exact ⟨i + 1, _, unhide HI1, rfl, by go_num, HN1, HX3⟩
          case measure => have := unhide HI1; simp [intOf]; omega
      · have i1 : ¬ (i : Int) < (ln : Int) := by omega
        have hz1 : ¬ 9223372036854775807 < 1 + t.size := by omega
        have hz2 : ¬ 9223372036854775807 < 1 + t.size + 1 := by omega
        have HFN : Hid (t.data.toList = txtL false l ks true ∧ t.size ≤ 32 * (wtL l) ∧ Below g w wr) := hide (by
          obtain ⟨h1, h2⟩ := unhide HTi
          have hle : l.length ≤ i := by have := (unhide HL).2; omega
          rw [List.take_of_length_le hle] at h1 h2
      
          exact ⟨h1, h2, (unhide HT wr (unhide HX)).2.2.2⟩)
        go_wp2_with fail
        go_ret
        obtain ⟨h1, h2, h3⟩ := unhide HFN
        refine ⟨_, rfl, ?_, ?_, by first | exact h3 | (rw [hg]; exact h3)⟩
        · simp [txt, oneT, ByteArray.data_append, h1, k0, k1, k2, k3, k5]
        · have hWW := unhide HW
          simp only [ByteArray.size_append, wt]
          show 1 + t.size + 1 + 2 ≤ _
          omega
theorem text_any : ∀ b, TextAt b
  | 0 => text_zero
  | b + 1 => text_step b (text_any b)
end Go.Proofs.YtjkfkneibcjgaaaGreatDoor
