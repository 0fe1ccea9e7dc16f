/-
  The walk of value's write; conditions: what a right value is, the table of strconv as the program's text lays it.
-/
import Derived.Test.YtfbpaeddfonfbaaDoorBWrt
namespace Go.Proofs.YtfbpaeddfonfbaaDoor
open Go.RowKit
set_option linter.unusedVariables false
set_option linter.unusedSimpArgs false

theorem bool_true : (Lib.formatBool true) = [116, 114, 117, 101] := by decide +kernel
theorem bool_false : (Lib.formatBool false) = [102, 97, 108, 115, 101] := by decide +kernel

theorem write_zero : WriteAt 0 := by
  intro v x B b l w h
  cases v
  simp [okB] at h

theorem form_kind {k n : Int} {s : ByteArray} {ll : Nat} {ks : List ByteArray} (h : formB k n s ll ks = true) : k = 0 ∨ k = 1 ∨ k = 2 ∨ k = 3 ∨ k = 4 ∨ (k = 5 ∧ ks.length = ll) := by
  by_cases k0 : k = 0
  · exact .inl k0
  by_cases k1 : k = 1
  · exact .inr (.inl k1)
  by_cases k2 : k = 2
  · exact .inr (.inr (.inl k2))
  by_cases k3 : k = 3
  · exact .inr (.inr (.inr (.inl k3)))
  by_cases k4 : k = 4
  · exact .inr (.inr (.inr (.inr (.inl k4))))
  by_cases k5 : k = 5
  · refine .inr (.inr (.inr (.inr (.inr ⟨k5, ?_⟩))))
    subst k5
    unfold formB formM at h
    simp at h
    omega
  · exfalso
    unfold formB formM at h
    simp [k0, k1, k2, k3, k4, k5] at h

set_option maxRecDepth 100000 in
set_option maxHeartbeats 4000000 in
theorem write_step (d : Nat) (ih : WriteAt d) : WriteAt (d + 1) := by
  intro v x B b l w hok hwt hv hBs hG hP hbd hl
  obtain ⟨k, n, s, lv, ks, al, ak, cl, ck, rfl, rfl⟩ := hv.shape
  obtain ⟨m, hm⟩ : ∃ m, ks.length = m := ⟨_, rfl⟩
  obtain ⟨ln, hln⟩ : ∃ ln, lv.length = ln := ⟨_, rfl⟩
  have hn : (-9223372036854775808 ≤ n ∧ n ≤ 9223372036854775807) := by
    obtain ⟨_, _, _, _, _, V, hf, _⟩ := IsP.at hv
    exact hf.bn
  rw [okB, Bool.and_eq_true] at hok
  have hkd := form_kind hok.1
  rw [hm, hln] at hv
  rw [hm, hln]
  have hwt' : 1 + s.size + keysW ks + wtL lv ≤ 2048 := by simpa [wt] using hwt
  have hwe : wt (.mk k n s lv ks) = 1 + s.size + keysW ks + wtL lv := by simp [wt]
  have hl' : l.length + 32 * (1 + s.size + keysW ks + wtL lv) ≤ 549755813888 := by rw [← hwe]; exact hl
  rw [hwe]
  have hblt : b < w.heap.size := by rcases hbd with h | h <;> exact h.lt
  obtain ⟨g, hg⟩ : ∃ g, w.heap.size = g := ⟨_, rfl⟩
  have BX := Box.mk' w (.int .i64 k) (.int .i64 n) (.string s) (.slice al ln cl) (.slice ak m ck)
  obtain ⟨w1, hw1⟩ : ∃ w1, w.alloc (.cells #[.int .i64 k, .int .i64 n, .string s, .slice al ln cl, .slice ak m ck] 25) = w1 := ⟨_, rfl⟩
  rw [hw1] at BX
  have at0 := BX.row
  rw [hg] at at0
  have zb : g < w1.heap.size := by have := BX.size; omega
  have W1 : Wr B b l w w1 := (Wr.start hbd).more BX.below hBs
  have hB1 : B ≤ w1.heap.size := W1.size hBs
  have HT : Hid (∀ u l', Wr B b l' w1 u → u.heap[g]? = some (.cells #[.int .i64 k, .int .i64 n, .string s, .slice al ln cl, .slice ak m ck] 25 (0, 0)) ∧ IsV u B (.mk k n s lv ks) (.agg #[.int .i64 k, .int .i64 n, .string s, .slice al ln cl, .slice ak m ck]) ∧ B ≤ u.heap.size ∧ PowAt u ∧ Wr B b l' w u ∧ g < u.heap.size) := hide (fun u l' hu => by
    have h1 : Wr B b l' w u := W1.trans hu
    have h2 := hu.box at0 (by omega)
    exact ⟨h2, hv.mono h1.below, h1.size hBs, hP.later h1.below hG, h1, (Array.getElem?_eq_some_iff.1 h2).1⟩)
  have HS : Hid (Wr B b l w1 w1) := hide (Wr.start W1.bd)
  have HO := hide hok.2
  have HW := hide (And.intro hwt' hl')
  have HBN := hide hn
  have HGG := hide hG
  have HW1 := hide W1
  obtain ⟨c0, c1, c2, c3, c4⟩ := row_cell at0
  clear BX hv hm hln at0 hok hwt hwt' hn hbd hP hl hwe hl' W1 hblt
  rcases hkd with rfl | rfl | rfl | rfl | rfl | ⟨rfl, hkl⟩
  · have C := hide (wstr_any B b _ ⟨#[117, 110, 105, 116]⟩ w1 (unhide HS).bd (by have := unhide HW; show _ + 4 ≤ _; omega) hB1)
    go_enter Tryd.func20, Tryd.ntmps20
    go_wp2_with fail
    refine (unhide C).mono ?_
    rintro e u ⟨rfl, ku⟩
    have HE := hide ((unhide HW1).trans ku)
    clear ku C
    go_wp2_with fail
    go_end0
    refine ⟨rfl, by simp [txt, oneT]; omega, ?_⟩
    have h := unhide HE
    simpa [txt, oneT] using h
  · by_cases n1 : n = 1
    · subst n1
      have CB := hide (Tryd.strconv_FormatBool true w1)
      have C := hide (wstr_any B b _ ⟨(Lib.formatBool true).toArray⟩ w1 (unhide HS).bd (by have := unhide HW; show _ + 4 ≤ _; omega) hB1)
      go_enter Tryd.func20, Tryd.ntmps20
      go_wp2_with fail
      refine (unhide CB).mono ?_
      rintro e u ⟨rfl, rfl⟩
      go_wp2_with fail
      refine (unhide C).mono ?_
      rintro e u ⟨rfl, ku⟩
      have HE := hide ((unhide HW1).trans ku)
      clear ku C CB
      go_wp2_with fail
      go_end0
      refine ⟨rfl, by simp [txt, oneT]; omega, ?_⟩
      have h := unhide HE
      rw [bool_true] at h
      simpa [txt, oneT] using h
    · have nb : (n == 1) = false := by simpa using n1
      have CB := hide (Tryd.strconv_FormatBool false w1)
      have C := hide (wstr_any B b _ ⟨(Lib.formatBool false).toArray⟩ w1 (unhide HS).bd (by have := unhide HW; show _ + 5 ≤ _; omega) hB1)
      go_enter Tryd.func20, Tryd.ntmps20
      go_wp2_with fail
      refine (unhide CB).mono ?_
      rintro e u ⟨rfl, rfl⟩
      go_wp2_with fail
      refine (unhide C).mono ?_
      rintro e u ⟨rfl, ku⟩
      have HE := hide ((unhide HW1).trans ku)
      clear ku C CB
      go_wp2_with fail
      go_end0
      refine ⟨rfl, by simp [txt, oneT, n1]; omega, ?_⟩
      have h := unhide HE
      rw [bool_false] at h
      simpa [txt, oneT, n1] using h
  · have CI := hide (Tryd.strconv_FormatInt_10 n (unhide HBN).1 (unhide HBN).2 w1 (unhide HT w1 _ (unhide HS)).2.2.2.1)
    have HIL := hide (itoa_len n (unhide HBN).1 (unhide HBN).2)
    go_enter Tryd.func20, Tryd.ntmps20
    go_wp2_with fail
    refine (unhide CI).mono ?_
    rintro e u ⟨rfl, q, os, hu⟩
    have HU := hide ((unhide HS).more (show Below w1.heap.size w1 u by rw [hu]; exact Lib.below_grow _ _ (Nat.le_refl _) q os) hB1)
    clear hu CI
    have C := hide (wstr_any B b _ ⟨(Lib.itoa n).toArray⟩ u (unhide HU).bd (by have := unhide HW; have := unhide HIL; show _ + (Lib.itoa n).toArray.size ≤ _; rw [List.size_toArray]; omega) ((unhide HU).size hB1))
    go_wp2_with fail
    refine (unhide C).mono ?_
    rintro e u2 ⟨rfl, ku⟩
    have HE := hide ((unhide HW1).trans ((unhide HU).trans ku))
    clear ku C
    go_wp2_with fail
    go_end0
    refine ⟨rfl, by have := unhide HIL; simp [txt, oneT]; omega, ?_⟩
    have h := unhide HE
    simpa [txt, oneT] using h
  · have C := hide (quote_any B b _ s w1 (unhide HS).bd (by have := unhide HW; omega) hB1)
    go_enter Tryd.func20, Tryd.ntmps20
    go_wp2_with fail
    refine (unhide C).mono ?_
    rintro e u ⟨rfl, ku⟩
    have HE := hide ((unhide HW1).trans ku)
    clear ku C
    go_wp2_with fail
    go_end0
    refine ⟨rfl, by have := quoteU_len s; simp [txt, oneT]; omega, ?_⟩
    have h := unhide HE
    simpa [txt, oneT] using h
  · have C1 := hide (wbyte_lit B b _ 91 91 rfl w1 (unhide HS).bd (by have := unhide HW; omega) hB1)
    go_enter Tryd.func20, Tryd.ntmps20
    go_wp2_with fail
    refine (unhide C1).mono ?_
    rintro e u1 ⟨rfl, k1⟩
    have HX1 := hide ((unhide HS).trans k1)
    clear k1 C1 c0 c1 c2 c3 c4
    obtain ⟨hbx, hV, hBw, hPw, hWw, hgw⟩ := unhide HT u1 _ (unhide HX1)
    obtain ⟨c0, c1, c2, c3, c4⟩ := row_cell hbx
    have C2 := hide (elems4 d ih n s lv ks _ B b _ u1 (unhide HO) (unhide HW).1 hV hBw (unhide HGG) hPw (unhide HX1).bd (by have := unhide HW; rw [List.length_append]; show _ + 1 + _ + 4 ≤ _; omega))
    clear hV hPw hWw hbx
    go_wp2_with fail
    refine (unhide C2).mono ?_
    rintro e u2 ⟨rfl, hln2, k2⟩
    have HX2 := hide ((unhide HX1).trans k2)
    have HLN := hide hln2
    clear k2 C2 hln2
    have C3 := hide (wbyte_lit B b _ 93 93 rfl u2 (unhide HX2).bd (by have := unhide HW; have := unhide HLN; rw [List.length_append, List.length_append]; show _ + 1 + _ + 1 ≤ _; omega) ((unhide HX2).size hB1))
    go_wp2_with fail
    refine (unhide C3).mono ?_
    rintro e u3 ⟨rfl, k3⟩
    have HE := hide ((unhide HW1).trans ((unhide HX2).trans k3))
    clear k3 C3
    go_wp2_with fail
    go_end0
    refine ⟨rfl, by have := unhide HLN; simp [txt, oneT]; omega, ?_⟩
    have h := unhide HE
    simpa [txt, oneT] using h
  · have C1 := hide (wbyte_lit B b _ 123 123 rfl w1 (unhide HS).bd (by have := unhide HW; omega) hB1)
    go_enter Tryd.func20, Tryd.ntmps20
    go_wp2_with fail
    refine (unhide C1).mono ?_
    rintro e u1 ⟨rfl, k1⟩
    have HX1 := hide ((unhide HS).trans k1)
    clear k1 C1 c0 c1 c2 c3 c4
    obtain ⟨hbx, hV, hBw, hPw, hWw, hgw⟩ := unhide HT u1 _ (unhide HX1)
    obtain ⟨c0, c1, c2, c3, c4⟩ := row_cell hbx
    have C2 := hide (elems5 d ih n s lv ks _ B b _ u1 (unhide HO) hkl (unhide HW).1 hV hBw (unhide HGG) hPw (unhide HX1).bd (by have := unhide HW; rw [List.length_append]; show _ + 1 + _ + 4 ≤ _; omega))
    clear hV hPw hWw hbx
    go_wp2_with fail
    refine (unhide C2).mono ?_
    rintro e u2 ⟨rfl, hln2, k2⟩
    have HX2 := hide ((unhide HX1).trans k2)
    have HLN := hide hln2
    clear k2 C2 hln2
    have C3 := hide (wbyte_lit B b _ 125 125 rfl u2 (unhide HX2).bd (by have := unhide HW; have := unhide HLN; rw [List.length_append, List.length_append]; show _ + 1 + _ + 1 ≤ _; omega) ((unhide HX2).size hB1))
    go_wp2_with fail
    refine (unhide C3).mono ?_
    rintro e u3 ⟨rfl, k3⟩
    have HE := hide ((unhide HW1).trans ((unhide HX2).trans k3))
    clear k3 C3
    go_wp2_with fail
    go_end0
    refine ⟨rfl, by have := unhide HLN; simp [txt, oneT]; omega, ?_⟩
    have h := unhide HE
    simpa [txt, oneT] using h

theorem write_any : ∀ d, WriteAt d
  | 0 => write_zero
  | d + 1 => write_step d (write_any d)
end Go.Proofs.YtfbpaeddfonfbaaDoor
