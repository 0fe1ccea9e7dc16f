/-
  The walks of Export of a module (layer 9), the code's and the document's own; no conditions but the form's own reach.
-/
import Derived.Test.YtpdfggjhedgdlaaA50
import Derived.Test.YtpdfggjhedgdlaaA45
namespace Go.Proofs.Ytpdfggjhedgdlaa
open Go.RowKit
set_option linter.unusedVariables false
set_option linter.unusedSimpArgs false

def findX : List Ex → ByteArray → Int × Bool
  | [], _ => (0, false)
  | x :: r, s => if (x.1.toList == s.toList) = true then (x.2, true) else findX r s

def expOf (m : Md) (s : ByteArray) : Int × Bool := if rightM m = true then findX m.xs s else (0, false)

theorem findX_yes (l : List Ex) (i : Nat) (t s : ByteArray) (f : Int) (h : l[i]? = some (t, f)) (e : (t.toList == s.toList) = true) : findX (l.drop i) s = (f, true) := by
  obtain ⟨hi, hx⟩ := List.getElem?_eq_some_iff.1 h
  rw [List.drop_eq_getElem_cons hi, hx, findX, if_pos e]

theorem findX_no (l : List Ex) (i : Nat) (t s : ByteArray) (f : Int) (h : l[i]? = some (t, f)) (e : (t.toList == s.toList) = false) : findX (l.drop i) s = findX (l.drop (i + 1)) s := by
  obtain ⟨hi, hx⟩ := List.getElem?_eq_some_iff.1 h
  rw [List.drop_eq_getElem_cons hi, hx, findX, if_neg (by rw [e]; decide)]

set_option maxRecDepth 100000 in
set_option maxHeartbeats 2000000 in
theorem export_any (m : Md) (a1 a2 a3 : Option Addr) (n1 c1 n2 c2 n3 c3 B : Nat) (s : ByteArray) (w : World) (hn1 : m.cs.length = n1) (hn2 : m.fs.length = n2) (hn3 : m.xs.length = n3) (h : IsM w (fun b => b < B) m a1 c1 a2 c2 a3 c3) (hB : B ≤ w.heap.size) :
    Calls Try.prog 6 #[.agg #[.slice a1 n1 c1, .slice a2 n2 c2, .slice a3 n3 c3], .string s] w fun e w' => e = .returned (.tuple #[.int .i64 (expOf m s).1, .bool (expOf m s).2]) ∧ Below w.heap.size w w' := by
  have hl := h.len
  rw [hn1, hn2, hn3] at hl
  obtain ⟨l1, l2, l3⟩ := hl
  obtain ⟨g, hg⟩ : ∃ g, w.heap.size = g := ⟨_, rfl⟩
  have BX := BoxN.mk' w #[.slice a1 n1 c1, .slice a2 n2 c2, .slice a3 n3 c3] 26
  obtain ⟨w1, hw1⟩ : ∃ w1, w.alloc (.cells #[.slice a1 n1 c1, .slice a2 n2 c2, .slice a3 n3 c3] 26) = w1 := ⟨_, rfl⟩
  rw [hw1] at BX
  have HS : Hid (∀ u, Below w1.heap.size w1 u → SeeM u B g m (.slice a1 n1 c1) (.slice a2 n2 c2) (.slice a3 n3 c3) a1 c1 a2 c2 a3 c3 ∧ Below w.heap.size w u) := hide (fun u hu => by
    have S1 : SeeM w1 B g m (.slice a1 n1 c1) (.slice a2 n2 c2) (.slice a3 n3 c3) a1 c1 a2 c2 a3 c3 := ⟨by rw [← hg]; exact BX.row, h.later (BX.below.mono hB), by have := BX.size; omega⟩
    exact ⟨S1.later hu, BX.below.trans (hu.mono (by have := BX.size; omega))⟩)
  obtain ⟨m0, m1, m2⟩ := row_cell3 (unhide HS w1 (Below.refl _ _)).1.box
  have CR := hide (rightM_any m a1 a2 a3 n1 c1 n2 c2 n3 c3 B w1 hn1 hn2 hn3 (unhide HS w1 (Below.refl _ _)).1.mod (unhide HS w1 (Below.refl _ _)).1.low)
  have HN := hide hn3
  cases hR : rightM m with
  | false =>
    rw [hR] at CR
    have hE : expOf m s = (0, false) := by unfold expOf; rw [hR]; rfl
    rw [hE]
    clear hR hE h hB BX hn1 hn2 hn3
    go_enter Try.func6, Try.ntmps6
    go_wp2_with fail
    refine (unhide CR).mono ?_
    rintro e u ⟨rfl, b1⟩
    have B1 := hide (unhide HS u b1).2
    clear b1 CR
    go_wp2_with fail
    go_ret2
    exact ⟨rfl, by first | exact unhide B1 | (rw [← hg]; exact unhide B1)⟩
  | true =>
    rw [hR] at CR
    have hE : expOf m s = findX m.xs s := by unfold expOf; rw [hR]; rfl
    rw [hE]
    obtain ⟨F, hF⟩ : ∃ F, findX m.xs s = F := ⟨_, rfl⟩
    rw [hF]
    have HF := hide hF
    clear hR hE h hB BX hn1 hn2 hn3 hF
    go_enter Try.func6, Try.ntmps6
    go_wp2_with fail
    refine (unhide CR).mono ?_
    rintro e u ⟨rfl, b1⟩
    have B1 := hide b1
    clear b1 CR m0 m1 m2
    obtain ⟨m0, m1, m2⟩ := row_cell3 (unhide HS u (unhide B1)).1.box
    go_wp2_with fail
    go_loopw [14] (fun x wr => ∃ (i : Nat), x = .int .i64 (i : Int) ∧ Hid (i ≤ n3) ∧ Hid (Below w1.heap.size w1 wr) ∧ Hid (findX (m.xs.drop i) s = F)) (fun x _ => n3 - (intOf x).toNat)
    case atStart => exact ⟨0, rfl, hide (by omega), B1, hide (by rw [List.drop_zero]; exact unhide HF)⟩
    case round =>
      clear m0 m1 m2 B1
      obtain ⟨i, rfl, HI, HB, HX⟩ := hrel
      obtain ⟨m0, m1, m2⟩ := row_cell3 (unhide HS wr (unhide HB)).1.box
      by_cases hlt : i < n3
      · have j1 : (i : Int) < (n3 : Int) := by omega
        have HI1 : Hid (i + 1 ≤ n3) := hide (by omega)
        obtain ⟨⟨t, f⟩, hv⟩ : ∃ v, m.xs[i]? = some v := ⟨_, List.getElem?_eq_getElem (by have := unhide HN; omega)⟩
        obtain ⟨a, rfl, _, ht, k0, k1⟩ := (unhide HS wr (unhide HB)).1.mod.exp i t f hv
        have BQ := BoxN.mk' wr #[.string t, .int .i64 f] 45
        obtain ⟨w3, hw3⟩ : ∃ w3, wr.alloc (.cells #[.string t, .int .i64 f] 45) = w3 := ⟨_, rfl⟩
        rw [hw3] at BQ
        obtain ⟨q, hq⟩ : ∃ q, wr.heap.size = q := ⟨_, rfl⟩
        obtain ⟨d0, d1⟩ := row_cell2 (by have := BQ.row; rw [hq] at this; exact this)
        have HB3 : Hid (Below w1.heap.size w1 w3) := hide ((unhide HB).trans (BQ.below.mono (unhide HB).size))
        cases hc : (t.toList == s.toList) with
        | true =>
          have HY : Hid (F = (f, true)) := hide (by rw [← unhide HX]; exact findX_yes _ _ _ _ _ hv hc)
          clear hv BQ
          go_wp2_with fail
          go_ret2
          exact ⟨by rw [unhide HY]; rfl, by first | exact (unhide HS _ (unhide HB3)).2 | (rw [← hg]; exact (unhide HS _ (unhide HB3)).2)⟩
        | false =>
          have HY : Hid (findX (m.xs.drop (i + 1)) s = F) := hide (by rw [← findX_no _ _ _ _ _ hv hc]; exact unhide HX)
          clear hv BQ
          go_wp2_with fail
          go_roundw
          case rel => exact ⟨i + 1, by go_num, HI1, HB3, HY⟩
          case measure => have := unhide HI1; simp [intOf]; omega
      · have j1 : ¬ (i : Int) < (n3 : Int) := by omega
        have HY : Hid (F = (0, false)) := hide (by rw [← unhide HX, List.drop_of_length_le (by have := unhide HN; omega)]; rfl)
        go_wp2_with fail
        go_ret2
        exact ⟨by rw [unhide HY]; rfl, by first | exact (unhide HS _ (unhide HB)).2 | (rw [← hg]; exact (unhide HS _ (unhide HB)).2)⟩

set_option maxRecDepth 100000 in
set_option maxHeartbeats 2000000 in
theorem exportR_any (m : Md) (a1 a2 a3 : Option Addr) (n1 c1 n2 c2 n3 c3 B : Nat) (s : ByteArray) (w : World) (hn1 : m.cs.length = n1) (hn2 : m.fs.length = n2) (hn3 : m.xs.length = n3) (h : IsM w (fun b => b < B) m a1 c1 a2 c2 a3 c3) (hB : B ≤ w.heap.size) :
    Calls Try.prog 7 #[.agg #[.slice a1 n1 c1, .slice a2 n2 c2, .slice a3 n3 c3], .string s] w fun e w' => e = .returned (.tuple #[.int .i64 (expOf m s).1, .bool (expOf m s).2]) ∧ Below w.heap.size w w' := by
  have hl := h.len
  rw [hn1, hn2, hn3] at hl
  obtain ⟨l1, l2, l3⟩ := hl
  obtain ⟨g, hg⟩ : ∃ g, w.heap.size = g := ⟨_, rfl⟩
  have BX := BoxN.mk' w #[.slice a1 n1 c1, .slice a2 n2 c2, .slice a3 n3 c3] 26
  obtain ⟨w1, hw1⟩ : ∃ w1, w.alloc (.cells #[.slice a1 n1 c1, .slice a2 n2 c2, .slice a3 n3 c3] 26) = w1 := ⟨_, rfl⟩
  rw [hw1] at BX
  have HS : Hid (∀ u, Below w1.heap.size w1 u → SeeM u B g m (.slice a1 n1 c1) (.slice a2 n2 c2) (.slice a3 n3 c3) a1 c1 a2 c2 a3 c3 ∧ Below w.heap.size w u) := hide (fun u hu => by
    have S1 : SeeM w1 B g m (.slice a1 n1 c1) (.slice a2 n2 c2) (.slice a3 n3 c3) a1 c1 a2 c2 a3 c3 := ⟨by rw [← hg]; exact BX.row, h.later (BX.below.mono hB), by have := BX.size; omega⟩
    exact ⟨S1.later hu, BX.below.trans (hu.mono (by have := BX.size; omega))⟩)
  obtain ⟨m0, m1, m2⟩ := row_cell3 (unhide HS w1 (Below.refl _ _)).1.box
  have CR := hide (rightR_any m a1 a2 a3 n1 c1 n2 c2 n3 c3 B w1 hn1 hn2 hn3 (unhide HS w1 (Below.refl _ _)).1.mod (unhide HS w1 (Below.refl _ _)).1.low)
  have HN := hide hn3
  cases hR : rightM m with
  | false =>
    rw [hR] at CR
    have hE : expOf m s = (0, false) := by unfold expOf; rw [hR]; rfl
    rw [hE]
    clear hR hE h hB BX hn1 hn2 hn3
    go_enter Try.func7, Try.ntmps7
    go_wp2_with fail
    refine (unhide CR).mono ?_
    rintro e u ⟨rfl, b1⟩
    have B1 := hide (unhide HS u b1).2
    clear b1 CR
    go_wp2_with fail
    go_loopw [7] (fun x wr => x = .int .i64 0 ∧ Hid (wr = u)) (fun _ _ => 0)
    case atStart => exact ⟨rfl, hide rfl⟩
    case round =>
      obtain ⟨rfl, HW⟩ := hrel
      obtain rfl := unhide HW
      go_wp2_with fail
      go_ret2
      exact ⟨rfl, by first | exact unhide B1 | (rw [← hg]; exact unhide B1)⟩
  | true =>
    rw [hR] at CR
    have hE : expOf m s = findX m.xs s := by unfold expOf; rw [hR]; rfl
    rw [hE]
    obtain ⟨F, hF⟩ : ∃ F, findX m.xs s = F := ⟨_, rfl⟩
    rw [hF]
    have HF := hide hF
    clear hR hE h hB BX hn1 hn2 hn3 hF
    go_enter Try.func7, Try.ntmps7
    go_wp2_with fail
    refine (unhide CR).mono ?_
    rintro e u ⟨rfl, b1⟩
    have B1 := hide b1
    clear b1 CR m0 m1 m2
    obtain ⟨m0, m1, m2⟩ := row_cell3 (unhide HS u (unhide B1)).1.box
    go_wp2_with fail
    go_loopw [7] (fun x wr => ∃ (i : Nat), x = .int .i64 (i : Int) ∧ Hid (i ≤ n3) ∧ Hid (Below w1.heap.size w1 wr) ∧ Hid (findX (m.xs.drop i) s = F)) (fun x _ => n3 - (intOf x).toNat)
    case atStart => exact ⟨0, rfl, hide (by omega), B1, hide (by rw [List.drop_zero]; exact unhide HF)⟩
    case round =>
      clear m0 m1 m2 B1
      obtain ⟨i, rfl, HI, HB, HX⟩ := hrel
      obtain ⟨m0, m1, m2⟩ := row_cell3 (unhide HS wr (unhide HB)).1.box
      by_cases hlt : i < n3
      · have j1 : (i : Int) < (n3 : Int) := by omega
        have j2 : decide (i < n3) = true := decide_eq_true hlt
        have HI1 : Hid (i + 1 ≤ n3) := hide (by omega)
        obtain ⟨⟨t, f⟩, hv⟩ : ∃ v, m.xs[i]? = some v := ⟨_, List.getElem?_eq_getElem (by have := unhide HN; omega)⟩
        obtain ⟨a, rfl, _, ht, k0, k1⟩ := (unhide HS wr (unhide HB)).1.mod.exp i t f hv
        cases hc : (t.toList == s.toList) with
        | true =>
          have HY : Hid (F = (f, true)) := hide (by rw [← unhide HX]; exact findX_yes _ _ _ _ _ hv hc)
          clear hv
          go_wp2_with fail
          go_ret2
          exact ⟨by rw [unhide HY]; rfl, by first | exact (unhide HS _ (unhide HB)).2 | (rw [← hg]; exact (unhide HS _ (unhide HB)).2)⟩
        | false =>
          have HY : Hid (findX (m.xs.drop (i + 1)) s = F) := hide (by rw [← findX_no _ _ _ _ _ hv hc]; exact unhide HX)
          clear hv
          go_wp2_with fail
          go_roundw
          case rel => exact ⟨i + 1, by go_num, HI1, HB, HY⟩
          case measure => have := unhide HI1; simp [intOf]; omega
      · have j1 : ¬ (i : Int) < (n3 : Int) := by omega
        have j2 : decide (i < n3) = false := decide_eq_false hlt
        have HY : Hid (F = (0, false)) := hide (by rw [← unhide HX, List.drop_of_length_le (by have := unhide HN; omega)]; rfl)
        go_wp2_with fail
        go_ret2
        exact ⟨by rw [unhide HY]; rfl, by first | exact (unhide HS _ (unhide HB)).2 | (rw [← hg]; exact (unhide HS _ (unhide HB)).2)⟩
end Go.Proofs.Ytpdfggjhedgdlaa
