/-
  The walk of the document's IsName (layer 9); no conditions.
  A module in its box; small facts for the document's own walks; no conditions.
  The walk of the document's within (layer 9): may a module's parts be, each alone? no conditions but the form's own reach.
-/
import Derived.Test.YtcknoeepdjhnoaaGreatDoorH19
import Derived.Test.YtcknoeepdjhnoaaGreatDoorH30
import Derived.Test.YtcknoeepdjhnoaaGreatDoorH16
import Derived.BigQuiet
import Derived.Deep.QuietTactic
set_option linter.unusedVariables false
set_option linter.unusedSimpArgs false
namespace Go.Proofs.YtcknoeepdjhnoaaGreatDoor
open Go.RowKit

theorem refLetter_any (c : Int) (w : World) :
    Calls Tryz.prog 96 #[.int .u8 c] w fun e w' => e = .returned (.bool (letC c)) ∧ w' = w := by
  rcases let_cases c with ⟨hR, h1, h2, h3⟩ | ⟨hR, h1, h2, h3⟩ | ⟨hR, h1, h2, h3, h4⟩ | ⟨hR, h1, h2, h3, h4⟩ | ⟨hR, h1, h2⟩ | ⟨hR, h1, h2, h3, h4, h5⟩
  all_goals
    rw [hR]
    clear hR
    go_enter Tryz.func96, Tryz.ntmps96
    go_wp2_with fail
    go_ret
    exact ⟨rfl, rfl⟩

theorem digD (c : Int) : digC c = decide (48 ≤ c ∧ c ≤ 57) := by
  rw [Bool.eq_iff_iff]
  simp [digC]

theorem size_zeroM {s : ByteArray} (h : s.size = 0) : (s.toList == []) = true := by
  have : s.toList.length = 0 := by rw [ByteArray.toList_eq]; simpa using h
  rw [List.eq_nil_of_length_eq_zero this]
  rfl

theorem size_someM {s : ByteArray} (h : s.size ≠ 0) : (s.toList == []) = false := by
  have : s.toList.length ≠ 0 := by rw [ByteArray.toList_eq]; simpa using h
  cases hs : s.toList with
  | nil => rw [hs] at this; simp at this
  | cons a r => rfl

set_option maxRecDepth 100000 in
set_option maxHeartbeats 1000000 in
theorem refName_any (s : ByteArray) (w : World) (hs : s.size ≤ 140737488351232) :
    Calls Tryz.prog 71 #[.string s] w fun e w' => e = .returned (.bool (nameB s)) ∧ w' = w := by
  by_cases h0 : s.size = 0
  · have hN : nameB s = false := by unfold nameB; rw [h0]; rfl
    have i1 := size_zeroM h0
    rw [hN]
    clear hN
    go_enter Tryz.func71, Tryz.ntmps71
    go_wp2_with fail
    go_ret
    exact ⟨rfl, rfl⟩
  have i1 := size_someM h0
  by_cases h20 : 20 < s.size
  · have hN : nameB s = false := by unfold nameB; rw [decide_eq_false (show ¬ s.size ≤ 20 by omega)]; simp
    have i3 : (20 : Int) < (s.size : Int) := by omega
    rw [hN]
    clear hN
    go_enter Tryz.func71, Tryz.ntmps71
    go_wp2_with fail
    go_ret
    exact ⟨rfl, rfl⟩
  have i3 : ¬ (20 : Int) < (s.size : Int) := by omega
  have hp : 0 < s.size := by omega
  obtain ⟨N, hN⟩ : ∃ N, nameB s = N := ⟨_, rfl⟩
  have HN := hide hN
  rw [hN]
  clear hN
  go_enter Tryz.func71, Tryz.ntmps71
  go_wp2_with fail
  go_loop [3] (fun x => ∃ i : Nat, i ≤ s.size ∧ x = .int .i64 (i : Int) ∧ Hid (∀ j, j < i → nameC (chr s j) = true ∧ (j = 0 → digC (chr s j) = false))) (fun x => s.size - (intOf x).toNat)
  case atStart => exact ⟨0, by omega, rfl, hide (fun j h => by omega)⟩
  case round =>
    obtain ⟨i, hi, rfl, HJ⟩ := hrel
    by_cases hlt : i < s.size
    · have j1 : (i : Int) < (s.size : Int) := by omega
      have CL := hide (refLetter_any ((s[i]'hlt).toNat : Int) w)
      have HC := hide (chr_at s i hlt)
      cases hL : letC ((s[i]'hlt).toNat : Int) with
      | true =>
        rw [hL] at CL
        have HO : Hid (nameC (chr s i) = true ∧ (i = 0 → digC (chr s i) = false)) := hide (by
          rw [unhide HC]
          refine ⟨by unfold nameC; rw [hL]; rfl, fun _ => ?_⟩
          rw [letD] at hL
          rw [digD]
          simp only [decide_eq_true_eq, decide_eq_false_iff_not] at hL ⊢
          omega)
        clear hL
        go_wp2_with fail
        refine (unhide CL).mono ?_
        rintro e u2 ⟨rfl, rfl⟩
        go_wp2_with fail
        go_round
        case rel => exact ⟨i + 1, by omega, by go_num, hide (fun j hj => by
          rcases Nat.lt_or_ge j i with h | h
          · exact unhide HJ j h
          · have e : j = i := by omega
            rw [e]; exact unhide HO)⟩
        case measure => simp [intOf]; omega
      | false =>
        rw [hL] at CL
        by_cases hi0 : i = 0
        · subst hi0
          have HO : Hid (nameB s = false) := hide (by
            cases hd : digC (chr s 0) with
            | true => unfold nameB; rw [hd]; simp
            | false => exact name_no 0 hlt (by unfold nameC; rw [hd, unhide HC, hL]; rfl))
          clear hL
          go_wp2_with fail
          refine (unhide CL).mono ?_
          rintro e u2 ⟨rfl, rfl⟩
          go_wp2_with fail
          go_ret
          exact ⟨by rw [← unhide HN, unhide HO]; rfl, rfl⟩
        · have k0 : ((i : Int) == 0) = false := beq_eq_false_iff_ne.2 (by omega)
          by_cases hg1 : ((s[i]'hlt).toNat : Int) < 48
          · have HO : Hid (nameB s = false) := hide (name_no i hlt (by unfold nameC; rw [unhide HC, hL, digD, decide_eq_false (by omega)]; rfl))
            clear hL
            go_wp2_with fail
            refine (unhide CL).mono ?_
            rintro e u2 ⟨rfl, rfl⟩
            go_wp2_with fail
            go_ret
            exact ⟨by rw [← unhide HN, unhide HO]; rfl, rfl⟩
          · by_cases hg2 : 57 < ((s[i]'hlt).toNat : Int)
            · have HO : Hid (nameB s = false) := hide (name_no i hlt (by unfold nameC; rw [unhide HC, hL, digD, decide_eq_false (by omega)]; rfl))
              clear hL
              go_wp2_with fail
              refine (unhide CL).mono ?_
              rintro e u2 ⟨rfl, rfl⟩
              go_wp2_with fail
              go_ret
              exact ⟨by rw [← unhide HN, unhide HO]; rfl, rfl⟩
            · have HO : Hid (nameC (chr s i) = true ∧ (i = 0 → digC (chr s i) = false)) := hide (by
                rw [unhide HC]
                exact ⟨by unfold nameC; rw [hL, digD, decide_eq_true (by omega)]; rfl, fun h => absurd h hi0⟩)
              clear hL
              go_wp2_with fail
              refine (unhide CL).mono ?_
              rintro e u2 ⟨rfl, rfl⟩
              go_wp2_with fail
              go_round
              case rel => exact ⟨i + 1, by omega, by go_num, hide (fun j hj => by
                rcases Nat.lt_or_ge j i with h | h
                · exact unhide HJ j h
                · have e : j = i := by omega
                  rw [e]; exact unhide HO)⟩
              case measure => simp [intOf]; omega
    · have j1 : ¬ (i : Int) < (s.size : Int) := by omega
      have HO : Hid (nameB s = true) := hide (name_yes (by omega) (by omega) ((unhide HJ 0 (by omega)).2 rfl) (fun j hj => (unhide HJ j (by omega)).1))
      go_wp2_with fail
      go_ret
      exact ⟨by rw [← unhide HN, unhide HO]; rfl, rfl⟩
end Go.Proofs.YtcknoeepdjhnoaaGreatDoor

namespace Go.Proofs.YtcknoeepdjhnoaaGreatDoor
open Go.RowKit
set_option linter.unusedVariables false
set_option linter.unusedSimpArgs false

theorem below_drewM {B : Nat} {w w' : World} (h : Below B w w') (q : Nat) : Below B w (w'.drewN q) := ⟨h.os, h.tape, h.output, h.size, h.block⟩

/-- a module in its box -/
structure SeeM (w : World) (B g : Nat) (m : Md) (s1 s2 s3 : Value) (a1 : Option Addr) (c1 : Nat) (a2 : Option Addr) (c2 : Nat) (a3 : Option Addr) (c3 : Nat) : Prop where
  box : w.heap[g]? = some (.cells #[s1, s2, s3] 27 (0, 0))
  mod : IsM w (fun b => b < B) m a1 c1 a2 c2 a3 c3
  low : B ≤ w.heap.size

theorem SeeM.later {w w' : World} {B g : Nat} {m : Md} {s1 s2 s3 : Value} {a1 a2 a3 : Option Addr} {c1 c2 c3 : Nat} (h : SeeM w B g m s1 s2 s3 a1 c1 a2 c2 a3 c3) (hb : Below w.heap.size w w') : SeeM w' B g m s1 s2 s3 a1 c1 a2 c2 a3 c3 :=
  ⟨(hb.block g (lt_of_row h.box)).trans h.box, h.mod.later (hb.mono h.low), Nat.le_trans h.low hb.size⟩

theorem SeeM.drewN {w : World} {B g : Nat} {m : Md} {s1 s2 s3 : Value} {a1 a2 a3 : Option Addr} {c1 c2 c3 : Nat} (h : SeeM w B g m s1 s2 s3 a1 c1 a2 c2 a3 c3) (q : Nat) : SeeM (w.drewN q) B g m s1 s2 s3 a1 c1 a2 c2 a3 c3 := h.later (below_drewM (Below.refl _ _) q)

theorem name_less {s : ByteArray} (h : nameB s = true) : Op.bytesLess ((⟨#[]⟩ : ByteArray).toList) s.toList = true := by
  have hs : s.size ≠ 0 := by
    intro e
    unfold nameB at h
    rw [e] at h
    simp at h
  have h1 := size_someM hs
  have h0 : (⟨#[]⟩ : ByteArray).toList = [] := eq_of_beq (size_zeroM (s := ⟨#[]⟩) rfl)
  rw [h0]
  cases hl : s.toList with
  | nil => rw [hl] at h1; simp at h1
  | cons a r => simp [Op.bytesLess]

end Go.Proofs.YtcknoeepdjhnoaaGreatDoor

namespace Go.Proofs.YtcknoeepdjhnoaaGreatDoor
open Go.RowKit
set_option linter.unusedVariables false
set_option linter.unusedSimpArgs false

set_option maxRecDepth 100000 in
set_option maxHeartbeats 40000000 in
theorem within_any (m : Md) (a1 a2 a3 : Option Addr) (n1 c1 n2 c2 n3 c3 B : Nat) (w : World) (hn1 : m.cs.length = n1) (hn2 : m.fs.length = n2) (hn3 : m.xs.length = n3) (h : IsM w (fun b => b < B) m a1 c1 a2 c2 a3 c3) (hB : B ≤ w.heap.size) :
    Calls Tryz.prog 42 #[.agg #[.slice a1 n1 c1, .slice a2 n2 c2, .slice a3 n3 c3]] w fun e w' => e = .returned (.bool (formedB m)) ∧ Below w.heap.size w w' := by
  have HL := h.len
  rw [hn1, hn2, hn3] at HL
  obtain ⟨l1, l2, l3⟩ := HL
  obtain ⟨g, hg⟩ : ∃ g, w.heap.size = g := ⟨_, rfl⟩
  have BX := BoxN.mk' w #[.slice a1 n1 c1, .slice a2 n2 c2, .slice a3 n3 c3] 27
  obtain ⟨w1, hw1⟩ : ∃ w1, w.alloc (.cells #[.slice a1 n1 c1, .slice a2 n2 c2, .slice a3 n3 c3] 27) = w1 := ⟨_, rfl⟩
  rw [hw1] at BX
  have HS : Hid (SeeM w1 B g m (.slice a1 n1 c1) (.slice a2 n2 c2) (.slice a3 n3 c3) a1 c1 a2 c2 a3 c3 ∧ Below w.heap.size w w1) := hide ⟨⟨by rw [← hg]; exact BX.row, h.later (BX.below.mono hB), by have := BX.size; omega⟩, BX.below⟩
  have HN := hide (And.intro hn1 (And.intro hn2 hn3))
  obtain ⟨R, hR⟩ : ∃ R, formedB m = R := ⟨_, rfl⟩
  have HR := hide hR
  rw [hR]
  obtain ⟨m0, m1, m2⟩ := row_cell3 (unhide HS).1.box
  clear h hB BX hn1 hn2 hn3 hR
  by_cases t1 : 100 < n1
  · have j1 : (100 : Int) < (n1 : Int) := by omega
    have HF : Hid (formedB m = false) := hide (form_n (by have := unhide HN; omega))
    go_enter Tryz.func42, Tryz.ntmps42
    go_wp2_with fail
    go_ret
    exact ⟨by rw [← unhide HR, unhide HF]; rfl, by first | exact (unhide HS).2 | (rw [← hg]; exact (unhide HS).2)⟩
  have j1 : ¬ (100 : Int) < (n1 : Int) := by omega
  by_cases t2 : 24 < n2
  · have j2 : (24 : Int) < (n2 : Int) := by omega
    have HF : Hid (formedB m = false) := hide (form_n (by have := unhide HN; omega))
    go_enter Tryz.func42, Tryz.ntmps42
    go_wp2_with fail
    go_ret
    exact ⟨by rw [← unhide HR, unhide HF]; rfl, by first | exact (unhide HS).2 | (rw [← hg]; exact (unhide HS).2)⟩
  have j2 : ¬ (24 : Int) < (n2 : Int) := by omega
  by_cases t3 : 24 < n3
  · have j3 : (24 : Int) < (n3 : Int) := by omega
    have HF : Hid (formedB m = false) := hide (form_n (by have := unhide HN; omega))
    go_enter Tryz.func42, Tryz.ntmps42
    go_wp2_with fail
    go_ret
    exact ⟨by rw [← unhide HR, unhide HF]; rfl, by first | exact (unhide HS).2 | (rw [← hg]; exact (unhide HS).2)⟩
  have j3 : ¬ (24 : Int) < (n3 : Int) := by omega
  have HC3 : Hid (n1 ≤ 100 ∧ n2 ≤ 24 ∧ n3 ≤ 24) := hide (by omega)
  go_enter Tryz.func42, Tryz.ntmps42
  go_wp2_with fail
  go_loopw [3] (fun x wr => ∃ (i : Nat), x = .int .i64 (i : Int) ∧ Hid (i ≤ n1) ∧ Hid (SeeM wr B g m (.slice a1 n1 c1) (.slice a2 n2 c2) (.slice a3 n3 c3) a1 c1 a2 c2 a3 c3 ∧ Below w.heap.size w wr) ∧ Hid ((m.cs.take i).all rightB = true)) (fun x _ => n1 - (intOf x).toNat)
  case atStart => exact ⟨0, rfl, hide (by omega), HS, hide (by simp)⟩
  case round =>
    clear HS m0 m1 m2
    obtain ⟨i, rfl, HI, HS, HA⟩ := hrel
    obtain ⟨m0, m1, m2⟩ := row_cell3 (unhide HS).1.box
    by_cases hlt : i < n1
    · have j1 : (i : Int) < (n1 : Int) := by omega
      have HI1 : Hid (i + 1 ≤ n1) := hide (by omega)
      obtain ⟨v, hv⟩ : ∃ v, m.cs[i]? = some v := ⟨_, List.getElem?_eq_getElem (by have := unhide HN; omega)⟩
      obtain ⟨a, x0, x1, x2, al', ak', ll', m', cl', ck', rfl, _, hc, hp⟩ := (unhide HS).1.mod.const i v hv
      have k0 : wr.cell? (a.add (i * 5)) = some (.int .i64 x0) := hc 0 _ rfl
      have k1 : wr.cell? ⟨(a.add (i * 5)).block, (a.add (i * 5)).off + 1, none⟩ = some (.int .i64 x1) := hc 1 _ rfl
      have k2 : wr.cell? ⟨(a.add (i * 5)).block, (a.add (i * 5)).off + 2, none⟩ = some (.string x2) := hc 2 _ rfl
      have k3 : wr.cell? ⟨(a.add (i * 5)).block, (a.add (i * 5)).off + 3, none⟩ = some (.slice al' ll' cl') := hc 3 _ rfl
      have k4 : wr.cell? ⟨(a.add (i * 5)).block, (a.add (i * 5)).off + 4, none⟩ = some (.slice ak' m' ck') := hc 4 _ rfl
      have CR := hide (right_ref v _ B wr hp (unhide HS).1.low)
      have HV := hide hv
      clear hc hp hv
      cases hb : rightB v with
      | true =>
        rw [hb] at CR
        have HA1 : Hid ((m.cs.take (i + 1)).all rightB = true) := hide (all_take _ _ _ _ (unhide HV) (unhide HA) hb)
        clear hb
        go_wp2_with fail
        refine (unhide CR).mono ?_
        rintro e u ⟨rfl, b1⟩
        have HS5 : Hid (SeeM u B g m (.slice (some a) n1 c1) (.slice a2 n2 c2) (.slice a3 n3 c3) (some a) c1 a2 c2 a3 c3 ∧ Below w.heap.size w u) := hide ⟨(unhide HS).1.later b1, (unhide HS).2.trans (b1.mono (unhide HS).2.size)⟩
        clear b1 CR
        go_wp2_with fail
        go_roundw
        case rel => exact ⟨i + 1, by go_num, HI1, HS5, HA1⟩
        case measure => have := unhide HI1; simp [intOf]; omega
      | false =>
        rw [hb] at CR
        have HF : Hid (formedB m = false) := hide (form_c (all_bad _ _ _ _ (unhide HV) hb))
        clear hb
        go_wp2_with fail
        refine (unhide CR).mono ?_
        rintro e u ⟨rfl, b1⟩
        have B5 : Hid (Below w.heap.size w u) := hide ((unhide HS).2.trans (b1.mono (unhide HS).2.size))
        clear b1 CR
        go_wp2_with fail
        go_ret
        exact ⟨by rw [← unhide HR, unhide HF]; rfl, by first | exact unhide B5 | (rw [← hg]; exact unhide B5)⟩
    · have j1 : ¬ (i : Int) < (n1 : Int) := by omega
      have HA1 : Hid (m.cs.all rightB = true) := hide (by have := unhide HA; rw [List.take_of_length_le (by have := unhide HN; omega)] at this; exact this)
      clear HA HI
      go_wp2_with fail
      go_loopw [5] (fun x wr => ∃ (i : Nat), x = .int .i64 (i : Int) ∧ Hid (i ≤ n2) ∧ Hid (SeeM wr B g m (.slice a1 n1 c1) (.slice a2 n2 c2) (.slice a3 n3 c3) a1 c1 a2 c2 a3 c3 ∧ Below w.heap.size w wr) ∧ Hid ((m.fs.take i).all fnB = true)) (fun x _ => n2 - (intOf x).toNat)
      case atStart => exact ⟨0, rfl, hide (by omega), HS, hide (by simp)⟩
      case round =>
        clear HS m0 m1 m2
        obtain ⟨i, rfl, HI, HS, HA⟩ := hrel
        obtain ⟨m0, m1, m2⟩ := row_cell3 (unhide HS).1.box
        by_cases hlt : i < n2
        · have j1 : (i : Int) < (n2 : Int) := by omega
          have HI1 : Hid (i + 1 ≤ n2) := hide (by omega)
          obtain ⟨f, hv⟩ : ∃ v, m.fs[i]? = some v := ⟨_, List.getElem?_eq_getElem (by have := unhide HN; omega)⟩
          obtain ⟨fp, fl, fk, ft⟩ := f
          obtain ⟨a, rfl, _, ht, k0, k1, k2, k3⟩ := (unhide HS).1.mod.func i fp fl fk ft hv
          have BQ := BoxN.mk' wr #[.int .i64 fp, .int .i64 fl, .int .i64 fk, .string ft] 50
          obtain ⟨w3, hw3⟩ : ∃ w3, wr.alloc (.cells #[.int .i64 fp, .int .i64 fl, .int .i64 fk, .string ft] 50) = w3 := ⟨_, rfl⟩
          rw [hw3] at BQ
          obtain ⟨q, hq⟩ : ∃ q, wr.heap.size = q := ⟨_, rfl⟩
          obtain ⟨d0, d1, d2, d3⟩ := row_cell4 (by have := BQ.row; rw [hq] at this; exact this)
          have HS3 : Hid (SeeM w3 B g m (.slice a1 n1 c1) (.slice (some a) n2 c2) (.slice a3 n3 c3) a1 c1 (some a) c2 a3 c3 ∧ Below w.heap.size w w3) := hide ⟨(unhide HS).1.later BQ.below, (unhide HS).2.trans (BQ.below.mono (unhide HS).2.size)⟩
          have hR7 : fnB (fp, fl, fk, ft) = (decide (0 ≤ fp) && decide (fp ≤ 8) && decide (fp ≤ fl) && decide (fl ≤ 32) && decide (0 ≤ fk) && decide (fk ≤ 40) && decide ((ft.size : Int) ≤ 4000)) := by unfold fnB; dsimp only; congr 1; exact decide_eq_decide.2 (by omega)
          have HBAD : Hid (fnB (fp, fl, fk, ft) = false → formedB m = false) := hide (fun hb => form_f (all_bad _ _ _ _ hv hb))
          have HGOOD : Hid (fnB (fp, fl, fk, ft) = true → (m.fs.take (i + 1)).all fnB = true) := hide (fun hb => all_take _ _ _ _ hv (unhide HA) hb)
          have HR7 := hide hR7
          clear hv BQ hR7
          by_cases h1 : 0 ≤ fp
          by_cases h2 : fp ≤ 8
          by_cases h3 : fp ≤ fl
          by_cases h4 : fl ≤ 32
          by_cases h5 : 0 ≤ fk
          by_cases h6 : fk ≤ 40
          by_cases h7 : (ft.size : Int) ≤ 4000
          · have HA2 : Hid ((m.fs.take (i + 1)).all fnB = true) := hide (unhide HGOOD (by rw [unhide HR7]; simp only [*, decide_true, Bool.and_true]))
            go_wp2_with fail
            go_roundw
            case rel => exact ⟨i + 1, by go_num, HI1, HS3, HA2⟩
            case measure => have := unhide HI1; simp [intOf]; omega
          all_goals
            have HF : Hid (formedB m = false) := hide (unhide HBAD (by rw [unhide HR7]; simp only [*, decide_true, decide_false, Bool.and_true, Bool.and_false, Bool.false_and]))
            go_wp2_with fail
            go_ret
            exact ⟨by rw [← unhide HR, unhide HF]; rfl, by first | exact (unhide HS3).2 | (rw [← hg]; exact (unhide HS3).2)⟩
        · have j1 : ¬ (i : Int) < (n2 : Int) := by omega
          have HA2 : Hid (m.fs.all fnB = true) := hide (by have := unhide HA; rw [List.take_of_length_le (by have := unhide HN; omega)] at this; exact this)
          clear HA HI
          go_wp2_with fail
          go_loopw [7] (fun x wr => ∃ (i : Nat) (p : ByteArray), x = .int .i64 (i : Int) ∧ Hid (i ≤ n3) ∧ Hid (SeeM wr B g m (.slice a1 n1 c1) (.slice a2 n2 c2) (.slice a3 n3 c3) a1 c1 a2 c2 a3 c3 ∧ Below w.heap.size w wr) ∧ Hid (exsB n2 ⟨#[]⟩ m.xs = exsB n2 p (m.xs.drop i)) ∧ Hid (i = 0 → p = ⟨#[]⟩) ∧ Hid (∀ j, i = j + 1 → ∃ f, m.xs[j]? = some (p, f))) (fun x _ => n3 - (intOf x).toNat)
          case atStart => exact ⟨0, ⟨#[]⟩, rfl, hide (by omega), HS, hide rfl, hide (fun _ => rfl), hide (fun j h => by omega)⟩
          case round =>
            clear HS m0 m1 m2
            obtain ⟨i, p, rfl, HI, HS, HA, HP0, HPJ⟩ := hrel
            obtain ⟨m0, m1, m2⟩ := row_cell3 (unhide HS).1.box
            by_cases hlt : i < n3
            · have j1 : (i : Int) < (n3 : Int) := by omega
              have HI1 : Hid (i + 1 ≤ n3) := hide (by omega)
              obtain ⟨x, hv⟩ : ∃ v, m.xs[i]? = some v := ⟨_, List.getElem?_eq_getElem (by have := unhide HN; omega)⟩
              obtain ⟨s, f⟩ := x
              obtain ⟨a, rfl, _, ht, k0, k1⟩ := (unhide HS).1.mod.exp i s f hv
              have hE := exs_at n2 m.xs i p (s, f) hv
              rw [← unhide HA] at hE
              have BQ := BoxN.mk' wr #[.string s, .int .i64 f] 52
              obtain ⟨w3, hw3⟩ : ∃ w3, wr.alloc (.cells #[.string s, .int .i64 f] 52) = w3 := ⟨_, rfl⟩
              rw [hw3] at BQ
              obtain ⟨q, hq⟩ : ∃ q, wr.heap.size = q := ⟨_, rfl⟩
              obtain ⟨d0, d1⟩ := row_cell2 (by have := BQ.row; rw [hq] at this; exact this)
              have HS3 : Hid (SeeM w3 B g m (.slice a1 n1 c1) (.slice a2 n2 c2) (.slice (some a) n3 c3) a1 c1 a2 c2 (some a) c3 ∧ Below w.heap.size w w3) := hide ⟨(unhide HS).1.later BQ.below, (unhide HS).2.trans (BQ.below.mono (unhide HS).2.size)⟩
              obtain ⟨e0, e1, e2⟩ := row_cell3 (unhide HS3).1.box
              have CR := hide (refName_any s w3 ht)
              unfold exB at hE
              dsimp only at hE
              have HV := hide hv
              clear hv BQ
              have HB5 : Hid (Below w.heap.size w w3) := hide (unhide HS3).2
              cases hN : nameB s with
              | false =>
                rw [hN] at CR hE
                have HF : Hid (formedB m = false) := hide (form_x (by rw [(unhide HN).2.1, hE]; rfl))
                clear hN hE
                go_wp2_with fail
                refine (unhide CR).mono ?_
                rintro e u ⟨rfl, rfl⟩
                go_upto_region 20 with fail
                go_quiet (fail)
                go_wp2_with fail
                go_ret
                exact ⟨by rw [← unhide HR, unhide HF]; rfl, by first | exact below_drewM (unhide HB5) _ | (rw [← hg]; exact below_drewM (unhide HB5) _)⟩
              | true =>
                rw [hN] at CR hE
                have HNM := hide hN
                clear hN
                by_cases hf0 : f < 0
                · have kf0 : decide (f < 0) = true := decide_eq_true hf0
                  have HF : Hid (formedB m = false) := hide (form_x (by rw [(unhide HN).2.1, hE, decide_eq_false (show ¬ 0 ≤ f by omega)]; simp))
                  clear hE
                  go_wp2_with fail
                  refine (unhide CR).mono ?_
                  rintro e u ⟨rfl, rfl⟩
                  go_upto_region 20 with fail
                  go_quiet (fail)
                  go_wp2_with fail
                  go_ret
                  exact ⟨by rw [← unhide HR, unhide HF]; rfl, by first | exact below_drewM (unhide HB5) _ | (rw [← hg]; exact below_drewM (unhide HB5) _)⟩
                have kf0 : decide (f < 0) = false := decide_eq_false hf0
                by_cases hf1 : (n2 : Int) ≤ f
                · have kf1 : decide ((n2 : Int) ≤ f) = true := decide_eq_true hf1
                  have HF : Hid (formedB m = false) := hide (form_x (by rw [(unhide HN).2.1, hE, decide_eq_false (show ¬ f < (n2 : Int) by omega)]; simp))
                  clear hE
                  go_wp2_with fail
                  refine (unhide CR).mono ?_
                  rintro e u ⟨rfl, rfl⟩
                  go_upto_region 20 with fail
                  go_quiet (fail)
                  go_wp2_with fail
                  go_ret
                  exact ⟨by rw [← unhide HR, unhide HF]; rfl, by first | exact below_drewM (unhide HB5) _ | (rw [← hg]; exact below_drewM (unhide HB5) _)⟩
                have kf1 : decide ((n2 : Int) ≤ f) = false := decide_eq_false hf1
                rw [decide_eq_true (show 0 ≤ f by omega), decide_eq_true (show f < (n2 : Int) by omega), Bool.true_and, Bool.and_true, Bool.and_true] at hE
                by_cases hi0 : i = 0
                · have hP := unhide HP0 hi0
                  rw [hP, name_less (unhide HNM), Bool.true_and] at hE
                  have HA3 : Hid (exsB n2 ⟨#[]⟩ m.xs = exsB n2 s (m.xs.drop (i + 1))) := hide hE
                  have i4 : ¬ (0 : Int) < (i : Int) := by omega
                  have i5 : decide (0 < i) = false := decide_eq_false (by omega)
                  have i6 : decide ((0 : Int) < (i : Int)) = false := decide_eq_false i4
                  have HI0 := hide hi0
                  clear hE hP hi0
                  go_wp2_with fail
                  refine (unhide CR).mono ?_
                  rintro e u ⟨rfl, rfl⟩
                  go_upto_region 20 with fail
                  go_quiet (fail)
                  go_wp2_with fail
                  go_roundw
                  case rel => exact ⟨i + 1, s, by go_num, HI1, hide ⟨(unhide HS3).1.drewN _, below_drewM (unhide HS3).2 _⟩, HA3, hide (fun h => by omega), hide (fun j hj => ⟨f, (show j = i by omega) ▸ unhide HV⟩)⟩
                  case measure => have := unhide HI1; simp [intOf]; omega
                · obtain ⟨j, hii⟩ : ∃ j, j + 1 = i := ⟨i - 1, by omega⟩
                  obtain ⟨f', hf'⟩ := unhide HPJ j hii.symm
                  obtain ⟨a', ha', _, ht', y0, y1⟩ := (unhide HS3).1.mod.exp j p f' hf'
                  cases ha'
                  have i2 : IntKind.i64.wrap ((i : Int) - 1) = (j : Int) := by rw [IntKind.wrap_i64]; omega
                  have i3 : (j : Int) < (n3 : Int) := by omega
                  have i4 : (0 : Int) < (i : Int) := by omega
                  have i5 : decide (0 < i) = true := decide_eq_true (by omega)
                  have i6 : decide ((0 : Int) < (i : Int)) = true := decide_eq_true i4
                  have b2 := bl_not p.toList s.toList
                  have HII := hide hii
                  cases hL : Op.bytesLess p.toList s.toList with
                  | false =>
                    rw [hL] at hE b2
                    have b3 : (Op.bytesLess s.toList p.toList || s.toList == p.toList) = true := by cases h : (Op.bytesLess s.toList p.toList || s.toList == p.toList) with | true => rfl | false => rw [h] at b2; cases b2
                    have HF : Hid (formedB m = false) := hide (form_x (by rw [(unhide HN).2.1, hE]; simp))
                    clear hE b2 hL hf' hii hi0
                    go_wp2_with fail
                    refine (unhide CR).mono ?_
                    rintro e u ⟨rfl, rfl⟩
                    go_upto_region 20 with fail
                    go_quiet (fail)
                    go_wp2_with fail
                    go_ret
                    exact ⟨by rw [← unhide HR, unhide HF]; rfl, by first | exact below_drewM (unhide HB5) _ | (rw [← hg]; exact below_drewM (unhide HB5) _)⟩
                  | true =>
                    rw [hL] at hE b2
                    have b3 : (Op.bytesLess s.toList p.toList || s.toList == p.toList) = false := by cases h : (Op.bytesLess s.toList p.toList || s.toList == p.toList) with | false => rfl | true => rw [h] at b2; cases b2
                    have HA3 : Hid (exsB n2 ⟨#[]⟩ m.xs = exsB n2 s (m.xs.drop (i + 1))) := hide (by rw [hE]; rfl)
                    clear hE b2 hL hf' hii HII hi0
                    go_wp2_with fail
                    refine (unhide CR).mono ?_
                    rintro e u ⟨rfl, rfl⟩
                    go_upto_region 20 with fail
                    go_quiet (fail)
                    go_wp2_with fail
                    go_roundw
                    case rel => exact ⟨i + 1, s, by go_num, HI1, hide ⟨(unhide HS3).1.drewN _, below_drewM (unhide HS3).2 _⟩, HA3, hide (fun h => by omega), hide (fun j hj => ⟨f, (show j = i by omega) ▸ unhide HV⟩)⟩
                    case measure => have := unhide HI1; simp [intOf]; omega
            · have j1 : ¬ (i : Int) < (n3 : Int) := by omega
              have HF : Hid (formedB m = true) := hide (form_all (by have := unhide HN; have := unhide HC3; omega) (unhide HA1) (unhide HA2) (by
                have := unhide HA
                rw [List.drop_of_length_le (by have := unhide HN; omega)] at this
                rw [(unhide HN).2.1, this]
                rfl))
              go_wp2_with fail
              go_ret
              exact ⟨by rw [← unhide HR, unhide HF]; rfl, by first | exact (unhide HS).2 | (rw [← hg]; exact (unhide HS).2)⟩
end Go.Proofs.YtcknoeepdjhnoaaGreatDoor
