/-
  The walk of the document's Right over entries; no conditions but the form's own reach.
  What the document calls no value is what the code calls blank; no conditions.
-/
import Derived.Test.YtlmgiimgmjbkeaaA29
import Derived.Test.YtlmgiimgmjbkeaaA21
import Derived.Test.YtlmgiimgmjbkeaaA34
import Derived.Test.YtlmgiimgmjbkeaaA35
set_option linter.unusedVariables false
set_option linter.unusedSimpArgs false
namespace Go.Proofs.Ytlmgiimgmjbkeaa
open Go.RowKit
set_option linter.unusedVariables false
set_option linter.unusedSimpArgs false

theorem below_drewS1 {B : Nat} {w w' : World} (h : Below B w w') (q : Nat) : Below B w (w'.drewN q) := ⟨h.os, h.tape, h.output, h.size, h.block⟩

theorem size0S {s : ByteArray} (h : s.size = 0) : (s.toList == []) = true := by
  have : s.toList.length = 0 := by rw [ByteArray.toList_eq]; simpa using h
  rw [List.eq_nil_of_length_eq_zero this]
  rfl

theorem size1S {s : ByteArray} (h : s.size ≠ 0) : (s.toList == []) = false := by
  have : s.toList.length ≠ 0 := by rw [ByteArray.toList_eq]; simpa using h
  cases hs : s.toList with
  | nil => rw [hs] at this; simp at this
  | cons a r => rfl

theorem wt0_zero (v : Vl) : (wt0 v = 0 → rightB v = false) ∧ (wt0 v ≠ 0 → rightB v = true) := by
  have := wt_pos v
  unfold wt0
  split <;> rename_i h
  · exact ⟨fun e => by omega, fun _ => h⟩
  · exact ⟨fun _ => by simpa using h, fun e => absurd rfl e⟩

theorem rightE_all {es : List En} (h : es.all entB = false) : rightE es = false := by unfold rightE; rw [h]; simp
theorem rightE_steps {es : List En} (h : stepsE (keysE es) = false) : rightE es = false := by unfold rightE; rw [h]; simp

theorem steps_bad (l : List ByteArray) (i : Nat) (h : stepsE (l.take i) = false) : stepsE l = false := by
  cases hh : stepsE l with
  | false => rfl
  | true => have := stepsE_pre l i hh; rw [h] at this; cases this

set_option maxRecDepth 100000 in
set_option maxHeartbeats 40000000 in
theorem rightRs_any (es : List En) (al : Option Addr) (n cl B : Nat) (w : World) (hn : es.length = n) (h : IsE w (fun b => b < B) es al cl) (hB : B ≤ w.heap.size) :
    Calls Try.prog 26 #[.slice al n cl] w fun e w' => e = .returned (.bool (rightE es)) ∧ Below w.heap.size w w' := by
  have hl := h.len
  rw [hn] at hl
  have HV : Hid (∀ u, Below w.heap.size w u → IsE u (fun b => b < B) es al cl) := hide (fun u hu => h.later (hu.mono hB))
  have HN := hide hn
  have HB := hide hB
  clear hn
  obtain ⟨R, hR⟩ : ∃ R, rightE es = R := ⟨_, rfl⟩
  have HR0 := hide hR
  rw [hR]
  clear hR h hB
  by_cases hbig : 128 < n
  · have HF : Hid (rightE es = false) := hide (by unfold rightE; rw [decide_eq_false (by have := unhide HN; omega)]; rfl)
    have i1 : (128 : Int) < (n : Int) := by omega
    go_enter Try.func26, Try.ntmps26
    go_wp2_with fail
    go_ret
    exact ⟨by rw [← unhide HR0, unhide HF]; rfl, Below.refl _ _⟩
  have i1 : ¬ (128 : Int) < (n : Int) := by omega
  have hn128 : n ≤ 128 := by omega
  have HK1 : Hid (stepsE ((keysE es).take 1) = true) := hide (by cases keysE es <;> simp [stepsE])
  go_enter Try.func26, Try.ntmps26
  go_wp2_with fail
  go_loopw [3, 4] (fun x y wr => ∃ (i t : Nat), x = .int .i64 (t : Int) ∧ y = .int .i64 (i : Int) ∧ Hid (i ≤ n ∧ t ≤ i * 2081 ∧ Below w.heap.size w wr) ∧ Hid ((es.take i).all entB = true ∧ t = entsW (es.take i) ∧ stepsE ((keysE es).take i) = true)) (fun _ y _ => n - (intOf y).toNat)
  case atStart => exact ⟨0, 0, rfl, rfl, hide ⟨by omega, by omega, Below.refl _ _⟩, hide ⟨by simp, by simp [entsW], by simp [stepsE]⟩⟩
  case round =>
    obtain ⟨i, t, rfl, rfl, HX, HR⟩ := hrel
    by_cases hlt : i < n
    · have j1 : (i : Int) < (n : Int) := by omega
      have HI1 : Hid (i + 1 ≤ n) := hide (by omega)
      obtain ⟨e, he⟩ : ∃ e, es[i]? = some e := ⟨_, List.getElem?_eq_getElem (by have := unhide HN; omega)⟩
      have hv := unhide HV wr (unhide HX).2.2
      obtain ⟨a, x0, x1, x2, al', ak', ll', m', cl', ck', rfl, _, hsz, hc, hp⟩ := hv.elem i e he
      obtain ⟨s, hs⟩ : ∃ s, e.1 = s := ⟨_, rfl⟩
      obtain ⟨v, hvv⟩ : ∃ v, e.2 = v := ⟨_, rfl⟩
      obtain rfl : e = (s, v) := by rw [← hs, ← hvv]
      clear hs hvv
      dsimp only at hsz hc hp
      have c0 : wr.cell? (a.add (i * 6)) = some (.string s) := hc 0 _ rfl
      have c1 : wr.cell? ⟨(a.add (i * 6)).block, (a.add (i * 6)).off + 1, none⟩ = some (.int .i64 x0) := hc 1 _ rfl
      have c2 : wr.cell? ⟨(a.add (i * 6)).block, (a.add (i * 6)).off + 2, none⟩ = some (.int .i64 x1) := hc 2 _ rfl
      have c3 : wr.cell? ⟨(a.add (i * 6)).block, (a.add (i * 6)).off + 3, none⟩ = some (.string x2) := hc 3 _ rfl
      have c4 : wr.cell? ⟨(a.add (i * 6)).block, (a.add (i * 6)).off + 4, none⟩ = some (.slice al' ll' cl') := hc 4 _ rfl
      have c5 : wr.cell? ⟨(a.add (i * 6)).block, (a.add (i * 6)).off + 5, none⟩ = some (.slice ak' m' ck') := hc 5 _ rfl
      have CW := hide (weight_ref v _ B wr hp (Nat.le_trans (unhide HB) (unhide HX).2.2.size))
      have hq2 := wt0_le v
      obtain ⟨q, hq⟩ : ∃ q, wt0 v = q := ⟨_, rfl⟩
      rw [hq] at CW hq2
      have HE := hide (And.intro he hq)
      have HJ : Hid (∀ j, j + 1 = i → ∃ p, (keysE es)[j]? = some p ∧ wr.cell? (a.add (j * 6)) = some (.string p)) := hide (by
        intro j hj
        obtain ⟨e0, he0⟩ : ∃ e0, es[j]? = some e0 := ⟨_, List.getElem?_eq_getElem (by have := unhide HN; omega)⟩
        obtain ⟨a', y0, y1, y2, bl', bk', lb', mb', clb', ckb', ha', _, _, hd, _⟩ := hv.elem j e0 he0
        cases ha'
        exact ⟨e0.1, by simp [keysE, he0], hd 0 _ rfl⟩)
      clear hc hp hv he hq
      go_wp2_with fail
      refine (unhide CW).mono ?_
      rintro e u ⟨rfl, b1⟩
      have d0 := cell_later b1 c0
      have B5 : Hid (Below w.heap.size w u) := hide ((unhide HX).2.2.trans (b1.mono (unhide HX).2.2.size))
      have HJ2 : Hid (∀ j, j + 1 = i → ∃ p, (keysE es)[j]? = some p ∧ u.cell? (a.add (j * 6)) = some (.string p)) := hide (by
        intro j hj
        obtain ⟨p, h1, h2⟩ := unhide HJ j hj
        exact ⟨p, h1, cell_later b1 h2⟩)
      clear b1 CW c0 c1 c2 c3 c4 c5 HJ
      by_cases hz0 : s.size = 0
      · have k0 := size0S hz0
        have HF : Hid (rightE es = false) := hide (rightE_all (all_no es i _ (unhide HE).1 (by unfold entB; dsimp only; rw [decide_eq_false (by omega)]; rfl)))
        clear hz0
        go_upto_region 8 with fail
        go_quiet (fail)
        go_wp2_with fail
        go_ret
        exact ⟨by rw [← unhide HR0, unhide HF]; rfl, below_drewS1 (unhide B5) _⟩
      have k0 := size1S hz0
      by_cases hz1 : 32 < s.size
      · have k1 : decide ((32 : Int) < (s.size : Int)) = true := decide_eq_true (by omega)
        have HF : Hid (rightE es = false) := hide (rightE_all (all_no es i _ (unhide HE).1 (by unfold entB; dsimp only; rw [decide_eq_false (p := s.size ≤ 32) (by omega), Bool.and_false]; rfl)))
        go_upto_region 8 with fail
        go_quiet (fail)
        go_wp2_with fail
        go_ret
        exact ⟨by rw [← unhide HR0, unhide HF]; rfl, below_drewS1 (unhide B5) _⟩
      have k1 : decide ((32 : Int) < (s.size : Int)) = false := decide_eq_false (by omega)
      by_cases hq0 : q = 0
      · have k2 : ((q : Int) == 0) = true := beq_iff_eq.2 (by omega)
        have HF : Hid (rightE es = false) := hide (rightE_all (all_no es i _ (unhide HE).1 (by unfold entB; dsimp only; rw [(wt0_zero v).1 (by rw [(unhide HE).2]; exact hq0), Bool.and_false])))
        clear hq0
        go_upto_region 8 with fail
        go_quiet (fail)
        go_wp2_with fail
        go_ret
        exact ⟨by rw [← unhide HR0, unhide HF]; rfl, below_drewS1 (unhide B5) _⟩
      have k2 : ((q : Int) == 0) = false := beq_eq_false_iff_ne.2 (by omega)
      have HEB : Hid (entB (s, v) = true) := hide (by unfold entB; dsimp only; rw [(wt0_zero v).2 (by rw [(unhide HE).2]; exact hq0), decide_eq_true (p := 1 ≤ s.size) (by omega), decide_eq_true (p := s.size ≤ 32) (by omega)]; rfl)
      have HEW : Hid (entW (s, v) = 1 + s.size + q) := hide (by unfold entW; rw [(unhide HE).2])
      have hti : t ≤ i * 2081 := (unhide HX).2.1
      have e1 : IntKind.i64.wrap ((t : Int) + 1) = (t : Int) + 1 := by rw [IntKind.wrap_i64]; omega
      have e2 : IntKind.i64.wrap ((t : Int) + 1 + (s.size : Int)) = (t : Int) + 1 + (s.size : Int) := by rw [IntKind.wrap_i64]; omega
      have e3 : IntKind.i64.wrap ((t : Int) + 1 + (s.size : Int) + (q : Int)) = ((t + (1 + s.size + q) : Nat) : Int) := by rw [IntKind.wrap_i64]; omega
      have HT : Hid (t + (1 + s.size + q) ≤ (i + 1) * 2081) := hide (by omega)
      have HR1 : Hid ((es.take (i + 1)).all entB = true ∧ t + (1 + s.size + q) = entsW (es.take (i + 1))) := hide (by
        obtain ⟨q1, q2, _⟩ := unhide HR
        exact ⟨by rw [all_next es i _ (unhide HE).1, q1, unhide HEB]; rfl, by rw [entsW_next es i _ (unhide HE).1, ← q2, unhide HEW]⟩)
      by_cases hi0 : i = 0
      · have HS1 : Hid (stepsE ((keysE es).take (i + 1)) = true) := hide (by rw [hi0]; exact unhide HK1)
        have i4 : ¬ (0 : Int) < (i : Int) := by omega
        have i5 : decide (0 < i) = false := decide_eq_false (by omega)
        have i6 : decide ((0 : Int) < (i : Int)) = false := decide_eq_false i4
        clear hi0 hq0 hti
        go_upto_region 8 with fail
        go_quiet (fail)
        go_wp2_with fail
        go_roundw
        case rel => exact ⟨i + 1, t + (1 + s.size + q), by first | rfl | go_num, by go_num, hide ⟨unhide HI1, unhide HT, below_drewS1 (unhide B5) _⟩, hide ⟨(unhide HR1).1, (unhide HR1).2, unhide HS1⟩⟩
        case measure => have := unhide HI1; simp [intOf]; omega
      · obtain ⟨j, hii⟩ : ∃ j, j + 1 = i := ⟨i - 1, by omega⟩
        obtain ⟨p, hp1, y0⟩ := unhide HJ2 j hii
        have i2 : IntKind.i64.wrap ((i : Int) - 1) = (j : Int) := by rw [IntKind.wrap_i64]; omega
        have i3 : (j : Int) < (n : Int) := by omega
        have i4 : (0 : Int) < (i : Int) := by omega
        have i5 : decide (0 < i) = true := decide_eq_true (by omega)
        have i6 : decide ((0 : Int) < (i : Int)) = true := decide_eq_true i4
        have HSN : Hid (stepsE ((keysE es).take (i + 1)) = Op.bytesLess p.toList s.toList) := hide (by
          have := stepsE_next (keysE es) j p s hp1 (by rw [hii]; simp [keysE, (unhide HE).1])
          rw [show j + 2 = i + 1 by omega, show j + 1 = i by omega, (unhide HR).2.2, Bool.true_and] at this
          exact this)
        have b2 := bl_not p.toList s.toList
        clear hp1 hii hi0 hq0 hti
        cases hL : Op.bytesLess p.toList s.toList with
        | false =>
          rw [hL] at b2
          have b3 : (Op.bytesLess s.toList p.toList || s.toList == p.toList) = true := by cases h : (Op.bytesLess s.toList p.toList || s.toList == p.toList) with | true => rfl | false => rw [h] at b2; cases b2
          have HF : Hid (rightE es = false) := hide (rightE_steps (steps_bad _ (i + 1) (by rw [unhide HSN, hL])))
          clear b2 hL
          go_upto_region 8 with fail
          go_quiet (fail)
          go_wp2_with fail
          go_ret
          exact ⟨by rw [← unhide HR0, unhide HF]; rfl, below_drewS1 (unhide B5) _⟩
        | true =>
          rw [hL] at b2
          have b3 : (Op.bytesLess s.toList p.toList || s.toList == p.toList) = false := by cases h : (Op.bytesLess s.toList p.toList || s.toList == p.toList) with | false => rfl | true => rw [h] at b2; cases b2
          have HS1 : Hid (stepsE ((keysE es).take (i + 1)) = true) := hide (by rw [unhide HSN, hL])
          clear b2 hL
          go_upto_region 8 with fail
          go_quiet (fail)
          go_wp2_with fail
          go_roundw
          case rel => exact ⟨i + 1, t + (1 + s.size + q), by first | rfl | go_num, by go_num, hide ⟨unhide HI1, unhide HT, below_drewS1 (unhide B5) _⟩, hide ⟨(unhide HR1).1, (unhide HR1).2, unhide HS1⟩⟩
          case measure => have := unhide HI1; simp [intOf]; omega
    · have j1 : ¬ (i : Int) < (n : Int) := by omega
      have HF : Hid (rightE es = decide ((t : Int) ≤ 32768)) := hide (by
        obtain ⟨q1, q2, q3⟩ := unhide HR
        rw [List.take_of_length_le (by have := unhide HN; omega)] at q1 q2
        rw [List.take_of_length_le (by have := unhide HN; simp [keysE]; omega)] at q3
        unfold rightE
        rw [q1, q3, decide_eq_true (p := es.length ≤ 128) (by have := unhide HN; omega), q2, Bool.true_and, Bool.true_and, Bool.true_and]
        exact decide_eq_decide.2 (by omega))
      have B7 := hide (unhide HX).2.2
      go_wp2_with fail
      go_ret
      exact ⟨by rw [← unhide HR0, unhide HF]; first | rfl | (congr 2; exact decide_eq_decide.2 (by omega)), unhide B7⟩
end Go.Proofs.Ytlmgiimgmjbkeaa

namespace Go.Proofs.Ytlmgiimgmjbkeaa
open Go.RowKit
set_option linter.unusedVariables false
set_option linter.unusedSimpArgs false

theorem toList_nil0 {s : ByteArray} (h : (s.toList == []) = true) : s.size = 0 := by
  by_cases h0 : s.size = 0
  · exact h0
  · rw [size1S h0] at h
    cases h

theorem blk_blank (v : Vl) : blkB v = blankB v := by
  obtain ⟨k, n, s, l, ks⟩ := v
  by_cases hk : k = 0
  · subst hk
    cases hb : blkB (.mk 0 n s l ks) with
    | true =>
      unfold blkB at hb
      simp only [Bool.and_eq_true, beq_iff_eq] at hb
      obtain ⟨_, h1, h2, h3, h4⟩ := hb
      have hl : l = [] := List.eq_nil_of_length_eq_zero h3
      have hks : ks = [] := List.eq_nil_of_length_eq_zero h4
      subst h1 hl hks
      have hs : s.size = 0 := toList_nil0 (by rw [h2]; rfl)
      simp [blankB, rightB, okB, okL, formB, formM, wt, wtL, keysW, h2, hs, risingFrom]
    | false =>
      cases hr : blankB (.mk 0 n s l ks) with
      | false => rfl
      | true =>
        exfalso
        simp only [blankB, rightB, okB, formB, formM, Bool.and_eq_true, decide_eq_true_eq, if_pos] at hr
        obtain ⟨_, ⟨⟨⟨⟨h1, h2⟩, h3⟩, h4⟩, _⟩, _⟩ := hr
        have : blkB (.mk 0 n s l ks) = true := by
          unfold blkB
          have h2' : s.toList = [] := by simpa using h2
          simp [h1, h2', h3, h4]
        rw [this] at hb
        cases hb
  · have e1 : blkB (.mk k n s l ks) = false := by unfold blkB; rw [show (Vl.mk k n s l ks).kind = k from rfl, beq_eq_false_iff_ne.2 hk]; rfl
    have e2 : blankB (.mk k n s l ks) = false := by simp [blankB, hk]
    rw [e1, e2]
end Go.Proofs.Ytlmgiimgmjbkeaa
