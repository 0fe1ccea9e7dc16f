/-
  Nothing leads from entries to themselves, and only there; Diff's answer as a merge of two lists; no conditions.
  The keys of what leads from some entries to others rise; no conditions.
  The walk of the document's Right over entries; no conditions but the form's own reach.
-/
import Derived.Test.YtjhnbopejnpbeaaA40
import Derived.Test.YtjhnbopejnpbeaaA33
import Derived.Test.YtjhnbopejnpbeaaA22
set_option linter.unusedVariables false
set_option linter.unusedSimpArgs false
namespace Go.Proofs.Ytjhnbopejnpbeaa
open Go.RowKit
set_option linter.unusedVariables false
set_option linter.unusedSimpArgs false

theorem dfL_self : ∀ (f : Nat) (a : List En), dfL f a a = []
  | f, [] => dfL_nil f
  | 0, x :: r => rfl
  | f + 1, x :: r => by
    rw [dfL_cons, if_neg (by rw [ltK_irr]; simp), if_neg (by rw [ltK_irr]; simp), chE_two, if_pos (ord0_self x.2), dfL_self f r]
    rfl

theorem dfL_none : ∀ (f : Nat) (a b : List En), (∀ x ∈ a, rightB x.2 = true) → (∀ y ∈ b, rightB y.2 = true) → a.length + b.length ≤ f → dfL f a b = [] → a = b
  | f, [], [], _, _, _, _ => rfl
  | 0, x :: r, b, _, _, hf, _ => by simp at hf
  | 0, [], y :: s, _, _, hf, _ => by simp at hf
  | f + 1, x :: r, [], _, _, _, h => by rw [dfL_left] at h; cases h
  | f + 1, [], y :: s, _, _, _, h => by rw [dfL_right] at h; cases h
  | f + 1, x :: r, y :: s, ra, rb, hf, h => by
    rw [dfL_cons] at h
    cases h1 : ltK y.1 x.1 with
    | true => rw [h1, if_pos rfl] at h; cases h
    | false =>
      rw [h1, if_neg (by simp)] at h
      cases h2 : ltK x.1 y.1 with
      | true => rw [h2, if_pos rfl] at h; cases h
      | false =>
        rw [h2, if_neg (by simp), List.append_eq_nil_iff] at h
        have hz : ord0 x.2 y.2 = 0 := by
          by_cases hz : ord0 x.2 y.2 = 0
          · exact hz
          · have := h.1
            rw [chE_two, if_neg hz] at this
            cases this
        have hv := (ord0_zero (ra x List.mem_cons_self) (rb y List.mem_cons_self)).1 hz
        have hxy : x = y := Prod.ext (ltK_same h2 h1) hv
        rw [hxy, dfL_none f r s (fun z hz => ra z (List.mem_cons_of_mem _ hz)) (fun z hz => rb z (List.mem_cons_of_mem _ hz)) (by simp at hf; omega) h.2]

theorem chI_E (es fs : List En) (x : Option Nat × Option Nat) (h1 : ∀ a, x.1 = some a → a < es.length) (h2 : ∀ b, x.2 = some b → b < fs.length) : chI es fs x = chE (x.1.bind (fun a => es[a]?), x.2.bind (fun b => fs[b]?)) := by
  obtain ⟨oa, ob⟩ := x
  dsimp only at h1 h2 ⊢
  cases oa with
  | none =>
    cases ob with
    | none => rfl
    | some j =>
      have hj := List.getElem?_eq_getElem (h2 j rfl)
      simp [chI, hj, chE]
  | some i =>
    have hi := List.getElem?_eq_getElem (h1 i rfl)
    cases ob with
    | none => simp [chI, hi, chE]
    | some j =>
      have hj := List.getElem?_eq_getElem (h2 j rfl)
      simp [chI, hi, hj, chE]

theorem flatMap_same {α β : Type} {f g : α → List β} : ∀ {l : List α}, (∀ x ∈ l, f x = g x) → l.flatMap f = l.flatMap g
  | [], _ => rfl
  | x :: r, h => by rw [List.flatMap_cons, List.flatMap_cons, h x List.mem_cons_self, flatMap_same (fun z hz => h z (List.mem_cons_of_mem _ hz))]

theorem diffL_df (es fs : List En) (h : diffB es fs = true) : diffL es fs = dfL (es.length + fs.length) es fs := by
  unfold diffL dfL
  rw [if_pos h]
  have e := sdN_mg (fun e : En => e.1) (fun e : En => e.1) es fs (es.length + fs.length) 0 0
  rw [List.drop_zero, List.drop_zero] at e
  rw [← e, List.flatMap_map]
  refine flatMap_same (fun x hx => ?_)
  obtain ⟨h1, h2⟩ := sdN_mem _ _ _ _ _ x hx
  exact chI_E es fs x (fun a ha => by have := h1 a ha; simpa [keysE] using this) (fun b hb => by have := h2 b hb; simpa [keysE] using this)

theorem steps_up : ∀ (l : List En), stepsE (keysE l) = true → upE none l
  | [], _ => trivial
  | [x], _ => ⟨(fun q hq => by cases hq), trivial⟩
  | x :: y :: r, h => by
    have h' : (Op.bytesLess x.1.toList y.1.toList && stepsE (keysE (y :: r))) = true := h
    rw [Bool.and_eq_true] at h'
    have ih := steps_up (y :: r) h'.2
    exact ⟨(fun q hq => by cases hq), ⟨(fun q hq => by cases hq; exact h'.1), ih.2⟩⟩

theorem rightE_up {l : List En} (h : rightE l = true) : upE none l ∧ ∀ x ∈ l, rightB x.2 = true := by
  unfold rightE at h
  simp only [Bool.and_eq_true, decide_eq_true_eq, List.all_eq_true] at h
  refine ⟨steps_up l h.1.1.2, fun x hx => ?_⟩
  have := h.1.2 x hx
  unfold entB at this
  simp only [Bool.and_eq_true] at this
  exact this.2

/-- the three promises, of right entries -/
theorem leads_right (es fs : List En) (h : rightE es = true) (h' : rightE fs = true) : (∀ g, es.length + (diffL es fs).length ≤ g → apL g es (diffL es fs) = fs ∧ apB g es (diffL es fs) = true) ∧ diffL es es = [] ∧ (diffL es fs = [] ↔ es = fs) := by
  have hd : diffB es fs = true := by unfold diffB; rw [h, h']; rfl
  have hd' : diffB es es = true := by unfold diffB; rw [h]; rfl
  obtain ⟨u1, r1⟩ := rightE_up h
  obtain ⟨u2, r2⟩ := rightE_up h'
  rw [diffL_df es fs hd, diffL_df es es hd']
  refine ⟨fun g hg => ap_df _ g es fs u1 u2 r1 r2 (Nat.le_refl _) hg, dfL_self _ _, fun e => dfL_none _ es fs r1 r2 (Nat.le_refl _) e, fun e => ?_⟩
  subst e
  exact dfL_self _ _
end Go.Proofs.Ytjhnbopejnpbeaa

namespace Go.Proofs.Ytjhnbopejnpbeaa
open Go.RowKit
set_option linter.unusedVariables false
set_option linter.unusedSimpArgs false

theorem steps_cons (k : ByteArray) (l : List ByteArray) (h : ∀ q ∈ l, ltK k q = true) (hl : stepsE l = true) : stepsE (k :: l) = true := by
  cases l with
  | nil => rfl
  | cons q r =>
    have h1 : Op.bytesLess k.toList q.toList = true := h q List.mem_cons_self
    rw [stepsE, h1, hl]
    rfl

theorem gt_cons {k : ByteArray} {x : En} {r : List En} (h : ltK k x.1 = true) (hu : upE (some x.1) r) : ∀ z ∈ x :: r, ltK k z.1 = true := by
  intro z hz
  rcases List.mem_cons.1 hz with rfl | hz
  · exact h
  · exact ltK_tr h (upE_all hu z hz)

theorem dfL_steps : ∀ (f : Nat) (a b : List En), upE none a → upE none b → stepsE (keysH (dfL f a b)) = true
  | f, [], [], _, _ => by rw [dfL_nil]; rfl
  | 0, x :: r, b, _, _ => rfl
  | 0, [], y :: s, _, _ => rfl
  | f + 1, x :: r, [], ha, hb => by
    rw [dfL_left]
    refine steps_cons _ _ (fun q hq => ?_) (dfL_steps f r [] (upE_weak ha.2) hb)
    obtain ⟨c, hc, rfl⟩ := List.mem_map.1 hq
    exact dfL_gt _ f r [] (upE_all ha.2) (fun z hz => by cases hz) c hc
  | f + 1, [], y :: s, ha, hb => by
    rw [dfL_right]
    refine steps_cons _ _ (fun q hq => ?_) (dfL_steps f [] s ha (upE_weak hb.2))
    obtain ⟨c, hc, rfl⟩ := List.mem_map.1 hq
    exact dfL_gt _ f [] s (fun z hz => by cases hz) (upE_all hb.2) c hc
  | f + 1, x :: r, y :: s, ha, hb => by
    rw [dfL_cons]
    cases h1 : ltK y.1 x.1 with
    | true =>
      rw [if_pos rfl]
      refine steps_cons _ _ (fun q hq => ?_) (dfL_steps f (x :: r) s ha (upE_weak hb.2))
      obtain ⟨c, hc, rfl⟩ := List.mem_map.1 hq
      exact dfL_gt _ f (x :: r) s (gt_cons h1 ha.2) (upE_all hb.2) c hc
    | false =>
      rw [if_neg (by simp)]
      cases h2 : ltK x.1 y.1 with
      | true =>
        rw [if_pos rfl]
        refine steps_cons _ _ (fun q hq => ?_) (dfL_steps f r (y :: s) (upE_weak ha.2) hb)
        obtain ⟨c, hc, rfl⟩ := List.mem_map.1 hq
        exact dfL_gt _ f r (y :: s) (upE_all ha.2) (gt_cons h2 hb.2) c hc
      | false =>
        rw [if_neg (by simp), chE_two]
        have ih := dfL_steps f r s (upE_weak ha.2) (upE_weak hb.2)
        split
        · exact ih
        · refine steps_cons _ _ (fun q hq => ?_) ih
          obtain ⟨c, hc, rfl⟩ := List.mem_map.1 hq
          have hk := ltK_same h2 h1
          exact dfL_gt _ f r s (by rw [← hk]; exact upE_all ha.2) (upE_all hb.2) c hc

theorem dfL_len : ∀ (f : Nat) (a b : List En), (dfL f a b).length ≤ f
  | 0, a, b => by simp [dfL, mg]
  | f + 1, [], [] => by rw [dfL_nil]; simp
  | f + 1, x :: r, [] => by have := dfL_len f r []; rw [dfL_left, List.length_cons]; omega
  | f + 1, [], y :: s => by have := dfL_len f [] s; rw [dfL_right, List.length_cons]; omega
  | f + 1, x :: r, y :: s => by
    rw [dfL_cons]
    have i1 := dfL_len f (x :: r) s
    have i2 := dfL_len f r (y :: s)
    have i3 := dfL_len f r s
    split
    · rw [List.length_cons]; omega
    · split
      · rw [List.length_cons]; omega
      · rw [chE_two]
        split
        · rw [List.nil_append]; omega
        · rw [List.singleton_append, List.length_cons]; omega
end Go.Proofs.Ytjhnbopejnpbeaa

namespace Go.Proofs.Ytjhnbopejnpbeaa
open Go.RowKit
set_option linter.unusedVariables false
set_option linter.unusedSimpArgs false

theorem below_drewS1 {B : Nat} {w w' : World} (h : Below B w w') (q : Nat) : Below B w (w'.drewN q) := ⟨h.os, h.tape, h.output, h.size, h.block⟩

theorem size0S {s : ByteArray} (h : s.size = 0) : (s.toList == []) = true := by
  have : s.toList.length = 0 := by rw [ByteArray.toList_eq]; simpa using h
  rw [List.eq_nil_of_length_eq_zero this]
  rfl

theorem size1S {s : ByteArray} (h : s.size ≠ 0) : (s.toList == []) = false := by
  have : s.toList.length ≠ 0 := by rw [ByteArray.toList_eq]; simpa using h
  cases hs : s.toList with
  | nil => rw [hs] at this; simp at this
  | cons a r => rfl

theorem wt0_zero (v : Vl) : (wt0 v = 0 → rightB v = false) ∧ (wt0 v ≠ 0 → rightB v = true) := by
  have := wt_pos v
  unfold wt0
  split <;> rename_i h
  · exact ⟨fun e => by omega, fun _ => h⟩
  · exact ⟨fun _ => by simpa using h, fun e => absurd rfl e⟩

theorem rightE_all {es : List En} (h : es.all entB = false) : rightE es = false := by unfold rightE; rw [h]; simp
theorem rightE_steps {es : List En} (h : stepsE (keysE es) = false) : rightE es = false := by unfold rightE; rw [h]; simp

theorem steps_bad (l : List ByteArray) (i : Nat) (h : stepsE (l.take i) = false) : stepsE l = false := by
  cases hh : stepsE l with
  | false => rfl
  | true => have := stepsE_pre l i hh; rw [h] at this; cases this

set_option maxRecDepth 100000 in
set_option maxHeartbeats 40000000 in
theorem rightRs_any (es : List En) (al : Option Addr) (n cl B : Nat) (w : World) (hn : es.length = n) (h : IsE w (fun b => b < B) es al cl) (hB : B ≤ w.heap.size) :
    Calls Try.prog 26 #[.slice al n cl] w fun e w' => e = .returned (.bool (rightE es)) ∧ Below w.heap.size w w' := by
  have hl := h.len
  rw [hn] at hl
  have HV : Hid (∀ u, Below w.heap.size w u → IsE u (fun b => b < B) es al cl) := hide (fun u hu => h.later (hu.mono hB))
  have HN := hide hn
  have HB := hide hB
  clear hn
  obtain ⟨R, hR⟩ : ∃ R, rightE es = R := ⟨_, rfl⟩
  have HR0 := hide hR
  rw [hR]
  clear hR h hB
  by_cases hbig : 128 < n
  · have HF : Hid (rightE es = false) := hide (by unfold rightE; rw [decide_eq_false (by have := unhide HN; omega)]; rfl)
    have i1 : (128 : Int) < (n : Int) := by omega
    go_enter Try.func26, Try.ntmps26
    go_wp2_with fail
    go_ret
    exact ⟨by rw [← unhide HR0, unhide HF]; rfl, Below.refl _ _⟩
  have i1 : ¬ (128 : Int) < (n : Int) := by omega
  have hn128 : n ≤ 128 := by omega
  have HK1 : Hid (stepsE ((keysE es).take 1) = true) := hide (by cases keysE es <;> simp [stepsE])
  go_enter Try.func26, Try.ntmps26
  go_wp2_with fail
  go_loopw [3, 4] (fun x y wr => ∃ (i t : Nat), x = .int .i64 (t : Int) ∧ y = .int .i64 (i : Int) ∧ Hid (i ≤ n ∧ t ≤ i * 2081 ∧ Below w.heap.size w wr) ∧ Hid ((es.take i).all entB = true ∧ t = entsW (es.take i) ∧ stepsE ((keysE es).take i) = true)) (fun _ y _ => n - (intOf y).toNat)
  case atStart => exact ⟨0, 0, rfl, rfl, hide ⟨by omega, by omega, Below.refl _ _⟩, hide ⟨by simp, by simp [entsW], by simp [stepsE]⟩⟩
  case round =>
    obtain ⟨i, t, rfl, rfl, HX, HR⟩ := hrel
    by_cases hlt : i < n
    · have j1 : (i : Int) < (n : Int) := by omega
      have HI1 : Hid (i + 1 ≤ n) := hide (by omega)
      obtain ⟨e, he⟩ : ∃ e, es[i]? = some e := ⟨_, List.getElem?_eq_getElem (by have := unhide HN; omega)⟩
      have hv := unhide HV wr (unhide HX).2.2
      obtain ⟨a, x0, x1, x2, al', ak', ll', m', cl', ck', rfl, _, hsz, hc, hp⟩ := hv.elem i e he
      obtain ⟨s, hs⟩ : ∃ s, e.1 = s := ⟨_, rfl⟩
      obtain ⟨v, hvv⟩ : ∃ v, e.2 = v := ⟨_, rfl⟩
      obtain rfl : e = (s, v) := by rw [← hs, ← hvv]
      clear hs hvv
      dsimp only at hsz hc hp
      have c0 : wr.cell? (a.add (i * 6)) = some (.string s) := hc 0 _ rfl
      have c1 : wr.cell? ⟨(a.add (i * 6)).block, (a.add (i * 6)).off + 1, none⟩ = some (.int .i64 x0) := hc 1 _ rfl
      have c2 : wr.cell? ⟨(a.add (i * 6)).block, (a.add (i * 6)).off + 2, none⟩ = some (.int .i64 x1) := hc 2 _ rfl
      have c3 : wr.cell? ⟨(a.add (i * 6)).block, (a.add (i * 6)).off + 3, none⟩ = some (.string x2) := hc 3 _ rfl
      have c4 : wr.cell? ⟨(a.add (i * 6)).block, (a.add (i * 6)).off + 4, none⟩ = some (.slice al' ll' cl') := hc 4 _ rfl
      have c5 : wr.cell? ⟨(a.add (i * 6)).block, (a.add (i * 6)).off + 5, none⟩ = some (.slice ak' m' ck') := hc 5 _ rfl
      have CW := hide (weight_ref v _ B wr hp (Nat.le_trans (unhide HB) (unhide HX).2.2.size))
      have hq2 := wt0_le v
      obtain ⟨q, hq⟩ : ∃ q, wt0 v = q := ⟨_, rfl⟩
      rw [hq] at CW hq2
      have HE := hide (And.intro he hq)
      have HJ : Hid (∀ j, j + 1 = i → ∃ p, (keysE es)[j]? = some p ∧ wr.cell? (a.add (j * 6)) = some (.string p)) := hide (by
        intro j hj
        obtain ⟨e0, he0⟩ : ∃ e0, es[j]? = some e0 := ⟨_, List.getElem?_eq_getElem (by have := unhide HN; omega)⟩
        obtain ⟨a', y0, y1, y2, bl', bk', lb', mb', clb', ckb', ha', _, _, hd, _⟩ := hv.elem j e0 he0
        cases ha'
        exact ⟨e0.1, by simp [keysE, he0], hd 0 _ rfl⟩)
      clear hc hp hv he hq
      go_wp2_with fail
      refine (unhide CW).mono ?_
      rintro e u ⟨rfl, b1⟩
      have d0 := cell_later b1 c0
      have B5 : Hid (Below w.heap.size w u) := hide ((unhide HX).2.2.trans (b1.mono (unhide HX).2.2.size))
      have HJ2 : Hid (∀ j, j + 1 = i → ∃ p, (keysE es)[j]? = some p ∧ u.cell? (a.add (j * 6)) = some (.string p)) := hide (by
        intro j hj
        obtain ⟨p, h1, h2⟩ := unhide HJ j hj
        exact ⟨p, h1, cell_later b1 h2⟩)
      clear b1 CW c0 c1 c2 c3 c4 c5 HJ
      by_cases hz0 : s.size = 0
      · have k0 := size0S hz0
        have HF : Hid (rightE es = false) := hide (rightE_all (all_no es i _ (unhide HE).1 (by unfold entB; dsimp only; rw [decide_eq_false (by omega)]; rfl)))
        clear hz0
        go_upto_region 8 with fail
        go_quiet (fail)
        go_wp2_with fail
        go_ret
        exact ⟨by rw [← unhide HR0, unhide HF]; rfl, below_drewS1 (unhide B5) _⟩
      have k0 := size1S hz0
      by_cases hz1 : 32 < s.size
      · have k1 : decide ((32 : Int) < (s.size : Int)) = true := decide_eq_true (by omega)
        have HF : Hid (rightE es = false) := hide (rightE_all (all_no es i _ (unhide HE).1 (by unfold entB; dsimp only; rw [decide_eq_false (p := s.size ≤ 32) (by omega), Bool.and_false]; rfl)))
        go_upto_region 8 with fail
        go_quiet (fail)
        go_wp2_with fail
        go_ret
        exact ⟨by rw [← unhide HR0, unhide HF]; rfl, below_drewS1 (unhide B5) _⟩
      have k1 : decide ((32 : Int) < (s.size : Int)) = false := decide_eq_false (by omega)
      by_cases hq0 : q = 0
      · have k2 : ((q : Int) == 0) = true := beq_iff_eq.2 (by omega)
        have HF : Hid (rightE es = false) := hide (rightE_all (all_no es i _ (unhide HE).1 (by unfold entB; dsimp only; rw [(wt0_zero v).1 (by rw [(unhide HE).2]; exact hq0), Bool.and_false])))
        clear hq0
        go_upto_region 8 with fail
        go_quiet (fail)
        go_wp2_with fail
        go_ret
        exact ⟨by rw [← unhide HR0, unhide HF]; rfl, below_drewS1 (unhide B5) _⟩
      have k2 : ((q : Int) == 0) = false := beq_eq_false_iff_ne.2 (by omega)
      have HEB : Hid (entB (s, v) = true) := hide (by unfold entB; dsimp only; rw [(wt0_zero v).2 (by rw [(unhide HE).2]; exact hq0), decide_eq_true (p := 1 ≤ s.size) (by omega), decide_eq_true (p := s.size ≤ 32) (by omega)]; rfl)
      have HEW : Hid (entW (s, v) = 1 + s.size + q) := hide (by unfold entW; rw [(unhide HE).2])
      have hti : t ≤ i * 2081 := (unhide HX).2.1
      have e1 : IntKind.i64.wrap ((t : Int) + 1) = (t : Int) + 1 := by rw [IntKind.wrap_i64]; omega
      have e2 : IntKind.i64.wrap ((t : Int) + 1 + (s.size : Int)) = (t : Int) + 1 + (s.size : Int) := by rw [IntKind.wrap_i64]; omega
      have e3 : IntKind.i64.wrap ((t : Int) + 1 + (s.size : Int) + (q : Int)) = ((t + (1 + s.size + q) : Nat) : Int) := by rw [IntKind.wrap_i64]; omega
      have HT : Hid (t + (1 + s.size + q) ≤ (i + 1) * 2081) := hide (by omega)
      have HR1 : Hid ((es.take (i + 1)).all entB = true ∧ t + (1 + s.size + q) = entsW (es.take (i + 1))) := hide (by
        obtain ⟨q1, q2, _⟩ := unhide HR
        exact ⟨by rw [all_next es i _ (unhide HE).1, q1, unhide HEB]; rfl, by rw [entsW_next es i _ (unhide HE).1, ← q2, unhide HEW]⟩)
      by_cases hi0 : i = 0
      · have HS1 : Hid (stepsE ((keysE es).take (i + 1)) = true) := hide (by rw [hi0]; exact unhide HK1)
        have i4 : ¬ (0 : Int) < (i : Int) := by omega
        have i5 : decide (0 < i) = false := decide_eq_false (by omega)
        have i6 : decide ((0 : Int) < (i : Int)) = false := decide_eq_false i4
        clear hi0 hq0 hti
        go_upto_region 8 with fail
        go_quiet (fail)
        go_wp2_with fail
        go_roundw
        case rel => exact ⟨i + 1, t + (1 + s.size + q), by first | rfl | go_num, by go_num, hide ⟨unhide HI1, unhide HT, below_drewS1 (unhide B5) _⟩, hide ⟨(unhide HR1).1, (unhide HR1).2, unhide HS1⟩⟩
        case measure => have := unhide HI1; simp [intOf]; omega
      · obtain ⟨j, hii⟩ : ∃ j, j + 1 = i := ⟨i - 1, by omega⟩
        obtain ⟨p, hp1, y0⟩ := unhide HJ2 j hii
        have i2 : IntKind.i64.wrap ((i : Int) - 1) = (j : Int) := by rw [IntKind.wrap_i64]; omega
        have i3 : (j : Int) < (n : Int) := by omega
        have i4 : (0 : Int) < (i : Int) := by omega
        have i5 : decide (0 < i) = true := decide_eq_true (by omega)
        have i6 : decide ((0 : Int) < (i : Int)) = true := decide_eq_true i4
        have HSN : Hid (stepsE ((keysE es).take (i + 1)) = Op.bytesLess p.toList s.toList) := hide (by
          have := stepsE_next (keysE es) j p s hp1 (by rw [hii]; simp [keysE, (unhide HE).1])
          rw [show j + 2 = i + 1 by omega, show j + 1 = i by omega, (unhide HR).2.2, Bool.true_and] at this
          exact this)
        have b2 := bl_not p.toList s.toList
        clear hp1 hii hi0 hq0 hti
        cases hL : Op.bytesLess p.toList s.toList with
        | false =>
          rw [hL] at b2
          have b3 : (Op.bytesLess s.toList p.toList || s.toList == p.toList) = true := by cases h : (Op.bytesLess s.toList p.toList || s.toList == p.toList) with | true => rfl | false => rw [h] at b2; cases b2
          have HF : Hid (rightE es = false) := hide (rightE_steps (steps_bad _ (i + 1) (by rw [unhide HSN, hL])))
          clear b2 hL
          go_upto_region 8 with fail
          go_quiet (fail)
          go_wp2_with fail
          go_ret
          exact ⟨by rw [← unhide HR0, unhide HF]; rfl, below_drewS1 (unhide B5) _⟩
        | true =>
          rw [hL] at b2
          have b3 : (Op.bytesLess s.toList p.toList || s.toList == p.toList) = false := by cases h : (Op.bytesLess s.toList p.toList || s.toList == p.toList) with | false => rfl | true => rw [h] at b2; cases b2
          have HS1 : Hid (stepsE ((keysE es).take (i + 1)) = true) := hide (by rw [unhide HSN, hL])
          clear b2 hL
          go_upto_region 8 with fail
          go_quiet (fail)
          go_wp2_with fail
          go_roundw
          case rel => exact ⟨i + 1, t + (1 + s.size + q), by first | rfl | go_num, by go_num, hide ⟨unhide HI1, unhide HT, below_drewS1 (unhide B5) _⟩, hide ⟨(unhide HR1).1, (unhide HR1).2, unhide HS1⟩⟩
          case measure => have := unhide HI1; simp [intOf]; omega
    · have j1 : ¬ (i : Int) < (n : Int) := by omega
      have HF : Hid (rightE es = decide ((t : Int) ≤ 32768)) := hide (by
        obtain ⟨q1, q2, q3⟩ := unhide HR
        rw [List.take_of_length_le (by have := unhide HN; omega)] at q1 q2
        rw [List.take_of_length_le (by have := unhide HN; simp [keysE]; omega)] at q3
        unfold rightE
        rw [q1, q3, decide_eq_true (p := es.length ≤ 128) (by have := unhide HN; omega), q2, Bool.true_and, Bool.true_and, Bool.true_and]
        exact decide_eq_decide.2 (by omega))
      have B7 := hide (unhide HX).2.2
      go_wp2_with fail
      go_ret
      exact ⟨by rw [← unhide HR0, unhide HF]; first | rfl | (congr 2; exact decide_eq_decide.2 (by omega)), unhide B7⟩
end Go.Proofs.Ytjhnbopejnpbeaa
