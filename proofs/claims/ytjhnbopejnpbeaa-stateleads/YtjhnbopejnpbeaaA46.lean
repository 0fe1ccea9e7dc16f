/-
  Nothing leads from entries to themselves, and only there; Diff's answer as a merge of two lists; no conditions.
  The keys of what leads from some entries to others rise; no conditions.
-/
import Derived.Test.YtjhnbopejnpbeaaA45
set_option linter.unusedVariables false
set_option linter.unusedSimpArgs false
namespace Go.Proofs.Ytjhnbopejnpbeaa
open Go.RowKit
set_option linter.unusedVariables false
set_option linter.unusedSimpArgs false

theorem dfL_self : ∀ (f : Nat) (a : List En), dfL f a a = []
  | f, [] => dfL_nil f
  | 0, x :: r => rfl
  | f + 1, x :: r => by
    rw [dfL_cons, if_neg (by rw [ltK_irr]; simp), if_neg (by rw [ltK_irr]; simp), chE_two, if_pos (ord0_self x.2), dfL_self f r]
    rfl

theorem dfL_none : ∀ (f : Nat) (a b : List En), (∀ x ∈ a, rightB x.2 = true) → (∀ y ∈ b, rightB y.2 = true) → a.length + b.length ≤ f → dfL f a b = [] → a = b
  | f, [], [], _, _, _, _ => rfl
  | 0, x :: r, b, _, _, hf, _ => by simp at hf
  | 0, [], y :: s, _, _, hf, _ => by simp at hf
  | f + 1, x :: r, [], _, _, _, h => by rw [dfL_left] at h; cases h
  | f + 1, [], y :: s, _, _, _, h => by rw [dfL_right] at h; cases h
  | f + 1, x :: r, y :: s, ra, rb, hf, h => by
    rw [dfL_cons] at h
    cases h1 : ltK y.1 x.1 with
    | true => rw [h1, if_pos rfl] at h; cases h
    | false =>
      rw [h1, if_neg (by simp)] at h
      cases h2 : ltK x.1 y.1 with
      | true => rw [h2, if_pos rfl] at h; cases h
      | false =>
        rw [h2, if_neg (by simp), List.append_eq_nil_iff] at h
        have hz : ord0 x.2 y.2 = 0 := by
          by_cases hz : ord0 x.2 y.2 = 0
          · exact hz
          · have := h.1
            rw [chE_two, if_neg hz] at this
            cases this
        have hv := (ord0_zero (ra x List.mem_cons_self) (rb y List.mem_cons_self)).1 hz
        have hxy : x = y := Prod.ext (ltK_same h2 h1) hv
        rw [hxy, dfL_none f r s (fun z hz => ra z (List.mem_cons_of_mem _ hz)) (fun z hz => rb z (List.mem_cons_of_mem _ hz)) (by simp at hf; omega) h.2]

theorem chI_E (es fs : List En) (x : Option Nat × Option Nat) (h1 : ∀ a, x.1 = some a → a < es.length) (h2 : ∀ b, x.2 = some b → b < fs.length) : chI es fs x = chE (x.1.bind (fun a => es[a]?), x.2.bind (fun b => fs[b]?)) := by
  obtain ⟨oa, ob⟩ := x
  dsimp only at h1 h2 ⊢
  cases oa with
  | none =>
    cases ob with
    | none => rfl
    | some j =>
      have hj := List.getElem?_eq_getElem (h2 j rfl)
      simp [chI, hj, chE]
  | some i =>
    have hi := List.getElem?_eq_getElem (h1 i rfl)
    cases ob with
    | none => simp [chI, hi, chE]
    | some j =>
      have hj := List.getElem?_eq_getElem (h2 j rfl)
      simp [chI, hi, hj, chE]

theorem flatMap_same {α β : Type} {f g : α → List β} : ∀ {l : List α}, (∀ x ∈ l, f x = g x) → l.flatMap f = l.flatMap g
  | [], _ => rfl
  | x :: r, h => by rw [List.flatMap_cons, List.flatMap_cons, h x List.mem_cons_self, flatMap_same (fun z hz => h z (List.mem_cons_of_mem _ hz))]

theorem diffL_df (es fs : List En) (h : diffB es fs = true) : diffL es fs = dfL (es.length + fs.length) es fs := by
  unfold diffL dfL
  rw [if_pos h]
  have e := sdN_mg (fun e : En => e.1) (fun e : En => e.1) es fs (es.length + fs.length) 0 0
  rw [List.drop_zero, List.drop_zero] at e
  rw [← e, List.flatMap_map]
  refine flatMap_same (fun x hx => ?_)
  obtain ⟨h1, h2⟩ := sdN_mem _ _ _ _ _ x hx
  exact chI_E es fs x (fun a ha => by have := h1 a ha; simpa [keysE] using this) (fun b hb => by have := h2 b hb; simpa [keysE] using this)

theorem steps_up : ∀ (l : List En), stepsE (keysE l) = true → upE none l
  | [], _ => trivial
  | [x], _ => ⟨(fun q hq => by cases hq), trivial⟩
  | x :: y :: r, h => by
    have h' : (Op.bytesLess x.1.toList y.1.toList && stepsE (keysE (y :: r))) = true := h
    rw [Bool.and_eq_true] at h'
    have ih := steps_up (y :: r) h'.2
    exact ⟨(fun q hq => by cases hq), ⟨(fun q hq => by cases hq; exact h'.1), ih.2⟩⟩

theorem rightE_up {l : List En} (h : rightE l = true) : upE none l ∧ ∀ x ∈ l, rightB x.2 = true := by
  unfold rightE at h
  simp only [Bool.and_eq_true, decide_eq_true_eq, List.all_eq_true] at h
  refine ⟨steps_up l h.1.1.2, fun x hx => ?_⟩
  have := h.1.2 x hx
  unfold entB at this
  simp only [Bool.and_eq_true] at this
  exact this.2

/-- the three promises, of right entries -/
theorem leads_right (es fs : List En) (h : rightE es = true) (h' : rightE fs = true) : (∀ g, es.length + (diffL es fs).length ≤ g → apL g es (diffL es fs) = fs ∧ apB g es (diffL es fs) = true) ∧ diffL es es = [] ∧ (diffL es fs = [] ↔ es = fs) := by
  have hd : diffB es fs = true := by unfold diffB; rw [h, h']; rfl
  have hd' : diffB es es = true := by unfold diffB; rw [h]; rfl
  obtain ⟨u1, r1⟩ := rightE_up h
  obtain ⟨u2, r2⟩ := rightE_up h'
  rw [diffL_df es fs hd, diffL_df es es hd']
  refine ⟨fun g hg => ap_df _ g es fs u1 u2 r1 r2 (Nat.le_refl _) hg, dfL_self _ _, fun e => dfL_none _ es fs r1 r2 (Nat.le_refl _) e, fun e => ?_⟩
  subst e
  exact dfL_self _ _
end Go.Proofs.Ytjhnbopejnpbeaa

namespace Go.Proofs.Ytjhnbopejnpbeaa
open Go.RowKit
set_option linter.unusedVariables false
set_option linter.unusedSimpArgs false

theorem steps_cons (k : ByteArray) (l : List ByteArray) (h : ∀ q ∈ l, ltK k q = true) (hl : stepsE l = true) : stepsE (k :: l) = true := by
  cases l with
  | nil => rfl
  | cons q r =>
    have h1 : Op.bytesLess k.toList q.toList = true := h q List.mem_cons_self
    rw [stepsE, h1, hl]
    rfl

theorem gt_cons {k : ByteArray} {x : En} {r : List En} (h : ltK k x.1 = true) (hu : upE (some x.1) r) : ∀ z ∈ x :: r, ltK k z.1 = true := by
  intro z hz
  rcases List.mem_cons.1 hz with rfl | hz
  · exact h
  · exact ltK_tr h (upE_all hu z hz)

theorem dfL_steps : ∀ (f : Nat) (a b : List En), upE none a → upE none b → stepsE (keysH (dfL f a b)) = true
  | f, [], [], _, _ => by rw [dfL_nil]; rfl
  | 0, x :: r, b, _, _ => rfl
  | 0, [], y :: s, _, _ => rfl
  | f + 1, x :: r, [], ha, hb => by
    rw [dfL_left]
    refine steps_cons _ _ (fun q hq => ?_) (dfL_steps f r [] (upE_weak ha.2) hb)
    obtain ⟨c, hc, rfl⟩ := List.mem_map.1 hq
    exact dfL_gt _ f r [] (upE_all ha.2) (fun z hz => by cases hz) c hc
  | f + 1, [], y :: s, ha, hb => by
    rw [dfL_right]
    refine steps_cons _ _ (fun q hq => ?_) (dfL_steps f [] s ha (upE_weak hb.2))
    obtain ⟨c, hc, rfl⟩ := List.mem_map.1 hq
    exact dfL_gt _ f [] s (fun z hz => by cases hz) (upE_all hb.2) c hc
  | f + 1, x :: r, y :: s, ha, hb => by
    rw [dfL_cons]
    cases h1 : ltK y.1 x.1 with
    | true =>
      rw [if_pos rfl]
      refine steps_cons _ _ (fun q hq => ?_) (dfL_steps f (x :: r) s ha (upE_weak hb.2))
      obtain ⟨c, hc, rfl⟩ := List.mem_map.1 hq
      exact dfL_gt _ f (x :: r) s (gt_cons h1 ha.2) (upE_all hb.2) c hc
    | false =>
      rw [if_neg (by simp)]
      cases h2 : ltK x.1 y.1 with
      | true =>
        rw [if_pos rfl]
        refine steps_cons _ _ (fun q hq => ?_) (dfL_steps f r (y :: s) (upE_weak ha.2) hb)
        obtain ⟨c, hc, rfl⟩ := List.mem_map.1 hq
        exact dfL_gt _ f r (y :: s) (upE_all ha.2) (gt_cons h2 hb.2) c hc
      | false =>
        rw [if_neg (by simp), chE_two]
        have ih := dfL_steps f r s (upE_weak ha.2) (upE_weak hb.2)
        split
        · exact ih
        · refine steps_cons _ _ (fun q hq => ?_) ih
          obtain ⟨c, hc, rfl⟩ := List.mem_map.1 hq
          have hk := ltK_same h2 h1
          exact dfL_gt _ f r s (by rw [← hk]; exact upE_all ha.2) (upE_all hb.2) c hc

theorem dfL_len : ∀ (f : Nat) (a b : List En), (dfL f a b).length ≤ f
  | 0, a, b => by simp [dfL, mg]
  | f + 1, [], [] => by rw [dfL_nil]; simp
  | f + 1, x :: r, [] => by have := dfL_len f r []; rw [dfL_left, List.length_cons]; omega
  | f + 1, [], y :: s => by have := dfL_len f [] s; rw [dfL_right, List.length_cons]; omega
  | f + 1, x :: r, y :: s => by
    rw [dfL_cons]
    have i1 := dfL_len f (x :: r) s
    have i2 := dfL_len f r (y :: s)
    have i3 := dfL_len f r s
    split
    · rw [List.length_cons]; omega
    · split
      · rw [List.length_cons]; omega
      · rw [chE_two]
        split
        · rw [List.nil_append]; omega
        · rw [List.singleton_append, List.length_cons]; omega
end Go.Proofs.Ytjhnbopejnpbeaa
