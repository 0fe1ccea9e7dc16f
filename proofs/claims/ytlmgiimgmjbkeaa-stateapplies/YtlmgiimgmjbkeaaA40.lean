/-
  What leads from some entries to others leads there, as lists; no conditions.
  Nothing leads from entries to themselves, and only there; Diff's answer as a merge of two lists; no conditions.
  The keys of what leads from some entries to others rise; no conditions.
  What is so while state.Apply goes through the keys; no conditions.
  What changes lead to, step by step; no conditions.
-/
import Derived.Test.YtlmgiimgmjbkeaaA39
import Derived.Test.YtlmgiimgmjbkeaaA35
set_option linter.unusedVariables false
set_option linter.unusedSimpArgs false
namespace Go.Proofs.Ytlmgiimgmjbkeaa
open Go.RowKit
set_option linter.unusedVariables false
set_option linter.unusedSimpArgs false

def chE : Option En × Option En → List Ch
  | (some x, none) => [(x.1, true, vl0)]
  | (none, some y) => [(y.1, false, y.2)]
  | (some x, some y) => if ord0 x.2 y.2 = 0 then [] else [(y.1, false, y.2)]
  | (none, none) => []

theorem chE_two (x y : En) : chE (some x, some y) = if ord0 x.2 y.2 = 0 then [] else [(y.1, false, y.2)] := rfl

/-- what leads from some entries to others -/
def dfL (f : Nat) (a b : List En) : List Ch := (mg (fun e : En => e.1) (fun e : En => e.1) f a b).flatMap chE

/-- what stands under a key behind the changes -/
def outA : Option En × Option Ch → List En
  | (some x, none) => [x]
  | (_, some (k, g, v)) => if g then [] else [(k, v)]
  | (none, none) => []

/-- does each lead to something else? -/
def leadE : Option En × Option Ch → Bool
  | (some x, some (k, g, v)) => leadsB true x.2 g true v
  | (none, some (k, g, v)) => leadsB false vl0 g true v
  | _ => true

def apL (f : Nat) (a : List En) (c : List Ch) : List En := (mg (fun e : En => e.1) (fun e : Ch => e.1) f a c).flatMap outA
def apB (f : Nat) (a : List En) (c : List Ch) : Bool := (mg (fun e : En => e.1) (fun e : Ch => e.1) f a c).all leadE

/-- keys rise, all behind k -/
def upE (k : Option ByteArray) : List En → Prop
  | [] => True
  | x :: r => (∀ q, k = some q → ltK q x.1 = true) ∧ upE (some x.1) r

theorem upE_all {k : ByteArray} : ∀ {a : List En}, upE (some k) a → ∀ x ∈ a, ltK k x.1 = true
  | [], _, x, hx => by cases hx
  | y :: r, h, x, hx => by
    have h1 := h.1 k rfl
    rcases List.mem_cons.1 hx with rfl | hx
    · exact h1
    · exact ltK_tr h1 (upE_all h.2 x hx)

theorem upE_weak {k : Option ByteArray} {a : List En} (h : upE k a) : upE none a := by
  cases a with
  | nil => trivial
  | cons x r => exact ⟨(fun q hq => by cases hq), h.2⟩

theorem upE_low {k : Option ByteArray} {q : ByteArray} {a : List En} (h : upE k a) (hq : ∀ x ∈ a, ltK q x.1 = true) : upE (some q) a := by
  cases a with
  | nil => trivial
  | cons x r => exact ⟨(fun p hp => by cases hp; exact hq x List.mem_cons_self), h.2⟩

theorem dfL_cons (f : Nat) (x : En) (r : List En) (y : En) (s : List En) : dfL (f + 1) (x :: r) (y :: s) = if ltK y.1 x.1 then (y.1, false, y.2) :: dfL f (x :: r) s else if ltK x.1 y.1 then (x.1, true, vl0) :: dfL f r (y :: s) else chE (some x, some y) ++ dfL f r s := by
  unfold dfL
  rw [mg]
  split
  · rw [List.flatMap_cons]; rfl
  · split
    · rw [List.flatMap_cons]; rfl
    · rw [List.flatMap_cons]
theorem dfL_left (f : Nat) (x : En) (r : List En) : dfL (f + 1) (x :: r) [] = (x.1, true, vl0) :: dfL f r [] := by unfold dfL; rw [mg, List.flatMap_cons]; rfl
theorem dfL_right (f : Nat) (y : En) (s : List En) : dfL (f + 1) [] (y :: s) = (y.1, false, y.2) :: dfL f [] s := by unfold dfL; rw [mg, List.flatMap_cons]; rfl
theorem dfL_nil (f : Nat) : dfL f [] [] = [] := by cases f <;> rfl

/-- changes stand behind what the entries stand behind -/
theorem dfL_gt (k : ByteArray) : ∀ (f : Nat) (a b : List En), (∀ x ∈ a, ltK k x.1 = true) → (∀ y ∈ b, ltK k y.1 = true) → ∀ c ∈ dfL f a b, ltK k c.1 = true
  | 0, a, b, _, _, c, hc => by simp [dfL, mg] at hc
  | f + 1, [], [], _, _, c, hc => by rw [dfL_nil] at hc; cases hc
  | f + 1, x :: r, [], ha, hb, c, hc => by
    rw [dfL_left] at hc
    rcases List.mem_cons.1 hc with rfl | hc
    · exact ha x List.mem_cons_self
    · exact dfL_gt k f r [] (fun z hz => ha z (List.mem_cons_of_mem _ hz)) hb c hc
  | f + 1, [], y :: s, ha, hb, c, hc => by
    rw [dfL_right] at hc
    rcases List.mem_cons.1 hc with rfl | hc
    · exact hb y List.mem_cons_self
    · exact dfL_gt k f [] s ha (fun z hz => hb z (List.mem_cons_of_mem _ hz)) c hc
  | f + 1, x :: r, y :: s, ha, hb, c, hc => by
    rw [dfL_cons] at hc
    split at hc
    · rcases List.mem_cons.1 hc with rfl | hc
      · exact hb y List.mem_cons_self
      · exact dfL_gt k f (x :: r) s ha (fun z hz => hb z (List.mem_cons_of_mem _ hz)) c hc
    · split at hc
      · rcases List.mem_cons.1 hc with rfl | hc
        · exact ha x List.mem_cons_self
        · exact dfL_gt k f r (y :: s) (fun z hz => ha z (List.mem_cons_of_mem _ hz)) hb c hc
      · rcases List.mem_append.1 hc with hc | hc
        · rw [chE_two] at hc
          split at hc
          · cases hc
          · rw [List.mem_singleton] at hc
            subst hc
            exact hb y List.mem_cons_self
        · exact dfL_gt k f r s (fun z hz => ha z (List.mem_cons_of_mem _ hz)) (fun z hz => hb z (List.mem_cons_of_mem _ hz)) c hc

theorem e0sM : (⟨#[]⟩ : ByteArray).size = 0 := rfl
theorem blank0 : blankB vl0 = true := by
  simp [blankB, vl0, rightB, okB, okL, formB, formM, wt, wtL, keysW, e0sM]

theorem ap_low (g : Nat) (x : En) (r : List En) (c : List Ch) (h : ∀ d ∈ c, ltK x.1 d.1 = true) : apL (g + 1) (x :: r) c = x :: apL g r c ∧ apB (g + 1) (x :: r) c = apB g r c := by
  unfold apL apB
  cases c with
  | nil => rw [mg, List.flatMap_cons, List.all_cons]; exact ⟨rfl, rfl⟩
  | cons d s =>
    have h1 := h d List.mem_cons_self
    have h2 := ltK_asym h1
    rw [mg, if_neg (by rw [h2]; simp), if_pos h1, List.flatMap_cons, List.all_cons]
    exact ⟨rfl, rfl⟩

/-- what leads there leads there -/
theorem ap_df : ∀ (f g : Nat) (a b : List En), upE none a → upE none b → (∀ x ∈ a, rightB x.2 = true) → (∀ y ∈ b, rightB y.2 = true) → a.length + b.length ≤ f → a.length + (dfL f a b).length ≤ g → apL g a (dfL f a b) = b ∧ apB g a (dfL f a b) = true
  | f, g, [], [], _, _, _, _, _, _ => by
    rw [dfL_nil]
    cases g <;> exact ⟨rfl, rfl⟩
  | 0, g, x :: r, b, _, _, _, _, hf, _ => by simp at hf
  | 0, g, [], y :: s, _, _, _, _, hf, _ => by simp at hf
  | f + 1, g, x :: r, [], ha, hb, ra, rb, hf, hg => by
    rw [dfL_left] at hg ⊢
    obtain ⟨g', rfl⟩ : ∃ g', g = g' + 1 := ⟨g - 1, by simp at hg; omega⟩
    have ih := ap_df f g' r [] (upE_weak ha.2) hb (fun z hz => ra z (List.mem_cons_of_mem _ hz)) rb (by simp at hf ⊢; omega) (by simp at hg ⊢; omega)
    unfold apL apB at ih ⊢
    rw [mg, if_neg (by rw [ltK_irr]; simp), if_neg (by rw [ltK_irr]; simp), List.flatMap_cons, List.all_cons, ih.1, ih.2]
    exact ⟨rfl, by simp [leadE, leadsB, blank0]⟩
  | f + 1, g, [], y :: s, ha, hb, ra, rb, hf, hg => by
    rw [dfL_right] at hg ⊢
    obtain ⟨g', rfl⟩ : ∃ g', g = g' + 1 := ⟨g - 1, by simp at hg; omega⟩
    have ih := ap_df f g' [] s ha (upE_weak hb.2) ra (fun z hz => rb z (List.mem_cons_of_mem _ hz)) (by simp at hf ⊢; omega) (by simp at hg ⊢; omega)
    unfold apL apB at ih ⊢
    rw [mg, List.flatMap_cons, List.all_cons, ih.1, ih.2]
    exact ⟨rfl, by simp [leadE, leadsB]⟩
  | f + 1, g, x :: r, y :: s, ha, hb, ra, rb, hf, hg => by
    rw [dfL_cons] at hg ⊢
    cases h1 : ltK y.1 x.1 with
    | true =>
      rw [h1, if_pos rfl] at hg
      rw [if_pos rfl]
      obtain ⟨g', rfl⟩ : ∃ g', g = g' + 1 := ⟨g - 1, by simp at hg; omega⟩
      have ih := ap_df f g' (x :: r) s ha (upE_weak hb.2) ra (fun z hz => rb z (List.mem_cons_of_mem _ hz)) (by simp at hf ⊢; omega) (by simp at hg ⊢; omega)
      unfold apL apB at ih ⊢
      rw [mg, if_pos h1, List.flatMap_cons, List.all_cons, ih.1, ih.2]
      exact ⟨rfl, by simp [leadE, leadsB]⟩
    | false =>
      rw [h1, if_neg (by simp)] at hg
      rw [if_neg (by simp)]
      cases h2 : ltK x.1 y.1 with
      | true =>
        rw [h2, if_pos rfl] at hg
        rw [if_pos rfl]
        obtain ⟨g', rfl⟩ : ∃ g', g = g' + 1 := ⟨g - 1, by simp at hg; omega⟩
        have ih := ap_df f g' r (y :: s) (upE_weak ha.2) hb (fun z hz => ra z (List.mem_cons_of_mem _ hz)) rb (by simp at hf ⊢; omega) (by simp at hg ⊢; omega)
        unfold apL apB at ih ⊢
        rw [mg, if_neg (by rw [ltK_irr]; simp), if_neg (by rw [ltK_irr]; simp), List.flatMap_cons, List.all_cons, ih.1, ih.2]
        exact ⟨rfl, by simp [leadE, leadsB, blank0]⟩
      | false =>
        rw [h2, if_neg (by simp)] at hg
        rw [if_neg (by simp)]
        have hk : x.1 = y.1 := ltK_same h2 h1
        obtain ⟨g', rfl⟩ : ∃ g', g = g' + 1 := ⟨g - 1, by simp at hg; omega⟩
        by_cases hz : ord0 x.2 y.2 = 0
        · have hv := (ord0_zero (ra x List.mem_cons_self) (rb y List.mem_cons_self)).1 hz
          have hxy : x = y := Prod.ext hk hv
          have hc : chE (some x, some y) = [] := by simp [chE, hz]
          rw [hc, List.nil_append] at hg ⊢
          have ih := ap_df f g' r s (upE_weak ha.2) (upE_weak hb.2) (fun z hz => ra z (List.mem_cons_of_mem _ hz)) (fun z hz => rb z (List.mem_cons_of_mem _ hz)) (by simp at hf ⊢; omega) (by simp at hg ⊢; omega)
          have hlow := ap_low g' x r (dfL f r s) (dfL_gt x.1 f r s (upE_all ha.2) (by rw [hk]; exact upE_all hb.2))
          rw [hlow.1, hlow.2, ih.1, ih.2, hxy]
          exact ⟨rfl, rfl⟩
        · have hc : chE (some x, some y) = [(y.1, false, y.2)] := by simp [chE, hz]
          rw [hc, List.singleton_append] at hg ⊢
          have ih := ap_df f g' r s (upE_weak ha.2) (upE_weak hb.2) (fun z hz => ra z (List.mem_cons_of_mem _ hz)) (fun z hz => rb z (List.mem_cons_of_mem _ hz)) (by simp at hf ⊢; omega) (by simp at hg ⊢; omega)
          unfold apL apB at ih ⊢
          rw [mg, if_neg (by dsimp only; rw [h1]; simp), if_neg (by dsimp only; rw [h2]; simp), List.flatMap_cons, List.all_cons, ih.1, ih.2]
          exact ⟨rfl, by simp [leadE, leadsB, hz]⟩
end Go.Proofs.Ytlmgiimgmjbkeaa

namespace Go.Proofs.Ytlmgiimgmjbkeaa
open Go.RowKit
set_option linter.unusedVariables false
set_option linter.unusedSimpArgs false

theorem dfL_self : ∀ (f : Nat) (a : List En), dfL f a a = []
  | f, [] => dfL_nil f
  | 0, x :: r => rfl
  | f + 1, x :: r => by
    rw [dfL_cons, if_neg (by rw [ltK_irr]; simp), if_neg (by rw [ltK_irr]; simp), chE_two, if_pos (ord0_self x.2), dfL_self f r]
    rfl

theorem dfL_none : ∀ (f : Nat) (a b : List En), (∀ x ∈ a, rightB x.2 = true) → (∀ y ∈ b, rightB y.2 = true) → a.length + b.length ≤ f → dfL f a b = [] → a = b
  | f, [], [], _, _, _, _ => rfl
  | 0, x :: r, b, _, _, hf, _ => by simp at hf
  | 0, [], y :: s, _, _, hf, _ => by simp at hf
  | f + 1, x :: r, [], _, _, _, h => by rw [dfL_left] at h; cases h
  | f + 1, [], y :: s, _, _, _, h => by rw [dfL_right] at h; cases h
  | f + 1, x :: r, y :: s, ra, rb, hf, h => by
    rw [dfL_cons] at h
    cases h1 : ltK y.1 x.1 with
    | true => rw [h1, if_pos rfl] at h; cases h
    | false =>
      rw [h1, if_neg (by simp)] at h
      cases h2 : ltK x.1 y.1 with
      | true => rw [h2, if_pos rfl] at h; cases h
      | false =>
        rw [h2, if_neg (by simp), List.append_eq_nil_iff] at h
        have hz : ord0 x.2 y.2 = 0 := by
          by_cases hz : ord0 x.2 y.2 = 0
          · exact hz
          · have := h.1
            rw [chE_two, if_neg hz] at this
            cases this
        have hv := (ord0_zero (ra x List.mem_cons_self) (rb y List.mem_cons_self)).1 hz
        have hxy : x = y := Prod.ext (ltK_same h2 h1) hv
        rw [hxy, dfL_none f r s (fun z hz => ra z (List.mem_cons_of_mem _ hz)) (fun z hz => rb z (List.mem_cons_of_mem _ hz)) (by simp at hf; omega) h.2]

theorem chI_E (es fs : List En) (x : Option Nat × Option Nat) (h1 : ∀ a, x.1 = some a → a < es.length) (h2 : ∀ b, x.2 = some b → b < fs.length) : chI es fs x = chE (x.1.bind (fun a => es[a]?), x.2.bind (fun b => fs[b]?)) := by
  obtain ⟨oa, ob⟩ := x
  dsimp only at h1 h2 ⊢
  cases oa with
  | none =>
    cases ob with
    | none => rfl
    | some j =>
      have hj := List.getElem?_eq_getElem (h2 j rfl)
      simp [chI, hj, chE]
  | some i =>
    have hi := List.getElem?_eq_getElem (h1 i rfl)
    cases ob with
    | none => simp [chI, hi, chE]
    | some j =>
      have hj := List.getElem?_eq_getElem (h2 j rfl)
      simp [chI, hi, hj, chE]

theorem flatMap_same {α β : Type} {f g : α → List β} : ∀ {l : List α}, (∀ x ∈ l, f x = g x) → l.flatMap f = l.flatMap g
  | [], _ => rfl
  | x :: r, h => by rw [List.flatMap_cons, List.flatMap_cons, h x List.mem_cons_self, flatMap_same (fun z hz => h z (List.mem_cons_of_mem _ hz))]

theorem diffL_df (es fs : List En) (h : diffB es fs = true) : diffL es fs = dfL (es.length + fs.length) es fs := by
  unfold diffL dfL
  rw [if_pos h]
  have e := sdN_mg (fun e : En => e.1) (fun e : En => e.1) es fs (es.length + fs.length) 0 0
  rw [List.drop_zero, List.drop_zero] at e
  rw [← e, List.flatMap_map]
  refine flatMap_same (fun x hx => ?_)
  obtain ⟨h1, h2⟩ := sdN_mem _ _ _ _ _ x hx
  exact chI_E es fs x (fun a ha => by have := h1 a ha; simpa [keysE] using this) (fun b hb => by have := h2 b hb; simpa [keysE] using this)

theorem steps_up : ∀ (l : List En), stepsE (keysE l) = true → upE none l
  | [], _ => trivial
  | [x], _ => ⟨(fun q hq => by cases hq), trivial⟩
  | x :: y :: r, h => by
    have h' : (Op.bytesLess x.1.toList y.1.toList && stepsE (keysE (y :: r))) = true := h
    rw [Bool.and_eq_true] at h'
    have ih := steps_up (y :: r) h'.2
    exact ⟨(fun q hq => by cases hq), ⟨(fun q hq => by cases hq; exact h'.1), ih.2⟩⟩

theorem rightE_up {l : List En} (h : rightE l = true) : upE none l ∧ ∀ x ∈ l, rightB x.2 = true := by
  unfold rightE at h
  simp only [Bool.and_eq_true, decide_eq_true_eq, List.all_eq_true] at h
  refine ⟨steps_up l h.1.1.2, fun x hx => ?_⟩
  have := h.1.2 x hx
  unfold entB at this
  simp only [Bool.and_eq_true] at this
  exact this.2

/-- the three promises, of right entries -/
theorem leads_right (es fs : List En) (h : rightE es = true) (h' : rightE fs = true) : (∀ g, es.length + (diffL es fs).length ≤ g → apL g es (diffL es fs) = fs ∧ apB g es (diffL es fs) = true) ∧ diffL es es = [] ∧ (diffL es fs = [] ↔ es = fs) := by
  have hd : diffB es fs = true := by unfold diffB; rw [h, h']; rfl
  have hd' : diffB es es = true := by unfold diffB; rw [h]; rfl
  obtain ⟨u1, r1⟩ := rightE_up h
  obtain ⟨u2, r2⟩ := rightE_up h'
  rw [diffL_df es fs hd, diffL_df es es hd']
  refine ⟨fun g hg => ap_df _ g es fs u1 u2 r1 r2 (Nat.le_refl _) hg, dfL_self _ _, fun e => dfL_none _ es fs r1 r2 (Nat.le_refl _) e, fun e => ?_⟩
  subst e
  exact dfL_self _ _
end Go.Proofs.Ytlmgiimgmjbkeaa

namespace Go.Proofs.Ytlmgiimgmjbkeaa
open Go.RowKit
set_option linter.unusedVariables false
set_option linter.unusedSimpArgs false

theorem steps_cons (k : ByteArray) (l : List ByteArray) (h : ∀ q ∈ l, ltK k q = true) (hl : stepsE l = true) : stepsE (k :: l) = true := by
  cases l with
  | nil => rfl
  | cons q r =>
    have h1 : Op.bytesLess k.toList q.toList = true := h q List.mem_cons_self
    rw [stepsE, h1, hl]
    rfl

theorem gt_cons {k : ByteArray} {x : En} {r : List En} (h : ltK k x.1 = true) (hu : upE (some x.1) r) : ∀ z ∈ x :: r, ltK k z.1 = true := by
  intro z hz
  rcases List.mem_cons.1 hz with rfl | hz
  · exact h
  · exact ltK_tr h (upE_all hu z hz)

theorem dfL_steps : ∀ (f : Nat) (a b : List En), upE none a → upE none b → stepsE (keysH (dfL f a b)) = true
  | f, [], [], _, _ => by rw [dfL_nil]; rfl
  | 0, x :: r, b, _, _ => rfl
  | 0, [], y :: s, _, _ => rfl
  | f + 1, x :: r, [], ha, hb => by
    rw [dfL_left]
    refine steps_cons _ _ (fun q hq => ?_) (dfL_steps f r [] (upE_weak ha.2) hb)
    obtain ⟨c, hc, rfl⟩ := List.mem_map.1 hq
    exact dfL_gt _ f r [] (upE_all ha.2) (fun z hz => by cases hz) c hc
  | f + 1, [], y :: s, ha, hb => by
    rw [dfL_right]
    refine steps_cons _ _ (fun q hq => ?_) (dfL_steps f [] s ha (upE_weak hb.2))
    obtain ⟨c, hc, rfl⟩ := List.mem_map.1 hq
    exact dfL_gt _ f [] s (fun z hz => by cases hz) (upE_all hb.2) c hc
  | f + 1, x :: r, y :: s, ha, hb => by
    rw [dfL_cons]
    cases h1 : ltK y.1 x.1 with
    | true =>
      rw [if_pos rfl]
      refine steps_cons _ _ (fun q hq => ?_) (dfL_steps f (x :: r) s ha (upE_weak hb.2))
      obtain ⟨c, hc, rfl⟩ := List.mem_map.1 hq
      exact dfL_gt _ f (x :: r) s (gt_cons h1 ha.2) (upE_all hb.2) c hc
    | false =>
      rw [if_neg (by simp)]
      cases h2 : ltK x.1 y.1 with
      | true =>
        rw [if_pos rfl]
        refine steps_cons _ _ (fun q hq => ?_) (dfL_steps f r (y :: s) (upE_weak ha.2) hb)
        obtain ⟨c, hc, rfl⟩ := List.mem_map.1 hq
        exact dfL_gt _ f r (y :: s) (upE_all ha.2) (gt_cons h2 hb.2) c hc
      | false =>
        rw [if_neg (by simp), chE_two]
        have ih := dfL_steps f r s (upE_weak ha.2) (upE_weak hb.2)
        split
        · exact ih
        · refine steps_cons _ _ (fun q hq => ?_) ih
          obtain ⟨c, hc, rfl⟩ := List.mem_map.1 hq
          have hk := ltK_same h2 h1
          exact dfL_gt _ f r s (by rw [← hk]; exact upE_all ha.2) (upE_all hb.2) c hc

theorem dfL_len : ∀ (f : Nat) (a b : List En), (dfL f a b).length ≤ f
  | 0, a, b => by simp [dfL, mg]
  | f + 1, [], [] => by rw [dfL_nil]; simp
  | f + 1, x :: r, [] => by have := dfL_len f r []; rw [dfL_left, List.length_cons]; omega
  | f + 1, [], y :: s => by have := dfL_len f [] s; rw [dfL_right, List.length_cons]; omega
  | f + 1, x :: r, y :: s => by
    rw [dfL_cons]
    have i1 := dfL_len f (x :: r) s
    have i2 := dfL_len f r (y :: s)
    have i3 := dfL_len f r s
    split
    · rw [List.length_cons]; omega
    · split
      · rw [List.length_cons]; omega
      · rw [chE_two]
        split
        · rw [List.nil_append]; omega
        · rw [List.singleton_append, List.length_cons]; omega
end Go.Proofs.Ytlmgiimgmjbkeaa

namespace Go.Proofs.Ytlmgiimgmjbkeaa
open Go.RowKit Go.Shelf
set_option linter.unusedVariables false
set_option linter.unusedSimpArgs false

def lk {α : Type} (l : List α) (o : Option Nat) : Option α := o.bind (fun a => l[a]?)
def outI (es : List En) (cs : List Ch) (x : Option Nat × Option Nat) : List En := outA (lk es x.1, lk cs x.2)
def leadI (es : List En) (cs : List Ch) (x : Option Nat × Option Nat) : Bool := leadE (lk es x.1, lk cs x.2)

theorem sdN_out (es : List En) (cs : List Ch) (f : Nat) : (sdN (keysE es) (keysH cs) f 0 0).flatMap (outI es cs) = apL f es cs := by
  have h := sdN_mg (fun e : En => e.1) (fun e : Ch => e.1) es cs f 0 0
  unfold apL
  rw [show mg (fun e : En => e.1) (fun e : Ch => e.1) f es cs = mg (fun e : En => e.1) (fun e : Ch => e.1) f (es.drop 0) (cs.drop 0) from rfl, ← h, List.flatMap_map]
  rfl

theorem sdN_lead (es : List En) (cs : List Ch) (f : Nat) : (sdN (keysE es) (keysH cs) f 0 0).all (leadI es cs) = apB f es cs := by
  have h := sdN_mg (fun e : En => e.1) (fun e : Ch => e.1) es cs f 0 0
  unfold apB
  rw [show mg (fun e : En => e.1) (fun e : Ch => e.1) f es cs = mg (fun e : En => e.1) (fun e : Ch => e.1) f (es.drop 0) (cs.drop 0) from rfl, ← h, List.all_map]
  rfl

/-- what is so of the entries while Apply goes through the keys -/
structure ApI (w w7 W : World) (go g4 g5 B : Nat) (es : List En) (cs : List Ch) (xs : List (Option Nat × Option Nat)) : Prop where
  mk' ::
  ex : ∃ sv ps, W.heap[go]? = some (.cells #[sv] 22 (0, 0)) ∧ EnP W w7.heap.size B sv ps ∧ ps.map enOf = xs.flatMap (outI es cs) ∧ ps.length ≤ xs.length
  r4 : W.heap[g4]? = some (.cells #[.slice none 0 0] 22 (0, 0))
  r5 : W.heap[g5]? = some (.cells #[.int .i64 0] 26 (0, 0))
  lead : xs.all (leadI es cs) = true
  below : Below w.heap.size w W
  size : w7.heap.size ≤ W.heap.size

theorem ApI.grown {w w7 W W' : World} {go g4 g5 B : Nat} {es : List En} {cs : List Ch} {xs : List (Option Nat × Option Nat)} {row : Option Nat} (h : ApI w w7 W go g4 g5 B es cs xs) (hw : w.heap.size ≤ w7.heap.size) (hg : W.grownBy W' row) (hr : ∀ r, row = some r → w7.heap.size ≤ r ∧ ∃ o : Obj, W.heap[r]? = some o ∧ o.isCells = false) : ApI w w7 W' go g4 g5 B es cs xs := by
  obtain ⟨⟨sv, ps, h1, h2, h3, h4⟩, r4, r5, hl, h5, h6⟩ := h
  have hne : ∀ b, isC W b → some b ≠ row := fun b hb e => by
    obtain ⟨_, o, ho, hc⟩ := hr b e.symm
    obtain ⟨c, T, f, hh⟩ := hb
    rw [hh] at ho
    cases ho
    cases hc
  have hk : ∀ (b : Nat) (c : Array Value) (T : TypeId) (f : Nat × Nat), W.heap[b]? = some (.cells c T f) → W'.heap[b]? = some (.cells c T f) := fun b c T f hb => (hg.block b (Array.getElem?_eq_some_iff.1 hb).1 (hne _ ⟨_, _, _, hb⟩)).trans hb
  refine ⟨⟨sv, ps, hk _ _ _ _ h1, h2.to hg.size (fun b hb => ?_) (fun b hb => ?_), h3, h4⟩, hk _ _ _ _ r4, hk _ _ _ _ r5, hl, h5.grown hg (by have := h5.size; omega) (fun k hk => by have a1 := (hr k hk).1; omega), by have := hg.size; omega⟩
  · obtain ⟨c, hc⟩ := row_ty h2.row hb
    exact hg.block b (Array.getElem?_eq_some_iff.1 hc).1 (hne _ ⟨_, _, _, hc⟩)
  · have h7 := h2.top
    have h8 := h2.low
    exact hg.block b (by omega) (fun e => by have := (hr b e.symm).1; omega)

theorem ApI.later {w w7 W W' : World} {go g4 g5 B : Nat} {es : List En} {cs : List Ch} {xs : List (Option Nat × Option Nat)} (h : ApI w w7 W go g4 g5 B es cs xs) (hb : Below W.heap.size W W') : ApI w w7 W' go g4 g5 B es cs xs := by
  obtain ⟨⟨sv, ps, h1, h2, h3, h4⟩, r4, r5, hl, h5, h6⟩ := h
  have hk : ∀ (b : Nat) (c : Array Value) (T : TypeId) (f : Nat × Nat), W.heap[b]? = some (.cells c T f) → W'.heap[b]? = some (.cells c T f) := fun b c T f h => (hb.block b (Array.getElem?_eq_some_iff.1 h).1).trans h
  refine ⟨⟨sv, ps, hk _ _ _ _ h1, h2.to hb.size (fun b hb' => ?_) (fun b hb' => ?_), h3, h4⟩, hk _ _ _ _ r4, hk _ _ _ _ r5, hl, h5.trans (hb.mono h5.size), Nat.le_trans h6 hb.size⟩
  · obtain ⟨c, hc⟩ := row_ty h2.row hb'
    exact hb.block b (Array.getElem?_eq_some_iff.1 hc).1
  · have h7 := h2.top
    exact hb.block b (by omega)

/-- one more entry -/
theorem ApI.push {w w7 W W4 W5 : World} {go g4 g5 B q g cap sc : Nat} {so : Option Addr} {es : List En} {cs : List Ch} {xs : List (Option Nat × Option Nat)} {x : Option Nat × Option Nat} {ps : List Eo} {k : ByteArray} {c : Th5} {y : Vl}
    (h1 : W.heap[go]? = some (.cells #[.slice so q sc] 22 (0, 0))) (h2 : EnP W w7.heap.size B (.slice so q sc) ps) (h3 : ps.map enOf = xs.flatMap (outI es cs)) (h4 : ps.length ≤ xs.length) (r4 : W.heap[g4]? = some (.cells #[.slice none 0 0] 22 (0, 0))) (r5 : W.heap[g5]? = some (.cells #[.int .i64 0] 26 (0, 0))) (hl : xs.all (leadI es cs) = true) (h5 : Below w.heap.size w W) (h6 : w7.heap.size ≤ W.heap.size) (hq : ps.length = q) (hw : w.heap.size ≤ go) (hw7 : go < w7.heap.size ∧ g4 < w7.heap.size ∧ g5 < w7.heap.size) (hne : g4 ≠ go ∧ g5 ≠ go) (hBg : B ≤ w.heap.size) (hx : outI es cs x = [(k, y)]) (hlx : leadI es cs x = true)
    (b4 : Below W.heap.size W W4) (q4 : IsV W B y (.agg (th5 c).toArray)) (o5 : W5.ownsRow w7.heap.size 48 6 (.slice (some ⟨g, 0, none⟩) (q + 1) cap) (q + 1) (cellsN ps ++ (.string k :: th5 c))) (g5' : W4.grownBy W5 (Value.slice so q sc).ownBlock) :
    KeepsFrom w7.heap.size W (W5.setCell ⟨go, 0, none⟩ (.slice (some ⟨g, 0, none⟩) (q + 1) cap)) ∧ KeepS (fun b => b < w7.heap.size ∧ b ≠ go) (fun T => T = 55 ∨ T = 68) W (W5.setCell ⟨go, 0, none⟩ (.slice (some ⟨g, 0, none⟩) (q + 1) cap)) ∧ ApI w w7 (W5.setCell ⟨go, 0, none⟩ (.slice (some ⟨g, 0, none⟩) (q + 1) cap)) go g4 g5 B es cs (xs ++ [x]) := by
  have gw1 : go < W.heap.size := (Array.getElem?_eq_some_iff.1 h1).1
  have h24 : EnP W4 w7.heap.size B (.slice so q sc) ps := h2.to b4.size (fun b hb => by
    obtain ⟨c, hc⟩ := row_ty h2.row hb
    exact b4.block b (Array.getElem?_eq_some_iff.1 hc).1) (fun b hb => by have := h2.top; exact b4.block b (by omega))
  have gn : ∀ b, b < w7.heap.size → some b ≠ (Value.slice so q sc).ownBlock := fun b hb e => by have := (h2.row.lt b e.symm).1; omega
  have hpush := h24.push (k := k) (c := c) (y := y) hq (q4.to (fun b hb => by have := h2.top; exact b4.block b (by omega)) (fun b hb => hb)) o5 g5'
  have e1 : (W5.setCell ⟨go, 0, none⟩ (.slice (some ⟨g, 0, none⟩) (q + 1) cap)).heap[go]? = some (.cells #[.slice (some ⟨g, 0, none⟩) (q + 1) cap] 22 (0, 0)) := heap_setCell_same W5 go 0 _ _ _ ((g5'.block go (Nat.lt_of_lt_of_le gw1 b4.size) (gn _ hw7.1)).trans ((b4.block go gw1).trans h1))
  have hoth : ∀ b, b ≠ go → (W5.setCell ⟨go, 0, none⟩ (.slice (some ⟨g, 0, none⟩) (q + 1) cap)).heap[b]? = W5.heap[b]? := fun b hb => heap_setCell_other _ _ _ _ hb
  have hfr : Fr (fun j => j = go ∨ (Value.slice so q sc).ownBlock = some j) W (W5.setCell ⟨go, 0, none⟩ (.slice (some ⟨g, 0, none⟩) (q + 1) cap)) := (Fr.of b4).trans (G' := fun j => j = go ∨ (Value.slice so q sc).ownBlock = some j) ⟨g5'.os, g5'.tape, g5'.output, by rw [sz_setCell]; exact g5'.size, fun j hj hnn => (hoth j (fun e => hnn (.inl e))).trans (g5'.block j hj (fun e => hnn (.inr e.symm)))⟩ (fun _ _ e => e)
  obtain ⟨W6, hW6⟩ : ∃ W6, W5.setCell ⟨go, 0, none⟩ (.slice (some ⟨g, 0, none⟩) (q + 1) cap) = W6 := ⟨_, rfl⟩
  have hsz : W5.heap.size ≤ W6.heap.size := by rw [← hW6, sz_setCell]; exact Nat.le_refl _
  rw [hW6] at e1 hoth hfr ⊢
  have hkeep : ∀ b, b < w7.heap.size → b ≠ go → W6.heap[b]? = W.heap[b]? := fun b hb hn => hfr.block b (by omega) (fun e => by
    rcases e with e | e
    · exact hn e
    · exact gn b hb e.symm)
  refine ⟨⟨hfr.size, fun b o _ hb ho => (hfr.block b (Array.getElem?_eq_some_iff.1 hb).1 (fun e => ?_)).trans hb⟩, ⟨fun b hb => hkeep b hb.1 hb.2, fun b c' T f hT hb => (hfr.block b (Array.getElem?_eq_some_iff.1 hb).1 (fun e => ?_)).trans hb⟩, ⟨⟨_, _, e1, hpush.to hsz (fun b hb => hoth b (fun e => gn go hw7.1 (by
      subst e
      have := o5.lt b hb
      omega))) (fun b hb => hoth b (by omega)), by rw [List.map_append, h3, List.flatMap_append, List.flatMap_singleton, hx]; rfl, by simp; omega⟩, (hkeep _ hw7.2.1 hne.1).trans r4, (hkeep _ hw7.2.2 hne.2).trans r5, by rw [List.all_append, hl, List.all_cons, hlx]; rfl, h5.trans (hfr.below h5.size (fun j hj => ?_)), Nat.le_trans h6 hfr.size⟩⟩
  · rcases e with e | e
    · rw [e, h1] at hb
      cases hb
      cases ho
    · obtain ⟨c', hc⟩ := row_ty h2.row e
      rw [hc] at hb
      cases hb
      cases ho
  · rcases e with e | e
    · rw [e, h1] at hb
      simp only [Option.some.injEq, Obj.cells.injEq] at hb
      rcases hT with hT | hT <;> (subst hT; exact absurd hb.2.1 (by decide))
    · obtain ⟨c', hc⟩ := row_ty h2.row e
      rw [hc] at hb
      simp only [Option.some.injEq, Obj.cells.injEq] at hb
      rcases hT with hT | hT <;> (subst hT; exact absurd hb.2.1 (by decide))
  · rcases hj with hj | hj
    · omega
    · have h8 := (h2.row.lt j hj).1
      omega
end Go.Proofs.Ytlmgiimgmjbkeaa

namespace Go.Proofs.Ytlmgiimgmjbkeaa
open Go.RowKit
set_option linter.unusedVariables false
set_option linter.unusedSimpArgs false

theorem ap_cons (f : Nat) (x : En) (r : List En) (c : Ch) (s : List Ch) :
    apL (f + 1) (x :: r) (c :: s) = (if ltK c.1 x.1 then outA (none, some c) ++ apL f (x :: r) s else if ltK x.1 c.1 then x :: apL f r (c :: s) else outA (some x, some c) ++ apL f r s)
    ∧ apB (f + 1) (x :: r) (c :: s) = (if ltK c.1 x.1 then leadE (none, some c) && apB f (x :: r) s else if ltK x.1 c.1 then apB f r (c :: s) else leadE (some x, some c) && apB f r s) := by
  unfold apL apB
  rw [mg]
  split
  · rw [List.flatMap_cons, List.all_cons]
    exact ⟨rfl, rfl⟩
  · split
    · rw [List.flatMap_cons, List.all_cons]
      exact ⟨rfl, by simp [leadE]⟩
    · rw [List.flatMap_cons, List.all_cons]
      exact ⟨rfl, rfl⟩
theorem ap_right (f : Nat) (c : Ch) (s : List Ch) : apL (f + 1) [] (c :: s) = outA (none, some c) ++ apL f [] s ∧ apB (f + 1) [] (c :: s) = (leadE (none, some c) && apB f [] s) := by
  unfold apL apB
  rw [mg, List.flatMap_cons, List.all_cons]
  exact ⟨rfl, rfl⟩
theorem ap_left (f : Nat) (x : En) (r : List En) : apL (f + 1) (x :: r) [] = x :: apL f r [] ∧ apB (f + 1) (x :: r) [] = apB f r [] := by
  unfold apL apB
  rw [mg, List.flatMap_cons, List.all_cons]
  exact ⟨rfl, by simp [leadE]⟩
theorem ap_nil (f : Nat) : apL f [] [] = [] ∧ apB f [] [] = true := by
  cases f <;> exact ⟨rfl, rfl⟩
theorem ap_rest : ∀ (f : Nat) (a : List En), a.length ≤ f → apL f a [] = a ∧ apB f a [] = true
  | f, [], _ => ap_nil f
  | 0, x :: r, h => by simp at h
  | f + 1, x :: r, h => by
    obtain ⟨h1, h2⟩ := ap_left f x r
    obtain ⟨h3, h4⟩ := ap_rest f r (by simp at h; omega)
    rw [h1, h2, h3, h4]
    exact ⟨rfl, rfl⟩
theorem ap_more : ∀ (f : Nat) (a : List En) (c : List Ch), a.length + c.length ≤ f → apL (f + 1) a c = apL f a c ∧ apB (f + 1) a c = apB f a c
  | f, [], [], _ => by rw [(ap_nil _).1, (ap_nil _).2, (ap_nil _).1, (ap_nil _).2]; exact ⟨rfl, rfl⟩
  | 0, x :: r, c, h => by simp at h
  | 0, [], y :: s, h => by simp at h
  | f + 1, x :: r, [], h => by
    obtain ⟨h1, h2⟩ := ap_more f r [] (by simp at h ⊢; omega)
    rw [(ap_left _ _ _).1, (ap_left _ _ _).2, (ap_left _ _ _).1, (ap_left _ _ _).2, h1, h2]
    exact ⟨rfl, rfl⟩
  | f + 1, [], y :: s, h => by
    obtain ⟨h1, h2⟩ := ap_more f [] s (by simp at h ⊢; omega)
    rw [(ap_right _ _ _).1, (ap_right _ _ _).2, (ap_right _ _ _).1, (ap_right _ _ _).2, h1, h2]
    exact ⟨rfl, rfl⟩
  | f + 1, x :: r, y :: s, h => by
    simp only [List.length_cons] at h
    obtain ⟨h1, h2⟩ := ap_more f (x :: r) s (by simp only [List.length_cons]; omega)
    obtain ⟨h3, h4⟩ := ap_more f r (y :: s) (by simp only [List.length_cons]; omega)
    obtain ⟨h5, h6⟩ := ap_more f r s (by omega)
    rw [(ap_cons _ _ _ _ _).1, (ap_cons _ _ _ _ _).2, (ap_cons _ _ _ _ _).1, (ap_cons _ _ _ _ _).2, h1, h2, h3, h4, h5, h6]
    exact ⟨rfl, rfl⟩
end Go.Proofs.Ytlmgiimgmjbkeaa
