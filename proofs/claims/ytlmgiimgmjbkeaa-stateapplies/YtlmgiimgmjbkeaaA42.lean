/-
  The document's refusals of changes are the code's, as lists; no conditions.
-/
import Derived.Test.YtlmgiimgmjbkeaaA36
import Derived.Test.YtlmgiimgmjbkeaaA40
import Derived.Test.YtlmgiimgmjbkeaaA41
set_option linter.unusedVariables false
set_option linter.unusedSimpArgs false
namespace Go.Proofs.Ytlmgiimgmjbkeaa
open Go.RowKit
set_option linter.unusedVariables false
set_option linter.unusedSimpArgs false

def findE (es : List En) (k : ByteArray) : Option En := es.find? (fun e => decide (e.1 = k))

theorem ltK_ne {a b : ByteArray} (h : ltK a b = true) : a ≠ b := fun e => by
  rw [e, ltK_irr] at h
  cases h

theorem findE_skip {x : En} {r : List En} {k : ByteArray} (h : x.1 ≠ k) : findE (x :: r) k = findE r k := by
  unfold findE
  rw [List.find?_cons_of_neg (by simpa using h)]

theorem findE_here {x : En} {r : List En} {k : ByteArray} (h : x.1 = k) : findE (x :: r) k = some x := by
  unfold findE
  rw [List.find?_cons_of_pos (by simpa using h)]

theorem findE_none {es : List En} {k : ByteArray} (h : ∀ e ∈ es, ¬ e.1 = k) : findE es k = none := by
  unfold findE
  rw [List.find?_eq_none]
  intro e he
  simpa using h e he

theorem findE_at : ∀ (es : List En) (i : Nat) (s : ByteArray) (v : Vl), upE none es → es[i]? = some (s, v) → findE es s = some (s, v)
  | [], i, s, v, _, h => by simp at h
  | x :: r, 0, s, v, _, h => by
    simp at h
    subst h
    exact findE_here rfl
  | x :: r, i + 1, s, v, hu, h => by
    have h' : r[i]? = some (s, v) := by simpa using h
    rw [findE_skip (ltK_ne (upE_all hu.2 (s, v) (List.mem_of_getElem? h')))]
    exact findE_at r i s v (upE_weak hu.2) h'

theorem stepsE_all : ∀ (l : List ByteArray) (k : ByteArray), stepsE (k :: l) = true → (∀ q ∈ l, ltK k q = true) ∧ stepsE l = true
  | [], k, _ => ⟨fun q hq => (by cases hq), rfl⟩
  | a :: r, k, h => by
    rw [stepsE, Bool.and_eq_true] at h
    obtain ⟨h1, h2⟩ := h
    obtain ⟨h3, _⟩ := stepsE_all r a h2
    refine ⟨fun q hq => ?_, h2⟩
    rcases List.mem_cons.1 hq with rfl | hq
    · exact h1
    · exact ltK_tr h1 (h3 q hq)

theorem stepsH_all {c : Ch} {s : List Ch} (h : stepsE (keysH (c :: s)) = true) : (∀ d ∈ s, ltK c.1 d.1 = true) ∧ stepsE (keysH s) = true := by
  obtain ⟨h1, h2⟩ := stepsE_all (keysH s) c.1 h
  exact ⟨fun d hd => h1 d.1 (List.mem_map_of_mem (f := fun z : Ch => z.1) hd), h2⟩

theorem all_cong {α : Type} {p q : α → Bool} : ∀ {l : List α}, (∀ d ∈ l, p d = q d) → l.all p = l.all q
  | [], _ => rfl
  | a :: r, h => by
    rw [List.all_cons, List.all_cons, h a List.mem_cons_self, all_cong (fun d hd => h d (List.mem_cons_of_mem _ hd))]

theorem apB_all : ∀ (f : Nat) (a : List En) (c : List Ch), upE none a → stepsE (keysH c) = true → a.length + c.length ≤ f → apB f a c = c.all (fun d => leadE (findE a d.1, some d))
  | f, [], [], _, _, _ => (ap_nil f).2
  | 0, x :: r, c, _, _, h => by simp at h
  | 0, [], y :: s, _, _, h => by simp at h
  | f + 1, x :: r, [], _, _, h => (ap_rest (f + 1) (x :: r) (by simpa using h)).2
  | f + 1, [], y :: s, hu, hs, h => by
    rw [(ap_right f y s).2, apB_all f [] s hu (stepsH_all hs).2 (by simp at h ⊢; omega), List.all_cons]
    rfl
  | f + 1, x :: r, y :: s, hu, hs, h => by
    simp only [List.length_cons] at h
    obtain ⟨hsa, hs2⟩ := stepsH_all hs
    have hua := fun z hz => upE_all hu.2 z hz
    rw [(ap_cons f x r y s).2]
    cases h1 : ltK y.1 x.1 with
    | true =>
      rw [if_pos rfl, apB_all f (x :: r) s hu hs2 (by simp only [List.length_cons]; omega), List.all_cons]
      rw [show findE (x :: r) y.1 = none from findE_none (fun e he => by
        rcases List.mem_cons.1 he with rfl | he
        · exact fun e2 => ltK_ne h1 e2.symm
        · exact fun e2 => ltK_ne (ltK_tr h1 (hua e he)) e2.symm)]
    | false =>
      rw [if_neg (by simp)]
      cases h2 : ltK x.1 y.1 with
      | true =>
        rw [if_pos rfl, apB_all f r (y :: s) (upE_weak hu.2) hs (by simp only [List.length_cons]; omega)]
        refine all_cong (fun d hd => ?_)
        rw [findE_skip (x := x) (r := r) (k := d.1)]
        rcases List.mem_cons.1 hd with rfl | hd
        · exact ltK_ne h2
        · exact ltK_ne (ltK_tr h2 (hsa d hd))
      | false =>
        have he := ltK_same h2 h1
        rw [if_neg (by simp), apB_all f r s (upE_weak hu.2) hs2 (by omega), List.all_cons, findE_here he]
        congr 1
        refine all_cong (fun d hd => ?_)
        rw [findE_skip (x := x) (r := r) (k := d.1)]
        rw [he]
        exact ltK_ne (hsa d hd)

theorem outA_put (o : Option En) (k : ByteArray) (v : Vl) : outA (o, some (k, false, v)) = [(k, v)] := by cases o <;> rfl
theorem outA_gone (o : Option En) (k : ByteArray) (v : Vl) : outA (o, some (k, true, v)) = [] := by cases o <;> rfl

theorem put_in : ∀ (f : Nat) (a : List En) (c : List Ch), a.length + c.length ≤ f → ∀ (k : ByteArray) (v : Vl), (k, false, v) ∈ c → (k, v) ∈ apL f a c
  | f, a, [], _, k, v, hd => by cases hd
  | 0, a, y :: s, h, k, v, _ => by simp at h
  | f + 1, [], y :: s, h, k, v, hd => by
    rw [(ap_right f y s).1]
    rcases List.mem_cons.1 hd with rfl | hd
    · rw [outA_put]
      exact List.mem_append_left _ (List.mem_singleton.2 rfl)
    · exact List.mem_append_right _ (put_in f [] s (by simp at h ⊢; omega) k v hd)
  | f + 1, x :: r, y :: s, h, k, v, hd => by
    simp only [List.length_cons] at h
    rw [(ap_cons f x r y s).1]
    cases h1 : ltK y.1 x.1 with
    | true =>
      rw [if_pos rfl]
      rcases List.mem_cons.1 hd with rfl | hd
      · rw [outA_put]
        exact List.mem_append_left _ (List.mem_singleton.2 rfl)
      · exact List.mem_append_right _ (put_in f (x :: r) s (by simp only [List.length_cons]; omega) k v hd)
    | false =>
      rw [if_neg (by simp)]
      cases h2 : ltK x.1 y.1 with
      | true =>
        rw [if_pos rfl]
        exact List.mem_cons_of_mem _ (put_in f r (y :: s) (by simp only [List.length_cons]; omega) k v hd)
      | false =>
        rw [if_neg (by simp)]
        rcases List.mem_cons.1 hd with rfl | hd
        · rw [outA_put]
          exact List.mem_append_left _ (List.mem_singleton.2 rfl)
        · exact List.mem_append_right _ (put_in f r s (by omega) k v hd)

theorem lead_none {y : Ch} (h : leadE (none, some y) = true) : (outA (none, some y)).length = 1 := by
  obtain ⟨k, g, v⟩ := y
  cases g with
  | true => simp [leadE, leadsB] at h
  | false => rw [outA_put]; rfl

theorem ap_count : ∀ (f : Nat) (a : List En) (c : List Ch), a.length + c.length ≤ f → apB f a c = true → c.length ≤ (apL f a c).length + a.length
  | f, a, [], _, _ => by simp
  | 0, a, y :: s, h, _ => by simp at h
  | f + 1, [], y :: s, h, hb => by
    rw [(ap_right f y s).2, Bool.and_eq_true] at hb
    have ih := ap_count f [] s (by simp at h ⊢; omega) hb.2
    rw [(ap_right f y s).1, List.length_append, lead_none hb.1]
    simp at ih ⊢
    omega
  | f + 1, x :: r, y :: s, h, hb => by
    simp only [List.length_cons] at h
    rw [(ap_cons f x r y s).2] at hb
    rw [(ap_cons f x r y s).1]
    cases h1 : ltK y.1 x.1 with
    | true =>
      rw [h1, if_pos rfl, Bool.and_eq_true] at hb
      have ih := ap_count f (x :: r) s (by simp only [List.length_cons]; omega) hb.2
      rw [if_pos rfl, List.length_append, lead_none hb.1]
      simp only [List.length_cons] at ih ⊢
      omega
    | false =>
      rw [h1, if_neg (by simp)] at hb
      rw [if_neg (by simp)]
      cases h2 : ltK x.1 y.1 with
      | true =>
        rw [h2, if_pos rfl] at hb
        have ih := ap_count f r (y :: s) (by simp only [List.length_cons]; omega) hb
        rw [if_pos rfl]
        simp only [List.length_cons] at ih ⊢
        omega
      | false =>
        rw [h2, if_neg (by simp), Bool.and_eq_true] at hb
        have ih := ap_count f r s (by omega) hb.2
        rw [if_neg (by simp), List.length_append]
        simp only [List.length_cons] at ih ⊢
        omega

theorem right_up {es : List En} (h : rightE es = true) : upE none es := by
  unfold rightE at h
  simp only [Bool.and_eq_true] at h
  exact steps_up es h.1.1.2

theorem find_R {es : List En} {s : ByteArray} {r : Int} (hu : upE none es) (h : FindR es s r) : (∃ (i : Nat) (v : Vl), r = (i : Int) ∧ es[i]? = some (s, v) ∧ findE es s = some (s, v)) ∨ (r = -1 ∧ findE es s = none) := by
  rcases h with ⟨i, v, h1, h2⟩ | ⟨h1, h2⟩
  · exact Or.inl ⟨i, v, h1, h2, findE_at es i s v hu h2⟩
  · exact Or.inr ⟨h1, findE_none h2⟩

theorem fits_lead {es : List En} {s : ByteArray} {r : Int} (g : Bool) (v : Vl) (hu : upE none es) (h : FindR es s r) : fitsR es g v r = ((g || rightB v) && leadE (findE es s, some (s, g, v))) := by
  unfold fitsR
  rcases find_R hu h with ⟨i, x, rfl, h2, h3⟩ | ⟨rfl, h3⟩
  · rw [h3]
    cases g with
    | true =>
      rw [if_pos rfl, decide_eq_true (by omega), blk_blank]
      simp [leadE, leadsB]
    | false =>
      rw [if_neg (by decide), decide_eq_false (by omega), Int.toNat_natCast, h2]
      simp [leadE, leadsB]
  · rw [h3]
    cases g with
    | true => rw [if_pos rfl, decide_eq_false (by omega)]; simp [leadE, leadsB]
    | false => rw [if_neg (by decide), decide_eq_true (by omega)]; simp [leadE, leadsB]

theorem code_steps {es : List En} {cs : List Ch} (hR : rightE es = true) (h : stepsE (keysH cs) = false) : codeA es cs = 73 := by
  unfold codeA
  rw [hR, h]
  rfl

theorem code_lead {es : List En} {cs : List Ch} (hR : rightE es = true) (h : apB (es.length + cs.length) es cs = false) : codeA es cs = 73 := by
  unfold codeA
  rw [hR, h]
  cases stepsE (keysH cs) <;> rfl

theorem code_out {es : List En} {cs : List Ch} (hR : rightE es = true) (h : rightE (apL (es.length + cs.length) es cs) = false) : codeA es cs = 73 := by
  unfold codeA
  rw [hR, h]
  cases stepsE (keysH cs) <;> cases apB (es.length + cs.length) es cs <;> rfl

theorem code_many {es : List En} {cs : List Ch} (hR : rightE es = true) (h : 256 < cs.length) : codeA es cs = 73 := by
  cases hb : apB (es.length + cs.length) es cs with
  | false => exact code_lead hR hb
  | true =>
    have := ap_count _ es cs (Nat.le_refl _) hb
    have h2 := (right_len hR).1
    refine code_out hR ?_
    cases hr : rightE (apL (es.length + cs.length) es cs) with
    | false => rfl
    | true =>
      have := (right_len hr).1
      omega

theorem code_unfit {es : List En} {cs : List Ch} {s : ByteArray} {g : Bool} {v : Vl} {r : Int} (hR : rightE es = true) (hc : (s, g, v) ∈ cs) (hf : FindR es s r) (h : fitsR es g v r = false) : codeA es cs = 73 := by
  cases hs : stepsE (keysH cs) with
  | false => exact code_steps hR hs
  | true =>
    rw [fits_lead g v (right_up hR) hf, Bool.and_eq_false_iff] at h
    rcases h with h | h
    · rw [Bool.or_eq_false_iff] at h
      obtain ⟨rfl, hv⟩ := h
      have hm := put_in _ es cs (Nat.le_refl _) s v hc
      refine code_out hR ?_
      cases hr : rightE (apL (es.length + cs.length) es cs) with
      | false => rfl
      | true =>
        have := (right_len hr).2 _ hm
        unfold entB at this
        simp only [hv, Bool.and_false] at this
        cases this
    · refine code_lead hR ?_
      rw [apB_all _ es cs (right_up hR) hs (Nat.le_refl _)]
      cases ha : cs.all (fun d => leadE (findE es d.1, some d)) with
      | false => rfl
      | true =>
        have := List.all_eq_true.1 ha _ hc
        dsimp only at this
        rw [h] at this
        cases this

theorem code_fit {es : List En} {cs : List Ch} (hR : rightE es = true) (hs : stepsE (keysH cs) = true) (h : ∀ c ∈ cs, ∃ r, FindR es c.1 r ∧ fitsR es c.2.1 c.2.2 r = true) : codeA es cs = if rightE (apL (es.length + cs.length) es cs) then 0 else 73 := by
  have hb : apB (es.length + cs.length) es cs = true := by
    rw [apB_all _ es cs (right_up hR) hs (Nat.le_refl _), List.all_eq_true]
    intro c hc
    obtain ⟨r, h1, h2⟩ := h c hc
    obtain ⟨k, g, v⟩ := c
    rw [fits_lead g v (right_up hR) h1, Bool.and_eq_true] at h2
    exact h2.2
  unfold codeA
  rw [hR, hs, hb]
  rfl

theorem drop_atA {α : Type} {l : List α} {i : Nat} {x : α} (h : l[i]? = some x) : l.drop i = x :: l.drop (i + 1) := by
  obtain ⟨hl, rfl⟩ := List.getElem?_eq_some_iff.1 h
  exact List.drop_eq_getElem_cons hl

theorem ap_lo {es : List En} {cs : List Ch} {i k : Nat} {x : En} {c : Ch} (hx : es[i]? = some x) (hc : cs[k]? = some c) (h : ltK x.1 c.1 = true) :
    apL (es.length + cs.length - (i + k)) (es.drop i) (cs.drop k) = x :: apL (es.length + cs.length - (i + 1 + k)) (es.drop (i + 1)) (cs.drop k) := by
  have hl := (List.getElem?_eq_some_iff.1 hx).1
  have hl' := (List.getElem?_eq_some_iff.1 hc).1
  rw [show es.length + cs.length - (i + k) = (es.length + cs.length - (i + 1 + k)) + 1 by omega, drop_atA hx, drop_atA hc, (ap_cons _ _ _ _ _).1, if_neg (by rw [ltK_asym h]; simp), if_pos h]

theorem ap_hi {es : List En} {cs : List Ch} {i k : Nat} {c : Ch} (hc : cs[k]? = some c) (hil : i ≤ es.length) (h : es.length = i ∨ ∃ x, es[i]? = some x ∧ ltK c.1 x.1 = true) :
    apL (es.length + cs.length - (i + k)) (es.drop i) (cs.drop k) = outA (none, some c) ++ apL (es.length + cs.length - (i + (k + 1))) (es.drop i) (cs.drop (k + 1)) := by
  have hl' := (List.getElem?_eq_some_iff.1 hc).1
  rw [show es.length + cs.length - (i + k) = (es.length + cs.length - (i + (k + 1))) + 1 by omega, drop_atA hc]
  rcases h with h | ⟨x, hx, h⟩
  · rw [show es.drop i = [] from List.drop_eq_nil_of_le (by omega), (ap_right _ _ _).1]
  · rw [drop_atA hx, (ap_cons _ _ _ _ _).1, if_pos h]

theorem ap_eq {es : List En} {cs : List Ch} {i k : Nat} {x : En} {c : Ch} (hx : es[i]? = some x) (hc : cs[k]? = some c) (h : x.1 = c.1) :
    apL (es.length + cs.length - (i + k)) (es.drop i) (cs.drop k) = outA (some x, some c) ++ apL (es.length + cs.length - (i + 1 + (k + 1))) (es.drop (i + 1)) (cs.drop (k + 1)) := by
  have hl := (List.getElem?_eq_some_iff.1 hx).1
  have hl' := (List.getElem?_eq_some_iff.1 hc).1
  have hm := (ap_more (es.length + cs.length - (i + 1 + (k + 1))) (es.drop (i + 1)) (cs.drop (k + 1)) (by rw [List.length_drop, List.length_drop]; omega)).1
  rw [show es.length + cs.length - (i + k) = (es.length + cs.length - (i + 1 + (k + 1)) + 1) + 1 by omega, drop_atA hx, drop_atA hc, (ap_cons _ _ _ _ _).1, if_neg (by rw [h, ltK_irr]; simp), if_neg (by rw [h, ltK_irr]; simp), hm]

theorem ap_end {es : List En} {cs : List Ch} {i : Nat} {x : En} (hx : es[i]? = some x) :
    apL (es.length + cs.length - (i + cs.length)) (es.drop i) (cs.drop cs.length) = x :: apL (es.length + cs.length - (i + 1 + cs.length)) (es.drop (i + 1)) (cs.drop cs.length) := by
  have hl := (List.getElem?_eq_some_iff.1 hx).1
  rw [show es.length + cs.length - (i + cs.length) = (es.length + cs.length - (i + 1 + cs.length)) + 1 by omega, drop_atA hx, List.drop_length, (ap_left _ _ _).1]
end Go.Proofs.Ytlmgiimgmjbkeaa
