/-
  Record as a function of its entries: the document's, and that the code's is the same; a value in memory is one; no conditions.
-/
import Derived.Test.YtcopkhmmpamboaaB04
import Derived.Test.YtcopkhmmpamboaaB17
import Derived.Test.YtcopkhmmpamboaaB20
namespace Go.Proofs.Ytcopkhmmpamboaa
open Go.RowKit
set_option linter.unusedVariables false
set_option linter.unusedSimpArgs false

theorem zip_maps {α β : Type} : ∀ (R : List (α × β)), (R.map (·.1)).zip (R.map (·.2)) = R
  | [] => rfl
  | t :: r => by simp [zip_maps r]

theorem rises_pair {ks : List ByteArray} : RisesK ks ↔ ks.Pairwise (fun a b => bl a b = true) := by
  rw [List.pairwise_iff_getElem]
  constructor
  · intro h i j hi hj hij
    exact h i j _ _ hij (List.getElem?_eq_getElem hi) (List.getElem?_eq_getElem hj)
  · intro h i j p q hij hp hq
    obtain ⟨hi, rfl⟩ := List.getElem?_eq_some_iff.1 hp
    obtain ⟨hj, rfl⟩ := List.getElem?_eq_some_iff.1 hq
    exact h i j hi hj hij

section
variable {α : Type}

/-- a rising list of pairs, cut at a key -/
theorem cut_at (R : List (ByteArray × α)) (key : ByteArray) (hr : RisesK (R.map (·.1))) :
    ∃ A B, (∀ t ∈ A, bl t.1 key = true) ∧ (∀ t ∈ B, bl key t.1 = true) ∧ ((key ∉ R.map (·.1) ∧ R = A ++ B) ∨ (key ∈ R.map (·.1) ∧ ∃ y, R = A ++ (key, y) :: B)) := by
  rw [rises_pair] at hr
  induction R with
  | nil => exact ⟨[], [], (fun t h => by cases h), (fun t h => by cases h), Or.inl ⟨by simp, rfl⟩⟩
  | cons t r ih =>
    rw [List.map_cons, List.pairwise_cons] at hr
    rcases kl_tri t.1 key with h | h | h
    · obtain ⟨A, B, hA, hB, hc⟩ := ih hr.2
      refine ⟨t :: A, B, ?_, hB, ?_⟩
      · intro z hz
        rcases List.mem_cons.1 hz with e | e
        · rw [e]; exact h
        · exact hA z e
      · have hne : ¬ key = t.1 := fun e => by rw [← e, kl_irr] at h; cases h
        rcases hc with ⟨h1, h2⟩ | ⟨h1, y, h2⟩
        · exact Or.inl ⟨by rw [List.map_cons, List.mem_cons]; exact fun e => by rcases e with e | e; exact hne e; exact h1 e, by rw [h2]; rfl⟩
        · exact Or.inr ⟨by rw [List.map_cons]; exact List.mem_cons_of_mem _ h1, y, by rw [h2]; rfl⟩
    · refine ⟨[], r, (fun t h => by cases h), fun z hz => ?_, Or.inr ⟨by rw [List.map_cons, h]; exact List.mem_cons_self, t.2, by rw [← h]; rfl⟩⟩
      rw [← h]
      exact hr.1 z.1 (List.mem_map_of_mem hz)
    · refine ⟨[], t :: r, (fun t h => by cases h), fun z hz => ?_, Or.inl ⟨?_, rfl⟩⟩
      · rcases List.mem_cons.1 hz with e | e
        · rw [e]; exact h
        · exact kl_trans h (hr.1 z.1 (List.mem_map_of_mem e))
      · intro hk
        rw [List.map_cons, List.mem_cons] at hk
        rcases hk with e | e
        · rw [e, kl_irr] at h; cases h
        · have := kl_trans h (hr.1 key e)
          rw [kl_irr] at this
          cases this

theorem putF_new (R : List (ByteArray × α)) (key : ByteArray) (x : α) (hr : RisesK (R.map (·.1))) (hk : key ∉ R.map (·.1)) : RisesK ((putF key x R).map (·.1)) ∧ (putF key x R).Perm ((key, x) :: R) := by
  obtain ⟨A, B, hA, hB, hc⟩ := cut_at R key hr
  rcases hc with ⟨_, rfl⟩ | ⟨h, _⟩
  · have hF := (putF_at key x A B hA hB).1
    rw [hF]
    refine ⟨?_, List.perm_middle⟩
    rw [rises_pair] at hr ⊢
    rw [List.map_append, List.pairwise_append] at hr
    obtain ⟨h1, h2, h3⟩ := hr
    rw [List.map_append, List.map_cons, List.pairwise_append, List.pairwise_cons]
    refine ⟨h1, ⟨fun b hb => ?_, h2⟩, fun a ha b hb => ?_⟩
    · obtain ⟨t, ht, rfl⟩ := List.mem_map.1 hb
      exact hB t ht
    · rcases List.mem_cons.1 hb with e | e
      · obtain ⟨t, ht, rfl⟩ := List.mem_map.1 ha
        rw [e]
        exact hA t ht
      · exact h3 a ha b e
  · exact absurd h hk

theorem putF_old (R : List (ByteArray × α)) (key : ByteArray) (x : α) (hr : RisesK (R.map (·.1))) (hk : key ∈ R.map (·.1)) : (putF key x R).length = R.length := by
  obtain ⟨A, B, hA, hB, hc⟩ := cut_at R key hr
  rcases hc with ⟨h, _⟩ | ⟨_, y, rfl⟩
  · exact absurd hk h
  · rw [(putF_at key x A B hA hB).2 y]
    simp

/-- entries, each put at its place -/
def insE (E : List (ByteArray × α)) : List (ByteArray × α) := E.foldl (fun R e => putF e.1 e.2 R) []

theorem insE_take (E : List (ByteArray × α)) (i : Nat) (e : ByteArray × α) (h : E[i]? = some e) : insE (E.take (i + 1)) = putF e.1 e.2 (insE (E.take i)) := by
  unfold insE
  rw [List.take_add_one, h, List.foldl_append]
  rfl

theorem ins_spec (E : List (ByteArray × α)) (hn : (E.map (·.1)).Nodup) : ∀ i, RisesK ((insE (E.take i)).map (·.1)) ∧ (insE (E.take i)).Perm (E.take i)
  | 0 => ⟨by rw [List.take_zero]; exact fun i j p q _ h => by simp [insE] at h, by rw [List.take_zero]; exact List.Perm.refl _⟩
  | i + 1 => by
    obtain ⟨h1, h2⟩ := ins_spec E hn i
    cases he : E[i]? with
    | none =>
      have hl : E.length ≤ i := List.getElem?_eq_none_iff.1 he
      rw [List.take_of_length_le (by omega)]
      rw [List.take_of_length_le hl] at h1 h2
      exact ⟨h1, h2⟩
    | some e =>
      have hk : e.1 ∉ (insE (E.take i)).map (·.1) := fun hm => by
        rw [(h2.map (·.1)).mem_iff] at hm
        have hs : (E.map (·.1)).take (i + 1) = (E.take i).map (·.1) ++ [e.1] := by
          rw [List.take_add_one, List.getElem?_map, he, List.map_take]; rfl
        have hn' : ((E.map (·.1)).take (i + 1)).Nodup := (List.take_sublist _ _).nodup hn
        rw [hs, List.nodup_append] at hn'
        exact hn'.2.2 e.1 hm e.1 (by simp) rfl
      obtain ⟨h3, h4⟩ := putF_new _ e.1 e.2 h1 hk
      rw [insE_take E i e he]
      refine ⟨h3, h4.trans ?_⟩
      rw [List.take_add_one, he]
      exact ((List.Perm.cons e h2).trans (List.perm_append_comm (l₁ := [e]) (l₂ := E.take i)))
end

/-- the record of entries -/
def recOf (E : List En) : Vl := .mk 5 0 ⟨#[]⟩ ((insE E).map (·.2)) ((insE E).map (·.1))

/-- what Record answers -/
def docC (E : List En) : Int :=
  if 2048 < E.length then 33 else if (∀ e ∈ E, e.1.size ≤ 32) ∧ (E.map (·.1)).Nodup then (if E.all (fun e => rightB e.2) = true then (if rightB (recOf E) = true then 0 else 33) else 30) else 32

theorem rising_iff : ∀ (p : Option ByteArray) (ks : List ByteArray), risingFrom p ks = true ↔ ((∀ t ∈ ks, t.size ≤ 32) ∧ ks.Pairwise (fun a b => bl a b = true) ∧ ∀ q, p = some q → ∀ t ∈ ks, bl q t = true)
  | p, [] => by simp [risingFrom]
  | p, t :: r => by
    have ih := rising_iff (some t) r
    simp only [risingFrom, Bool.and_eq_true, decide_eq_true_eq]
    rw [ih]
    constructor
    · rintro ⟨⟨h1, h2⟩, h3, h4, h5⟩
      refine ⟨?_, List.pairwise_cons.2 ⟨fun u hu => h5 t rfl u hu, h4⟩, ?_⟩
      · intro u hu
        rcases List.mem_cons.1 hu with e | e
        · rw [e]; exact h1
        · exact h3 u e
      · intro q hq u hu
        subst hq
        have h2' : bl q t = true := h2
        rcases List.mem_cons.1 hu with e | e
        · rw [e]; exact h2'
        · exact kl_trans h2' (h5 t rfl u e)
    · rintro ⟨h1, h2, h3⟩
      rw [List.pairwise_cons] at h2
      refine ⟨⟨h1 t List.mem_cons_self, ?_⟩, fun u hu => h1 u (List.mem_cons_of_mem _ hu), h2.2, fun q hq u hu => ?_⟩
      · cases p with
        | none => rfl
        | some q => exact h3 q rfl t List.mem_cons_self
      · cases hq
        exact h2.1 u hu

theorem one_orderP : ∀ (E D : List En), E.Pairwise (fun a b => bl a.1 b.1 = true) → D.Perm E → D.Pairwise (fun a b => bl b.1 a.1 = false) → D = E
  | [], D, _, hp, _ => hp.eq_nil
  | e :: E, [], _, hp, _ => by simpa using hp.length_eq
  | e :: E, a :: D, hE, hp, hD => by
    rw [List.pairwise_cons] at hE hD
    have hae : a = e := by
      have h1 : a ∈ e :: E := hp.mem_iff.1 (List.mem_cons_self ..)
      have h2 : e ∈ a :: D := hp.mem_iff.2 (List.mem_cons_self ..)
      rcases List.mem_cons.1 h1 with h | h
      · exact h
      · rcases List.mem_cons.1 h2 with h' | h'
        · exact h'.symm
        · have h3 := hE.1 a h
          have h4 := hD.1 e h'
          rw [h3] at h4
          cases h4
    subst hae
    rw [one_orderP E D hE.2 (List.perm_cons a |>.1 hp) hD.2]

/-- the code's answer is the document's -/
theorem code_doc (E D : List En) (hl : E.length ≤ 2048) (hp : D.Perm E) (hs : D.Pairwise (fun a b => bl b.1 a.1 = false)) :
    recC (D.map (·.1)) (D.map (·.2)) = docC E ∧ (docC E = 0 → Vl.mk 5 0 ⟨#[]⟩ (D.map (·.2)) (D.map (·.1)) = recOf E) := by
  have hpk := hp.map (·.1)
  unfold docC
  rw [if_neg (by omega)]
  by_cases hb : (∀ e ∈ E, e.1.size ≤ 32) ∧ (E.map (·.1)).Nodup
  · rw [if_pos hb]
    have hnd : (D.map (·.1)).Nodup := hpk.nodup_iff.2 hb.2
    have hst : (D.map (·.1)).Pairwise (fun a b => bl a b = true) := by
      rw [List.pairwise_map]
      have hnd' : D.Pairwise (fun a b => a.1 ≠ b.1) := by rw [List.Nodup, List.pairwise_map] at hnd; exact hnd
      refine (hs.and hnd').imp ?_
      rintro a b ⟨h1, h2⟩
      rcases kl_tri a.1 b.1 with h | h | h
      · exact h
      · exact absurd h h2
      · rw [h] at h1; cases h1
    have hri : risingFrom none (D.map (·.1)) = true := (rising_iff none _).2 ⟨fun t ht => by
      obtain ⟨e, he, rfl⟩ := List.mem_map.1 ht
      exact hb.1 e (hp.mem_iff.1 he), hst, (fun q hq => by cases hq)⟩
    have hins := ins_spec E hb.2 E.length
    rw [List.take_length] at hins
    have hDI : D = insE E := by
      refine one_orderP (insE E) D ?_ (hp.trans hins.2.symm) hs
      have := rises_pair.1 hins.1
      rw [List.pairwise_map] at this
      exact this
    have hall : (D.map (·.2)).all rightB = E.all (fun e => rightB e.2) := by
      rw [List.all_map, hp.all_eq]
      rfl
    have hrec : Vl.mk 5 0 ⟨#[]⟩ (D.map (·.2)) (D.map (·.1)) = recOf E := by unfold recOf; rw [hDI]
    unfold recC
    rw [if_pos hri, hall, hrec]
    exact ⟨rfl, fun _ => rfl⟩
  · rw [if_neg hb]
    have hri : ¬ risingFrom none (D.map (·.1)) = true := fun h => by
      obtain ⟨h1, h2, _⟩ := (rising_iff none _).1 h
      refine hb ⟨fun e he => h1 e.1 (List.mem_map_of_mem (hp.mem_iff.2 he)), hpk.nodup_iff.1 ?_⟩
      exact h2.imp (fun {a b} hab e => by rw [e, kl_irr] at hab; cases hab)
    unfold recC
    rw [if_neg hri]
    exact ⟨rfl, fun h => by cases h⟩

/-- a value in memory is one value -/
theorem isP_one {w : World} {P P' : Nat → Prop} : ∀ (d : Nat) (v v' : Vl) (x : Value), dep v ≤ d → IsP w P v x → IsP w P' v' x → v = v'
  | 0, v, _, _, hd, _, _ => by have := dep_pos v; omega
  | d + 1, v, v', x, hd, h, h' => by
    obtain ⟨k, n, s, l, ks, al, ak, cl, ck, V, rfl, rfl, hf, el⟩ := h.inv
    obtain ⟨k', n', s', l', ks', al', ak', cl', ck', V', rfl, hx, hf', el'⟩ := h'.inv
    simp only [Value.agg.injEq, Array.mk.injEq, List.cons.injEq, Value.int.injEq, Value.string.injEq, Value.slice.injEq, and_true, true_and] at hx
    obtain ⟨rfl, rfl, rfl, ⟨rfl, hll, rfl⟩, rfl, hkk, rfl⟩ := hx
    have e1 : ks = ks' := by
      apply List.ext_getElem?
      intro i
      by_cases hi : i < ks.length
      · obtain ⟨t, ht⟩ : ∃ t, ks[i]? = some t := ⟨_, List.getElem?_eq_getElem hi⟩
        obtain ⟨t', ht'⟩ : ∃ t, ks'[i]? = some t := ⟨_, List.getElem?_eq_getElem (by omega)⟩
        cases ak with
        | none => have := (hf.nk rfl).1; omega
        | some a =>
          have h1 := (hf.hk a rfl i t ht).2
          rw [(hf'.hk a rfl i t' ht').2] at h1
          cases h1
          rw [ht, ht']
      · rw [List.getElem?_eq_none (by omega), List.getElem?_eq_none (by omega)]
    have e2 : l = l' := by
      apply List.ext_getElem?
      intro i
      by_cases hi : i < l.length
      · obtain ⟨y, hy⟩ : ∃ t, l[i]? = some t := ⟨_, List.getElem?_eq_getElem hi⟩
        obtain ⟨y', hy'⟩ : ∃ t, l'[i]? = some t := ⟨_, List.getElem?_eq_getElem (by omega)⟩
        cases al with
        | none => have := (hf.nl rfl).1; omega
        | some a =>
          have h5 := hf.hv i hi
          have h5' := hf'.hv i (by omega)
          have hV : V i = V' i := by
            apply List.ext_getElem?
            intro j
            by_cases hj : j < 5
            · obtain ⟨u, hu⟩ : ∃ t, (V i)[j]? = some t := ⟨_, List.getElem?_eq_getElem (by omega)⟩
              obtain ⟨u', hu'⟩ : ∃ t, (V' i)[j]? = some t := ⟨_, List.getElem?_eq_getElem (by omega)⟩
              have h1 := (hf.hl a rfl i hi).2 j u hu
              rw [(hf'.hl a rfl i (by omega)).2 j u' hu'] at h1
              cases h1
              rw [hu, hu']
            · rw [List.getElem?_eq_none (by omega), List.getElem?_eq_none (by omega)]
          have q := el' i y' hy'
          rw [← hV] at q
          have := isP_one d y y' _ (by have h1 := dep_elem l i y hy; simp only [dep] at hd; omega) (el i y hy) q
          rw [hy, hy', this]
      · rw [List.getElem?_eq_none (by omega), List.getElem?_eq_none (by omega)]
    rw [e1, e2]
end Go.Proofs.Ytcopkhmmpamboaa
