/-
  Record as a function of its entries: the document's, and that the code's is the same; a value in memory is one; no conditions.
-/
import Derived.Test.YtgkmdjmigehmeaaGreatDoorR22
import Derived.Test.YtgkmdjmigehmeaaGreatDoorR21
import Derived.Test.YtgkmdjmigehmeaaGreatDoorR23
import Derived.Deep.QuietTactic
import Derived.BigQuiet
import Derived.Test.YtgkmdjmigehmeaaGreatDoorR00
import Derived.WalkKit
import Derived.WalkSpells
import Derived.OpenShut
import Derived.Test.YtgkmdjmigehmeaaGreatDoorRows
import Derived.WalkSmall
import Derived.Laws.BitsAllLaws
import Derived.Test.YtgkmdjmigehmeaaGreatDoorR02
import Derived.Deep.MidRow
namespace Go.Proofs.YtgkmdjmigehmeaaGreatDoor
set_option linter.unusedVariables false
set_option linter.unusedSimpArgs false
set_option maxRecDepth 100000
set_option maxHeartbeats 16000000
open Go.RowKit
theorem rises_pair {ks : List ByteArray} : RisesK ks ↔ ks.Pairwise (fun a b => bl a b = true) := by
 rw [List.pairwise_iff_getElem]
 constructor
 ·intro h i j hi hj hij
  exact h i j _ _ hij (List.getElem?_eq_getElem hi) (List.getElem?_eq_getElem hj)
 ·intro h i j p q hij hp hq
  obtain ⟨hi, rfl⟩ := List.getElem?_eq_some_iff.1 hp
  obtain ⟨hj, rfl⟩ := List.getElem?_eq_some_iff.1 hq
  exact h i j hi hj hij
section
variable {α : Type}
theorem cut_at (R : List (ByteArray × α)) (key : ByteArray) (hr : RisesK (R.map (·.1))) :
  ∃ A B, (∀ t ∈ A, bl t.1 key = true) ∧ (∀ t ∈ B, bl key t.1 = true) ∧ ((key ∉ R.map (·.1) ∧ R = A ++ B) ∨ (key ∈ R.map (·.1) ∧ ∃ y, R = A ++ (key, y) :: B)) := by
 rw [rises_pair] at hr
 induction R with
 | nil => exact ⟨[], [], (fun t h => by cases h), (fun t h => by cases h), Or.inl ⟨by simp, rfl⟩⟩
 | cons t r ih =>
  rw [List.map_cons, List.pairwise_cons] at hr
  rcases kl_tri t.1 key with h | h | h
  ·obtain ⟨A, B, hA, hB, hc⟩ := ih hr.2
   refine ⟨t :: A, B, ?_, hB, ?_⟩
   ·intro z hz
    rcases List.mem_cons.1 hz with e | e
    ·rw [e]; exact h
    ·exact hA z e
   ·have hne : ¬ key = t.1 := fun e => by rw [← e, kl_irr] at h; cases h
    rcases hc with ⟨h1, h2⟩ | ⟨h1, y, h2⟩
    ·exact Or.inl ⟨by rw [List.map_cons, List.mem_cons]; exact fun e => by rcases e with e | e; exact hne e; exact h1 e, by rw [h2]; rfl⟩
    ·exact Or.inr ⟨by rw [List.map_cons]; exact List.mem_cons_of_mem _ h1, y, by rw [h2]; rfl⟩
  ·refine ⟨[], r, (fun t h => by cases h), fun z hz => ?_, Or.inr ⟨by rw [List.map_cons, h]; exact List.mem_cons_self, t.2, by rw [← h]; rfl⟩⟩
   rw [← h]
   exact hr.1 z.1 (List.mem_map_of_mem hz)
  ·refine ⟨[], t :: r, (fun t h => by cases h), fun z hz => ?_, Or.inl ⟨?_, rfl⟩⟩
   ·rcases List.mem_cons.1 hz with e | e
    ·rw [e]; exact h
    ·exact kl_trans h (hr.1 z.1 (List.mem_map_of_mem e))
   ·intro hk
    rw [List.map_cons, List.mem_cons] at hk
    rcases hk with e | e
    ·rw [e, kl_irr] at h; cases h
    ·have := kl_trans h (hr.1 key e)
     rw [kl_irr] at this
     cases this
theorem putF_new (R : List (ByteArray × α)) (key : ByteArray) (x : α) (hr : RisesK (R.map (·.1))) (hk : key ∉ R.map (·.1)) : RisesK ((putF key x R).map (·.1)) ∧ (putF key x R).Perm ((key, x) :: R) := by
 obtain ⟨A, B, hA, hB, hc⟩ := cut_at R key hr
 rcases hc with ⟨_, rfl⟩ | ⟨h, _⟩
 ·have hF := (putF_at key x A B hA hB).1
  rw [hF]
  refine ⟨?_, List.perm_middle⟩
  rw [rises_pair] at hr ⊢
  rw [List.map_append, List.pairwise_append] at hr
  obtain ⟨h1, h2, h3⟩ := hr
  rw [List.map_append, List.map_cons, List.pairwise_append, List.pairwise_cons]
  refine ⟨h1, ⟨fun b hb => ?_, h2⟩, fun a ha b hb => ?_⟩
  ·obtain ⟨t, ht, rfl⟩ := List.mem_map.1 hb
   exact hB t ht
  ·rcases List.mem_cons.1 hb with e | e
   ·obtain ⟨t, ht, rfl⟩ := List.mem_map.1 ha
    rw [e]
    exact hA t ht
   ·exact h3 a ha b e
 ·exact absurd h hk
def insE (E : List (ByteArray × α)) : List (ByteArray × α) := E.foldl (fun R e => putF e.1 e.2 R) []
theorem insE_take (E : List (ByteArray × α)) (i : Nat) (e : ByteArray × α) (h : E[i]? = some e) : insE (E.take (i + 1)) = putF e.1 e.2 (insE (E.take i)) := by
 unfold insE
 rw [List.take_add_one, h, List.foldl_append]
 rfl
theorem ins_spec (E : List (ByteArray × α)) (hn : (E.map (·.1)).Nodup) : ∀ i, RisesK ((insE (E.take i)).map (·.1)) ∧ (insE (E.take i)).Perm (E.take i)
 | 0 => ⟨by rw [List.take_zero]; exact fun i j p q _ h => by simp [insE] at h, by rw [List.take_zero]; exact List.Perm.refl _⟩
 | i + 1 => by
  obtain ⟨h1, h2⟩ := ins_spec E hn i
  cases he : E[i]? with
  | none =>
   have hl : E.length ≤ i := List.getElem?_eq_none_iff.1 he
   rw [List.take_of_length_le (by omega)]
   rw [List.take_of_length_le hl] at h1 h2
   exact ⟨h1, h2⟩
  | some e =>
   have hk : e.1 ∉ (insE (E.take i)).map (·.1) := fun hm => by
    rw [(h2.map (·.1)).mem_iff] at hm
    have hs : (E.map (·.1)).take (i + 1) = (E.take i).map (·.1) ++ [e.1] := by
     rw [List.take_add_one, List.getElem?_map, he, List.map_take]; rfl
    have hn' : ((E.map (·.1)).take (i + 1)).Nodup := (List.take_sublist _ _).nodup hn
    rw [hs, List.nodup_append] at hn'
    exact hn'.2.2 e.1 hm e.1 (by simp) rfl
   obtain ⟨h3, h4⟩ := putF_new _ e.1 e.2 h1 hk
   rw [insE_take E i e he]
   refine ⟨h3, h4.trans ?_⟩
   rw [List.take_add_one, he]
   exact ((List.Perm.cons e h2).trans (List.perm_append_comm (l₁ := [e]) (l₂ := E.take i)))
end
def recOf (E : List En) : Vl := .mk 5 0 ⟨#[]⟩ ((insE E).map (·.2)) ((insE E).map (·.1))
def docC (E : List En) : Int :=
 if 2048 < E.length then 33 else if (∀ e ∈ E, e.1.size ≤ 32) ∧ (E.map (·.1)).Nodup then (if E.all (fun e => rightB e.2) = true then (if rightB (recOf E) = true then 0 else 33) else 30) else 32
theorem rising_iff : ∀ (p : Option ByteArray) (ks : List ByteArray), risingFrom p ks = true ↔ ((∀ t ∈ ks, t.size ≤ 32) ∧ ks.Pairwise (fun a b => bl a b = true) ∧ ∀ q, p = some q → ∀ t ∈ ks, bl q t = true)
 | p, [] => by simp [risingFrom]
 | p, t :: r => by
  have ih := rising_iff (some t) r
  simp only [risingFrom, Bool.and_eq_true, decide_eq_true_eq]
  rw [ih]
  constructor
  ·rintro ⟨⟨h1, h2⟩, h3, h4, h5⟩
   refine ⟨?_, List.pairwise_cons.2 ⟨fun u hu => h5 t rfl u hu, h4⟩, ?_⟩
   ·intro u hu
    rcases List.mem_cons.1 hu with e | e
    ·rw [e]; exact h1
    ·exact h3 u e
   ·intro q hq u hu
    subst hq
    have h2' : bl q t = true := h2
    rcases List.mem_cons.1 hu with e | e
    ·rw [e]; exact h2'
    ·exact kl_trans h2' (h5 t rfl u e)
  ·rintro ⟨h1, h2, h3⟩
   rw [List.pairwise_cons] at h2
   refine ⟨⟨h1 t List.mem_cons_self, ?_⟩, fun u hu => h1 u (List.mem_cons_of_mem _ hu), h2.2, fun q hq u hu => ?_⟩
   ·cases p with
    | none => rfl
    | some q => exact h3 q rfl t List.mem_cons_self
   ·cases hq
    exact h2.1 u hu
theorem one_orderP : ∀ (E D : List En), E.Pairwise (fun a b => bl a.1 b.1 = true) → D.Perm E → D.Pairwise (fun a b => bl b.1 a.1 = false) → D = E
 | [], D, _, hp, _ => hp.eq_nil
 | e :: E, [], _, hp, _ => by simpa using hp.length_eq
 | e :: E, a :: D, hE, hp, hD => by
  rw [List.pairwise_cons] at hE hD
  have hae : a = e := by
   have h1 : a ∈ e :: E := hp.mem_iff.1 (List.mem_cons_self ..)
   have h2 : e ∈ a :: D := hp.mem_iff.2 (List.mem_cons_self ..)
   rcases List.mem_cons.1 h1 with h | h
   ·exact h
   ·rcases List.mem_cons.1 h2 with h' | h'
    ·exact h'.symm
    ·have h3 := hE.1 a h
     have h4 := hD.1 e h'
     rw [h3] at h4
     cases h4
  subst hae
  rw [one_orderP E D hE.2 (List.perm_cons a |>.1 hp) hD.2]
theorem code_doc (E D : List En) (hl : E.length ≤ 2048) (hp : D.Perm E) (hs : D.Pairwise (fun a b => bl b.1 a.1 = false)) :
  recC (D.map (·.1)) (D.map (·.2)) = docC E ∧ (docC E = 0 → Vl.mk 5 0 ⟨#[]⟩ (D.map (·.2)) (D.map (·.1)) = recOf E) := by
 have hpk := hp.map (·.1)
 unfold docC
 rw [if_neg (by omega)]
 by_cases hb : (∀ e ∈ E, e.1.size ≤ 32) ∧ (E.map (·.1)).Nodup
 ·rw [if_pos hb]
  have hnd : (D.map (·.1)).Nodup := hpk.nodup_iff.2 hb.2
  have hst : (D.map (·.1)).Pairwise (fun a b => bl a b = true) := by
   rw [List.pairwise_map]
   have hnd' : D.Pairwise (fun a b => a.1 ≠ b.1) := by rw [List.Nodup, List.pairwise_map] at hnd; exact hnd
   refine (hs.and hnd').imp ?_
   rintro a b ⟨h1, h2⟩
   rcases kl_tri a.1 b.1 with h | h | h
   ·exact h
   ·exact absurd h h2
   ·rw [h] at h1; cases h1
  have hri : risingFrom none (D.map (·.1)) = true := (rising_iff none _).2 ⟨fun t ht => by
   obtain ⟨e, he, rfl⟩ := List.mem_map.1 ht
   exact hb.1 e (hp.mem_iff.1 he), hst, (fun q hq => by cases hq)⟩
  have hins := ins_spec E hb.2 E.length
  rw [List.take_length] at hins
  have hDI : D = insE E := by
   refine one_orderP (insE E) D ?_ (hp.trans hins.2.symm) hs
   have := rises_pair.1 hins.1
   rw [List.pairwise_map] at this
   exact this
  have hall : (D.map (·.2)).all rightB = E.all (fun e => rightB e.2) := by
   rw [List.all_map, hp.all_eq]
   rfl
  have hrec : Vl.mk 5 0 ⟨#[]⟩ (D.map (·.2)) (D.map (·.1)) = recOf E := by unfold recOf; rw [hDI]
  unfold recC
  rw [if_pos hri, hall, hrec]
  exact ⟨rfl, fun _ => rfl⟩
 ·rw [if_neg hb]
  have hri : ¬ risingFrom none (D.map (·.1)) = true := fun h => by
   obtain ⟨h1, h2, _⟩ := (rising_iff none _).1 h
   refine hb ⟨fun e he => h1 e.1 (List.mem_map_of_mem (hp.mem_iff.2 he)), hpk.nodup_iff.1 ?_⟩
   exact h2.imp (fun {a b} hab e => by rw [e, kl_irr] at hab; cases hab)
  unfold recC
  rw [if_neg hri]
  exact ⟨rfl, fun h => by cases h⟩
theorem isP_one {w : World} {P P' : Nat → Prop} : ∀ (d : Nat) (v v' : Vl) (x : Value), dep v ≤ d → IsP w P v x → IsP w P' v' x → v = v'
 | 0, v, _, _, hd, _, _ => by have := dep_pos v; omega
 | d + 1, v, v', x, hd, h, h' => by
  obtain ⟨k, n, s, l, ks, al, ak, cl, ck, V, rfl, rfl, hf, el⟩ := h.inv
  obtain ⟨k', n', s', l', ks', al', ak', cl', ck', V', rfl, hx, hf', el'⟩ := h'.inv
  simp only [Value.agg.injEq, Array.mk.injEq, List.cons.injEq, Value.int.injEq, Value.string.injEq, Value.slice.injEq, and_true, true_and] at hx
  obtain ⟨rfl, rfl, rfl, ⟨rfl, hll, rfl⟩, rfl, hkk, rfl⟩ := hx
  have e1 : ks = ks' := by
   apply List.ext_getElem?
   intro i
   by_cases hi : i < ks.length
   ·obtain ⟨t, ht⟩ : ∃ t, ks[i]? = some t := ⟨_, List.getElem?_eq_getElem hi⟩
    obtain ⟨t', ht'⟩ : ∃ t, ks'[i]? = some t := ⟨_, List.getElem?_eq_getElem (by omega)⟩
    cases ak with
    | none => have := (hf.nk rfl).1; omega
    | some a =>
     have h1 := (hf.hk a rfl i t ht).2
     rw [(hf'.hk a rfl i t' ht').2] at h1
     cases h1
     rw [ht, ht']
   ·rw [List.getElem?_eq_none (by omega), List.getElem?_eq_none (by omega)]
  have e2 : l = l' := by
   apply List.ext_getElem?
   intro i
   by_cases hi : i < l.length
   ·obtain ⟨y, hy⟩ : ∃ t, l[i]? = some t := ⟨_, List.getElem?_eq_getElem hi⟩
    obtain ⟨y', hy'⟩ : ∃ t, l'[i]? = some t := ⟨_, List.getElem?_eq_getElem (by omega)⟩
    cases al with
    | none => have := (hf.nl rfl).1; omega
    | some a =>
     have h5 := hf.hv i hi
     have h5' := hf'.hv i (by omega)
     have hV : V i = V' i := by
      apply List.ext_getElem?
      intro j
      by_cases hj : j < 5
      ·obtain ⟨u, hu⟩ : ∃ t, (V i)[j]? = some t := ⟨_, List.getElem?_eq_getElem (by omega)⟩
       obtain ⟨u', hu'⟩ : ∃ t, (V' i)[j]? = some t := ⟨_, List.getElem?_eq_getElem (by omega)⟩
       have h1 := (hf.hl a rfl i hi).2 j u hu
       rw [(hf'.hl a rfl i (by omega)).2 j u' hu'] at h1
       cases h1
       rw [hu, hu']
      ·rw [List.getElem?_eq_none (by omega), List.getElem?_eq_none (by omega)]
     have q := el' i y' hy'
     rw [← hV] at q
     have := isP_one d y y' _ (by have h1 := dep_elem l i y hy; simp only [dep] at hd; omega) (el i y hy) q
     rw [hy, hy', this]
   ·rw [List.getElem?_eq_none (by omega), List.getElem?_eq_none (by omega)]
  rw [e1, e2]
theorem rec_long (al : Option Addr) (cl n : Nat) (w : World) (hn : 2048 < n) :
  Calls Tryz.prog 104 #[.slice al n cl] w fun e w' => e = .returned (.tuple #[.agg #[.int .i64 0, .int .i64 0, .string ⟨#[]⟩, .slice none 0 0, .slice none 0 0], .int .i64 33]) ∧ Below w.heap.size w w' := by
 obtain ⟨g, hg⟩ : ∃ g, w.heap.size = g := ⟨_, rfl⟩
 have hnl : (2048 : Int) < (n : Int) := by omega
 obtain ⟨w1, hw1⟩ : ∃ w1, w.alloc (.cells #[.int .i64 0, .int .i64 0, .string ⟨#[]⟩, .slice none 0 0, .slice none 0 0] 25) = w1 := ⟨_, rfl⟩
 have HW1 : Hid (w1.heap[g]? = some (.cells #[.int .i64 0, .int .i64 0, .string ⟨#[]⟩, .slice none 0 0, .slice none 0 0] 25 (0, 0)) ∧ Below g w w1) := hide (by
  rw [← hw1, ← hg]
  exact ⟨heap_alloc_new _ _, (Below.refl _ _).alloc (Nat.le_refl _) _⟩)
 obtain ⟨z0, z1, z2, z3, z4⟩ := row_cell (uh HW1).1
 have fz : ∀ q, w1.frozen? ⟨g, q, none⟩ = false := fun q => frozen_of_row w1 g q _ _ (uh HW1).1
 have fz0 := fz 0
 have fz1 := fz 1
 have fz2 := fz 2
 have fz3 := fz 3
 have fz4 := fz 4
 clear fz hn
 go_enter Tryz.func104, Tryz.ntmps104
 go_wp2_with fail
 have R9 := five_set w1 g 25 _ _ _ _ _ (.int .i64 0) (.int .i64 0) (.string ⟨#[]⟩) (.slice none 0 0) (.slice none 0 0) (uh HW1).1
 have B9 := five_below (g := g) (uh HW1).2 (Nat.le_refl _) (.int .i64 0) (.int .i64 0) (.string ⟨#[]⟩) (.slice none 0 0) (.slice none 0 0)
 obtain ⟨w9, hw9⟩ : ∃ w9, (((((w1.setCell ⟨g, 0, none⟩ (.int .i64 0)).setCell ⟨g, 1, none⟩ (.int .i64 0)).setCell ⟨g, 2, none⟩ (.string ⟨#[]⟩)).setCell ⟨g, 3, none⟩ (.slice none 0 0)).setCell ⟨g, 4, none⟩ (.slice none 0 0)) = w9 := ⟨_, rfl⟩
 rw [hw9] at R9 B9 ⊢
 obtain ⟨r0, r1, r2, r3, r4⟩ := row_cell R9
 refine bodyPost_ret (v := .tuple #[.agg #[.int .i64 0, .int .i64 0, .string ⟨#[]⟩, .slice none 0 0, .slice none 0 0], .int .i64 33]) (by simp [results, Tryz.results104, go_sem, r0, r1, r2, r3, r4]) rfl ?_
 rw [hg]
 exact ⟨rfl, B9⟩
def rcV (es : List En) : Vl := if docC es = 0 then recOf es else zeroVl
def entOf (k : ByteArray) : List Value → Ent
 | [.int _ x0, .int _ x1, .string x2, .slice al ll cl, .slice ak m ck] => (k, x0, x1, x2, (al, ll, cl), ak, m, ck)
 | _ => (k, 0, 0, ⟨#[]⟩, (none, 0, 0), none, 0, 0)
theorem entOf_val {w : World} {P : Nat → Prop} {v : Vl} {c : List Value} (k : ByteArray) (h : IsP w P v (.agg c.toArray)) : valE (entOf k c) = c ∧ (entOf k c).1 = k ∧ encE (entOf k c) = Value.string k :: c := by
 obtain ⟨k', n', s', l', ks', al', ak', cl', ck', hy', hx⟩ := h.shape
 have hc : c = [.int .i64 k', .int .i64 n', .string s', .slice al' l'.length cl', .slice ak' ks'.length ck'] := by
  have h1 := Value.agg.inj hx
  have h2 := congrArg Array.toList h1
  simpa using h2
 subst hc
 exact ⟨rfl, rfl, rfl⟩
theorem recQ_any (es : List En) (al : Option Addr) (cl B : Nat) (w : World) (h : IsE w (fun b => b < B) es al cl) (hBs : B ≤ w.heap.size) :
  Calls Tryz.prog 104 #[.slice al es.length cl] w fun e w' => ∃ x', e = .returned (.tuple #[x', .int .i64 (docC es)]) ∧ Below w.heap.size w w' ∧ IsQ w' (fun b => w.heap.size ≤ b ∧ b < w'.heap.size) (rcV es) x' := by
 by_cases hlong : 2048 < es.length
 ·have hC : docC es = 33 := by unfold docC; rw [if_pos hlong]
  refine (rec_long al cl es.length w hlong).mono ?_
  rintro e w' ⟨rfl, b⟩
  refine ⟨_, by rw [hC], b, ?_⟩
  unfold rcV
  rw [if_neg (by rw [hC]; decide)]
  exact zero_isQ _ _
 ·obtain ⟨V, hf⟩ := h
  obtain ⟨Y, hY⟩ : ∃ Y : Ent → Vl, ∀ x v, IsV w B v (.agg (valE x).toArray) → Y x = v := by
   classical
   refine ⟨fun x => if h : ∃ v, IsV w B v (.agg (valE x).toArray) then Classical.choose h else zeroVl, fun x v hv => ?_⟩
   have h : ∃ v, IsV w B v (.agg (valE x).toArray) := ⟨v, hv⟩
   show (if h : ∃ v, IsV w B v (.agg (valE x).toArray) then Classical.choose h else zeroVl) = v
   rw [dif_pos h]
   exact isP_one _ _ _ _ (Nat.le_refl _) (Classical.choose_spec h) hv
  obtain ⟨dl, hdl⟩ : ∃ dl, es.mapIdx (fun i e => entOf e.1 (V i)) = dl := ⟨_, rfl⟩
  have hat : ∀ i x, dl[i]? = some x → ∃ e, es[i]? = some e ∧ x = entOf e.1 (V i) := fun i x hx => by
   rw [← hdl, List.getElem?_mapIdx] at hx
   obtain ⟨e, he, rfl⟩ := Option.map_eq_some_iff.1 hx
   exact ⟨e, he, rfl⟩
  have hlen : dl.length = es.length := by rw [← hdl, List.length_mapIdx]
  obtain ⟨d, hd⟩ : ∃ d : Array Ent, d = dl.toArray := ⟨_, rfl⟩
  have hdt : d.toList = dl := by rw [hd]
  have hds : d.size = es.length := by rw [hd]; simpa using hlen
  have hgd : ∀ i, i < es.length → ∃ e, es[i]? = some e ∧ d[i]! = entOf e.1 (V i) := fun i hi => by
   obtain ⟨x, hx⟩ : ∃ x, dl[i]? = some x := ⟨_, List.getElem?_eq_getElem (by omega)⟩
   obtain ⟨e, he, rfl⟩ := hat i x hx
   refine ⟨e, he, ?_⟩
   rw [getElem!_pos d i (by omega)]
   have : d[i]? = some (entOf e.1 (V i)) := by rw [hd]; simpa using hx
   rw [Array.getElem?_eq_getElem (by omega)] at this
   exact Option.some.inj this
  have hmem : ∀ x ∈ d.toList, ∃ i e, es[i]? = some e ∧ x = entOf e.1 (V i) := fun x hx => by
   rw [hdt] at hx
   obtain ⟨i, hi⟩ := List.getElem?_of_mem hx
   obtain ⟨e, he, hxe⟩ := hat i x hi
   exact ⟨i, e, he, hxe⟩
  have hYe : ∀ i e, es[i]? = some e → Y (entOf e.1 (V i)) = e.2 := fun i e he => by
   have h1 := (hf.hv i e he).2
   exact hY _ _ (by rw [(entOf_val e.1 h1).1]; exact h1)
  have hsh : Shows w al d.size cl 6 (Go.Sort.flatK encE 6 d).toList := by
   refine ⟨by rw [Array.length_toList, Go.Sort.size_flatK], fun e => by have := hf.nl e; omega, fun a ha t u hu => ?_, fun u hu => ?_⟩
   ·have hlt := (List.getElem?_eq_some_iff.1 hu).1
    rw [Array.length_toList, Go.Sort.size_flatK] at hlt
    have h2 := Go.Sort.get_flatK encE 6 d t hlt
    rw [Array.getElem?_toList, Array.getElem?_eq_getElem (by rw [Go.Sort.size_flatK]; exact hlt)] at hu
    rw [getElem!_pos _ t (by rw [Go.Sort.size_flatK]; exact hlt), Option.some.inj hu] at h2
    obtain ⟨e, he, hde⟩ := hgd (t / 6) (by omega)
    rw [hde, (entOf_val e.1 (hf.hv _ e he).2).2.2] at h2
    have h3 := (hf.hl a ha (t / 6) e he).2 (t % 6) u (by
     have h5 := (hf.hv _ e he).1
     rw [h2, List.getElem!_eq_getElem?_getD, List.getElem?_eq_getElem (by simp; omega)]
     rfl)
    have ha2 : (a.add (t / 6 * 6)).add (t % 6) = a.add t := by rw [add_add5, show t / 6 * 6 + t % 6 = t by omega]
    rw [ha2] at h3
    exact h3
   ·obtain ⟨t, hu⟩ := List.getElem?_of_mem hu
    have hlt := (List.getElem?_eq_some_iff.1 hu).1
    rw [Array.length_toList, Go.Sort.size_flatK] at hlt
    have h2 := Go.Sort.get_flatK encE 6 d t hlt
    rw [Array.getElem?_toList, Array.getElem?_eq_getElem (by rw [Go.Sort.size_flatK]; exact hlt)] at hu
    rw [getElem!_pos _ t (by rw [Go.Sort.size_flatK]; exact hlt), Option.some.inj hu] at h2
    rw [h2]
    have hm : t % 6 < 6 := Nat.mod_lt _ (by omega)
    generalize t % 6 = q at hm
    match q, hm with
    | 0, _ => rfl
    | 1, _ => rfl
    | 2, _ => rfl
    | 3, _ => rfl
    | 4, _ => rfl
    | 5, _ => rfl
  have hpairs : d.toList.map (fun x => (x.1, Y x)) = es := by
   rw [hdt]
   apply List.ext_getElem?
   intro i
   rw [List.getElem?_map]
   by_cases hi : i < es.length
   ·obtain ⟨x, hx⟩ : ∃ x, dl[i]? = some x := ⟨_, List.getElem?_eq_getElem (by omega)⟩
    obtain ⟨e, he, rfl⟩ := hat i x hx
    rw [hx, he, Option.map_some, hYe i e he, (entOf_val e.1 (hf.hv i e he).2).2.1]
   ·rw [List.getElem?_eq_none (by omega), List.getElem?_eq_none (by omega)]
    rfl
  have CR := rec_any al cl B d Y w hsh (fun x hx => by
   obtain ⟨i, e, he, rfl⟩ := hmem x hx
   have h1 := (hf.hv i e he).2
   rw [hYe i e he, (entOf_val e.1 h1).1]
   exact h1) (fun x hx => by
   obtain ⟨i, e, he, rfl⟩ := hmem x hx
   rw [(entOf_val e.1 (hf.hv i e he).2).2.1]
   exact hf.bt e (List.mem_of_getElem? he)) hBs (by omega)
  rw [hds] at CR
  refine CR.mono ?_
  rintro e w' ⟨d', x', ⟨hs1, hs2, hs3⟩, rfl, b, q1, q2⟩
  have hcd := code_doc es (d'.toList.map (fun x => (x.1, Y x))) (by omega) (by rw [← hpairs]; exact hs2.map _) (by
   rw [List.pairwise_map, List.pairwise_iff_getElem]
   intro i j hi hj hij
   have h1 : i < d'.size := by simpa using hi
   have h2 : j < d'.size := by simpa using hj
   have h3 := hs3 i j hij (by omega)
   rw [getElem!_pos d' i h1, getElem!_pos d' j h2] at h3
   simpa using h3)
  rw [List.map_map, List.map_map] at hcd
  have hcd1 : recC (d'.toList.map (fun x => x.1)) (d'.toList.map Y) = docC es := hcd.1
  have hcd2 : docC es = 0 → Vl.mk 5 0 ⟨#[]⟩ (d'.toList.map Y) (d'.toList.map (fun x => x.1)) = recOf es := hcd.2
  rw [hcd1] at q1 q2
  refine ⟨x', by rw [hcd1], b, ?_⟩
  unfold rcV
  by_cases h : docC es = 0
  ·rw [if_pos h, ← hcd2 h]; exact q1 h
  ·rw [if_neg h, q2 h]; exact zero_isQ _ _
def rotR (x : Int) (n : Nat) : Int := bits .or .u32 (IntKind.u32.wrap (x * 2 ^ (32 - n))) (x / 2 ^ n)
theorem and_all : ∀ n : Fin 32, 1 ≤ n.val → bits .and .u64 (IntKind.u64.wrap (-(n.val : Int))) 31 = 32 - (n.val : Int) := by decide +kernel
theorem rotL_any (x : Int) (n : Nat) (w : World) (h1 : 1 ≤ n) (h2 : n ≤ 31) :
  Calls Tryz.prog 195 #[.int .u32 x, .int .i64 (-(n : Int))] w fun e w' => e = .returned (.int .u32 (rotR x n)) ∧ w' = w := by
 have e0 := and_all ⟨n, by omega⟩ h1
 simp only at e0
 have e1 : 32 - (32 - (n : Int)) = (n : Int) := by omega
 have e2 : (32 - (n : Int)).toNat = 32 - n := by omega
 have e3 : IntKind.u64.wrap (32 - (32 - (n : Int))) = (n : Int) := by rw [IntKind.wrap_u64]; omega
 have i1 : (0 : Int) ≤ (n : Int) := by omega
 have i2 : (n : Int) ≤ 32 := by omega
 have i3 : (0 : Int) ≤ 32 - (n : Int) := by omega
 have i4 : 32 - (n : Int) ≤ 32 := by omega
 go_enter Tryz.func195, Tryz.ntmps195
 go_wp2_with fail
 go_ret
 exact ⟨rfl, rfl⟩
theorem rightH_any (x N : Int) (w : World) (h1 : 1 ≤ N) (h2 : N ≤ 31) :
  Calls Tryz.prog 193 #[.int .u32 x, .int .i64 N] w fun e w' => e = .returned (.int .u32 (rotR x N.toNat)) ∧ w' = w := by
 obtain ⟨n, rfl⟩ : ∃ n : Nat, N = n := ⟨N.toNat, by omega⟩
 have C := fun w => hide (rotL_any x n w (by omega) (by omega))
 go_enter Tryz.func193, Tryz.ntmps193
 go_wp2_with fail
 refine (uh (C _)).mono ?_
 rintro e w1 ⟨rfl, rfl⟩
 go_wp2_with fail
 go_ret
 exact ⟨rfl, rfl⟩
def turns3 (x : Int) (a b c : Nat) : Int := bits .xor .u32 (bits .xor .u32 (rotR x a) (rotR x b)) (rotR x c)
theorem turns_any (x N M O : Int) (w : World) (h1 : 1 ≤ N) (h2 : N ≤ 31) (h3 : 1 ≤ M) (h4 : M ≤ 31) (h5 : 1 ≤ O) (h6 : O ≤ 31) :
  Calls Tryz.prog 183 #[.int .u32 x, .int .i64 N, .int .i64 M, .int .i64 O] w fun e w' => e = .returned (.int .u32 (turns3 x N.toNat M.toNat O.toNat)) ∧ w' = w := by
 have C1 := fun w => hide (rightH_any x N w h1 h2)
 have C2 := fun w => hide (rightH_any x M w h3 h4)
 have C3 := fun w => hide (rightH_any x O w h5 h6)
 unfold turns3
 go_enter Tryz.func183, Tryz.ntmps183
 go_wp2_with fail
 refine (uh (C1 _)).mono ?_
 rintro e w1 ⟨rfl, rfl⟩
 go_wp2_with fail
 refine (uh (C2 _)).mono ?_
 rintro e w2 ⟨rfl, rfl⟩
 go_wp2_with fail
 refine (uh (C3 _)).mono ?_
 rintro e w3 ⟨rfl, rfl⟩
 go_wp2_with fail
 go_ret
 exact ⟨rfl, rfl⟩
theorem bits_bounds (op : BinOp) (a b : Int) : 0 ≤ bits op .u32 a b ∧ bits op .u32 a b ≤ 4294967295 := by
 unfold bits
 simp only [IntKind.wrap_u32']
 omega
def Words (w : World) (g : Nat) (T : TypeId) (ws : List Int) : Prop := w.heap[g]? = some (.cells (ws.map (Value.int .u32)).toArray T (0, 0))
theorem Words.cell {w : World} {g : Nat} {T : TypeId} {ws : List Int} (h : Words w g T ws) (j : Nat) (hj : j < ws.length) : w.cell? ⟨g, j, none⟩ = some (.int .u32 (ws.getD j 0)) := by
 rw [cell_of_row w g j _ T (0, 0) h]
 simp [List.getD, hj]
theorem Words.free {w : World} {g : Nat} {T : TypeId} {ws : List Int} (h : Words w g T ws) (j : Nat) : w.frozen? ⟨g, j, none⟩ = false := frozen_of_row w g j _ T h
theorem Words.set {w : World} {g : Nat} {T : TypeId} {ws : List Int} (h : Words w g T ws) (j : Nat) (x : Int) : Words (w.setCell ⟨g, j, none⟩ (.int .u32 x)) g T (ws.set j x) := by
 have := heap_setCell_same w g j _ T (.int .u32 x) h
 unfold Words
 rw [this]
 simp [List.map_set]
theorem Words.drewN {w : World} {g : Nat} {T : TypeId} {ws : List Int} (h : Words w g T ws) (q : Nat) : Words (w.drewN q) g T ws := h
theorem words_one (xs : List Int) : (xs.map (Value.int .u32)).toArray.all (·.oneCell') = true :=
 all_oneCell_toArray (by intro v hv; obtain ⟨n, _, rfl⟩ := List.mem_map.1 hv; rfl)
theorem mem_set' (ws : List Int) (t : Nat) (x : Int) (hx : 0 ≤ x ∧ x ≤ 4294967295) (h : ∀ y ∈ ws, 0 ≤ y ∧ y ≤ 4294967295) : ∀ y ∈ ws.set t x, 0 ≤ y ∧ y ≤ 4294967295 := by
 intro y hy
 rcases List.mem_or_eq_of_mem_set hy with h1 | h1
 ·exact h y h1
 ·rw [h1]; exact hx
theorem getD_bounds {ws : List Int} {m : Int} (h : ∀ y ∈ ws, 0 ≤ y ∧ y ≤ m) (hm : 0 ≤ m) (j : Nat) : 0 ≤ ws.getD j 0 ∧ ws.getD j 0 ≤ m := by
 by_cases hj : j < ws.length
 ·have g : ws.getD j 0 = ws[j] := by simp [List.getD, hj]
  rw [g]; exact h _ (List.getElem_mem _)
 ·have g : ws.getD j 0 = 0 := by simp [List.getD, List.getElem?_eq_none (by omega : ws.length ≤ j)]
  rw [g]; exact ⟨Int.le_refl _, hm⟩
theorem wpList_load_blk {P : Program} {w : World} {ops : Array Oper} {rest : List Oper} {o : Oper} {a : Act} {Q : Exit → Act → World → Prop} (hgd : o.guard = none) (T : TypeId) (x : Operand) (ho : o.op = .load T x)
  (g : Nat) (c : Array Value) (d : TypeDesc) (hx : a.eval x = .pointer (some ⟨g, 0, none⟩)) (hb : w.heap[g]? = some (.cells c T (0, 0))) (hu : P.underlying T = some d) (hd : d.isRow = true) (hi : (P.info? T).map (·.size) = some c.size)
  (h : wpList P ops Q rest (a.put o.dst (.agg c)) w) : wpList P ops Q (o :: rest) a w := by
 refine wpList_load_mid hgd T x ho g 0 hx c.toList d ?_ hu hd (by simpa using hi) (by simpa using h)
 intro j v hv
 rw [Nat.zero_add, cell_of_row w g j c T (0, 0) hb]
 simpa using hv
theorem wpList_load_tbl {P : Program} {w : World} {ops : Array Oper} {rest : List Oper} {o : Oper} {a : Act} {Q : Exit → Act → World → Prop} (hgd : o.guard = none) (T : TypeId) (x : Operand) (ho : o.op = .load T x)
  (g : Nat) (c : Array Value) (n : Nat) (e t : TypeId) (hx : a.eval x = .pointer (some ⟨g, 0, none⟩)) (hb : w.heap[g]? = some (.cells c t (0, 0))) (hu : P.underlying T = some (.array n e)) (hi : (P.info? T).map (·.size) = some c.size)
  (h : wpList P ops Q rest (a.put o.dst (.agg c)) w) : wpList P ops Q (o :: rest) a w := by
 refine wpList_load_mid hgd T x ho g 0 hx c.toList (.array n e) ?_ hu rfl (by simpa using hi) (by simpa using h)
 intro j v hv
 rw [Nat.zero_add, cell_of_row w g j c t (0, 0) hb]
 simpa using hv
theorem zinfo {P : Program} {T : TypeId} {z : Array Value} (h : (P.info? T).map (fun i => i.zero) = some (some (.agg z))) : ∃ i, P.info? T = some i ∧ i.zero = some (.agg z) := by
 cases hq : P.info? T with
 | none => rw [hq] at h; cases h
 | some i => rw [hq] at h; simp at h; exact ⟨i, rfl, by simpa using h⟩
def zw8 : Array Value := ((List.replicate 8 (0 : Int)).map (Value.int .u32)).toArray
def zw64 : Array Value := ((List.replicate 64 (0 : Int)).map (Value.int .u32)).toArray
def zb32 : Array Value := ((List.replicate 32 (0 : Int)).map (Value.int .u8)).toArray
def zb72 : Array Value := ((List.replicate 72 (0 : Int)).map (Value.int .u8)).toArray
theorem zi8 : ∃ i, Tryz.prog.info? 113 = some i ∧ i.zero = some (.agg zw8) := zinfo (by kernel_rfl)
theorem zi64 : ∃ i, Tryz.prog.info? 111 = some i ∧ i.zero = some (.agg zw64) := zinfo (by kernel_rfl)
theorem zi32 : ∃ i, Tryz.prog.info? 94 = some i ∧ i.zero = some (.agg zb32) := zinfo (by kernel_rfl)
theorem zi72 : ∃ i, Tryz.prog.info? 167 = some i ∧ i.zero = some (.agg zb72) := zinfo (by kernel_rfl)
theorem sw8 : (Tryz.prog.info? 113).map (·.size) = some 8 := by kernel_rfl
theorem sw64 : (Tryz.prog.info? 111).map (·.size) = some 64 := by kernel_rfl
theorem sb32 : (Tryz.prog.info? 94).map (·.size) = some 32 := by kernel_rfl
theorem sb64 : (Tryz.prog.info? 149).map (·.size) = some 64 := by kernel_rfl
theorem s1b : (Tryz.prog.info? 5).map (·.size) = some 1 := by kernel_rfl
theorem s1w : (Tryz.prog.info? 110).map (·.size) = some 1 := by kernel_rfl
theorem sizeB {T : TypeId} {n : Nat} {l : List Int} (h : (Tryz.prog.info? T).map (·.size) = some n) (hl : l.length = n) : (Tryz.prog.info? T).map (·.size) = some (l.map (Value.int .u8)).toArray.size := by
 rw [show (l.map (Value.int .u8)).toArray.size = n by simp [hl]]
 exact h
theorem sizeW {T : TypeId} {n : Nat} {l : List Int} (h : (Tryz.prog.info? T).map (·.size) = some n) (hl : l.length = n) : (Tryz.prog.info? T).map (·.size) = some (l.map (Value.int .u32)).toArray.size := by
 rw [show (l.map (Value.int .u32)).toArray.size = n by simp [hl]]
 exact h
theorem arr_at8 {ds : List Int} {i : Nat} (h : i < ds.length) : (ds.map (Value.int .u8)).toArray[i]? = some (.int .u8 (ds.getD i 0)) := by
 simp [List.getD, h]
theorem arr_at32 {ds : List Int} {i : Nat} (h : i < ds.length) : (ds.map (Value.int .u32)).toArray[i]? = some (.int .u32 (ds.getD i 0)) := by
 simp [List.getD, h]
end Go.Proofs.YtgkmdjmigehmeaaGreatDoor
