/-
  Layer 12 (verify): a module's fault is that of the first function that has one, and it lies within that function's code; plain lists, no conditions.
  Layer 12 (verify): what stands behind in a module changes no fault of a function but where an operand named nothing; plain lists, no conditions.
-/
import Derived.Test.YtdlgehnplkeoiaaGreatDoorB39
import Derived.Test.YtdlgehnplkeoiaaGreatDoorB38
set_option linter.unusedVariables false
set_option linter.unusedSimpArgs false
namespace Go.Proofs.YtdlgehnplkeoiaaGreatDoor
open Go.RowKit

theorem wlk_place {b : Bo} (hf : Fit b) : ∀ (f : Nat) (at' : Int) (s : Sv), Inv b.ps b.sk s → mu b.ps s ≤ f → at' ∈ b.ps → (wlk b f at' s).2.1 ∈ b.ps
  | 0, at', (H, W), v, hm, hp => hp
  | f + 1, at', (H, []), v, hm, hp => hp
  | f + 1, at', (H, x :: W), v, hm, hpl => by
    obtain ⟨v2, hmu, hin, hh, hlk, hh0, hh1⟩ := v.pop
    unfold wlk
    by_cases hp : (b.pas (H, W) x).2 = 0
    · rw [if_pos hp]
      obtain ⟨i, hi, him, _⟩ := hf.at hin
      have hpe : b.pas (H, W) x = pasI b.m b.sk (b.ls.getD (b.ps.idxOf x) (0, 0)) hh := by
        unfold Bo.pas
        rw [hlk]
        rfl
      have hpk := pas_ok (m := b.m) (sk := b.sk) (i := i) (h := hh) (hf.sml i him).2.2.1 (by rw [hpe, getD_of hi] at hp; exact hp)
      have hp1 : 0 ≤ (b.pas (H, W) x).1 ∧ (b.pas (H, W) x).1 ≤ b.sk := by rw [hpe, getD_of hi]; exact hpk
      have hld : ∀ n ∈ b.lds x, n = b.L ∨ n ∈ b.ps := by
        have := hf.lds (b.ps.idxOf x) i him
        unfold Bo.lds
        rw [getD_of hi]
        exact this
      obtain ⟨v3, hmu3⟩ := Inv.rchs (L := b.L) hp1.1 hp1.2 (b.lds x) v2 hld
      by_cases hr : (rchs b.L (b.pas (H, W) x).1 (b.lds x) (H, W)).2 = 0
      · rw [if_pos hr]
        exact wlk_place hf f x _ v3 (by omega) hin
      · rw [if_neg hr]
        exact hin
    · rw [if_neg hp]
      exact hin

/-- where a function's fault is -/
theorem look_place {m : Md} {fn : Fn} (hm : ∀ f ∈ m.fs, fnB f = true) (hc : ∀ v ∈ m.cs, v.l.length ≤ 140737488351232) (hfn : fnB fn = true) :
    0 ≤ (lookF m fn).2.1 ∧ (lookF m fn).2.1 ≤ (fn.2.2.2.size : Int) := by
  unfold lookF
  by_cases h1 : (lsF fn.2.2.2).2.2.2 = 0
  · rw [if_pos h1]
    obtain ⟨_, q2, _, _, _, _⟩ := lsF_good h1
    by_cases h2 : (lsF fn.2.2.2).1 = []
    · rw [if_pos h2]
      exact ⟨Int.le_refl _, Int.natCast_nonneg _⟩
    · rw [if_neg h2]
      by_cases h3 : (opsE m fn.2.1 (lsF fn.2.2.2).2.1 (lsF fn.2.2.2).1 (lsF fn.2.2.2).2.1).2 = 0
      · rw [if_pos h3]
        have hfit := fitB_of hm hc hfn h1 h2 h3
        have h0m : (0 : Int) ∈ (boF m fn).ps := by obtain ⟨r, hr⟩ := hfit.snd.fst; rw [hr]; simp
        obtain ⟨v0, m0⟩ := Inv.start (ps := (boF m fn).ps) (sk := (boF m fn).sk) h0m hfit.s0
        have := q2 _ (wlk_place hfit _ 0 _ v0 m0 h0m)
        exact ⟨this.1, Int.le_of_lt this.2⟩
      · rw [if_neg h3]
        have := q2 _ (opsE_bad _ _ _ _ _ h3)
        exact ⟨this.1, Int.le_of_lt this.2⟩
  · rw [if_neg h1]
    have := lst_bad (zsT fn.2.2.2) (zsT fn.2.2.2).length 0 h1
    rw [zsT_len] at this
    unfold lsF
    rw [zsT_len]
    exact ⟨this.1, Int.le_of_lt this.2⟩

theorem modN_skip (m : Md) : ∀ (i n f : Nat), i ≤ n → (∀ j, f ≤ j → j < f + i → (fltF m j).1 = 0) → modN m n f = modN m (n - i) (f + i)
  | 0, n, f, _, _ => rfl
  | i + 1, 0, f, h, _ => by omega
  | i + 1, n + 1, f, h, hj => by
    rw [modN, if_pos (hj f (by omega) (by omega)), modN_skip m i n (f + 1) (by omega) (fun j h1 h2 => hj j (by omega) (by omega))]
    rw [show n + 1 - (i + 1) = n - i by omega, show f + (i + 1) = f + 1 + i by omega]

/-- what Heights tells of the functions of a right module, one behind the other -/
theorem first_none {m : Md} (hr : rightM m = true) (hz : ∀ j, j < m.fs.length → (fltF m j).1 = 0) : modF m = (0, 0, 0) := by
  unfold modF
  rw [if_pos hr, modN_skip m m.fs.length m.fs.length 0 (Nat.le_refl _) (fun j _ h => hz j (by omega)), Nat.sub_self]
  rfl

theorem first_some {m : Md} (hr : rightM m = true) {k : Nat} (hk : k < m.fs.length) (hz : ∀ j, j < k → (fltF m j).1 = 0) (hn : ¬ (fltF m k).1 = 0) : modF m = fltF m k := by
  unfold modF
  rw [if_pos hr, modN_skip m k m.fs.length 0 (by omega) (fun j _ h => hz j (by omega)), Nat.zero_add]
  obtain ⟨r, hr⟩ : ∃ r, m.fs.length - k = r + 1 := ⟨m.fs.length - k - 1, by omega⟩
  rw [hr, modN, if_neg hn]

theorem hgt_right {m : Md} (hr : rightM m = true) {k : Nat} (hk : k < m.fs.length) : hgtF m (k : Int) = (htsF m k, fltF m k) := by
  unfold hgtF
  rw [if_pos ⟨hr, by omega, by omega⟩, Int.toNat_natCast]

theorem flt_none {m : Md} {k : Nat} (h : (fltF m k).1 = 0) : fltF m k = (0, 0, 0) := by
  unfold fltF at h ⊢
  split at h
  · rename_i h0
    rw [if_pos h0]
  · rename_i h0
    exact absurd h h0

theorem flt_some {m : Md} (hm : ∀ f ∈ m.fs, fnB f = true) (hc : ∀ v ∈ m.cs, v.l.length ≤ 140737488351232) {k : Nat} {fn : Fn} (hy : m.fs[k]? = some fn) (h : ¬ (fltF m k).1 = 0) :
    ∃ c p : Int, fltF m k = (c, (k : Int), p) ∧ ¬ c = 0 ∧ 0 ≤ p ∧ p ≤ (fn.2.2.2.size : Int) ∧ htsF m k = [] := by
  unfold fltF at h ⊢
  unfold htsF
  rw [getD_of hy] at h ⊢
  by_cases h0 : (lookF m fn).2.2 = 0
  · rw [if_pos h0] at h
    exact absurd rfl h
  · rw [if_neg h0, if_neg h0]
    have := look_place hm hc (hm _ (List.mem_of_getElem? hy))
    exact ⟨_, _, rfl, h0, this.1, this.2, rfl⟩
end Go.Proofs.YtdlgehnplkeoiaaGreatDoor

namespace Go.Proofs.YtdlgehnplkeoiaaGreatDoor
open Go.RowKit

/-- one more constant and function -/
def moreM (m : Md) (v : Vl) (x : Fn) : Md := ⟨m.cs ++ [v], m.fs ++ [x], m.xs⟩

theorem getD_more {α : Type} (l : List α) (x d : α) (n : Nat) (h : n < l.length) : (l ++ [x]).getD n d = l.getD n d := by
  simp [List.getD, List.getElem?_append_left h]

theorem faultI_low {op a : Int} (h : faultI op a = 0) : 0 ≤ a := by
  unfold faultI at h
  split at h
  · split at h
    · rename_i h1
      exact h1.1
    · omega
  · omega

theorem opE_more {m : Md} {v : Vl} {x : Fn} {lo : Int} {ps : List Int} {i : Ins} (h0 : 0 ≤ i.2) (h : ¬ opE m lo ps i = 122) : opE (moreM m v x) lo ps i = opE m lo ps i := by
  unfold opE at h ⊢
  unfold moreM
  simp only [List.length_append, List.length_singleton]
  by_cases s1 : srt i.1 = 1
  · rw [if_pos s1] at h
    rw [if_pos s1, if_pos s1]
    split at h
    · rename_i hc
      rw [getD_more _ _ _ _ (by omega), if_pos ⟨by omega, hc.2⟩, if_pos hc]
    · exact absurd rfl h
  · rw [if_neg s1, if_neg s1]
    by_cases s2 : srt i.1 = 2
    · rw [if_pos s2, if_pos s2]
    · rw [if_neg s2, if_neg s2]
      by_cases s4 : srt i.1 = 4
      · rw [if_neg s1, if_neg s2, if_pos s4] at h
        rw [if_pos s4, if_pos s4]
        split at h
        · rename_i hc
          rw [if_pos (by omega), if_pos hc]
        · exact absurd rfl h
      · rw [if_neg s4, if_neg s4]

theorem opsE_more {m : Md} {v : Vl} {x : Fn} {lo : Int} {ps : List Int} : ∀ (ls : List Ins) (q : List Int), (∀ i ∈ ls, 0 ≤ i.2) → ¬ (opsE m lo ps ls q).2 = 122 → opsE (moreM m v x) lo ps ls q = opsE m lo ps ls q
  | [], _, _, _ => rfl
  | _ :: _, [], _, _ => rfl
  | i :: r, p :: q, hl, h => by
    unfold opsE at h ⊢
    by_cases h0 : opE m lo ps i = 0
    · rw [if_pos h0] at h
      rw [opE_more (hl i List.mem_cons_self) (by omega), if_pos h0, if_pos h0]
      exact opsE_more r q (fun j hj => hl j (List.mem_cons_of_mem _ hj)) h
    · rw [if_neg h0] at h
      rw [opE_more (hl i List.mem_cons_self) h, if_neg h0, if_neg h0]

theorem tkI_more {m : Md} {v : Vl} {x : Fn} {i : Ins} (h : Named m i) : tkI (moreM m v x) i = tkI m i := by
  have h0 := faultI_low h.flt
  unfold tkI moreM
  by_cases e8 : i.1 = 8
  · rw [if_pos e8, if_pos e8]
    simp only []
    rw [getD_more _ _ _ _ (by have := h.fn e8; omega)]
  · rw [if_neg e8, if_neg e8]
    by_cases e23 : i.1 = 23
    · rw [if_pos e23, if_pos e23]
    · rw [if_neg e23, if_neg e23]
      by_cases e24 : i.1 = 24
      · rw [if_pos e24, if_pos e24]
        simp only []
        rw [getD_more _ _ _ _ (by have := h.cn e24; omega)]
      · rw [if_neg e24, if_neg e24]

theorem wlk_more {m : Md} {v : Vl} {x : Fn} {fn : Fn} (hf : Fit (boF m fn)) : ∀ (f : Nat) (at' : Int) (s : Sv), Inv (boF m fn).ps (boF m fn).sk s → mu (boF m fn).ps s ≤ f → wlk (boF (moreM m v x) fn) f at' s = wlk (boF m fn) f at' s
  | 0, at', (H, W), v, hm => rfl
  | f + 1, at', (H, []), v, hm => rfl
  | f + 1, at', (H, a :: W), v', hm => by
    obtain ⟨v2, hmu, hin, hh, hlk, hh0, hh1⟩ := v'.pop
    obtain ⟨i, hi, him, _⟩ := hf.at hin
    have hpe : (boF m fn).pas (H, W) a = pasI m (boF m fn).sk ((boF m fn).ls.getD ((boF m fn).ps.idxOf a) (0, 0)) hh := by
      unfold Bo.pas
      rw [hlk]
      rfl
    have hpe2 : (boF (moreM m v x) fn).pas (H, W) a = (boF m fn).pas (H, W) a := by
      rw [hpe]
      unfold Bo.pas
      rw [hlk]
      show pasI (moreM m v x) (boF m fn).sk ((boF m fn).ls.getD ((boF m fn).ps.idxOf a) (0, 0)) hh = _
      rw [getD_of hi]
      unfold pasI
      rw [tkI_more (m := m) (hf.nam i him)]
    have hld2 : (boF (moreM m v x) fn).lds a = (boF m fn).lds a := rfl
    have hL : (boF (moreM m v x) fn).L = (boF m fn).L := rfl
    unfold wlk
    rw [hpe2, hld2, hL]
    by_cases hp : ((boF m fn).pas (H, W) a).2 = 0
    · rw [if_pos hp, if_pos hp]
      have hpk := pas_ok (m := m) (sk := (boF m fn).sk) (i := i) (h := hh) (hf.sml i him).2.2.1 (by rw [hpe, getD_of hi] at hp; exact hp)
      have hp1 : 0 ≤ ((boF m fn).pas (H, W) a).1 ∧ ((boF m fn).pas (H, W) a).1 ≤ (boF m fn).sk := by rw [hpe, getD_of hi]; exact hpk
      have hld : ∀ n ∈ (boF m fn).lds a, n = (boF m fn).L ∨ n ∈ (boF m fn).ps := by
        have := hf.lds ((boF m fn).ps.idxOf a) i him
        unfold Bo.lds
        rw [getD_of hi]
        exact this
      obtain ⟨v3, hmu3⟩ := Inv.rchs (L := (boF m fn).L) hp1.1 hp1.2 ((boF m fn).lds a) v2 hld
      by_cases hr : (rchs (boF m fn).L ((boF m fn).pas (H, W) a).1 ((boF m fn).lds a) (H, W)).2 = 0
      · rw [if_pos hr, if_pos hr]
        exact wlk_more hf f a _ v3 (by omega)
      · rw [if_neg hr, if_neg hr]
    · rw [if_neg hp, if_neg hp]

theorem look_more {m : Md} {v : Vl} {x : Fn} {fn : Fn} (hm : ∀ f ∈ m.fs, fnB f = true) (hc : ∀ v ∈ m.cs, v.l.length ≤ 140737488351232) (hfn : fnB fn = true) (h : ¬ (lookF m fn).2.2 = 122) : lookF (moreM m v x) fn = lookF m fn := by
  unfold lookF at h ⊢
  by_cases h1 : (lsF fn.2.2.2).2.2.2 = 0
  · rw [if_pos h1] at h
    rw [if_pos h1, if_pos h1]
    obtain ⟨_, _, _, q4, _, _⟩ := lsF_good h1
    by_cases h2 : (lsF fn.2.2.2).1 = []
    · rw [if_pos h2, if_pos h2]
    · rw [if_neg h2] at h
      rw [if_neg h2, if_neg h2]
      have hne : ¬ (opsE m fn.2.1 (lsF fn.2.2.2).2.1 (lsF fn.2.2.2).1 (lsF fn.2.2.2).2.1).2 = 122 := by
        split at h
        · rename_i h3
          omega
        · exact h
      rw [opsE_more _ _ (fun i hi => faultI_low (q4 i hi)) hne]
      by_cases h3 : (opsE m fn.2.1 (lsF fn.2.2.2).2.1 (lsF fn.2.2.2).1 (lsF fn.2.2.2).2.1).2 = 0
      · rw [if_pos h3, if_pos h3]
        have hfit := fitB_of hm hc hfn h1 h2 h3
        have h0m : (0 : Int) ∈ (boF m fn).ps := by obtain ⟨r, hr⟩ := hfit.snd.fst; rw [hr]; simp
        obtain ⟨v0, m0⟩ := Inv.start (ps := (boF m fn).ps) (sk := (boF m fn).sk) h0m hfit.s0
        exact wlk_more hfit _ 0 _ v0 m0
      · rw [if_neg h3, if_neg h3]
  · rw [if_neg h1, if_neg h1]

/-- Heights of a function of the smaller module, if its fault is no operand's -/
theorem hgt_more {m : Md} {v : Vl} {x : Fn} (hr : rightM m = true) (hr2 : rightM (moreM m v x) = true) (hm : ∀ f ∈ m.fs, fnB f = true) (hc : ∀ v ∈ m.cs, v.l.length ≤ 140737488351232) {k : Nat} (hk : k < m.fs.length) (h : ¬ (hgtF m (k : Int)).2.1 = 122) :
    hgtF (moreM m v x) (k : Int) = hgtF m (k : Int) := by
  have hk2 : k < (moreM m v x).fs.length := by unfold moreM; simp; omega
  obtain ⟨fn, hy⟩ : ∃ fn, m.fs[k]? = some fn := ⟨_, List.getElem?_eq_getElem hk⟩
  have hy2 : (moreM m v x).fs[k]? = some fn := by unfold moreM; simp only []; rw [List.getElem?_append_left hk]; exact hy
  rw [hgt_right hr hk] at h ⊢
  rw [hgt_right hr2 hk2]
  have hl : ¬ (lookF m fn).2.2 = 122 := fun e => h (by
    unfold fltF
    rw [getD_of hy, if_neg (by omega)]
    exact e)
  have := look_more (v := v) (x := x) hm hc (hm _ (List.mem_of_getElem? hy)) hl
  unfold htsF fltF
  rw [getD_of hy, getD_of hy2, this]
end Go.Proofs.YtdlgehnplkeoiaaGreatDoor
