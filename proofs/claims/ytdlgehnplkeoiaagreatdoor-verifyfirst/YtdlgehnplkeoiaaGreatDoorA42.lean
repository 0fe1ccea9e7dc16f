/-
  Layer 12 (verify): a module's fault is that of the first function that has one, and it lies within that function's code; plain lists, no conditions.
-/
import Derived.Test.YtdlgehnplkeoiaaGreatDoorA41
import Derived.Test.YtdlgehnplkeoiaaGreatDoorA40
set_option linter.unusedVariables false
set_option linter.unusedSimpArgs false
namespace Go.Proofs.YtdlgehnplkeoiaaGreatDoor
open Go.RowKit

theorem wlk_place {b : Bo} (hf : Fit b) : ∀ (f : Nat) (at' : Int) (s : Sv), Inv b.ps b.sk s → mu b.ps s ≤ f → at' ∈ b.ps → (wlk b f at' s).2.1 ∈ b.ps
  | 0, at', (H, W), v, hm, hp => hp
  | f + 1, at', (H, []), v, hm, hp => hp
  | f + 1, at', (H, x :: W), v, hm, hpl => by
    obtain ⟨v2, hmu, hin, hh, hlk, hh0, hh1⟩ := v.pop
    unfold wlk
    by_cases hp : (b.pas (H, W) x).2 = 0
    · rw [if_pos hp]
      obtain ⟨i, hi, him, _⟩ := hf.at hin
      have hpe : b.pas (H, W) x = pasI b.m b.sk (b.ls.getD (b.ps.idxOf x) (0, 0)) hh := by
        unfold Bo.pas
        rw [hlk]
        rfl
      have hpk := pas_ok (m := b.m) (sk := b.sk) (i := i) (h := hh) (hf.sml i him).2.2.1 (by rw [hpe, getD_of hi] at hp; exact hp)
      have hp1 : 0 ≤ (b.pas (H, W) x).1 ∧ (b.pas (H, W) x).1 ≤ b.sk := by rw [hpe, getD_of hi]; exact hpk
      have hld : ∀ n ∈ b.lds x, n = b.L ∨ n ∈ b.ps := by
        have := hf.lds (b.ps.idxOf x) i him
        unfold Bo.lds
        rw [getD_of hi]
        exact this
      obtain ⟨v3, hmu3⟩ := Inv.rchs (L := b.L) hp1.1 hp1.2 (b.lds x) v2 hld
      by_cases hr : (rchs b.L (b.pas (H, W) x).1 (b.lds x) (H, W)).2 = 0
      · rw [if_pos hr]
        exact wlk_place hf f x _ v3 (by omega) hin
      · rw [if_neg hr]
        exact hin
    · rw [if_neg hp]
      exact hin

/-- where a function's fault is -/
theorem look_place {m : Md} {fn : Fn} (hm : ∀ f ∈ m.fs, fnB f = true) (hc : ∀ v ∈ m.cs, v.l.length ≤ 140737488351232) (hfn : fnB fn = true) :
    0 ≤ (lookF m fn).2.1 ∧ (lookF m fn).2.1 ≤ (fn.2.2.2.size : Int) := by
  unfold lookF
  by_cases h1 : (lsF fn.2.2.2).2.2.2 = 0
  · rw [if_pos h1]
    obtain ⟨_, q2, _, _, _, _⟩ := lsF_good h1
    by_cases h2 : (lsF fn.2.2.2).1 = []
    · rw [if_pos h2]
      exact ⟨Int.le_refl _, Int.natCast_nonneg _⟩
    · rw [if_neg h2]
      by_cases h3 : (opsE m fn.2.1 (lsF fn.2.2.2).2.1 (lsF fn.2.2.2).1 (lsF fn.2.2.2).2.1).2 = 0
      · rw [if_pos h3]
        have hfit := fitB_of hm hc hfn h1 h2 h3
        have h0m : (0 : Int) ∈ (boF m fn).ps := by obtain ⟨r, hr⟩ := hfit.snd.fst; rw [hr]; simp
        obtain ⟨v0, m0⟩ := Inv.start (ps := (boF m fn).ps) (sk := (boF m fn).sk) h0m hfit.s0
        have := q2 _ (wlk_place hfit _ 0 _ v0 m0 h0m)
        exact ⟨this.1, Int.le_of_lt this.2⟩
      · rw [if_neg h3]
        have := q2 _ (opsE_bad _ _ _ _ _ h3)
        exact ⟨this.1, Int.le_of_lt this.2⟩
  · rw [if_neg h1]
    have := lst_bad (zsT fn.2.2.2) (zsT fn.2.2.2).length 0 h1
    rw [zsT_len] at this
    unfold lsF
    rw [zsT_len]
    exact ⟨this.1, Int.le_of_lt this.2⟩

theorem modN_skip (m : Md) : ∀ (i n f : Nat), i ≤ n → (∀ j, f ≤ j → j < f + i → (fltF m j).1 = 0) → modN m n f = modN m (n - i) (f + i)
  | 0, n, f, _, _ => rfl
  | i + 1, 0, f, h, _ => by omega
  | i + 1, n + 1, f, h, hj => by
    rw [modN, if_pos (hj f (by omega) (by omega)), modN_skip m i n (f + 1) (by omega) (fun j h1 h2 => hj j (by omega) (by omega))]
    rw [show n + 1 - (i + 1) = n - i by omega, show f + (i + 1) = f + 1 + i by omega]

/-- what Heights tells of the functions of a right module, one behind the other -/
theorem first_none {m : Md} (hr : rightM m = true) (hz : ∀ j, j < m.fs.length → (fltF m j).1 = 0) : modF m = (0, 0, 0) := by
  unfold modF
  rw [if_pos hr, modN_skip m m.fs.length m.fs.length 0 (Nat.le_refl _) (fun j _ h => hz j (by omega)), Nat.sub_self]
  rfl

theorem first_some {m : Md} (hr : rightM m = true) {k : Nat} (hk : k < m.fs.length) (hz : ∀ j, j < k → (fltF m j).1 = 0) (hn : ¬ (fltF m k).1 = 0) : modF m = fltF m k := by
  unfold modF
  rw [if_pos hr, modN_skip m k m.fs.length 0 (by omega) (fun j _ h => hz j (by omega)), Nat.zero_add]
  obtain ⟨r, hr⟩ : ∃ r, m.fs.length - k = r + 1 := ⟨m.fs.length - k - 1, by omega⟩
  rw [hr, modN, if_neg hn]

theorem hgt_right {m : Md} (hr : rightM m = true) {k : Nat} (hk : k < m.fs.length) : hgtF m (k : Int) = (htsF m k, fltF m k) := by
  unfold hgtF
  rw [if_pos ⟨hr, by omega, by omega⟩, Int.toNat_natCast]

theorem flt_none {m : Md} {k : Nat} (h : (fltF m k).1 = 0) : fltF m k = (0, 0, 0) := by
  unfold fltF at h ⊢
  split at h
  · rename_i h0
    rw [if_pos h0]
  · rename_i h0
    exact absurd h h0

theorem flt_some {m : Md} (hm : ∀ f ∈ m.fs, fnB f = true) (hc : ∀ v ∈ m.cs, v.l.length ≤ 140737488351232) {k : Nat} {fn : Fn} (hy : m.fs[k]? = some fn) (h : ¬ (fltF m k).1 = 0) :
    ∃ c p : Int, fltF m k = (c, (k : Int), p) ∧ ¬ c = 0 ∧ 0 ≤ p ∧ p ≤ (fn.2.2.2.size : Int) ∧ htsF m k = [] := by
  unfold fltF at h ⊢
  unfold htsF
  rw [getD_of hy] at h ⊢
  by_cases h0 : (lookF m fn).2.2 = 0
  · rw [if_pos h0] at h
    exact absurd rfl h
  · rw [if_neg h0, if_neg h0]
    have := look_place hm hc (hm _ (List.mem_of_getElem? hy))
    exact ⟨_, _, rfl, h0, this.1, this.2, rfl⟩
end Go.Proofs.YtdlgehnplkeoiaaGreatDoor
