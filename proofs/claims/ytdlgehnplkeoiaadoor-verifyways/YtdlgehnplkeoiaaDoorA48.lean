/-
  Layer 12 (verify): on every way through a verified function the stack is as high as its height says; plain lists, no conditions.
  What the walk of VerifyWays leans on: on every way through a verified function the stack is as high as its height says; conditions: the package's variables, the form's own reach.
  The document's own Most, width and Put (layer 8): an instruction behind bytes, in new memory; conditions: the bytes at most 2^47.
-/
import Derived.Test.YtdlgehnplkeoiaaDoorA41
import Derived.Test.YtdlgehnplkeoiaaDoorA46
import Derived.Test.YtdlgehnplkeoiaaDoorA13
set_option linter.unusedVariables false
set_option linter.unusedSimpArgs false
namespace Go.Proofs.YtdlgehnplkeoiaaDoor
open Go.RowKit

/-- a place that was looked at leads where it leads, with as many values -/
def Done (b : Bo) (H : List (Int × Int)) (a : Int) : Prop :=
  ∃ h, H.lookup a = some h ∧ (pasI b.m b.sk (b.ls.getD (b.ps.idxOf a) (0, 0)) h).2 = 0 ∧ ∀ n ∈ b.lds a, n ≠ b.L ∧ H.lookup n = some (pasI b.m b.sk (b.ls.getD (b.ps.idxOf a) (0, 0)) h).1

/-- what is known stays known -/
def Sub (H H' : List (Int × Int)) : Prop := ∀ a h, H.lookup a = some h → H'.lookup a = some h

theorem Sub.refl (H : List (Int × Int)) : Sub H H := fun _ _ h => h
theorem Sub.trans {A B C : List (Int × Int)} (h : Sub A B) (k : Sub B C) : Sub A C := fun a x hx => k a x (h a x hx)

theorem Done.sub {b : Bo} {H H' : List (Int × Int)} {a : Int} (h : Done b H a) (s : Sub H H') : Done b H' a := by
  obtain ⟨x, h1, h2, h3⟩ := h
  exact ⟨x, s a x h1, h2, fun n hn => ⟨(h3 n hn).1, s n _ (h3 n hn).2⟩⟩

theorem rch_sub (L a h : Int) (s : Sv) : Sub s.1 (rch L a h s).1.1 := by
  unfold rch
  split
  · exact Sub.refl _
  · split
    · split <;> exact Sub.refl _
    · rename_i hn
      intro x y hx
      rw [lookup_cons']
      split
      · rename_i e
        rw [e, hn] at hx
        cases hx
      · exact hx

theorem rch_ok {L a h : Int} {s : Sv} (h0 : (rch L a h s).2 = 0) : a ≠ L ∧ (rch L a h s).1.1.lookup a = some h := by
  unfold rch at h0 ⊢
  split at h0
  · cases h0
  · rename_i hne
    rw [if_neg hne]
    refine ⟨hne, ?_⟩
    split at h0
    · rename_i x hx
      by_cases e : x = h
      · rw [if_pos e]
        rw [hx, e]
      · rw [if_neg e] at h0
        cases h0
    · rename_i hx
      simp only []
      rw [lookup_cons', if_pos rfl]

/-- who waits, or is new, waits behind it -/
theorem rch_wait (L a h : Int) (s : Sv) : (∀ x ∈ s.2, x ∈ (rch L a h s).1.2) ∧ (∀ x y, (rch L a h s).1.1.lookup x = some y → s.1.lookup x = some y ∨ x ∈ (rch L a h s).1.2) := by
  unfold rch
  split
  · exact ⟨fun x h => h, fun x y h => .inl h⟩
  · split
    · split <;> exact ⟨fun x h => h, fun x y h => .inl h⟩
    · refine ⟨fun x hx => (insW_mem a x s.2).2 (.inr hx), fun x y hx => ?_⟩
      rw [lookup_cons'] at hx
      split at hx
      · rename_i e
        exact .inr ((insW_mem a x s.2).2 (.inl e))
      · exact .inl hx

theorem rchs_all {L t : Int} : ∀ (l : List Int) (s : Sv), (rchs L t l s).2 = 0 → Sub s.1 (rchs L t l s).1.1 ∧ (∀ n ∈ l, n ≠ L ∧ (rchs L t l s).1.1.lookup n = some t) ∧ (∀ x ∈ s.2, x ∈ (rchs L t l s).1.2) ∧ (∀ x y, (rchs L t l s).1.1.lookup x = some y → s.1.lookup x = some y ∨ x ∈ (rchs L t l s).1.2)
  | [], s, _ => ⟨Sub.refl _, (fun n hn => by cases hn), fun x h => h, fun x y h => .inl h⟩
  | n :: r, s, h0 => by
    unfold rchs at h0 ⊢
    split at h0
    · rename_i h1
      rw [if_pos h1]
      obtain ⟨i1, i2, i3, i4⟩ := rchs_all r (rch L n t s).1 h0
      have s1 := rch_sub L n t s
      have o1 := rch_ok h1
      have w1 := rch_wait L n t s
      refine ⟨s1.trans i1, fun x hx => ?_, fun x hx => i3 x (w1.1 x hx), fun x y hx => ?_⟩
      · rcases List.mem_cons.1 hx with rfl | hx
        · exact ⟨o1.1, i1 _ _ o1.2⟩
        · exact i2 x hx
      · rcases i4 x y hx with h | h
        · rcases w1.2 x y h with h | h
          · exact .inl h
          · exact .inr (i3 x h)
        · exact .inr h
    · rename_i h1
      exact absurd h0 h1

/-- all that is known was looked at, or waits -/
def Seen (b : Bo) (s : Sv) : Prop := ∀ a h, s.1.lookup a = some h → Done b s.1 a ∨ a ∈ s.2

theorem wlk_done {b : Bo} (hf : Fit b) : ∀ (f : Nat) (at' : Int) (s : Sv), Inv b.ps b.sk s → mu b.ps s ≤ f → Seen b s → (wlk b f at' s).2.2 = 0 → (∀ a h, (wlk b f at' s).1.lookup a = some h → Done b (wlk b f at' s).1 a) ∧ Sub s.1 (wlk b f at' s).1
  | 0, at', (H, W), v, hm, hs, h0 => by
    have hW : W = [] := List.eq_nil_of_length_eq_zero (by unfold mu at hm; simp only [] at hm; omega)
    subst hW
    refine ⟨fun a h hl => ?_, Sub.refl _⟩
    rcases hs a h hl with q | q
    · exact q
    · cases q
  | f + 1, at', (H, []), v, hm, hs, h0 => by
    refine ⟨fun a h hl => ?_, Sub.refl _⟩
    rcases hs a h hl with q | q
    · exact q
    · cases q
  | f + 1, at', (H, a :: W), v, hm, hs, h0 => by
    obtain ⟨v2, hmu, hin, hh, hlk, hh0, hh1⟩ := v.pop
    unfold wlk at h0 ⊢
    by_cases hp : (b.pas (H, W) a).2 = 0
    · rw [if_pos hp] at h0 ⊢
      by_cases hr : (rchs b.L (b.pas (H, W) a).1 (b.lds a) (H, W)).2 = 0
      · rw [if_pos hr] at h0 ⊢
        obtain ⟨i, hi, him, _⟩ := hf.at hin
        have hpe : b.pas (H, W) a = pasI b.m b.sk (b.ls.getD (b.ps.idxOf a) (0, 0)) hh := by
          unfold Bo.pas
          rw [hlk]
          rfl
        have hpk := pas_ok (m := b.m) (sk := b.sk) (i := i) (h := hh) (hf.sml i him).2.2.1 (by rw [hpe, getD_of hi] at hp; exact hp)
        have hp1 : 0 ≤ (b.pas (H, W) a).1 ∧ (b.pas (H, W) a).1 ≤ b.sk := by rw [hpe, getD_of hi]; exact hpk
        have hld : ∀ n ∈ b.lds a, n = b.L ∨ n ∈ b.ps := by
          have := hf.lds (b.ps.idxOf a) i him
          unfold Bo.lds
          rw [getD_of hi]
          exact this
        obtain ⟨v3, hmu3⟩ := Inv.rchs (L := b.L) hp1.1 hp1.2 (b.lds a) v2 hld
        obtain ⟨r1, r2, r3, r4⟩ := rchs_all (b.lds a) (H, W) hr
        have hs2 : Seen b (rchs b.L (b.pas (H, W) a).1 (b.lds a) (H, W)).1 := fun x y hx => by
          rcases r4 x y hx with h | h
          · by_cases hxa : x = a
            · subst hxa
              exact .inl ⟨hh, r1 _ _ hlk, by rw [← hpe]; exact hp, fun n hn => by rw [← hpe]; exact r2 n hn⟩
            · rcases hs x y h with q | q
              · exact .inl (q.sub r1)
              · rcases List.mem_cons.1 q with e | e
                · exact absurd e hxa
                · exact .inr (r3 x e)
          · exact .inr h
        have ih := wlk_done hf f a _ v3 (by omega) hs2 h0
        exact ⟨ih.1, Sub.trans r1 ih.2⟩
      · rw [if_neg hr] at h0
        exact absurd h0 hr
    · rw [if_neg hp] at h0
      exact absurd h0 hp

theorem wlk_high {b : Bo} (hf : Fit b) : ∀ (f : Nat) (at' : Int) (s : Sv), Inv b.ps b.sk s → mu b.ps s ≤ f → ∀ a h, (wlk b f at' s).1.lookup a = some h → a ∈ b.ps ∧ 0 ≤ h ∧ h ≤ b.sk
  | 0, at', (H, W), v, hm, a, h, hl => v.high a h hl
  | f + 1, at', (H, []), v, hm, a, h, hl => v.high a h hl
  | f + 1, at', (H, x :: W), v, hm, a, h, hl => by
    obtain ⟨v2, hmu, hin, hh, hlk, hh0, hh1⟩ := v.pop
    unfold wlk at hl
    by_cases hp : (b.pas (H, W) x).2 = 0
    · rw [if_pos hp] at hl
      obtain ⟨i, hi, him, _⟩ := hf.at hin
      have hpe : b.pas (H, W) x = pasI b.m b.sk (b.ls.getD (b.ps.idxOf x) (0, 0)) hh := by
        unfold Bo.pas
        rw [hlk]
        rfl
      have hpk := pas_ok (m := b.m) (sk := b.sk) (i := i) (h := hh) (hf.sml i him).2.2.1 (by rw [hpe, getD_of hi] at hp; exact hp)
      have hp1 : 0 ≤ (b.pas (H, W) x).1 ∧ (b.pas (H, W) x).1 ≤ b.sk := by rw [hpe, getD_of hi]; exact hpk
      have hld : ∀ n ∈ b.lds x, n = b.L ∨ n ∈ b.ps := by
        have := hf.lds (b.ps.idxOf x) i him
        unfold Bo.lds
        rw [getD_of hi]
        exact this
      obtain ⟨v3, hmu3⟩ := Inv.rchs (L := b.L) hp1.1 hp1.2 (b.lds x) v2 hld
      by_cases hr : (rchs b.L (b.pas (H, W) x).1 (b.lds x) (H, W)).2 = 0
      · rw [if_pos hr] at hl
        exact wlk_high hf f x _ v3 (by omega) a h hl
      · rw [if_neg hr] at hl
        exact v3.high a h hl
    · rw [if_neg hp] at hl
      exact v2.high a h hl

/-- of a function that look finds no fault with: its beginning has height 0, and each way goes on so -/
theorem look_ways {m : Md} {fn : Fn} (hm : ∀ f ∈ m.fs, fnB f = true) (hc : ∀ v ∈ m.cs, v.l.length ≤ 140737488351232) (hfn : fnB fn = true) (h0 : (lookF m fn).2.2 = 0) :
    (lsF fn.2.2.2).2.2.2 = 0 ∧ ¬ (lsF fn.2.2.2).1 = [] ∧ Fit (boF m fn) ∧ (lookF m fn).1.lookup 0 = some 0 ∧ (∀ a h, (lookF m fn).1.lookup a = some h → Done (boF m fn) (lookF m fn).1 a ∧ a ∈ (lsF fn.2.2.2).2.1 ∧ 0 ≤ h ∧ h ≤ fn.2.2.1) := by
  have hl := h0
  unfold lookF at hl
  by_cases h1 : (lsF fn.2.2.2).2.2.2 = 0
  · rw [if_pos h1] at hl
    by_cases h2 : (lsF fn.2.2.2).1 = []
    · rw [if_pos h2] at hl
      cases hl
    · rw [if_neg h2] at hl
      by_cases h3 : (opsE m fn.2.1 (lsF fn.2.2.2).2.1 (lsF fn.2.2.2).1 (lsF fn.2.2.2).2.1).2 = 0
      · rw [if_pos h3] at hl
        have hfit := fitB_of hm hc hfn h1 h2 h3
        have e : lookF m fn = wlk (boF m fn) (lsF fn.2.2.2).2.1.length 0 ([(0, 0)], [0]) := by
          unfold lookF
          rw [if_pos h1, if_neg h2, if_pos h3]
        have h0m : (0 : Int) ∈ (boF m fn).ps := by obtain ⟨r, hr⟩ := hfit.snd.fst; rw [hr]; simp
        obtain ⟨v0, m0⟩ := Inv.start (ps := (boF m fn).ps) (sk := (boF m fn).sk) h0m hfit.s0
        have hs0 : Seen (boF m fn) ([(0, 0)], [0]) := fun a h hh => by
          rw [lookup_cons'] at hh
          split at hh
          · rename_i e2
            exact .inr (by rw [e2]; simp)
          · cases hh
        have hd := wlk_done hfit _ 0 _ v0 m0 hs0 hl
        refine ⟨h1, h2, hfit, ?_, fun a h hh => ?_⟩
        · rw [e]
          exact hd.2 0 0 (by simp)
        · rw [e] at hh ⊢
          refine ⟨hd.1 a h hh, ?_⟩
          exact wlk_high hfit _ 0 _ v0 m0 a h hh
      · rw [if_neg h3] at hl
        exact absurd hl h3
  · rw [if_neg h1] at hl
    cases hl
end Go.Proofs.YtdlgehnplkeoiaaDoor

namespace Go.Proofs.YtdlgehnplkeoiaaDoor
open Go.RowKit
set_option linter.unusedVariables false
set_option linter.unusedSimpArgs false

theorem fltF_fst (m : Md) (f : Nat) : (fltF m f).1 = 0 ↔ (lookF m (m.fs.getD f fn0)).2.2 = 0 := by
  unfold fltF
  split
  · rename_i h
    exact ⟨fun _ => h, fun _ => rfl⟩
  · rename_i h
    exact ⟨fun e => absurd e h, fun e => absurd e h⟩

theorem modN_zero (m : Md) : ∀ n f, (modN m n f).1 = 0 → ∀ k, f ≤ k → k < f + n → (fltF m k).1 = 0
  | 0, f, _, k, h1, h2 => by omega
  | n + 1, f, h, k, h1, h2 => by
    unfold modN at h
    split at h
    · rename_i h0
      by_cases hk : k = f
      · rw [hk]; exact h0
      · exact modN_zero m n (f + 1) h k (by omega) (by omega)
    · rename_i h0
      exact absurd h h0

/-- of a verified module: it is right, and no function has a fault -/
theorem modF_zero {m : Md} (h : (modF m).1 = 0) : rightM m = true ∧ ∀ k, k < m.fs.length → (lookF m (m.fs.getD k fn0)).2.2 = 0 := by
  unfold modF at h
  split at h
  · rename_i h0
    exact ⟨h0, fun k hk => (fltF_fst m k).1 (modN_zero m _ 0 h k (by omega) (by omega))⟩
  · cases h

/-- turns in memory -/
def RdB (w : World) (ao : Option Addr) (ts : List Bool) : Prop := ∀ j z, ts[j]? = some z → ∃ a, ao = some a ∧ w.cell? (a.add j) = some (.bool z)

theorem RdB.later {w w' : World} {ao : Option Addr} {zs : List Bool} (h : RdB w ao zs) (hb : Below w.heap.size w w') : RdB w' ao zs := fun j z hj => by
  obtain ⟨a, ha, hc⟩ := h j z hj
  exact ⟨a, ha, cell_ne hc (hb.block _ (cell_lt hc))⟩

/-- what a way is walked over -/
structure Wy (u : World) (B G : Nat) (m : Md) (b1 : Option Addr) (n1 d1 : Nat) (b2 : Option Addr) (n2 d2 : Nat) (b3 : Option Addr) (n3 d3 : Nat) (ah al ap ta : Option Addr) (hs : List Int) (ls : List Ins) (ps : List Int) (ts : List Bool) : Prop where
  box : u.heap[G]? = some (.cells #[.slice b1 n1 d1, .slice b2 n2 d2, .slice b3 n3 d3] 26 (0, 0))
  mod : IsM u (fun b => b < B) m b1 d1 b2 d2 b3 d3
  big : B ≤ u.heap.size
  hts : RdI u ah hs
  ins : RdN u al ls
  pls : RdI u ap ps
  trn : RdB u ta ts

theorem Wy.later {u u' : World} {B G : Nat} {m : Md} {b1 : Option Addr} {n1 d1 : Nat} {b2 : Option Addr} {n2 d2 : Nat} {b3 : Option Addr} {n3 d3 : Nat} {ah al ap ta : Option Addr} {hs : List Int} {ls : List Ins} {ps : List Int} {ts : List Bool} (h : Wy u B G m b1 n1 d1 b2 n2 d2 b3 n3 d3 ah al ap ta hs ls ps ts) (hb : Below u.heap.size u u') : Wy u' B G m b1 n1 d1 b2 n2 d2 b3 n3 d3 ah al ap ta hs ls ps ts :=
  ⟨(hb.block _ (Array.getElem?_eq_some_iff.1 h.box).1).trans h.box, h.mod.later (hb.mono h.big), Nat.le_trans h.big hb.size, h.hts.later hb, h.ins.later hb, h.pls.later hb, h.trn.later hb⟩

/-- where a way goes on -/
def toI (b : Bo) (k : Nat) (i : Ins) (turn : Bool) : Int :=
  if i.1 = 5 then i.2 else if i.1 = 6 ∧ turn = true then i.2 else if k + 1 < b.ps.length then b.ps.getD (k + 1) 0 else -1

/-- a way goes on to a place that is known, as high -/
theorem ways_on {m : Md} {fn : Fn} {H : List (Int × Int)} (hf : Fit (boF m fn)) (hW : ∀ a h, H.lookup a = some h → Done (boF m fn) H a ∧ a ∈ (boF m fn).ps ∧ 0 ≤ h ∧ h ≤ fn.2.2.1) {k : Nat} {a h : Int} {i : Ins} (hk : (boF m fn).ps[k]? = some a) (hi : (boF m fn).ls[k]? = some i) (hh : H.lookup a = some h) (turn : Bool) :
    tkI m i ≤ h ∧ h - tkI m i + gvsI i.1 ≤ fn.2.2.1 ∧ 0 ≤ h - tkI m i + gvsI i.1 ∧ (¬ i.1 = 9 → H.lookup (toI (boF m fn) k i turn) = some (h - tkI m i + gvsI i.1) ∧ toI (boF m fn) k i turn ∈ (boF m fn).ps) := by
  obtain ⟨⟨h', e1, e2, e3⟩, ha, h0, h1⟩ := hW a h hh
  rw [hh] at e1
  cases e1
  have hx : (boF m fn).ps.idxOf a = k := by
    have hkl := (List.getElem?_eq_some_iff.1 hk).1
    have e := idx_at ha
    rcases Nat.lt_trichotomy ((boF m fn).ps.idxOf a) k with hc | hc | hc
    · have := rise_at hf.snd.rise hc e hk; omega
    · exact hc
    · have := rise_at hf.snd.rise hc hk e; omega
  rw [hx, getD_of hi] at e2
  have hld : (boF m fn).lds a = lds (boF m fn).ps (boF m fn).L k i := by unfold Bo.lds; rw [hx, getD_of hi]
  rw [hld, hx, getD_of hi] at e3
  have him := List.mem_of_getElem? hi
  have hsm := hf.sml i him
  have hm : (boF m fn).m = m := rfl
  have hsk : (boF m fn).sk = fn.2.2.1 := rfl
  rw [hm] at hsm e2 e3
  rw [hsk] at e2 e3
  unfold pasI at e2 e3
  by_cases q1 : h < tkI m i
  · rw [if_pos q1] at e2
    cases e2
  · rw [if_neg q1] at e2 e3
    by_cases q2 : fn.2.2.1 < h - tkI m i + gvsI i.1
    · rw [if_pos q2] at e2
      cases e2
    · rw [if_neg q2] at e3
      simp only [] at e3
      refine ⟨by omega, by omega, by omega, fun h9 => ?_⟩
      have hin : toI (boF m fn) k i turn ∈ lds (boF m fn).ps (boF m fn).L k i := by
        have hbh : ∀ n, n = bhd (boF m fn).ps (boF m fn).L k → n ∈ lds (boF m fn).ps (boF m fn).L k i → (if k + 1 < (boF m fn).ps.length then (boF m fn).ps.getD (k + 1) 0 else -1) = n := fun n hn hm' => by
          rw [hn]
          unfold bhd
          by_cases hkk : k + 1 < (boF m fn).ps.length
          · rw [if_pos hkk, if_pos hkk]
          · exfalso
            rw [hn] at hm'
            have := (e3 _ hm').1
            unfold bhd at this
            rw [if_neg hkk] at this
            exact this rfl
        unfold toI
        by_cases h5 : i.1 = 5
        · rw [if_pos h5]
          unfold lds
          rw [if_neg h9, if_pos h5]
          simp
        · rw [if_neg h5]
          by_cases h6 : i.1 = 6
          · have hl6 : lds (boF m fn).ps (boF m fn).L k i = [bhd (boF m fn).ps (boF m fn).L k, i.2] := by
              unfold lds
              rw [if_neg h9, if_neg h5, if_pos h6]
            rw [hl6]
            cases turn with
            | true => rw [if_pos ⟨h6, rfl⟩]; simp
            | false =>
              rw [if_neg (by simp)]
              rw [hbh _ rfl (by rw [hl6]; simp)]
              simp
          · rw [if_neg (fun e => h6 e.1)]
            have hl7 : lds (boF m fn).ps (boF m fn).L k i = [bhd (boF m fn).ps (boF m fn).L k] := by
              unfold lds
              rw [if_neg h9, if_neg h5, if_neg h6]
            rw [hl7, hbh _ rfl (by rw [hl7]; simp)]
            simp
      exact ⟨(e3 _ hin).2, (hW _ _ (e3 _ hin).2).2.1⟩

end Go.Proofs.YtdlgehnplkeoiaaDoor

namespace Go.Proofs.YtdlgehnplkeoiaaDoor
open Go.RowKit

set_option maxRecDepth 100000 in
theorem most_any (k : Nat) (w : World) (hk : k ≤ 5) :
    Calls Tryd.prog 23 #[.int .i64 (k : Int)] w fun e w' => e = .returned (.int .i64 (mst k)) ∧ Below w.heap.size w w' := by
  have e : mst k = ([0, 99, 31, 3999, 23, 40] : List Int).getD k 0 := by
    unfold mst
    rw [OPD_is]
    match k, hk with
    | 0, _ => rfl
    | 1, _ => rfl
    | 2, _ => rfl
    | 3, _ => rfl
    | 4, _ => rfl
    | 5, _ => rfl
  rw [e]
  match k, hk with
  | 0, _ => go_enter Tryd.func23, Tryd.ntmps23; go_wp2_with fail; go_ret; exact ⟨rfl, (Below.refl _ _).alloc (Nat.le_refl _) _⟩
  | 1, _ => go_enter Tryd.func23, Tryd.ntmps23; go_wp2_with fail; go_ret; exact ⟨rfl, (Below.refl _ _).alloc (Nat.le_refl _) _⟩
  | 2, _ => go_enter Tryd.func23, Tryd.ntmps23; go_wp2_with fail; go_ret; exact ⟨rfl, (Below.refl _ _).alloc (Nat.le_refl _) _⟩
  | 3, _ => go_enter Tryd.func23, Tryd.ntmps23; go_wp2_with fail; go_ret; exact ⟨rfl, (Below.refl _ _).alloc (Nat.le_refl _) _⟩
  | 4, _ => go_enter Tryd.func23, Tryd.ntmps23; go_wp2_with fail; go_ret; exact ⟨rfl, (Below.refl _ _).alloc (Nat.le_refl _) _⟩
  | 5, _ => go_enter Tryd.func23, Tryd.ntmps23; go_wp2_with fail; go_ret; exact ⟨rfl, (Below.refl _ _).alloc (Nat.le_refl _) _⟩

set_option maxRecDepth 100000 in
theorem width_any (k : Nat) (w : World) (hk : k ≤ 5) :
    Calls Tryd.prog 22 #[.int .i64 (k : Int)] w fun e w' => e = .returned (.int .i64 (siz k : Int)) ∧ Below w.heap.size w w' := by
  have e : ((siz k : Nat) : Int) = ([0, 1, 1, 2, 1, 1] : List Int).getD k 0 := by
    unfold siz
    rw [OPD_is]
    match k, hk with
    | 0, _ => rfl
    | 1, _ => rfl
    | 2, _ => rfl
    | 3, _ => rfl
    | 4, _ => rfl
    | 5, _ => rfl
  rw [e]
  match k, hk with
  | 0, _ => go_enter Tryd.func22, Tryd.ntmps22; go_wp2_with fail; go_ret; exact ⟨rfl, (Below.refl _ _).alloc (Nat.le_refl _) _⟩
  | 1, _ => go_enter Tryd.func22, Tryd.ntmps22; go_wp2_with fail; go_ret; exact ⟨rfl, (Below.refl _ _).alloc (Nat.le_refl _) _⟩
  | 2, _ => go_enter Tryd.func22, Tryd.ntmps22; go_wp2_with fail; go_ret; exact ⟨rfl, (Below.refl _ _).alloc (Nat.le_refl _) _⟩
  | 3, _ => go_enter Tryd.func22, Tryd.ntmps22; go_wp2_with fail; go_ret; exact ⟨rfl, (Below.refl _ _).alloc (Nat.le_refl _) _⟩
  | 4, _ => go_enter Tryd.func22, Tryd.ntmps22; go_wp2_with fail; go_ret; exact ⟨rfl, (Below.refl _ _).alloc (Nat.le_refl _) _⟩
  | 5, _ => go_enter Tryd.func22, Tryd.ntmps22; go_wp2_with fail; go_ret; exact ⟨rfl, (Below.refl _ _).alloc (Nat.le_refl _) _⟩
end Go.Proofs.YtdlgehnplkeoiaaDoor
