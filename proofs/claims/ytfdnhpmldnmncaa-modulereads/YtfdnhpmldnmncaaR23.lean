/-
  The walks of Take and Decode; condition: the form's own reach.
  A region that draws its order and closes with a store over a cell that it has read: the read may be taken first, since the store waits for it; no conditions.
-/
import Derived.Test.YtfdnhpmldnmncaaR22
import Derived.Test.YtfdnhpmldnmncaaR00
import Derived.Deep.RegionHeld3
namespace Go.Proofs.Ytfdnhpmldnmncaa
open Go.RowKit

/-- the value at a place and the place behind it, or the error and its place -/
def takeR (zs : List Int) (p : Int) : Except (Int × Int) (Vl × Nat) :=
  if p < 0 ∨ (zs.length : Int) < p then .error (41, 0) else match rdV zs 8 p.toNat 0 with
    | .error e => .error e
    | .ok (v, a', _) => .ok (v, a')

def ResTk (w : World) (r : Except (Int × Int) (Vl × Nat)) (e : Ending) (w' : World) : Prop :=
  match r with
  | .error p => e = .returned (.tuple #[.agg #[.int .i64 0, .int .i64 0, .string ⟨#[]⟩, .slice none 0 0, .slice none 0 0], .int .i64 p.2, .int .i64 p.1]) ∧ Below w.heap.size w w'
  | .ok (v, n) => ∃ x, e = .returned (.tuple #[x, .int .i64 n, .int .i64 0]) ∧ IsQ w' (fun b => w.heap.size ≤ b ∧ b < w'.heap.size) v x ∧ Below w.heap.size w w'

theorem cnt_code {zs : List Int} {q a t k : Nat} {p : Int × Int} (h : rdCnt zs q a t k = .error p) : p.1 = 41 ∨ p.1 = 42 := by
  unfold rdCnt at h
  split at h
  · cases h; exact Or.inl rfl
  · split at h
    · cases h; exact Or.inr rfl
    · cases h

theorem key_code {zs : List Int} {l : Option ByteArray} {a t : Nat} {p : Int × Int} (h : rdKey zs l a t = .error p) : p.1 = 41 ∨ p.1 = 42 := by
  unfold rdKey at h
  split at h
  · cases h; exact Or.inl rfl
  · split at h
    · cases h; exact Or.inl rfl
    · split at h
      · cases h; exact Or.inr rfl
      · cases h

theorem arr_code {f : Nat → Nat → Except (Int × Int) (Vl × Nat × Nat)} (hf : ∀ a t p, f a t = .error p → p.1 = 41 ∨ p.1 = 42) : ∀ (n : Nat) (l : List Vl) (a t : Nat) (p : Int × Int), rdArr f n l a t = .error p → p.1 = 41 ∨ p.1 = 42
  | 0, l, a, t, p, h => by simp only [rdArr] at h; cases h
  | n + 1, l, a, t, p, h => by
    simp only [rdArr] at h
    cases hv : f a t with
    | error e => rw [hv] at h; cases h; exact hf a t _ hv
    | ok v => rw [hv] at h; exact arr_code hf n _ _ _ _ h

theorem rec_code {zs : List Int} {f : Nat → Nat → Except (Int × Int) (Vl × Nat × Nat)} (hf : ∀ a t p, f a t = .error p → p.1 = 41 ∨ p.1 = 42) : ∀ (n : Nat) (l : List Vl) (ks : List ByteArray) (a t : Nat) (p : Int × Int), rdRec zs f n l ks a t = .error p → p.1 = 41 ∨ p.1 = 42
  | 0, l, ks, a, t, p, h => by simp only [rdRec] at h; cases h
  | n + 1, l, ks, a, t, p, h => by
    simp only [rdRec] at h
    cases hk : rdKey zs ks.getLast? a t with
    | error e => rw [hk] at h; cases h; exact key_code hk
    | ok q =>
      obtain ⟨s, a1, t1⟩ := q
      rw [hk] at h
      dsimp only at h
      cases hv : f a1 t1 with
      | error e => rw [hv] at h; cases h; exact hf _ _ _ hv
      | ok v => rw [hv] at h; exact rec_code hf n _ _ _ _ _ h

theorem code_pos {zs : List Int} : ∀ (d a t : Nat) (p : Int × Int), rdV zs d a t = .error p → p.1 = 41 ∨ p.1 = 42
  | 0, a, t, p, h => by
    simp only [rdV] at h
    split at h
    · cases h; exact Or.inl rfl
    · split at h <;> cases h
      · exact Or.inl rfl
      · exact Or.inr rfl
  | d + 1, a, t, p, h => by
    simp only [rdV] at h
    split at h
    · cases h; exact Or.inl rfl
    · split at h
      · cases h; exact Or.inl rfl
      split at h
      · cases h; exact Or.inr rfl
      split at h
      · cases h
      split at h
      · cases h
      split at h
      · unfold rdNum at h
        split at h
        · cases h; exact Or.inl rfl
        · cases h
      split at h
      · unfold rdTxt at h
        split at h
        · cases h; exact Or.inr rfl
        · split at h
          · cases h; exact Or.inl rfl
          · cases h
      split at h
      · unfold rdAll at h
        cases hc : rdCnt zs a (a + 1) (t + 1) 1 with
        | error e => rw [hc] at h; cases h; exact cnt_code hc
        | ok q =>
          obtain ⟨n, a1⟩ := q
          rw [hc] at h
          dsimp only at h
          cases hr : rdArr (rdV zs d) n [] a1 (t + 1) with
          | error e => rw [hr] at h; cases h; exact arr_code (code_pos d) _ _ _ _ _ hr
          | ok q => rw [hr] at h; cases h
      split at h
      · unfold rdPairs at h
        cases hc : rdCnt zs a (a + 1) (t + 1) 2 with
        | error e => rw [hc] at h; cases h; exact cnt_code hc
        | ok q =>
          obtain ⟨n, a1⟩ := q
          rw [hc] at h
          dsimp only at h
          cases hr : rdRec zs (rdV zs d) n [] [] a1 (t + 1) with
          | error e => rw [hr] at h; cases h; exact rec_code (code_pos d) _ _ _ _ _ _ hr
          | ok q => rw [hr] at h; cases h
      · cases h

theorem two_new (u : World) (A F : Array Value) (T S : TypeId) (G : Nat) (hG : u.heap.size = G) :
    ((u.alloc (.cells A T)).alloc (.cells F S)).heap[G]? = some (.cells A T (0, 0)) ∧ ((u.alloc (.cells A T)).alloc (.cells F S)).heap[G + 1]? = some (.cells F S (0, 0)) ∧ Below G u ((u.alloc (.cells A T)).alloc (.cells F S)) ∧ ((u.alloc (.cells A T)).alloc (.cells F S)).heap.size = G + 2 := by
  subst hG
  have h1 := heap_alloc_new (u.alloc (.cells A T)) (.cells F S)
  have h0 := heap_alloc_new u (.cells A T)
  have b1 := (Below.refl (u.alloc (.cells A T)).heap.size (u.alloc (.cells A T))).alloc (Nat.le_refl _) (.cells F S)
  refine ⟨?_, ?_, ((Below.refl _ _).alloc (Nat.le_refl _) _).alloc (by simp) _, by simp⟩
  · rw [b1.block u.heap.size (by simp)]; exact h0
  · simpa using h1

theorem five_drew (w4 : World) (g : Nat) (T : TypeId) (c0 c1 c2 c3 c4 x0 x1 x2 x3 x4 : Value) (h : w4.heap[g]? = some (.cells #[c0, c1, c2, c3, c4] T (0, 0))) :
    (((((w4.setCell ⟨g, 0, none⟩ x0).setCell ⟨g, 1, none⟩ x1).setCell ⟨g, 2, none⟩ x2).setCell ⟨g, 3, none⟩ x3).setCell ⟨g, 4, none⟩ x4).drew.heap[g]? = some (.cells #[x0, x1, x2, x3, x4] T (0, 0)) ∧
    (∀ B a, Below B a w4 → B ≤ g → Below B a (((((w4.setCell ⟨g, 0, none⟩ x0).setCell ⟨g, 1, none⟩ x1).setCell ⟨g, 2, none⟩ x2).setCell ⟨g, 3, none⟩ x3).setCell ⟨g, 4, none⟩ x4).drew) ∧
    (∀ c, c ≠ g → (((((w4.setCell ⟨g, 0, none⟩ x0).setCell ⟨g, 1, none⟩ x1).setCell ⟨g, 2, none⟩ x2).setCell ⟨g, 3, none⟩ x3).setCell ⟨g, 4, none⟩ x4).drew.heap[c]? = w4.heap[c]?) ∧
    (((((w4.setCell ⟨g, 0, none⟩ x0).setCell ⟨g, 1, none⟩ x1).setCell ⟨g, 2, none⟩ x2).setCell ⟨g, 3, none⟩ x3).setCell ⟨g, 4, none⟩ x4).drew.heap.size = w4.heap.size := by
  have h1 := five_set w4 g T _ _ _ _ _ x0 x1 x2 x3 x4 h
  have h2 := fun B a (hb : Below B a w4) (hB : B ≤ g) => five_below hb hB x0 x1 x2 x3 x4
  have h3 := fun c hc => five_other w4 g c x0 x1 x2 x3 x4 hc
  have h4 : (((((w4.setCell ⟨g, 0, none⟩ x0).setCell ⟨g, 1, none⟩ x1).setCell ⟨g, 2, none⟩ x2).setCell ⟨g, 3, none⟩ x3).setCell ⟨g, 4, none⟩ x4).heap.size = w4.heap.size := by simp
  generalize (((((w4.setCell ⟨g, 0, none⟩ x0).setCell ⟨g, 1, none⟩ x1).setCell ⟨g, 2, none⟩ x2).setCell ⟨g, 3, none⟩ x3).setCell ⟨g, 4, none⟩ x4) = w5 at h1 h2 h3 h4 ⊢
  exact ⟨h1, fun B a hb hB => (h2 B a hb hB).drew, h3, h4⟩

set_option maxRecDepth 100000 in
set_option maxHeartbeats 1000000 in
theorem take_any (ao : Option Addr) (len cap : Nat) (zs : List Int) (p : Int) (w : World) (hz : Row8 w ao len cap zs) (hm : cap ≤ maxLen) :
    Calls Try.prog 54 #[.slice ao len cap, .int .i64 p] w fun e w' => ResTk w (takeR zs p) e w' := by
  obtain ⟨g, hg⟩ : ∃ g, w.heap.size = g := ⟨_, rfl⟩
  have hlen := hz.length
  have hle := hz.le
  have hm' : len ≤ 9223372036854775807 := by unfold maxLen at hm; omega
  by_cases hout : p < 0 ∨ (len : Int) < p
  · have hT : takeR zs p = .error (41, 0) := by unfold takeR; rw [if_pos (by rw [hlen]; exact hout)]
    rw [hT]
    have R1 := heap_alloc_new w (.cells #[.int .i64 0, .int .i64 0, .string ⟨#[]⟩, .slice none 0 0, .slice none 0 0] 51)
    have B1 : Below w.heap.size w (w.alloc (.cells #[.int .i64 0, .int .i64 0, .string ⟨#[]⟩, .slice none 0 0, .slice none 0 0] 51)) := (Below.refl _ _).alloc (Nat.le_refl _) _
    rw [hg] at R1
    have HB := hide (And.intro B1 R1)
    clear hT hz B1 R1
    by_cases h0 : p < 0
    · go_enter Try.func54, Try.ntmps54
      go_wp2_with fail
      obtain ⟨w1, hw1⟩ : ∃ w1, w.alloc (.cells #[.int .i64 0, .int .i64 0, .string ⟨#[]⟩, .slice none 0 0, .slice none 0 0] 51) = w1 := ⟨_, rfl⟩
      rw [hw1] at HB ⊢
      obtain ⟨r0, r1, r2, r3, r4⟩ := row_cell (unhide HB).2
      refine bodyPost_ret (v := .tuple #[.agg #[.int .i64 0, .int .i64 0, .string ⟨#[]⟩, .slice none 0 0, .slice none 0 0], .int .i64 0, .int .i64 41]) (by simp [results, Try.results54, go_sem, r0, r1, r2, r3, r4]) rfl ?_
      exact ⟨rfl, (unhide HB).1⟩
    · have h1 : (len : Int) < p := by omega
      have h0' : decide (p < 0) = false := by simp; omega
      go_enter Try.func54, Try.ntmps54
      go_wp2_with fail
      obtain ⟨w1, hw1⟩ : ∃ w1, w.alloc (.cells #[.int .i64 0, .int .i64 0, .string ⟨#[]⟩, .slice none 0 0, .slice none 0 0] 51) = w1 := ⟨_, rfl⟩
      rw [hw1] at HB ⊢
      obtain ⟨r0, r1, r2, r3, r4⟩ := row_cell (unhide HB).2
      refine bodyPost_ret (v := .tuple #[.agg #[.int .i64 0, .int .i64 0, .string ⟨#[]⟩, .slice none 0 0, .slice none 0 0], .int .i64 0, .int .i64 41]) (by simp [results, Try.results54, go_sem, r0, r1, r2, r3, r4]) rfl ?_
      exact ⟨rfl, (unhide HB).1⟩
  · obtain ⟨a, rfl⟩ : ∃ a : Nat, p = a := ⟨p.toNat, by omega⟩
    have hal : a ≤ len := by omega
    have h0' : decide ((a : Int) < 0) = false := by simp
    have h1 : ¬ (len : Int) < (a : Int) := by omega
    have hT : takeR zs a = match (generalizing := false) rdV zs 8 a 0 with | .error e => .error e | .ok (v, a', _) => .ok (v, a') := by unfold takeR; rw [if_neg (by rw [hlen]; exact hout)]; simp only [Int.toNat_natCast]
    have B2 : Below w.heap.size w ((w.alloc (.cells #[.int .i64 0, .int .i64 0, .string ⟨#[]⟩, .slice none 0 0, .slice none 0 0] 51)).alloc (.cells #[.slice ao len cap, .int .i64 a, .int .i64 0] 106)) := ((Below.refl _ _).alloc (Nat.le_refl _) _).alloc (by simp) _
    have at0 : ((w.alloc (.cells #[.int .i64 0, .int .i64 0, .string ⟨#[]⟩, .slice none 0 0, .slice none 0 0] 51)).alloc (.cells #[.slice ao len cap, .int .i64 a, .int .i64 0] 106)).heap[g]? = some (.cells #[.int .i64 0, .int .i64 0, .string ⟨#[]⟩, .slice none 0 0, .slice none 0 0] 51 (0, 0)) := by
      have b1 := (Below.refl (w.alloc (.cells #[.int .i64 0, .int .i64 0, .string ⟨#[]⟩, .slice none 0 0, .slice none 0 0] 51)).heap.size (w.alloc (.cells #[.int .i64 0, .int .i64 0, .string ⟨#[]⟩, .slice none 0 0, .slice none 0 0] 51))).alloc (Nat.le_refl _) (.cells #[.slice ao len cap, .int .i64 a, .int .i64 0] 106)
      rw [← hg, b1.block w.heap.size (by simp)]
      exact heap_alloc_new w _
    have at1 : Rdr ((w.alloc (.cells #[.int .i64 0, .int .i64 0, .string ⟨#[]⟩, .slice none 0 0, .slice none 0 0] 51)).alloc (.cells #[.slice ao len cap, .int .i64 a, .int .i64 0] 106)) (g + 1) (.slice ao len cap) a 0 := by
      have := heap_alloc_new (w.alloc (.cells #[.int .i64 0, .int .i64 0, .string ⟨#[]⟩, .slice none 0 0, .slice none 0 0] 51)) (.cells #[.slice ao len cap, .int .i64 a, .int .i64 0] 106)
      unfold Rdr
      rw [← hg]
      simpa using this
    have S2 : Src ((w.alloc (.cells #[.int .i64 0, .int .i64 0, .string ⟨#[]⟩, .slice none 0 0, .slice none 0 0] 51)).alloc (.cells #[.slice ao len cap, .int .i64 a, .int .i64 0] 106)) (g + 1) ao len cap zs := ⟨hz.later B2, fun ad he hp => by have := hz.block ad he hp; omega, at1.lt, hm⟩
    have CW := hide (whole_any zs (g + 1) ao len cap a _ at1 S2 hal)
    have HB := hide (And.intro B2 (And.intro at0 at1.lt))
    clear B2 at0 at1 S2 hz hout
    cases hv : rdV zs 8 a 0 with
    | error e =>
      rw [hv] at CW hT
      dsimp only at hT
      rw [hT]
      have hcp := code_pos 8 a 0 e hv
      obtain ⟨ec, eq⟩ := e
      dsimp only at hcp
      have hne : ¬ ec = 0 := by omega
      clear hv hT hcp
      go_enter Try.func54, Try.ntmps54
      go_wp2_with fail
      refine (unhide CW).mono ?_
      rintro e u ⟨rfl, b1⟩
      have HU := hide (And.intro ((unhide HB).1.trans (b1.below (Nat.le_of_lt (by omega)) (Nat.le_of_lt (by have := (unhide HB).2.2; omega)))) ((b1.block g (by have := (unhide HB).2.2; omega) (by omega)).trans (unhide HB).2.1))
      clear b1 CW HB
      go_upto_region 6 with fail
      obtain ⟨G, hG⟩ : ∃ G, u.heap.size = G := ⟨_, rfl⟩
      obtain ⟨n0, n1, n2, n3⟩ := two_new u #[.int .i64 0, .int .i64 0, .string ⟨#[]⟩, .slice none 0 0, .slice none 0 0] #[.int .i64 ec, .int .i64 eq] 51 108 G hG
      simp only [hG]
      obtain ⟨w4, hw4⟩ : ∃ w4, (u.alloc (.cells #[.int .i64 0, .int .i64 0, .string ⟨#[]⟩, .slice none 0 0, .slice none 0 0] 51)).alloc (.cells #[.int .i64 ec, .int .i64 eq] 108) = w4 := ⟨_, rfl⟩
      rw [hw4] at n0 n1 n2 n3 ⊢
      have hgG : g < G := by have := (Array.getElem?_eq_some_iff.1 (unhide HU).2).1; omega
      have at4 := (n2.block g hgG).trans (unhide HU).2
      have B4 : Below w.heap.size w w4 := (unhide HU).1.trans (n2.mono (by omega))
      have e0 : w4.cell? ⟨G + 1, 0, none⟩ = some (.int .i64 ec) := by simp [World.cell?, n1]
      have e1 : w4.cell? ⟨G + 1, 1, none⟩ = some (.int .i64 eq) := by simp [World.cell?, n1]
      obtain ⟨z0, z1, z2, z3, z4⟩ := row_cell at4
      have fz0 := frozen_of_row w4 g 0 _ _ at4
      have fz1 := frozen_of_row w4 g 1 _ _ at4
      have fz2 := frozen_of_row w4 g 2 _ _ at4
      have fz3 := frozen_of_row w4 g 3 _ _ at4
      have fz4 := frozen_of_row w4 g 4 _ _ at4
      have hn1 : ¬ g = G + 1 := by omega
      have hn2 : ¬ G + 1 = g := by omega
      have H4 := hide (And.intro B4 at4)
      clear hw4 n0 n1 n2 n3 at4 B4 HU hG
      go_region
      all_goals go_wp2_with fail
      have F9 := five_drew w4 g 51 _ _ _ _ _ (.int .i64 0) (.int .i64 0) (.string ⟨#[]⟩) (.slice none 0 0) (.slice none 0 0) (unhide H4).2
      generalize (((((w4.setCell ⟨g, 0, none⟩ (.int .i64 0)).setCell ⟨g, 1, none⟩ (.int .i64 0)).setCell ⟨g, 2, none⟩ (.string ⟨#[]⟩)).setCell ⟨g, 3, none⟩ (.slice none 0 0)).setCell ⟨g, 4, none⟩ (.slice none 0 0)).drew = w9 at F9 ⊢
      obtain ⟨r0, r1, r2, r3, r4⟩ := row_cell F9.1
      refine bodyPost_ret (v := .tuple #[.agg #[.int .i64 0, .int .i64 0, .string ⟨#[]⟩, .slice none 0 0, .slice none 0 0], .int .i64 eq, .int .i64 ec]) (by simp [results, Try.results54, go_sem, r0, r1, r2, r3, r4]) rfl ?_
      exact ⟨rfl, F9.2.1 _ _ (unhide H4).1 (by omega)⟩
    | ok vp =>
      obtain ⟨v, a', t'⟩ := vp
      rw [hv] at CW hT
      dsimp only at hT
      rw [hT]
      clear hv hT
      go_enter Try.func54, Try.ntmps54
      go_wp2_with fail
      refine (unhide CW).mono ?_
      rintro e u ⟨x2, rfl, p2, r2, b1⟩
      obtain ⟨k5, n5, s5, l5, ks5, al5, ak5, cl5, ck5, hy5, rfl⟩ := p2.shape
      clear hy5
      obtain ⟨lc5, hlc5⟩ : ∃ lc5, l5.length = lc5 := ⟨_, rfl⟩
      obtain ⟨mc5, hmc5⟩ : ∃ mc5, ks5.length = mc5 := ⟨_, rfl⟩
      rw [hlc5, hmc5] at p2 ⊢
      clear hlc5 hmc5
      have HU := hide (And.intro ((unhide HB).1.trans (b1.below (Nat.le_of_lt (by omega)) (Nat.le_of_lt (by have := (unhide HB).2.2; omega)))) (And.intro ((b1.block g (by have := (unhide HB).2.2; omega) (by omega)).trans (unhide HB).2.1) (And.intro p2 (And.intro r2 (And.intro (unhide HB).2.2 b1.size)))))
      clear b1 CW HB p2 r2
      go_upto_region 7 with fail
      obtain ⟨G, hG⟩ : ∃ G, u.heap.size = G := ⟨_, rfl⟩
      obtain ⟨n0, n1, n2, n3⟩ := two_new u #[.int .i64 k5, .int .i64 n5, .string s5, .slice al5 lc5 cl5, .slice ak5 mc5 ck5] #[.int .i64 0, .int .i64 0] 51 108 G hG
      simp only [hG]
      obtain ⟨w4, hw4⟩ : ∃ w4, (u.alloc (.cells #[.int .i64 k5, .int .i64 n5, .string s5, .slice al5 lc5 cl5, .slice ak5 mc5 ck5] 51)).alloc (.cells #[.int .i64 0, .int .i64 0] 108) = w4 := ⟨_, rfl⟩
      rw [hw4] at n0 n1 n2 n3 ⊢
      have hgG : g + 1 < G := by have := (unhide HU).2.2.2.1.lt; omega
      have at4 := (n2.block g (by omega)).trans (unhide HU).2.1
      have B4 : Below w.heap.size w w4 := (unhide HU).1.trans (n2.mono (by omega))
      have e1 : w4.cell? ⟨g + 1, 1, none⟩ = some (.int .i64 a') := by
        have hr := (n2.block (g + 1) hgG).trans (unhide HU).2.2.2.1
        simp [World.cell?, hr]
      obtain ⟨y0, y1, y2, y3, y4⟩ := row_cell n0
      obtain ⟨z0, z1, z2, z3, z4⟩ := row_cell at4
      have fz0 := frozen_of_row w4 g 0 _ _ at4
      have fz1 := frozen_of_row w4 g 1 _ _ at4
      have fz2 := frozen_of_row w4 g 2 _ _ at4
      have fz3 := frozen_of_row w4 g 3 _ _ at4
      have fz4 := frozen_of_row w4 g 4 _ _ at4
      have hn1 : ¬ g = G := by omega
      have hn2 : ¬ G = g := by omega
      have H4 := hide (And.intro B4 (And.intro at4 (And.intro n2 (And.intro n3 (And.intro hG hgG)))))
      clear hw4 n0 n1 n2 n3 at4 B4 hG hgG
      go_region
      all_goals go_wp2_with fail
      have F9 := five_drew w4 g 51 _ _ _ _ _ (.int .i64 k5) (.int .i64 n5) (.string s5) (.slice al5 lc5 cl5) (.slice ak5 mc5 ck5) (unhide H4).2.1
      generalize (((((w4.setCell ⟨g, 0, none⟩ (.int .i64 k5)).setCell ⟨g, 1, none⟩ (.int .i64 n5)).setCell ⟨g, 2, none⟩ (.string s5)).setCell ⟨g, 3, none⟩ (.slice al5 lc5 cl5)).setCell ⟨g, 4, none⟩ (.slice ak5 mc5 ck5)).drew = w9 at F9 ⊢
      obtain ⟨r0, r1, r2, r3, r4⟩ := row_cell F9.1
      refine bodyPost_ret (v := .tuple #[.agg #[.int .i64 k5, .int .i64 n5, .string s5, .slice al5 lc5 cl5, .slice ak5 mc5 ck5], .int .i64 a', .int .i64 0]) (by simp [results, Try.results54, go_sem, r0, r1, r2, r3, r4]) rfl ?_
      obtain ⟨B4, at4, n2, n3, hG, hgG⟩ := unhide H4
      have hsz := (unhide HU).2.2.2.2.1
      refine ⟨_, rfl, ((unhide HU).2.2.1.move (fun c hc => ?_)).weak (fun c hc => ⟨by omega, by have := F9.2.2.2; omega⟩), F9.2.1 _ _ B4 (by omega)⟩
      rw [F9.2.2.1 c (by omega), n2.block c (by omega)]
end Go.Proofs.Ytfdnhpmldnmncaa

namespace Go.Proofs.Ytfdnhpmldnmncaa
open Go.RowKit

section
variable {P : Program} {ops : Array Oper} {Q : Exit → Act → World → Prop} {md : Region.Mode} {S : World → Prop} {z : Nat}

/-- whatever order is picked from here on, S holding behind each operation ahead of number z -/
def Tilt (P : Program) (md : Region.Mode) (ops : Array Oper) (Q : Exit → Act → World → Prop) (S : World → Prop) (z : Nat) : Nat → Array Bool → Act → World → Prop
  | 0, listed, a, w => Region.ready md ops listed = [] ∧ Q .normal a w
  | f + 1, listed, a, w => (Region.ready md ops listed = [] → Q .normal a w) ∧ ∀ i ∈ Region.ready md ops listed, wpOp P ops Q i (fun a' w' => (i = z ∧ wpAny P md ops Q f (listed.setIfInBounds i true) a' w') ∨ (i ≠ z ∧ S w' ∧ Tilt P md ops Q S z f (listed.setIfInBounds i true) a' w')) a w

theorem Tilt.any : ∀ (f : Nat) (listed : Array Bool) (a : Act) (w : World), Tilt P md ops Q S z f listed a w → wpAny P md ops Q f listed a w
  | 0, _, _, _, h => h
  | f + 1, _, _, _, h => ⟨h.1, fun i hi => wpOp_mono (fun a' w' h' => h'.elim (fun h1 => h1.2) (fun h1 => Tilt.any f _ a' w' h1.2.2)) (h.2 i hi)⟩

theorem Tilt.first {i : Nat} {oi oz : Oper} {v : Value} (hiz : i ≠ z) (hi : ops[i]? = some oi) (hz : ops[z]? = some oz) (hwait : ∃ e ∈ oz.after, Region.binds md e = true ∧ e.on = i)
    (hsel : ∀ (j : Nat) (o : Oper) cs b, ops[j]? = some o → o.op ≠ .select cs b) (hQ : ∀ c a w, Q (.panic c) (a.put oi.dst v) w → Q (.panic c) a w) :
    ∀ (f : Nat) (listed : Array Bool) (a : Act) (w : World),
      (∀ j oj, ops[j]? = some oj → j ≠ i → listed.getD j true = false → (∀ e ∈ oj.after, Region.binds md e = true → e.on ≠ i) → oi.apart ops oj = true) →
      i ∈ Region.ready md ops listed → YieldsIf P ops S oi v a → S w →
      Tilt P md ops Q S z f (listed.setIfInBounds i true) (a.put oi.dst v) w → Tilt P md ops Q S z (f + 1) listed a w := by
  intro f
  induction f with
  | zero =>
    intro listed a w _ hr hy hS H
    refine ⟨fun h => (by rw [h] at hr; cases hr), fun j hj => ?_⟩
    by_cases e : j = i
    · rw [e]
      exact hy.wpOp hi hS (Or.inr ⟨hiz, hS, H⟩)
    · exact absurd (ready_mono hj e) (by rw [H.1]; simp)
  | succ f ih =>
    intro listed a w hfree hr hy hS H
    refine ⟨fun h => (by rw [h] at hr; cases hr), fun j hj => ?_⟩
    by_cases e : j = i
    · rw [e]
      exact hy.wpOp hi hS (Or.inr ⟨hiz, hS, H⟩)
    · obtain ⟨hun, oj, hoj, hall⟩ := mem_ready.1 hj
      have hi0 := (mem_ready.1 hr).1
      -- nobody who may come up now waits for number i
      have hnot : ∀ x ∈ oj.after, Region.binds md x = true → x.on ≠ i := fun x hx hb he => by
        have h1 := hall x hx hb
        rw [he] at h1
        rcases Nat.lt_or_ge i listed.size with hl | hl
        · simp [hl] at hi0 h1
          rw [hi0] at h1
          cases h1
        · simp [Array.getElem?_eq_none hl] at h1
      have hjz : j ≠ z := fun he => by
        obtain ⟨x, hx, hb, hon⟩ := hwait
        rw [he] at hoj
        rw [hoj] at hz
        cases hz
        exact hnot x hx hb hon
      have h2 := wpOp_putIf hoj (hfree j oj hoj e hun hnot) (fun cs b => hsel i oi cs b hi) (fun cs b => hsel j oj cs b hoj) hQ hy (H.2 j (ready_mono hj e))
      refine wpOp_mono (fun a' w' h3 => ?_) h2
      obtain ⟨hy', hD⟩ := h3
      obtain ⟨_, hSw, hT⟩ := hD.resolve_left (fun h => hjz h.1)
      refine Or.inr ⟨hjz, hSw, ih (listed.setIfInBounds j true) a' w' (fun k ok hk hki hu hno => hfree k ok hk hki ?_ hno) (ready_mono hr (Ne.symm e)) hy' hSw ?_⟩
      · by_cases hjk : j = k
        · rw [← hjk]; exact hun
        · rw [getD_set_ne true hjk] at hu; exact hu
      · rw [Array.setIfInBounds_comm _ _ e]
        exact hT

/-- an operation that reads no memory may be taken first, whatever waits for it -/
theorem Tilt.firstU {i : Nat} {oi : Oper} {v : Value} (hiz : i ≠ z) (hi : ops[i]? = some oi)
    (hsel : ∀ (j : Nat) (o : Oper) cs b, ops[j]? = some o → o.op ≠ .select cs b) (hQ : ∀ c a w, Q (.panic c) (a.put oi.dst v) w → Q (.panic c) a w) :
    ∀ (f : Nat) (listed : Array Bool) (a : Act) (w : World),
      (∀ j oj, ops[j]? = some oj → j ≠ i → listed.getD j true = false → (∀ e ∈ oj.after, Region.binds md e = true → e.on ≠ i) → oi.apart ops oj = true) →
      i ∈ Region.ready md ops listed → Yields P ops oi v a → S w →
      Tilt P md ops Q S z f (listed.setIfInBounds i true) (a.put oi.dst v) w → Tilt P md ops Q S z (f + 1) listed a w := by
  intro f
  induction f with
  | zero =>
    intro listed a w _ hr hy hS H
    refine ⟨fun h => (by rw [h] at hr; cases hr), fun j hj => ?_⟩
    by_cases e : j = i
    · rw [e]
      exact hy.wpOp hi (Or.inr ⟨hiz, hS, H⟩)
    · exact absurd (ready_mono hj e) (by rw [H.1]; simp)
  | succ f ih =>
    intro listed a w hfree hr hy hS H
    refine ⟨fun h => (by rw [h] at hr; cases hr), fun j hj => ?_⟩
    by_cases e : j = i
    · rw [e]
      exact hy.wpOp hi (Or.inr ⟨hiz, hS, H⟩)
    · obtain ⟨hun, oj, hoj, hall⟩ := mem_ready.1 hj
      have hi0 := (mem_ready.1 hr).1
      have hnot : ∀ x ∈ oj.after, Region.binds md x = true → x.on ≠ i := fun x hx hb he => by
        have h1 := hall x hx hb
        rw [he] at h1
        rcases Nat.lt_or_ge i listed.size with hl | hl
        · simp [hl] at hi0 h1
          rw [hi0] at h1
          cases h1
        · simp [Array.getElem?_eq_none hl] at h1
      have h2 := wpOp_put hoj (hfree j oj hoj e hun hnot) (fun cs b => hsel i oi cs b hi) (fun cs b => hsel j oj cs b hoj) hQ hy (H.2 j (ready_mono hj e))
      have hfree' : ∀ k ok, ops[k]? = some ok → k ≠ i → (listed.setIfInBounds j true).getD k true = false → (∀ e ∈ ok.after, Region.binds md e = true → e.on ≠ i) → oi.apart ops ok = true := fun k ok hk hki hu hno => hfree k ok hk hki (by
        by_cases hjk : j = k
        · rw [← hjk]; exact hun
        · rw [getD_set_ne true hjk] at hu; exact hu) hno
      refine wpOp_mono (fun a' w' h3 => ?_) h2
      obtain ⟨hy', hD⟩ := h3
      rcases hD with ⟨hjz, hT⟩ | ⟨hjz, hSw, hT⟩
      · refine Or.inl ⟨hjz, ?_⟩
        rw [Array.setIfInBounds_comm _ _ (Ne.symm e)] at hT
        exact wpAny_first hi hsel hQ f (listed.setIfInBounds j true) a' w' hfree' (ready_mono hr (Ne.symm e)) hy' hT
      · refine Or.inr ⟨hjz, hSw, ih (listed.setIfInBounds j true) a' w' hfree' (ready_mono hr (Ne.symm e)) hy' hSw ?_⟩
        rw [Array.setIfInBounds_comm _ _ e]
        exact hT

theorem tilt_takeU {f : Nat} {listed : Array Bool} {a : Act} {w : World} (i : Nat) {oi : Oper} {v : Value} (d : Option Tmp) (hiz : i ≠ z) (hi : ops[i]? = some oi) (hd : oi.dst = d)
    (hs : Region.noSelect ops = true) (hf : Region.free md ops listed i = true) (hr : (Region.ready md ops listed).contains i = true)
    (hQ : ∀ c a w, Q (.panic c) (a.put d v) w → Q (.panic c) a w) (hy : Yields P ops oi v a) (hS : S w)
    (h : Tilt P md ops Q S z f (listed.setIfInBounds i true) (a.put d v) w) : Tilt P md ops Q S z (f + 1) listed a w := by
  subst hd
  exact Tilt.firstU hiz hi (Region.noSelect_spec hs) hQ f listed a w (Region.free_spec hi hf) (by simpa using hr) hy hS h

/-- number i first -/
theorem tilt_take {f : Nat} {listed : Array Bool} {a : Act} {w : World} (i : Nat) {oi oz : Oper} {v : Value} (d : Option Tmp) (hiz : i ≠ z) (hi : ops[i]? = some oi) (hd : oi.dst = d) (hz : ops[z]? = some oz) (hwait : (oz.after.any fun e => Region.binds md e && e.on == i) = true)
    (hs : Region.noSelect ops = true) (hf : Region.free md ops listed i = true) (hr : (Region.ready md ops listed).contains i = true)
    (hQ : ∀ c a w, Q (.panic c) (a.put d v) w → Q (.panic c) a w) (hy : YieldsIf P ops S oi v a) (hS : S w)
    (h : Tilt P md ops Q S z f (listed.setIfInBounds i true) (a.put d v) w) : Tilt P md ops Q S z (f + 1) listed a w := by
  subst hd
  refine Tilt.first hiz hi hz ?_ (Region.noSelect_spec hs) hQ f listed a w (Region.free_spec hi hf) (by simpa using hr) hy hS h
  rw [Array.any_eq_true] at hwait
  obtain ⟨k, hk, hx⟩ := hwait
  rw [Bool.and_eq_true, beq_iff_eq] at hx
  exact ⟨_, Array.getElem_mem hk, hx.1, hx.2⟩

/-- one alone may come up -/
theorem tilt_one {f : Nat} {listed : Array Bool} {a : Act} {w : World} (i : Nat) {o : Oper} (hiz : i ≠ z) (hr : Region.ready md ops listed = [i]) (ho : ops[i]? = some o)
    (h : ∀ K' : Act → World → Prop, Shut (∀ a w, S w → Tilt P md ops Q S z f (listed.setIfInBounds i true) a w → K' a w) → if Region.wanted o (yielded ops a.tmps) = true then Oper.wp P o a w K' Q else K' (a.put o.dst undef) w) :
    Tilt P md ops Q S z (f + 1) listed a w := by
  refine ⟨fun e => (by rw [e] at hr; cases hr), fun j hj => ?_⟩
  rw [hr, List.mem_singleton] at hj
  subst hj
  exact wpOp_step ho (fun K' hK => h K' (fun a w hS hT => hK a w (Or.inr ⟨hiz, hS, hT⟩)))

/-- number z itself: S is no more asked for behind it -/
theorem tilt_last {f : Nat} {listed : Array Bool} {a : Act} {w : World} {o : Oper} (hr : Region.ready md ops listed = [z]) (ho : ops[z]? = some o)
    (h : ∀ K' : Act → World → Prop, Shut (∀ a w, wpAny P md ops Q f (listed.setIfInBounds z true) a w → K' a w) → if Region.wanted o (yielded ops a.tmps) = true then Oper.wp P o a w K' Q else K' (a.put o.dst undef) w) :
    Tilt P md ops Q S z (f + 1) listed a w := by
  refine ⟨fun e => (by rw [e] at hr; cases hr), fun j hj => ?_⟩
  rw [hr, List.mem_singleton] at hj
  subst hj
  exact wpOp_step ho (fun K' hK => h K' (fun a w hT => hK a w (Or.inl ⟨rfl, hT⟩)))

theorem any_one {f : Nat} {listed : Array Bool} {a : Act} {w : World} (i : Nat) {o : Oper} (hr : Region.ready md ops listed = [i]) (ho : ops[i]? = some o)
    (h : ∀ K' : Act → World → Prop, Shut (∀ a w, wpAny P md ops Q f (listed.setIfInBounds i true) a w → K' a w) → if Region.wanted o (yielded ops a.tmps) = true then Oper.wp P o a w K' Q else K' (a.put o.dst undef) w) :
    wpAny P md ops Q (f + 1) listed a w := by
  refine ⟨fun e => (by rw [e] at hr; cases hr), fun j hj => ?_⟩
  rw [hr, List.mem_singleton] at hj
  subst hj
  exact wpOp_step ho (fun K' hK => h K' (fun a w hT => hK a w hT))

theorem any_done {listed : Array Bool} {a : Act} {w : World} (hr : Region.ready md ops listed = []) (h : Q .normal a w) : ∀ f, wpAny P md ops Q f listed a w
  | 0 => ⟨hr, h⟩
  | _ + 1 => ⟨fun _ => h, by rw [hr]; simp⟩

theorem tilt_done {listed : Array Bool} {a : Act} {w : World} (hr : Region.ready md ops listed = []) (h : Q .normal a w) : ∀ f, Tilt P md ops Q S z f listed a w
  | 0 => ⟨hr, h⟩
  | _ + 1 => ⟨fun _ => h, by rw [hr]; simp⟩

theorem tilt_begin {id : Nat} {a : Act} {w : World} (z : Nat) (hm : P.follows .mixedOrders = true) (h : Tilt P .any ops Q S z ops.size (Array.replicate ops.size false) a w.drew) : (Code.region id ops true).wp P Q a w :=
  wp_region_any hm (Tilt.any _ _ _ _ h)
end
end Go.Proofs.Ytfdnhpmldnmncaa
