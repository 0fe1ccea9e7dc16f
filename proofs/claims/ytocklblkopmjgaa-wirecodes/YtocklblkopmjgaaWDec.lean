/-
  The walk of Decode; condition: the form's own reach.
-/
import Derived.Test.YtocklblkopmjgaaWTake
namespace Go.Proofs.Ytocklblkopmjgaa
open Go.RowKit

/-- the value whose bytes these are -/
def decR (zs : List Int) : Except (Int × Int) Vl :=
  match takeR zs 0 with
  | .error p => .error p
  | .ok (v, n) => if n < zs.length then .error (43, (n : Int)) else .ok v

def ResD (w : World) (r : Except (Int × Int) Vl) (e : Ending) (w' : World) : Prop :=
  match r with
  | .error p => e = .returned (.tuple #[.agg #[.int .i64 0, .int .i64 0, .string ⟨#[]⟩, .slice none 0 0, .slice none 0 0], .int .i64 p.2, .int .i64 p.1]) ∧ Below w.heap.size w w'
  | .ok v => ∃ x, e = .returned (.tuple #[x, .int .i64 0, .int .i64 0]) ∧ IsP w' (fun b => w.heap.size ≤ b ∧ b < w'.heap.size) v x ∧ Below w.heap.size w w'

theorem take_code {zs : List Int} {p : Int} {e : Int × Int} (h : takeR zs p = .error e) : e.1 = 41 ∨ e.1 = 42 := by
  unfold takeR at h
  split at h
  · cases h; exact Or.inl rfl
  · cases hv : rdV zs 8 p.toNat 0 with
    | error q => rw [hv] at h; cases h; exact code_pos 8 _ 0 _ hv
    | ok q => rw [hv] at h; cases h

theorem take_bound {zs : List Int} (hl : ∀ n ∈ zs, 0 ≤ n ∧ n ≤ 255) {p : Int} {v : Vl} {n : Nat} (h : takeR zs p = .ok (v, n)) :
    ∃ a : Nat, p = a ∧ ∃ t, rdV zs 8 a 0 = .ok (v, n, t) ∧ Snd zs 8 a 0 v n t := by
  unfold takeR at h
  split at h
  · cases h
  · rename_i hp
    cases hv : rdV zs 8 p.toNat 0 with
    | error q => rw [hv] at h; cases h
    | ok q =>
      obtain ⟨v', a', t⟩ := q
      rw [hv] at h
      cases h
      exact ⟨p.toNat, by omega, t, hv, rdV_sound hl 8 _ _ _ _ _ hv (by omega)⟩

set_option maxRecDepth 100000 in
set_option maxHeartbeats 1000000 in
theorem decode_any (ao : Option Addr) (len cap : Nat) (zs : List Int) (w : World) (hz : Row8 w ao len cap zs) (hm : cap ≤ maxLen) :
    Calls Try.prog 36 #[.slice ao len cap] w fun e w' => ResD w (decR zs) e w' := by
  obtain ⟨g, hg⟩ : ∃ g, w.heap.size = g := ⟨_, rfl⟩
  have hlen := hz.length
  have hle := hz.le
  have hm' : len ≤ 9223372036854775807 := by unfold maxLen at hm; omega
  have R1 := heap_alloc_new w (.cells #[.int .i64 0, .int .i64 0, .string ⟨#[]⟩, .slice none 0 0, .slice none 0 0] 27)
  have B1 : Below w.heap.size w (w.alloc (.cells #[.int .i64 0, .int .i64 0, .string ⟨#[]⟩, .slice none 0 0, .slice none 0 0] 27)) := (Below.refl _ _).alloc (Nat.le_refl _) _
  have S1 : (w.alloc (.cells #[.int .i64 0, .int .i64 0, .string ⟨#[]⟩, .slice none 0 0, .slice none 0 0] 27)).heap.size = g + 1 := by simp [hg]
  rw [hg] at R1
  obtain ⟨w1, hw1⟩ : ∃ w1, w.alloc (.cells #[.int .i64 0, .int .i64 0, .string ⟨#[]⟩, .slice none 0 0, .slice none 0 0] 27) = w1 := ⟨_, rfl⟩
  rw [hw1] at R1 B1 S1
  have CT := hide (take_any ao len cap zs 0 w1 (hz.later B1) hm)
  have hsm := hz.small
  have HB := hide (And.intro B1 (And.intro R1 S1))
  clear B1 R1 S1 hz
  cases hT : takeR zs 0 with
  | error p =>
    have hD : decR zs = .error p := by simp only [decR, hT]
    have hcp := take_code hT
    rw [hT] at CT
    rw [hD]
    obtain ⟨ec, eq⟩ := p
    dsimp only at hcp
    have hne : ¬ ec = 0 := by omega
    clear hT hD hcp hsm
    go_enter Try.func36, Try.ntmps36
    go_wp2_with fail
    refine (unhide CT).mono ?_
    rintro e u ⟨rfl, b1⟩
    have HP := hide b1
    clear b1 CT hw1
    go_upto_region 2 with fail
    have b1 := unhide HP
    have hu1 := b1.size
    have hs1 := (unhide HB).2.2
    have U0 := (b1.block g (by omega)).trans (unhide HB).2.1
    have n0 := heap_alloc_new u (.cells #[.int .i64 0, .int .i64 0, .string ⟨#[]⟩, .slice none 0 0, .slice none 0 0] 27)
    have n2 : Below u.heap.size u (u.alloc (.cells #[.int .i64 0, .int .i64 0, .string ⟨#[]⟩, .slice none 0 0, .slice none 0 0] 27)) := (Below.refl _ _).alloc (Nat.le_refl _) _
    have n3 : (u.alloc (.cells #[.int .i64 0, .int .i64 0, .string ⟨#[]⟩, .slice none 0 0, .slice none 0 0] 27)).heap.size = u.heap.size + 1 := by simp
    have at2 := (n2.block g (by omega)).trans U0
    have B2 : Below w.heap.size w (u.alloc (.cells #[.int .i64 0, .int .i64 0, .string ⟨#[]⟩, .slice none 0 0, .slice none 0 0] 27)) := (unhide HB).1.trans ((b1.mono (by omega)).trans (n2.mono (by omega)))
    obtain ⟨G, hG⟩ : ∃ G, u.heap.size = G := ⟨_, rfl⟩
    have hgG : g < G := by omega
    simp only [hG]
    obtain ⟨w4, hw4⟩ : ∃ w4, u.alloc (.cells #[.int .i64 0, .int .i64 0, .string ⟨#[]⟩, .slice none 0 0, .slice none 0 0] 27) = w4 := ⟨_, rfl⟩
    rw [hG] at n0 n2 n3
    rw [hw4] at n0 n2 n3 at2 B2 ⊢
    obtain ⟨y0, y1, y2, y3, y4⟩ := row_cell n0
    obtain ⟨z0, z1, z2, z3, z4⟩ := row_cell at2
    have fz0 := frozen_of_row w4 g 0 _ _ at2
    have fz1 := frozen_of_row w4 g 1 _ _ at2
    have fz2 := frozen_of_row w4 g 2 _ _ at2
    have fz3 := frozen_of_row w4 g 3 _ _ at2
    have fz4 := frozen_of_row w4 g 4 _ _ at2
    have hn1 : ¬ g = G := by omega
    have hn2 : ¬ G = g := by omega
    have H4 := hide (And.intro B2 (And.intro at2 (And.intro n2 n3)))
    clear n0 n2 n3 at2 B2 U0 hs1 hu1 HB b1 hw4 hG HP
    go_wp2_with fail
    have R9 := five_set w4 g 27 _ _ _ _ _ (.int .i64 0) (.int .i64 0) (.string ⟨#[]⟩) (.slice none 0 0) (.slice none 0 0) (unhide H4).2.1
    have B9 := fun B a (hb : Below B a w4) (hB : B ≤ g) => five_below hb hB (.int .i64 0) (.int .i64 0) (.string ⟨#[]⟩) (.slice none 0 0) (.slice none 0 0)
    have O9 := fun c hc => five_other w4 g c (.int .i64 0) (.int .i64 0) (.string ⟨#[]⟩) (.slice none 0 0) (.slice none 0 0) hc
    generalize (((((w4.setCell ⟨g, 0, none⟩ (.int .i64 0)).setCell ⟨g, 1, none⟩ (.int .i64 0)).setCell ⟨g, 2, none⟩ (.string ⟨#[]⟩)).setCell ⟨g, 3, none⟩ (.slice none 0 0)).setCell ⟨g, 4, none⟩ (.slice none 0 0)) = w9 at R9 B9 O9 ⊢
    obtain ⟨r0, r1, r2, r3, r4⟩ := row_cell R9
    refine bodyPost_ret (v := .tuple #[.agg #[.int .i64 0, .int .i64 0, .string ⟨#[]⟩, .slice none 0 0, .slice none 0 0], .int .i64 eq, .int .i64 ec]) (by simp [results, Try.results36, go_sem, r0, r1, r2, r3, r4]) rfl ?_
    exact ⟨rfl, B9 _ _ (unhide H4).1 (by omega)⟩
  | ok p =>
    obtain ⟨v, n⟩ := p
    rw [hT] at CT
    have hnl : n ≤ len := by
      obtain ⟨_, _, _, _, SN⟩ := take_bound hsm hT
      have := SN.le
      omega
    by_cases hlt : n < len
    · have hD : decR zs = .error (43, (n : Int)) := by simp only [decR, hT]; rw [if_pos (by omega)]
      rw [hD]
      have i1 : (n : Int) < (len : Int) := by omega
      clear hT hD hsm
      go_enter Try.func36, Try.ntmps36
      go_wp2_with fail
      refine (unhide CT).mono ?_
      rintro e u ⟨x2, rfl, p2, b1⟩
      obtain ⟨k5, n5, s5, l5, ks5, al5, ak5, cl5, ck5, hy5, rfl⟩ := p2.shape
      clear hy5
      obtain ⟨lc5, hlc5⟩ : ∃ lc5, l5.length = lc5 := ⟨_, rfl⟩
      obtain ⟨mc5, hmc5⟩ : ∃ mc5, ks5.length = mc5 := ⟨_, rfl⟩
      rw [hlc5, hmc5] at p2 ⊢
      clear hlc5 hmc5
      have HP := hide (And.intro b1 p2)
      clear b1 p2 CT hw1
      go_upto_region 2 with fail
      obtain ⟨b1, p2⟩ := unhide HP
      have hu1 := b1.size
      have hs1 := (unhide HB).2.2
      have U0 := (b1.block g (by omega)).trans (unhide HB).2.1
      have n0 := heap_alloc_new u (.cells #[.int .i64 k5, .int .i64 n5, .string s5, .slice al5 lc5 cl5, .slice ak5 mc5 ck5] 27)
      have n2 : Below u.heap.size u (u.alloc (.cells #[.int .i64 k5, .int .i64 n5, .string s5, .slice al5 lc5 cl5, .slice ak5 mc5 ck5] 27)) := (Below.refl _ _).alloc (Nat.le_refl _) _
      have n3 : (u.alloc (.cells #[.int .i64 k5, .int .i64 n5, .string s5, .slice al5 lc5 cl5, .slice ak5 mc5 ck5] 27)).heap.size = u.heap.size + 1 := by simp
      have at2 := (n2.block g (by omega)).trans U0
      have B2 : Below w.heap.size w (u.alloc (.cells #[.int .i64 k5, .int .i64 n5, .string s5, .slice al5 lc5 cl5, .slice ak5 mc5 ck5] 27)) := (unhide HB).1.trans ((b1.mono (by omega)).trans (n2.mono (by omega)))
      obtain ⟨G, hG⟩ : ∃ G, u.heap.size = G := ⟨_, rfl⟩
      have hgG : g < G := by omega
      simp only [hG]
      obtain ⟨w4, hw4⟩ : ∃ w4, u.alloc (.cells #[.int .i64 k5, .int .i64 n5, .string s5, .slice al5 lc5 cl5, .slice ak5 mc5 ck5] 27) = w4 := ⟨_, rfl⟩
      rw [hG] at n0 n2 n3
      rw [hw4] at n0 n2 n3 at2 B2 ⊢
      obtain ⟨y0, y1, y2, y3, y4⟩ := row_cell n0
      obtain ⟨z0, z1, z2, z3, z4⟩ := row_cell at2
      have fz0 := frozen_of_row w4 g 0 _ _ at2
      have fz1 := frozen_of_row w4 g 1 _ _ at2
      have fz2 := frozen_of_row w4 g 2 _ _ at2
      have fz3 := frozen_of_row w4 g 3 _ _ at2
      have fz4 := frozen_of_row w4 g 4 _ _ at2
      have hn1 : ¬ g = G := by omega
      have hn2 : ¬ G = g := by omega
      have H4 := hide (And.intro B2 (And.intro at2 (And.intro n2 (And.intro n3 (And.intro p2 (And.intro hs1 hG))))))
      clear n0 n2 n3 at2 B2 U0 hs1 p2 hu1 HB b1 hw4 hG HP
      go_wp2_with fail
      have R9 := five_set w4 g 27 _ _ _ _ _ (.int .i64 0) (.int .i64 0) (.string ⟨#[]⟩) (.slice none 0 0) (.slice none 0 0) (unhide H4).2.1
      have B9 := fun B a (hb : Below B a w4) (hB : B ≤ g) => five_below hb hB (.int .i64 0) (.int .i64 0) (.string ⟨#[]⟩) (.slice none 0 0) (.slice none 0 0)
      have O9 := fun c hc => five_other w4 g c (.int .i64 0) (.int .i64 0) (.string ⟨#[]⟩) (.slice none 0 0) (.slice none 0 0) hc
      generalize (((((w4.setCell ⟨g, 0, none⟩ (.int .i64 0)).setCell ⟨g, 1, none⟩ (.int .i64 0)).setCell ⟨g, 2, none⟩ (.string ⟨#[]⟩)).setCell ⟨g, 3, none⟩ (.slice none 0 0)).setCell ⟨g, 4, none⟩ (.slice none 0 0)) = w9 at R9 B9 O9 ⊢
      obtain ⟨r0, r1, r2, r3, r4⟩ := row_cell R9
      refine bodyPost_ret (v := .tuple #[.agg #[.int .i64 0, .int .i64 0, .string ⟨#[]⟩, .slice none 0 0, .slice none 0 0], .int .i64 n, .int .i64 43]) (by simp [results, Try.results36, go_sem, r0, r1, r2, r3, r4]) rfl ?_
      exact ⟨rfl, B9 _ _ (unhide H4).1 (by omega)⟩
    · have hD : decR zs = .ok v := by simp only [decR, hT]; rw [if_neg (by omega)]
      rw [hD]
      have i1 : ¬ (n : Int) < (len : Int) := by omega
      clear hT hD hsm
      go_enter Try.func36, Try.ntmps36
      go_wp2_with fail
      refine (unhide CT).mono ?_
      rintro e u ⟨x2, rfl, p2, b1⟩
      obtain ⟨k5, n5, s5, l5, ks5, al5, ak5, cl5, ck5, hy5, rfl⟩ := p2.shape
      clear hy5
      obtain ⟨lc5, hlc5⟩ : ∃ lc5, l5.length = lc5 := ⟨_, rfl⟩
      obtain ⟨mc5, hmc5⟩ : ∃ mc5, ks5.length = mc5 := ⟨_, rfl⟩
      rw [hlc5, hmc5] at p2 ⊢
      clear hlc5 hmc5
      have HP := hide (And.intro b1 p2)
      clear b1 p2 CT hw1
      go_upto_region 2 with fail
      obtain ⟨b1, p2⟩ := unhide HP
      have hu1 := b1.size
      have hs1 := (unhide HB).2.2
      have U0 := (b1.block g (by omega)).trans (unhide HB).2.1
      have n0 := heap_alloc_new u (.cells #[.int .i64 k5, .int .i64 n5, .string s5, .slice al5 lc5 cl5, .slice ak5 mc5 ck5] 27)
      have n2 : Below u.heap.size u (u.alloc (.cells #[.int .i64 k5, .int .i64 n5, .string s5, .slice al5 lc5 cl5, .slice ak5 mc5 ck5] 27)) := (Below.refl _ _).alloc (Nat.le_refl _) _
      have n3 : (u.alloc (.cells #[.int .i64 k5, .int .i64 n5, .string s5, .slice al5 lc5 cl5, .slice ak5 mc5 ck5] 27)).heap.size = u.heap.size + 1 := by simp
      have at2 := (n2.block g (by omega)).trans U0
      have B2 : Below w.heap.size w (u.alloc (.cells #[.int .i64 k5, .int .i64 n5, .string s5, .slice al5 lc5 cl5, .slice ak5 mc5 ck5] 27)) := (unhide HB).1.trans ((b1.mono (by omega)).trans (n2.mono (by omega)))
      obtain ⟨G, hG⟩ : ∃ G, u.heap.size = G := ⟨_, rfl⟩
      have hgG : g < G := by omega
      simp only [hG]
      obtain ⟨w4, hw4⟩ : ∃ w4, u.alloc (.cells #[.int .i64 k5, .int .i64 n5, .string s5, .slice al5 lc5 cl5, .slice ak5 mc5 ck5] 27) = w4 := ⟨_, rfl⟩
      rw [hG] at n0 n2 n3
      rw [hw4] at n0 n2 n3 at2 B2 ⊢
      obtain ⟨y0, y1, y2, y3, y4⟩ := row_cell n0
      obtain ⟨z0, z1, z2, z3, z4⟩ := row_cell at2
      have fz0 := frozen_of_row w4 g 0 _ _ at2
      have fz1 := frozen_of_row w4 g 1 _ _ at2
      have fz2 := frozen_of_row w4 g 2 _ _ at2
      have fz3 := frozen_of_row w4 g 3 _ _ at2
      have fz4 := frozen_of_row w4 g 4 _ _ at2
      have hn1 : ¬ g = G := by omega
      have hn2 : ¬ G = g := by omega
      have H4 := hide (And.intro B2 (And.intro at2 (And.intro n2 (And.intro n3 (And.intro p2 (And.intro hs1 hG))))))
      clear n0 n2 n3 at2 B2 U0 hs1 p2 hu1 HB b1 hw4 hG HP
      go_wp2_with fail
      have R9 := five_set w4 g 27 _ _ _ _ _ (.int .i64 k5) (.int .i64 n5) (.string s5) (.slice al5 lc5 cl5) (.slice ak5 mc5 ck5) (unhide H4).2.1
      have B9 := fun B a (hb : Below B a w4) (hB : B ≤ g) => five_below hb hB (.int .i64 k5) (.int .i64 n5) (.string s5) (.slice al5 lc5 cl5) (.slice ak5 mc5 ck5)
      have S9 : (((((w4.setCell ⟨g, 0, none⟩ (.int .i64 k5)).setCell ⟨g, 1, none⟩ (.int .i64 n5)).setCell ⟨g, 2, none⟩ (.string s5)).setCell ⟨g, 3, none⟩ (.slice al5 lc5 cl5)).setCell ⟨g, 4, none⟩ (.slice ak5 mc5 ck5)).heap.size = w4.heap.size := by simp
      have O9 := fun c hc => five_other w4 g c (.int .i64 k5) (.int .i64 n5) (.string s5) (.slice al5 lc5 cl5) (.slice ak5 mc5 ck5) hc
      generalize (((((w4.setCell ⟨g, 0, none⟩ (.int .i64 k5)).setCell ⟨g, 1, none⟩ (.int .i64 n5)).setCell ⟨g, 2, none⟩ (.string s5)).setCell ⟨g, 3, none⟩ (.slice al5 lc5 cl5)).setCell ⟨g, 4, none⟩ (.slice ak5 mc5 ck5)) = w9 at R9 B9 O9 S9 ⊢
      obtain ⟨r0, r1, r2, r3, r4⟩ := row_cell R9
      refine bodyPost_ret (v := .tuple #[.agg #[.int .i64 k5, .int .i64 n5, .string s5, .slice al5 lc5 cl5, .slice ak5 mc5 ck5], .int .i64 0, .int .i64 0]) (by simp [results, Try.results36, go_sem, r0, r1, r2, r3, r4]) rfl ?_
      obtain ⟨B2, at2, n2, n3, p2, hs1, hG⟩ := unhide H4
      refine ⟨_, rfl, (p2.move (fun c hc => ?_)).weak (fun c hc => ⟨by omega, by omega⟩), B9 _ _ B2 (by omega)⟩
      rw [O9 c (by omega), n2.block c (by omega)]
end Go.Proofs.Ytocklblkopmjgaa
