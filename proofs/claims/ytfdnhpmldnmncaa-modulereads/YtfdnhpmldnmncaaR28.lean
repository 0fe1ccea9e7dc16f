/-
  The walks of the document's own Take and Decode; condition: the form's own reach.
  Where a value's bytes are wrong lies within them; no conditions.
-/
import Derived.Test.YtfdnhpmldnmncaaR27
import Derived.Test.YtfdnhpmldnmncaaR23
namespace Go.Proofs.Ytfdnhpmldnmncaa
open Go.RowKit
set_option linter.unusedVariables false
set_option linter.unusedSimpArgs false

set_option maxRecDepth 100000 in
set_option maxHeartbeats 1000000 in
theorem take_f (ao : Option Addr) (len cap : Nat) (zs : List Int) (p : Int) (w : World) (hz : Row8 w ao len cap zs) (hm : cap ≤ maxLen) :
    Calls Try.prog 45 #[.slice ao len cap, .int .i64 p] w fun e w' => ResTk w (takeR zs p) e w' := by
  obtain ⟨g, hg⟩ : ∃ g, w.heap.size = g := ⟨_, rfl⟩
  have hlen := hz.length
  have hle := hz.le
  have hm' : len ≤ 9223372036854775807 := by unfold maxLen at hm; omega
  by_cases hout : p < 0 ∨ (len : Int) < p
  · have hT : takeR zs p = .error (41, 0) := by unfold takeR; rw [if_pos (by rw [hlen]; exact hout)]
    rw [hT]
    have R1 := heap_alloc_new w (.cells #[.int .i64 0, .int .i64 0, .string ⟨#[]⟩, .slice none 0 0, .slice none 0 0] 51)
    have B1 : Below w.heap.size w (w.alloc (.cells #[.int .i64 0, .int .i64 0, .string ⟨#[]⟩, .slice none 0 0, .slice none 0 0] 51)) := (Below.refl _ _).alloc (Nat.le_refl _) _
    rw [hg] at R1
    have HB := hide (And.intro B1 R1)
    clear hT hz B1 R1
    by_cases h0 : p < 0
    · go_enter Try.func45, Try.ntmps45
      go_wp2_with fail
      obtain ⟨w1, hw1⟩ : ∃ w1, w.alloc (.cells #[.int .i64 0, .int .i64 0, .string ⟨#[]⟩, .slice none 0 0, .slice none 0 0] 51) = w1 := ⟨_, rfl⟩
      rw [hw1] at HB ⊢
      obtain ⟨r0, r1, r2, r3, r4⟩ := row_cell (unhide HB).2
      refine bodyPost_ret (v := .tuple #[.agg #[.int .i64 0, .int .i64 0, .string ⟨#[]⟩, .slice none 0 0, .slice none 0 0], .int .i64 0, .int .i64 41]) (by simp [results, Try.results45, go_sem, r0, r1, r2, r3, r4]) rfl ?_
      exact ⟨rfl, (unhide HB).1⟩
    · have h1 : (len : Int) < p := by omega
      have h0' : decide (p < 0) = false := by simp; omega
      go_enter Try.func45, Try.ntmps45
      go_wp2_with fail
      obtain ⟨w1, hw1⟩ : ∃ w1, w.alloc (.cells #[.int .i64 0, .int .i64 0, .string ⟨#[]⟩, .slice none 0 0, .slice none 0 0] 51) = w1 := ⟨_, rfl⟩
      rw [hw1] at HB ⊢
      obtain ⟨r0, r1, r2, r3, r4⟩ := row_cell (unhide HB).2
      refine bodyPost_ret (v := .tuple #[.agg #[.int .i64 0, .int .i64 0, .string ⟨#[]⟩, .slice none 0 0, .slice none 0 0], .int .i64 0, .int .i64 41]) (by simp [results, Try.results45, go_sem, r0, r1, r2, r3, r4]) rfl ?_
      exact ⟨rfl, (unhide HB).1⟩
  · obtain ⟨a, rfl⟩ : ∃ a : Nat, p = a := ⟨p.toNat, by omega⟩
    have hal : a ≤ len := by omega
    have h0' : decide ((a : Int) < 0) = false := by simp
    have h1 : ¬ (len : Int) < (a : Int) := by omega
    have hT : takeR zs a = match (generalizing := false) rdV zs 8 a 0 with | .error e => .error e | .ok (v, a', _) => .ok (v, a') := by unfold takeR; rw [if_neg (by rw [hlen]; exact hout)]; simp only [Int.toNat_natCast]; cases rdV zs 8 a 0 <;> rfl
    have B2 : Below w.heap.size w ((w.alloc (.cells #[.int .i64 0, .int .i64 0, .string ⟨#[]⟩, .slice none 0 0, .slice none 0 0] 51)).alloc (.cells #[.slice ao len cap, .int .i64 a, .int .i64 0, .int .i64 0, .int .i64 0] 96)) := ((Below.refl _ _).alloc (Nat.le_refl _) _).alloc (by simp) _
    have at0 : ((w.alloc (.cells #[.int .i64 0, .int .i64 0, .string ⟨#[]⟩, .slice none 0 0, .slice none 0 0] 51)).alloc (.cells #[.slice ao len cap, .int .i64 a, .int .i64 0, .int .i64 0, .int .i64 0] 96)).heap[g]? = some (.cells #[.int .i64 0, .int .i64 0, .string ⟨#[]⟩, .slice none 0 0, .slice none 0 0] 51 (0, 0)) := by
      have b1 := (Below.refl (w.alloc (.cells #[.int .i64 0, .int .i64 0, .string ⟨#[]⟩, .slice none 0 0, .slice none 0 0] 51)).heap.size (w.alloc (.cells #[.int .i64 0, .int .i64 0, .string ⟨#[]⟩, .slice none 0 0, .slice none 0 0] 51))).alloc (Nat.le_refl _) (.cells #[.slice ao len cap, .int .i64 a, .int .i64 0, .int .i64 0, .int .i64 0] 96)
      rw [← hg, b1.block w.heap.size (by simp)]
      exact heap_alloc_new w _
    have at1 : Rf ((w.alloc (.cells #[.int .i64 0, .int .i64 0, .string ⟨#[]⟩, .slice none 0 0, .slice none 0 0] 51)).alloc (.cells #[.slice ao len cap, .int .i64 a, .int .i64 0, .int .i64 0, .int .i64 0] 96)) (g + 1) (.slice ao len cap) a 0 0 0 := by
      have := heap_alloc_new (w.alloc (.cells #[.int .i64 0, .int .i64 0, .string ⟨#[]⟩, .slice none 0 0, .slice none 0 0] 51)) (.cells #[.slice ao len cap, .int .i64 a, .int .i64 0, .int .i64 0, .int .i64 0] 96)
      unfold Rf
      rw [← hg]
      simpa using this
    have S2 : Src ((w.alloc (.cells #[.int .i64 0, .int .i64 0, .string ⟨#[]⟩, .slice none 0 0, .slice none 0 0] 51)).alloc (.cells #[.slice ao len cap, .int .i64 a, .int .i64 0, .int .i64 0, .int .i64 0] 96)) (g + 1) ao len cap zs := ⟨hz.later B2, fun ad he hp => by have := hz.block ad he hp; omega, at1.lt, hm⟩
    have CW := hide (val_f zs 8 (g + 1) ao len cap a 0 _ at1 S2 hal (by omega) (by omega))
    rw [show (8 : Int) - ((8 : Nat) : Int) = 0 from by decide] at CW
    have HB := hide (And.intro B2 (And.intro at0 at1.lt))
    clear B2 at0 at1 S2 hz hout
    cases hv : rdV zs 8 a 0 with
    | error e =>
      rw [hv] at CW hT
      dsimp only at hT
      rw [hT]
      have hcp := code_pos 8 a 0 e hv
      obtain ⟨ec, eq⟩ := e
      dsimp only at hcp
      have hne : ¬ ec = 0 := by omega
      clear hv hT hcp
      go_enter Try.func45, Try.ntmps45
      go_wp2_with fail
      refine (unhide CW).mono ?_
      rintro e u ⟨v', x2, rfl, p2, b1, k2⟩
      obtain ⟨p2', t2', r2⟩ := k2
      obtain ⟨k5, n5, s5, l5, ks5, al5, ak5, cl5, ck5, hy5, rfl⟩ := p2.shape
      clear hy5
      obtain ⟨lc5, hlc5⟩ : ∃ lc5, l5.length = lc5 := ⟨_, rfl⟩
      obtain ⟨mc5, hmc5⟩ : ∃ mc5, ks5.length = mc5 := ⟨_, rfl⟩
      rw [hlc5, hmc5] at p2 ⊢
      clear hlc5 hmc5
      have HU := hide (And.intro ((unhide HB).1.trans (b1.below (Nat.le_of_lt (by omega)) (Nat.le_of_lt (by have := (unhide HB).2.2; omega)))) (And.intro ((b1.block g (by have := (unhide HB).2.2; omega) (by omega)).trans (unhide HB).2.1) (And.intro p2 (And.intro r2 (And.intro (unhide HB).2.2 b1.size)))))
      clear b1 CW HB p2 r2
      go_upto_region 5 with fail
      obtain ⟨G, hG⟩ : ∃ G, u.heap.size = G := ⟨_, rfl⟩
      have n0 := heap_alloc_new u (.cells #[.int .i64 k5, .int .i64 n5, .string s5, .slice al5 lc5 cl5, .slice ak5 mc5 ck5] 51)
      have n2 : Below u.heap.size u (u.alloc (.cells #[.int .i64 k5, .int .i64 n5, .string s5, .slice al5 lc5 cl5, .slice ak5 mc5 ck5] 51)) := (Below.refl _ _).alloc (Nat.le_refl _) _
      have n3 : (u.alloc (.cells #[.int .i64 k5, .int .i64 n5, .string s5, .slice al5 lc5 cl5, .slice ak5 mc5 ck5] 51)).heap.size = u.heap.size + 1 := by simp
      try simp only [hG]
      rw [hG] at n0 n2 n3
      obtain ⟨w4, hw4⟩ : ∃ w4, u.alloc (.cells #[.int .i64 k5, .int .i64 n5, .string s5, .slice al5 lc5 cl5, .slice ak5 mc5 ck5] 51) = w4 := ⟨_, rfl⟩
      rw [hw4] at n0 n2 n3 ⊢
      have hgG : g + 1 < G := by have := (unhide HU).2.2.2.1.lt; omega
      have at4 := (n2.block g (by omega)).trans (unhide HU).2.1
      have B4 : Below w.heap.size w w4 := (unhide HU).1.trans (n2.mono (by omega))
      have r4 : Rf w4 (g + 1) _ _ _ _ _ := (n2.block (g + 1) hgG).trans (unhide HU).2.2.2.1
      obtain ⟨c0, c1, c2, c3, c4, -, -, -, -⟩ := r4.cells
      obtain ⟨y0, y1, y2, y3, y4⟩ := row_cell n0
      obtain ⟨z0, z1, z2, z3, z4⟩ := row_cell at4
      have fz0 := frozen_of_row w4 g 0 _ _ at4
      have fz1 := frozen_of_row w4 g 1 _ _ at4
      have fz2 := frozen_of_row w4 g 2 _ _ at4
      have fz3 := frozen_of_row w4 g 3 _ _ at4
      have fz4 := frozen_of_row w4 g 4 _ _ at4
      have hn1 : ¬ g = G := by omega
      have hn2 : ¬ G = g := by omega
      have H4 := hide (And.intro B4 (And.intro at4 (And.intro n2 (And.intro n3 (And.intro hG hgG)))))
      clear hw4 n0 n2 n3 at4 B4 hG hgG r4
      go_upto_region 6 with fail
      go_region
      all_goals go_wp2_with fail
      have F9 := five_drew w4 g 51 _ _ _ _ _ (.int .i64 0) (.int .i64 0) (.string ⟨#[]⟩) (.slice none 0 0) (.slice none 0 0) (unhide H4).2.1
      generalize (((((w4.setCell ⟨g, 0, none⟩ (.int .i64 0)).setCell ⟨g, 1, none⟩ (.int .i64 0)).setCell ⟨g, 2, none⟩ (.string ⟨#[]⟩)).setCell ⟨g, 3, none⟩ (.slice none 0 0)).setCell ⟨g, 4, none⟩ (.slice none 0 0)).drew = w9 at F9 ⊢
      obtain ⟨r0, r1, r2, r3, r4⟩ := row_cell F9.1
      refine bodyPost_ret (v := .tuple #[.agg #[.int .i64 0, .int .i64 0, .string ⟨#[]⟩, .slice none 0 0, .slice none 0 0], .int .i64 eq, .int .i64 ec]) (by simp [results, Try.results45, go_sem, r0, r1, r2, r3, r4]) rfl ?_
      exact ⟨rfl, F9.2.1 _ _ (unhide H4).1 (by omega)⟩
    | ok vp =>
      obtain ⟨v, a', t'⟩ := vp
      rw [hv] at CW hT
      dsimp only at hT
      rw [hT]
      clear hv hT
      go_enter Try.func45, Try.ntmps45
      go_wp2_with fail
      refine (unhide CW).mono ?_
      rintro e u ⟨v', x2, rfl, p2, b1, k2⟩
      obtain ⟨rfl, r2⟩ := k2
      obtain ⟨k5, n5, s5, l5, ks5, al5, ak5, cl5, ck5, hy5, rfl⟩ := p2.shape
      clear hy5
      obtain ⟨lc5, hlc5⟩ : ∃ lc5, l5.length = lc5 := ⟨_, rfl⟩
      obtain ⟨mc5, hmc5⟩ : ∃ mc5, ks5.length = mc5 := ⟨_, rfl⟩
      rw [hlc5, hmc5] at p2 ⊢
      clear hlc5 hmc5
      have HU := hide (And.intro ((unhide HB).1.trans (b1.below (Nat.le_of_lt (by omega)) (Nat.le_of_lt (by have := (unhide HB).2.2; omega)))) (And.intro ((b1.block g (by have := (unhide HB).2.2; omega) (by omega)).trans (unhide HB).2.1) (And.intro p2 (And.intro r2 (And.intro (unhide HB).2.2 b1.size)))))
      clear b1 CW HB p2 r2
      go_upto_region 5 with fail
      obtain ⟨G, hG⟩ : ∃ G, u.heap.size = G := ⟨_, rfl⟩
      have n0 := heap_alloc_new u (.cells #[.int .i64 k5, .int .i64 n5, .string s5, .slice al5 lc5 cl5, .slice ak5 mc5 ck5] 51)
      have n2 : Below u.heap.size u (u.alloc (.cells #[.int .i64 k5, .int .i64 n5, .string s5, .slice al5 lc5 cl5, .slice ak5 mc5 ck5] 51)) := (Below.refl _ _).alloc (Nat.le_refl _) _
      have n3 : (u.alloc (.cells #[.int .i64 k5, .int .i64 n5, .string s5, .slice al5 lc5 cl5, .slice ak5 mc5 ck5] 51)).heap.size = u.heap.size + 1 := by simp
      try simp only [hG]
      rw [hG] at n0 n2 n3
      obtain ⟨w4, hw4⟩ : ∃ w4, u.alloc (.cells #[.int .i64 k5, .int .i64 n5, .string s5, .slice al5 lc5 cl5, .slice ak5 mc5 ck5] 51) = w4 := ⟨_, rfl⟩
      rw [hw4] at n0 n2 n3 ⊢
      have hgG : g + 1 < G := by have := (unhide HU).2.2.2.1.lt; omega
      have at4 := (n2.block g (by omega)).trans (unhide HU).2.1
      have B4 : Below w.heap.size w w4 := (unhide HU).1.trans (n2.mono (by omega))
      have r4 : Rf w4 (g + 1) _ _ _ _ _ := (n2.block (g + 1) hgG).trans (unhide HU).2.2.2.1
      obtain ⟨c0, c1, c2, c3, c4, -, -, -, -⟩ := r4.cells
      obtain ⟨y0, y1, y2, y3, y4⟩ := row_cell n0
      obtain ⟨z0, z1, z2, z3, z4⟩ := row_cell at4
      have fz0 := frozen_of_row w4 g 0 _ _ at4
      have fz1 := frozen_of_row w4 g 1 _ _ at4
      have fz2 := frozen_of_row w4 g 2 _ _ at4
      have fz3 := frozen_of_row w4 g 3 _ _ at4
      have fz4 := frozen_of_row w4 g 4 _ _ at4
      have hn1 : ¬ g = G := by omega
      have hn2 : ¬ G = g := by omega
      have H4 := hide (And.intro B4 (And.intro at4 (And.intro n2 (And.intro n3 (And.intro hG hgG)))))
      clear hw4 n0 n2 n3 at4 B4 hG hgG r4
      go_upto_region 7 with fail
      go_region
      all_goals go_wp2_with fail
      have F9 := five_drew w4 g 51 _ _ _ _ _ (.int .i64 k5) (.int .i64 n5) (.string s5) (.slice al5 lc5 cl5) (.slice ak5 mc5 ck5) (unhide H4).2.1
      generalize (((((w4.setCell ⟨g, 0, none⟩ (.int .i64 k5)).setCell ⟨g, 1, none⟩ (.int .i64 n5)).setCell ⟨g, 2, none⟩ (.string s5)).setCell ⟨g, 3, none⟩ (.slice al5 lc5 cl5)).setCell ⟨g, 4, none⟩ (.slice ak5 mc5 ck5)).drew = w9 at F9 ⊢
      obtain ⟨r0, r1, r2, r3, r4⟩ := row_cell F9.1
      refine bodyPost_ret (v := .tuple #[.agg #[.int .i64 k5, .int .i64 n5, .string s5, .slice al5 lc5 cl5, .slice ak5 mc5 ck5], .int .i64 a', .int .i64 0]) (by simp [results, Try.results45, go_sem, r0, r1, r2, r3, r4]) rfl ?_
      obtain ⟨B4, at4, n2, n3, hG, hgG⟩ := unhide H4
      have hsz := (unhide HU).2.2.2.2.1
      refine ⟨_, rfl, ((unhide HU).2.2.1.move (fun c hc => ?_)).weak (fun c hc => ⟨by have := hc.1; omega, by have := F9.2.2.2; have := hc.2; omega⟩), F9.2.1 _ _ B4 (by omega)⟩
      rw [F9.2.2.1 c (by have := hc.1; omega), n2.block c (by have := hc.2; omega)]

end Go.Proofs.Ytfdnhpmldnmncaa

namespace Go.Proofs.Ytfdnhpmldnmncaa
open Go.RowKit

theorem take_bound {zs : List Int} (hl : ∀ n ∈ zs, 0 ≤ n ∧ n ≤ 255) {p : Int} {v : Vl} {n : Nat} (h : takeR zs p = .ok (v, n)) :
    ∃ a : Nat, p = a ∧ ∃ t, rdV zs 8 a 0 = .ok (v, n, t) ∧ Snd zs 8 a 0 v n t := by
  unfold takeR at h
  split at h
  · cases h
  · rename_i hp
    cases hv : rdV zs 8 p.toNat 0 with
    | error q => rw [hv] at h; cases h
    | ok q =>
      obtain ⟨v', a', t⟩ := q
      rw [hv] at h
      cases h
      exact ⟨p.toNat, by omega, t, hv, rdV_sound hl 8 _ _ _ _ _ hv (by omega)⟩

theorem right_of_snd {zs : List Int} {a n t : Nat} {v : Vl} (SN : Snd zs 8 a 0 v n t) : rightB v = true := by
  unfold rightB
  rw [SN.ok]
  have h1 := SN.wt
  have h2 := SN.most
  simp
  omega

def In (zs : List Int) (p : Int × Int) : Prop := 0 ≤ p.2 ∧ p.2 ≤ (zs.length : Int)

theorem in_at {zs : List Int} {c : Int} {a : Nat} (h : a ≤ zs.length) : In zs (c, (a : Int)) := ⟨by dsimp only; omega, by dsimp only; omega⟩

theorem cnt_place {zs : List Int} {q a t k : Nat} {p : Int × Int} (ha : a ≤ zs.length) (hq : q ≤ zs.length) (h : rdCnt zs q a t k = .error p) : In zs p := by
  unfold rdCnt at h
  split at h
  · cases h; exact in_at ha
  · split at h
    · cases h; exact in_at hq
    · cases h

theorem key_place {zs : List Int} {l : Option ByteArray} {a t : Nat} {p : Int × Int} (ha : a ≤ zs.length) (h : rdKey zs l a t = .error p) : In zs p := by
  unfold rdKey at h
  split at h
  · cases h; exact in_at ha
  · split at h
    · cases h; exact in_at ha
    · split at h
      · cases h; exact in_at ha
      · cases h

def PlAt (zs : List Int) (f : Nat → Nat → Except (Int × Int) (Vl × Nat × Nat)) : Prop := ∀ a t p, a ≤ zs.length → t ≤ 2048 → f a t = .error p → In zs p

theorem arr_place {zs : List Int} {d : Nat} {f : Nat → Nat → Except (Int × Int) (Vl × Nat × Nat)} (hs : SndAt zs d f) (hf : PlAt zs f) : ∀ (n : Nat) (l : List Vl) (a t : Nat) (p : Int × Int), a ≤ zs.length → t ≤ 2048 → rdArr f n l a t = .error p → In zs p
  | 0, l, a, t, p, _, _, h => by simp only [rdArr] at h; cases h
  | n + 1, l, a, t, p, ha, ht, h => by
    simp only [rdArr] at h
    cases hv : f a t with
    | error e => rw [hv] at h; cases h; exact hf a t _ ha ht hv
    | ok q =>
      obtain ⟨v, a', t'⟩ := q
      rw [hv] at h
      have S := hs _ _ _ _ _ hv ht
      exact arr_place hs hf n _ a' t' p S.le S.most h

theorem rec_place {zs : List Int} (hl : ∀ n ∈ zs, 0 ≤ n ∧ n ≤ 255) {d : Nat} {f : Nat → Nat → Except (Int × Int) (Vl × Nat × Nat)} (hs : SndAt zs d f) (hf : PlAt zs f) : ∀ (n : Nat) (l : List Vl) (ks : List ByteArray) (a t : Nat) (p : Int × Int), a ≤ zs.length → t ≤ 2048 → rdRec zs f n l ks a t = .error p → In zs p
  | 0, l, ks, a, t, p, _, _, h => by simp only [rdRec] at h; cases h
  | n + 1, l, ks, a, t, p, ha, ht, h => by
    simp only [rdRec] at h
    cases hk : rdKey zs ks.getLast? a t with
    | error e => rw [hk] at h; cases h; exact key_place ha hk
    | ok q =>
      obtain ⟨s, a1, t1⟩ := q
      rw [hk] at h
      dsimp only at h
      obtain ⟨k1, k2, k3, k4, _⟩ := key_form hl hk
      cases hv : f a1 t1 with
      | error e => rw [hv] at h; cases h; exact hf a1 t1 _ k2 k4 hv
      | ok q =>
        obtain ⟨v, a', t'⟩ := q
        rw [hv] at h
        have S := hs _ _ _ _ _ hv k4
        exact rec_place hl hs hf n _ _ a' t' p S.le S.most h

theorem rdV_place {zs : List Int} (hl : ∀ n ∈ zs, 0 ≤ n ∧ n ≤ 255) : ∀ d, PlAt zs (rdV zs d)
  | 0, a, t, p, ha, ht, h => by
    simp only [rdV] at h
    split at h
    · cases h; exact in_at ha
    · split at h <;> cases h <;> exact in_at ha
  | d + 1, a, t, p, ha, ht, h => by
    simp only [rdV] at h
    split at h
    · cases h; exact in_at ha
    · rename_i c hc
      have ha1 : a + 1 ≤ zs.length := (List.getElem?_eq_some_iff.1 hc).1
      split at h
      · cases h; exact in_at ha
      split at h
      · cases h; exact in_at ha
      rename_i _ ht1
      split at h
      · cases h
      split at h
      · cases h
      split at h
      · unfold rdNum at h
        split at h
        · cases h; exact in_at ha1
        · cases h
      split at h
      · unfold rdTxt at h
        split at h
        · cases h; exact in_at ha
        · split at h
          · cases h; exact in_at ha1
          · cases h
      split at h
      · unfold rdAll at h
        cases hc : rdCnt zs a (a + 1) (t + 1) 1 with
        | error e => rw [hc] at h; cases h; exact cnt_place ha1 ha hc
        | ok q =>
          obtain ⟨n, a1⟩ := q
          rw [hc] at h
          dsimp only at h
          obtain ⟨c1, c2, _⟩ := cnt_form hl (by omega) (by omega) hc
          cases hr : rdArr (rdV zs d) n [] a1 (t + 1) with
          | error e => rw [hr] at h; cases h; exact arr_place (rdV_sound hl d) (rdV_place hl d) _ _ _ _ _ c2 (by omega) hr
          | ok q => rw [hr] at h; cases h
      split at h
      · unfold rdPairs at h
        cases hc : rdCnt zs a (a + 1) (t + 1) 2 with
        | error e => rw [hc] at h; cases h; exact cnt_place ha1 ha hc
        | ok q =>
          obtain ⟨n, a1⟩ := q
          rw [hc] at h
          dsimp only at h
          obtain ⟨c1, c2, _⟩ := cnt_form hl (by omega) (by omega) hc
          cases hr : rdRec zs (rdV zs d) n [] [] a1 (t + 1) with
          | error e => rw [hr] at h; cases h; exact rec_place hl (rdV_sound hl d) (rdV_place hl d) _ _ _ _ _ _ c2 (by omega) hr
          | ok q => rw [hr] at h; cases h
      · cases h

theorem takeR_place {zs : List Int} (hl : ∀ n ∈ zs, 0 ≤ n ∧ n ≤ 255) {p : Int} {q : Int × Int} (h : takeR zs p = .error q) : In zs q := by
  unfold takeR at h
  split at h
  · cases h; exact ⟨by omega, by omega⟩
  · cases hv : rdV zs 8 p.toNat 0 with
    | error e => rw [hv] at h; cases h; exact rdV_place hl 8 _ _ _ (by omega) (by omega) hv
    | ok e => rw [hv] at h; cases h
end Go.Proofs.Ytfdnhpmldnmncaa
