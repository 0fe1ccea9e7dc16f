/-
  The document's own reader of wire: an array; conditions: the weight so far is at most 2048, the form's own reach.
-/
import Derived.Test.YtfdnhpmldnmncaaR25
import Derived.Test.YtfdnhpmldnmncaaR18
import Derived.Test.YtfdnhpmldnmncaaR23
import Derived.Test.YtfdnhpmldnmncaaR12
import Derived.Deep.RegionHeld3
namespace Go.Proofs.Ytfdnhpmldnmncaa
open Go.RowKit
set_option linter.unusedVariables false
set_option linter.unusedSimpArgs false

/-- what is kept beside the list that is made -/
structure ArF (w u : World) (gr g gv : Nat) : Prop where
  at0 : u.heap[g]? = some (.cells #[.int .i64 0, .int .i64 0, .string ⟨#[]⟩, .slice none 0 0, .slice none 0 0] 51 (0, 0))
  size : gv < u.heap.size
  beside : Beside gr w u
  top : w.heap.size = g
  low : gr < g
  mid : g < gv

theorem ArF.later {w u u1 : World} {gr g gv : Nat} (h : ArF w u gr g gv) (hu : Beside gr u u1) : ArF w u1 gr g gv := by
  have hs := h.size
  have hl := h.low
  have hm := h.mid
  exact ⟨(hu.block g (by omega) (by omega)).trans h.at0, Nat.lt_of_lt_of_le h.size hu.size, h.beside.trans hu, h.top, h.low, h.mid⟩

theorem ArF.push {w u w6 : World} {gr g gv f : Nat} {row : Option Nat} {v : Value} (h : ArF w u gr g gv) (hgrow : u.grownBy w6 row) (hrow : ∀ b, row = some b → gv + 1 ≤ b) : ArF w (w6.setCell ⟨gv, f, none⟩ v) gr g gv := by
  have hs := h.size
  have hl := h.low
  have ht := h.top
  have hm := h.mid
  have hg := hgrow.size
  have bb := ((Below.refl (g + 1) u).grown hgrow (by omega) (fun b hb => by have := hrow b hb; omega)).setCell (p := ⟨gv, f, none⟩) (by show g + 1 ≤ gv; omega) v
  refine ⟨?_, by simp; omega, ⟨bb.os.trans h.beside.os, bb.tape.trans h.beside.tape, bb.output.trans h.beside.output, Nat.le_trans h.beside.size bb.size, fun k hk hn => (bb.block k (by omega)).trans (h.beside.block k hk hn)⟩, h.top, h.low, h.mid⟩
  rw [heap_setCell_other _ _ _ _ (by show g ≠ gv; omega), hgrow.block g (by omega) (fun e => by have := hrow g e.symm; omega)]
  exact h.at0

theorem arf_start (w u : World) (gr g gv : Nat) (k : Int) (l : List Vl) (ks : List ByteArray) (hb : Beside gr w u) (hg : w.heap.size = g) (hr : gr < g) (hz : g < u.heap.size) (at0 : u.heap[g]? = some (.cells #[.int .i64 0, .int .i64 0, .string ⟨#[]⟩, .slice none 0 0, .slice none 0 0] 51 (0, 0))) (hgv : u.heap.size = gv) :
    ArF w (u.alloc (.cells #[.int .i64 k, .int .i64 0, .string ⟨#[]⟩, .slice none 0 0, .slice none 0 0] 51)) gr g gv ∧
    Mid (u.alloc (.cells #[.int .i64 k, .int .i64 0, .string ⟨#[]⟩, .slice none 0 0, .slice none 0 0] 51)) (gv + 1) gv k 0 ⟨#[]⟩ l ks (.slice none 0 0) (.slice none 0 0) 0 0 (fun _ => []) ∧
    Below u.heap.size u (u.alloc (.cells #[.int .i64 k, .int .i64 0, .string ⟨#[]⟩, .slice none 0 0, .slice none 0 0] 51)) := by
  subst hgv
  have b1 := (Below.refl u.heap.size u).alloc (Nat.le_refl _) (.cells #[.int .i64 k, .int .i64 0, .string ⟨#[]⟩, .slice none 0 0, .slice none 0 0] 51)
  refine ⟨⟨(b1.block g hz).trans at0, by simp, hb.trans (Beside.of_below b1), hg, hr, hz⟩, ⟨heap_alloc_new u _, by omega, by simp, World.ownsRow_nil _ _ _ _, World.ownsRow_nil _ _ _ _, Or.inl rfl, fun c h => by omega, fun c y h => by omega⟩, b1⟩

/-- where the array stands -/
def StA (zs : List Int) (d : Nat) (r : Except (Int × Int) (Vl × Nat × Nat)) (len n i : Nat) (l : List Vl) (p t f q : Int) : Prop :=
  l.length = i ∧ ((f = 0 ∧ q = 0 ∧ ∃ p' t' : Nat, p = p' ∧ t = t' ∧ p' ≤ len ∧ t' ≤ 2048 ∧ (∀ ep, rdArr (rdV zs d) (n - i) l p' t' = .error ep → r = .error ep) ∧ ∀ l' a' t'', rdArr (rdV zs d) (n - i) l p' t' = .ok (l', a', t'') → r = .ok (.mk 4 0 ⟨#[]⟩ l' [], a', t'')) ∨ (¬ f = 0 ∧ r = .error (f, q)))

/-- what number leaves, one way or the other -/
theorem number_a (zs : List Int) (d q a t gr : Nat) (ao : Option Addr) (len cap : Nat) (w : World) (h : Rf w gr (.slice ao len cap) a t 0 0) (hS : Src w gr ao len cap zs) (ht : t ≤ 2048) :
    Calls Try.prog 70 #[.pointer (some ⟨gr, 0, none⟩), .int .i64 q, .int .i64 1] w fun e w' => ∃ (n : Nat) (p t' f q' : Int), e = .returned (.int .i64 n) ∧ n ≤ 2048 ∧ Rf w' gr (.slice ao len cap) p t' f q' ∧ Beside gr w w' ∧ StA zs d (rdAll zs (rdV zs d) q a t) len n 0 [] p t' f q' := by
  refine (number_f zs q a t 1 gr ao len cap w h hS ht (by omega)).mono ?_
  intro e w' hx
  cases hc : rdCnt zs q a t 1 with
  | error p =>
    rw [hc] at hx
    obtain ⟨rfl, r1, b1⟩ := hx
    have hp : ¬ p.1 = 0 := by
      unfold rdCnt at hc
      split at hc
      · cases hc; exact fun h => absurd h (by decide : ¬ (41 : Int) = 0)
      · split at hc
        · cases hc; exact fun h => absurd h (by decide : ¬ (42 : Int) = 0)
        · cases hc
    exact ⟨0, _, _, _, _, rfl, by omega, r1, b1, rfl, Or.inr ⟨hp, by simp only [rdAll, hc]⟩⟩
  | ok y =>
    obtain ⟨n, a1⟩ := y
    rw [hc] at hx
    obtain ⟨rfl, r1, b1⟩ := hx
    obtain ⟨k1, k2, k3, _, _, _⟩ := cnt_form hS.row.small (by omega) ht hc
    have hl := hS.row.length
    refine ⟨n, _, _, _, _, rfl, by omega, r1, b1, rfl, Or.inl ⟨rfl, rfl, a1, t, rfl, rfl, by omega, ht, ?_, ?_⟩⟩
    · intro ep he
      rw [Nat.sub_zero] at he
      simp only [rdAll, hc, he]
    · intro l' a' t'' he
      rw [Nat.sub_zero] at he
      simp only [rdAll, hc, he]

theorem StA.next {zs : List Int} {d : Nat} {r : Except (Int × Int) (Vl × Nat × Nat)} {len n i p t : Nat} {l : List Vl} (hl : l.length = i) (hi : i < n) (hz : zs.length = len) (hsm : ∀ n ∈ zs, 0 ≤ n ∧ n ≤ 255) (ht : t ≤ 2048)
    (h1 : ∀ ep, rdArr (rdV zs d) (n - i) l p t = .error ep → r = .error ep) (h2 : ∀ l' a' t'', rdArr (rdV zs d) (n - i) l p t = .ok (l', a', t'') → r = .ok (.mk 4 0 ⟨#[]⟩ l' [], a', t''))
    {gr : Nat} {bv : Value} {w w' : World} {v' : Vl} (hk : match rdV zs d p t with
      | .error ep => ∃ p' t', Rf w' gr bv p' t' ep.1 ep.2
      | .ok (v, a', t') => v' = v ∧ Rf w' gr bv a' t' 0 0) (hcode : ∀ ep, rdV zs d p t = .error ep → ¬ ep.1 = 0) :
    ∃ p2 t2 f2 q2 : Int, Rf w' gr bv p2 t2 f2 q2 ∧ StA zs d r len n (i + 1) (l ++ [v']) p2 t2 f2 q2 := by
  have e1 : n - i = (n - (i + 1)) + 1 := by omega
  cases hv : rdV zs d p t with
  | error ep =>
    rw [hv] at hk
    obtain ⟨p', t', hR⟩ := hk
    refine ⟨p', t', ep.1, ep.2, hR, by simp [hl], Or.inr ⟨hcode ep hv, h1 ep ?_⟩⟩
    rw [e1]
    simp only [rdArr, hv]
  | ok y =>
    obtain ⟨v, a', t'⟩ := y
    rw [hv] at hk
    obtain ⟨rfl, hR⟩ := hk
    have SN := rdV_sound hsm d p t v' a' t' hv ht
    refine ⟨a', t', 0, 0, hR, by simp [hl], Or.inl ⟨rfl, rfl, a', t', rfl, rfl, by have := SN.le; omega, SN.most, ?_, ?_⟩⟩
    · intro ep he
      refine h1 ep ?_
      rw [e1]
      simp only [rdArr, hv]
      exact he
    · intro l' a2 t2 he
      refine h2 l' a2 t2 ?_
      rw [e1]
      simp only [rdArr, hv]
      exact he

theorem code_any {zs : List Int} (d a t : Nat) (ep : Int × Int) (h : rdV zs d a t = .error ep) : ep.1 = 41 ∨ ep.1 = 42 := code_pos d a t ep h

set_option maxRecDepth 100000 in
set_option maxHeartbeats 2000000 in
theorem val_f_arr (zs : List Int) (d e' : Nat) (gr : Nat) (ao : Option Addr) (len cap a t : Nat) (w : World) (h : Rf w gr (.slice ao len cap) a t 0 0) (hS : Src w gr ao len cap zs) (ih : ValF zs e') (hde : d = e' + 1) (hd8 : d ≤ 8) (r : Except (Int × Int) (Vl × Nat × Nat)) (hc : zs[a]? = some 5) (hd : 1 ≤ d) (ht : t ≤ 2048) (hh : ¬ 2048 < t + 1) (hr : rdAll zs (rdV zs e') a (a + 1) (t + 1) = r) :
    Calls Try.prog 58 #[.pointer (some ⟨gr, 0, none⟩), .int .i64 (8 - (d : Int))] w fun e w' => ResF gr (.slice ao len cap) w r e w' := by
  have IH := hide ih
  have HSW := hide hS
  clear ih
  obtain ⟨g, hg⟩ : ∃ g, w.heap.size = g := ⟨_, rfl⟩
  have hrg : gr < g := by have := h.lt; omega
  have hB1 : Below w.heap.size w (w.alloc (.cells #[.int .i64 0, .int .i64 0, .string ⟨#[]⟩, .slice none 0 0, .slice none 0 0] 51)) := (Below.refl _ _).alloc (Nat.le_refl _) _
  have at1 : (w.alloc (.cells #[.int .i64 0, .int .i64 0, .string ⟨#[]⟩, .slice none 0 0, .slice none 0 0] 51)).heap[g]? = some (.cells #[.int .i64 0, .int .i64 0, .string ⟨#[]⟩, .slice none 0 0, .slice none 0 0] 51 (0, 0)) := by rw [← hg]; exact heap_alloc_new w _
  obtain ⟨w1, hw1⟩ : ∃ w1, w.alloc (.cells #[.int .i64 0, .int .i64 0, .string ⟨#[]⟩, .slice none 0 0, .slice none 0 0] 51) = w1 := ⟨_, rfl⟩
  rw [hw1] at hB1 at1
  have R1 : Rf w1 gr (.slice ao len cap) a t 0 0 := (hB1.block gr h.lt).trans h
  have S1 := hS.later (Beside.of_below (gr := gr) hB1)
  have z1 : g < w1.heap.size := (Array.getElem?_eq_some_iff.1 at1).1
  obtain ⟨c0, c1, c2, c3, c4, f1, f2, f3, f4⟩ := R1.cells
  have hcp : cap ≤ 9223372036854775807 := by have := hS.cap; unfold maxLen at this; omega
  have hlc := hS.row.le
  have HS : Hid (∀ u, Beside gr w1 u → Beside gr w u ∧ Src u gr ao len cap zs ∧ u.heap[g]? = some (.cells #[.int .i64 0, .int .i64 0, .string ⟨#[]⟩, .slice none 0 0, .slice none 0 0] 51 (0, 0)) ∧ g < u.heap.size) := hide (fun u hu => ⟨(Beside.of_below hB1).trans hu, S1.later hu, (hu.block g z1 (by omega)).trans at1, Nat.lt_of_lt_of_le z1 hu.size⟩)
  have CW := hide (heavier_ok gr _ a t 1 0 0 a w1 R1 (by omega) (by omega) (by omega))
  obtain ⟨hal, s0, s1, b, off, rfl, hbg, hz⟩ := S1.byte hc
  have ce := hz w1 (Beside.refl _ _)
  have hbn : ¬ b = gr := by omega
  have i1 : ¬ ((len : Int) ≤ (a : Int)) := by omega
  have i2 : (a : Int) < (len : Int) := by omega
  have i0 : (0 : Int) ≤ (a : Int) := by omega
  have HZ := hide hz
  obtain ⟨wi, hwi⟩ : ∃ wi : Int, 8 - (d : Int) = wi := ⟨_, rfl⟩
  rw [hwi]
  have hw8 : ¬ 8 ≤ wi := by omega
  have hwa : IntKind.i64.wrap ((a : Int) + 1) = (a : Int) + 1 := by rw [IntKind.wrap_i64]; omega
  clear h hS hB1 at1 R1 S1 z1 hz hc
  go_enter Try.func58, Try.ntmps58
  go_wp2_with fail
  refine (unhide CW).mono ?_
  rintro e u ⟨rfl, r1, b1⟩
  have HZ1 := hide (fun u' (hu : Beside gr w1 u') => unhide HZ u' hu)
  clear c0 c1 c2 c3 c4 f1 f2 f3 f4 ce
  obtain ⟨c0, c1, c2, c3, c4, f1, f2, f3, f4⟩ := r1.cells
  have H0 := hide (And.intro r1 b1)
  clear r1 b1 CW
  go_upto_region 12 with fail
  obtain ⟨u1, hu1⟩ : ∃ u1, u.setCell ⟨gr, 1, none⟩ (.int .i64 ((a : Int) + 1)) = u1 := ⟨_, rfl⟩
  have r1 : Rf u1 gr (.slice (some ⟨b, off, none⟩) len cap) ((a : Int) + 1) ((t : Int) + 1) 0 0 := by rw [← hu1]; exact (unhide H0).1.setAt _
  have b1 : Beside gr w1 u1 := by rw [← hu1]; exact (unhide H0).2.set
  rw [hu1]
  clear hu1 H0 c0 c1 c2 c3 c4 f1 f2 f3 f4
  obtain ⟨c0, c1, c2, c3, c4, f1, f2, f3, f4⟩ := r1.cells
  have ce := unhide HZ1 u1 b1
  obtain ⟨B, S, at0, zg⟩ := unhide HS u1 b1
  obtain ⟨z0, z1, z2, z3, z4⟩ := row_cell at0
  have fz0 := frozen_of_row u1 g 0 _ _ at0
  have fz1 := frozen_of_row u1 g 1 _ _ at0
  have fz2 := frozen_of_row u1 g 2 _ _ at0
  have fz3 := frozen_of_row u1 g 3 _ _ at0
  have fz4 := frozen_of_row u1 g 4 _ _ at0
  have MS := S.row.length
  have MC := S.cap
  have HSM := hide (And.intro S.row.small MS)
  obtain ⟨gv, hgv⟩ : ∃ gv, u1.heap.size = gv := ⟨_, rfl⟩
  have ST := arf_start w u1 gr g gv 4 [] [] B hg hrg zg at0 hgv
  have CN := hide (number_a zs e' a (a + 1) (t + 1) gr (some ⟨b, off, none⟩) len cap _ (by simpa using r1.of_below ST.2.2) (S.later (Beside.of_below ST.2.2)) (by omega))
  have hRS : Hid (∀ u, Beside gr w u → Src u gr (some ⟨b, off, none⟩) len cap zs) := hide (fun u hu => (unhide HSW).later hu)
  have HST := hide (And.intro ST.1 ST.2.1)
  have hw9 : IntKind.i64.wrap (wi + 1) = 8 - (e' : Int) := by rw [IntKind.wrap_i64]; omega
  rw [hr] at CN
  clear ST r1 b1 B S at0 zg HS hw1 HZ HZ1 MS MC hr
  go_wp2_with fail
  refine (unhide CN).mono ?_
  rintro e2 u2 ⟨n, p0, t0, f0, q0, rfl, hn48, r2, b2, s2⟩
  have HD0 := hide ((unhide HST).1.later b2)
  have HM0 := hide ((unhide HST).2.beside b2 (by have := (unhide HST).1.mid; omega) (by have := (unhide HST).1.mid; omega))
  have HR0 := hide (And.intro r2 s2)
  clear b2 r2 s2 HST CN z0 z1 z2 z3 z4 fz0 fz1 fz2 fz3 fz4 c0 c1 c2 c3 c4 f1 f2 f3 f4 ce
  go_wp2_with fail
  go_loopw [13] (fun x wr => ∃ (i : Nat) (l : List Vl) (p t' f q : Int) (Lv : Value) (V : Nat → List Value), i ≤ n ∧ x = .int .i64 i ∧ Hid (ArF w wr gr g gv) ∧ Hid (Mid wr (gv + 1) gv 4 0 ⟨#[]⟩ l [] Lv (.slice none 0 0) i 0 V) ∧ Hid (Rf wr gr (.slice (some ⟨b, off, none⟩) len cap) p t' f q) ∧ Hid (StA zs e' r len n i l p t' f q)) (fun x _ => n - (intOf x).toNat)
  case atStart => exact ⟨0, [], p0, t0, f0, q0, _, _, Nat.zero_le _, rfl, HD0, HM0, hide (unhide HR0).1, hide (unhide HR0).2⟩
  case round =>
    clear HD0 HM0 HR0
    obtain ⟨i, l, p, t', f, q, Lv, V, hi, rfl, HDr, HMr, HRr, HEr⟩ := hrel
    obtain ⟨d0, d1, d2, d3, d4⟩ := row_cell (unhide HMr).box
    obtain ⟨c0, c1, c2, c3, c4, f1, f2, f3, f4⟩ := (unhide HRr).cells
    have FIN : Hid (∀ u : World, u.heap.size = wr.heap.size → (∀ c, c ≠ g → u.heap[c]? = wr.heap[c]?) → IsQ u (fun c => g ≤ c ∧ c < u.heap.size) (.mk 4 0 ⟨#[]⟩ l []) (.agg #[.int .i64 4, .int .i64 0, .string ⟨#[]⟩, Lv, .slice none 0 0])) := hide (fun u hu hq => by
      have hm := (unhide HDr).mid
      have hp := (unhide HMr).made (unhide HEr).1.symm rfl (by omega) (by omega) (by rw [e0s]; omega) (by simp) (by simp) (by have := (unhide HEr).1; omega)
      exact (hp.move (fun c hP => hq c (by have := hP.1; omega))).weak (fun c hP => ⟨by have := hP.1; omega, by rw [hu]; exact hP.2⟩))
    by_cases hst : f = 0
    · subst hst
      obtain ⟨p', t2, rfl, rfl, hple, ht2, E1, E2⟩ : ∃ p' t2 : Nat, p = p' ∧ t' = t2 ∧ p' ≤ len ∧ t2 ≤ 2048 ∧ (∀ ep, rdArr (rdV zs e') (n - i) l p' t2 = .error ep → r = .error ep) ∧ ∀ l' a' t'', rdArr (rdV zs e') (n - i) l p' t2 = .ok (l', a', t'') → r = .ok (.mk 4 0 ⟨#[]⟩ l' [], a', t'') := by
        rcases (unhide HEr).2 with ⟨_, _, x⟩ | ⟨x, _⟩
        · exact x
        · exact absurd rfl x
      have hq0 : q = 0 := by
        rcases (unhide HEr).2 with ⟨_, x, _⟩ | ⟨x, _⟩
        · exact x
        · exact absurd rfl x
      have HE := hide (And.intro E1 E2)
      clear E1 E2
      by_cases hlt : i < n
      · have i1 : (i : Int) < (n : Int) := by omega
        obtain ⟨iv, hiv, hz0, hz1, hz2⟩ := info_parts infoVv
        have HI := hide (And.intro hiv (And.intro hz0 (And.intro hz1 hz2)))
        clear hiv hz0 hz1 hz2
        have fL : wr.frozen? ⟨gv, 3, none⟩ = false := frozen_of_row wr gv 3 _ _ (unhide HMr).box
        have hLb : ∀ z, Lv.ownBlock = some z → gv + 1 ≤ z ∧ z < wr.heap.size := (unhide HMr).ownL.lt
        have HLb := hide hLb
        clear hLb
        have CR := hide (unhide IH gr (some ⟨b, off, none⟩) len cap p' t2 wr.drew (by have := (unhide HRr).drewN 1; rw [hq0] at this; exact this) ((unhide hRS wr (unhide HDr).beside).later ((Beside.refl _ _).drew 1)) hple ht2 (by omega))
        go_upto_region 40 with fail
        refine till_begin (S := fun w' => w'.cell? ⟨gv, 3, none⟩ = some Lv) 9 (by kernel_rfl) ?_
        refine till_take 0 (v := .pointer (some ⟨gv, 3, none⟩)) (some 194) rfl rfl rfl (by kernel_rfl) (by kernel_rfl) (by kernel_rfl) (by kernel_rfl) (fun _ _ _ h => h) (Or.inl ⟨by rfl, fun u s0 => by go_simp⟩) d3 ?_
        simp only [Act.put, List.setIfInBounds_toArray, List.set_cons_zero, List.set_cons_succ]
        refine till_take 1 (v := Lv) (some 195) rfl rfl rfl (by kernel_rfl) (by kernel_rfl) (by kernel_rfl) (by kernel_rfl) (fun _ _ _ h => h) (Or.inl ⟨by rfl, fun u s0 => by go_simp⟩) d3 ?_
        simp only [Act.put, List.setIfInBounds_toArray, List.set_cons_zero, List.set_cons_succ]
        refine till_take 2 (v := .pointer (some ⟨gr, 0, none⟩)) (some 196) rfl rfl rfl (by kernel_rfl) (by kernel_rfl) (by kernel_rfl) (by kernel_rfl) (fun _ _ _ h => h) (Or.inl ⟨by rfl, fun u s0 => by go_simp⟩) d3 ?_
        simp only [Act.put, List.setIfInBounds_toArray, List.set_cons_zero, List.set_cons_succ]
        refine till_take 3 (v := .int .i64 wi) (some 197) rfl rfl rfl (by kernel_rfl) (by kernel_rfl) (by kernel_rfl) (by kernel_rfl) (fun _ _ _ h => h) (Or.inl ⟨by rfl, fun u s0 => by go_simp⟩) d3 ?_
        simp only [Act.put, List.setIfInBounds_toArray, List.set_cons_zero, List.set_cons_succ]
        refine till_take 4 (v := .int .i64 (8 - (e' : Int))) (some 198) rfl rfl rfl (by kernel_rfl) (by kernel_rfl) (by kernel_rfl) (by kernel_rfl) (fun _ _ _ h => h) (Or.inl ⟨by rfl, fun u s0 => by go_simp⟩) d3 ?_
        simp only [Act.put, List.setIfInBounds_toArray, List.set_cons_zero, List.set_cons_succ]
        refine till_one 5 (by kernel_rfl) rfl (fun K hK => ?_)
        go_simp
        refine (unhide CR).mono ?_
        rintro e w5 ⟨y, x5, rfl, h5, b5, k5'⟩
        have NX := StA.next (unhide HEr).1 hlt (unhide HSM).2 (unhide HSM).1 ht2 (unhide HE).1 (unhide HE).2 (w := wr) k5' (fun ep hep => by rcases code_any e' p' t2 ep hep with h | h <;> (rw [h]; decide))
        obtain ⟨p2, t3, fF, qF, r5, S5⟩ := NX
        have HE2 := hide S5
        obtain ⟨k5, n5, s5, l5, ks5, al5, ak5, cl5, ck5, hy5, rfl⟩ := h5.shape
        obtain ⟨lc5, hlc5⟩ : ∃ lc5, l5.length = lc5 := ⟨_, rfl⟩
        obtain ⟨mc5, hmc5⟩ : ∃ mc5, ks5.length = mc5 := ⟨_, rfl⟩
        rw [hlc5, hmc5] at h5 ⊢
        have b6 := b5.at_drew
        have hz5 := b6.size
        have hrg1 : gv ≠ gr := by have := (unhide HDr).mid; omega
        have d5 : w5.cell? ⟨gv, 3, none⟩ = some Lv := b6.cell hrg1 d3
        have M5 := (unhide HMr).beside b6 (by omega) (by have := (unhide HDr).mid; omega)
        have H5 := hide (And.intro h5 (And.intro r5 (And.intro b6 M5)))
        clear b5 b6 h5 hy5 hlc5 hmc5 CR r5 M5 k5' S5 c0 c1 c2 c3 c4 f1 f2 f3 f4
        go_wp2_with fail
        refine hK.out _ _ (Or.inr d5) ?_
        clear hK K d0 d1 d2 d3 d4 fL
        try simp only [Act.put, List.setIfInBounds_toArray, List.set_cons_zero, List.set_cons_succ]
        refine till_one 6 (by kernel_rfl) rfl (fun K hK => ?_)
        go_simp
        obtain ⟨w6, hw6⟩ : ∃ w6, w5.alloc (.cells #[.int .i64 k5, .int .i64 n5, .string s5, .slice al5 lc5 cl5, .slice ak5 mc5 ck5] 51) = w6 := ⟨_, rfl⟩
        have X6 : Below w5.heap.size w5 w6 := by rw [← hw6]; exact (Below.refl _ _).alloc (Nat.le_refl _) _
        have at6 : w6.heap[w5.heap.size]? = some (.cells #[.int .i64 k5, .int .i64 n5, .string s5, .slice al5 lc5 cl5, .slice ak5 mc5 ck5] 51 (0, 0)) := by rw [← hw6]; exact heap_alloc_new w5 _
        have sz6 : w6.heap.size = w5.heap.size + 1 := by rw [← hw6]; simp
        rw [hw6]
        have d6 : w6.cell? ⟨gv, 3, none⟩ = some Lv := (Beside.of_below (gr := gr) X6).cell hrg1 d5
        have HM6 := hide ((unhide H5).2.2.2.later X6)
        have H6 := hide (And.intro X6 (And.intro at6 sz6))
        obtain ⟨h5s, hh5s⟩ : ∃ h5s, w5.heap.size = h5s := ⟨_, rfl⟩
        rw [hh5s] at at6 sz6 ⊢
        have HH5 := hide hh5s
        refine hK.out _ _ (Or.inr d6) ?_
        clear hK K hw6 X6 d5 hh5s
        try simp only [Act.put, List.setIfInBounds_toArray, List.set_cons_zero, List.set_cons_succ]
        refine till_one 7 (by kernel_rfl) rfl (fun K hK => ?_)
        refine step_append_lies _ (by rfl) _ _ 24 (by rfl) (gv + 1) 51 iv (.agg #[.int .i64 0, .int .i64 0, .string ⟨#[]⟩, .slice none 0 0, .slice none 0 0]) 5 80 Try.underlying24 (unhide HI).1 (unhide HI).2.1 (unhide HI).2.2.1 (unhide HI).2.2.2 rfl (by omega) Lv i (flat V i) (by rfl) (unhide HM6).ownL ⟨h5s, 0, none⟩ 1 1 [.int .i64 k5, .int .i64 n5, .string s5, .slice al5 lc5 cl5, .slice ak5 mc5 ck5] (by rfl) (by rfl) (World.news_of_block at6) (by simp [Value.oneCell']) (by omega) (by unfold maxLen; omega) (by omega) (unhide HM6).size _ rfl ?_
        intro g7 cap7 w7 hown7 hgrow7 hat7 hlt7
        change K (Act.put _ (some 201) _) w7
        have hLb := unhide HLb
        have fr : ∀ z, z < gv + 1 → some z ≠ Lv.ownBlock := fun z hz e => by have := (hLb z e.symm).1; omega
        have d7 : w7.cell? ⟨gv, 3, none⟩ = some Lv := (hgrow7.cell_far ⟨gv, 3, none⟩ (World.block_lt_of_cell? _ _ (by rw [d6])) (fr _ (by show gv < gv + 1; omega))).trans d6
        have H7 := hide (And.intro hown7 (And.intro hgrow7 hat7))
        have f7 : w7.frozen? ⟨gv, 3, none⟩ = false := (hgrow7.frozen_far ⟨gv, 3, none⟩ (Nat.lt_of_lt_of_le (by show gv < gv + 1; omega) (unhide HM6).size) (fr _ (by show gv < gv + 1; omega))).trans (frozen_of_row w6 gv 3 _ _ (unhide HM6).box)
        refine hK.out _ _ (Or.inr d7) ?_
        clear hK K hown7 hgrow7 hat7 hlt7 hLb d6
        try simp only [Act.put, List.setIfInBounds_toArray, List.set_cons_zero, List.set_cons_succ]
        refine till_take 8 (v := .pointer (some ⟨gv, 3, none⟩)) (some 202) rfl rfl rfl (by kernel_rfl) (by kernel_rfl) (by kernel_rfl) (by kernel_rfl) (fun _ _ _ h => h) (Or.inl ⟨by rfl, fun u s0 => by go_simp⟩) d7 ?_
        try simp only [Act.put, List.setIfInBounds_toArray, List.set_cons_zero, List.set_cons_succ]
        refine till_one 9 (by kernel_rfl) rfl (fun K hK => ?_)
        go_simp
        refine hK.out _ _ (Or.inl rfl) ?_
        clear hK K
        try simp only [Act.put, List.setIfInBounds_toArray, List.set_cons_zero, List.set_cons_succ]
        refine till_done (by kernel_rfl) ?_ _
        obtain ⟨w8, hw8⟩ : ∃ w8, w7.setCell ⟨gv, 3, none⟩ (.slice (some ⟨g7, 0, none⟩) (i + 1) cap7) = w8 := ⟨_, rfl⟩
        have hwr : gv + 1 ≤ wr.heap.size := (unhide HDr).size
        have HD8 : Hid (ArF w w8 gr g gv) := hide (by
          rw [← hw8]
          exact (((unhide HDr).later (unhide H5).2.2.1).later (Beside.of_below (unhide H6).1)).push (unhide H7).2.1 (fun z e => (unhide HLb z e).1))
        have HR8 : Hid (Rf w8 gr (.slice (some ⟨b, off, none⟩) len cap) p2 t3 fF qF) := hide (by
          rw [← hw8]
          have r5 := (unhide H5).2.1
          have hl5 := r5.lt
          have hmm := (unhide HDr).mid
          show (w7.setCell _ _).heap[gr]? = _
          rw [heap_setCell_other _ _ _ _ (by show gr ≠ gv; omega), (unhide H7).2.1.block gr (by have := (unhide H6).1.size; omega) (fr gr (by omega)), (unhide H6).1.block gr hl5]
          exact r5)
        have HM8 : Hid (Mid w8 (gv + 1) gv 4 0 ⟨#[]⟩ (l ++ [y]) [] (.slice (some ⟨g7, 0, none⟩) (i + 1) cap7) (.slice none 0 0) (i + 1) 0 (setV V i [.int .i64 k5, .int .i64 n5, .string s5, .slice al5 lc5 cl5, .slice ak5 mc5 ck5])) := hide (by
          rw [← hw8]
          obtain ⟨h5, r5, b5, M5⟩ := unhide H5
          obtain ⟨X6, at6, sz6⟩ := unhide H6
          obtain ⟨hown7, hgrow7, hat7⟩ := unhide H7
          have M5' := M5.moreL (unhide HEr).1 [y]
          refine M5'.pushL (lo := wr.heap.size) hwr (fun z e => (unhide HLb z e).2) (fun z e => ((unhide HMr).ownK.lt z e).2) (by rw [List.getElem?_append_right (by rw [(unhide HEr).1]; omega), (unhide HEr).1]; simp) h5 rfl (fun z hz hne => ?_) (by have := X6.size; have := hgrow7.size; omega) hown7 ?_
          · rw [hgrow7.block z (by have := X6.size; omega) hne, X6.block z hz]
          · rcases hat7 with e | e
            · exact Or.inl e
            · exact Or.inr (by omega))
        rw [hw8]
        have HI1 : Hid (i + 1 ≤ n) := hide (by omega)
        clear hw8 f7 d7
        go_wp2_with fail
        go_roundw
        case rel => exact ⟨i + 1, _, _, _, _, _, _, _, unhide HI1, by go_num, HD8, HM8, HR8, HE2⟩
        case measure => have := unhide HI1; simp [intOf]; omega
      · have i1 : ¬ (i : Int) < (n : Int) := by omega
        have hk : Kept r (.mk 4 0 ⟨#[]⟩ l []) p' t2 0 q := by
          have h2 := (unhide HE).2 l p' t2 (by rw [show n - i = 0 by omega]; simp only [rdArr])
          rw [h2]
          exact ⟨rfl, rfl, rfl, rfl, hq0⟩
        obtain ⟨z0, z1, z2, z3, z4⟩ := row_cell (unhide HDr).at0
        have fz0 := frozen_of_row wr g 0 _ _ (unhide HDr).at0
        have fz1 := frozen_of_row wr g 1 _ _ (unhide HDr).at0
        have fz2 := frozen_of_row wr g 2 _ _ (unhide HDr).at0
        have fz3 := frozen_of_row wr g 3 _ _ (unhide HDr).at0
        have fz4 := frozen_of_row wr g 4 _ _ (unhide HDr).at0
        obtain ⟨aL, cL, eL, _⟩ := slice_form (unhide HMr).ownL
        subst eL
        go_wp2_with fail
        obtain ⟨E1, E2⟩ := store_f (v := .mk 4 0 ⟨#[]⟩ l []) r (.int .i64 4) (.int .i64 0) (.string ⟨#[]⟩) (.slice aL i cL) (.slice none 0 0) (unhide HDr).at0 (unhide HDr).beside hg hrg (unhide HRr) (fun u' h1 h2 _ => unhide FIN u' h1 h2) hk
        obtain ⟨r0, r1, r2, r3, r4⟩ := row_cell E2
        refine bodyPost_ret (v := .agg #[.int .i64 4, .int .i64 0, .string ⟨#[]⟩, .slice aL i cL, .slice none 0 0]) (by simp [results, Try.results58, go_sem, r0, r1, r2, r3, r4]) rfl ?_
        exact E1
    · have hfb : (f == 0) = false := by simpa using hst
      have hk : Kept r (.mk 4 0 ⟨#[]⟩ l []) p t' f q := by
        rcases (unhide HEr).2 with ⟨x, _⟩ | ⟨_, x⟩
        · exact absurd x hst
        · rw [x]; exact rfl
      by_cases hlt : i < n
      · have i1 : (i : Int) < (n : Int) := by omega
        obtain ⟨z0, z1, z2, z3, z4⟩ := row_cell (unhide HDr).at0
        have fz0 := frozen_of_row wr g 0 _ _ (unhide HDr).at0
        have fz1 := frozen_of_row wr g 1 _ _ (unhide HDr).at0
        have fz2 := frozen_of_row wr g 2 _ _ (unhide HDr).at0
        have fz3 := frozen_of_row wr g 3 _ _ (unhide HDr).at0
        have fz4 := frozen_of_row wr g 4 _ _ (unhide HDr).at0
        obtain ⟨aL, cL, eL, _⟩ := slice_form (unhide HMr).ownL
        subst eL
        go_wp2_with fail
        obtain ⟨E1, E2⟩ := store_f (v := .mk 4 0 ⟨#[]⟩ l []) r (.int .i64 4) (.int .i64 0) (.string ⟨#[]⟩) (.slice aL i cL) (.slice none 0 0) (unhide HDr).at0 (unhide HDr).beside hg hrg (unhide HRr) (fun u' h1 h2 _ => unhide FIN u' h1 h2) hk
        obtain ⟨r0, r1, r2, r3, r4⟩ := row_cell E2
        refine bodyPost_ret (v := .agg #[.int .i64 4, .int .i64 0, .string ⟨#[]⟩, .slice aL i cL, .slice none 0 0]) (by simp [results, Try.results58, go_sem, r0, r1, r2, r3, r4]) rfl ?_
        exact E1
      · have i1 : ¬ (i : Int) < (n : Int) := by omega
        obtain ⟨z0, z1, z2, z3, z4⟩ := row_cell (unhide HDr).at0
        have fz0 := frozen_of_row wr g 0 _ _ (unhide HDr).at0
        have fz1 := frozen_of_row wr g 1 _ _ (unhide HDr).at0
        have fz2 := frozen_of_row wr g 2 _ _ (unhide HDr).at0
        have fz3 := frozen_of_row wr g 3 _ _ (unhide HDr).at0
        have fz4 := frozen_of_row wr g 4 _ _ (unhide HDr).at0
        obtain ⟨aL, cL, eL, _⟩ := slice_form (unhide HMr).ownL
        subst eL
        go_wp2_with fail
        obtain ⟨E1, E2⟩ := store_f (v := .mk 4 0 ⟨#[]⟩ l []) r (.int .i64 4) (.int .i64 0) (.string ⟨#[]⟩) (.slice aL i cL) (.slice none 0 0) (unhide HDr).at0 (unhide HDr).beside hg hrg (unhide HRr) (fun u' h1 h2 _ => unhide FIN u' h1 h2) hk
        obtain ⟨r0, r1, r2, r3, r4⟩ := row_cell E2
        refine bodyPost_ret (v := .agg #[.int .i64 4, .int .i64 0, .string ⟨#[]⟩, .slice aL i cL, .slice none 0 0]) (by simp [results, Try.results58, go_sem, r0, r1, r2, r3, r4]) rfl ?_
        exact E1

end Go.Proofs.Ytfdnhpmldnmncaa
