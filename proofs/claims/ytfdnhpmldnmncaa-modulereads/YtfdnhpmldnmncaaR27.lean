/-
  The document's own reader of wire: a record, and with it every value; conditions: the weight so far is at most 2048, the form's own reach.
-/
import Derived.Test.YtfdnhpmldnmncaaR26
import Derived.Test.YtfdnhpmldnmncaaR19
namespace Go.Proofs.Ytfdnhpmldnmncaa
open Go.RowKit
set_option linter.unusedVariables false
set_option linter.unusedSimpArgs false

/-- where the record stands -/
def StR (zs : List Int) (d : Nat) (r : Except (Int × Int) (Vl × Nat × Nat)) (len n i j : Nat) (l : List Vl) (ks : List ByteArray) (la : ByteArray) (p t f q : Int) : Prop :=
  l.length = j ∧ ks.length = j ∧ j ≤ i ∧ (∀ x ∈ ks, x.size ≤ 32) ∧ ((f = 0 ∧ q = 0 ∧ j = i ∧ (∀ x, ks.getLast? = some x → la = x) ∧ ∃ p' t' : Nat, p = p' ∧ t = t' ∧ p' ≤ len ∧ t' ≤ 2048 ∧ (∀ ep, rdRec zs (rdV zs d) (n - i) l ks p' t' = .error ep → r = .error ep) ∧ ∀ l' k' a' t'', rdRec zs (rdV zs d) (n - i) l ks p' t' = .ok (l', k', a', t'') → r = .ok (.mk 5 0 ⟨#[]⟩ l' k', a', t'')) ∨ (¬ f = 0 ∧ r = .error (f, q)))

theorem number_r (zs : List Int) (d q a t gr : Nat) (ao : Option Addr) (len cap : Nat) (w : World) (h : Rf w gr (.slice ao len cap) a t 0 0) (hS : Src w gr ao len cap zs) (ht : t ≤ 2048) :
    Calls Try.prog 70 #[.pointer (some ⟨gr, 0, none⟩), .int .i64 q, .int .i64 2] w fun e w' => ∃ (n : Nat) (p t' f q' : Int), e = .returned (.int .i64 n) ∧ n ≤ 2048 ∧ Rf w' gr (.slice ao len cap) p t' f q' ∧ Beside gr w w' ∧ StR zs d (rdPairs zs (rdV zs d) q a t) len n 0 0 [] [] ⟨#[]⟩ p t' f q' := by
  refine (number_f zs q a t 2 gr ao len cap w h hS ht (by omega)).mono ?_
  intro e w' hx
  cases hc : rdCnt zs q a t 2 with
  | error p =>
    rw [hc] at hx
    obtain ⟨rfl, r1, b1⟩ := hx
    have hp : ¬ p.1 = 0 := by
      unfold rdCnt at hc
      split at hc
      · cases hc; exact fun h => absurd h (by decide : ¬ (41 : Int) = 0)
      · split at hc
        · cases hc; exact fun h => absurd h (by decide : ¬ (42 : Int) = 0)
        · cases hc
    exact ⟨0, _, _, _, _, rfl, by omega, r1, b1, rfl, rfl, Nat.le_refl _, by simp, Or.inr ⟨hp, by simp only [rdPairs, hc]⟩⟩
  | ok y =>
    obtain ⟨n, a1⟩ := y
    rw [hc] at hx
    obtain ⟨rfl, r1, b1⟩ := hx
    obtain ⟨k1, k2, k3, _, _, _⟩ := cnt_form hS.row.small (by omega) ht hc
    have hl := hS.row.length
    refine ⟨n, _, _, _, _, rfl, by omega, r1, b1, rfl, rfl, Nat.le_refl _, by simp, Or.inl ⟨rfl, rfl, rfl, by simp, a1, t, rfl, rfl, by omega, ht, ?_, ?_⟩⟩
    · intro ep he
      rw [Nat.sub_zero] at he
      simp only [rdPairs, hc, he]
    · intro l' k' a' t'' he
      rw [Nat.sub_zero] at he
      simp only [rdPairs, hc, he]

theorem key_code0 {zs : List Int} {o : Option ByteArray} {a t : Nat} {ep : Int × Int} (h : rdKey zs o a t = .error ep) : ¬ ep.1 = 0 := by
  rcases key_code h with h | h <;> (rw [h]; decide)

theorem StR.next {zs : List Int} {d : Nat} {r : Except (Int × Int) (Vl × Nat × Nat)} {len n i p t pk tk : Nat} {l : List Vl} {ks : List ByteArray} {key : ByteArray} (hl : l.length = i) (hkl : ks.length = i) (h32 : ∀ x ∈ ks ++ [key], x.size ≤ 32) (hi : i < n) (hz : zs.length = len) (hsm : ∀ n ∈ zs, 0 ≤ n ∧ n ≤ 255) (htk : tk ≤ 2048) (hkk : rdKey zs ks.getLast? p t = .ok (key, pk, tk))
    (h1 : ∀ ep, rdRec zs (rdV zs d) (n - i) l ks p t = .error ep → r = .error ep) (h2 : ∀ l' k' a' t'', rdRec zs (rdV zs d) (n - i) l ks p t = .ok (l', k', a', t'') → r = .ok (.mk 5 0 ⟨#[]⟩ l' k', a', t''))
    {gr : Nat} {bv : Value} {w' : World} {v' : Vl} (hk : match rdV zs d pk tk with
      | .error ep => ∃ p' t', Rf w' gr bv p' t' ep.1 ep.2
      | .ok (v, a', t') => v' = v ∧ Rf w' gr bv a' t' 0 0) (hcode : ∀ ep, rdV zs d pk tk = .error ep → ¬ ep.1 = 0) :
    ∃ p2 t2 f2 q2 : Int, Rf w' gr bv p2 t2 f2 q2 ∧ StR zs d r len n (i + 1) (i + 1) (l ++ [v']) (ks ++ [key]) key p2 t2 f2 q2 := by
  have e1 : n - i = (n - (i + 1)) + 1 := by omega
  cases hv : rdV zs d pk tk with
  | error ep =>
    rw [hv] at hk
    obtain ⟨p', t', hR⟩ := hk
    refine ⟨p', t', ep.1, ep.2, hR, by simp [hl], by simp [hkl], Nat.le_refl _, h32, Or.inr ⟨hcode ep hv, h1 ep ?_⟩⟩
    rw [e1]
    simp only [rdRec, hkk, hv]
  | ok y =>
    obtain ⟨v, a', t'⟩ := y
    rw [hv] at hk
    obtain ⟨rfl, hR⟩ := hk
    have SN := rdV_sound hsm d pk tk v' a' t' hv htk
    refine ⟨a', t', 0, 0, hR, by simp [hl], by simp [hkl], Nat.le_refl _, h32, Or.inl ⟨rfl, rfl, rfl, by simp, a', t', rfl, rfl, by have := SN.le; omega, SN.most, ?_, ?_⟩⟩
    · intro ep he
      refine h1 ep ?_
      rw [e1]
      simp only [rdRec, hkk, hv]
      exact he
    · intro l' k' a2 t2 he
      refine h2 l' k' a2 t2 ?_
      rw [e1]
      simp only [rdRec, hkk, hv]
      exact he

set_option maxRecDepth 100000 in
set_option maxHeartbeats 2000000 in
theorem val_f_rec (zs : List Int) (d e' : Nat) (gr : Nat) (ao : Option Addr) (len cap a t : Nat) (w : World) (h : Rf w gr (.slice ao len cap) a t 0 0) (hS : Src w gr ao len cap zs) (ih : ValF zs e') (hde : d = e' + 1) (hd8 : d ≤ 8) (r : Except (Int × Int) (Vl × Nat × Nat)) (hc : zs[a]? = some 6) (hd : 1 ≤ d) (ht : t ≤ 2048) (hh : ¬ 2048 < t + 1) (hr : rdPairs zs (rdV zs e') a (a + 1) (t + 1) = r) :
    Calls Try.prog 58 #[.pointer (some ⟨gr, 0, none⟩), .int .i64 (8 - (d : Int))] w fun e w' => ResF gr (.slice ao len cap) w r e w' := by
  have IH := hide ih
  have HSW := hide hS
  clear ih
  obtain ⟨g, hg⟩ : ∃ g, w.heap.size = g := ⟨_, rfl⟩
  have hrg : gr < g := by have := h.lt; omega
  have hB1 : Below w.heap.size w (w.alloc (.cells #[.int .i64 0, .int .i64 0, .string ⟨#[]⟩, .slice none 0 0, .slice none 0 0] 51)) := (Below.refl _ _).alloc (Nat.le_refl _) _
  have at1 : (w.alloc (.cells #[.int .i64 0, .int .i64 0, .string ⟨#[]⟩, .slice none 0 0, .slice none 0 0] 51)).heap[g]? = some (.cells #[.int .i64 0, .int .i64 0, .string ⟨#[]⟩, .slice none 0 0, .slice none 0 0] 51 (0, 0)) := by rw [← hg]; exact heap_alloc_new w _
  obtain ⟨w1, hw1⟩ : ∃ w1, w.alloc (.cells #[.int .i64 0, .int .i64 0, .string ⟨#[]⟩, .slice none 0 0, .slice none 0 0] 51) = w1 := ⟨_, rfl⟩
  rw [hw1] at hB1 at1
  have R1 : Rf w1 gr (.slice ao len cap) a t 0 0 := (hB1.block gr h.lt).trans h
  have S1 := hS.later (Beside.of_below (gr := gr) hB1)
  have z1 : g < w1.heap.size := (Array.getElem?_eq_some_iff.1 at1).1
  obtain ⟨c0, c1, c2, c3, c4, f1, f2, f3, f4⟩ := R1.cells
  have hcp : cap ≤ 9223372036854775807 := by have := hS.cap; unfold maxLen at this; omega
  have hlc := hS.row.le
  have HS : Hid (∀ u, Beside gr w1 u → Beside gr w u ∧ Src u gr ao len cap zs ∧ u.heap[g]? = some (.cells #[.int .i64 0, .int .i64 0, .string ⟨#[]⟩, .slice none 0 0, .slice none 0 0] 51 (0, 0)) ∧ g < u.heap.size) := hide (fun u hu => ⟨(Beside.of_below hB1).trans hu, S1.later hu, (hu.block g z1 (by omega)).trans at1, Nat.lt_of_lt_of_le z1 hu.size⟩)
  have CW := hide (heavier_ok gr _ a t 1 0 0 a w1 R1 (by omega) (by omega) (by omega))
  obtain ⟨hal, s0, s1, b, off, rfl, hbg, hz⟩ := S1.byte hc
  have ce := hz w1 (Beside.refl _ _)
  have hbn : ¬ b = gr := by omega
  have i1 : ¬ ((len : Int) ≤ (a : Int)) := by omega
  have i2 : (a : Int) < (len : Int) := by omega
  have i0 : (0 : Int) ≤ (a : Int) := by omega
  have HZ := hide hz
  obtain ⟨wi, hwi⟩ : ∃ wi : Int, 8 - (d : Int) = wi := ⟨_, rfl⟩
  rw [hwi]
  have hw8 : ¬ 8 ≤ wi := by omega
  have hwa : IntKind.i64.wrap ((a : Int) + 1) = (a : Int) + 1 := by rw [IntKind.wrap_i64]; omega
  clear h hS hB1 at1 R1 S1 z1 hz hc
  go_enter Try.func58, Try.ntmps58
  go_wp2_with fail
  refine (unhide CW).mono ?_
  rintro e u ⟨rfl, r1, b1⟩
  have HZ1 := hide (fun u' (hu : Beside gr w1 u') => unhide HZ u' hu)
  clear c0 c1 c2 c3 c4 f1 f2 f3 f4 ce
  obtain ⟨c0, c1, c2, c3, c4, f1, f2, f3, f4⟩ := r1.cells
  have H0 := hide (And.intro r1 b1)
  clear r1 b1 CW
  go_upto_region 12 with fail
  obtain ⟨u1, hu1⟩ : ∃ u1, u.setCell ⟨gr, 1, none⟩ (.int .i64 ((a : Int) + 1)) = u1 := ⟨_, rfl⟩
  have r1 : Rf u1 gr (.slice (some ⟨b, off, none⟩) len cap) ((a : Int) + 1) ((t : Int) + 1) 0 0 := by rw [← hu1]; exact (unhide H0).1.setAt _
  have b1 : Beside gr w1 u1 := by rw [← hu1]; exact (unhide H0).2.set
  rw [hu1]
  clear hu1 H0 c0 c1 c2 c3 c4 f1 f2 f3 f4
  obtain ⟨c0, c1, c2, c3, c4, f1, f2, f3, f4⟩ := r1.cells
  have ce := unhide HZ1 u1 b1
  obtain ⟨B, S, at0, zg⟩ := unhide HS u1 b1
  obtain ⟨z0, z1, z2, z3, z4⟩ := row_cell at0
  have fz0 := frozen_of_row u1 g 0 _ _ at0
  have fz1 := frozen_of_row u1 g 1 _ _ at0
  have fz2 := frozen_of_row u1 g 2 _ _ at0
  have fz3 := frozen_of_row u1 g 3 _ _ at0
  have fz4 := frozen_of_row u1 g 4 _ _ at0
  have MS := S.row.length
  have MC := S.cap
  have HSM := hide (And.intro S.row.small MS)
  obtain ⟨gv, hgv⟩ : ∃ gv, u1.heap.size = gv := ⟨_, rfl⟩
  have ST := arf_start w u1 gr g gv 5 [] [] B hg hrg zg at0 hgv
  have CN := hide (number_r zs e' a (a + 1) (t + 1) gr (some ⟨b, off, none⟩) len cap _ (by simpa using r1.of_below ST.2.2) (S.later (Beside.of_below ST.2.2)) (by omega))
  have hRS : Hid (∀ u, Beside gr w u → Src u gr (some ⟨b, off, none⟩) len cap zs) := hide (fun u hu => (unhide HSW).later hu)
  have HST := hide (And.intro ST.1 ST.2.1)
  have hw9 : IntKind.i64.wrap (wi + 1) = 8 - (e' : Int) := by rw [IntKind.wrap_i64]; omega
  rw [hr] at CN
  clear ST r1 b1 B S at0 zg HS hw1 HZ HZ1 MS MC hr
  go_wp2_with fail
  refine (unhide CN).mono ?_
  rintro e2 u2 ⟨n, p0, t0, f0, q0, rfl, hn48, r2, b2, s2⟩
  have HD0 := hide ((unhide HST).1.later b2)
  have HM0 := hide ((unhide HST).2.beside b2 (by have := (unhide HST).1.mid; omega) (by have := (unhide HST).1.mid; omega))
  have HR0 := hide (And.intro r2 s2)
  clear b2 r2 s2 HST CN z0 z1 z2 z3 z4 fz0 fz1 fz2 fz3 fz4 c0 c1 c2 c3 c4 f1 f2 f3 f4 ce
  go_wp2_with fail
  go_loopw [16, 17] (fun y x wr => ∃ (i j : Nat) (l : List Vl) (ks : List ByteArray) (la : ByteArray) (p t' f q : Int) (Lv Kv : Value) (V : Nat → List Value), i ≤ n ∧ j ≤ i ∧ x = .int .i64 i ∧ y = .string la ∧ Hid (ArF w wr gr g gv) ∧ Hid (Mid wr (gv + 1) gv 5 0 ⟨#[]⟩ l ks Lv Kv j j V) ∧ Hid (Rf wr gr (.slice (some ⟨b, off, none⟩) len cap) p t' f q) ∧ Hid (StR zs e' r len n i j l ks la p t' f q)) (fun _ x _ => n - (intOf x).toNat)
  case atStart => exact ⟨0, 0, [], [], ⟨#[]⟩, p0, t0, f0, q0, _, _, _, Nat.zero_le _, Nat.le_refl _, rfl, rfl, HD0, HM0, hide (unhide HR0).1, hide (unhide HR0).2⟩
  case round =>
    clear HD0 HM0 HR0
    obtain ⟨i, j, l, ks, la, p, t', f, q, Lv, Kv, V, hi, hji, rfl, rfl, HDr, HMr, HRr, HEr⟩ := hrel
    obtain ⟨d0, d1, d2, d3, d4⟩ := row_cell (unhide HMr).box
    obtain ⟨c0, c1, c2, c3, c4, f1, f2, f3, f4⟩ := (unhide HRr).cells
    have FIN : Hid (∀ u : World, u.heap.size = wr.heap.size → (∀ c, c ≠ g → u.heap[c]? = wr.heap[c]?) → IsQ u (fun c => g ≤ c ∧ c < u.heap.size) (.mk 5 0 ⟨#[]⟩ l ks) (.agg #[.int .i64 5, .int .i64 0, .string ⟨#[]⟩, Lv, Kv])) := hide (fun u hu hq => by
      have hm := (unhide HDr).mid
      obtain ⟨hl1, hl2, hl3, hl4, _⟩ := unhide HEr
      have hp := (unhide HMr).made hl1.symm hl2.symm (by omega) (by omega) (by rw [e0s]; omega) (by omega) (fun x hx => by have := hl4 x hx; omega) (by omega)
      exact (hp.move (fun c hP => hq c (by have := hP.1; omega))).weak (fun c hP => ⟨by have := hP.1; omega, by rw [hu]; exact hP.2⟩))
    by_cases hst : f = 0
    · subst hst
      obtain ⟨hq0, hj0, hlast, p', t2, rfl, rfl, hple, ht2, E1, E2⟩ : q = 0 ∧ j = i ∧ (∀ x, ks.getLast? = some x → la = x) ∧ ∃ p' t2 : Nat, p = p' ∧ t' = t2 ∧ p' ≤ len ∧ t2 ≤ 2048 ∧ (∀ ep, rdRec zs (rdV zs e') (n - i) l ks p' t2 = .error ep → r = .error ep) ∧ ∀ l' k' a' t'', rdRec zs (rdV zs e') (n - i) l ks p' t2 = .ok (l', k', a', t'') → r = .ok (.mk 5 0 ⟨#[]⟩ l' k', a', t'') := by
        rcases (unhide HEr).2.2.2.2 with ⟨_, y, x⟩ | ⟨x, _⟩
        · exact ⟨y, x⟩
        · exact absurd rfl x
      subst hj0
      have HE := hide (And.intro E1 E2)
      clear E1 E2
      by_cases hlt : j < n
      · have i1 : (j : Int) < (n : Int) := by omega
        obtain ⟨hl1, hl2, _, hl4, _⟩ := unhide HEr
        have CK0 := hide (key_f zs ks.getLast? la hlast p' t2 gr (some ⟨b, off, none⟩) len cap wr (by have := unhide HRr; rw [hq0] at this; exact this) (unhide hRS wr (unhide HDr).beside) ht2)
        have CK : ∀ B : Bool, B = ks.getLast?.isNone → Hid (Calls Try.prog 71 #[.pointer (some ⟨gr, 0, none⟩), .bool B, .string la] wr fun e w' => ResKf gr (.slice (some ⟨b, off, none⟩) len cap) wr (rdKey zs ks.getLast? p' t2) e w') := fun B hB => by rw [hB]; exact CK0
        have HBI : Hid (ks.getLast?.isNone = decide ((j : Int) = 0)) := hide (by
          rw [← hl2]
          cases ks with
          | nil => rfl
          | cons x y => simp [List.getLast?_cons]; omega)
        have HL2 := hide (And.intro hl1 (And.intro hl2 hl4))
        clear CK0 hlast hl1 hl2 hl4
        have hLb : ∀ z, Lv.ownBlock = some z → gv + 1 ≤ z ∧ z < wr.heap.size := (unhide HMr).ownL.lt
        have hKb : ∀ z, Kv.ownBlock = some z → gv + 1 ≤ z ∧ z < wr.heap.size := (unhide HMr).ownK.lt
        have HLb := hide hLb
        have HKb := hide hKb
        clear hLb hKb
        cases hkk : rdKey zs ks.getLast? p' t2 with
        | error ep =>
          rw [hkk] at CK
          have hcode := key_code0 hkk
          have hrr : r = .error ep := (unhide HE).1 ep (by
            rw [show n - j = (n - (j + 1)) + 1 by omega]
            simp only [rdRec, hkk])
          clear hkk
          go_wp2_with fail
          refine (unhide (CK _ (by rw [unhide HBI]; rfl))).mono ?_
          rintro e w5 ⟨s5, p5, t5, rfl, r5, b5⟩
          obtain ⟨ef, eq'⟩ := ep
          dsimp only at r5 hcode
          have hfb : (ef == 0) = false := by simpa using hcode
          have HD8 := hide ((unhide HDr).later b5)
          have HM8 := hide ((unhide HMr).beside b5 (by have := (unhide HDr).mid; omega) (by have := (unhide HDr).mid; omega))
          have HR8 := hide r5
          have HE2 : Hid (StR zs e' r len n (j + 1) j l ks s5 p5 t5 ef eq') := hide ⟨(unhide HL2).1, (unhide HL2).2.1, by omega, (unhide HL2).2.2, Or.inr ⟨hcode, hrr⟩⟩
          clear c0 c1 c2 c3 c4 f1 f2 f3 f4 d0 d1 d2 d3 d4 b5 CK
          obtain ⟨c0, c1, c2, c3, c4, f1, f2, f3, f4⟩ := r5.cells
          clear r5
          have HI1 : Hid (j + 1 ≤ n) := hide (by omega)
          go_wp2_with fail
          go_roundw
          case rel => exact ⟨j + 1, j, l, ks, s5, _, _, _, _, Lv, Kv, V, unhide HI1, by omega, by go_num, rfl, HD8, HM8, HR8, HE2⟩
          case measure => have := unhide HI1; simp [intOf]; omega
        | ok kp =>
          obtain ⟨key, pk, tk⟩ := kp
          obtain ⟨k1, k2, k3, k4, k5, _, _, _⟩ := key_form (unhide HSM).1 hkk
          rw [hkk] at CK
          have HKK := hide hkk
          have hpk : pk ≤ len := by have := (unhide HSM).2; omega
          have h32 : Hid (∀ x ∈ ks ++ [key], x.size ≤ 32) := hide (fun x hx => by
            rcases List.mem_append.1 hx with hx | hx
            · exact (unhide HL2).2.2 x hx
            · rw [List.mem_singleton.1 hx]; exact k5)
          clear hkk k1 k2 k3 k5
          go_wp2_with fail
          refine (unhide (CK _ (by rw [unhide HBI]; rfl))).mono ?_
          rintro e w4 ⟨rfl, r4, b4⟩
          have hrg1 : gv ≠ gr := by have := (unhide HDr).mid; omega
          have D4 := (unhide HDr).later b4
          have M4 := (unhide HMr).beside b4 (by have := (unhide HDr).mid; omega) (by have := (unhide HDr).mid; omega)
          clear c0 c1 c2 c3 c4 f1 f2 f3 f4 d0 d1 d2 d3 d4 CK
          obtain ⟨c0, c1, c2, c3, c4, f1, f2, f3, f4⟩ := r4.cells
          obtain ⟨d0, d1, d2, d3, d4⟩ := row_cell M4.box
          have HD4 := hide (And.intro D4 (And.intro r4 b4))
          have HM4 := hide M4
          have hz4 := b4.size
          clear D4 M4 r4 b4
          obtain ⟨is, his, hs0, hs1, hs2⟩ := info_parts infoSs
          have HIs := hide (And.intro his (And.intro hs0 (And.intro hs1 hs2)))
          clear his hs0 hs1 hs2
          have X6 : Below w4.heap.size w4 (w4.alloc (.cells #[.string key] 9)) := (Below.refl _ _).alloc (Nat.le_refl _) _
          have at6 := heap_alloc_new w4 (.cells #[.string key] 9)
          obtain ⟨h4s, hh4⟩ : ∃ h4s, w4.heap.size = h4s := ⟨_, rfl⟩
          rw [hh4] at at6
          have HM6 := hide ((unhide HM4).later X6)
          have HX6 := hide X6
          have HA6 := hide at6
          have hsz6 : (w4.alloc (.cells #[.string key] 9)).heap.size = h4s + 1 := by rw [← hh4]; simp
          have fr4 : ∀ z, z < gv + 1 → some z ≠ Kv.ownBlock := fun z hz e => by have := (unhide HKb z e.symm).1; omega
          have HFR := hide fr4
          have hgv4 : gv + 1 ≤ w4.heap.size := (unhide HD4).1.size
          have HG4 := hide hgv4
          clear X6 at6 fr4 hgv4
          have tok1 : True := trivial
          go_upto_region 52 with (first | (at_builtin; have _t := tok1; refine wpList_append_lies _ rfl (.tmp 233) (.tmp 235) 49 rfl (gv + 1) 9 is (.string ⟨#[]⟩) 1 16 Try.underlying49 (unhide HIs).1 (unhide HIs).2.1 (unhide HIs).2.2.1 (unhide HIs).2.2.2 rfl (by omega) Kv j ((ks.take j).map Value.string) rfl (unhide HM6).ownK ⟨h4s, 0, none⟩ 1 1 [.string key] (by first | rfl | (rw [← hh4]; rfl)) rfl (World.news_of_block (unhide HA6)) (by simp [Value.oneCell']) (by omega) (by unfold maxLen; omega) (by omega) (unhide HM6).size (h4s + 1) hsz6 ?_; intro g7 cap7 w7 hown7 hgrow7 hat7 hlt7; have f7 : w7.frozen? ⟨gv, 4, none⟩ = false := (hgrow7.frozen_far ⟨gv, 4, none⟩ (Nat.lt_of_lt_of_le (by show gv < gv + 1; omega) (unhide HM6).size) (unhide HFR _ (by show gv < gv + 1; omega))).trans (frozen_of_row _ gv 4 _ _ (unhide HM6).box); have d7 : w7.cell? ⟨gv, 4, none⟩ = some Kv := (hgrow7.cell_far ⟨gv, 4, none⟩ (Nat.lt_of_lt_of_le (by show gv < gv + 1; omega) (unhide HM6).size) (unhide HFR _ (by show gv < gv + 1; omega))).trans (row_cell (unhide HM6).box).2.2.2.2; have H7 := hide (And.intro hown7 (And.intro hgrow7 (And.intro hat7 hlt7))); clear tok1 hown7 hgrow7 hat7 hlt7))
          obtain ⟨w8, hw8⟩ : ∃ w8, w7.setCell ⟨gv, 4, none⟩ (.slice (some ⟨g7, 0, none⟩) (j + 1) cap7) = w8 := ⟨_, rfl⟩
          have HDk : Hid (ArF w w8 gr g gv) := hide (by
            rw [← hw8]
            exact ((unhide HD4).1.later (Beside.of_below (unhide HX6))).push (unhide H7).2.1 (fun z e => (unhide HKb z e).1))
          have HRk : Hid (Rf w8 gr (.slice (some ⟨b, off, none⟩) len cap) pk tk 0 0) := hide (by
            rw [← hw8]
            have r5 := (unhide HD4).2.1
            have hl5 := r5.lt
            have hmm := (unhide HDr).mid
            show (w7.setCell _ _).heap[gr]? = _
            rw [heap_setCell_other _ _ _ _ (by show gr ≠ gv; omega), (unhide H7).2.1.block gr (by have := (unhide HX6).size; omega) (unhide HFR gr (by omega)), (unhide HX6).block gr hl5]
            exact r5)
          have HMk : Hid (Mid w8 (gv + 1) gv 5 0 ⟨#[]⟩ l (ks ++ [key]) Lv (.slice (some ⟨g7, 0, none⟩) (j + 1) cap7) j (j + 1) V) := hide (by
            rw [← hw8]
            have X6 := unhide HX6
            obtain ⟨hown7, hgrow7, hat7, _⟩ := unhide H7
            have hkl := (unhide HL2).2.1
            have M5' := (unhide HM4).moreK hkl [key]
            refine M5'.pushK (fun z hz hne => ?_) (by have := X6.size; have := hgrow7.size; omega) ?_ ?_
            · rw [hgrow7.block z (by have := X6.size; omega) hne, X6.block z hz]
            · rw [List.take_of_length_le (by simp [hkl]), List.map_append]
              rw [List.take_of_length_le (by omega)] at hown7
              exact hown7
            · rcases hat7 with e | e
              · exact Or.inl e
              · exact Or.inr (by omega))
          have hz8 : wr.heap.size ≤ w8.heap.size := by
            rw [← hw8]
            have := (unhide HX6).size
            have := (unhide H7).2.1.size
            simp
            omega
          rw [hw8]
          clear hw8 f7 d7 H7 HM6 HX6 HA6 hsz6 HM4 HD4 HDr HMr HRr HG4 c0 c1 c2 c3 c4 f1 f2 f3 f4 d0 d1 d2 d3 d4 hh4 hz4 HIs HFR FIN
          obtain ⟨d0, d1, d2, d3, d4⟩ := row_cell (unhide HMk).box
          obtain ⟨gk, hgk⟩ : ∃ gk, g7 = gk := ⟨_, rfl⟩
          obtain ⟨capk, hck⟩ : ∃ capk, cap7 = capk := ⟨_, rfl⟩
          rw [hgk, hck] at HMk
          rw [hgk, hck] at d4
          clear hgk hck
          obtain ⟨iv, hiv, hv0, hv1, hv2⟩ := info_parts infoVv
          have HI := hide (And.intro hiv (And.intro hv0 (And.intro hv1 hv2)))
          clear hiv hv0 hv1 hv2
          have fL : w8.frozen? ⟨gv, 3, none⟩ = false := frozen_of_row w8 gv 3 _ _ (unhide HMk).box
          have CR := hide (unhide IH gr (some ⟨b, off, none⟩) len cap pk tk w8.drew ((unhide HRk).drewN 1) ((unhide hRS w8 (unhide HDk).beside).later ((Beside.refl _ _).drew 1)) hpk k4 (by omega))
          refine till_begin (S := fun w' => w'.cell? ⟨gv, 3, none⟩ = some Lv) 9 (by kernel_rfl) ?_
          refine till_take 0 (v := .pointer (some ⟨gv, 3, none⟩)) (some 238) rfl rfl rfl (by kernel_rfl) (by kernel_rfl) (by kernel_rfl) (by kernel_rfl) (fun _ _ _ h => h) (Or.inl ⟨by rfl, fun u s0 => by go_simp⟩) d3 ?_
          try simp only [Act.put, List.setIfInBounds_toArray, List.set_cons_zero, List.set_cons_succ]
          refine till_take 1 (v := Lv) (some 239) rfl rfl rfl (by kernel_rfl) (by kernel_rfl) (by kernel_rfl) (by kernel_rfl) (fun _ _ _ h => h) (Or.inl ⟨by rfl, fun u s0 => by go_simp⟩) d3 ?_
          try simp only [Act.put, List.setIfInBounds_toArray, List.set_cons_zero, List.set_cons_succ]
          refine till_take 2 (v := .pointer (some ⟨gr, 0, none⟩)) (some 240) rfl rfl rfl (by kernel_rfl) (by kernel_rfl) (by kernel_rfl) (by kernel_rfl) (fun _ _ _ h => h) (Or.inl ⟨by rfl, fun u s0 => by go_simp⟩) d3 ?_
          try simp only [Act.put, List.setIfInBounds_toArray, List.set_cons_zero, List.set_cons_succ]
          refine till_take 3 (v := .int .i64 wi) (some 241) rfl rfl rfl (by kernel_rfl) (by kernel_rfl) (by kernel_rfl) (by kernel_rfl) (fun _ _ _ h => h) (Or.inl ⟨by rfl, fun u s0 => by go_simp⟩) d3 ?_
          try simp only [Act.put, List.setIfInBounds_toArray, List.set_cons_zero, List.set_cons_succ]
          refine till_take 4 (v := .int .i64 (8 - (e' : Int))) (some 242) rfl rfl rfl (by kernel_rfl) (by kernel_rfl) (by kernel_rfl) (by kernel_rfl) (fun _ _ _ h => h) (Or.inl ⟨by rfl, fun u s0 => by go_simp⟩) d3 ?_
          try simp only [Act.put, List.setIfInBounds_toArray, List.set_cons_zero, List.set_cons_succ]
          refine till_one 5 (by kernel_rfl) rfl (fun K hK => ?_)
          go_simp
          refine (unhide CR).mono ?_
          rintro e w5 ⟨y, x5, rfl, h5, b5, k5'⟩
          have NX := StR.next (unhide HL2).1 (unhide HL2).2.1 (unhide h32) hlt (unhide HSM).2 (unhide HSM).1 k4 (unhide HKK) (unhide HE).1 (unhide HE).2 k5' (fun ep hep => by rcases code_any e' pk tk ep hep with h | h <;> (rw [h]; decide))
          obtain ⟨p2, t3, fF, qF, r5, S5⟩ := NX
          have HE2 := hide S5
          obtain ⟨k5, n5, s5, l5, ks5, al5, ak5, cl5, ck5, hy5, rfl⟩ := h5.shape
          obtain ⟨lc5, hlc5⟩ : ∃ lc5, l5.length = lc5 := ⟨_, rfl⟩
          obtain ⟨mc5, hmc5⟩ : ∃ mc5, ks5.length = mc5 := ⟨_, rfl⟩
          rw [hlc5, hmc5] at h5 ⊢
          have b6 := b5.at_drew
          have hz5 := b6.size
          have d5 : w5.cell? ⟨gv, 3, none⟩ = some Lv := b6.cell hrg1 d3
          have M5 := (unhide HMk).beside b6 (by omega) (by have := (unhide HDk).mid; omega)
          have H5 := hide (And.intro h5 (And.intro r5 (And.intro b6 M5)))
          clear b5 b6 h5 hy5 hlc5 hmc5 CR r5 M5 k5' S5
          go_wp2_with fail
          refine hK.out _ _ (Or.inr d5) ?_
          clear hK K d0 d1 d2 d3 d4 fL
          try simp only [Act.put, List.setIfInBounds_toArray, List.set_cons_zero, List.set_cons_succ]
          refine till_one 6 (by kernel_rfl) rfl (fun K hK => ?_)
          go_simp
          obtain ⟨w6, hw6⟩ : ∃ w6, w5.alloc (.cells #[.int .i64 k5, .int .i64 n5, .string s5, .slice al5 lc5 cl5, .slice ak5 mc5 ck5] 51) = w6 := ⟨_, rfl⟩
          have X6 : Below w5.heap.size w5 w6 := by rw [← hw6]; exact (Below.refl _ _).alloc (Nat.le_refl _) _
          have at6 : w6.heap[w5.heap.size]? = some (.cells #[.int .i64 k5, .int .i64 n5, .string s5, .slice al5 lc5 cl5, .slice ak5 mc5 ck5] 51 (0, 0)) := by rw [← hw6]; exact heap_alloc_new w5 _
          have sz6 : w6.heap.size = w5.heap.size + 1 := by rw [← hw6]; simp
          rw [hw6]
          have d6 : w6.cell? ⟨gv, 3, none⟩ = some Lv := (Beside.of_below (gr := gr) X6).cell hrg1 d5
          have HM6 := hide ((unhide H5).2.2.2.later X6)
          have H6 := hide (And.intro X6 (And.intro at6 sz6))
          obtain ⟨h5s, hh5s⟩ : ∃ h5s, w5.heap.size = h5s := ⟨_, rfl⟩
          rw [hh5s] at at6 sz6 ⊢
          have HH5 := hide hh5s
          refine hK.out _ _ (Or.inr d6) ?_
          clear hK K hw6 X6 d5 hh5s
          try simp only [Act.put, List.setIfInBounds_toArray, List.set_cons_zero, List.set_cons_succ]
          refine till_one 7 (by kernel_rfl) rfl (fun K hK => ?_)
          refine step_append_lies _ (by rfl) _ _ 24 (by rfl) (gv + 1) 51 iv (.agg #[.int .i64 0, .int .i64 0, .string ⟨#[]⟩, .slice none 0 0, .slice none 0 0]) 5 80 Try.underlying24 (unhide HI).1 (unhide HI).2.1 (unhide HI).2.2.1 (unhide HI).2.2.2 rfl (by omega) Lv j (flat V j) (by rfl) (unhide HM6).ownL ⟨h5s, 0, none⟩ 1 1 [.int .i64 k5, .int .i64 n5, .string s5, .slice al5 lc5 cl5, .slice ak5 mc5 ck5] (by rfl) (by rfl) (World.news_of_block at6) (by simp [Value.oneCell']) (by omega) (by unfold maxLen; omega) (by omega) (unhide HM6).size _ rfl ?_
          intro g7 cap7 w7 hown7 hgrow7 hat7 hlt7
          change K (Act.put _ (some 245) _) w7
          have hLb := unhide HLb
          have fr : ∀ z, z < gv + 1 → some z ≠ Lv.ownBlock := fun z hz e => by have := (hLb z e.symm).1; omega
          have d7 : w7.cell? ⟨gv, 3, none⟩ = some Lv := (hgrow7.cell_far ⟨gv, 3, none⟩ (World.block_lt_of_cell? _ _ (by rw [d6])) (fr _ (by show gv < gv + 1; omega))).trans d6
          have H7 := hide (And.intro hown7 (And.intro hgrow7 hat7))
          have f7 : w7.frozen? ⟨gv, 3, none⟩ = false := (hgrow7.frozen_far ⟨gv, 3, none⟩ (Nat.lt_of_lt_of_le (by show gv < gv + 1; omega) (unhide HM6).size) (fr _ (by show gv < gv + 1; omega))).trans (frozen_of_row w6 gv 3 _ _ (unhide HM6).box)
          refine hK.out _ _ (Or.inr d7) ?_
          clear hK K hown7 hgrow7 hat7 hlt7 hLb d6
          try simp only [Act.put, List.setIfInBounds_toArray, List.set_cons_zero, List.set_cons_succ]
          refine till_take 8 (v := .pointer (some ⟨gv, 3, none⟩)) (some 246) rfl rfl rfl (by kernel_rfl) (by kernel_rfl) (by kernel_rfl) (by kernel_rfl) (fun _ _ _ h => h) (Or.inl ⟨by rfl, fun u s0 => by go_simp⟩) d7 ?_
          try simp only [Act.put, List.setIfInBounds_toArray, List.set_cons_zero, List.set_cons_succ]
          refine till_one 9 (by kernel_rfl) rfl (fun K hK => ?_)
          go_simp
          refine hK.out _ _ (Or.inl rfl) ?_
          clear hK K
          try simp only [Act.put, List.setIfInBounds_toArray, List.set_cons_zero, List.set_cons_succ]
          refine till_done (by kernel_rfl) ?_ _
          obtain ⟨w9, hw9'⟩ : ∃ w9, w7.setCell ⟨gv, 3, none⟩ (.slice (some ⟨g7, 0, none⟩) (j + 1) cap7) = w9 := ⟨_, rfl⟩
          have hwk : gv + 1 ≤ w8.heap.size := (unhide HDk).size
          have HD8 : Hid (ArF w w9 gr g gv) := hide (by
            rw [← hw9']
            exact (((unhide HDk).later (unhide H5).2.2.1).later (Beside.of_below (unhide H6).1)).push (unhide H7).2.1 (fun z e => (unhide HLb z e).1))
          have HR8 : Hid (Rf w9 gr (.slice (some ⟨b, off, none⟩) len cap) p2 t3 fF qF) := hide (by
            rw [← hw9']
            have r5 := (unhide H5).2.1
            have hl5 := r5.lt
            have hmm := (unhide HDk).mid
            show (w7.setCell _ _).heap[gr]? = _
            rw [heap_setCell_other _ _ _ _ (by show gr ≠ gv; omega), (unhide H7).2.1.block gr (by have := (unhide H6).1.size; omega) (fr gr (by omega)), (unhide H6).1.block gr hl5]
            exact r5)
          have HM8 : Hid (Mid w9 (gv + 1) gv 5 0 ⟨#[]⟩ (l ++ [y]) (ks ++ [key]) (.slice (some ⟨g7, 0, none⟩) (j + 1) cap7) (.slice (some ⟨gk, 0, none⟩) (j + 1) capk) (j + 1) (j + 1) (setV V j [.int .i64 k5, .int .i64 n5, .string s5, .slice al5 lc5 cl5, .slice ak5 mc5 ck5])) := hide (by
            rw [← hw9']
            obtain ⟨h5, r5, b5, M5⟩ := unhide H5
            obtain ⟨X6, at6, sz6⟩ := unhide H6
            obtain ⟨hown7, hgrow7, hat7⟩ := unhide H7
            have M5' := M5.moreL (unhide HL2).1 [y]
            refine M5'.pushL (lo := w8.heap.size) hwk (fun z e => Nat.lt_of_lt_of_le (unhide HLb z e).2 hz8) (fun z e => ((unhide HMk).ownK.lt z e).2) (by rw [List.getElem?_append_right (by rw [(unhide HL2).1]; omega), (unhide HL2).1]; simp) h5 rfl (fun z hz hne => ?_) (by have := X6.size; have := hgrow7.size; omega) hown7 ?_
            · rw [hgrow7.block z (by have := X6.size; omega) hne, X6.block z hz]
            · rcases hat7 with e | e
              · exact Or.inl e
              · exact Or.inr (by omega))
          rw [hw9']
          have HI1 : Hid (j + 1 ≤ n) := hide (by omega)
          clear hw9' f7 d7
          go_wp2_with fail
          go_roundw
          case rel => exact ⟨j + 1, j + 1, _, _, _, _, _, _, _, _, _, _, unhide HI1, Nat.le_refl _, by go_num, rfl, HD8, HM8, HR8, HE2⟩
          case measure => have := unhide HI1; simp [intOf]; omega
      · have i1 : ¬ (j : Int) < (n : Int) := by omega
        have hk : Kept r (.mk 5 0 ⟨#[]⟩ l ks) p' t2 0 q := by
          have h2 := (unhide HE).2 l ks p' t2 (by rw [show n - j = 0 by omega]; simp only [rdRec])
          rw [h2]
          exact ⟨rfl, rfl, rfl, rfl, hq0⟩
        obtain ⟨z0, z1, z2, z3, z4⟩ := row_cell (unhide HDr).at0
        have fz0 := frozen_of_row wr g 0 _ _ (unhide HDr).at0
        have fz1 := frozen_of_row wr g 1 _ _ (unhide HDr).at0
        have fz2 := frozen_of_row wr g 2 _ _ (unhide HDr).at0
        have fz3 := frozen_of_row wr g 3 _ _ (unhide HDr).at0
        have fz4 := frozen_of_row wr g 4 _ _ (unhide HDr).at0
        obtain ⟨aL, cL, eL, _⟩ := slice_form (unhide HMr).ownL
        obtain ⟨aK, cK, eK, _⟩ := slice_form (unhide HMr).ownK
        subst eL
        subst eK
        go_wp2_with fail
        obtain ⟨E1, E2⟩ := store_f (v := .mk 5 0 ⟨#[]⟩ l ks) r (.int .i64 5) (.int .i64 0) (.string ⟨#[]⟩) (.slice aL j cL) (.slice aK j cK) (unhide HDr).at0 (unhide HDr).beside hg hrg (unhide HRr) (fun u' h1 h2 _ => unhide FIN u' h1 h2) hk
        obtain ⟨r0, r1, r2, r3, r4⟩ := row_cell E2
        refine bodyPost_ret (v := .agg #[.int .i64 5, .int .i64 0, .string ⟨#[]⟩, .slice aL j cL, .slice aK j cK]) (by simp [results, Try.results58, go_sem, r0, r1, r2, r3, r4]) rfl ?_
        exact E1
    · have hfb : (f == 0) = false := by simpa using hst
      have hk : Kept r (.mk 5 0 ⟨#[]⟩ l ks) p t' f q := by
        rcases (unhide HEr).2.2.2.2 with ⟨x, _⟩ | ⟨_, x⟩
        · exact absurd x hst
        · rw [x]; exact rfl
      by_cases hlt : i < n
      · have i1 : (i : Int) < (n : Int) := by omega
        obtain ⟨z0, z1, z2, z3, z4⟩ := row_cell (unhide HDr).at0
        have fz0 := frozen_of_row wr g 0 _ _ (unhide HDr).at0
        have fz1 := frozen_of_row wr g 1 _ _ (unhide HDr).at0
        have fz2 := frozen_of_row wr g 2 _ _ (unhide HDr).at0
        have fz3 := frozen_of_row wr g 3 _ _ (unhide HDr).at0
        have fz4 := frozen_of_row wr g 4 _ _ (unhide HDr).at0
        obtain ⟨aL, cL, eL, _⟩ := slice_form (unhide HMr).ownL
        obtain ⟨aK, cK, eK, _⟩ := slice_form (unhide HMr).ownK
        subst eL
        subst eK
        go_wp2_with fail
        obtain ⟨E1, E2⟩ := store_f (v := .mk 5 0 ⟨#[]⟩ l ks) r (.int .i64 5) (.int .i64 0) (.string ⟨#[]⟩) (.slice aL j cL) (.slice aK j cK) (unhide HDr).at0 (unhide HDr).beside hg hrg (unhide HRr) (fun u' h1 h2 _ => unhide FIN u' h1 h2) hk
        obtain ⟨r0, r1, r2, r3, r4⟩ := row_cell E2
        refine bodyPost_ret (v := .agg #[.int .i64 5, .int .i64 0, .string ⟨#[]⟩, .slice aL j cL, .slice aK j cK]) (by simp [results, Try.results58, go_sem, r0, r1, r2, r3, r4]) rfl ?_
        exact E1
      · have i1 : ¬ (i : Int) < (n : Int) := by omega
        obtain ⟨z0, z1, z2, z3, z4⟩ := row_cell (unhide HDr).at0
        have fz0 := frozen_of_row wr g 0 _ _ (unhide HDr).at0
        have fz1 := frozen_of_row wr g 1 _ _ (unhide HDr).at0
        have fz2 := frozen_of_row wr g 2 _ _ (unhide HDr).at0
        have fz3 := frozen_of_row wr g 3 _ _ (unhide HDr).at0
        have fz4 := frozen_of_row wr g 4 _ _ (unhide HDr).at0
        obtain ⟨aL, cL, eL, _⟩ := slice_form (unhide HMr).ownL
        obtain ⟨aK, cK, eK, _⟩ := slice_form (unhide HMr).ownK
        subst eL
        subst eK
        go_wp2_with fail
        obtain ⟨E1, E2⟩ := store_f (v := .mk 5 0 ⟨#[]⟩ l ks) r (.int .i64 5) (.int .i64 0) (.string ⟨#[]⟩) (.slice aL j cL) (.slice aK j cK) (unhide HDr).at0 (unhide HDr).beside hg hrg (unhide HRr) (fun u' h1 h2 _ => unhide FIN u' h1 h2) hk
        obtain ⟨r0, r1, r2, r3, r4⟩ := row_cell E2
        refine bodyPost_ret (v := .agg #[.int .i64 5, .int .i64 0, .string ⟨#[]⟩, .slice aL j cL, .slice aK j cK]) (by simp [results, Try.results58, go_sem, r0, r1, r2, r3, r4]) rfl ?_
        exact E1

theorem rd_code (a : Int) : ∀ (f i : Nat) (acc : Int) (l : List Int), (rd a f i acc l).2.2 = 0 ∨ (rd a f i acc l).2.2 = 11 ∨ (rd a f i acc l).2.2 = 12
  | 0, i, acc, l => by simp [rd]
  | f + 1, i, acc, [] => by simp [rd]
  | f + 1, i, acc, c :: l => by
    simp only [rd]
    split
    · split
      · exact Or.inl rfl
      · exact rd_code a f (i + 1) _ l
    · exact Or.inr (Or.inr rfl)

theorem uint_not13 (zs : List Int) (a : Int) : ¬ (uintAt zs a).2.2 = 13 := by
  unfold uintAt
  split
  · decide
  · rcases rd_code a 10 0 0 (zs.drop a.toNat) with h | h | h <;> (rw [h]; decide)

/-- a text, by its length -/
theorem txt_cnt (zs : List Int) (q a t : Nat) (ht : t ≤ 2048) (hl : ∀ n ∈ zs, 0 ≤ n ∧ n ≤ 255) : rdTxt zs q a t = match rdCnt zs q a t 1 with
    | .error p => .error p
    | .ok (n, a') => if (zs.length : Int) - (a' : Int) < (n : Int) then .error (41, (a : Int)) else .ok (.mk 3 0 (strOfNums ((zs.drop a').take n)) [] [], a' + n, t + (strOfNums ((zs.drop a').take n)).size) := by
  have h13 := uint_not13 zs a
  have hf := uint_form zs a hl
  unfold rdTxt rdCnt
  cases hu : uintAt zs a with
  | mk n r =>
    obtain ⟨nx, e⟩ := r
    rw [hu] at h13 hf
    dsimp only at h13 hf
    by_cases h0 : e = 0
    · subst h0
      obtain ⟨u0, k0, a0, _, _, b0, n0, _, p0⟩ := hf rfl
      obtain ⟨m, rfl⟩ := Int.eq_ofNat_of_zero_le p0
      subst n0
      by_cases h1 : 2048 - (t : Int) < (m : Int)
      · rw [show textOfU zs (2048 - (t : Int)) ((m : Int), ((u0 + k0 : Nat) : Int), 0) = (⟨#[]⟩, 0, 13) by unfold textOfU; rw [if_neg (by simp), if_pos (Or.inr h1)]]
        rw [if_pos rfl]
        simp only [ne_eq, not_true, if_false]
        rw [if_pos (by rw [show ((1 : Nat) : Int) = 1 from rfl, Int.tdiv_one]; exact h1)]
      · by_cases h2 : (zs.length : Int) - ((u0 + k0 : Nat) : Int) < (m : Int)
        · rw [show textOfU zs (2048 - (t : Int)) ((m : Int), ((u0 + k0 : Nat) : Int), 0) = (⟨#[]⟩, 0, 11) by unfold textOfU; rw [if_neg (by simp), if_neg (by omega), if_pos h2]]
          rw [if_neg (by decide), if_pos (by decide)]
          simp only [ne_eq, not_true, if_false]
          rw [if_neg (by rw [show ((1 : Nat) : Int) = 1 from rfl, Int.tdiv_one]; exact h1)]
          simp only [Int.toNat_natCast]
          rw [if_pos h2]
        · rw [show textOfU zs (2048 - (t : Int)) ((m : Int), ((u0 + k0 : Nat) : Int), 0) = (strOfNums ((zs.drop (u0 + k0)).take m), ((u0 + k0 : Nat) : Int) + (m : Int), 0) by unfold textOfU; rw [if_neg (by simp), if_neg (by omega), if_neg h2]; simp only [Int.toNat_natCast]]
          rw [if_neg (by simp), if_neg (by simp)]
          simp only [ne_eq, not_true, if_false]
          rw [if_neg (by rw [show ((1 : Nat) : Int) = 1 from rfl, Int.tdiv_one]; exact h1)]
          simp only [Int.toNat_natCast]
          rw [if_neg h2, show (((u0 + k0 : Nat) : Int) + (m : Int)).toNat = u0 + k0 + m by omega]
    · rw [show textOfU zs (2048 - (t : Int)) (n, nx, e) = (⟨#[]⟩, 0, e) by unfold textOfU; rw [if_pos (by simpa using h0)]]
      rw [if_neg h13, if_pos h0]
      dsimp only
      rw [if_pos h0]

theorem kept_err (c q : Int) (v : Vl) (p t : Int) : Kept (.error (c, q)) v p t c q := rfl

theorem val_f_step (zs : List Int) (d : Nat) (ih : ∀ e, d = e + 1 → ValF zs e) : ValF zs d := by
  intro gr ao len cap a t w h hS ha ht hd
  have hsm := hS.row.small
  have hlen := hS.row.length
  cases hc : zs[a]? with
  | none =>
    have hal : a = len := by have := List.getElem?_eq_none_iff.1 hc; omega
    have hv : rdV zs d a t = .error (41, (a : Int)) := by cases d <;> simp only [rdV, hc]
    rw [hv]
    exact val_f_end zs d gr ao len cap a t w h hS _ hal (fun _ _ => rfl)
  | some c =>
    have hcs := hsm c (List.mem_of_getElem? hc)
    by_cases h6 : 6 < c
    · have hv : rdV zs d a t = .error (41, (a : Int)) := by cases d <;> (simp only [rdV, hc]; rw [if_pos h6])
      rw [hv]
      exact val_f_wrong zs d gr ao len cap a t w h hS _ c hc h6 (fun _ _ => rfl)
    cases d with
    | zero =>
      have hv : rdV zs 0 a t = .error (42, (a : Int)) := by simp only [rdV, hc]; rw [if_neg h6]
      rw [hv]
      exact val_f_deep zs 0 gr ao len cap a t w h hS _ c hc h6 rfl (fun _ _ => rfl)
    | succ e =>
      by_cases hh : 2048 < t + 1
      · have hv : rdV zs (e + 1) a t = .error (42, (a : Int)) := by simp only [rdV, hc]; rw [if_neg h6, if_pos hh]
        rw [hv]
        exact val_f_heavy zs (e + 1) gr ao len cap a t w h hS _ c hc h6 (by omega) ht hh (fun _ _ => rfl)
      have IH := ih e rfl
      rcases (show c = 0 ∨ c = 1 ∨ c = 2 ∨ c = 3 ∨ c = 4 ∨ c = 5 ∨ c = 6 by omega) with rfl | rfl | rfl | rfl | rfl | rfl | rfl
      · have hv : rdV zs (e + 1) a t = .ok (.mk 0 0 ⟨#[]⟩ [] [], a + 1, t + 1) := by simp only [rdV, hc]; rw [if_neg h6, if_neg hh]; simp
        rw [hv]
        exact val_f_0 zs (e + 1) gr ao len cap a t w h hS _ hc (by omega) ht hh ⟨rfl, by omega, by omega, rfl, rfl⟩
      · have hv : rdV zs (e + 1) a t = .ok (.mk 1 0 ⟨#[]⟩ [] [], a + 1, t + 1) := by simp only [rdV, hc]; rw [if_neg h6, if_neg hh]; simp
        rw [hv]
        exact val_f_1 zs (e + 1) gr ao len cap a t w h hS _ hc (by omega) ht hh ⟨rfl, by omega, by omega, rfl, rfl⟩
      · have hv : rdV zs (e + 1) a t = .ok (.mk 1 1 ⟨#[]⟩ [] [], a + 1, t + 1) := by simp only [rdV, hc]; rw [if_neg h6, if_neg hh]; simp
        rw [hv]
        exact val_f_2 zs (e + 1) gr ao len cap a t w h hS _ hc (by omega) ht hh ⟨rfl, by omega, by omega, rfl, rfl⟩
      · have hv : rdV zs (e + 1) a t = rdNum zs (a + 1) (t + 1) := by simp only [rdV, hc]; rw [if_neg h6, if_neg hh]; simp
        rw [hv]
        cases hn : rdNum zs (a + 1) (t + 1) with
        | error p =>
          unfold rdNum at hn
          by_cases h0 : (intOfU (uintAt zs ((a + 1 : Nat) : Int))).2.2 ≠ 0
          · rw [if_pos h0] at hn
            cases hn
            rw [show ((a + 1 : Nat) : Int) = (a : Int) + 1 by omega] at h0 ⊢
            exact val_f_num_bad zs (e + 1) gr ao len cap a t w h hS _ hc (by omega) ht hh _ _ _ rfl h0 (fun _ _ => rfl)
          · rw [if_neg h0] at hn; cases hn
        | ok y =>
          obtain ⟨v, a', t'⟩ := y
          obtain ⟨n, rfl, rfl, _, _, hnb, _, e0⟩ := num_form hsm hn
          rw [show ((a + 1 : Nat) : Int) = (a : Int) + 1 by omega] at e0
          exact val_f_num_ok zs (e + 1) gr ao len cap a t w h hS _ hc (by omega) ht hh n a' hnb e0 ⟨rfl, rfl, by omega, rfl, rfl⟩
      · have hv : rdV zs (e + 1) a t = rdTxt zs a (a + 1) (t + 1) := by simp only [rdV, hc]; rw [if_neg h6, if_neg hh]; simp
        rw [hv, txt_cnt zs a (a + 1) (t + 1) (by omega) hsm]
        cases hn : rdCnt zs a (a + 1) (t + 1) 1 with
        | error p =>
          exact val_f_txt_bad zs (e + 1) gr ao len cap a t w h hS _ hc (by omega) ht hh p hn (by rcases cnt_code hn with h | h <;> (rw [h]; decide)) (fun _ _ => rfl)
        | ok y =>
          obtain ⟨n, a1⟩ := y
          obtain ⟨k1, k2, k3, _, _, _⟩ := cnt_form hsm (by omega) (by omega) hn
          dsimp only
          by_cases h2 : (zs.length : Int) - (a1 : Int) < (n : Int)
          · rw [if_pos h2]
            exact val_f_txt_short zs (e + 1) gr ao len cap a t w h hS _ hc (by omega) ht hh n a1 hn (by omega) (by rw [← hlen]; exact h2) (fun _ _ => by rw [show ((a + 1 : Nat) : Int) = (a : Int) + 1 by omega]; exact rfl)
          · rw [if_neg h2]
            have hss : ∀ c ∈ (zs.drop a1).take n, 0 ≤ c ∧ c ≤ 255 := fun c hc => hsm c (List.mem_of_mem_drop (List.mem_of_mem_take hc))
            have hsz : (strOfNums ((zs.drop a1).take n)).size = n := by rw [str_size _ hss, List.length_take, List.length_drop]; omega
            exact val_f_txt_ok zs (e + 1) gr ao len cap a t w h hS _ hc (by omega) ht hh n a1 hn (by omega) (by rw [← hlen]; exact h2) _ rfl hsz ⟨rfl, by omega, by rw [hsz]; omega, rfl, rfl⟩
      · have hv : rdV zs (e + 1) a t = rdAll zs (rdV zs e) a (a + 1) (t + 1) := by simp only [rdV, hc]; rw [if_neg h6, if_neg hh]; simp
        rw [hv]
        exact val_f_arr zs (e + 1) e gr ao len cap a t w h hS IH rfl hd _ hc (by omega) ht hh rfl
      · have hv : rdV zs (e + 1) a t = rdPairs zs (rdV zs e) a (a + 1) (t + 1) := by simp only [rdV, hc]; rw [if_neg h6, if_neg hh]; simp
        rw [hv]
        exact val_f_rec zs (e + 1) e gr ao len cap a t w h hS IH rfl hd _ hc (by omega) ht hh rfl

theorem val_f (zs : List Int) : ∀ d, ValF zs d
  | 0 => val_f_step zs 0 (fun e h => by omega)
  | d + 1 => val_f_step zs (d + 1) (fun e h => by have : e = d := by omega
                                                  rw [this]; exact val_f zs d)

end Go.Proofs.Ytfdnhpmldnmncaa
