/-
  What the reader of wire reads is right, and its bytes are those that were read; condition: the bytes are bytes.
  The walks of the document's own Uint and Int: each answers what num's does, at any place of any bytes; no conditions.
-/
import Derived.Test.YtfdnhpmldnmncaaR09
import Derived.Test.YtfdnhpmldnmncaaR02
namespace Go.Proofs.Ytfdnhpmldnmncaa
open Go.RowKit

theorem take_join {α : Type} (zs : List α) (a b c : Nat) (h1 : a ≤ b) (h2 : b ≤ c) : (zs.drop a).take (b - a) ++ (zs.drop b).take (c - b) = (zs.drop a).take (c - a) := by
  rw [show c - a = (b - a) + (c - b) by omega, List.take_add, List.drop_drop, show a + (b - a) = b by omega]

theorem take_cons {α : Type} (zs : List α) (a b : Nat) (c : α) (h : zs[a]? = some c) (hb : a + 1 ≤ b) : (zs.drop a).take (b - a) = c :: (zs.drop (a + 1)).take (b - (a + 1)) := by
  obtain ⟨hl, e⟩ := List.getElem?_eq_some_iff.1 h
  rw [List.drop_eq_getElem_cons hl, e, show b - a = (b - (a + 1)) + 1 by omega, List.take_succ_cons]

theorem e0s : (⟨#[]⟩ : ByteArray).size = 0 := rfl

/-- what is known of a value that was read -/
structure Snd (zs : List Int) (d a t : Nat) (v : Vl) (a' t' : Nat) : Prop where
  lt : a < a'
  le : a' ≤ zs.length
  wt : t' = t + wt v
  most : t' ≤ 2048
  ok : okB d v = true
  enc : wenc v = (zs.drop a).take (a' - a)
  fit : fitB v = true

def SndAt (zs : List Int) (d : Nat) (f : Nat → Nat → Except (Int × Int) (Vl × Nat × Nat)) : Prop := ∀ a t v a' t', f a t = .ok (v, a', t') → t ≤ 2048 → Snd zs d a t v a' t'

theorem cnt_form {zs : List Int} {q a t k n a' : Nat} (hl : ∀ n ∈ zs, 0 ≤ n ∧ n ≤ 255) (hk : 1 ≤ k) (ht : t ≤ 2048) (h : rdCnt zs q a t k = .ok (n, a')) : a < a' ∧ a' ≤ zs.length ∧ n * k + t ≤ 2048 ∧ encF 9 (n : Int) = (zs.drop a).take (a' - a) ∧ (uintAt zs a) = ((n : Int), (a' : Int), 0) ∧ ¬ (2048 - (t : Int)).tdiv k < n := by
  unfold rdCnt at h
  by_cases h0 : (uintAt zs a).2.2 ≠ 0
  · rw [if_pos h0] at h; cases h
  rw [if_neg h0] at h
  by_cases h1 : (2048 - (t : Int)).tdiv k < (uintAt zs a).1
  · rw [if_pos h1] at h; cases h
  rw [if_neg h1] at h
  obtain ⟨a0, c, e, hk1, hk2, hk3, hn, henc, hpos⟩ := uint_form zs a hl (by simpa using h0)
  have ea : a0 = a := by omega
  subst ea
  generalize hu : uintAt zs a0 = r at *
  obtain ⟨N, nx, er⟩ := r
  dsimp only at *
  subst hn
  simp only [Except.ok.injEq, Prod.mk.injEq] at h
  obtain ⟨rfl, rfl⟩ := h
  simp only [Int.toNat_natCast]
  have e0 : ((N.toNat : Nat) : Int) = N := by omega
  have er0 : er = 0 := by simpa using h0
  refine ⟨by omega, by omega, ?_, ?_, ?_, ?_⟩
  · rw [Int.tdiv_eq_ediv_of_nonneg (by omega)] at h1
    have h2 : N ≤ (2048 - (t : Int)) / k := by omega
    have h3 := (Int.le_ediv_iff_mul_le (by omega)).1 h2
    have h4 : ((N.toNat * k : Nat) : Int) = N * k := by rw [Int.natCast_mul, e0]
    omega
  · rw [e0, henc, show a0 + c - a0 = c by omega]
  · rw [e0, er0]
  · rw [e0]; exact h1

theorem arr_form {zs : List Int} {d : Nat} {f : Nat → Nat → Except (Int × Int) (Vl × Nat × Nat)} (hf : SndAt zs d f) : ∀ (n : Nat) (l : List Vl) (a t : Nat) (l' : List Vl) (a' t' : Nat), rdArr f n l a t = .ok (l', a', t') → t ≤ 2048 → a ≤ zs.length →
    ∃ r, l' = l ++ r ∧ r.length = n ∧ a ≤ a' ∧ a' ≤ zs.length ∧ t' = t + wtL r ∧ t' ≤ 2048 ∧ okL d r = true ∧ fitL r = true ∧ wencL false r [] = (zs.drop a).take (a' - a)
  | 0, l, a, t, l', a', t', h, ht, ha => by
    simp only [rdArr, Except.ok.injEq, Prod.mk.injEq] at h
    obtain ⟨rfl, rfl, rfl⟩ := h
    exact ⟨[], by simp, rfl, Nat.le_refl _, ha, by simp [wtL_nil], ht, okL_nil _, fitL_nil, by simp [wencL_nil]⟩
  | n + 1, l, a, t, l', a', t', h, ht, ha => by
    simp only [rdArr] at h
    cases hv : f a t with
    | error e => rw [hv] at h; cases h
    | ok p =>
      obtain ⟨v, a1, t1⟩ := p
      rw [hv] at h
      dsimp only at h
      have S := hf a t v a1 t1 hv ht
      obtain ⟨r, e1, e2, e3, e4, e5, e6, e7, e8, e9⟩ := arr_form hf n (l ++ [v]) a1 t1 l' a' t' h S.most S.le
      have s1 := S.lt
      refine ⟨v :: r, by rw [e1]; simp, by simp [e2], by omega, e4, by rw [wtL_cons, e5, S.wt]; omega, e6, by rw [okL_cons, S.ok, e7]; rfl, by rw [fitL_cons, S.fit, e8]; rfl, ?_⟩
      rw [wencL_cons, S.enc]
      simp only [Bool.false_eq_true, if_false, List.nil_append, List.tail_nil]
      rw [e9, take_join _ _ _ _ (by omega) e3]

theorem key_form {zs : List Int} (hl : ∀ n ∈ zs, 0 ≤ n ∧ n ≤ 255) {last : Option ByteArray} {a t : Nat} {s : ByteArray} {a' t' : Nat} (h : rdKey zs last a t = .ok (s, a', t')) :
    a ≤ a' ∧ a' ≤ zs.length ∧ t' = t + (1 + s.size) ∧ t' ≤ 2048 ∧ s.size ≤ 32 ∧ tx s = (zs.drop a).take (a' - a) ∧ notBehind s last = false ∧ textOfU zs 32 (uintAt zs a) = (s, (a' : Int), 0) := by
  unfold rdKey at h
  by_cases h0 : (textOfU zs 32 (uintAt zs a)).2.2 ≠ 0
  · rw [if_pos h0] at h; cases h
  rw [if_neg h0] at h
  obtain ⟨b, b1, b2, b3, b4, b5⟩ := text_form zs 32 a hl (by simpa using h0)
  by_cases h1 : notBehind (textOfU zs 32 (uintAt zs a)).1 last = true
  · rw [if_pos h1] at h; cases h
  rw [if_neg h1] at h
  by_cases h2 : 2048 < t + (1 + (textOfU zs 32 (uintAt zs a)).1.size)
  · rw [if_pos h2] at h; cases h
  rw [if_neg h2] at h
  simp only [Except.ok.injEq, Prod.mk.injEq] at h
  obtain ⟨rfl, rfl, rfl⟩ := h
  rw [b3, Int.toNat_natCast]
  refine ⟨b1, b2, rfl, by omega, by omega, b5, by simpa using h1, ?_⟩
  have h0' : (textOfU zs 32 (uintAt zs a)).2.2 = 0 := by simpa using h0
  rw [← b3, ← h0']

theorem rec_form {zs : List Int} (hl : ∀ n ∈ zs, 0 ≤ n ∧ n ≤ 255) {d : Nat} {f : Nat → Nat → Except (Int × Int) (Vl × Nat × Nat)} (hf : SndAt zs d f) : ∀ (n : Nat) (l : List Vl) (ks : List ByteArray) (a t : Nat) (l' : List Vl) (ks' : List ByteArray) (a' t' : Nat), rdRec zs f n l ks a t = .ok (l', ks', a', t') → t ≤ 2048 → a ≤ zs.length →
    ∃ r q, l' = l ++ r ∧ ks' = ks ++ q ∧ r.length = n ∧ q.length = n ∧ a ≤ a' ∧ a' ≤ zs.length ∧ t' = t + wtL r + keysW q ∧ t' ≤ 2048 ∧ okL d r = true ∧ fitL r = true ∧ wencL true r q = (zs.drop a).take (a' - a) ∧ risingFrom ks.getLast? q = true ∧ (∀ s ∈ q, s.size ≤ 32)
  | 0, l, ks, a, t, l', ks', a', t', h, ht, ha => by
    simp only [rdRec, Except.ok.injEq, Prod.mk.injEq] at h
    obtain ⟨rfl, rfl, rfl, rfl⟩ := h
    exact ⟨[], [], by simp, by simp, rfl, rfl, Nat.le_refl _, ha, by simp [wtL_nil, keysW], ht, okL_nil _, fitL_nil, by simp [wencL_nil], rfl, by simp⟩
  | n + 1, l, ks, a, t, l', ks', a', t', h, ht, ha => by
    simp only [rdRec] at h
    cases hk : rdKey zs ks.getLast? a t with
    | error e => rw [hk] at h; cases h
    | ok p =>
      obtain ⟨s, a1, t1⟩ := p
      rw [hk] at h
      dsimp only at h
      obtain ⟨k1, k2, k3, k4, k5, k6, k7, _⟩ := key_form hl hk
      cases hv : f a1 t1 with
      | error e => rw [hv] at h; cases h
      | ok p =>
        obtain ⟨v, a2, t2⟩ := p
        rw [hv] at h
        dsimp only at h
        have S := hf a1 t1 v a2 t2 hv k4
        obtain ⟨r, q, e0, e1, e2, e2', e3, e4, e5, e6, e7, e8, e9, e10, e11⟩ := rec_form hl hf n (l ++ [v]) (ks ++ [s]) a2 t2 l' ks' a' t' h S.most S.le
        have s1 := S.lt
        refine ⟨v :: r, s :: q, by rw [e0]; simp, by rw [e1]; simp, by simp [e2], by simp [e2'], by omega, e4, by rw [wtL_cons, e5, S.wt, k3]; simp only [keysW]; omega, e6, by rw [okL_cons, S.ok, e7]; rfl, by rw [fitL_cons, S.fit, e8]; rfl, ?_, ?_, ?_⟩
        · rw [wencL_cons, S.enc]
          simp only [if_true, keyAt, List.tail_cons]
          rw [e9, k6, take_join _ _ _ _ k1 (by omega), take_join _ _ _ _ (by omega) e3]
        · have e10' : risingFrom (some s) q = true := by simpa using e10
          simp only [risingFrom, e10', Bool.and_true, Bool.and_eq_true, decide_eq_true_eq]
          refine ⟨k5, ?_⟩
          cases hg : ks.getLast? with
          | none => rfl
          | some p =>
            rw [hg] at k7
            simp only [notBehind] at k7
            simp only
            rw [bl_not, k7]
            rfl
        · intro x hx
          rcases List.mem_cons.1 hx with rfl | hx
          · exact k5
          · exact e11 x hx

theorem num_form {zs : List Int} (hl : ∀ n ∈ zs, 0 ≤ n ∧ n ≤ 255) {a t : Nat} {v : Vl} {a' t' : Nat} (h : rdNum zs a t = .ok (v, a', t')) :
    ∃ n : Int, v = .mk 2 n ⟨#[]⟩ [] [] ∧ t' = t ∧ a < a' ∧ a' ≤ zs.length ∧ (-9223372036854775808 ≤ n ∧ n ≤ 9223372036854775807) ∧ encF 9 (foldI n) = (zs.drop a).take (a' - a) ∧ intOfU (uintAt zs a) = (n, (a' : Int), 0) := by
  unfold rdNum at h
  by_cases h0 : (intOfU (uintAt zs a)).2.2 ≠ 0
  · rw [if_pos h0] at h; cases h
  rw [if_neg h0] at h
  have hu0 : (uintAt zs a).2.2 = 0 := by
    by_cases hu : (uintAt zs a).2.2 = 0
    · exact hu
    · unfold intOfU at h0; rw [if_neg hu] at h0; exact absurd hu h0
  obtain ⟨a0, c, e, hk1, hk2, hk3, hn, henc, hpos⟩ := uint_form zs a hl hu0
  have hmx := uint_max zs a hl
  have ea : a0 = a := by omega
  subst ea
  have ei : intOfU (uintAt zs a0) = (unfoldI (uintAt zs a0).1, (uintAt zs a0).2.1, 0) := by unfold intOfU; rw [if_pos hu0]
  rw [ei] at h ⊢
  simp only [Except.ok.injEq, Prod.mk.injEq] at h
  obtain ⟨rfl, rfl, rfl⟩ := h
  rw [hn, Int.toNat_natCast]
  refine ⟨_, rfl, rfl, by omega, by omega, ?_, ?_, rfl⟩
  · unfold unfoldI; split <;> omega
  · rcases fold_unfold (uintAt zs a0).1 with h | h
    · rw [h, henc, show a0 + c - a0 = c by omega]
    · omega

theorem txt_form {zs : List Int} (hl : ∀ n ∈ zs, 0 ≤ n ∧ n ≤ 255) {q a t : Nat} {v : Vl} {a' t' : Nat} (_ : t ≤ 2048) (h : rdTxt zs q a t = .ok (v, a', t')) :
    ∃ s : ByteArray, v = .mk 3 0 s [] [] ∧ t' = t + s.size ∧ t' ≤ 2048 ∧ a ≤ a' ∧ a' ≤ zs.length ∧ tx s = (zs.drop a).take (a' - a) ∧ textOfU zs (2048 - (t : Int)) (uintAt zs a) = (s, (a' : Int), 0) ∧ (s.size : Int) ≤ 2048 - t := by
  unfold rdTxt at h
  by_cases h13 : (textOfU zs (2048 - (t : Int)) (uintAt zs a)).2.2 = 13
  · rw [if_pos h13] at h; cases h
  rw [if_neg h13] at h
  by_cases h0 : (textOfU zs (2048 - (t : Int)) (uintAt zs a)).2.2 ≠ 0
  · rw [if_pos h0] at h; cases h
  rw [if_neg h0] at h
  obtain ⟨b, b1, b2, b3, b4, b5⟩ := text_form zs (2048 - (t : Int)) a hl (by simpa using h0)
  simp only [Except.ok.injEq, Prod.mk.injEq] at h
  obtain ⟨rfl, rfl, rfl⟩ := h
  rw [b3, Int.toNat_natCast]
  refine ⟨_, rfl, rfl, by omega, b1, b2, b5, ?_, b4⟩
  have h0' : (textOfU zs (2048 - (t : Int)) (uintAt zs a)).2.2 = 0 := by simpa using h0
  rw [← b3, ← h0']

theorem all_form {zs : List Int} (hl : ∀ n ∈ zs, 0 ≤ n ∧ n ≤ 255) {d : Nat} {f : Nat → Nat → Except (Int × Int) (Vl × Nat × Nat)} (hf : SndAt zs d f) {q a t : Nat} {v : Vl} {a' t' : Nat} (ht : t ≤ 2048) (h : rdAll zs f q a t = .ok (v, a', t')) :
    ∃ (l : List Vl) (n a1 : Nat), v = .mk 4 0 ⟨#[]⟩ l [] ∧ rdCnt zs q a t 1 = .ok (n, a1) ∧ rdArr f n [] a1 t = .ok (l, a', t') ∧ l.length = n ∧ n ≤ 2048 ∧ t' = t + wtL l ∧ t' ≤ 2048 ∧ a < a' ∧ a' ≤ zs.length ∧ okL d l = true ∧ fitL l = true ∧ encF 9 (l.length : Int) ++ wencL false l [] = (zs.drop a).take (a' - a) := by
  unfold rdAll at h
  cases hc : rdCnt zs q a t 1 with
  | error e => rw [hc] at h; cases h
  | ok p =>
    obtain ⟨n, a1⟩ := p
    rw [hc] at h
    dsimp only at h
    obtain ⟨c1, c2, c3, c4, _, _⟩ := cnt_form hl (by omega) ht hc
    cases hr : rdArr f n [] a1 t with
    | error e => rw [hr] at h; cases h
    | ok p =>
      obtain ⟨l, a2, t2⟩ := p
      rw [hr] at h
      dsimp only at h
      obtain ⟨r, e1, e2, e3, e4, e5, e6, e7, e8, e9⟩ := arr_form hf n [] a1 t l a2 t2 hr ht c2
      simp only [List.nil_append] at e1
      subst e1
      simp only [Except.ok.injEq, Prod.mk.injEq] at h
      obtain ⟨rfl, rfl, rfl⟩ := h
      refine ⟨l, n, a1, rfl, rfl, hr, e2, by omega, e5, e6, by omega, e4, e7, e8, ?_⟩
      rw [e2, c4, e9, take_join _ _ _ _ (by omega) e3]

theorem pairs_form {zs : List Int} (hl : ∀ n ∈ zs, 0 ≤ n ∧ n ≤ 255) {d : Nat} {f : Nat → Nat → Except (Int × Int) (Vl × Nat × Nat)} (hf : SndAt zs d f) {q a t : Nat} {v : Vl} {a' t' : Nat} (ht : t ≤ 2048) (h : rdPairs zs f q a t = .ok (v, a', t')) :
    ∃ (l : List Vl) (ks : List ByteArray) (n a1 : Nat), v = .mk 5 0 ⟨#[]⟩ l ks ∧ rdCnt zs q a t 2 = .ok (n, a1) ∧ rdRec zs f n [] [] a1 t = .ok (l, ks, a', t') ∧ l.length = n ∧ ks.length = n ∧ n ≤ 2048 ∧ t' = t + wtL l + keysW ks ∧ t' ≤ 2048 ∧ a < a' ∧ a' ≤ zs.length ∧ okL d l = true ∧ fitL l = true ∧ encF 9 (l.length : Int) ++ wencL true l ks = (zs.drop a).take (a' - a) ∧ risingFrom none ks = true ∧ (∀ s ∈ ks, s.size ≤ 32) := by
  unfold rdPairs at h
  cases hc : rdCnt zs q a t 2 with
  | error e => rw [hc] at h; cases h
  | ok p =>
    obtain ⟨n, a1⟩ := p
    rw [hc] at h
    dsimp only at h
    obtain ⟨c1, c2, c3, c4, _, _⟩ := cnt_form hl (by omega) ht hc
    cases hr : rdRec zs f n [] [] a1 t with
    | error e => rw [hr] at h; cases h
    | ok p =>
      obtain ⟨l, ks, a2, t2⟩ := p
      rw [hr] at h
      dsimp only at h
      obtain ⟨r, k, e0, e1, e2, e2', e3, e4, e5, e6, e7, e8, e9, e10, e11⟩ := rec_form hl hf n [] [] a1 t l ks a2 t2 hr ht c2
      simp only [List.nil_append] at e0 e1
      subst e0
      subst e1
      simp only [Except.ok.injEq, Prod.mk.injEq] at h
      obtain ⟨rfl, rfl, rfl⟩ := h
      refine ⟨l, ks, n, a1, rfl, rfl, hr, e2, e2', by omega, e5, e6, by omega, e4, e7, e8, ?_, e10, e11⟩
      rw [e2, c4, e9, take_join _ _ _ _ (by omega) e3]

theorem rdV_sound {zs : List Int} (hl : ∀ n ∈ zs, 0 ≤ n ∧ n ≤ 255) : ∀ d, SndAt zs d (rdV zs d)
  | 0 => by
    intro a t v a' t' h ht
    simp only [rdV] at h
    split at h
    · cases h
    · split at h <;> cases h
  | d + 1 => by
    intro a t v a' t' h ht
    simp only [rdV] at h
    cases hc : zs[a]? with
    | none => rw [hc] at h; cases h
    | some c =>
      rw [hc] at h
      dsimp only at h
      have hb := hl c (List.mem_of_getElem? hc)
      have hlt := (List.getElem?_eq_some_iff.1 hc).1
      by_cases c6 : 6 < c
      · rw [if_pos c6] at h; cases h
      rw [if_neg c6] at h
      by_cases ct : 2048 < t + 1
      · rw [if_pos ct] at h; cases h
      rw [if_neg ct] at h
      by_cases c1 : c = 1
      · rw [if_pos c1] at h
        simp only [Except.ok.injEq, Prod.mk.injEq] at h
        obtain ⟨rfl, rfl, rfl⟩ := h
        exact ⟨by omega, by omega, by simp [wt, keysW, wtL_nil, e0s], by omega, by simp [okB, formB, formM, okL_nil], by rw [take_cons zs a _ c hc (by omega)]; simp [wenc, encN, c1], by simp [fitB, fitL_nil, e0s]⟩
      rw [if_neg c1] at h
      by_cases c2 : c = 2
      · rw [if_pos c2] at h
        simp only [Except.ok.injEq, Prod.mk.injEq] at h
        obtain ⟨rfl, rfl, rfl⟩ := h
        exact ⟨by omega, by omega, by simp [wt, keysW, wtL_nil, e0s], by omega, by simp [okB, formB, formM, okL_nil], by rw [take_cons zs a _ c hc (by omega)]; simp [wenc, encN, c2], by simp [fitB, fitL_nil, e0s]⟩
      rw [if_neg c2] at h
      by_cases c3 : c = 3
      · rw [if_pos c3] at h
        obtain ⟨n, rfl, rfl, n1, n2, n3, n4, _⟩ := num_form hl h
        exact ⟨by omega, by omega, by simp [wt, keysW, wtL_nil, e0s], by omega, by simp [okB, formB, formM, okL_nil], by rw [take_cons zs a _ c hc (by omega)]; simp [wenc, encN, c3, n4], by simp [fitB, fitL_nil, n3, e0s]⟩
      rw [if_neg c3] at h
      by_cases c4 : c = 4
      · rw [if_pos c4] at h
        obtain ⟨s, rfl, rfl, n1, n2, n3, n4, _, n6⟩ := txt_form hl (by omega) h
        exact ⟨by omega, by omega, by simp [wt, keysW, wtL_nil]; omega, by omega, by simp [okB, formB, formM, okL_nil], by rw [take_cons zs a _ c hc (by omega)]; simp [wenc, encN, c4, n4], by simp [fitB, fitL_nil]; omega⟩
      rw [if_neg c4] at h
      by_cases c5 : c = 5
      · rw [if_pos c5] at h
        obtain ⟨l, n, a1, rfl, _, _, l1, l2, l3, l4, l5, l6, l7, l8, l9⟩ := all_form hl (rdV_sound hl d) (by omega) h
        exact ⟨by omega, by omega, by simp [wt, keysW, e0s]; omega, by omega, by simp [okB, formB, formM, l7], by rw [take_cons zs a _ c hc (by omega), ← l9]; simp [wenc, encN, c5], by simp [fitB, l8, e0s]; omega⟩
      rw [if_neg c5] at h
      by_cases c6' : c = 6
      · rw [if_pos c6'] at h
        obtain ⟨l, ks, n, a1, rfl, _, _, l1, l1', l2, l3, l4, l5, l6, l7, l8, l9, l10, l11⟩ := pairs_form hl (rdV_sound hl d) (by omega) h
        exact ⟨by omega, by omega, by simp [wt, e0s]; omega, by omega, by simp [okB, formB, formM, l7, l10, l1, l1'], by rw [take_cons zs a _ c hc (by omega), ← l9]; simp [wenc, encN, c6'], by simp [fitB, l8, e0s]; exact ⟨by omega, fun x hx => by have := l11 x hx; omega⟩⟩
      rw [if_neg c6'] at h
      have c0 : c = 0 := by omega
      simp only [Except.ok.injEq, Prod.mk.injEq] at h
      obtain ⟨rfl, rfl, rfl⟩ := h
      exact ⟨by omega, by omega, by simp [wt, keysW, wtL_nil, e0s], by omega, by simp [okB, formB, formM, okL_nil], by rw [take_cons zs a _ c hc (by omega)]; simp [wenc, encN, c0], by simp [fitB, fitL_nil, e0s]⟩
end Go.Proofs.Ytfdnhpmldnmncaa

namespace Go.Proofs.Ytfdnhpmldnmncaa
open Go.RowKit

set_option maxRecDepth 100000 in
set_option maxHeartbeats 400000 in
theorem refUint_out (ao : Option Addr) (len cap : Nat) (at_ : Int) (w : World) (h : at_ < 0 ∨ (len : Int) < at_) (hm : len ≤ maxLen) :
    Calls Try.prog 24 #[.slice ao len cap, .int .i64 at_] w fun e w' => e = .returned (.tuple #[.int .u64 0, .int .i64 0, .int .i64 10]) ∧ w' = w := by
  unfold maxLen at hm
  rcases h with h | h
  · go_enter Try.func24, Try.ntmps24
    go_wp2
    go_ret3
    exact ⟨rfl, rfl⟩
  · have h' : ¬ at_ < 0 := by omega
    go_enter Try.func24, Try.ntmps24
    go_wp2
    go_ret3
    exact ⟨rfl, rfl⟩

set_option maxRecDepth 100000 in
set_option maxHeartbeats 400000 in
theorem refUint_end (ao : Option Addr) (len cap : Nat) (w : World) :
    Calls Try.prog 24 #[.slice ao len cap, .int .i64 len] w fun e w' => e = .returned (.tuple #[.int .u64 0, .int .i64 0, .int .i64 11]) ∧ w' = w := by
  have hd : decide ((len : Int) < 0) = false := by simp
  go_enter Try.func24, Try.ntmps24
  go_wp2
  go_loop [7, 8, 9] (fun t p i => i = .int .i64 0 ∧ t = .int .u64 0 ∧ p = .int .u64 1) (fun _ _ _ => 0)
  case atStart => exact ⟨rfl, rfl, rfl⟩
  case round =>
    obtain ⟨rfl, rfl, rfl⟩ := hrel
    go_wp2
    go_ret3
    exact ⟨rfl, rfl⟩

set_option maxRecDepth 100000 in
set_option maxHeartbeats 2000000 in
theorem refUint_in (b off : Nat) (len cap a : Nat) (zs : List Int) (w : World) (hz : zs.length = len) (ha : a < len) (hle : len ≤ cap) (hm : cap ≤ maxLen)
    (hc : ∀ j, j < len → w.cell? ⟨b, off + j, none⟩ = some (.int .u8 (zs.getD j 0))) (hs : ∀ n ∈ zs, 0 ≤ n ∧ n ≤ 255) :
    Calls Try.prog 24 #[.slice (some ⟨b, off, none⟩) len cap, .int .i64 a] w fun e w' => e = .returned (.tuple #[.int .u64 (rd a 10 0 0 (zs.drop a)).1, .int .i64 (rd a 10 0 0 (zs.drop a)).2.1, .int .i64 (rd a 10 0 0 (zs.drop a)).2.2]) ∧ w' = w := by
  unfold maxLen at hm
  have hd : decide ((a : Int) < 0) = false := by simp
  have hd2 : ¬ (len : Int) < (a : Int) := by omega
  have HZ := hide hz
  clear hz
  go_enter Try.func24, Try.ntmps24
  go_wp2
  go_loop [7, 8, 9] (fun t y x => ∃ (i : Nat) (acc p : Int), i ≤ 9 ∧ i ≤ len - a ∧ x = .int .i64 i ∧ t = .int .u64 acc ∧ y = .int .u64 p ∧ Hid (p = 128 ^ i) ∧ Hid (0 ≤ acc ∧ acc < 128 ^ i) ∧ Hid (rd a 10 0 0 (zs.drop a) = rd a (10 - i) i acc (zs.drop (a + i)))) (fun _ _ x => 10 - (intOf x).toNat)
  case atStart => exact ⟨0, 0, 1, by omega, by omega, rfl, rfl, rfl, hide (by simp), hide (by simp), hide rfl⟩
  case round =>
    obtain ⟨i, acc, p, hi, hil, rfl, rfl, rfl, HP, HA, HR⟩ := hrel
    have hi10 : i < 10 := by omega
    have hlen := unhide HZ
    by_cases hend : i = len - a
    · have hq : (len : Int) - (a : Int) ≤ (i : Int) := by omega
      have hstop := rd_stop a (a + i) i acc zs hi10 (by omega)
      have HQ := hide hstop
      clear hend hlen hstop
      go_wp2
      go_ret3
      exact ⟨ret_tri (by rw [unhide HR, unhide HQ]), rfl⟩
    · have hq : ¬ (len : Int) - (a : Int) ≤ (i : Int) := by omega
      have hcell := hc (a + i) (by omega)
      have hst := rd_step a (a + i) i acc zs hi10 (by omega)
      have hcb : 0 ≤ zs.getD (a + i) 0 ∧ zs.getD (a + i) 0 ≤ 255 := by
        have g : zs.getD (a + i) 0 = zs[a + i] := by simp [List.getD, (by omega : a + i < zs.length)]
        rw [g]; exact hs _ (List.getElem_mem _)
      have hail : a + i < len := by omega
      have HE := hide hst
      clear hst hlen hc
      generalize zs.getD (a + i) 0 = c at *
      obtain ⟨c0, c1⟩ := hcb
      rcases stand_cases c i with ⟨hz, hsb⟩ | ⟨hz, hcz, hsb⟩ | ⟨hz, hcz, h9, hsb⟩ | ⟨hz, hcz, h9, hl, hsb⟩ | ⟨hz, hcz, h9, hl, hsb⟩
      · have hz0 : (i : Int) = 0 := by omega
        obtain ⟨a0, a1⟩ := unhide HA
        have hp := unhide HP
        obtain ⟨g0, g1, g2, g3, g4⟩ := group_bounds c acc i c0 a0 a1 hi10 hsb
        have hp9 := pow_le_63 i hi
        have hp8 : i < 9 → (128 : Int) ^ i * 128 ≤ 9223372036854775808 := fun h => by
          have := pow_le_63 (i + 1) (by omega)
          rw [Int.pow_succ] at this
          exact this
        have HB := hide hsb
        have G := hide (And.intro g2 g3)
        have hp0 := pow_pos' i
        rw [← hp] at g0 g1 g2 g4 hp9 hp8 hp0
        clear hsb g3 a1 hp
        have hz' : i < 9 := by omega
        have hp8' := hp8 hz'
        have f1 : ¬ (0 : Int) < (i : Int) := by omega
        have f2 : ((i : Int) == 9) = false := by simp; omega
        clear hz0 hp8 hz
        by_cases hlt : c < 128
        · go_wp2
          go_ret3
          exact ⟨ret_tri (by rw [unhide HR, unhide HE, unhide HB, if_pos rfl, if_pos hlt, unhide HP]), rfl⟩
        · go_wp2
          go_round
          case rel => exact ⟨i + 1, acc + c % 128 * p, p * 128, by omega, by omega, by go_num, by go_num, by go_num, hide (by rw [Int.pow_succ, unhide HP]), hide (by rw [unhide HP]; exact unhide G), hide (by rw [unhide HR, unhide HE, unhide HB, if_pos rfl, if_neg (by omega), unhide HP]; rfl)⟩
          case measure => simp [intOf]; omega
      · subst hcz
        have HB := hide hsb
        clear hsb
        have f1 : (0 : Int) < (i : Int) := by omega
        by_cases h9 : i = 9
        · subst h9
          go_wp2
          go_ret3
          exact ⟨ret_tri (by rw [unhide HR, unhide HE, unhide HB]; rfl), rfl⟩
        · have f2 : ((i : Int) == 9) = false := by simp; omega
          go_wp2
          go_ret3
          exact ⟨ret_tri (by rw [unhide HR, unhide HE, unhide HB]; rfl), rfl⟩
      · have f3 : (c == 0) = false := by simpa using hcz
        obtain ⟨a0, a1⟩ := unhide HA
        have hp := unhide HP
        obtain ⟨g0, g1, g2, g3, g4⟩ := group_bounds c acc i c0 a0 a1 hi10 hsb
        have hp9 := pow_le_63 i hi
        have hp8 : i < 9 → (128 : Int) ^ i * 128 ≤ 9223372036854775808 := fun h => by
          have := pow_le_63 (i + 1) (by omega)
          rw [Int.pow_succ] at this
          exact this
        have HB := hide hsb
        have G := hide (And.intro g2 g3)
        have hp0 := pow_pos' i
        rw [← hp] at g0 g1 g2 g4 hp9 hp8 hp0
        clear hsb g3 a1 hp
        have hp8' := hp8 h9
        have f1 : (0 : Int) < (i : Int) := by omega
        have f2 : ((i : Int) == 9) = false := by simp; omega
        clear hcz hp8
        by_cases hlt : c < 128
        · go_wp2
          go_ret3
          exact ⟨ret_tri (by rw [unhide HR, unhide HE, unhide HB, if_pos rfl, if_pos hlt, unhide HP]), rfl⟩
        · go_wp2
          go_round
          case rel => exact ⟨i + 1, acc + c % 128 * p, p * 128, by omega, by omega, by go_num, by go_num, by go_num, hide (by rw [Int.pow_succ, unhide HP]), hide (by rw [unhide HP]; exact unhide G), hide (by rw [unhide HR, unhide HE, unhide HB, if_pos rfl, if_neg (by omega), unhide HP]; rfl)⟩
          case measure => simp [intOf]; omega
      · have h9' : i = 9 := by omega
        have hc1 : c = 1 := by omega
        subst h9' hc1
        obtain ⟨a0, a1⟩ := unhide HA
        have hp := unhide HP
        obtain ⟨g0, g1, g2, g3, g4⟩ := group_bounds 1 acc 9 c0 a0 a1 hi10 hsb
        have hp9 := pow_le_63 9 hi
        have HB := hide hsb
        have G := hide (And.intro g2 g3)
        have hp0 := pow_pos' 9
        rw [← hp] at g0 g1 g2 g4 hp9 hp0
        clear hsb g3 a1 hp
        go_wp2
        go_ret3
        exact ⟨ret_tri (by rw [unhide HR, unhide HE, unhide HB, if_pos rfl, if_pos (by omega), unhide HP, show (1 : Int) % 128 = 1 from rfl, Int.one_mul]; rfl), rfl⟩
      · have HB := hide hsb
        clear hsb
        have h9' : i = 9 := by omega
        subst h9'
        go_wp2
        go_ret3
        exact ⟨ret_tri (by rw [unhide HR, unhide HE, unhide HB]; rfl), rfl⟩

theorem refUint_any (ao : Option Addr) (len cap : Nat) (at_ : Int) (zs : List Int) (w : World) (hr : Row8 w ao len cap zs) (hm : cap ≤ maxLen) :
    Calls Try.prog 24 #[.slice ao len cap, .int .i64 at_] w fun e w' => e = .returned (.tuple #[.int .u64 (uintAt zs at_).1, .int .i64 (uintAt zs at_).2.1, .int .i64 (uintAt zs at_).2.2]) ∧ w' = w := by
  have hl := hr.length
  have hle := hr.le
  by_cases h : at_ < 0 ∨ (len : Int) < at_
  · have e : uintAt zs at_ = (0, 0, 10) := by unfold uintAt; rw [hl, if_pos h]
    rw [e]
    exact refUint_out ao len cap at_ w h (by omega)
  · obtain ⟨a, rfl⟩ := Int.eq_ofNat_of_zero_le (by omega : 0 ≤ at_)
    have e : uintAt zs a = rd a 10 0 0 (zs.drop a) := by unfold uintAt; rw [hl, if_neg h, Int.toNat_natCast]
    rw [e]
    by_cases he : a = len
    · subst he
      have e2 : rd (a : Int) 10 0 0 (zs.drop a) = (0, 0, 11) := rd_stop a a 0 0 zs (by omega) (by omega)
      rw [e2]
      exact refUint_end ao a cap w
    · obtain ⟨b, off, rfl, hc⟩ := hr.at (by omega)
      exact refUint_in b off len cap a zs w hl (by omega) hle hm hc hr.small

set_option maxRecDepth 100000 in
set_option maxHeartbeats 400000 in
theorem refInt_any (ao : Option Addr) (len cap : Nat) (at_ : Int) (zs : List Int) (w : World) (hr : Row8 w ao len cap zs) (hm : cap ≤ maxLen) :
    Calls Try.prog 69 #[.slice ao len cap, .int .i64 at_] w fun e w' => e = .returned (.tuple #[.int .i64 (intOfU (uintAt zs at_)).1, .int .i64 (intOfU (uintAt zs at_)).2.1, .int .i64 (intOfU (uintAt zs at_)).2.2]) ∧ w' = w := by
  have c := refUint_any ao len cap at_ zs w hr hm
  have hx := uint_max zs at_ hr.small
  have hf := uint_form zs at_ hr.small
  generalize uintAt zs at_ = r at *
  obtain ⟨n, nx, er⟩ := r
  dsimp only at *
  have C := hide c
  clear c
  by_cases h : er = 0
  · subst h
    have hn : 0 ≤ n := by obtain ⟨_, _, _, _, _, _, _, _, h8⟩ := hf rfl; exact h8
    clear hf hr
    by_cases ho : n % 2 = 1
    · have hb : (n % 2 == 1) = true := by simp [ho]
      have e : intOfU (n, nx, 0) = (-(n / 2) - 1, nx, 0) := by simp [intOfU, unfoldI, ho]
      rw [e]
      clear e ho
      go_enter Try.func69, Try.ntmps69
      go_wp2_with fail
      refine (unhide C).mono ?_
      rintro e w' ⟨rfl, rfl⟩
      go_wp2_with fail
      go_ret3
      exact ⟨rfl, rfl⟩
    · have hb : (n % 2 == 1) = false := by simp [ho]
      have e : intOfU (n, nx, 0) = (n / 2, nx, 0) := by simp [intOfU, unfoldI, ho]
      rw [e]
      clear e ho
      go_enter Try.func69, Try.ntmps69
      go_wp2_with fail
      refine (unhide C).mono ?_
      rintro e w' ⟨rfl, rfl⟩
      go_wp2_with fail
      go_ret3
      exact ⟨rfl, rfl⟩
  · have hne : (er != 0) = true := by simpa using h
    have HN := hide h
    clear hf hr h
    go_enter Try.func69, Try.ntmps69
    go_wp2_with fail
    refine (unhide C).mono ?_
    rintro e w' ⟨rfl, rfl⟩
    go_wp2_with fail
    go_ret3
    exact ⟨ret_tri' (by unfold intOfU; rw [if_neg (unhide HN)]), rfl⟩

end Go.Proofs.Ytfdnhpmldnmncaa
