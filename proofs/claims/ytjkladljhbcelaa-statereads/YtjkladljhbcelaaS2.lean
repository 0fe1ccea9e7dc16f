/-
  A state's entries, their bytes, and how bytes are read as entries, as functions; no conditions.
  Where a state's bytes are wrong lies within them; no conditions.
  The walk of a state's Encode; no conditions but the form's own reach.
  The walk of a state's Encode; no conditions but the form's own reach.
-/
import Derived.Test.YtjkladljhbcelaaR32
import Derived.Test.YtjkladljhbcelaaS1
import Derived.Lib.SlBytesConst
namespace Go.Proofs.Ytjkladljhbcelaa
open Go.RowKit

def encE (e : En) : List Int := tx e.1 ++ wenc e.2
def encEs (l : List En) : List Int := l.flatMap encE
def headE : List Int := [83, 83, 84, 49]
def encS (l : List En) : List Int := headE ++ encF 9 (l.length : Int) ++ encEs l

theorem encEs_app (a b : List En) : encEs (a ++ b) = encEs a ++ encEs b := by simp [encEs]
theorem encEs_one (e : En) : encEs [e] = encE e := by simp [encEs]
theorem encEs_cons (e : En) (r : List En) : encEs (e :: r) = encE e ++ encEs r := by simp [encEs]

/-- the entry at a place, behind a key -/
def takeE (zs : List Int) (a : Nat) (p : ByteArray) : Except (Int × Int) (En × Nat) :=
  if (textOfU zs 32 (uintAt zs a)).2.2 ≠ 0 then .error (71, (a : Int))
  else if Op.bytesLess p.toList (textOfU zs 32 (uintAt zs a)).1.toList = false then .error (70, (a : Int))
  else match takeR zs (textOfU zs 32 (uintAt zs a)).2.1 with
    | .error q => .error (71, q.2)
    | .ok (v, n) => .ok (((textOfU zs 32 (uintAt zs a)).1, v), n)

/-- so many entries more -/
def rdE (zs : List Int) : Nat → List En → Nat → ByteArray → Nat → Except (Int × Int) (List En × Nat)
  | 0, es, a, _, _ => .ok (es, a)
  | n + 1, es, a, p, t => match takeE zs a p with
    | .error q => .error q
    | .ok (e, a') => if 32768 < t + entW e then .error (70, (a : Int)) else rdE zs n (es ++ [e]) a' e.1 (t + entW e)

/-- how many, and where the first one is -/
def startE (zs : List Int) : Except (Int × Int) (Nat × Nat) :=
  if zs.take 4 ≠ headE then .error (71, 0)
  else if (uintAt zs 4).2.2 ≠ 0 then .error (71, 4)
  else if 128 < (uintAt zs 4).1 then .error (70, 4)
  else .ok ((uintAt zs 4).1.toNat, (uintAt zs 4).2.1.toNat)

def decS (zs : List Int) : Except (Int × Int) (List En) :=
  match startE zs with
  | .error q => .error q
  | .ok (n, a) => match rdE zs n [] a ⟨#[]⟩ 0 with
    | .error q => .error q
    | .ok (es, a') => if a' < zs.length then .error (72, (a' : Int)) else .ok es

theorem take_bound {zs : List Int} (hl : ∀ n ∈ zs, 0 ≤ n ∧ n ≤ 255) {p : Int} {v : Vl} {n : Nat} (h : takeR zs p = .ok (v, n)) :
    ∃ a : Nat, p = a ∧ ∃ t, rdV zs 8 a 0 = .ok (v, n, t) ∧ Snd zs 8 a 0 v n t := by
  unfold takeR at h
  split at h
  · cases h
  · rename_i hp
    cases hv : rdV zs 8 p.toNat 0 with
    | error q => rw [hv] at h; cases h
    | ok q =>
      obtain ⟨v', a', t⟩ := q
      rw [hv] at h
      cases h
      exact ⟨p.toNat, by omega, t, hv, rdV_sound hl 8 _ _ _ _ _ hv (by omega)⟩

theorem right_of_snd {zs : List Int} {a n t : Nat} {v : Vl} (SN : Snd zs 8 a 0 v n t) : rightB v = true := by
  unfold rightB
  rw [SN.ok]
  have h1 := SN.wt
  have h2 := SN.most
  simp
  omega

/-- what is known of an entry that was read -/
structure SndE (zs : List Int) (a : Nat) (p : ByteArray) (e : En) (a' : Nat) : Prop where
  lt : a < a'
  le : a' ≤ zs.length
  ok : entB e = true
  fit : fitB e.2 = true
  less : Op.bytesLess p.toList e.1.toList = true
  enc : encE e = (zs.drop a).take (a' - a)

theorem less_pos {p s : ByteArray} (h : Op.bytesLess p.toList s.toList = true) : 1 ≤ s.size := by
  cases hs : s.toList with
  | nil => rw [hs] at h; cases hp : p.toList <;> rw [hp] at h <;> simp [Op.bytesLess] at h
  | cons c r =>
    have : s.toList.length = s.size := by rw [ByteArray.toList_eq]; simp
    rw [hs] at this
    simp at this
    omega

theorem takeE_sound {zs : List Int} (hl : ∀ n ∈ zs, 0 ≤ n ∧ n ≤ 255) {a : Nat} {p : ByteArray} {e : En} {a' : Nat} (h : takeE zs a p = .ok (e, a')) : SndE zs a p e a' := by
  unfold takeE at h
  by_cases h0 : (textOfU zs 32 (uintAt zs a)).2.2 ≠ 0
  · rw [if_pos h0] at h; cases h
  rw [if_neg h0] at h
  obtain ⟨b, b1, b2, b3, b4, b5⟩ := text_form zs 32 a hl (by simpa using h0)
  by_cases h1 : Op.bytesLess p.toList (textOfU zs 32 (uintAt zs a)).1.toList = false
  · rw [if_pos h1] at h; cases h
  rw [if_neg h1] at h
  rw [b3] at h
  cases ht : takeR zs (b : Int) with
  | error q => rw [ht] at h; cases h
  | ok q =>
    obtain ⟨v, n⟩ := q
    rw [ht] at h
    cases h
    obtain ⟨b', hb', t, _, SN⟩ := take_bound hl ht
    obtain rfl : b = b' := by omega
    have h1' : Op.bytesLess p.toList (textOfU zs 32 (uintAt zs a)).1.toList = true := by simpa using h1
    refine ⟨by have := SN.lt; omega, SN.le, ?_, SN.fit, h1', ?_⟩
    · unfold entB
      rw [right_of_snd SN]
      have := less_pos h1'
      simp
      omega
    · unfold encE
      dsimp only
      rw [b5, SN.enc, take_join _ _ _ _ (by omega) (by have := SN.lt; omega)]

theorem rdE_sound {zs : List Int} (hl : ∀ n ∈ zs, 0 ≤ n ∧ n ≤ 255) : ∀ (n : Nat) (es : List En) (a : Nat) (p : ByteArray) (t : Nat) (es' : List En) (a' : Nat), rdE zs n es a p t = .ok (es', a') → a ≤ zs.length → (∀ e ∈ es, entB e = true ∧ fitB e.2 = true) → entsW es = t → t ≤ 32768 → stepsE (keysE es) = true → (es ≠ [] → ∃ r, keysE es = r ++ [p]) →
    ∃ m : List En, es' = es ++ m ∧ m.length = n ∧ a ≤ a' ∧ a' ≤ zs.length ∧ encEs m = (zs.drop a).take (a' - a) ∧ (∀ e ∈ es', entB e = true ∧ fitB e.2 = true) ∧ entsW es' ≤ 32768 ∧ stepsE (keysE es') = true
  | 0, es, a, p, t, es', a', h, ha, hok, hw, ht, hs, _ => by
    simp only [rdE] at h
    cases h
    exact ⟨[], by simp, rfl, Nat.le_refl _, ha, by simp [encEs], hok, by omega, hs⟩
  | n + 1, es, a, p, t, es', a', h, ha, hok, hw, ht, hs, hp => by
    simp only [rdE] at h
    cases hk : takeE zs a p with
    | error q => rw [hk] at h; cases h
    | ok q =>
      obtain ⟨e, a1⟩ := q
      rw [hk] at h
      dsimp only at h
      by_cases h1 : 32768 < t + entW e
      · rw [if_pos h1] at h; cases h
      rw [if_neg h1] at h
      have S := takeE_sound hl hk
      obtain ⟨m, e1, e2, e3, e4, e5, e6, e7, e8⟩ := rdE_sound hl n (es ++ [e]) a1 e.1 (t + entW e) es' a' h S.le (by
        intro x hx
        rcases List.mem_append.1 hx with hx | hx
        · exact hok x hx
        · simp at hx; subst hx; exact ⟨S.ok, S.fit⟩) (by rw [entsW_app, hw]; simp [entsW]) (by omega) (by
        by_cases he : es = []
        · subst he; simp [keysE, stepsE]
        · obtain ⟨r, hr⟩ := hp he
          have := stepsE_snoc r p e.1 (by rw [← hr]; exact hs) S.less
          rw [← hr] at this
          simpa [keysE] using this) (fun _ => ⟨keysE es, by simp [keysE]⟩)
      refine ⟨e :: m, by rw [e1]; simp, by simp [e2], by have := S.lt; omega, e4, ?_, e6, e7, e8⟩
      rw [encEs_cons, S.enc, e5, take_join _ _ _ _ (Nat.le_of_lt S.lt) e3]

theorem start_form {zs : List Int} (hl : ∀ n ∈ zs, 0 ≤ n ∧ n ≤ 255) {n a : Nat} (h : startE zs = .ok (n, a)) : n ≤ 128 ∧ 4 < a ∧ a ≤ zs.length ∧ headE ++ encF 9 (n : Int) = zs.take a ∧ uintAt zs 4 = ((n : Int), (a : Int), 0) := by
  unfold startE at h
  by_cases h0 : zs.take 4 ≠ headE
  · rw [if_pos h0] at h; cases h
  rw [if_neg h0] at h
  by_cases h1 : (uintAt zs 4).2.2 ≠ 0
  · rw [if_pos h1] at h; cases h
  rw [if_neg h1] at h
  by_cases h2 : 128 < (uintAt zs 4).1
  · rw [if_pos h2] at h; cases h
  rw [if_neg h2] at h
  simp only [Except.ok.injEq, Prod.mk.injEq] at h
  obtain ⟨rfl, rfl⟩ := h
  have hk : rdCnt zs 0 4 0 1 = .ok ((uintAt zs 4).1.toNat, (uintAt zs 4).2.1.toNat) := by
    have hx := uint_max zs 4 hl
    unfold rdCnt
    rw [if_neg (by simpa using h1), if_neg (by simp; omega)]
    rfl
  obtain ⟨c1, c2, c3, c4, c5, _⟩ := cnt_form hl (by omega) (by omega) hk
  have h0' : zs.take 4 = headE := by simpa using h0
  refine ⟨by omega, c1, c2, ?_, c5⟩
  rw [c4, ← h0', ← List.take_append_drop 4 (zs.take (uintAt zs 4).2.1.toNat)]
  rw [List.take_take, Nat.min_eq_left (Nat.le_of_lt c1), List.drop_take]

theorem decS_sound {zs : List Int} (hl : ∀ n ∈ zs, 0 ≤ n ∧ n ≤ 255) {es : List En} (h : decS zs = .ok es) : rightE es = true ∧ encS es = zs ∧ ∀ e ∈ es, fitB e.2 = true := by
  unfold decS at h
  cases hs : startE zs with
  | error q => rw [hs] at h; cases h
  | ok q =>
    obtain ⟨n, a⟩ := q
    rw [hs] at h
    dsimp only at h
    obtain ⟨s1, s2, s3, s4, _⟩ := start_form hl hs
    cases hr : rdE zs n [] a ⟨#[]⟩ 0 with
    | error q => rw [hr] at h; cases h
    | ok q =>
      obtain ⟨es', a'⟩ := q
      rw [hr] at h
      dsimp only at h
      by_cases h1 : a' < zs.length
      · rw [if_pos h1] at h; cases h
      rw [if_neg h1] at h
      cases h
      obtain ⟨m, e1, e2, e3, e4, e5, e6, e7, e8⟩ := rdE_sound hl n [] a ⟨#[]⟩ 0 es a' hr s3 (by simp) (by simp [entsW]) (by omega) (by simp [keysE, stepsE]) (fun h => absurd rfl h)
      rw [List.nil_append] at e1
      subst e1
      refine ⟨?_, ?_, fun e he => (e6 e he).2⟩
      · unfold rightE
        rw [e8, List.all_eq_true.2 (fun e he => (e6 e he).1)]
        simp
        omega
      · unfold encS
        obtain rfl : a' = zs.length := by omega
        rw [e2, s4, e5]
        have e9 : (zs.drop a).take (zs.length - a) = zs.drop a := List.take_of_length_le (by rw [List.length_drop]; omega)
        rw [e9, List.take_append_drop]
end Go.Proofs.Ytjkladljhbcelaa

namespace Go.Proofs.Ytjkladljhbcelaa
open Go.RowKit

def In (zs : List Int) (p : Int × Int) : Prop := 0 ≤ p.2 ∧ p.2 ≤ (zs.length : Int)

theorem in_at {zs : List Int} {c : Int} {a : Nat} (h : a ≤ zs.length) : In zs (c, (a : Int)) := ⟨by dsimp only; omega, by dsimp only; omega⟩

theorem cnt_place {zs : List Int} {q a t k : Nat} {p : Int × Int} (ha : a ≤ zs.length) (hq : q ≤ zs.length) (h : rdCnt zs q a t k = .error p) : In zs p := by
  unfold rdCnt at h
  split at h
  · cases h; exact in_at ha
  · split at h
    · cases h; exact in_at hq
    · cases h

theorem key_place {zs : List Int} {l : Option ByteArray} {a t : Nat} {p : Int × Int} (ha : a ≤ zs.length) (h : rdKey zs l a t = .error p) : In zs p := by
  unfold rdKey at h
  split at h
  · cases h; exact in_at ha
  · split at h
    · cases h; exact in_at ha
    · split at h
      · cases h; exact in_at ha
      · cases h

def PlAt (zs : List Int) (f : Nat → Nat → Except (Int × Int) (Vl × Nat × Nat)) : Prop := ∀ a t p, a ≤ zs.length → t ≤ 2048 → f a t = .error p → In zs p

theorem arr_place {zs : List Int} {d : Nat} {f : Nat → Nat → Except (Int × Int) (Vl × Nat × Nat)} (hs : SndAt zs d f) (hf : PlAt zs f) : ∀ (n : Nat) (l : List Vl) (a t : Nat) (p : Int × Int), a ≤ zs.length → t ≤ 2048 → rdArr f n l a t = .error p → In zs p
  | 0, l, a, t, p, _, _, h => by simp only [rdArr] at h; cases h
  | n + 1, l, a, t, p, ha, ht, h => by
    simp only [rdArr] at h
    cases hv : f a t with
    | error e => rw [hv] at h; cases h; exact hf a t _ ha ht hv
    | ok q =>
      obtain ⟨v, a', t'⟩ := q
      rw [hv] at h
      have S := hs _ _ _ _ _ hv ht
      exact arr_place hs hf n _ a' t' p S.le S.most h

theorem rec_place {zs : List Int} (hl : ∀ n ∈ zs, 0 ≤ n ∧ n ≤ 255) {d : Nat} {f : Nat → Nat → Except (Int × Int) (Vl × Nat × Nat)} (hs : SndAt zs d f) (hf : PlAt zs f) : ∀ (n : Nat) (l : List Vl) (ks : List ByteArray) (a t : Nat) (p : Int × Int), a ≤ zs.length → t ≤ 2048 → rdRec zs f n l ks a t = .error p → In zs p
  | 0, l, ks, a, t, p, _, _, h => by simp only [rdRec] at h; cases h
  | n + 1, l, ks, a, t, p, ha, ht, h => by
    simp only [rdRec] at h
    cases hk : rdKey zs ks.getLast? a t with
    | error e => rw [hk] at h; cases h; exact key_place ha hk
    | ok q =>
      obtain ⟨s, a1, t1⟩ := q
      rw [hk] at h
      dsimp only at h
      obtain ⟨k1, k2, k3, k4, _⟩ := key_form hl hk
      cases hv : f a1 t1 with
      | error e => rw [hv] at h; cases h; exact hf a1 t1 _ k2 k4 hv
      | ok q =>
        obtain ⟨v, a', t'⟩ := q
        rw [hv] at h
        have S := hs _ _ _ _ _ hv k4
        exact rec_place hl hs hf n _ _ a' t' p S.le S.most h

theorem rdV_place {zs : List Int} (hl : ∀ n ∈ zs, 0 ≤ n ∧ n ≤ 255) : ∀ d, PlAt zs (rdV zs d)
  | 0, a, t, p, ha, ht, h => by
    simp only [rdV] at h
    split at h
    · cases h; exact in_at ha
    · split at h <;> cases h <;> exact in_at ha
  | d + 1, a, t, p, ha, ht, h => by
    simp only [rdV] at h
    split at h
    · cases h; exact in_at ha
    · rename_i c hc
      have ha1 : a + 1 ≤ zs.length := (List.getElem?_eq_some_iff.1 hc).1
      split at h
      · cases h; exact in_at ha
      split at h
      · cases h; exact in_at ha
      rename_i _ ht1
      split at h
      · cases h
      split at h
      · cases h
      split at h
      · unfold rdNum at h
        split at h
        · cases h; exact in_at ha1
        · cases h
      split at h
      · unfold rdTxt at h
        split at h
        · cases h; exact in_at ha
        · split at h
          · cases h; exact in_at ha1
          · cases h
      split at h
      · unfold rdAll at h
        cases hc : rdCnt zs a (a + 1) (t + 1) 1 with
        | error e => rw [hc] at h; cases h; exact cnt_place ha1 ha hc
        | ok q =>
          obtain ⟨n, a1⟩ := q
          rw [hc] at h
          dsimp only at h
          obtain ⟨c1, c2, _⟩ := cnt_form hl (by omega) (by omega) hc
          cases hr : rdArr (rdV zs d) n [] a1 (t + 1) with
          | error e => rw [hr] at h; cases h; exact arr_place (rdV_sound hl d) (rdV_place hl d) _ _ _ _ _ c2 (by omega) hr
          | ok q => rw [hr] at h; cases h
      split at h
      · unfold rdPairs at h
        cases hc : rdCnt zs a (a + 1) (t + 1) 2 with
        | error e => rw [hc] at h; cases h; exact cnt_place ha1 ha hc
        | ok q =>
          obtain ⟨n, a1⟩ := q
          rw [hc] at h
          dsimp only at h
          obtain ⟨c1, c2, _⟩ := cnt_form hl (by omega) (by omega) hc
          cases hr : rdRec zs (rdV zs d) n [] [] a1 (t + 1) with
          | error e => rw [hr] at h; cases h; exact rec_place hl (rdV_sound hl d) (rdV_place hl d) _ _ _ _ _ _ c2 (by omega) hr
          | ok q => rw [hr] at h; cases h
      · cases h

theorem takeR_place {zs : List Int} (hl : ∀ n ∈ zs, 0 ≤ n ∧ n ≤ 255) {p : Int} {q : Int × Int} (h : takeR zs p = .error q) : In zs q := by
  unfold takeR at h
  split at h
  · cases h; exact ⟨by omega, by omega⟩
  · cases hv : rdV zs 8 p.toNat 0 with
    | error e => rw [hv] at h; cases h; exact rdV_place hl 8 _ _ _ (by omega) (by omega) hv
    | ok e => rw [hv] at h; cases h

theorem takeE_place {zs : List Int} (hl : ∀ n ∈ zs, 0 ≤ n ∧ n ≤ 255) {a : Nat} {p : ByteArray} {q : Int × Int} (ha : a ≤ zs.length) (h : takeE zs a p = .error q) : In zs q := by
  unfold takeE at h
  split at h
  · cases h; exact in_at ha
  · split at h
    · cases h; exact in_at ha
    · split at h
      · rename_i hT
        cases h
        exact ⟨(takeR_place hl hT).1, (takeR_place hl hT).2⟩
      · cases h

theorem rdE_place {zs : List Int} (hl : ∀ n ∈ zs, 0 ≤ n ∧ n ≤ 255) : ∀ (n : Nat) (es : List En) (a : Nat) (p : ByteArray) (t : Nat) (q : Int × Int), a ≤ zs.length → rdE zs n es a p t = .error q → In zs q
  | 0, es, a, p, t, q, _, h => by simp only [rdE] at h; cases h
  | n + 1, es, a, p, t, q, ha, h => by
    simp only [rdE] at h
    cases hk : takeE zs a p with
    | error e => rw [hk] at h; cases h; exact takeE_place hl ha hk
    | ok r =>
      obtain ⟨e, a1⟩ := r
      rw [hk] at h
      dsimp only at h
      split at h
      · cases h; exact in_at ha
      · exact rdE_place hl n _ a1 _ _ q (takeE_sound hl hk).le h

theorem decS_place {zs : List Int} (hl : ∀ n ∈ zs, 0 ≤ n ∧ n ≤ 255) {q : Int × Int} (h : decS zs = .error q) : In zs q := by
  unfold decS at h
  cases hs : startE zs with
  | error e =>
    rw [hs] at h
    cases h
    unfold startE at hs
    split at hs
    · cases hs; exact ⟨by omega, by omega⟩
    · rename_i h4
      have h5 : zs.take 4 = headE := by simpa using h4
      have h6 : 4 ≤ zs.length := by have := congrArg List.length h5; rw [List.length_take] at this; simp [headE] at this; omega
      split at hs
      · cases hs; exact ⟨by dsimp only; omega, by dsimp only; omega⟩
      · split at hs
        · cases hs; exact ⟨by dsimp only; omega, by dsimp only; omega⟩
        · cases hs
  | ok e =>
    obtain ⟨n, a⟩ := e
    rw [hs] at h
    dsimp only at h
    obtain ⟨_, _, s3, _⟩ := start_form hl hs
    cases hr : rdE zs n [] a ⟨#[]⟩ 0 with
    | error e => rw [hr] at h; cases h; exact rdE_place hl n _ a _ _ _ s3 hr
    | ok e =>
      obtain ⟨es, a'⟩ := e
      rw [hr] at h
      dsimp only at h
      split at h
      · cases h; exact in_at (by omega)
      · cases h
end Go.Proofs.Ytjkladljhbcelaa

namespace Go.Proofs.Ytjkladljhbcelaa
open Go.RowKit

/-- the bytes of the first entries, how many there are ahead -/
def outE (es : List En) (n i : Nat) : List Int := headE ++ encF 9 (n : Int) ++ encEs (es.take i)

theorem outE_next (es : List En) (n i : Nat) (s : ByteArray) (v : Vl) (h : es[i]? = some (s, v)) : outE es n (i + 1) = outE es n i ++ (encF 9 (s.size : Int) ++ nums s) ++ wenc v := by
  obtain ⟨hi, he⟩ := List.getElem?_eq_some_iff.1 h
  unfold outE
  rw [List.take_succ_eq_append_getElem hi, encEs_app, he, encEs_one]
  simp [encE, tx, List.append_assoc]

theorem right_parts {es : List En} (h : rightE es = true) : es.length ≤ 128 ∧ stepsE (keysE es) = true ∧ (∀ e ∈ es, entB e = true) ∧ entsW es ≤ 32768 := by
  unfold rightE at h
  simp only [Bool.and_eq_true, decide_eq_true_eq, List.all_eq_true] at h
  exact ⟨h.1.1.1, h.1.1.2, h.1.2, h.2⟩

theorem ent_parts {e : En} (h : entB e = true) : 1 ≤ e.1.size ∧ e.1.size ≤ 32 ∧ rightB e.2 = true := by
  unfold entB at h
  simp only [Bool.and_eq_true, decide_eq_true_eq] at h
  exact ⟨h.1.1, h.1.2, h.2⟩

theorem encE_len {e : En} (h : entB e = true) : (encE e).length ≤ 43100 := by
  obtain ⟨h1, h2, h3⟩ := ent_parts h
  have := tx_len e.1
  have := wenc_len e.2
  have := (right_wt h3).2
  unfold encE
  rw [List.length_append]
  omega

theorem encEs_len : ∀ (es : List En), (∀ e ∈ es, entB e = true) → (encEs es).length ≤ es.length * 43100
  | [], _ => by simp [encEs]
  | e :: r, h => by
    have h1 := encE_len (h e List.mem_cons_self)
    have h2 := encEs_len r (fun x hx => h x (List.mem_cons_of_mem _ hx))
    rw [encEs_cons, List.length_append, List.length_cons]
    omega

theorem outE_len {es : List En} (h : ∀ e ∈ es, entB e = true) (n i : Nat) : (outE es n i).length ≤ 14 + i * 43100 := by
  have h1 := encEs_len (es.take i) (fun e he => h e (List.mem_of_mem_take he))
  have h2 := encF_len 9 (n : Int)
  have h3 : (es.take i).length ≤ i := by rw [List.length_take]; omega
  unfold outE headE
  rw [List.length_append, List.length_append]
  simp only [List.length_cons, List.length_nil]
  have := Nat.mul_le_mul_right 43100 h3
  omega
end Go.Proofs.Ytjkladljhbcelaa

namespace Go.Proofs.Ytjkladljhbcelaa
open Go.RowKit

def codeS (es : List En) : Int := if rightE es = true then 0 else 70
def bytesS (es : List En) : List Int := if rightE es = true then encS es else []

theorem rowKeep {w w' : World} {ao : Option Addr} {len cap : Nat} {zs : List Int} (h : Row8 w ao len cap zs) (hb : ∀ ad, ao = some ad → w'.heap[ad.block]? = w.heap[ad.block]?) : Row8 w' ao len cap zs := by
  refine ⟨h.length, h.none, fun ad ha j u hj => ?_, h.small, h.le⟩
  have e : w'.cell? (ad.add j) = w.cell? (ad.add j) := World.cell?_of_block (by rw [block_add]; exact hb ad ha)
  rw [e]
  exact h.cells ad ha j u hj

/-- append onto a full row that is not the call's alone -/
theorem wpl_grow {w : World} {ops : Array Oper} {rest : List Oper} {o : Oper} {a : Act} {Q : Exit → Act → World → Prop} (hgd : o.guard = none) (sl x : Operand)
    (ho : o.op = .call { callee := .builtin .append, args := #[sl, x], argTypes := #[22, 22] })
    (g n : Nat) (xs : List Int) (hs : a.eval sl = .slice (some ⟨g, 0, none⟩) n n) (hc : Row8 w (some ⟨g, 0, none⟩) n n xs)
    (ad : Addr) (m c : Nat) (rs : List Int) (hx : a.eval x = .slice (some ad) m c) (hr : Row8 w (some ad) m c rs) (hm : 0 < m)
    (hbytes : n + m ≤ 140737488355328)
    (h : ∀ v' w', Hid (w'.ownsRow w.heap.size 5 1 v' (n + m) ((xs ++ rs).map (Value.int .u8)) ∧ Below w.heap.size w w') → wpList Try.prog ops Q rest (a.put o.dst v') w') :
    wpList Try.prog ops Q (o :: rest) a w := by
  obtain ⟨i0, hi, hz0, hz1, hz2⟩ := info_parts info5
  have hxl : (xs.map (Value.int .u8)).length = n := by rw [List.length_map]; exact hc.length
  have hrl : (rs.map (Value.int .u8)).length = m := by rw [List.length_map]; exact hr.length
  refine wpList_plain hgd fun K hK => ?_
  have hrun := run_append_grow (P := Try.prog) w 22 o.type 5 i0 (.int .u8 0) Try.underlying22 hi hz0 ⟨g, 0, none⟩ n n (xs.map (Value.int .u8)) (by rw [hz1, hxl, Nat.mul_one]) (hc.cells _ rfl) ad m c (rs.map (Value.int .u8)) (by rw [hz1, hrl, Nat.mul_one]) (hr.cells _ rfl) (by omega) (by omega) (by have := next_far (need := n + m) (old := n) (by omega); rw [hz2]; omega)
  unfold Oper.wp
  simp only [execOp, ho, resolve, invoke, builtin, Sem.run_bind, Sem.run_pure, Result.andThen_ok, List.map_toArray, List.map_cons, List.map_nil, hs, hx, hrun]
  refine hK _ _ (h _ _ ⟨?_, (Below.refl _ _).grown (made_grown w _ _ none) (Nat.le_refl _) (by simp)⟩)
  exact made8 w w.heap.size (n + m) _ _ _ (by simp) (by rw [List.length_map, List.length_append, hc.length, hr.length]) (grownCap_ge w (n + m) n 5) (grownCap_le_maxLen w (n + m) n 5 (by unfold maxLen; omega)) (Nat.le_refl _)

theorem head_row (u : World) (f : Nat × Nat) : Row8 (u.alloc (.cells #[.int .u8 83, .int .u8 83, .int .u8 84, .int .u8 49] 5 f)) (some ⟨u.heap.size, 0, none⟩) 4 4 headE ∧ Below u.heap.size u (u.alloc (.cells #[.int .u8 83, .int .u8 83, .int .u8 84, .int .u8 49] 5 f)) := by
  refine ⟨⟨rfl, (fun e => by cases e), fun ad ha j v hj => ?_, (by intro n hn; simp [headE] at hn; omega), Nat.le_refl _⟩, (Below.refl _ _).alloc (Nat.le_refl _) _⟩
  cases ha
  have hadd : (⟨u.heap.size, 0, none⟩ : Addr).add j = ⟨u.heap.size, j, none⟩ := by unfold Addr.add; split <;> simp_all
  rw [hadd, cell_of_row _ u.heap.size j _ 5 f (heap_alloc_new u _)]
  rw [← hj]
  simp [headE]

theorem row8_ownS {w : World} {base : Nat} {v : Value} {zs : List Int} (h : w.ownsRow base 5 1 v zs.length (zs.map (Value.int .u8))) (hs : ∀ c ∈ zs, 0 ≤ c ∧ c ≤ 255) : ∃ ao cap, v = .slice ao zs.length cap ∧ Row8 w ao zs.length cap zs ∧ cap ≤ maxLen := by
  rcases h.2 with ⟨rfl, h0⟩ | ⟨g, cap, cur, rfl, _, _, hnc, hcm, _⟩
  · have : zs = [] := List.eq_nil_of_length_eq_zero h0
    subst this
    exact ⟨none, 0, rfl, nilRow w, by unfold maxLen; omega⟩
  · exact ⟨_, cap, rfl, Row8.own h hs, hcm⟩

theorem encS_small {es : List En} (h : ∀ e ∈ es, entB e = true) (hf : ∀ e ∈ es, fitB e.2 = true) (hn : es.length ≤ 128) : ∀ c ∈ encS es, 0 ≤ c ∧ c ≤ 255 := by
  intro c hc
  unfold encS at hc
  rcases List.mem_append.1 hc with hc | hc
  · rcases List.mem_append.1 hc with hc | hc
    · simp [headE] at hc
      omega
    · exact encF_bytes 9 _ (by omega) (by omega) c hc
  · unfold encEs at hc
    obtain ⟨e, he, hc⟩ := List.mem_flatMap.1 hc
    obtain ⟨q1, q2, q3⟩ := ent_parts (h e he)
    unfold encE at hc
    rcases List.mem_append.1 hc with hc | hc
    · exact tx_small e.1 (by omega) c hc
    · exact wenc_small e.2 8 (right_wt q3).1 (hf e he) c hc

set_option maxRecDepth 100000 in
set_option maxHeartbeats 1000000 in
theorem encodeS_any (es : List En) (al : Option Addr) (n cl B : Nat) (w : World) (hn : es.length = n) (h : IsE w (fun b => b < B) es al cl) (hB : B ≤ w.heap.size) :
    Calls Try.prog 9 #[.slice al n cl] w fun e w' => ∃ (ao : Option Addr) (len cap : Nat), e = .returned (.tuple #[.slice ao len cap, .int .i64 (codeS es)]) ∧ Row8 w' ao len cap (bytesS es) ∧ Below w.heap.size w w' ∧ (∀ a, ao = some a → w.heap.size ≤ a.block) ∧ cap ≤ maxLen := by
  have hl := h.len
  rw [hn] at hl
  have CR := hide (rightE_any es al n cl B w hn h hB)
  have HV : Hid (∀ u, Below w.heap.size w u → IsE u (fun b => b < B) es al cl) := hide (fun u hu => h.later (hu.mono hB))
  have HN := hide hn
  cases hR : rightE es with
  | false =>
    rw [hR] at CR
    have h1 : codeS es = 70 := by unfold codeS; rw [hR]; rfl
    have h2 : bytesS es = [] := by unfold bytesS; rw [hR]; rfl
    rw [h1, h2]
    clear hR h1 h2 hn h
    go_enter Try.func9, Try.ntmps9
    go_wp2_with fail
    refine (unhide CR).mono ?_
    rintro e u ⟨rfl, b1⟩
    have B1 := hide b1
    clear b1 CR
    go_wp2_with fail
    go_ret2
    exact ⟨none, 0, 0, rfl, nilRow _, unhide B1, (fun a e => by cases e), by unfold maxLen; omega⟩
  | true =>
    rw [hR] at CR
    have h1 : codeS es = 0 := by unfold codeS; rw [hR]; rfl
    have h2 : bytesS es = encS es := by unfold bytesS; rw [hR]; rfl
    rw [h1, h2]
    obtain ⟨r1, r2, r3, r4⟩ := right_parts hR
    rw [hn] at r1
    have H3 := hide r3
    have hF := h.fit
    have H4 := hide hF
    have hlen := fun i => outE_len r3 n i
    clear hR h1 h2 hn h r2 r3 r4 hF
    have HLE := hide hlen
    clear hlen
    go_enter Try.func9, Try.ntmps9
    go_wp2_with fail
    refine (unhide CR).mono ?_
    rintro e u ⟨rfl, b1⟩
    have B1 := hide b1
    clear b1 CR
    have i1 : IntKind.u64.wrap (n : Int) = (n : Int) := by rw [IntKind.wrap_u64]; omega
    have kc := fun (w : World) (C : Array Value) (n c : Nat) => Lib.run_convert_bytes_const (P := Try.prog) w 22 5 C n c Try.underlying22 Try.underlying5
    go_wp2_with fail
    clear kc
    obtain ⟨R1, b2⟩ := head_row u (4, 5)
    obtain ⟨w1, hw1⟩ : ∃ w1, u.alloc (.cells #[.int .u8 83, .int .u8 83, .int .u8 84, .int .u8 49] 5 (4, 5)) = w1 := ⟨_, rfl⟩
    rw [hw1] at R1 b2 ⊢
    obtain ⟨g, hg⟩ : ∃ g, u.heap.size = g := ⟨_, rfl⟩
    rw [hg] at R1 ⊢
    have X1 := hide ((unhide B1).trans (b2.mono (unhide B1).size))
    have HR1 := hide R1
    have hw0 : w.heap.size ≤ w1.heap.size := (unhide X1).size
    clear hw1 hg R1 b2 B1
    refine (putUint_any none 0 0 (n : Int) [] w1 (nilRow _) (by omega) (by omega) (by omega)).mono ?_
    rintro e w2 ⟨rfl, o2, b3⟩
    simp only [Nat.zero_add, List.nil_append] at o2 ⊢
    have hel := encF_len 9 (n : Int)
    have R2 := hide (Row8.own o2 (encF_bytes 9 (n : Int) (by omega) (by omega)))
    obtain ⟨eL, heL⟩ : ∃ eL, (encF 9 (n : Int)).length = eL := ⟨_, rfl⟩
    rw [heL] at hel R2 ⊢
    have HR2 := hide ((unhide HR1).later b3)
    have X2 := hide ((unhide X1).trans (b3.mono (unhide X1).size))
    have hg1 : w.heap.size ≤ w2.heap.size := (unhide X2).size
    have HEL := hide heL
    clear o2 b3 heL HR1 X1
    go_wp2_with (first | (at_builtin; refine wpl_grow rfl (.tmp 13) (.tmp 17) rfl g 4 headE rfl (unhide HR2) ⟨w1.heap.size, 0, none⟩ eL 10 (encF 9 (n : Int)) rfl (unhide R2) (by omega) (by omega) ?_; intro v3 w3 o3))
    have H3' : Hid (w3.ownsRow w.heap.size 5 1 v3 (outE es n 0).length ((outE es n 0).map (Value.int .u8)) ∧ Below w.heap.size w w3) := hide (by
      obtain ⟨q1, q2⟩ := unhide o3
      refine ⟨?_, (unhide X2).trans (q2.mono hg1)⟩
      have e : outE es n 0 = headE ++ encF 9 (n : Int) := by simp [outE, encEs]
      rw [e, List.length_append, unhide HEL]
      exact own_low q1 hg1)
    clear o3 HR2 R2 X2 HEL hel hg1 hw0
    go_loopw [4, 21] (fun x y wr => ∃ (i : Nat), y = .int .i64 (i : Int) ∧ Hid (i ≤ n) ∧ Hid (wr.ownsRow w.heap.size 5 1 x (outE es n i).length ((outE es n i).map (Value.int .u8)) ∧ Below w.heap.size w wr)) (fun _ y _ => n - (intOf y).toNat)
    case atStart => exact ⟨0, rfl, hide (by omega), H3'⟩
    case round =>
      clear H3'
      obtain ⟨i, rfl, HI, HX⟩ := hrel
      by_cases hlt : i < n
      · have j1 : (i : Int) < (n : Int) := by omega
        have HI1 : Hid (i + 1 ≤ n) := hide (by omega)
        obtain ⟨e, he⟩ : ∃ e, es[i]? = some e := ⟨_, List.getElem?_eq_getElem (by have := unhide HN; omega)⟩
        have hv := unhide HV wr (unhide HX).2
        obtain ⟨a, x0, x1, x2, al', ak', ll', m', cl', ck', rfl, _, hsz, hc, hp⟩ := hv.elem i e he
        obtain ⟨s, hs⟩ : ∃ s, e.1 = s := ⟨_, rfl⟩
        obtain ⟨v, hvv⟩ : ∃ v, e.2 = v := ⟨_, rfl⟩
        obtain rfl : e = (s, v) := by rw [← hs, ← hvv]
        clear hs hvv hv
        dsimp only at hsz hc hp
        have c0 : wr.cell? (a.add (i * 6)) = some (.string s) := hc 0 _ rfl
        have c1 : wr.cell? ⟨(a.add (i * 6)).block, (a.add (i * 6)).off + 1, none⟩ = some (.int .i64 x0) := hc 1 _ rfl
        have c2 : wr.cell? ⟨(a.add (i * 6)).block, (a.add (i * 6)).off + 2, none⟩ = some (.int .i64 x1) := hc 2 _ rfl
        have c3 : wr.cell? ⟨(a.add (i * 6)).block, (a.add (i * 6)).off + 3, none⟩ = some (.string x2) := hc 3 _ rfl
        have c4 : wr.cell? ⟨(a.add (i * 6)).block, (a.add (i * 6)).off + 4, none⟩ = some (.slice al' ll' cl') := hc 4 _ rfl
        have c5 : wr.cell? ⟨(a.add (i * 6)).block, (a.add (i * 6)).off + 5, none⟩ = some (.slice ak' m' ck') := hc 5 _ rfl
        obtain ⟨g6, hg6⟩ : ∃ g6, wr.heap.size = g6 := ⟨_, rfl⟩
        have BX := Box6.mk' wr (.string s) (.int .i64 x0) (.int .i64 x1) (.string x2) (.slice al' ll' cl') (.slice ak' m' ck')
        obtain ⟨w5, hw5⟩ : ∃ w5, wr.alloc (.cells #[.string s, .int .i64 x0, .int .i64 x1, .string x2, .slice al' ll' cl', .slice ak' m' ck'] 38) = w5 := ⟨_, rfl⟩
        rw [hw5] at BX
        obtain ⟨d0, d1, d2, d3, d4, d5⟩ := row_cell6 (by have := BX.row; rw [hg6] at this; exact this)
        have hBr : B ≤ wr.heap.size := Nat.le_trans hB (unhide HX).2.size
        have HP : Hid (∀ u, Below w5.heap.size w5 u → IsV u B v (.agg #[.int .i64 x0, .int .i64 x1, .string x2, .slice al' ll' cl', .slice ak' m' ck']) ∧ u.heap[g6]? = some (.cells #[.string s, .int .i64 x0, .int .i64 x1, .string x2, .slice al' ll' cl', .slice ak' m' ck'] 38 (0, 0)) ∧ B ≤ u.heap.size ∧ Below wr.heap.size wr u) := hide (fun u hu => by
          have hz := BX.size
          have b5 : Below wr.heap.size wr u := BX.below.trans (hu.mono (by omega))
          refine ⟨IsV.mono (b5.mono hBr) hp, (hu.block g6 (by omega)).trans (by rw [← hg6]; exact BX.row), Nat.le_trans hBr b5.size, b5⟩)
        have HZ5 : Hid (wr.heap.size < w5.heap.size) := hide (by have := BX.size; omega)
        have HE := hide he
        obtain ⟨q1, q2, q3⟩ := ent_parts (unhide H3 _ (List.mem_of_getElem? he))
        dsimp only at q1 q2 q3
        have CE := hide (encode_any v _ B w5 (unhide HP w5 (Below.refl _ _)).1 (unhide HP w5 (Below.refl _ _)).2.2.1)
        have k1 : codeR v = 0 := by simp [codeR, q3]
        have k2 : wenc0R v = wenc v := by simp [wenc0R, q3]
        rw [k1, k2] at CE
        have hwl : (wenc v).length ≤ 43008 := by have := wenc_len v; have := (right_wt q3).2; omega
        have hlo := unhide HLE i
        obtain ⟨L, hL⟩ : ∃ L, (outE es n i).length = L := ⟨_, rfl⟩
        rw [hL] at hlo HX
        have HL := hide hL
        clear hc hp BX hBr he k1 k2 hL
        go_wp2_with fail
        refine (unhide CE).mono ?_
        rintro e u6 ⟨ao6, l6, p6, rfl, r6, b6, n6, m6⟩
        have hl6 := r6.length
        obtain ⟨f0, f1, f2, f3, f4, f5⟩ := row_cell6 (unhide HP u6 b6).2.1
        have H6 := hide (And.intro r6 (And.intro b6 n6))
        clear r6 b6 n6 m6 CE d0 d1 d2 d3 d4 d5 c0 c1 c2 c3 c4 c5
        go_wp2_with fail
        refine (putText_any none 0 0 s [] u6 (nilRow _) (by omega)).mono ?_
        rintro e u7 ⟨g7, c7, hg7, rfl, o7, b7⟩
        simp only [Nat.zero_add, List.nil_append] at o7 ⊢
        have R7 := hide (Row8.own o7 (tx_small s (by omega)))
        have htl : (encF 9 (s.size : Int)).length + s.size ≤ 42 := by have := tx_len s; unfold tx at this; rw [List.length_append, nums_len] at this; omega
        obtain ⟨t7, ht7⟩ : ∃ t7, (encF 9 (s.size : Int)).length + s.size = t7 := ⟨_, rfl⟩
        rw [ht7] at R7 htl ⊢
        have X7 : Hid (Below wr.heap.size wr u7) := hide (by
          have z := unhide HP u6 (unhide H6).2.1
          exact z.2.2.2.trans (b7.mono z.2.2.2.size))
        have O7 := hide (own_below (unhide HX).1 (unhide X7))
        have hw7 : w.heap.size ≤ u7.heap.size := Nat.le_trans (unhide HX).2.size (unhide X7).size
        have HR8 : Hid (∀ (v8 : Value) (w8 : World), Grew u7 w8 u4 v8 → Row8 w8 ao6 l6 p6 (wenc v) ∧ w.heap.size ≤ w8.heap.size) := hide (fun v8 w8 hgr => by
          refine ⟨rowKeep ((unhide H6).1.later b7) (fun ad ha => ?_), Nat.le_trans hw7 hgr.grown.size⟩
          have hn := (unhide H6).2.2 ad ha
          have hz5 := unhide HZ5
          have hb := (unhide H6).1.block ad ha (by have := wenc_pos v 8 (right_wt q3).1; omega)
          refine hgr.far (Nat.lt_of_lt_of_le hb b7.size) (fun e => ?_)
          have := ((unhide HX).1.lt ad.block e.symm).2
          omega)
        clear o7 b7 hg7 f0 f1 f2 f3 f4 f5
        go_wp2_with (first | (at_builtin; refine wpl_app rfl (.tmp 31) (.tmp 34) rfl w.heap.size L u4 (outE es n i) rfl (unhide O7) (some ⟨g7, 0, none⟩) t7 c7 (encF 9 (s.size : Int) ++ nums s) rfl (unhide R7) (by omega) hw7 ?_; intro v8 w8 o8) | (at_builtin; refine wpl_app rfl (.tmp 35) (.tmp 36) rfl w.heap.size (L + t7) v8 _ rfl (unhide o8).1 ao6 l6 p6 (wenc v) rfl (unhide HR8 v8 w8 (unhide o8).2).1 (by omega) (unhide HR8 v8 w8 (unhide o8).2).2 ?_; intro v9 w9 o9))
        have HR' : Hid (w9.ownsRow w.heap.size 5 1 v9 (outE es n (i + 1)).length ((outE es n (i + 1)).map (Value.int .u8)) ∧ Below w.heap.size w w9) := hide (by
          obtain ⟨y1, y2⟩ := unhide o9
          rw [outE_next es n i s v (unhide HE)]
          have e : (outE es n i ++ (encF 9 (s.size : Int) ++ nums s) ++ wenc v).length = L + t7 + l6 := by
            rw [List.length_append, List.length_append, List.length_append, nums_len, unhide HL, hl6]
            omega
          rw [e]
          refine ⟨y1, ?_⟩
          have g8 := (unhide o8).2.below (unhide O7) hw7
          have g9 := y2.below (unhide o8).1 (unhide HR8 v8 w8 (unhide o8).2).2
          exact (unhide HX).2.trans (((unhide X7).mono (unhide HX).2.size).trans (g8.trans g9)))
        go_roundw
        case rel => exact ⟨i + 1, by go_num, HI1, HR'⟩
        case measure => have := unhide HI1; simp [intOf]; omega
      · have j1 : ¬ (i : Int) < (n : Int) := by omega
        have hin : i = n := by have := unhide HI; omega
        have hfin : outE es n i = encS es := by unfold outE encS; rw [hin, List.take_of_length_le (by have := unhide HN; omega), unhide HN]
        have HS : Hid (∀ c ∈ encS es, 0 ≤ c ∧ c ≤ 255) := hide (encS_small (unhide H3) (unhide H4) (by have := unhide HN; omega))
        rw [hfin] at HX
        obtain ⟨ao, cap, rfl, q1, q2⟩ := row8_ownS (unhide HX).1 (unhide HS)
        have HQ := hide (And.intro q1 (And.intro q2 (fun a (ha : ao = some a) => ((unhide HX).1.lt a.block (by rw [ha]; rfl)).1)))
        clear q1 q2 hfin hin
        obtain ⟨L, hL⟩ : ∃ L, (encS es).length = L := ⟨_, rfl⟩
        rw [hL] at HX HQ ⊢
        go_wp2_with fail
        go_ret2
        exact ⟨ao, L, cap, rfl, (unhide HQ).1, (unhide HX).2, (unhide HQ).2.2, (unhide HQ).2.1⟩
end Go.Proofs.Ytjkladljhbcelaa
