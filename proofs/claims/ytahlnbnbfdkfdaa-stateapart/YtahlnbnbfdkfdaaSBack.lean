/-
  A right row's bytes are read back, and begin no other row's; no conditions.
-/
import Derived.Test.YtahlnbnbfdkfdaaS2
namespace Go.Proofs.Ytahlnbnbfdkfdaa
open Go.RowKit

theorem less_nil {s : ByteArray} (h : 1 ≤ s.size) : Op.bytesLess (⟨#[]⟩ : ByteArray).toList s.toList = true := by
  have h1 : s.toList.length = s.size := by rw [ByteArray.toList_eq]; simp
  have h2 : (⟨#[]⟩ : ByteArray).toList = [] := by rw [ByteArray.toList_eq]
  rw [h2]
  cases hs : s.toList with
  | nil => rw [hs] at h1; simp at h1; omega
  | cons c r => simp [Op.bytesLess]

theorem takeE_back {zs rest : List Int} {a : Nat} {e : En} {p : ByteArray} (hok : entB e = true) (hf : fitB e.2 = true) (hl : Op.bytesLess p.toList e.1.toList = true) (h : zs.drop a = encE e ++ rest) : takeE zs a p = .ok (e, a + (encE e).length) := by
  obtain ⟨h1, h2, h3⟩ := ent_parts hok
  have hd : zs.drop a = tx e.1 ++ (wenc e.2 ++ rest) := by rw [h]; unfold encE; rw [List.append_assoc]
  have ht := text_at (most := 32) (by omega) (by omega) hd
  have hd2 := drop_more hd
  have hz : zs = zs.take (a + (tx e.1).length) ++ wenc e.2 ++ rest := by rw [List.append_assoc, ← hd2, List.take_append_drop]
  have hlen : (zs.take (a + (tx e.1).length)).length = a + (tx e.1).length := by
    have := drop_le hd (tx_pos e.1)
    rw [List.length_take]
    omega
  have hk := take_back h3 hf (zs.take (a + (tx e.1).length)) rest
  rw [← hz, hlen] at hk
  unfold takeE
  rw [ht]
  dsimp only
  rw [if_neg (by simp), if_neg (by rw [hl]; simp), hk]
  dsimp only
  unfold encE
  rw [List.length_append, Nat.add_assoc]

theorem entsW_le_app (a b : List En) : entsW a ≤ entsW (a ++ b) := by rw [entsW_app]; omega

theorem rdE_back {zs rest : List Int} : ∀ (m es : List En) (a : Nat) (p : ByteArray) (t : Nat), (∀ e ∈ m, entB e = true ∧ fitB e.2 = true) → t + entsW m ≤ 32768 → stepsE (p :: keysE m) = true → zs.drop a = encEs m ++ rest → rdE zs m.length es a p t = .ok (es ++ m, a + (encEs m).length)
  | [], es, a, p, t, _, _, _, h => by simp [rdE, encEs]
  | e :: m, es, a, p, t, hok, hw, hs, h => by
    rw [encEs_cons, List.append_assoc] at h
    have ho := hok e List.mem_cons_self
    have hs' : Op.bytesLess p.toList e.1.toList = true ∧ stepsE (e.1 :: keysE m) = true := by
      simp only [keysE, List.map_cons, stepsE, Bool.and_eq_true] at hs
      exact hs
    have hk := takeE_back ho.1 ho.2 hs'.1 h
    simp only [entsW] at hw
    simp only [List.length_cons, rdE, hk]
    rw [if_neg (by omega)]
    rw [rdE_back m (es ++ [e]) (a + (encE e).length) e.1 (t + entW e) (fun x hx => hok x (List.mem_cons_of_mem _ hx)) (by omega) hs'.2 (drop_more h)]
    rw [encEs_cons, List.length_append]
    simp
    omega

theorem decS_back {es : List En} (h : rightE es = true) (hf : ∀ e ∈ es, fitB e.2 = true) : decS (encS es) = .ok es := by
  obtain ⟨r1, r2, r3, r4⟩ := right_parts h
  have hd4 : (encS es).drop 4 = encF 9 (es.length : Int) ++ encEs es := by unfold encS; rw [List.append_assoc]; exact List.drop_left' rfl
  have ht4 : (encS es).take 4 = headE := by unfold encS; rw [List.append_assoc]; exact List.take_left' rfl
  have hl4 : 4 ≤ (encS es).length := by unfold encS headE; simp
  have hu := uint_at hl4 (by omega) (by omega) hd4
  have hst : startE (encS es) = .ok (es.length, 4 + (encF 9 (es.length : Int)).length) := by
    unfold startE
    rw [if_neg (by simpa using ht4)]
    have hu' : uintAt (encS es) 4 = ((es.length : Int), ((4 + (encF 9 (es.length : Int)).length : Nat) : Int), 0) := hu
    rw [hu', if_neg (by simp), if_neg (by dsimp only; omega)]
    simp only [Int.toNat_natCast]
  have hd := drop_more hd4
  have hsteps : stepsE (⟨#[]⟩ :: keysE es) = true := by
    cases es with
    | nil => simp [keysE, stepsE]
    | cons e m =>
      have := (ent_parts (r3 e List.mem_cons_self)).1
      simp only [keysE, List.map_cons, stepsE, Bool.and_eq_true]
      exact ⟨less_nil this, r2⟩
  have hr := rdE_back (rest := []) es [] (4 + (encF 9 (es.length : Int)).length) ⟨#[]⟩ 0 (fun e he => ⟨r3 e he, hf e he⟩) (by omega) hsteps (by rw [hd, List.append_nil])
  have hlen : (encS es).length = 4 + (encF 9 (es.length : Int)).length + (encEs es).length := by unfold encS; rw [List.length_append, List.length_append, show headE.length = 4 from rfl]
  unfold decS
  rw [hst]
  dsimp only
  rw [hr]
  dsimp only
  rw [if_neg (by omega), List.nil_append]

theorem encEs_split (a : List En) : ∀ (b : List En) (r1 r2 : List Int), a.length = b.length → (∀ e ∈ a, entB e = true) → (∀ e ∈ b, entB e = true) → encEs a ++ r1 = encEs b ++ r2 → a = b ∧ r1 = r2 := by
  induction a with
  | nil =>
    intro b r1 r2 hl _ _ h
    have hb : b = [] := List.eq_nil_of_length_eq_zero (by simpa using hl.symm)
    subst hb
    exact ⟨rfl, List.append_cancel_left h⟩
  | cons x a ih =>
    intro b r1 r2 hl ha hb h
    cases b with
    | nil => simp at hl
    | cons y b =>
      rw [encEs_cons, encEs_cons, List.append_assoc, List.append_assoc] at h
      unfold encE at h
      rw [List.append_assoc, List.append_assoc] at h
      obtain ⟨h1, h2⟩ := tx_split _ _ _ _ h
      have h3 := (right_wt (ent_parts (ha x List.mem_cons_self)).2.2).1
      have h4 := (right_wt (ent_parts (hb y List.mem_cons_self)).2.2).1
      obtain ⟨h5, h6⟩ := wenc_split x.2 y.2 8 8 _ _ h3 h4 h2
      obtain ⟨h7, h8⟩ := ih b r1 r2 (by simpa using hl) (fun e he => ha e (List.mem_cons_of_mem _ he)) (fun e he => hb e (List.mem_cons_of_mem _ he)) h6
      have hxy : x = y := Prod.ext h1 h5
      exact ⟨by rw [h7, hxy], h8⟩

theorem encS_begins {a b : List En} (ha : rightE a = true) (hb : rightE b = true) (h : (encS b).take (encS a).length = encS a) : a = b := by
  obtain ⟨a1, _, a3, _⟩ := right_parts ha
  obtain ⟨b1, _, b3, _⟩ := right_parts hb
  have hr : encS a ++ (encS b).drop (encS a).length = encS b := by conv => rhs; rw [← List.take_append_drop (encS a).length (encS b), h]
  generalize (encS b).drop (encS a).length = r at hr
  have hr2 : headE ++ (encF 9 (a.length : Int) ++ (encEs a ++ r)) = headE ++ (encF 9 (b.length : Int) ++ encEs b) := by
    have := hr
    unfold encS at this
    simpa [List.append_assoc] using this
  have hr3 := List.append_cancel_left hr2
  obtain ⟨h1, h2⟩ := encF_split 9 _ _ _ _ hr3
  exact (encEs_split a b r [] (by omega) a3 b3 (by rw [h2, List.append_nil])).1

end Go.Proofs.Ytahlnbnbfdkfdaa
