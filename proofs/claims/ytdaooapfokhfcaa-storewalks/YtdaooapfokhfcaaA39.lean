/-
  A store beside what must stay as it is; two stores beside each other; conditions: the form's own reach.
-/
import Derived.Test.YtdaooapfokhfcaaA38
namespace Go.Proofs.Ytdaooapfokhfcaa
open Go.RowKit
set_option linter.unusedVariables false
set_option linter.unusedSimpArgs false

/-- a store; all blocks of K are as they were in wk, and none of them is its own -/
def Liv (wk : World) (K : Nat → Prop) (w : World) (s : Nat) (X : Xs) (Bs : List Xs) : Prop := ∃ V t, t.s = s ∧ Stt w V t X Bs ∧ (∀ j, K j → j < wk.heap.size ∧ ¬ t.own j) ∧ Fr (fun j => ¬ K j) wk w

/-- two stores; likewise -/
def Pai (wk : World) (K : Nat → Prop) (w : World) (s : Nat) (X : Xs) (Bs : List Xs) (s' : Nat) (X' : Xs) (Bs' : List Xs) : Prop :=
  ∃ V t V' t', t.s = s ∧ t'.s = s' ∧ Stt w V t X Bs ∧ Stt w V' t' X' Bs' ∧ (∀ j, t.own j → ¬ t'.own j ∧ ¬ V' j) ∧ (∀ j, t'.own j → ¬ V j) ∧ (∀ j, K j → j < wk.heap.size ∧ ¬ t.own j ∧ ¬ t'.own j) ∧ Fr (fun j => ¬ K j) wk w

section
variable {wk w w' : World} {K : Nat → Prop} {s s' : Nat} {X X' B : Xs} {Bs Bs' : List Xs}

theorem Liv.later (h : Liv wk K w s X Bs) (hb : Below w.heap.size w w') : Liv wk K w' s X Bs := by
  obtain ⟨V, t, h1, h2, h3, h4⟩ := h
  exact ⟨V, t, h1, h2.later hb, h3, h4.then hb⟩

theorem Liv.kept (h : Liv wk K w s X Bs) {j : Nat} (hj : K j) : w.heap[j]? = wk.heap[j]? := by
  obtain ⟨V, t, h1, h2, h3, h4⟩ := h
  exact h4.block j (h3 j hj).1 (fun e => e hj)

theorem Liv.size (h : Liv wk K w s X Bs) : wk.heap.size ≤ w.heap.size := by
  obtain ⟨V, t, h1, h2, h3, h4⟩ := h
  exact h4.size

theorem Liv.below (h : Liv wk K w s X Bs) {n : Nat} (hK : ∀ j, j < n → K j) (hn : n ≤ wk.heap.size) : Below n wk w := by
  obtain ⟨V, t, h1, h2, h3, h4⟩ := h
  exact h4.below hn (fun j hj => Nat.le_of_not_lt (fun e => hj (hK j e)))

theorem Liv.facts (h : Liv wk K w s X Bs) : Rk X ∧ (∀ p ∈ X, KeyOk p.1 ∧ rightB p.2 = true) ∧ X.length ≤ 128 ∧ tot X ≤ 32768 := by
  obtain ⟨V, t, h1, h2, h3, h4⟩ := h
  exact ⟨h2.rk, h2.key, h2.len, h2.wt⟩

theorem Liv.call {f : Nat} {args : Array Value} {Q : Ending → Prop} {X1 : Xs} {Bs1 : List Xs} (h : Liv wk K w s X Bs)
    (H : ∀ V t, t.s = s → Stt w V t X Bs → (∀ j, K j → j < w.heap.size ∧ ¬ t.own j) → Calls Try.prog f args w fun e w' => Q e ∧ ∃ V1 t1, Stt w' V1 t1 X1 Bs1 ∧ Adv w w' V V1 t t1) :
    Calls Try.prog f args w fun e w' => Q e ∧ Liv wk K w' s X1 Bs1 := by
  obtain ⟨V, t, h1, h2, h3, h4⟩ := h
  have h5 : ∀ j, K j → j < w.heap.size ∧ ¬ t.own j := fun j hj => ⟨Nat.lt_of_lt_of_le (h3 j hj).1 h4.size, (h3 j hj).2⟩
  refine (H V t h1 h2 h5).mono ?_
  rintro e w' ⟨hq, V1, t1, a, b⟩
  refine ⟨hq, V1, t1, b.s.trans h1, a, fun j hj => ⟨(h3 j hj).1, fun e => ?_⟩, h4.trans b.fr (fun j _ hj e => (h3 j e).2 hj)⟩
  rcases b.own j e with e | e
  · exact (h3 j hj).2 e
  · have := (h5 j hj).1
    omega

theorem liv_done (h : Liv wk K w s X Bs) (o : Opx) (x0 x1 : Int) (x2 : ByteArray) (x3 : Option Addr) (x4 x5 : Nat) (x6 : Option Addr) (x7 x8 : Nat) (bk : -9223372036854775808 ≤ o.kd ∧ o.kd ≤ 9223372036854775807) {P : Nat → Prop} (hv : IsP w P o.v (.agg #[.int .i64 x0, .int .i64 x1, .string x2, .slice x3 x4 x5, .slice x6 x7 x8])) (hP : ∀ j, P j → K j) :
    Calls Try.prog 9 #[.pointer (some ⟨s, 0, none⟩), .agg #[.int .i64 o.kd, .string o.key, .int .i64 x0, .int .i64 x1, .string x2, .slice x3 x4 x5, .slice x6 x7 x8]] w fun e w' => (∃ r, e = .returned r) ∧ Liv wk K w' s (doX X o) Bs :=
  h.call (fun V t hs h2 h5 => by
    subst hs
    exact done_any h2 o x0 x1 x2 x3 x4 x5 x6 x7 x8 bk hv (fun j hj => h5 j (hP j hj)))

theorem liv_checkpoint (h : Liv wk K w s X Bs) (hb : Bs.length ≤ 2000000000000) : Calls Try.prog 11 #[.pointer (some ⟨s, 0, none⟩)] w fun e w' => e = .returned (.int .i64 ((Bs.length + 1 : Nat) : Int)) ∧ Liv wk K w' s X (X :: Bs) :=
  h.call (fun V t hs h2 h5 => by
    subst hs
    refine (checkpoint_store h2 hb).mono ?_
    rintro e w' ⟨rfl, t', a, b⟩
    exact ⟨rfl, V, t', a, b⟩)

theorem liv_rollback (h : Liv wk K w s X (B :: Bs)) : Calls Try.prog 13 #[.pointer (some ⟨s, 0, none⟩)] w fun e w' => e = .returned (.int .i64 0) ∧ Liv wk K w' s B Bs :=
  h.call (fun V t hs h2 h5 => by
    subst hs
    refine (rollback_some h2).mono ?_
    rintro e w' ⟨rfl, t', a, b⟩
    exact ⟨rfl, V, t', a, b⟩)

theorem liv_commit (h : Liv wk K w s X (B :: Bs)) : Calls Try.prog 14 #[.pointer (some ⟨s, 0, none⟩)] w fun e w' => e = .returned (.int .i64 0) ∧ Liv wk K w' s X Bs :=
  h.call (fun V t hs h2 h5 => by
    subst hs
    refine (commit_some h2).mono ?_
    rintro e w' ⟨rfl, t', a, b⟩
    exact ⟨rfl, V, t', a, b⟩)

theorem liv_open (h : Liv wk K w s X Bs) : Calls Try.prog 15 #[.pointer (some ⟨s, 0, none⟩)] w fun e w' => e = .returned (.int .i64 (Bs.length : Int)) ∧ w' = w := by
  obtain ⟨V, t, rfl, h2, h3, h4⟩ := h
  exact open_store h2

theorem liv_weight (h : Liv wk K w s X Bs) : Calls Try.prog 18 #[.pointer (some ⟨s, 0, none⟩)] w fun e w' => e = .returned (.int .i64 (tot X : Int)) ∧ w' = w := by
  obtain ⟨V, t, rfl, h2, h3, h4⟩ := h
  exact weight_store h2

theorem liv_rollback0 (h : Liv wk K w s X []) : Calls Try.prog 13 #[.pointer (some ⟨s, 0, none⟩)] w fun e w' => e = .returned (.int .i64 63) ∧ Below w.heap.size w w' := by
  obtain ⟨V, t, rfl, h2, h3, h4⟩ := h
  exact rollback_none h2

theorem liv_entries (h : Liv wk K w s X Bs) : Calls Try.prog 10 #[.pointer (some ⟨s, 0, none⟩)] w fun e w' => ∃ al cl, e = .returned (.slice al X.length cl) ∧ IsE w' (fun b => w.heap.size ≤ b ∧ b < w'.heap.size) X al cl ∧ Below w.heap.size w w' := by
  obtain ⟨V, t, rfl, h2, h3, h4⟩ := h
  exact stt_entries h2

/-- Entries of a store that was made behind w0: from now on they, too, must stay -/
theorem live_split {w0 : World} (h : Live w0 w s X Bs) : Calls Try.prog 10 #[.pointer (some ⟨s, 0, none⟩)] w fun e w' => ∃ al cl, e = .returned (.slice al X.length cl) ∧ IsE w' (fun b => w.heap.size ≤ b ∧ b < w'.heap.size) X al cl ∧ Liv w' (fun j => j < w0.heap.size ∨ (w.heap.size ≤ j ∧ j < w'.heap.size)) w' s X Bs ∧ Below w0.heap.size w0 w' := by
  obtain ⟨V, t, rfl, h2, h3, h4⟩ := h
  refine (stt_entries h2).mono ?_
  rintro e w' ⟨al, cl, rfl, hE, b⟩
  have h5 := h4.trans (b.mono h4.size)
  refine ⟨al, cl, rfl, hE, ⟨V, t, rfl, h2.later b, fun j hj => ?_, Fr.refl _ _⟩, h5⟩
  rcases hj with hj | ⟨h6, h7⟩
  · refine ⟨Nat.lt_of_lt_of_le hj h5.size, fun e => ?_⟩
    have := h3 j (.inl e)
    omega
  · exact ⟨h7, fun e => by have := h2.sto.lt e; omega⟩

theorem Pai.swap (h : Pai wk K w s X Bs s' X' Bs') : Pai wk K w s' X' Bs' s X Bs := by
  obtain ⟨V, t, V', t', h1, h2, h3, h4, h5, h6, h7, h8⟩ := h
  exact ⟨V', t', V, t, h2, h1, h4, h3, fun j hj => ⟨fun e => (h5 j e).1 hj, h6 j hj⟩, fun j hj => (h5 j hj).2, fun j hj => ⟨(h7 j hj).1, (h7 j hj).2.2, (h7 j hj).2.1⟩, h8⟩

theorem Pai.left (h : Pai wk K w s X Bs s' X' Bs') : Liv wk K w s X Bs := by
  obtain ⟨V, t, V', t', h1, h2, h3, h4, h5, h6, h7, h8⟩ := h
  exact ⟨V, t, h1, h3, fun j hj => ⟨(h7 j hj).1, (h7 j hj).2.1⟩, h8⟩

theorem Pai.later (h : Pai wk K w s X Bs s' X' Bs') (hb : Below w.heap.size w w') : Pai wk K w' s X Bs s' X' Bs' := by
  obtain ⟨V, t, V', t', h1, h2, h3, h4, h5, h6, h7, h8⟩ := h
  exact ⟨V, t, V', t', h1, h2, h3.later hb, h4.later hb, h5, h6, h7, h8.then hb⟩

theorem Pai.call {f : Nat} {args : Array Value} {Q : Ending → Prop} {X1 : Xs} {Bs1 : List Xs} (h : Pai wk K w s X Bs s' X' Bs')
    (H : ∀ V t, t.s = s → Stt w V t X Bs → (∀ j, K j → j < w.heap.size ∧ ¬ t.own j) → Calls Try.prog f args w fun e w' => Q e ∧ ∃ V1 t1, Stt w' V1 t1 X1 Bs1 ∧ Adv w w' V V1 t t1) :
    Calls Try.prog f args w fun e w' => Q e ∧ Pai wk K w' s X1 Bs1 s' X' Bs' := by
  obtain ⟨V, t, V', t', h1, h2, h3, h4, h5, h6, h7, h8⟩ := h
  have h9 : ∀ j, K j → j < w.heap.size ∧ ¬ t.own j := fun j hj => ⟨Nat.lt_of_lt_of_le (h7 j hj).1 h8.size, (h7 j hj).2.1⟩
  refine (H V t h1 h3 h9).mono ?_
  rintro e w' ⟨hq, V1, t1, a, b⟩
  refine ⟨hq, V1, t1, V', t', b.s.trans h1, h2, a, h4.other b.fr (fun j hj => (h5 j hj).1) (fun j hj => (h5 j hj).2), fun j hj => ?_, fun j hj hv => ?_, fun j hj => ⟨(h7 j hj).1, fun e => ?_, (h7 j hj).2.2⟩, h8.trans b.fr (fun j _ hj e => (h7 j e).2.1 hj)⟩
  · rcases b.own j hj with e | e
    · exact h5 j e
    · exact ⟨fun e2 => by have := h4.sto.lt e2; omega, fun e2 => by have := (h4.sto.vs j e2).1; omega⟩
  · rcases b.vs j hv with e | e
    · exact h6 j hj e
    · have := h4.sto.lt hj
      omega
  · rcases b.own j e with e | e
    · exact (h7 j hj).2.1 e
    · have := (h9 j hj).1
      omega

/-- more must stay: what is new -/
theorem Pai.more (h : Pai wk K w s X Bs s' X' Bs') (hb : Below w.heap.size w w') : Pai w' (fun j => K j ∨ (w.heap.size ≤ j ∧ j < w'.heap.size)) w' s X Bs s' X' Bs' := by
  obtain ⟨V, t, V', t', h1, h2, h3, h4, h5, h6, h7, h8⟩ := h
  refine ⟨V, t, V', t', h1, h2, h3.later hb, h4.later hb, h5, h6, fun j hj => ?_, Fr.refl _ _⟩
  rcases hj with hj | ⟨e1, e2⟩
  · have h9 := (h7 j hj).1
    have := h8.size
    have := hb.size
    exact ⟨by omega, (h7 j hj).2⟩
  · exact ⟨e2, fun e => by have := h3.sto.lt e; omega, fun e => by have := h4.sto.lt e; omega⟩

theorem two_done (h : Pai wk K w s X Bs s' X' Bs') (o : Opx) (x0 x1 : Int) (x2 : ByteArray) (x3 : Option Addr) (x4 x5 : Nat) (x6 : Option Addr) (x7 x8 : Nat) (bk : -9223372036854775808 ≤ o.kd ∧ o.kd ≤ 9223372036854775807) {P : Nat → Prop} (hv : IsP w P o.v (.agg #[.int .i64 x0, .int .i64 x1, .string x2, .slice x3 x4 x5, .slice x6 x7 x8])) (hP : ∀ j, P j → K j) :
    Calls Try.prog 9 #[.pointer (some ⟨s, 0, none⟩), .agg #[.int .i64 o.kd, .string o.key, .int .i64 x0, .int .i64 x1, .string x2, .slice x3 x4 x5, .slice x6 x7 x8]] w fun e w' => (∃ r, e = .returned r) ∧ Pai wk K w' s (doX X o) Bs s' X' Bs' :=
  h.call (fun V t hs h2 h5 => by
    subst hs
    exact done_any h2 o x0 x1 x2 x3 x4 x5 x6 x7 x8 bk hv (fun j hj => h5 j (hP j hj)))

theorem two_done' (h : Pai wk K w s X Bs s' X' Bs') (o : Opx) (x0 x1 : Int) (x2 : ByteArray) (x3 : Option Addr) (x4 x5 : Nat) (x6 : Option Addr) (x7 x8 : Nat) (bk : -9223372036854775808 ≤ o.kd ∧ o.kd ≤ 9223372036854775807) {P : Nat → Prop} (hv : IsP w P o.v (.agg #[.int .i64 x0, .int .i64 x1, .string x2, .slice x3 x4 x5, .slice x6 x7 x8])) (hP : ∀ j, P j → K j) :
    Calls Try.prog 9 #[.pointer (some ⟨s', 0, none⟩), .agg #[.int .i64 o.kd, .string o.key, .int .i64 x0, .int .i64 x1, .string x2, .slice x3 x4 x5, .slice x6 x7 x8]] w fun e w' => (∃ r, e = .returned r) ∧ Pai wk K w' s X Bs s' (doX X' o) Bs' :=
  (two_done h.swap o x0 x1 x2 x3 x4 x5 x6 x7 x8 bk hv hP).mono (fun e w' hh => ⟨hh.1, hh.2.swap⟩)

theorem two_checkpoint (h : Pai wk K w s X Bs s' X' Bs') (hb : Bs.length ≤ 2000000000000) : Calls Try.prog 11 #[.pointer (some ⟨s, 0, none⟩)] w fun e w' => e = .returned (.int .i64 ((Bs.length + 1 : Nat) : Int)) ∧ Pai wk K w' s X (X :: Bs) s' X' Bs' :=
  h.call (fun V t hs h2 h5 => by
    subst hs
    refine (checkpoint_store h2 hb).mono ?_
    rintro e w' ⟨rfl, t', a, b⟩
    exact ⟨rfl, V, t', a, b⟩)

theorem two_rollback (h : Pai wk K w s X (B :: Bs) s' X' Bs') : Calls Try.prog 13 #[.pointer (some ⟨s, 0, none⟩)] w fun e w' => e = .returned (.int .i64 0) ∧ Pai wk K w' s B Bs s' X' Bs' :=
  h.call (fun V t hs h2 h5 => by
    subst hs
    refine (rollback_some h2).mono ?_
    rintro e w' ⟨rfl, t', a, b⟩
    exact ⟨rfl, V, t', a, b⟩)

theorem two_commit (h : Pai wk K w s X (B :: Bs) s' X' Bs') : Calls Try.prog 14 #[.pointer (some ⟨s, 0, none⟩)] w fun e w' => e = .returned (.int .i64 0) ∧ Pai wk K w' s X Bs s' X' Bs' :=
  h.call (fun V t hs h2 h5 => by
    subst hs
    refine (commit_some h2).mono ?_
    rintro e w' ⟨rfl, t', a, b⟩
    exact ⟨rfl, V, t', a, b⟩)

/-- one behind the other -/
theorem two_of {w0 w1 : World} (h : Live w0 w1 s X Bs) (h' : Live w1 w s' X' Bs') : Pai w (fun j => j < w0.heap.size) w s X Bs s' X' Bs' := by
  obtain ⟨V, t, h1, h2, h3, h4⟩ := h
  obtain ⟨V', t', g1, g2, g3, g4⟩ := h'
  refine ⟨V, t, V', t', h1, g1, h2.later g4, g2, fun j hj => ?_, fun j hj hv => ?_, fun j hj => ?_, Fr.refl _ _⟩
  · have := h2.sto.lt hj
    exact ⟨fun e => by have := g3 j (.inl e); omega, fun e => by have := g3 j (.inr e); omega⟩
  · have := (h2.sto.vs j hv).1
    have := g3 j (.inl hj)
    omega
  · have e1 := h4.size
    have e2 := g4.size
    exact ⟨by omega, fun e => by have := h3 j (.inl e); omega, fun e => by have := g3 j (.inl e); omega⟩

/-- entries that a store may have are taken by From -/
theorem from_ok (hr : Rk X) (hk : ∀ p ∈ X, KeyOk p.1 ∧ rightB p.2 = true) (hl : X.length ≤ 128) (hw : tot X ≤ 32768) : fromR X = 0 := by
  have hemp : ∀ k, KeyOk k → bl ⟨#[]⟩ k = true := fun k hk => by
    rcases kl_tri ⟨#[]⟩ k with e | e | e
    · exact e
    · have h1 := hk.1
      rw [← e] at h1
      exact absurd h1 (by decide)
    · exfalso
      have e2 : Op.bytesLess k.toList (⟨#[]⟩ : ByteArray).toList = true := e
      have e3 : (⟨#[]⟩ : ByteArray).toList = [] := by rw [ByteArray.toList_eq]
      rw [e3] at e2
      cases hk : k.toList with
      | nil => rw [hk] at e2; simp [Op.bytesLess] at e2
      | cons a r => rw [hk] at e2; simp [Op.bytesLess] at e2
  have h1 : ∀ (es : List En) (ah : ByteArray), Rk es → (∀ p ∈ es, KeyOk p.1 ∧ rightB p.2 = true) → (∀ p ∈ es, bl ah p.1 = true) → chkE ah es = 0 := fun es => by
    induction es with
    | nil => intro ah _ _ _; rfl
    | cons p r ih =>
      intro ah h1 h2 h3
      rw [chkE_cons, if_pos ⟨(keyB_iff p.1).2 (h2 p List.mem_cons_self).1, h3 p List.mem_cons_self⟩, if_pos (h2 p List.mem_cons_self).2]
      exact ih p.1 (rk_tail h1) (fun q hq => h2 q (List.mem_cons_of_mem _ hq)) (fun q hq => rk_head h1 q hq)
  have h2 : ∀ (es : List En) (Y : Xs), Rk (Y ++ es) → (Y ++ es).length ≤ 128 → tot (Y ++ es) ≤ 32768 → (putAll Y es).isSome = true := fun es => by
    induction es with
    | nil => intro Y _ _ _; rfl
    | cons p r ih =>
      intro Y h1 h2 h3
      have hlt : ∀ q ∈ Y, bl q.1 p.1 = true := fun q hq => (List.pairwise_append.1 h1).2.2 q hq p List.mem_cons_self
      have he := put_end Y p.1 p.2 hlt
      have e1 : Y ++ p :: r = (Y ++ [(p.1, p.2)]) ++ r := by simp
      rw [e1] at h1 h2 h3
      have e2 : tot ((Y ++ [(p.1, p.2)]) ++ r) = tot (Y ++ [(p.1, p.2)]) + tot r := by
        unfold tot
        rw [List.map_append, List.sum_append]
      rw [List.length_append] at h2
      rw [putAll_cons, he]
      have hf : fitX Y p.1 p.2 = true := by
        unfold fitX
        rw [he, Bool.and_eq_true, decide_eq_true_eq, decide_eq_true_eq]
        exact ⟨by omega, by omega⟩
      rw [if_pos hf]
      exact ih _ h1 (by rw [List.length_append]; exact h2) h3
  have h3 := h1 X ⟨#[]⟩ hr hk (fun p hp => hemp p.1 (hk p hp).1)
  unfold fromR
  rw [if_pos h3, if_pos (h2 X [] hr hl hw)]
end
end Go.Proofs.Ytdaooapfokhfcaa
