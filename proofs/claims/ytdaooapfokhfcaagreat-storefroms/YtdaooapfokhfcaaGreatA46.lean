/-
  A store and the document's store beside each other; conditions: the form's own reach.
  A store and the document's store beside each other: what each call answers; conditions: the form's own reach.
  The walk of the statements' pick: which of n things a number speaks of; no conditions.
-/
import Derived.Test.YtdaooapfokhfcaaGreatA45
import Derived.Test.YtdaooapfokhfcaaGreatProg
import Derived.WalkKit
import Derived.WalkSpells
import Derived.OpenShut
namespace Go.Proofs.YtdaooapfokhfcaaGreat
open Go.RowKit
set_option linter.unusedVariables false
set_option linter.unusedSimpArgs false

set_option maxRecDepth 100000 in
theorem rnew_any (w : World) : Calls Tryz.prog 6 #[] w fun e w' => ∃ t, e = .returned (.pointer (some ⟨t.r, 0, none⟩)) ∧ Rtt w' (fun _ => False) t [] [] 0 ∧ (∀ j, t.own j → w.heap.size ≤ j) ∧ Below w.heap.size w w' := by
  obtain ⟨G, hG⟩ : ∃ G, w.heap.size = G := ⟨_, rfl⟩
  obtain ⟨w1, hw1⟩ : ∃ w1, w.alloc (.cells #[.slice none 0 0, .slice none 0 0, .slice none 0 0] 56) = w1 := ⟨_, rfl⟩
  have N1 : w1.heap[G]? = some (.cells #[.slice none 0 0, .slice none 0 0, .slice none 0 0] 56 (0, 0)) := by rw [← hw1, ← hG]; exact heap_alloc_new w _
  have B1 : Below w.heap.size w w1 := by rw [← hw1]; exact (Below.refl _ _).alloc (Nat.le_refl _) _
  have ho : ∀ j, Rx.own ⟨G, .slice none 0 0, [], .slice none 0 0, [], .slice none 0 0, []⟩ j → w.heap.size ≤ j := fun j hj => by
    rcases hj with e | e | e | e
    · have e : j = G := e
      omega
    · cases e
    · cases e
    · cases e
  have HR : Hid (∃ t : Rx, t.r = G ∧ Rtt w1 (fun _ => False) t [] [] 0 ∧ (∀ j, t.own j → w.heap.size ≤ j) ∧ Below w.heap.size w w1) := hide ⟨⟨G, .slice none 0 0, [], .slice none 0 0, [], .slice none 0 0, []⟩, rfl, ⟨⟨N1, World.ownsRow_nil _ _ _ _, (fun p hp => by cases hp), World.ownsRow_nil _ _ _ _, (fun p hp => by cases hp), World.ownsRow_nil _ _ _ _, (fun j hj => hj.elim)⟩, rfl, Nat.le_refl _, Nat.le_refl _, fun j hj => ⟨by simp [Rx.U, mapK, bks, Rk], by simp [Rx.U, mapK, bks], by simp [Rx.U, mapK, bks, tot], by simp [Rx.U, mapK, bks], by simp [Rx.U, mapK, bks]⟩, fun _ => rfl, (fun m e => by cases e), (fun m e => by cases e), List.Pairwise.nil, rfl⟩, ho, B1⟩
  clear N1 B1 ho
  go_enter Tryz.func6, Tryz.ntmps6
  go_wp2_with fail
  go_ret
  obtain ⟨t, rfl, h1, h2, h3⟩ := unhide HR
  exact ⟨t, rfl, h1, h2, h3⟩

/-- both; all blocks of K are as they were in wk, and none of them is theirs -/
def Duo (wk : World) (K : Nat → Prop) (w : World) (s : Nat) (X : Xs) (Bs : List Xs) (r : Nat) (Y : Xs) (Cs : List Xs) (N : Nat) : Prop :=
  ∃ V t V2 t2, t.s = s ∧ t2.r = r ∧ Stt w V t X Bs ∧ Rtt w V2 t2 Y Cs N ∧ (∀ j, t.own j → ¬ t2.own j ∧ ¬ V2 j) ∧ (∀ j, t2.own j → ¬ V j) ∧ (∀ j, K j → j < wk.heap.size ∧ ¬ t.own j ∧ ¬ V j ∧ ¬ t2.own j ∧ ¬ V2 j) ∧ Fr (fun j => ¬ K j) wk w

section
variable {wk w w' : World} {K : Nat → Prop} {s r : Nat} {X X' Y Y' B : Xs} {Bs Bs' Cs Cs' : List Xs} {N N' : Nat}

theorem Rtt.other {V : Nat → Prop} {t : Rx} {G : Nat → Prop} (h : Rtt w V t X Bs N) (hf : Fr G w w') (h1 : ∀ j, G j → ¬ t.own j) (h2 : ∀ j, G j → ¬ V j) : Rtt w' V t X Bs N := h.to (h.rto.other hf h1 h2)

theorem Duo.later (h : Duo wk K w s X Bs r Y Cs N) (hb : Below w.heap.size w w') : Duo wk K w' s X Bs r Y Cs N := by
  obtain ⟨V, t, V2, t2, e1, e2, h1, h2, h3, h4, h5, h6⟩ := h
  exact ⟨V, t, V2, t2, e1, e2, h1.later hb, h2.later hb, h3, h4, h5, h6.then hb⟩

theorem Duo.kept (h : Duo wk K w s X Bs r Y Cs N) {j : Nat} (hj : K j) : w.heap[j]? = wk.heap[j]? := by
  obtain ⟨V, t, V2, t2, e1, e2, h1, h2, h3, h4, h5, h6⟩ := h
  exact h6.block j (h5 j hj).1 (fun e => e hj)

theorem Duo.fr (h : Duo wk K w s X Bs r Y Cs N) : Fr (fun j => ¬ K j) wk w := by
  obtain ⟨V, t, V2, t2, e1, e2, h1, h2, h3, h4, h5, h6⟩ := h
  exact h6

theorem Duo.inK (h : Duo wk K w s X Bs r Y Cs N) {j : Nat} (hj : K j) : j < w.heap.size := by
  obtain ⟨V, t, V2, t2, e1, e2, h1, h2, h3, h4, h5, h6⟩ := h
  exact Nat.lt_of_lt_of_le (h5 j hj).1 h6.size

/-- a call of the one -/
theorem Duo.left {f : Nat} {args : Array Value} {Q : Ending → Prop} (h : Duo wk K w s X Bs r Y Cs N)
    (H : ∀ V t, t.s = s → Stt w V t X Bs → (∀ j, K j → j < w.heap.size ∧ ¬ t.own j) → Calls Tryz.prog f args w fun e w' => Q e ∧ ∃ V1 t1, Stt w' V1 t1 X' Bs' ∧ Adv w w' V V1 t t1) :
    Calls Tryz.prog f args w fun e w' => Q e ∧ Duo wk K w' s X' Bs' r Y Cs N := by
  obtain ⟨V, t, V2, t2, e1, e2, h1, h2, h3, h4, h5, h6⟩ := h
  have h9 : ∀ j, K j → j < w.heap.size ∧ ¬ t.own j := fun j hj => ⟨Nat.lt_of_lt_of_le (h5 j hj).1 h6.size, (h5 j hj).2.1⟩
  refine (H V t e1 h1 h9).mono ?_
  rintro e w' ⟨hq, V1, t1, a, b⟩
  refine ⟨hq, V1, t1, V2, t2, b.s.trans e1, e2, a, h2.other b.fr (fun j hj => (h3 j hj).1) (fun j hj => (h3 j hj).2), fun j hj => ?_, fun j hj hv => ?_, fun j hj => ⟨(h5 j hj).1, fun e => ?_, fun e => ?_, (h5 j hj).2.2.2⟩, h6.trans b.fr (fun j _ hj e => (h5 j e).2.1 hj)⟩
  · rcases b.own j hj with e | e
    · exact h3 j e
    · exact ⟨fun e2 => by have := h2.rto.lt e2; omega, fun e2 => by have := (h2.rto.vs j e2).1; omega⟩
  · rcases b.vs j hv with e | e
    · exact h4 j hj e
    · have := h2.rto.lt hj
      omega
  · rcases b.own j e with e | e
    · exact (h5 j hj).2.1 e
    · have := (h9 j hj).1
      omega
  · rcases b.vs j e with e | e
    · exact (h5 j hj).2.2.1 e
    · have := (h9 j hj).1
      omega

/-- a call of the other -/
theorem Duo.right {f : Nat} {args : Array Value} {Q : Ending → Prop} (h : Duo wk K w s X Bs r Y Cs N)
    (H : ∀ V t, t.r = r → Rtt w V t Y Cs N → Calls Tryz.prog f args w fun e w' => Q e ∧ ∃ V1 t1, Rtt w' V1 t1 Y' Cs' N' ∧ RAdv w w' V V1 t t1) :
    Calls Tryz.prog f args w fun e w' => Q e ∧ Duo wk K w' s X Bs r Y' Cs' N' := by
  obtain ⟨V, t, V2, t2, e1, e2, h1, h2, h3, h4, h5, h6⟩ := h
  have hz := h6.size
  refine (H V2 t2 e2 h2).mono ?_
  rintro e w' ⟨hq, V1, t1, a, b⟩
  refine ⟨hq, V, t, V1, t1, e1, b.r.trans e2, h1.other b.fr (fun j hj e => (h3 j e).1 hj) (fun j hj => h4 j hj), a, fun j hj => ⟨fun e => ?_, fun e => ?_⟩, fun j hj hv => ?_, fun j hj => ⟨(h5 j hj).1, (h5 j hj).2.1, (h5 j hj).2.2.1, fun e => ?_, fun e => ?_⟩, h6.trans b.fr (fun j _ hj e => (h5 j e).2.2.2.1 hj)⟩
  · rcases b.own j e with e | e
    · exact (h3 j hj).1 e
    · have := h1.sto.lt hj
      omega
  · rcases b.vs j e with e | e
    · exact (h3 j hj).2 e
    · have := h1.sto.lt hj
      omega
  · rcases b.own j hj with e | e
    · exact h4 j e hv
    · have := (h1.sto.vs j hv).1
      omega
  · rcases b.own j e with e | e
    · exact (h5 j hj).2.2.2.1 e
    · have := (h5 j hj).1
      omega
  · rcases b.vs j e with e | e
    · exact (h5 j hj).2.2.2.2 e
    · have := (h5 j hj).1
      omega

/-- more must stay: what is new -/
theorem Duo.more (h : Duo wk K w s X Bs r Y Cs N) (hb : Below w.heap.size w w') : Duo w' (fun j => K j ∨ (w.heap.size ≤ j ∧ j < w'.heap.size)) w' s X Bs r Y Cs N := by
  obtain ⟨V, t, V2, t2, e1, e2, h1, h2, h3, h4, h5, h6⟩ := h
  have hz := h6.size
  have hz2 := hb.size
  refine ⟨V, t, V2, t2, e1, e2, h1.later hb, h2.later hb, h3, h4, fun j hj => ?_, Fr.refl _ _⟩
  rcases hj with hj | ⟨e1, e2⟩
  · exact ⟨by have := (h5 j hj).1; omega, (h5 j hj).2⟩
  · exact ⟨e2, fun e => by have := h1.sto.lt e; omega, fun e => by have := (h1.sto.vs j e).1; omega, fun e => by have := h2.rto.lt e; omega, fun e => by have := (h2.rto.vs j e).1; omega⟩

/-- of what must stay some is written over -/
theorem Duo.wipe {Q : Nat → Prop} (h : Duo wk K w s X Bs r Y Cs N) (hw : Wiped Q w w') (hQ : ∀ j, Q j → K j) : Duo w' (fun j => K j ∧ ¬ Q j) w' s X Bs r Y Cs N := by
  obtain ⟨V, t, V2, t2, e1, e2, h1, h2, h3, h4, h5, h6⟩ := h
  have hf : Fr Q w w' := ⟨hw.os, hw.tape, hw.output, hw.size, fun j hj hn => hw.far hj hn⟩
  refine ⟨V, t, V2, t2, e1, e2, h1.other hf (fun j hj => (h5 j (hQ j hj)).2.1) (fun j hj => (h5 j (hQ j hj)).2.2.1), h2.other hf (fun j hj => (h5 j (hQ j hj)).2.2.2.1) (fun j hj => (h5 j (hQ j hj)).2.2.2.2), h3, h4, fun j hj => ⟨?_, (h5 j hj.1).2⟩, Fr.refl _ _⟩
  have := (h5 j hj.1).1
  have := h6.size
  have := hw.size
  omega

/-- back to what had to stay at first -/
theorem Duo.back {wk' : World} {K' : Nat → Prop} (h : Duo wk' K' w s X Bs r Y Cs N) (hf : Fr (fun j => ¬ K j) wk wk') (hK : ∀ j, K j → j < wk.heap.size ∧ K' j) : Duo wk K w s X Bs r Y Cs N := by
  obtain ⟨V, t, V2, t2, e1, e2, h1, h2, h3, h4, h5, h6⟩ := h
  exact ⟨V, t, V2, t2, e1, e2, h1, h2, h3, h4, fun j hj => ⟨(hK j hj).1, (h5 j (hK j hj).2).2⟩, hf.trans h6 (fun j _ hn e => hn (hK j e).2)⟩

theorem Duo.base (h : Duo wk K w s X Bs r Y Cs N) : ∀ j, K j → j < wk.heap.size := fun j hj => by
  obtain ⟨V, t, V2, t2, e1, e2, h1, h2, h3, h4, h5, h6⟩ := h
  exact (h5 j hj).1
end
end Go.Proofs.YtdaooapfokhfcaaGreat

namespace Go.Proofs.YtdaooapfokhfcaaGreat
open Go.RowKit
set_option linter.unusedVariables false
set_option linter.unusedSimpArgs false

section
variable {wk w w' : World} {K : Nat → Prop} {s r : Nat} {X X' Y Y' B : Xs} {Bs Bs' Cs Cs' : List Xs} {N N' : Nat}

theorem Rtt.count {V : Nat → Prop} {t : Rx} (h : Rtt w V t X Bs N) : t.ms.length = Bs.length := by rw [h.bs]; simp

theorem Duo.few (h : Duo wk K w s X Bs r X Bs N) : Bs.length ≤ N := by
  obtain ⟨V, t, V2, t2, e1, e2, h1, h2, h3, h4, h5, h6⟩ := h
  rw [← h2.count]
  exact h2.ml

theorem duo_after (h : Duo wk K w s X Bs r Y Cs N) (k : ByteArray) : Calls Tryz.prog 18 #[.pointer (some ⟨s, 0, none⟩), .string k] w fun e w' => e = .returned (.tuple #[.string ((aft X k).getD ⟨#[]⟩), .bool (aft X k).isSome]) ∧ Below w.heap.size w w' := by
  obtain ⟨V, t, V2, t2, rfl, e2, h1, h2, h3, h4, h5, h6⟩ := h
  exact after_store h1 k
theorem duo_rafter (h : Duo wk K w s X Bs r Y Cs N) (k : ByteArray) : Calls Tryz.prog 33 #[.pointer (some ⟨r, 0, none⟩), .string k] w fun e w' => e = .returned (.tuple #[.string ((aft Y k).getD ⟨#[]⟩), .bool (aft Y k).isSome]) ∧ w' = w := by
  obtain ⟨V, t, V2, t2, e1, rfl, h1, h2, h3, h4, h5, h6⟩ := h
  have := rafter_any h2.rto k
  rw [h2.ent] at this
  exact this
theorem duo_get (h : Duo wk K w s X Bs r Y Cs N) (k : ByteArray) : Calls Tryz.prog 17 #[.pointer (some ⟨s, 0, none⟩), .string k] w fun e w' => ∃ x, e = .returned (.tuple #[x, .bool (lookK X k).isSome]) ∧ Below w.heap.size w w' ∧ IsQ w' (fun b => w.heap.size ≤ b ∧ b < w'.heap.size) ((lookK X k).getD vz) x := by
  obtain ⟨V, t, V2, t2, rfl, e2, h1, h2, h3, h4, h5, h6⟩ := h
  exact get_store h1 k
theorem duo_rget (h : Duo wk K w s X Bs r Y Cs N) (k : ByteArray) : Calls Tryz.prog 31 #[.pointer (some ⟨r, 0, none⟩), .string k] w fun e w' => ∃ x, e = .returned (.tuple #[x, .bool (lookK Y k).isSome]) ∧ Below w.heap.size w w' ∧ IsP w' (fun b => w.heap.size ≤ b ∧ b < w'.heap.size) ((lookK Y k).getD vz) x := by
  obtain ⟨V, t, V2, t2, e1, rfl, h1, h2, h3, h4, h5, h6⟩ := h
  have := rget_any h2.rto h2.rk h2.rights k
  rw [h2.ent] at this
  exact this
theorem duo_del (h : Duo wk K w s X Bs r Y Cs N) (k : ByteArray) : Calls Tryz.prog 22 #[.pointer (some ⟨s, 0, none⟩), .string k] w fun e w' => e = .returned (.bool (lookK X k).isSome) ∧ Duo wk K w' s (delK X k) Bs r Y Cs N :=
  h.left (fun V t hs h1 h5 => by
    subst hs
    exact del_store h1 k)
theorem duo_rdel (h : Duo wk K w s X Bs r Y Cs N) (hN : N ≤ 1353245080318) (k : ByteArray) : Calls Tryz.prog 32 #[.pointer (some ⟨r, 0, none⟩), .string k] w fun e w' => e = .returned (.bool (lookK Y k).isSome) ∧ Duo wk K w' s X Bs r (delK Y k) Cs (N + 1) :=
  h.right (fun V t hs h1 => by
    subst hs
    exact rdel_store h1 hN k)
theorem duo_put {P : Nat → Prop} (h : Duo wk K w s X Bs r Y Cs N) (k : ByteArray) (v : Vl) (x : Value) (hv : IsP w P v x) (hP : ∀ j, P j → K j) : Calls Tryz.prog 9 #[.pointer (some ⟨s, 0, none⟩), .string k, x] w fun e w' => e = .returned (.int .i64 (putE X k v)) ∧ Duo wk K w' s (putX X k v) Bs r Y Cs N :=
  h.left (fun V t hs h1 h5 => by
    subst hs
    exact put_store h1 k v x hv (fun j hj => h5 j (hP j hj)))
theorem duo_rput {P : Nat → Prop} (h : Duo wk K w s X Bs r Y Cs N) (hN : N ≤ 1353245080318) (k : ByteArray) (v : Vl) (x : Value) (hv : IsP w P v x) (hP : ∀ j, P j → K j) : Calls Tryz.prog 29 #[.pointer (some ⟨r, 0, none⟩), .string k, x] w fun e w' => e = .returned (.int .i64 (putE Y k v)) ∧ Duo wk K w' s X Bs r (putX Y k v) Cs (N + 1) :=
  h.right (fun V t hs h1 => by
    subst hs
    exact rput_store h1 hN k v x (hv.isV (fun j hj => h.inK (hP j hj))))
theorem duo_check (h : Duo wk K w s X Bs r Y Cs N) (hb : Bs.length ≤ 2000000000000) : Calls Tryz.prog 24 #[.pointer (some ⟨s, 0, none⟩)] w fun e w' => e = .returned (.int .i64 ((Bs.length : Int) + 1)) ∧ Duo wk K w' s X (X :: Bs) r Y Cs N :=
  h.left (fun V t hs h1 h5 => by
    subst hs
    refine (checkpoint_store h1 hb).mono ?_
    rintro e w' ⟨rfl, t', a, b⟩
    exact ⟨rfl, V, t', a, b⟩)
theorem duo_rcheck (h : Duo wk K w s X Bs r Y Cs N) (hN : N ≤ 1353245080318) : Calls Tryz.prog 34 #[.pointer (some ⟨r, 0, none⟩)] w fun e w' => e = .returned (.int .i64 ((Cs.length : Int) + 1)) ∧ Duo wk K w' s X Bs r Y (Y :: Cs) (N + 1) :=
  h.right (fun V t hs h1 => by
    subst hs
    have := rcheck_store h1 hN
    rw [h1.count] at this
    exact this)
theorem duo_roll0 (h : Duo wk K w s X [] r Y Cs N) : Calls Tryz.prog 19 #[.pointer (some ⟨s, 0, none⟩)] w fun e w' => e = .returned (.int .i64 63) ∧ Duo wk K w' s X [] r Y Cs N := by
  have h' := h
  obtain ⟨V, t, V2, t2, rfl, e2, h1, h2, h3, h4, h5, h6⟩ := h
  refine (rollback_none h1).mono ?_
  rintro e w' ⟨rfl, b⟩
  exact ⟨rfl, h'.later b⟩
theorem duo_roll (h : Duo wk K w s X (B :: Bs) r Y Cs N) : Calls Tryz.prog 19 #[.pointer (some ⟨s, 0, none⟩)] w fun e w' => e = .returned (.int .i64 0) ∧ Duo wk K w' s B Bs r Y Cs N :=
  h.left (fun V t hs h1 h5 => by
    subst hs
    refine (rollback_some h1).mono ?_
    rintro e w' ⟨rfl, t', a, b⟩
    exact ⟨rfl, V, t', a, b⟩)
theorem duo_rroll0 (h : Duo wk K w s X Bs r Y [] N) : Calls Tryz.prog 35 #[.pointer (some ⟨r, 0, none⟩)] w fun e w' => e = .returned (.int .i64 63) ∧ Duo wk K w' s X Bs r Y [] N := by
  have h' := h
  obtain ⟨V, t, V2, t2, e1, rfl, h1, h2, h3, h4, h5, h6⟩ := h
  refine (rback_none h2 (List.eq_nil_of_length_eq_zero h2.count)).mono ?_
  rintro e w' ⟨rfl, b⟩
  rw [b]
  exact ⟨rfl, h'⟩
theorem duo_rroll (h : Duo wk K w s X Bs r Y (B :: Cs) N) (hN : N ≤ 1353245080318) : Calls Tryz.prog 35 #[.pointer (some ⟨r, 0, none⟩)] w fun e w' => e = .returned (.int .i64 0) ∧ Duo wk K w' s X Bs r B Cs N :=
  h.right (fun V t hs h1 => by
    subst hs
    exact rback_some h1 hN)
theorem duo_commit0 (h : Duo wk K w s X [] r Y Cs N) : Calls Tryz.prog 20 #[.pointer (some ⟨s, 0, none⟩)] w fun e w' => e = .returned (.int .i64 63) ∧ Duo wk K w' s X [] r Y Cs N := by
  have h' := h
  obtain ⟨V, t, V2, t2, rfl, e2, h1, h2, h3, h4, h5, h6⟩ := h
  refine (commit_none h1).mono ?_
  rintro e w' ⟨rfl, b⟩
  exact ⟨rfl, h'.later b⟩
theorem duo_commit (h : Duo wk K w s X (B :: Bs) r Y Cs N) : Calls Tryz.prog 20 #[.pointer (some ⟨s, 0, none⟩)] w fun e w' => e = .returned (.int .i64 0) ∧ Duo wk K w' s X Bs r Y Cs N :=
  h.left (fun V t hs h1 h5 => by
    subst hs
    refine (commit_some h1).mono ?_
    rintro e w' ⟨rfl, t', a, b⟩
    exact ⟨rfl, V, t', a, b⟩)
theorem duo_rcommit0 (h : Duo wk K w s X Bs r Y [] N) : Calls Tryz.prog 36 #[.pointer (some ⟨r, 0, none⟩)] w fun e w' => e = .returned (.int .i64 63) ∧ Duo wk K w' s X Bs r Y [] N := by
  have h' := h
  obtain ⟨V, t, V2, t2, e1, rfl, h1, h2, h3, h4, h5, h6⟩ := h
  refine (rcommit_none h2 (List.eq_nil_of_length_eq_zero h2.count)).mono ?_
  rintro e w' ⟨rfl, b⟩
  rw [b]
  exact ⟨rfl, h'⟩
theorem duo_rcommit (h : Duo wk K w s X Bs r Y (B :: Cs) N) (hN : N ≤ 1353245080318) : Calls Tryz.prog 36 #[.pointer (some ⟨r, 0, none⟩)] w fun e w' => e = .returned (.int .i64 0) ∧ Duo wk K w' s X Bs r Y Cs N :=
  h.right (fun V t hs h1 => by
    subst hs
    exact rcommit_some h1 hN)
theorem duo_len (h : Duo wk K w s X Bs r Y Cs N) : Calls Tryz.prog 15 #[.pointer (some ⟨s, 0, none⟩)] w fun e w' => e = .returned (.int .i64 (X.length : Int)) ∧ w' = w := by
  obtain ⟨V, t, V2, t2, rfl, e2, h1, h2, h3, h4, h5, h6⟩ := h
  exact len_store h1
theorem duo_rlen (h : Duo wk K w s X Bs r Y Cs N) : Calls Tryz.prog 38 #[.pointer (some ⟨r, 0, none⟩)] w fun e w' => e = .returned (.int .i64 (Y.length : Int)) ∧ w' = w := by
  obtain ⟨V, t, V2, t2, e1, rfl, h1, h2, h3, h4, h5, h6⟩ := h
  have := rlen_any h2.rto
  rw [h2.xlen] at this
  exact this
theorem duo_weight (h : Duo wk K w s X Bs r Y Cs N) : Calls Tryz.prog 23 #[.pointer (some ⟨s, 0, none⟩)] w fun e w' => e = .returned (.int .i64 (tot X : Int)) ∧ w' = w := by
  obtain ⟨V, t, V2, t2, rfl, e2, h1, h2, h3, h4, h5, h6⟩ := h
  exact weight_store h1
theorem duo_rweight (h : Duo wk K w s X Bs r Y Cs N) : Calls Tryz.prog 39 #[.pointer (some ⟨r, 0, none⟩)] w fun e w' => e = .returned (.int .i64 (tot Y : Int)) ∧ Below w.heap.size w w' := by
  obtain ⟨V, t, V2, t2, e1, rfl, h1, h2, h3, h4, h5, h6⟩ := h
  have := rweigh_any h2.rto (by have := h2.len; omega) h2.keys32 (by rw [h2.ent]; exact h2.fin0.2.2.1)
  rw [h2.ent] at this
  exact this
theorem duo_open (h : Duo wk K w s X Bs r Y Cs N) : Calls Tryz.prog 25 #[.pointer (some ⟨s, 0, none⟩)] w fun e w' => e = .returned (.int .i64 (Bs.length : Int)) ∧ w' = w := by
  obtain ⟨V, t, V2, t2, rfl, e2, h1, h2, h3, h4, h5, h6⟩ := h
  exact open_store h1
theorem duo_ropen (h : Duo wk K w s X Bs r Y Cs N) : Calls Tryz.prog 40 #[.pointer (some ⟨r, 0, none⟩)] w fun e w' => e = .returned (.int .i64 (Cs.length : Int)) ∧ w' = w := by
  obtain ⟨V, t, V2, t2, e1, rfl, h1, h2, h3, h4, h5, h6⟩ := h
  have := ropen_any h2.rto
  rw [h2.count] at this
  exact this
theorem duo_entries (h : Duo wk K w s X Bs r Y Cs N) : Calls Tryz.prog 26 #[.pointer (some ⟨s, 0, none⟩)] w fun e w' => ∃ sv es, e = .returned sv ∧ mapK Prod.snd es = X ∧ EnO w' w.heap.size sv es ∧ Below w.heap.size w w' := by
  obtain ⟨V, t, V2, t2, rfl, e2, h1, h2, h3, h4, h5, h6⟩ := h
  exact entries_store h1
theorem duo_rentries (h : Duo wk K w s X Bs r Y Cs N) : Calls Tryz.prog 37 #[.pointer (some ⟨r, 0, none⟩)] w fun e w' => ∃ sv es, e = .returned sv ∧ mapK Prod.snd es = Y ∧ EnO w' w.heap.size sv es ∧ Below w.heap.size w w' := by
  obtain ⟨V, t, V2, t2, e1, rfl, h1, h2, h3, h4, h5, h6⟩ := h
  have := rentries_any h2.rto (by have := h2.len; omega) h2.keys32 h2.rights
  rw [h2.ent] at this
  exact this
theorem Duo.facts (h : Duo wk K w s X Bs r Y Cs N) : X.length ≤ 128 ∧ (∀ p ∈ X, p.1.size ≤ 32) ∧ Y.length ≤ 128 ∧ (∀ p ∈ Y, p.1.size ≤ 32) := by
  obtain ⟨V, t, V2, t2, e1, rfl, h1, h2, h3, h4, h5, h6⟩ := h
  refine ⟨h1.len, fun p hp => (h1.key p hp).1.2, h2.fin0.2.1, fun p hp => ?_⟩
  have h3 : (decide (1 ≤ p.1.size) && decide (p.1.size ≤ 32)) = true := h2.fin0.2.2.2.1 p hp
  simp at h3
  exact h3.2
end
end Go.Proofs.YtdaooapfokhfcaaGreat

namespace Go.Proofs.YtdaooapfokhfcaaGreat
open Go.RowKit

/-- what pick answers -/
def pickI (c n : Int) : Int := (if c < 0 then -(c + 1) else c) % n

set_option maxHeartbeats 400000 in
theorem pick_any (c n : Int) (w : World) (h0 : -9223372036854775808 ≤ c) (h1 : c ≤ 9223372036854775807) (n0 : 0 < n) (n1 : n ≤ 9223372036854775807) :
    Calls Tryz.prog 27 #[.int .i64 c, .int .i64 n] w fun e w' => e = .returned (.int .i64 (pickI c n)) ∧ w' = w := by
  by_cases hc : c < 0
  · have e1 : (-(c + 1)).tmod n = pickI c n := by rw [Int.tmod_eq_emod_of_nonneg (by omega)]; simp [pickI, hc]
    have hb : 0 ≤ pickI c n ∧ pickI c n < n := by unfold pickI; exact ⟨Int.emod_nonneg _ (by omega), Int.emod_lt_of_pos _ n0⟩
    generalize pickI c n = r at *
    have hn : ¬ n = 0 := by omega
    have hn1 : ¬ n = -1 := by omega
    go_enter Tryz.func27, Tryz.ntmps27
    go_wp2
    go_ret
    exact ⟨rfl, rfl⟩
  · have e1 : c.tmod n = pickI c n := by rw [Int.tmod_eq_emod_of_nonneg (by omega)]; simp [pickI, hc]
    have hb : 0 ≤ pickI c n ∧ pickI c n < n := by unfold pickI; exact ⟨Int.emod_nonneg _ (by omega), Int.emod_lt_of_pos _ n0⟩
    generalize pickI c n = r at *
    have hn : ¬ n = 0 := by omega
    have hn1 : ¬ n = -1 := by omega
    go_enter Tryz.func27, Tryz.ntmps27
    go_wp2
    go_ret
    exact ⟨rfl, rfl⟩
end Go.Proofs.YtdaooapfokhfcaaGreat
