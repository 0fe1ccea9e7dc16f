/-
  state.sides over two rows of entries: the call, and what it hands out as a range wants it; no conditions but the form's own reach.
-/
import Derived.Test.YtjhnbopejnpbeaaA33
set_option linter.unusedVariables false
set_option linter.unusedSimpArgs false
namespace Go.Proofs.Ytjhnbopejnpbeaa
open Go.RowKit Go.Shelf
set_option linter.unusedVariables false
set_option linter.unusedSimpArgs false

/-- the four boxes of what sides hands out -/
structure SidesE (w : World) (al : Option Addr) (m1 c1 : Nat) (bl : Option Addr) (m2 c2 p1 p2 p3 p4 : Nat) : Prop where
  h1 : w.heap[p1]? = some (.cells #[.slice al m1 c1] 22 (0, 0))
  h2 : w.heap[p2]? = some (.cells #[.slice bl m2 c2] 22 (0, 0))
  h3 : w.heap[p3]? = some (.cells #[.func (.func 22) #[] #[]] 53 (0, 0))
  h4 : w.heap[p4]? = some (.cells #[.func (.func 22) #[] #[]] 53 (0, 0))

theorem SidesE.to {w w' : World} {al bl : Option Addr} {m1 c1 m2 c2 p1 p2 p3 p4 : Nat} (h : SidesE w al m1 c1 bl m2 c2 p1 p2 p3 p4) (hb : ∀ b, b = p1 ∨ b = p2 ∨ b = p3 ∨ b = p4 → w'.heap[b]? = w.heap[b]?) : SidesE w' al m1 c1 bl m2 c2 p1 p2 p3 p4 :=
  ⟨(hb _ (Or.inl rfl)).trans h.h1, (hb _ (Or.inr (Or.inl rfl))).trans h.h2, (hb _ (Or.inr (Or.inr (Or.inl rfl)))).trans h.h3, (hb _ (Or.inr (Or.inr (Or.inr rfl)))).trans h.h4⟩

theorem SidesE.lt {w : World} {al bl : Option Addr} {m1 c1 m2 c2 p1 p2 p3 p4 : Nat} (h : SidesE w al m1 c1 bl m2 c2 p1 p2 p3 p4) : p1 < w.heap.size ∧ p2 < w.heap.size ∧ p3 < w.heap.size ∧ p4 < w.heap.size :=
  ⟨(Array.getElem?_eq_some_iff.1 h.h1).1, (Array.getElem?_eq_some_iff.1 h.h2).1, (Array.getElem?_eq_some_iff.1 h.h3).1, (Array.getElem?_eq_some_iff.1 h.h4).1⟩

set_option maxRecDepth 100000 in
set_option maxHeartbeats 1000000 in
theorem sidesE_call (al bl : Option Addr) (m1 c1 m2 c2 : Nat) (w : World) :
    Calls Try.prog 21 #[.slice al m1 c1, .slice bl m2 c2, .func (.func 22) #[] #[], .func (.func 22) #[] #[]] w fun e w' => ∃ p1 p2 p3 p4, e = .returned (.func (.func 44) #[] #[.pointer (some ⟨p1, 0, none⟩), .pointer (some ⟨p2, 0, none⟩), .pointer (some ⟨p3, 0, none⟩), .pointer (some ⟨p4, 0, none⟩)]) ∧ SidesE w' al m1 c1 bl m2 c2 p1 p2 p3 p4 ∧ (w.heap.size ≤ p1 ∧ w.heap.size ≤ p2 ∧ w.heap.size ≤ p3 ∧ w.heap.size ≤ p4) ∧ Below w.heap.size w w' := by
  obtain ⟨p1, hp1⟩ : ∃ p, w.heap.size = p := ⟨_, rfl⟩
  obtain ⟨w1, hw1⟩ : ∃ w1, w.alloc (.cells #[.slice al m1 c1] 22) = w1 := ⟨_, rfl⟩
  obtain ⟨p2, hp2⟩ : ∃ p, w1.heap.size = p := ⟨_, rfl⟩
  obtain ⟨w2, hw2⟩ : ∃ w2, w1.alloc (.cells #[.slice bl m2 c2] 22) = w2 := ⟨_, rfl⟩
  obtain ⟨p3, hp3⟩ : ∃ p, w2.heap.size = p := ⟨_, rfl⟩
  obtain ⟨w3, hw3⟩ : ∃ w3, w2.alloc (.cells #[.func (.func 22) #[] #[]] 53) = w3 := ⟨_, rfl⟩
  obtain ⟨p4, hp4⟩ : ∃ p, w3.heap.size = p := ⟨_, rfl⟩
  obtain ⟨w4, hw4⟩ : ∃ w4, w3.alloc (.cells #[.func (.func 22) #[] #[]] 53) = w4 := ⟨_, rfl⟩
  have n1 : w1.heap[p1]? = some (.cells #[.slice al m1 c1] 22 (0, 0)) := by rw [← hw1, ← hp1]; exact heap_alloc_new w _
  have n2 : w2.heap[p2]? = some (.cells #[.slice bl m2 c2] 22 (0, 0)) := by rw [← hw2, ← hp2]; exact heap_alloc_new w1 _
  have n3 : w3.heap[p3]? = some (.cells #[.func (.func 22) #[] #[]] 53 (0, 0)) := by rw [← hw3, ← hp3]; exact heap_alloc_new w2 _
  have n4 : w4.heap[p4]? = some (.cells #[.func (.func 22) #[] #[]] 53 (0, 0)) := by rw [← hw4, ← hp4]; exact heap_alloc_new w3 _
  have b1 : Below w.heap.size w w1 := by rw [← hw1]; exact (Below.refl _ _).alloc (Nat.le_refl _) _
  have b2 : Below w1.heap.size w1 w2 := by rw [← hw2]; exact (Below.refl _ _).alloc (Nat.le_refl _) _
  have b3 : Below w2.heap.size w2 w3 := by rw [← hw3]; exact (Below.refl _ _).alloc (Nat.le_refl _) _
  have b4 : Below w3.heap.size w3 w4 := by rw [← hw4]; exact (Below.refl _ _).alloc (Nat.le_refl _) _
  have s1 : w1.heap.size = p1 + 1 := by rw [← hw1, ← hp1]; simp
  have s2 : w2.heap.size = p1 + 2 := by rw [← hw2]; simp [s1]
  have s3 : w3.heap.size = p1 + 3 := by rw [← hw3]; simp [s2]
  have HF : Hid (SidesE w4 al m1 c1 bl m2 c2 p1 p2 p3 p4 ∧ (w.heap.size ≤ p1 ∧ w.heap.size ≤ p2 ∧ w.heap.size ≤ p3 ∧ w.heap.size ≤ p4) ∧ Below w.heap.size w w4) := hide ⟨⟨(b4.block _ (by omega)).trans ((b3.block _ (by omega)).trans ((b2.block _ (by omega)).trans n1)), (b4.block _ (by omega)).trans ((b3.block _ (by omega)).trans n2), (b4.block _ (by omega)).trans n3, n4⟩, ⟨by omega, by omega, by omega, by omega⟩, b1.trans ((b2.trans ((b3.trans (b4.mono (by omega))).mono (by omega))).mono (by omega))⟩
  clear n1 n2 n3 n4 b1 b2 b3 b4 s1 s2 s3
  go_enter Try.func21, Try.ntmps21
  go_wp2_with fail
  go_ret
  obtain ⟨f1, f2, f3⟩ := unhide HF
  exact ⟨p1, p2, p3, p4, rfl, f1, by first | exact f2 | (rw [← hp1]; omega) | omega, by first | exact f3 | (rw [← hp1]; exact f3)⟩

/-- .. as the laws of a range want it -/
theorem sides_stopsE {α : Type} (en : α → Option Ce × Option Ce) (n : Nat) (hn : 1 ≤ n) (ps : List α) (p1 p2 p3 p4 m1 c1 m2 c2 : Nat) (al bl : Option Addr) (ka kb : List ByteArray) (CA CB : Nat → Ce) (N : Nat → Prop) (Ts : TypeId → Prop) (hTs : Ts 55) (w : World) (hS : SidesE w al m1 c1 bl m2 c2 p1 p2 p3 p4)
    (hN : N p1 ∧ N p2 ∧ N p3 ∧ N p4) (hNl : ∀ b, N b → b < w.heap.size) (hm1 : ka.length = m1) (hm2 : kb.length = m2) (hb1 : m1 ≤ 140737488351232) (hb2 : m2 ≤ 140737488351232) (hA : RwE w N ka al CA) (hB : RwE w N kb bl CB)
    (hps : ps.map en = (sdN ka kb (m1 + m2) 0 0).map (fun x => (x.1.map CA, x.2.map CB))) :
    SeqStopsK Fence.wide n Try.prog 44 #[.pointer (some ⟨p1, 0, none⟩), .pointer (some ⟨p2, 0, none⟩), .pointer (some ⟨p3, 0, none⟩), .pointer (some ⟨p4, 0, none⟩)] (fun x => #[.agg (sdE (en x).1).toArray, .agg (sdE (en x).2).toArray]) (KeepS N Ts) (fun xs => xs = ps) (fun pre => pre <+: ps) ps.length w := fun l J Jx W hW hJ _ hY h0 => by
  obtain ⟨l1, l2, l3, l4⟩ := hS.lt
  exact sides_inE en n hn l ps p1 p2 p3 p4 m1 c1 m2 c2 al bl ka kb CA CB N Ts hTs W ((hW.block _ l1).trans hS.h1) ((hW.block _ l2).trans hS.h2) ((hW.block _ l3).trans hS.h3) ((hW.block _ l4).trans hS.h4) hN (fun b hb => Nat.lt_of_lt_of_le (hNl b hb) hW.size) hm1 hm2 hb1 hb2 (hA.to (fun b hb => hW.block b (hNl b hb))) (hB.to (fun b hb => hW.block b (hNl b hb))) hps J Jx hJ hY h0

/-- an entry's cells out of a list of its value's -/
def toCe (k : ByteArray) : List Value → Ce
  | [.int _ x0, .int _ x1, .string x2, .slice a l c, .slice a' l' c'] => (k, x0, x1, x2, a, l, c, a', l', c')
  | _ => (k, 0, 0, ⟨#[]⟩, none, 0, 0, none, 0, 0)

theorem IsE.rwE {w : World} {B : Nat} {es : List En} {al : Option Addr} {cl : Nat} (h : IsE w (fun b => b < B) es al cl) (hB : B ≤ w.heap.size) : ∃ C, RwE w (fun b => b < B) (keysE es) al C ∧ ∀ i e, es[i]? = some e → (C i).1 = e.1 ∧ IsV w B e.2 (.agg (ceL (C i)).tail.toArray) := by
  obtain ⟨V, h⟩ := h
  have key : ∀ i e, es[i]? = some e → ceL (toCe ((keysE es).getD i ⟨#[]⟩) (V i)) = .string e.1 :: V i ∧ (toCe ((keysE es).getD i ⟨#[]⟩) (V i)).1 = e.1 := by
    intro i e he
    have hk : (keysE es).getD i ⟨#[]⟩ = e.1 := by rw [List.getD_eq_getElem?_getD]; simp [keysE, he]
    obtain ⟨_, hp⟩ := h.hv i e he
    obtain ⟨k', n', s', l', ks', al', ak', cl', ck', hy', hx⟩ := hp.shape
    have hVi : V i = [.int .i64 k', .int .i64 n', .string s', .slice al' l'.length cl', .slice ak' ks'.length ck'] := by
      have h1 := Value.agg.inj hx
      have h2 := congrArg Array.toList h1
      simpa using h2
    rw [hVi, hk]
    exact ⟨rfl, rfl⟩
  refine ⟨fun i => toCe ((keysE es).getD i ⟨#[]⟩) (V i), fun i k hi => ?_, fun i e he => ?_⟩
  · obtain ⟨e, he, hek⟩ : ∃ e, es[i]? = some e ∧ e.1 = k := by
      unfold keysE at hi
      rw [List.getElem?_map, Option.map_eq_some_iff] at hi
      exact hi
    obtain ⟨k1, k2⟩ := key i e he
    refine ⟨by rw [k2, hek], ?_⟩
    cases al with
    | none => have := (h.nl rfl).1; have := (List.getElem?_eq_some_iff.1 he).1; omega
    | some a =>
      obtain ⟨q1, q2⟩ := h.hl a rfl i e he
      exact ⟨a, rfl, q1, Nat.lt_of_lt_of_le q1 hB, fun j v hv => q2 j v (by rw [k1] at hv; exact hv)⟩
  · obtain ⟨k1, k2⟩ := key i e he
    refine ⟨k2, ?_⟩
    rw [k1]
    exact (h.hv i e he).2

theorem RwE.weak {w : World} {N N' : Nat → Prop} {ka : List ByteArray} {al : Option Addr} {C : Nat → Ce} (h : RwE w N ka al C) (hN : ∀ b, N b → N' b) : RwE w N' ka al C := fun i k hi => by
  obtain ⟨h1, a, h2, h3, h4, h5⟩ := h i k hi
  exact ⟨h1, a, h2, hN _ h3, h4, h5⟩

/-- which items there are -/
theorem sdN_mem (ka kb : List ByteArray) : ∀ (f i j : Nat) (x : Option Nat × Option Nat), x ∈ sdN ka kb f i j → (∀ a, x.1 = some a → a < ka.length) ∧ (∀ b, x.2 = some b → b < kb.length)
  | 0, _, _, x, h => by cases h
  | f + 1, i, j, x, h => by
    unfold sdN at h
    split at h
    · rcases List.mem_cons.1 h with h | h
      · subst h
        constructor
        · intro a ha
          dsimp only at ha
          split at ha
          · rename_i hA
            cases ha
            unfold inA at hA
            rcases Nat.lt_or_ge i ka.length with hl | hl
            · exact hl
            · rw [List.getElem?_eq_none hl] at hA; simp at hA
          · cases ha
        · intro b hb
          dsimp only at hb
          split at hb
          · rename_i hB
            cases hb
            unfold inB at hB
            rcases Nat.lt_or_ge j kb.length with hl | hl
            · exact hl
            · rw [List.getElem?_eq_none hl] at hB; cases hk : ka[i]? <;> rw [hk] at hB <;> simp at hB
          · cases hb
      · exact sdN_mem ka kb f _ _ x h
    · cases h

theorem sdN_attach (ka kb : List ByteArray) (CA CB : Nat → Ce) (f i j : Nat) : (sdN ka kb f i j).attach.map (fun x => (x.1.1.map CA, x.1.2.map CB)) = (sdN ka kb f i j).map (fun x => (x.1.map CA, x.2.map CB)) := by
  have : (sdN ka kb f i j).attach.map ((fun x : Option Nat × Option Nat => (x.1.map CA, x.2.map CB)) ∘ Subtype.val) = (sdN ka kb f i j).map (fun x => (x.1.map CA, x.2.map CB)) := by rw [← List.map_map, List.attach_map_subtype_val]
  exact this
end Go.Proofs.Ytjhnbopejnpbeaa
