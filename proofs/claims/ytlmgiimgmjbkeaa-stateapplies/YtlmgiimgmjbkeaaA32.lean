/-
  state.sides over two rows of entries: the call, and what it hands out as a range wants it; no conditions but the form's own reach.
  Changes that came out, each its owner's; no conditions.
-/
import Derived.Test.YtlmgiimgmjbkeaaA31
import Derived.Test.YtlmgiimgmjbkeaaA15
import Derived.Deep.AppendLies
set_option linter.unusedVariables false
set_option linter.unusedSimpArgs false
namespace Go.Proofs.Ytlmgiimgmjbkeaa
open Go.RowKit Go.Shelf
set_option linter.unusedVariables false
set_option linter.unusedSimpArgs false

/-- the four boxes of what sides hands out -/
structure SidesE (w : World) (al : Option Addr) (m1 c1 : Nat) (bl : Option Addr) (m2 c2 p1 p2 p3 p4 : Nat) : Prop where
  h1 : w.heap[p1]? = some (.cells #[.slice al m1 c1] 22 (0, 0))
  h2 : w.heap[p2]? = some (.cells #[.slice bl m2 c2] 22 (0, 0))
  h3 : w.heap[p3]? = some (.cells #[.func (.func 22) #[] #[]] 53 (0, 0))
  h4 : w.heap[p4]? = some (.cells #[.func (.func 22) #[] #[]] 53 (0, 0))

theorem SidesE.to {w w' : World} {al bl : Option Addr} {m1 c1 m2 c2 p1 p2 p3 p4 : Nat} (h : SidesE w al m1 c1 bl m2 c2 p1 p2 p3 p4) (hb : ∀ b, b = p1 ∨ b = p2 ∨ b = p3 ∨ b = p4 → w'.heap[b]? = w.heap[b]?) : SidesE w' al m1 c1 bl m2 c2 p1 p2 p3 p4 :=
  ⟨(hb _ (Or.inl rfl)).trans h.h1, (hb _ (Or.inr (Or.inl rfl))).trans h.h2, (hb _ (Or.inr (Or.inr (Or.inl rfl)))).trans h.h3, (hb _ (Or.inr (Or.inr (Or.inr rfl)))).trans h.h4⟩

theorem SidesE.lt {w : World} {al bl : Option Addr} {m1 c1 m2 c2 p1 p2 p3 p4 : Nat} (h : SidesE w al m1 c1 bl m2 c2 p1 p2 p3 p4) : p1 < w.heap.size ∧ p2 < w.heap.size ∧ p3 < w.heap.size ∧ p4 < w.heap.size :=
  ⟨(Array.getElem?_eq_some_iff.1 h.h1).1, (Array.getElem?_eq_some_iff.1 h.h2).1, (Array.getElem?_eq_some_iff.1 h.h3).1, (Array.getElem?_eq_some_iff.1 h.h4).1⟩

set_option maxRecDepth 100000 in
set_option maxHeartbeats 1000000 in
theorem sidesE_call (al bl : Option Addr) (m1 c1 m2 c2 : Nat) (w : World) :
    Calls Try.prog 21 #[.slice al m1 c1, .slice bl m2 c2, .func (.func 22) #[] #[], .func (.func 22) #[] #[]] w fun e w' => ∃ p1 p2 p3 p4, e = .returned (.func (.func 44) #[] #[.pointer (some ⟨p1, 0, none⟩), .pointer (some ⟨p2, 0, none⟩), .pointer (some ⟨p3, 0, none⟩), .pointer (some ⟨p4, 0, none⟩)]) ∧ SidesE w' al m1 c1 bl m2 c2 p1 p2 p3 p4 ∧ (w.heap.size ≤ p1 ∧ w.heap.size ≤ p2 ∧ w.heap.size ≤ p3 ∧ w.heap.size ≤ p4) ∧ Below w.heap.size w w' := by
  obtain ⟨p1, hp1⟩ : ∃ p, w.heap.size = p := ⟨_, rfl⟩
  obtain ⟨w1, hw1⟩ : ∃ w1, w.alloc (.cells #[.slice al m1 c1] 22) = w1 := ⟨_, rfl⟩
  obtain ⟨p2, hp2⟩ : ∃ p, w1.heap.size = p := ⟨_, rfl⟩
  obtain ⟨w2, hw2⟩ : ∃ w2, w1.alloc (.cells #[.slice bl m2 c2] 22) = w2 := ⟨_, rfl⟩
  obtain ⟨p3, hp3⟩ : ∃ p, w2.heap.size = p := ⟨_, rfl⟩
  obtain ⟨w3, hw3⟩ : ∃ w3, w2.alloc (.cells #[.func (.func 22) #[] #[]] 53) = w3 := ⟨_, rfl⟩
  obtain ⟨p4, hp4⟩ : ∃ p, w3.heap.size = p := ⟨_, rfl⟩
  obtain ⟨w4, hw4⟩ : ∃ w4, w3.alloc (.cells #[.func (.func 22) #[] #[]] 53) = w4 := ⟨_, rfl⟩
  have n1 : w1.heap[p1]? = some (.cells #[.slice al m1 c1] 22 (0, 0)) := by rw [← hw1, ← hp1]; exact heap_alloc_new w _
  have n2 : w2.heap[p2]? = some (.cells #[.slice bl m2 c2] 22 (0, 0)) := by rw [← hw2, ← hp2]; exact heap_alloc_new w1 _
  have n3 : w3.heap[p3]? = some (.cells #[.func (.func 22) #[] #[]] 53 (0, 0)) := by rw [← hw3, ← hp3]; exact heap_alloc_new w2 _
  have n4 : w4.heap[p4]? = some (.cells #[.func (.func 22) #[] #[]] 53 (0, 0)) := by rw [← hw4, ← hp4]; exact heap_alloc_new w3 _
  have b1 : Below w.heap.size w w1 := by rw [← hw1]; exact (Below.refl _ _).alloc (Nat.le_refl _) _
  have b2 : Below w1.heap.size w1 w2 := by rw [← hw2]; exact (Below.refl _ _).alloc (Nat.le_refl _) _
  have b3 : Below w2.heap.size w2 w3 := by rw [← hw3]; exact (Below.refl _ _).alloc (Nat.le_refl _) _
  have b4 : Below w3.heap.size w3 w4 := by rw [← hw4]; exact (Below.refl _ _).alloc (Nat.le_refl _) _
  have s1 : w1.heap.size = p1 + 1 := by rw [← hw1, ← hp1]; simp
  have s2 : w2.heap.size = p1 + 2 := by rw [← hw2]; simp [s1]
  have s3 : w3.heap.size = p1 + 3 := by rw [← hw3]; simp [s2]
  have HF : Hid (SidesE w4 al m1 c1 bl m2 c2 p1 p2 p3 p4 ∧ (w.heap.size ≤ p1 ∧ w.heap.size ≤ p2 ∧ w.heap.size ≤ p3 ∧ w.heap.size ≤ p4) ∧ Below w.heap.size w w4) := hide ⟨⟨(b4.block _ (by omega)).trans ((b3.block _ (by omega)).trans ((b2.block _ (by omega)).trans n1)), (b4.block _ (by omega)).trans ((b3.block _ (by omega)).trans n2), (b4.block _ (by omega)).trans n3, n4⟩, ⟨by omega, by omega, by omega, by omega⟩, b1.trans ((b2.trans ((b3.trans (b4.mono (by omega))).mono (by omega))).mono (by omega))⟩
  clear n1 n2 n3 n4 b1 b2 b3 b4 s1 s2 s3
  go_enter Try.func21, Try.ntmps21
  go_wp2_with fail
  go_ret
  obtain ⟨f1, f2, f3⟩ := unhide HF
  exact ⟨p1, p2, p3, p4, rfl, f1, by first | exact f2 | (rw [← hp1]; omega) | omega, by first | exact f3 | (rw [← hp1]; exact f3)⟩

/-- .. as the laws of a range want it -/
theorem sides_stopsE {α : Type} (en : α → Option Ce × Option Ce) (n : Nat) (hn : 1 ≤ n) (ps : List α) (p1 p2 p3 p4 m1 c1 m2 c2 : Nat) (al bl : Option Addr) (ka kb : List ByteArray) (CA CB : Nat → Ce) (N : Nat → Prop) (Ts : TypeId → Prop) (hTs : Ts 55) (w : World) (hS : SidesE w al m1 c1 bl m2 c2 p1 p2 p3 p4)
    (hN : N p1 ∧ N p2 ∧ N p3 ∧ N p4) (hNl : ∀ b, N b → b < w.heap.size) (hm1 : ka.length = m1) (hm2 : kb.length = m2) (hb1 : m1 ≤ 140737488351232) (hb2 : m2 ≤ 140737488351232) (hA : RwE w N ka al CA) (hB : RwE w N kb bl CB)
    (hps : ps.map en = (sdN ka kb (m1 + m2) 0 0).map (fun x => (x.1.map CA, x.2.map CB))) :
    SeqStopsK Fence.wide n Try.prog 44 #[.pointer (some ⟨p1, 0, none⟩), .pointer (some ⟨p2, 0, none⟩), .pointer (some ⟨p3, 0, none⟩), .pointer (some ⟨p4, 0, none⟩)] (fun x => #[.agg (sdE (en x).1).toArray, .agg (sdE (en x).2).toArray]) (KeepS N Ts) (fun xs => xs = ps) (fun pre => pre <+: ps) ps.length w := fun l J Jx W hW hJ _ hY h0 => by
  obtain ⟨l1, l2, l3, l4⟩ := hS.lt
  exact sides_inE en n hn l ps p1 p2 p3 p4 m1 c1 m2 c2 al bl ka kb CA CB N Ts hTs W ((hW.block _ l1).trans hS.h1) ((hW.block _ l2).trans hS.h2) ((hW.block _ l3).trans hS.h3) ((hW.block _ l4).trans hS.h4) hN (fun b hb => Nat.lt_of_lt_of_le (hNl b hb) hW.size) hm1 hm2 hb1 hb2 (hA.to (fun b hb => hW.block b (hNl b hb))) (hB.to (fun b hb => hW.block b (hNl b hb))) hps J Jx hJ hY h0

/-- an entry's cells out of a list of its value's -/
def toCe (k : ByteArray) : List Value → Ce
  | [.int _ x0, .int _ x1, .string x2, .slice a l c, .slice a' l' c'] => (k, x0, x1, x2, a, l, c, a', l', c')
  | _ => (k, 0, 0, ⟨#[]⟩, none, 0, 0, none, 0, 0)

theorem IsE.rwE {w : World} {B : Nat} {es : List En} {al : Option Addr} {cl : Nat} (h : IsE w (fun b => b < B) es al cl) (hB : B ≤ w.heap.size) : ∃ C, RwE w (fun b => b < B) (keysE es) al C ∧ ∀ i e, es[i]? = some e → (C i).1 = e.1 ∧ IsV w B e.2 (.agg (ceL (C i)).tail.toArray) := by
  obtain ⟨V, h⟩ := h
  have key : ∀ i e, es[i]? = some e → ceL (toCe ((keysE es).getD i ⟨#[]⟩) (V i)) = .string e.1 :: V i ∧ (toCe ((keysE es).getD i ⟨#[]⟩) (V i)).1 = e.1 := by
    intro i e he
    have hk : (keysE es).getD i ⟨#[]⟩ = e.1 := by rw [List.getD_eq_getElem?_getD]; simp [keysE, he]
    obtain ⟨_, hp⟩ := h.hv i e he
    obtain ⟨k', n', s', l', ks', al', ak', cl', ck', hy', hx⟩ := hp.shape
    have hVi : V i = [.int .i64 k', .int .i64 n', .string s', .slice al' l'.length cl', .slice ak' ks'.length ck'] := by
      have h1 := Value.agg.inj hx
      have h2 := congrArg Array.toList h1
      simpa using h2
    rw [hVi, hk]
    exact ⟨rfl, rfl⟩
  refine ⟨fun i => toCe ((keysE es).getD i ⟨#[]⟩) (V i), fun i k hi => ?_, fun i e he => ?_⟩
  · obtain ⟨e, he, hek⟩ : ∃ e, es[i]? = some e ∧ e.1 = k := by
      unfold keysE at hi
      rw [List.getElem?_map, Option.map_eq_some_iff] at hi
      exact hi
    obtain ⟨k1, k2⟩ := key i e he
    refine ⟨by rw [k2, hek], ?_⟩
    cases al with
    | none => have := (h.nl rfl).1; have := (List.getElem?_eq_some_iff.1 he).1; omega
    | some a =>
      obtain ⟨q1, q2⟩ := h.hl a rfl i e he
      exact ⟨a, rfl, q1, Nat.lt_of_lt_of_le q1 hB, fun j v hv => q2 j v (by rw [k1] at hv; exact hv)⟩
  · obtain ⟨k1, k2⟩ := key i e he
    refine ⟨k2, ?_⟩
    rw [k1]
    exact (h.hv i e he).2

theorem RwE.weak {w : World} {N N' : Nat → Prop} {ka : List ByteArray} {al : Option Addr} {C : Nat → Ce} (h : RwE w N ka al C) (hN : ∀ b, N b → N' b) : RwE w N' ka al C := fun i k hi => by
  obtain ⟨h1, a, h2, h3, h4, h5⟩ := h i k hi
  exact ⟨h1, a, h2, hN _ h3, h4, h5⟩

/-- which items there are -/
theorem sdN_mem (ka kb : List ByteArray) : ∀ (f i j : Nat) (x : Option Nat × Option Nat), x ∈ sdN ka kb f i j → (∀ a, x.1 = some a → a < ka.length) ∧ (∀ b, x.2 = some b → b < kb.length)
  | 0, _, _, x, h => by cases h
  | f + 1, i, j, x, h => by
    unfold sdN at h
    split at h
    · rcases List.mem_cons.1 h with h | h
      · subst h
        constructor
        · intro a ha
          dsimp only at ha
          split at ha
          · rename_i hA
            cases ha
            unfold inA at hA
            rcases Nat.lt_or_ge i ka.length with hl | hl
            · exact hl
            · rw [List.getElem?_eq_none hl] at hA; simp at hA
          · cases ha
        · intro b hb
          dsimp only at hb
          split at hb
          · rename_i hB
            cases hb
            unfold inB at hB
            rcases Nat.lt_or_ge j kb.length with hl | hl
            · exact hl
            · rw [List.getElem?_eq_none hl] at hB; cases hk : ka[i]? <;> rw [hk] at hB <;> simp at hB
          · cases hb
      · exact sdN_mem ka kb f _ _ x h
    · cases h

theorem sdN_attach (ka kb : List ByteArray) (CA CB : Nat → Ce) (f i j : Nat) : (sdN ka kb f i j).attach.map (fun x => (x.1.1.map CA, x.1.2.map CB)) = (sdN ka kb f i j).map (fun x => (x.1.map CA, x.2.map CB)) := by
  have : (sdN ka kb f i j).attach.map ((fun x : Option Nat × Option Nat => (x.1.map CA, x.2.map CB)) ∘ Subtype.val) = (sdN ka kb f i j).map (fun x => (x.1.map CA, x.2.map CB)) := by rw [← List.map_map, List.attach_map_subtype_val]
  exact this
end Go.Proofs.Ytlmgiimgmjbkeaa

namespace Go.Proofs.Ytlmgiimgmjbkeaa
open Go.RowKit Go.Shelf
set_option linter.unusedVariables false
set_option linter.unusedSimpArgs false

/-- a value's cells -/
abbrev Th5 := Int × Int × ByteArray × Option Addr × Nat × Nat × Option Addr × Nat × Nat
def th5 : Th5 → List Value
  | (t0, t1, t2, t3, t4, t5, t6, t7, t8) => [.int .i64 t0, .int .i64 t1, .string t2, .slice t3 t4 t5, .slice t6 t7 t8]

theorem isP_th5 {w : World} {P : Nat → Prop} {v : Vl} {x : Value} (h : IsP w P v x) : ∃ c : Th5, x = .agg (th5 c).toArray := by
  obtain ⟨kind, n, s, l, ks, al, ak, cl, ck, _, rfl⟩ := h.shape
  exact ⟨(kind, n, s, al, l.length, cl, ak, ks.length, ck), rfl⟩

/-- a change as it came out: its key, whether it is gone, its value's cells, its value -/
abbrev Co := (ByteArray × Bool) × (Th5 × Vl)
def cellsC (cs : List Co) : List Value := cs.flatMap (fun p => .string p.1.1 :: .bool p.1.2 :: th5 p.2.1)

section
variable {w w' : World}
def tyOf (w : World) (j : Nat) (T : TypeId) : Prop := ∃ c, w.heap[j]? = some (.cells c T (0, 0))

theorem ty_ne {a b : Nat} {S T : TypeId} (ha : tyOf w a S) (hb : tyOf w b T) (h : S ≠ T) : a ≠ b := fun e => by
  subst e
  obtain ⟨c, hc⟩ := ha
  obtain ⟨d, hd⟩ := hb
  rw [hc] at hd
  simp only [Option.some.injEq, Obj.cells.injEq] at hd
  exact h hd.2.1

theorem row_ty {base : Nat} {T : TypeId} {σ n : Nat} {v : Value} {xs : List Value} (h : w.ownsRow base T σ v n xs) {b : Nat} (hb : v.ownBlock = some b) : tyOf w b T := by
  rcases h.2 with ⟨rfl, _⟩ | ⟨g, cap, cur, rfl, _, hg, _⟩
  · cases hb
  · cases hb
    exact ⟨cur, hg⟩

theorem row_to {base : Nat} {T : TypeId} {σ n : Nat} {v : Value} {xs : List Value} (h : w.ownsRow base T σ v n xs) (hw : ∀ b, v.ownBlock = some b → w'.heap[b]? = w.heap[b]?) : w'.ownsRow base T σ v n xs := by
  refine ⟨h.1, ?_⟩
  rcases h.2 with hn | ⟨g, cap, cur, rfl, hb, hg, rest⟩
  · exact .inl hn
  · exact .inr ⟨g, cap, cur, rfl, hb, (hw g rfl).trans hg, rest⟩
end

/-- a block of cells -/
def isC (w : World) (b : Nat) : Prop := ∃ c T f, w.heap[b]? = some (.cells c T f)

theorem cell_isC {w : World} {a : Addr} {v : Value} (h : w.cell? a = some v) : isC w a.block := by
  unfold World.cell? at h
  split at h
  · rename_i c T f e
    exact ⟨c, T, f, e⟩
  · cases h

theorem VF.isC {w : World} {P : Nat → Prop} {kind n : Int} {s : ByteArray} {l : List Vl} {ks : List ByteArray} {al ak : Option Addr} {cl ck : Nat} {V : Nat → List Value} (h : VF w P kind n s l ks al ak cl ck V) : VF w (fun b => P b ∧ isC w b) kind n s l ks al ak cl ck V where
  bk := h.bk
  bn := h.bn
  bs := h.bs
  nl := h.nl
  nk := h.nk
  ll := h.ll
  lk := h.lk
  bl := h.bl
  bc := h.bc
  bq := h.bq
  hl := fun a ha i hi => ⟨⟨(h.hl a ha i hi).1, by
    have h5 := h.hv i hi
    have h0 := (h.hl a ha i hi).2 0 _ (List.getElem?_eq_getElem (by omega))
    have := cell_isC h0
    rwa [block_add, block_add] at this⟩, (h.hl a ha i hi).2⟩
  hv := h.hv
  hk := fun a ha i t ht => ⟨⟨(h.hk a ha i t ht).1, by
    have := cell_isC (h.hk a ha i t ht).2
    rwa [block_add] at this⟩, (h.hk a ha i t ht).2⟩
  bt := h.bt

theorem IsPL.isC {w : World} {P : Nat → Prop} : ∀ (l : List Vl) (V : Nat → List Value), IsPL w P l V → IsPL w (fun b => P b ∧ isC w b) l V
  | [], V, _ => by simp only [IsPL]
  | .mk kind n s l ks :: r, V, h => by
    simp only [IsPL] at h ⊢
    obtain ⟨⟨al, ak, cl, ck, V', hx, hf, hl⟩, hr⟩ := h
    exact ⟨⟨al, ak, cl, ck, V', hx, hf.isC, IsPL.isC l V' hl⟩, IsPL.isC r _ hr⟩

theorem Ty.isC {w : World} {P : Nat → Prop} : ∀ (r : Nat) (x : Value), Ty w P r x → Ty w (fun b => P b ∧ isC w b) r x
  | 0, x, h => h
  | r + 1, x, h => by
    obtain ⟨k, n, s, al, ll, cl, ak, m, ck, e, hl, hk⟩ := h
    refine ⟨k, n, s, al, ll, cl, ak, m, ck, e, ?_, ?_⟩
    · rcases hl with h | ⟨b, cs, h1, h2, h3, h4, h5, h6, h7, h8⟩
      · exact Or.inl h
      · refine Or.inr ⟨b, cs, h1, ⟨h2, _, _, _, h3⟩, h3, h4, h5, h6, h7, fun i hi => ?_⟩
        obtain ⟨y0, y1, y2, y3, y4, g, hr⟩ := h8 i hi
        exact ⟨y0, y1, y2, y3, y4, g, Ty.isC r _ hr⟩
    · rcases hk with h | ⟨b, cs, h1, h2, h3, h4⟩
      · exact Or.inl h
      · exact Or.inr ⟨b, cs, h1, ⟨h2, _, _, _, h3⟩, h3, h4⟩

theorem IsQ.isC {w : World} {P : Nat → Prop} {v : Vl} {x : Value} (h : IsQ w P v x) : IsQ w (fun b => P b ∧ isC w b) v x := by
  obtain ⟨⟨al, ak, cl, ck, V, hx, hf, hl⟩, ht⟩ := h
  exact ⟨⟨al, ak, cl, ck, V, hx, hf.isC, IsPL.isC v.l V hl⟩, Ty.isC _ _ ht⟩

/-- changes that came out, each its owner's, all from block lo on -/
structure ChO (w : World) (lo : Nat) (sv : Value) (es : List Co) : Prop where
  row : w.ownsRow lo 36 7 sv es.length (cellsC es)
  el : ∀ p ∈ es, IsQ w (fun b => (lo ≤ b ∧ b < w.heap.size ∧ some b ≠ sv.ownBlock) ∧ isC w b) p.2.2 (.agg (th5 p.2.1).toArray)
  rg : ∃ m : Nat → Nat, (∀ i, m i ≤ m (i + 1)) ∧ ∀ (i : Nat) (p : Co), es[i]? = some p → IsQ w (fun b => ((lo ≤ b ∧ b < w.heap.size ∧ some b ≠ sv.ownBlock) ∧ isC w b) ∧ m i ≤ b ∧ b < m (i + 1)) p.2.2 (.agg (th5 p.2.1).toArray)

theorem ChO.to {w w' : World} {lo lo' : Nat} {sv : Value} {es : List Co} (h : ChO w lo sv es) (hl : lo' ≤ lo) (hs : w.heap.size ≤ w'.heap.size) (hw : ∀ b, lo ≤ b → b < w.heap.size → isC w b → w'.heap[b]? = w.heap[b]?) : ChO w' lo' sv es := by
  have key : ∀ b, ((lo ≤ b ∧ b < w.heap.size ∧ some b ≠ sv.ownBlock) ∧ isC w b) → ((lo' ≤ b ∧ b < w'.heap.size ∧ some b ≠ sv.ownBlock) ∧ isC w' b) := fun b hb => by
    refine ⟨⟨by have := hb.1.1; omega, by have := hb.1.2.1; omega, hb.1.2.2⟩, ?_⟩
    obtain ⟨c, T, f, e⟩ := hb.2
    exact ⟨c, T, f, (hw b hb.1.1 hb.1.2.1 hb.2).trans e⟩
  obtain ⟨m, hm, hr⟩ := h.rg
  refine ⟨own_low (row_to h.row (fun b hb => hw b (h.row.lt b hb).1 (h.row.lt b hb).2 ?_)) hl, fun p hp => (h.el p hp).to (fun b hb => hw b hb.1.1 hb.1.2.1 hb.2) key, m, hm, fun i p hp => (hr i p hp).to (fun b hb => hw b hb.1.1.1 hb.1.1.2.1 hb.1.2) (fun b hb => ⟨key b hb.1, hb.2⟩)⟩
  obtain ⟨c, hc⟩ := row_ty h.row hb
  exact ⟨_, _, _, hc⟩

theorem ChO.later {w w' : World} {lo : Nat} {sv : Value} {es : List Co} (h : ChO w lo sv es) (hb : Below w.heap.size w w') : ChO w' lo sv es := h.to (Nat.le_refl _) hb.size (fun b _ hl _ => hb.block b hl)

theorem ChO.nil (w : World) (lo : Nat) : ChO w lo (.slice none 0 0) [] := ⟨World.ownsRow_nil _ _ _ _, (fun p hp => by cases hp), fun i => i, fun i => Nat.le_succ i, fun i p hp => by cases hp⟩

/-- one more -/
theorem ChO.push {w w4 w5 : World} {lo g cap n : Nat} {sv : Value} {es : List Co} {k : ByteArray} {gg : Bool} {c : Th5} {y : Vl} (h : ChO w lo sv es) (hn : es.length = n) (hb : Below w.heap.size w w4) (hlo : lo ≤ w.heap.size) (hq : IsQ w4 (fun b => w.heap.size ≤ b ∧ b < w4.heap.size) y (.agg (th5 c).toArray)) (ho : w5.ownsRow lo 36 7 (.slice (some ⟨g, 0, none⟩) (n + 1) cap) (n + 1) (cellsC es ++ (.string k :: .bool gg :: th5 c))) (hg : w4.grownBy w5 sv.ownBlock) (hat : sv.ownBlock = some g ∨ g = w4.heap.size) :
    ChO w5 lo (.slice (some ⟨g, 0, none⟩) (n + 1) cap) (es ++ [((k, gg), (c, y))]) := by
  have hl : (es ++ [((k, gg), (c, y))]).length = n + 1 := by simp [hn]
  have hne : ∀ b, b < w4.heap.size → some b ≠ sv.ownBlock → some b ≠ (Value.slice (some ⟨g, 0, none⟩) (n + 1) cap).ownBlock := fun b h1 h2 e => by
    have e2 : b = g := by
      have : (Value.slice (some ⟨g, 0, none⟩) (n + 1) cap).ownBlock = some g := rfl
      rw [this] at e
      exact Option.some.inj e
    rcases hat with hat | hat
    · rw [e2] at h2
      exact h2 hat.symm
    · omega
  have hnb : ∀ b, w.heap.size ≤ b → some b ≠ sv.ownBlock := fun b h1 e => by
    have := (h.row.lt b e.symm).2
    omega
  have zb := hb.size
  have old : ∀ (P : Nat → Prop) (p : Co), IsQ w4 (fun b => ((lo ≤ b ∧ b < w4.heap.size ∧ some b ≠ sv.ownBlock) ∧ isC w4 b) ∧ P b) p.2.2 (.agg (th5 p.2.1).toArray) → IsQ w5 (fun b => ((lo ≤ b ∧ b < w5.heap.size ∧ some b ≠ (Value.slice (some ⟨g, 0, none⟩) (n + 1) cap).ownBlock) ∧ isC w5 b) ∧ P b) p.2.2 (.agg (th5 p.2.1).toArray) := fun P p h4 => by
    refine h4.to (fun b hb' => hg.block b hb'.1.1.2.1 hb'.1.1.2.2) (fun b hb' => ⟨⟨⟨hb'.1.1.1, Nat.lt_of_lt_of_le hb'.1.1.2.1 hg.size, hne b hb'.1.1.2.1 hb'.1.1.2.2⟩, ?_⟩, hb'.2⟩)
    obtain ⟨c', T, f, e⟩ := hb'.1.2
    exact ⟨c', T, f, (hg.block b hb'.1.1.2.1 hb'.1.1.2.2).trans e⟩
  have new : IsQ w5 (fun b => ((lo ≤ b ∧ b < w5.heap.size ∧ some b ≠ (Value.slice (some ⟨g, 0, none⟩) (n + 1) cap).ownBlock) ∧ isC w5 b) ∧ w.heap.size ≤ b ∧ b < w4.heap.size) y (.agg (th5 c).toArray) := by
    refine hq.isC.to (fun b hb' => hg.block b hb'.1.2 (hnb b hb'.1.1)) (fun b hb' => ⟨⟨⟨Nat.le_trans hlo hb'.1.1, Nat.lt_of_lt_of_le hb'.1.2 hg.size, hne b hb'.1.2 (hnb b hb'.1.1)⟩, ?_⟩, hb'.1⟩)
    obtain ⟨c', T, f, e⟩ := hb'.2
    exact ⟨c', T, f, (hg.block b hb'.1.2 (hnb b hb'.1.1)).trans e⟩
  have h4 := h.later hb
  refine ⟨?_, fun p hp => ?_, ?_⟩
  · rw [hl]
    have e : cellsC (es ++ [((k, gg), (c, y))]) = cellsC es ++ (.string k :: .bool gg :: th5 c) := by simp [cellsC]
    rw [e]
    exact ho
  · rcases List.mem_append.1 hp with hp | hp
    · exact (old (fun _ => True) p ((h4.el p hp).weak (fun b hb => ⟨hb, trivial⟩))).weak (fun b hb => hb.1)
    · rw [List.mem_singleton] at hp
      subst hp
      exact new.weak (fun b hb => hb.1)
  · obtain ⟨m, hm, hr⟩ := h.rg
    refine ⟨fun i => if i ≤ n then min (m i) w.heap.size else w4.heap.size, fun i => ?_, fun i p hp => ?_⟩
    · dsimp only
      have := hm i
      split <;> split <;> omega
    · have hle : i ≤ n := by
        have := (List.getElem?_eq_some_iff.1 hp).1
        rw [hl] at this
        omega
      dsimp only
      rw [if_pos hle]
      by_cases hi : i < n
      · rw [if_pos (show i + 1 ≤ n by omega)]
        rw [List.getElem?_append_left (by omega)] at hp
        have h5 := (hr i p hp).to (w' := w4) (Q := fun b => ((lo ≤ b ∧ b < w4.heap.size ∧ some b ≠ sv.ownBlock) ∧ isC w4 b) ∧ (min (m i) w.heap.size ≤ b ∧ b < min (m (i + 1)) w.heap.size)) (fun b hb' => hb.block b hb'.1.1.2.1) (fun b hb' => by
          refine ⟨⟨⟨hb'.1.1.1, by have := hb'.1.1.2.1; omega, hb'.1.1.2.2⟩, ?_⟩, by have := hb'.2.1; omega, by have := hb'.2.2; have := hb'.1.1.2.1; omega⟩
          obtain ⟨c', T, f, e⟩ := hb'.1.2
          exact ⟨c', T, f, (hb.block b hb'.1.1.2.1).trans e⟩)
        exact old _ p h5
      · have e : i = n := by omega
        subst e
        rw [if_neg (by omega)]
        rw [List.getElem?_append_right (by omega), hn, Nat.sub_self] at hp
        cases hp
        exact new.weak (fun b hb => ⟨hb.1, by have := hb.2.1; omega, hb.2.2⟩)

theorem infoCh : (Try.prog.info? 36).map (fun i => (i.zero, i.size, i.bytes)) = some (some (.agg #[.string ⟨#[]⟩, .bool false, .int .i64 0, .int .i64 0, .string ⟨#[]⟩, .slice none 0 0, .slice none 0 0]), 7, 104) := by kernel_rfl
end Go.Proofs.Ytlmgiimgmjbkeaa
