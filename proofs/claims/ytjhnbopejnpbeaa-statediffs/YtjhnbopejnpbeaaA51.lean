/-
  state.sides over entries and changes: the call, and what it hands out as a range wants it; no conditions but the form's own reach.
-/
import Derived.Test.YtjhnbopejnpbeaaA50
import Derived.Test.YtjhnbopejnpbeaaA39
set_option linter.unusedVariables false
set_option linter.unusedSimpArgs false
namespace Go.Proofs.Ytjhnbopejnpbeaa
open Go.RowKit Go.Shelf
set_option linter.unusedVariables false
set_option linter.unusedSimpArgs false

/-- the four boxes of what sides hands out -/
structure SidesC (w : World) (al : Option Addr) (m1 c1 : Nat) (bl : Option Addr) (m2 c2 p1 p2 p3 p4 : Nat) : Prop where
  h1 : w.heap[p1]? = some (.cells #[.slice al m1 c1] 22 (0, 0))
  h2 : w.heap[p2]? = some (.cells #[.slice bl m2 c2] 25 (0, 0))
  h3 : w.heap[p3]? = some (.cells #[.func (.func 22) #[] #[]] 53 (0, 0))
  h4 : w.heap[p4]? = some (.cells #[.func (.func 33) #[] #[]] 63 (0, 0))

theorem SidesC.to {w w' : World} {al bl : Option Addr} {m1 c1 m2 c2 p1 p2 p3 p4 : Nat} (h : SidesC w al m1 c1 bl m2 c2 p1 p2 p3 p4) (hb : ∀ b, b = p1 ∨ b = p2 ∨ b = p3 ∨ b = p4 → w'.heap[b]? = w.heap[b]?) : SidesC w' al m1 c1 bl m2 c2 p1 p2 p3 p4 :=
  ⟨(hb _ (Or.inl rfl)).trans h.h1, (hb _ (Or.inr (Or.inl rfl))).trans h.h2, (hb _ (Or.inr (Or.inr (Or.inl rfl)))).trans h.h3, (hb _ (Or.inr (Or.inr (Or.inr rfl)))).trans h.h4⟩

theorem SidesC.lt {w : World} {al bl : Option Addr} {m1 c1 m2 c2 p1 p2 p3 p4 : Nat} (h : SidesC w al m1 c1 bl m2 c2 p1 p2 p3 p4) : p1 < w.heap.size ∧ p2 < w.heap.size ∧ p3 < w.heap.size ∧ p4 < w.heap.size :=
  ⟨(Array.getElem?_eq_some_iff.1 h.h1).1, (Array.getElem?_eq_some_iff.1 h.h2).1, (Array.getElem?_eq_some_iff.1 h.h3).1, (Array.getElem?_eq_some_iff.1 h.h4).1⟩

set_option maxRecDepth 100000 in
set_option maxHeartbeats 1000000 in
theorem sidesC_call (al bl : Option Addr) (m1 c1 m2 c2 : Nat) (w : World) :
    Calls Try.prog 34 #[.slice al m1 c1, .slice bl m2 c2, .func (.func 22) #[] #[], .func (.func 33) #[] #[]] w fun e w' => ∃ p1 p2 p3 p4, e = .returned (.func (.func 52) #[] #[.pointer (some ⟨p1, 0, none⟩), .pointer (some ⟨p2, 0, none⟩), .pointer (some ⟨p3, 0, none⟩), .pointer (some ⟨p4, 0, none⟩)]) ∧ SidesC w' al m1 c1 bl m2 c2 p1 p2 p3 p4 ∧ (w.heap.size ≤ p1 ∧ w.heap.size ≤ p2 ∧ w.heap.size ≤ p3 ∧ w.heap.size ≤ p4) ∧ Below w.heap.size w w' := by
  obtain ⟨p1, hp1⟩ : ∃ p, w.heap.size = p := ⟨_, rfl⟩
  obtain ⟨w1, hw1⟩ : ∃ w1, w.alloc (.cells #[.slice al m1 c1] 22) = w1 := ⟨_, rfl⟩
  obtain ⟨p2, hp2⟩ : ∃ p, w1.heap.size = p := ⟨_, rfl⟩
  obtain ⟨w2, hw2⟩ : ∃ w2, w1.alloc (.cells #[.slice bl m2 c2] 25) = w2 := ⟨_, rfl⟩
  obtain ⟨p3, hp3⟩ : ∃ p, w2.heap.size = p := ⟨_, rfl⟩
  obtain ⟨w3, hw3⟩ : ∃ w3, w2.alloc (.cells #[.func (.func 22) #[] #[]] 53) = w3 := ⟨_, rfl⟩
  obtain ⟨p4, hp4⟩ : ∃ p, w3.heap.size = p := ⟨_, rfl⟩
  obtain ⟨w4, hw4⟩ : ∃ w4, w3.alloc (.cells #[.func (.func 33) #[] #[]] 63) = w4 := ⟨_, rfl⟩
  have n1 : w1.heap[p1]? = some (.cells #[.slice al m1 c1] 22 (0, 0)) := by rw [← hw1, ← hp1]; exact heap_alloc_new w _
  have n2 : w2.heap[p2]? = some (.cells #[.slice bl m2 c2] 25 (0, 0)) := by rw [← hw2, ← hp2]; exact heap_alloc_new w1 _
  have n3 : w3.heap[p3]? = some (.cells #[.func (.func 22) #[] #[]] 53 (0, 0)) := by rw [← hw3, ← hp3]; exact heap_alloc_new w2 _
  have n4 : w4.heap[p4]? = some (.cells #[.func (.func 33) #[] #[]] 63 (0, 0)) := by rw [← hw4, ← hp4]; exact heap_alloc_new w3 _
  have b1 : Below w.heap.size w w1 := by rw [← hw1]; exact (Below.refl _ _).alloc (Nat.le_refl _) _
  have b2 : Below w1.heap.size w1 w2 := by rw [← hw2]; exact (Below.refl _ _).alloc (Nat.le_refl _) _
  have b3 : Below w2.heap.size w2 w3 := by rw [← hw3]; exact (Below.refl _ _).alloc (Nat.le_refl _) _
  have b4 : Below w3.heap.size w3 w4 := by rw [← hw4]; exact (Below.refl _ _).alloc (Nat.le_refl _) _
  have s1 : w1.heap.size = p1 + 1 := by rw [← hw1, ← hp1]; simp
  have s2 : w2.heap.size = p1 + 2 := by rw [← hw2]; simp [s1]
  have s3 : w3.heap.size = p1 + 3 := by rw [← hw3]; simp [s2]
  have HF : Hid (SidesC w4 al m1 c1 bl m2 c2 p1 p2 p3 p4 ∧ (w.heap.size ≤ p1 ∧ w.heap.size ≤ p2 ∧ w.heap.size ≤ p3 ∧ w.heap.size ≤ p4) ∧ Below w.heap.size w w4) := hide ⟨⟨(b4.block _ (by omega)).trans ((b3.block _ (by omega)).trans ((b2.block _ (by omega)).trans n1)), (b4.block _ (by omega)).trans ((b3.block _ (by omega)).trans n2), (b4.block _ (by omega)).trans n3, n4⟩, ⟨by omega, by omega, by omega, by omega⟩, b1.trans ((b2.trans ((b3.trans (b4.mono (by omega))).mono (by omega))).mono (by omega))⟩
  clear n1 n2 n3 n4 b1 b2 b3 b4 s1 s2 s3
  go_enter Try.func34, Try.ntmps34
  go_wp2_with fail
  go_ret
  obtain ⟨f1, f2, f3⟩ := unhide HF
  exact ⟨p1, p2, p3, p4, rfl, f1, by first | exact f2 | (rw [← hp1]; omega) | omega, by first | exact f3 | (rw [← hp1]; exact f3)⟩

/-- .. as the laws of a range want it -/
theorem sides_stopsC {α : Type} (en : α → Option Ce × Option Cc) (n : Nat) (hn : 1 ≤ n) (ps : List α) (p1 p2 p3 p4 m1 c1 m2 c2 : Nat) (al bl : Option Addr) (ka kb : List ByteArray) (CA : Nat → Ce) (CB : Nat → Cc) (N : Nat → Prop) (Ts : TypeId → Prop) (hTs : Ts 55 ∧ Ts 68) (w : World) (hS : SidesC w al m1 c1 bl m2 c2 p1 p2 p3 p4)
    (hN : N p1 ∧ N p2 ∧ N p3 ∧ N p4) (hNl : ∀ b, N b → b < w.heap.size) (hm1 : ka.length = m1) (hm2 : kb.length = m2) (hb1 : m1 ≤ 140737488351232) (hb2 : m2 ≤ 140737488351232) (hA : RwE w N ka al CA) (hB : RwC w N kb bl CB)
    (hps : ps.map en = (sdN ka kb (m1 + m2) 0 0).map (fun x => (x.1.map CA, x.2.map CB))) :
    SeqStopsK Fence.wide n Try.prog 52 #[.pointer (some ⟨p1, 0, none⟩), .pointer (some ⟨p2, 0, none⟩), .pointer (some ⟨p3, 0, none⟩), .pointer (some ⟨p4, 0, none⟩)] (fun x => #[.agg (sdE (en x).1).toArray, .agg (sdC (en x).2).toArray]) (KeepS N Ts) (fun xs => xs = ps) (fun pre => pre <+: ps) ps.length w := fun l J Jx W hW hJ _ hY h0 => by
  obtain ⟨l1, l2, l3, l4⟩ := hS.lt
  exact sides_inC en n hn l ps p1 p2 p3 p4 m1 c1 m2 c2 al bl ka kb CA CB N Ts hTs W ((hW.block _ l1).trans hS.h1) ((hW.block _ l2).trans hS.h2) ((hW.block _ l3).trans hS.h3) ((hW.block _ l4).trans hS.h4) hN (fun b hb => Nat.lt_of_lt_of_le (hNl b hb) hW.size) hm1 hm2 hb1 hb2 (hA.to (fun b hb => hW.block b (hNl b hb))) (hB.to (fun b hb => hW.block b (hNl b hb))) hps J Jx hJ hY h0

/-- a change's cells out of a list of its value's -/
def toCc (k : ByteArray) (g : Bool) : List Value → Cc
  | [.int _ x0, .int _ x1, .string x2, .slice a l c, .slice a' l' c'] => (k, g, x0, x1, x2, a, l, c, a', l', c')
  | _ => (k, g, 0, 0, ⟨#[]⟩, none, 0, 0, none, 0, 0)

theorem IsH.rwC {w : World} {B : Nat} {es : List Ch} {al : Option Addr} {cl : Nat} (h : IsH w (fun b => b < B) es al cl) (hB : B ≤ w.heap.size) : ∃ C, RwC w (fun b => b < B) (keysH es) al C ∧ ∀ i e, es[i]? = some e → (C i).1 = e.1 ∧ (C i).2.1 = e.2.1 ∧ IsV w B e.2.2 (.agg (ccL (C i)).tail.tail.toArray) := by
  obtain ⟨V, h⟩ := h
  have key : ∀ i e, es[i]? = some e → ccL (toCc ((keysH es).getD i ⟨#[]⟩) ((es[i]?.map (·.2.1)).getD false) (V i)) = .string e.1 :: .bool e.2.1 :: V i ∧ (toCc ((keysH es).getD i ⟨#[]⟩) ((es[i]?.map (·.2.1)).getD false) (V i)).1 = e.1 ∧ (toCc ((keysH es).getD i ⟨#[]⟩) ((es[i]?.map (·.2.1)).getD false) (V i)).2.1 = e.2.1 := by
    intro i e he
    have hk : (keysH es).getD i ⟨#[]⟩ = e.1 := by rw [List.getD_eq_getElem?_getD]; simp [keysH, he]
    have hg : (es[i]?.map (·.2.1)).getD false = e.2.1 := by rw [he]; rfl
    obtain ⟨_, hp⟩ := h.hv i e he
    obtain ⟨k', n', s', l', ks', al', ak', cl', ck', hy', hx⟩ := hp.shape
    have hVi : V i = [.int .i64 k', .int .i64 n', .string s', .slice al' l'.length cl', .slice ak' ks'.length ck'] := by
      have h1 := Value.agg.inj hx
      have h2 := congrArg Array.toList h1
      simpa using h2
    rw [hVi, hk, hg]
    exact ⟨rfl, rfl, rfl⟩
  refine ⟨fun i => toCc ((keysH es).getD i ⟨#[]⟩) ((es[i]?.map (·.2.1)).getD false) (V i), fun i k hi => ?_, fun i e he => ?_⟩
  · obtain ⟨e, he, hek⟩ : ∃ e, es[i]? = some e ∧ e.1 = k := by
      unfold keysH at hi
      rw [List.getElem?_map, Option.map_eq_some_iff] at hi
      exact hi
    obtain ⟨k1, k2, k3⟩ := key i e he
    refine ⟨by rw [k2, hek], ?_⟩
    cases al with
    | none => have := (h.nl rfl).1; have := (List.getElem?_eq_some_iff.1 he).1; omega
    | some a =>
      obtain ⟨q1, q2⟩ := h.hl a rfl i e he
      exact ⟨a, rfl, q1, Nat.lt_of_lt_of_le q1 hB, fun j v hv => q2 j v (by rw [k1] at hv; exact hv)⟩
  · obtain ⟨k1, k2, k3⟩ := key i e he
    refine ⟨k2, k3, ?_⟩
    rw [k1]
    exact (h.hv i e he).2

theorem add_offC (b o j : Nat) : (⟨b, o, none⟩ : Addr).add j = ⟨b, o + j, none⟩ := by
  unfold Addr.add
  split <;> simp_all

/-- changes that came out lie as changes do -/
theorem ChO.isH {w : World} {lo : Nat} {sv : Value} {cs : List Co} (h : ChO w lo sv cs) (hb : ∀ p ∈ cs, p.1.1.size ≤ 140737488351232) (hl : cs.length ≤ 1000) : ∃ al cl, sv = .slice al cs.length cl ∧ IsH w (fun b => b < w.heap.size) (cs.map chOf) al cl := by
  have hcell : ∀ (i : Nat) (p : Co), cs[i]? = some p → ∀ j v, (Value.string p.1.1 :: Value.bool p.1.2 :: th5 p.2.1)[j]? = some v → (cellsC cs)[i * 7 + j]? = some v := by
    intro i p hp j v hv
    have hj : j < 7 := by
      have := (List.getElem?_eq_some_iff.1 hv).1
      obtain ⟨t0, t1, t2, t3, t4, t5, t6, t7, t8⟩ := p.2.1
      simpa [th5] using this
    clear h hb hl
    induction cs generalizing i with
    | nil => simp at hp
    | cons c r ih =>
      have hlen : (Value.string c.1.1 :: Value.bool c.1.2 :: th5 c.2.1).length = 7 := by
        obtain ⟨t0, t1, t2, t3, t4, t5, t6, t7, t8⟩ := c.2.1
        rfl
      have hcc : cellsC (c :: r) = (Value.string c.1.1 :: Value.bool c.1.2 :: th5 c.2.1) ++ cellsC r := by simp [cellsC]
      rw [hcc]
      cases i with
      | zero =>
        simp at hp
        subst hp
        rw [Nat.zero_mul, Nat.zero_add, List.getElem?_append_left (by omega)]
        exact hv
      | succ i =>
        rw [List.getElem?_append_right (by rw [hlen]; omega), hlen, show (i + 1) * 7 + j - 7 = i * 7 + j by omega]
        exact ih i (by simpa using hp)
  have hget : ∀ (i : Nat) (e : Ch), (cs.map chOf)[i]? = some e → ∃ p, cs[i]? = some p ∧ e = chOf p := by
    intro i e he
    rw [List.getElem?_map, Option.map_eq_some_iff] at he
    obtain ⟨p, h1, h2⟩ := he
    exact ⟨p, h1, h2.symm⟩
  have hval : ∀ (i : Nat) (p : Co), cs[i]? = some p → IsP w (fun b => b < w.heap.size) p.2.2 (.agg (th5 p.2.1).toArray) := fun i p hp => (h.el p (List.mem_of_getElem? hp)).1.weak (fun b hb => hb.1.2.1)
  have hV : ∀ (i : Nat) (p : Co), cs[i]? = some p → ((cs[i]?.map (fun p => th5 p.2.1)).getD []) = th5 p.2.1 := fun i p hp => by rw [hp]; rfl
  have h5 : ∀ t : Th5, (th5 t).length = 5 := fun t => by obtain ⟨t0, t1, t2, t3, t4, t5, t6, t7, t8⟩ := t; rfl
  rcases h.row.2 with ⟨e, e2⟩ | ⟨g, cap, cur, e, hlo, hg, hcap, hmax, hsz, hcur⟩
  · have : cs = [] := List.eq_nil_of_length_eq_zero e2
    subst this
    exact ⟨none, 0, e, fun _ => [], (fun _ => ⟨rfl, rfl⟩), Nat.le_refl _, by simp, (fun a ha => by cases ha), (fun e he => by cases he), fun i e he => by simp at he⟩
  · refine ⟨some ⟨g, 0, none⟩, cap, e, fun i => (cs[i]?.map (fun p => th5 p.2.1)).getD [], (fun e => by cases e), by rw [List.length_map]; exact hcap, by rw [List.length_map]; omega, ?_, ?_, ?_⟩
    · intro a ha i x hx
      cases ha
      obtain ⟨p, hp, rfl⟩ := hget i x hx
      refine ⟨(Array.getElem?_eq_some_iff.1 hg).1, fun j v hv => ?_⟩
      rw [hV i p hp] at hv
      have := h.row.cells (g := g) (by rw [e]; rfl) _ _ (hcell i p hp j v hv)
      rw [add_offC] at this
      have hadd : ((⟨g, 0, none⟩ : Addr).add (i * 7)).add j = ⟨g, 0 + (i * 7 + j), none⟩ := by rw [add_offC, add_offC, Nat.zero_add, Nat.zero_add]
      rw [hadd]
      exact this
    · intro x hx
      obtain ⟨p, hp, rfl⟩ := List.mem_map.1 hx
      exact hb p hp
    · intro i x hx
      obtain ⟨p, hp, rfl⟩ := hget i x hx
      rw [hV i p hp]
      exact ⟨h5 _, hval i p hp⟩
end Go.Proofs.Ytjhnbopejnpbeaa
