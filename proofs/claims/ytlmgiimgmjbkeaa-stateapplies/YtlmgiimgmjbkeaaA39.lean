/-
  state.sides over entries and changes: the call, and what it hands out as a range wants it; no conditions but the form's own reach.
  A row of entries that is being made; entries that came out lie as entries do; no conditions.
  Two rows side by side as lists; the order of keys; no conditions.
-/
import Derived.Test.YtlmgiimgmjbkeaaA38
import Derived.Test.YtlmgiimgmjbkeaaA35
import Derived.Test.YtlmgiimgmjbkeaaA37
import Derived.Test.YtlmgiimgmjbkeaaA33
import Derived.Test.YtlmgiimgmjbkeaaA21
set_option linter.unusedVariables false
set_option linter.unusedSimpArgs false
namespace Go.Proofs.Ytlmgiimgmjbkeaa
open Go.RowKit Go.Shelf
set_option linter.unusedVariables false
set_option linter.unusedSimpArgs false

/-- the four boxes of what sides hands out -/
structure SidesC (w : World) (al : Option Addr) (m1 c1 : Nat) (bl : Option Addr) (m2 c2 p1 p2 p3 p4 : Nat) : Prop where
  h1 : w.heap[p1]? = some (.cells #[.slice al m1 c1] 22 (0, 0))
  h2 : w.heap[p2]? = some (.cells #[.slice bl m2 c2] 25 (0, 0))
  h3 : w.heap[p3]? = some (.cells #[.func (.func 22) #[] #[]] 53 (0, 0))
  h4 : w.heap[p4]? = some (.cells #[.func (.func 33) #[] #[]] 63 (0, 0))

theorem SidesC.to {w w' : World} {al bl : Option Addr} {m1 c1 m2 c2 p1 p2 p3 p4 : Nat} (h : SidesC w al m1 c1 bl m2 c2 p1 p2 p3 p4) (hb : ∀ b, b = p1 ∨ b = p2 ∨ b = p3 ∨ b = p4 → w'.heap[b]? = w.heap[b]?) : SidesC w' al m1 c1 bl m2 c2 p1 p2 p3 p4 :=
  ⟨(hb _ (Or.inl rfl)).trans h.h1, (hb _ (Or.inr (Or.inl rfl))).trans h.h2, (hb _ (Or.inr (Or.inr (Or.inl rfl)))).trans h.h3, (hb _ (Or.inr (Or.inr (Or.inr rfl)))).trans h.h4⟩

theorem SidesC.lt {w : World} {al bl : Option Addr} {m1 c1 m2 c2 p1 p2 p3 p4 : Nat} (h : SidesC w al m1 c1 bl m2 c2 p1 p2 p3 p4) : p1 < w.heap.size ∧ p2 < w.heap.size ∧ p3 < w.heap.size ∧ p4 < w.heap.size :=
  ⟨(Array.getElem?_eq_some_iff.1 h.h1).1, (Array.getElem?_eq_some_iff.1 h.h2).1, (Array.getElem?_eq_some_iff.1 h.h3).1, (Array.getElem?_eq_some_iff.1 h.h4).1⟩

set_option maxRecDepth 100000 in
set_option maxHeartbeats 1000000 in
theorem sidesC_call (al bl : Option Addr) (m1 c1 m2 c2 : Nat) (w : World) :
    Calls Try.prog 34 #[.slice al m1 c1, .slice bl m2 c2, .func (.func 22) #[] #[], .func (.func 33) #[] #[]] w fun e w' => ∃ p1 p2 p3 p4, e = .returned (.func (.func 52) #[] #[.pointer (some ⟨p1, 0, none⟩), .pointer (some ⟨p2, 0, none⟩), .pointer (some ⟨p3, 0, none⟩), .pointer (some ⟨p4, 0, none⟩)]) ∧ SidesC w' al m1 c1 bl m2 c2 p1 p2 p3 p4 ∧ (w.heap.size ≤ p1 ∧ w.heap.size ≤ p2 ∧ w.heap.size ≤ p3 ∧ w.heap.size ≤ p4) ∧ Below w.heap.size w w' := by
  obtain ⟨p1, hp1⟩ : ∃ p, w.heap.size = p := ⟨_, rfl⟩
  obtain ⟨w1, hw1⟩ : ∃ w1, w.alloc (.cells #[.slice al m1 c1] 22) = w1 := ⟨_, rfl⟩
  obtain ⟨p2, hp2⟩ : ∃ p, w1.heap.size = p := ⟨_, rfl⟩
  obtain ⟨w2, hw2⟩ : ∃ w2, w1.alloc (.cells #[.slice bl m2 c2] 25) = w2 := ⟨_, rfl⟩
  obtain ⟨p3, hp3⟩ : ∃ p, w2.heap.size = p := ⟨_, rfl⟩
  obtain ⟨w3, hw3⟩ : ∃ w3, w2.alloc (.cells #[.func (.func 22) #[] #[]] 53) = w3 := ⟨_, rfl⟩
  obtain ⟨p4, hp4⟩ : ∃ p, w3.heap.size = p := ⟨_, rfl⟩
  obtain ⟨w4, hw4⟩ : ∃ w4, w3.alloc (.cells #[.func (.func 33) #[] #[]] 63) = w4 := ⟨_, rfl⟩
  have n1 : w1.heap[p1]? = some (.cells #[.slice al m1 c1] 22 (0, 0)) := by rw [← hw1, ← hp1]; exact heap_alloc_new w _
  have n2 : w2.heap[p2]? = some (.cells #[.slice bl m2 c2] 25 (0, 0)) := by rw [← hw2, ← hp2]; exact heap_alloc_new w1 _
  have n3 : w3.heap[p3]? = some (.cells #[.func (.func 22) #[] #[]] 53 (0, 0)) := by rw [← hw3, ← hp3]; exact heap_alloc_new w2 _
  have n4 : w4.heap[p4]? = some (.cells #[.func (.func 33) #[] #[]] 63 (0, 0)) := by rw [← hw4, ← hp4]; exact heap_alloc_new w3 _
  have b1 : Below w.heap.size w w1 := by rw [← hw1]; exact (Below.refl _ _).alloc (Nat.le_refl _) _
  have b2 : Below w1.heap.size w1 w2 := by rw [← hw2]; exact (Below.refl _ _).alloc (Nat.le_refl _) _
  have b3 : Below w2.heap.size w2 w3 := by rw [← hw3]; exact (Below.refl _ _).alloc (Nat.le_refl _) _
  have b4 : Below w3.heap.size w3 w4 := by rw [← hw4]; exact (Below.refl _ _).alloc (Nat.le_refl _) _
  have s1 : w1.heap.size = p1 + 1 := by rw [← hw1, ← hp1]; simp
  have s2 : w2.heap.size = p1 + 2 := by rw [← hw2]; simp [s1]
  have s3 : w3.heap.size = p1 + 3 := by rw [← hw3]; simp [s2]
  have HF : Hid (SidesC w4 al m1 c1 bl m2 c2 p1 p2 p3 p4 ∧ (w.heap.size ≤ p1 ∧ w.heap.size ≤ p2 ∧ w.heap.size ≤ p3 ∧ w.heap.size ≤ p4) ∧ Below w.heap.size w w4) := hide ⟨⟨(b4.block _ (by omega)).trans ((b3.block _ (by omega)).trans ((b2.block _ (by omega)).trans n1)), (b4.block _ (by omega)).trans ((b3.block _ (by omega)).trans n2), (b4.block _ (by omega)).trans n3, n4⟩, ⟨by omega, by omega, by omega, by omega⟩, b1.trans ((b2.trans ((b3.trans (b4.mono (by omega))).mono (by omega))).mono (by omega))⟩
  clear n1 n2 n3 n4 b1 b2 b3 b4 s1 s2 s3
  go_enter Try.func34, Try.ntmps34
  go_wp2_with fail
  go_ret
  obtain ⟨f1, f2, f3⟩ := unhide HF
  exact ⟨p1, p2, p3, p4, rfl, f1, by first | exact f2 | (rw [← hp1]; omega) | omega, by first | exact f3 | (rw [← hp1]; exact f3)⟩

/-- .. as the laws of a range want it -/
theorem sides_stopsC {α : Type} (en : α → Option Ce × Option Cc) (n : Nat) (hn : 1 ≤ n) (ps : List α) (p1 p2 p3 p4 m1 c1 m2 c2 : Nat) (al bl : Option Addr) (ka kb : List ByteArray) (CA : Nat → Ce) (CB : Nat → Cc) (N : Nat → Prop) (Ts : TypeId → Prop) (hTs : Ts 55 ∧ Ts 68) (w : World) (hS : SidesC w al m1 c1 bl m2 c2 p1 p2 p3 p4)
    (hN : N p1 ∧ N p2 ∧ N p3 ∧ N p4) (hNl : ∀ b, N b → b < w.heap.size) (hm1 : ka.length = m1) (hm2 : kb.length = m2) (hb1 : m1 ≤ 140737488351232) (hb2 : m2 ≤ 140737488351232) (hA : RwE w N ka al CA) (hB : RwC w N kb bl CB)
    (hps : ps.map en = (sdN ka kb (m1 + m2) 0 0).map (fun x => (x.1.map CA, x.2.map CB))) :
    SeqStopsK Fence.wide n Try.prog 52 #[.pointer (some ⟨p1, 0, none⟩), .pointer (some ⟨p2, 0, none⟩), .pointer (some ⟨p3, 0, none⟩), .pointer (some ⟨p4, 0, none⟩)] (fun x => #[.agg (sdE (en x).1).toArray, .agg (sdC (en x).2).toArray]) (KeepS N Ts) (fun xs => xs = ps) (fun pre => pre <+: ps) ps.length w := fun l J Jx W hW hJ _ hY h0 => by
  obtain ⟨l1, l2, l3, l4⟩ := hS.lt
  exact sides_inC en n hn l ps p1 p2 p3 p4 m1 c1 m2 c2 al bl ka kb CA CB N Ts hTs W ((hW.block _ l1).trans hS.h1) ((hW.block _ l2).trans hS.h2) ((hW.block _ l3).trans hS.h3) ((hW.block _ l4).trans hS.h4) hN (fun b hb => Nat.lt_of_lt_of_le (hNl b hb) hW.size) hm1 hm2 hb1 hb2 (hA.to (fun b hb => hW.block b (hNl b hb))) (hB.to (fun b hb => hW.block b (hNl b hb))) hps J Jx hJ hY h0

/-- a change's cells out of a list of its value's -/
def toCc (k : ByteArray) (g : Bool) : List Value → Cc
  | [.int _ x0, .int _ x1, .string x2, .slice a l c, .slice a' l' c'] => (k, g, x0, x1, x2, a, l, c, a', l', c')
  | _ => (k, g, 0, 0, ⟨#[]⟩, none, 0, 0, none, 0, 0)

theorem IsH.rwC {w : World} {B : Nat} {es : List Ch} {al : Option Addr} {cl : Nat} (h : IsH w (fun b => b < B) es al cl) (hB : B ≤ w.heap.size) : ∃ C, RwC w (fun b => b < B) (keysH es) al C ∧ ∀ i e, es[i]? = some e → (C i).1 = e.1 ∧ (C i).2.1 = e.2.1 ∧ IsV w B e.2.2 (.agg (ccL (C i)).tail.tail.toArray) := by
  obtain ⟨V, h⟩ := h
  have key : ∀ i e, es[i]? = some e → ccL (toCc ((keysH es).getD i ⟨#[]⟩) ((es[i]?.map (·.2.1)).getD false) (V i)) = .string e.1 :: .bool e.2.1 :: V i ∧ (toCc ((keysH es).getD i ⟨#[]⟩) ((es[i]?.map (·.2.1)).getD false) (V i)).1 = e.1 ∧ (toCc ((keysH es).getD i ⟨#[]⟩) ((es[i]?.map (·.2.1)).getD false) (V i)).2.1 = e.2.1 := by
    intro i e he
    have hk : (keysH es).getD i ⟨#[]⟩ = e.1 := by rw [List.getD_eq_getElem?_getD]; simp [keysH, he]
    have hg : (es[i]?.map (·.2.1)).getD false = e.2.1 := by rw [he]; rfl
    obtain ⟨_, hp⟩ := h.hv i e he
    obtain ⟨k', n', s', l', ks', al', ak', cl', ck', hy', hx⟩ := hp.shape
    have hVi : V i = [.int .i64 k', .int .i64 n', .string s', .slice al' l'.length cl', .slice ak' ks'.length ck'] := by
      have h1 := Value.agg.inj hx
      have h2 := congrArg Array.toList h1
      simpa using h2
    rw [hVi, hk, hg]
    exact ⟨rfl, rfl, rfl⟩
  refine ⟨fun i => toCc ((keysH es).getD i ⟨#[]⟩) ((es[i]?.map (·.2.1)).getD false) (V i), fun i k hi => ?_, fun i e he => ?_⟩
  · obtain ⟨e, he, hek⟩ : ∃ e, es[i]? = some e ∧ e.1 = k := by
      unfold keysH at hi
      rw [List.getElem?_map, Option.map_eq_some_iff] at hi
      exact hi
    obtain ⟨k1, k2, k3⟩ := key i e he
    refine ⟨by rw [k2, hek], ?_⟩
    cases al with
    | none => have := (h.nl rfl).1; have := (List.getElem?_eq_some_iff.1 he).1; omega
    | some a =>
      obtain ⟨q1, q2⟩ := h.hl a rfl i e he
      exact ⟨a, rfl, q1, Nat.lt_of_lt_of_le q1 hB, fun j v hv => q2 j v (by rw [k1] at hv; exact hv)⟩
  · obtain ⟨k1, k2, k3⟩ := key i e he
    refine ⟨k2, k3, ?_⟩
    rw [k1]
    exact (h.hv i e he).2

theorem add_offC (b o j : Nat) : (⟨b, o, none⟩ : Addr).add j = ⟨b, o + j, none⟩ := by
  unfold Addr.add
  split <;> simp_all

/-- changes that came out lie as changes do -/
theorem ChO.isH {w : World} {lo : Nat} {sv : Value} {cs : List Co} (h : ChO w lo sv cs) (hb : ∀ p ∈ cs, p.1.1.size ≤ 140737488351232) (hl : cs.length ≤ 1000) : ∃ al cl, sv = .slice al cs.length cl ∧ IsH w (fun b => b < w.heap.size) (cs.map chOf) al cl := by
  have hcell : ∀ (i : Nat) (p : Co), cs[i]? = some p → ∀ j v, (Value.string p.1.1 :: Value.bool p.1.2 :: th5 p.2.1)[j]? = some v → (cellsC cs)[i * 7 + j]? = some v := by
    intro i p hp j v hv
    have hj : j < 7 := by
      have := (List.getElem?_eq_some_iff.1 hv).1
      obtain ⟨t0, t1, t2, t3, t4, t5, t6, t7, t8⟩ := p.2.1
      simpa [th5] using this
    clear h hb hl
    induction cs generalizing i with
    | nil => simp at hp
    | cons c r ih =>
      have hlen : (Value.string c.1.1 :: Value.bool c.1.2 :: th5 c.2.1).length = 7 := by
        obtain ⟨t0, t1, t2, t3, t4, t5, t6, t7, t8⟩ := c.2.1
        rfl
      have hcc : cellsC (c :: r) = (Value.string c.1.1 :: Value.bool c.1.2 :: th5 c.2.1) ++ cellsC r := by simp [cellsC]
      rw [hcc]
      cases i with
      | zero =>
        simp at hp
        subst hp
        rw [Nat.zero_mul, Nat.zero_add, List.getElem?_append_left (by omega)]
        exact hv
      | succ i =>
        rw [List.getElem?_append_right (by rw [hlen]; omega), hlen, show (i + 1) * 7 + j - 7 = i * 7 + j by omega]
        exact ih i (by simpa using hp)
  have hget : ∀ (i : Nat) (e : Ch), (cs.map chOf)[i]? = some e → ∃ p, cs[i]? = some p ∧ e = chOf p := by
    intro i e he
    rw [List.getElem?_map, Option.map_eq_some_iff] at he
    obtain ⟨p, h1, h2⟩ := he
    exact ⟨p, h1, h2.symm⟩
  have hval : ∀ (i : Nat) (p : Co), cs[i]? = some p → IsP w (fun b => b < w.heap.size) p.2.2 (.agg (th5 p.2.1).toArray) := fun i p hp => (h.el p (List.mem_of_getElem? hp)).1.weak (fun b hb => hb.1.2.1)
  have hV : ∀ (i : Nat) (p : Co), cs[i]? = some p → ((cs[i]?.map (fun p => th5 p.2.1)).getD []) = th5 p.2.1 := fun i p hp => by rw [hp]; rfl
  have h5 : ∀ t : Th5, (th5 t).length = 5 := fun t => by obtain ⟨t0, t1, t2, t3, t4, t5, t6, t7, t8⟩ := t; rfl
  rcases h.row.2 with ⟨e, e2⟩ | ⟨g, cap, cur, e, hlo, hg, hcap, hmax, hsz, hcur⟩
  · have : cs = [] := List.eq_nil_of_length_eq_zero e2
    subst this
    exact ⟨none, 0, e, fun _ => [], (fun _ => ⟨rfl, rfl⟩), Nat.le_refl _, by simp, (fun a ha => by cases ha), (fun e he => by cases he), fun i e he => by simp at he⟩
  · refine ⟨some ⟨g, 0, none⟩, cap, e, fun i => (cs[i]?.map (fun p => th5 p.2.1)).getD [], (fun e => by cases e), by rw [List.length_map]; exact hcap, by rw [List.length_map]; omega, ?_, ?_, ?_⟩
    · intro a ha i x hx
      cases ha
      obtain ⟨p, hp, rfl⟩ := hget i x hx
      refine ⟨(Array.getElem?_eq_some_iff.1 hg).1, fun j v hv => ?_⟩
      rw [hV i p hp] at hv
      have := h.row.cells (g := g) (by rw [e]; rfl) _ _ (hcell i p hp j v hv)
      rw [add_offC] at this
      have hadd : ((⟨g, 0, none⟩ : Addr).add (i * 7)).add j = ⟨g, 0 + (i * 7 + j), none⟩ := by rw [add_offC, add_offC, Nat.zero_add, Nat.zero_add]
      rw [hadd]
      exact this
    · intro x hx
      obtain ⟨p, hp, rfl⟩ := List.mem_map.1 hx
      exact hb p hp
    · intro i x hx
      obtain ⟨p, hp, rfl⟩ := hget i x hx
      rw [hV i p hp]
      exact ⟨h5 _, hval i p hp⟩
end Go.Proofs.Ytlmgiimgmjbkeaa

namespace Go.Proofs.Ytlmgiimgmjbkeaa
open Go.RowKit Go.Shelf
set_option linter.unusedVariables false
set_option linter.unusedSimpArgs false

def enOf (p : Eo) : En := (p.1, p.2.2)

/-- a row of one's own, of entries whose values are elder -/
structure EnP (w : World) (lo B : Nat) (sv : Value) (cs : List Eo) : Prop where
  row : w.ownsRow lo 48 6 sv cs.length (cellsN cs)
  el : ∀ p ∈ cs, IsV w B p.2.2 (.agg (th5 p.2.1).toArray)
  low : B ≤ lo
  top : B ≤ w.heap.size

theorem EnP.nil (w : World) (lo B : Nat) (h : B ≤ lo) (h' : B ≤ w.heap.size) : EnP w lo B (.slice none 0 0) [] := ⟨World.ownsRow_nil _ _ _ _, (fun p hp => by cases hp), h, h'⟩

theorem EnP.to {w w' : World} {lo B : Nat} {sv : Value} {cs : List Eo} (h : EnP w lo B sv cs) (hs : w.heap.size ≤ w'.heap.size) (h1 : ∀ b, sv.ownBlock = some b → w'.heap[b]? = w.heap[b]?) (h2 : ∀ b, b < B → w'.heap[b]? = w.heap[b]?) : EnP w' lo B sv cs :=
  ⟨row_to h.row h1, fun p hp => (h.el p hp).to h2 (fun b hb => hb), h.low, Nat.le_trans h.top hs⟩

theorem EnP.push {w w5 : World} {lo B g cap n : Nat} {sv : Value} {cs : List Eo} {k : ByteArray} {c : Th5} {y : Vl} (h : EnP w lo B sv cs) (hn : cs.length = n) (hv : IsV w B y (.agg (th5 c).toArray)) (ho : w5.ownsRow lo 48 6 (.slice (some ⟨g, 0, none⟩) (n + 1) cap) (n + 1) (cellsN cs ++ (.string k :: th5 c))) (hg : w.grownBy w5 sv.ownBlock) : EnP w5 lo B (.slice (some ⟨g, 0, none⟩) (n + 1) cap) (cs ++ [(k, (c, y))]) := by
  have hk : ∀ b, b < B → w5.heap[b]? = w.heap[b]? := fun b hb => hg.block b (Nat.lt_of_lt_of_le hb h.top) (fun e => by have := (h.row.lt b e.symm).1; have := h.low; omega)
  refine ⟨?_, fun p hp => ?_, h.low, Nat.le_trans h.top hg.size⟩
  · have e : cellsN (cs ++ [(k, (c, y))]) = cellsN cs ++ (.string k :: th5 c) := by simp [cellsN]
    rw [List.length_append, hn, e]
    exact ho
  · rcases List.mem_append.1 hp with hp | hp
    · exact (h.el p hp).to hk (fun b hb => hb)
    · rw [List.mem_singleton] at hp
      subst hp
      exact hv.to hk (fun b hb => hb)

/-- .. lies as entries do -/
theorem EnP.isE {w : World} {lo B : Nat} {sv : Value} {cs : List Eo} (h : EnP w lo B sv cs) (hb : ∀ p ∈ cs, p.1.size ≤ 140737488351232) (hl : cs.length ≤ 140737488351232) : ∃ al cl, sv = .slice al cs.length cl ∧ IsE w (fun b => b < w.heap.size) (cs.map enOf) al cl := by
  have hcell : ∀ (i : Nat) (p : Eo), cs[i]? = some p → ∀ j v, (Value.string p.1 :: th5 p.2.1)[j]? = some v → (cellsN cs)[i * 6 + j]? = some v := by
    intro i p hp j v hv
    have hj : j < 6 := by
      have := (List.getElem?_eq_some_iff.1 hv).1
      obtain ⟨t0, t1, t2, t3, t4, t5, t6, t7, t8⟩ := p.2.1
      simpa [th5] using this
    clear h hb hl
    induction cs generalizing i with
    | nil => simp at hp
    | cons c r ih =>
      have hlen : (Value.string c.1 :: th5 c.2.1).length = 6 := by
        obtain ⟨t0, t1, t2, t3, t4, t5, t6, t7, t8⟩ := c.2.1
        rfl
      have hcc : cellsN (c :: r) = (Value.string c.1 :: th5 c.2.1) ++ cellsN r := by simp [cellsN]
      rw [hcc]
      cases i with
      | zero =>
        simp at hp
        subst hp
        rw [Nat.zero_mul, Nat.zero_add, List.getElem?_append_left (by omega)]
        exact hv
      | succ i =>
        rw [List.getElem?_append_right (by rw [hlen]; omega), hlen, show (i + 1) * 6 + j - 6 = i * 6 + j by omega]
        exact ih i (by simpa using hp)
  have hget : ∀ (i : Nat) (e : En), (cs.map enOf)[i]? = some e → ∃ p, cs[i]? = some p ∧ e = enOf p := by
    intro i e he
    rw [List.getElem?_map, Option.map_eq_some_iff] at he
    obtain ⟨p, h1, h2⟩ := he
    exact ⟨p, h1, h2.symm⟩
  have hval : ∀ (i : Nat) (p : Eo), cs[i]? = some p → IsP w (fun b => b < w.heap.size) p.2.2 (.agg (th5 p.2.1).toArray) := fun i p hp => (h.el p (List.mem_of_getElem? hp)).to (fun _ _ => rfl) (fun b hb => Nat.lt_of_lt_of_le hb h.top)
  have hV : ∀ (i : Nat) (p : Eo), cs[i]? = some p → ((cs[i]?.map (fun p => th5 p.2.1)).getD []) = th5 p.2.1 := fun i p hp => by rw [hp]; rfl
  have h5 : ∀ t : Th5, (th5 t).length = 5 := fun t => by obtain ⟨t0, t1, t2, t3, t4, t5, t6, t7, t8⟩ := t; rfl
  rcases h.row.2 with ⟨e, e2⟩ | ⟨g, cap, cur, e, hlo, hg, hcap, hmax, hsz, hcur⟩
  · have : cs = [] := List.eq_nil_of_length_eq_zero e2
    subst this
    exact ⟨none, 0, e, fun _ => [], (fun _ => ⟨rfl, rfl⟩), Nat.le_refl _, by simp, (fun a ha => by cases ha), (fun e he => by cases he), fun i e he => by simp at he⟩
  · refine ⟨some ⟨g, 0, none⟩, cap, e, fun i => (cs[i]?.map (fun p => th5 p.2.1)).getD [], (fun e => by cases e), by rw [List.length_map]; exact hcap, by rw [List.length_map]; omega, ?_, ?_, ?_⟩
    · intro a ha i x hx
      cases ha
      obtain ⟨p, hp, rfl⟩ := hget i x hx
      refine ⟨(Array.getElem?_eq_some_iff.1 hg).1, fun j v hv => ?_⟩
      rw [hV i p hp] at hv
      have := h.row.cells (g := g) (by rw [e]; rfl) _ _ (hcell i p hp j v hv)
      rw [add_offC] at this
      have hadd : ((⟨g, 0, none⟩ : Addr).add (i * 6)).add j = ⟨g, 0 + (i * 6 + j), none⟩ := by rw [add_offC, add_offC, Nat.zero_add, Nat.zero_add]
      rw [hadd]
      exact this
    · intro x hx
      obtain ⟨p, hp, rfl⟩ := List.mem_map.1 hx
      exact hb p hp
    · intro i x hx
      obtain ⟨p, hp, rfl⟩ := hget i x hx
      rw [hV i p hp]
      exact ⟨h5 _, hval i p hp⟩

/-- entries that came out lie as entries do -/
theorem EnN.isE {w : World} {lo : Nat} {sv : Value} {cs : List Eo} (h : EnN w lo sv cs) (hb : ∀ p ∈ cs, p.1.size ≤ 140737488351232) (hl : cs.length ≤ 1000) : ∃ al cl, sv = .slice al cs.length cl ∧ IsE w (fun b => b < w.heap.size) (cs.map enOf) al cl := by
  have hcell : ∀ (i : Nat) (p : Eo), cs[i]? = some p → ∀ j v, (Value.string p.1 :: th5 p.2.1)[j]? = some v → (cellsN cs)[i * 6 + j]? = some v := by
    intro i p hp j v hv
    have hj : j < 6 := by
      have := (List.getElem?_eq_some_iff.1 hv).1
      obtain ⟨t0, t1, t2, t3, t4, t5, t6, t7, t8⟩ := p.2.1
      simpa [th5] using this
    clear h hb hl
    induction cs generalizing i with
    | nil => simp at hp
    | cons c r ih =>
      have hlen : (Value.string c.1 :: th5 c.2.1).length = 6 := by
        obtain ⟨t0, t1, t2, t3, t4, t5, t6, t7, t8⟩ := c.2.1
        rfl
      have hcc : cellsN (c :: r) = (Value.string c.1 :: th5 c.2.1) ++ cellsN r := by simp [cellsN]
      rw [hcc]
      cases i with
      | zero =>
        simp at hp
        subst hp
        rw [Nat.zero_mul, Nat.zero_add, List.getElem?_append_left (by omega)]
        exact hv
      | succ i =>
        rw [List.getElem?_append_right (by rw [hlen]; omega), hlen, show (i + 1) * 6 + j - 6 = i * 6 + j by omega]
        exact ih i (by simpa using hp)
  have hget : ∀ (i : Nat) (e : En), (cs.map enOf)[i]? = some e → ∃ p, cs[i]? = some p ∧ e = enOf p := by
    intro i e he
    rw [List.getElem?_map, Option.map_eq_some_iff] at he
    obtain ⟨p, h1, h2⟩ := he
    exact ⟨p, h1, h2.symm⟩
  have hval : ∀ (i : Nat) (p : Eo), cs[i]? = some p → IsP w (fun b => b < w.heap.size) p.2.2 (.agg (th5 p.2.1).toArray) := fun i p hp => (h.el p (List.mem_of_getElem? hp)).1.weak (fun b hb => hb.1.2.1)
  have hV : ∀ (i : Nat) (p : Eo), cs[i]? = some p → ((cs[i]?.map (fun p => th5 p.2.1)).getD []) = th5 p.2.1 := fun i p hp => by rw [hp]; rfl
  have h5 : ∀ t : Th5, (th5 t).length = 5 := fun t => by obtain ⟨t0, t1, t2, t3, t4, t5, t6, t7, t8⟩ := t; rfl
  rcases h.row.2 with ⟨e, e2⟩ | ⟨g, cap, cur, e, hlo, hg, hcap, hmax, hsz, hcur⟩
  · have : cs = [] := List.eq_nil_of_length_eq_zero e2
    subst this
    exact ⟨none, 0, e, fun _ => [], (fun _ => ⟨rfl, rfl⟩), Nat.le_refl _, by simp, (fun a ha => by cases ha), (fun e he => by cases he), fun i e he => by simp at he⟩
  · refine ⟨some ⟨g, 0, none⟩, cap, e, fun i => (cs[i]?.map (fun p => th5 p.2.1)).getD [], (fun e => by cases e), by rw [List.length_map]; exact hcap, by rw [List.length_map]; omega, ?_, ?_, ?_⟩
    · intro a ha i x hx
      cases ha
      obtain ⟨p, hp, rfl⟩ := hget i x hx
      refine ⟨(Array.getElem?_eq_some_iff.1 hg).1, fun j v hv => ?_⟩
      rw [hV i p hp] at hv
      have := h.row.cells (g := g) (by rw [e]; rfl) _ _ (hcell i p hp j v hv)
      rw [add_offC] at this
      have hadd : ((⟨g, 0, none⟩ : Addr).add (i * 6)).add j = ⟨g, 0 + (i * 6 + j), none⟩ := by rw [add_offC, add_offC, Nat.zero_add, Nat.zero_add]
      rw [hadd]
      exact this
    · intro x hx
      obtain ⟨p, hp, rfl⟩ := List.mem_map.1 hx
      exact hb p hp
    · intro i x hx
      obtain ⟨p, hp, rfl⟩ := hget i x hx
      rw [hV i p hp]
      exact ⟨h5 _, hval i p hp⟩
end Go.Proofs.Ytlmgiimgmjbkeaa

namespace Go.Proofs.Ytlmgiimgmjbkeaa
open Go.RowKit
set_option linter.unusedVariables false
set_option linter.unusedSimpArgs false

/-- does a key stand ahead of another? -/
def ltK (a b : ByteArray) : Bool := Op.bytesLess a.toList b.toList

theorem blo_trM : ∀ (a b c : List UInt8), Op.bytesLess a b = true → Op.bytesLess b c = true → Op.bytesLess a c = true
  | [], b, [], _, h => by cases b <;> simp [Op.bytesLess] at h
  | [], _, c :: z, _, _ => by simp [Op.bytesLess]
  | a :: x, [], _, h, _ => by simp [Op.bytesLess] at h
  | a :: x, b :: y, [], _, h => by simp [Op.bytesLess] at h
  | a :: x, b :: y, c :: z, h1, h2 => by
    simp only [Op.bytesLess, Bool.or_eq_true, Bool.and_eq_true, decide_eq_true_eq, beq_iff_eq] at h1 h2 ⊢
    rcases h1 with h1 | ⟨rfl, h1⟩
    · rcases h2 with h2 | ⟨rfl, h2⟩
      · exact .inl (UInt8.lt_trans h1 h2)
      · exact .inl h1
    · rcases h2 with h2 | ⟨rfl, h2⟩
      · exact .inl h2
      · exact .inr ⟨rfl, blo_trM x y z h1 h2⟩

theorem ltK_tr {a b c : ByteArray} (h : ltK a b = true) (h' : ltK b c = true) : ltK a c = true := blo_trM _ _ _ h h'
theorem ltK_irr (a : ByteArray) : ltK a a = false := bl_irr _
theorem ltK_asym {a b : ByteArray} (h : ltK a b = true) : ltK b a = false := by
  cases h2 : ltK b a with
  | false => rfl
  | true => have := ltK_tr h h2; rw [ltK_irr] at this; cases this
theorem ltK_same {a b : ByteArray} (h : ltK a b = false) (h' : ltK b a = false) : a = b := by
  have := bl_not a.toList b.toList
  unfold ltK at h h'
  rw [h, h', Bool.false_or] at this
  cases he : (b.toList == a.toList) with
  | false => rw [he] at this; cases this
  | true => exact (toList_injZ (eq_of_beq he)).symm

section
variable {α β : Type} (ka : α → ByteArray) (kb : β → ByteArray)

/-- the items of two rows, key by key -/
def mg : Nat → List α → List β → List (Option α × Option β)
  | 0, _, _ => []
  | _ + 1, [], [] => []
  | f + 1, x :: r, [] => (some x, none) :: mg f r []
  | f + 1, [], y :: s => (none, some y) :: mg f [] s
  | f + 1, x :: r, y :: s => if ltK (kb y) (ka x) then (none, some y) :: mg f (x :: r) s else if ltK (ka x) (kb y) then (some x, none) :: mg f r (y :: s) else (some x, some y) :: mg f r s

theorem sdN_mg (es : List α) (fs : List β) : ∀ (f i j : Nat), (sdN (es.map ka) (fs.map kb) f i j).map (fun x => (x.1.bind (fun a => es[a]?), x.2.bind (fun b => fs[b]?))) = mg ka kb f (es.drop i) (fs.drop j)
  | 0, i, j => rfl
  | f + 1, i, j => by
    rcases Nat.lt_or_ge i es.length with hi | hi
    · have hx : (es.map ka)[i]? = some (ka es[i]) := by rw [List.getElem?_map, List.getElem?_eq_getElem hi]; rfl
      rcases Nat.lt_or_ge j fs.length with hj | hj
      · have hy : (fs.map kb)[j]? = some (kb fs[j]) := by rw [List.getElem?_map, List.getElem?_eq_getElem hj]; rfl
        obtain ⟨q1, q2⟩ := inA_two hx hy
        have ih1 := sdN_mg es fs f i (j + 1)
        have ih2 := sdN_mg es fs f (i + 1) j
        have ih3 := sdN_mg es fs f (i + 1) (j + 1)
        unfold sdN
        rw [if_pos (by simp; omega), q1, q2]
        rw [List.drop_eq_getElem_cons hi] at ih1
        rw [List.drop_eq_getElem_cons hj] at ih2
        rw [List.drop_eq_getElem_cons hi, List.drop_eq_getElem_cons hj]
        unfold mg
        cases h1 : ltK (kb fs[j]) (ka es[i]) with
        | true =>
          have h2 := ltK_asym h1
          unfold ltK at h1 h2
          rw [h1, h2]
          simp only [Bool.not_true, Bool.not_false, if_true, List.map_cons, Option.bind_some, Option.bind_none, List.getElem?_eq_getElem hj, Bool.false_eq_true, if_false]
          rw [ih1]
        | false =>
          cases h2 : ltK (ka es[i]) (kb fs[j]) with
          | true =>
            unfold ltK at h1 h2
            rw [h1, h2]
            simp only [Bool.not_true, Bool.not_false, if_true, List.map_cons, Option.bind_some, Option.bind_none, List.getElem?_eq_getElem hi, Bool.false_eq_true, if_false]
            rw [ih2]
          | false =>
            unfold ltK at h1 h2
            rw [h1, h2]
            simp only [Bool.not_true, Bool.not_false, if_true, List.map_cons, Option.bind_some, Option.bind_none, List.getElem?_eq_getElem hi, List.getElem?_eq_getElem hj, Bool.false_eq_true, if_false]
            rw [ih3]
      · have hy : (fs.map kb)[j]? = none := List.getElem?_eq_none (by simpa using hj)
        obtain ⟨q1, q2⟩ := inA_one hx hy
        have ih2 := sdN_mg es fs f (i + 1) j
        unfold sdN
        rw [if_pos (by simp; omega), q1, q2, List.drop_eq_getElem_cons hi]
        rw [List.drop_of_length_le hj] at ih2 ⊢
        unfold mg
        simp only [if_true, List.map_cons, Option.bind_some, Option.bind_none, List.getElem?_eq_getElem hi, Bool.false_eq_true, if_false]
        rw [ih2]
    · have hx : (es.map ka)[i]? = none := List.getElem?_eq_none (by simpa using hi)
      rcases Nat.lt_or_ge j fs.length with hj | hj
      · have hy : (fs.map kb)[j]? = some (kb fs[j]) := by rw [List.getElem?_map, List.getElem?_eq_getElem hj]; rfl
        obtain ⟨q1, q2⟩ := inB_one hx hy
        have ih1 := sdN_mg es fs f i (j + 1)
        unfold sdN
        rw [if_pos (by simp; omega), q1, q2, List.drop_eq_getElem_cons hj]
        rw [List.drop_of_length_le hi] at ih1 ⊢
        unfold mg
        simp only [if_true, List.map_cons, Option.bind_some, Option.bind_none, List.getElem?_eq_getElem hj, Bool.false_eq_true, if_false]
        rw [ih1]
      · rw [sdN_end _ _ _ _ _ (by simpa using hi) (by simpa using hj), List.drop_of_length_le hi, List.drop_of_length_le hj]
        rfl
end
end Go.Proofs.Ytlmgiimgmjbkeaa
