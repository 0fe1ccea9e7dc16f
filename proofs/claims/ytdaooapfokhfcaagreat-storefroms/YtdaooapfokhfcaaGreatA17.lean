/-
  The table at texts and 73: From, All, and the function that they hand out.
  slices.Delete of one text out of a row of the call's own; no conditions.
-/
import Derived.Test.YtdaooapfokhfcaaGreatA16
import Derived.RangeFuncBox
import Derived.RangeFuncLeaves
import Derived.RangeFuncNested
import Derived.RangeFuncBound
import Derived.RangeFuncCalls
import Derived.Shelf.Abstract
import Derived.Shelf.RegionOpen
import Derived.OwnWalkIn
import Derived.TacticsInMore
import Derived.LoopNIn
import Derived.LoopIn
import Derived.Test.YtdaooapfokhfcaaGreatA08
import Derived.Deep.RegionHeld3
namespace Go.Proofs.YtdaooapfokhfcaaGreat
open Go.RowKit Go.Shelf
set_option linter.unusedVariables false
set_option linter.unusedSimpArgs false

/-- a function that goes through pairs -/
structure SeqU (B : Nat) (wr : World) (f : Value) (l : List (ByteArray × ThU)) (G : Nat) (v : Value) : Prop where
  fn : f = .func (.func 116) #[] #[.pointer (some ⟨G, 0, none⟩)]
  here : wr.heap[G]? = some (.cells #[v] 110 (0, 0))
  row : wr.ownsRow B 118 3 v l.length (cellsU l)
  low : B ≤ G

set_option maxRecDepth 100000 in
set_option maxHeartbeats 400000 in
theorem from_U {g : Nat} {v : Value} {l : List (ByteArray × ThU)} {w : World} (h : KTU w g v l) (hr : Rk l) (k : ByteArray) (hb : l.length * 32 ≤ 140737488355328) :
    Calls Tryz.prog 104 #[.pointer (some ⟨g, 0, none⟩), .string k] w fun e w' => ∃ f G v', e = .returned f ∧ SeqU w.heap.size w' f (l.drop (lowK l k)) G v' ∧ Below w.heap.size w w' := by
  obtain ⟨G, hG⟩ : ∃ G, w.heap.size = G := ⟨_, rfl⟩
  obtain ⟨w1, hw1⟩ : ∃ w1, w.alloc (.cells #[.slice none 0 0] 110) = w1 := ⟨_, rfl⟩
  have N1 : w1.heap[G]? = some (.cells #[.slice none 0 0] 110 (0, 0)) := by rw [← hw1, ← hG]; exact heap_alloc_new w _
  have B1 : Below w.heap.size w w1 := by rw [← hw1]; exact (Below.refl _ _).alloc (Nat.le_refl _) _
  have Z1 : w1.heap.size = G + 1 := by rw [← hw1, ← hG]; simp
  have CF := find_U (h.below B1) hr k
  have CL : Hid (∀ q, Calls Tryz.prog 110 #[.pointer (some ⟨g, 0, none⟩)] (w1.drewN q) fun e w' => e = .returned (.int .i64 l.length) ∧ w' = w1.drewN q) := hide (fun q => len_U ((h.below B1).below (below_drewN (Below.refl _ _) q)))
  have hle := low_le l k
  obtain ⟨L, hL⟩ : ∃ L, lowK l k = L := ⟨_, rfl⟩
  rw [hL] at CF hle ⊢
  have c0 := (h.below B1).cell
  have HT := hide (h.below B1)
  obtain ⟨ao, cap, rfl, hcap, hmax, hnone, hsome⟩ := (h.below B1).shape
  have HC : Hid (∀ i p, l[i]? = some p → ∃ b, ao = some ⟨b, 0, none⟩) := hide (fun i p hp => by obtain ⟨b, e, _⟩ := hsome i p hp; exact ⟨b, e⟩)
  have HZ := hide (And.intro N1 (And.intro B1 Z1))
  obtain ⟨n, hn⟩ : ∃ n, l.length = n := ⟨_, rfl⟩
  rw [hn] at c0 CL hb hle hcap HT
  have HN := hide hn
  have hmx : n ≤ 9223372036854775807 := by unfold maxLen at hmax; omega
  have HF := hide CF
  clear h hr N1 B1 Z1 hsome hnone hmax hn hL CF
  go_enter Tryz.func104, Tryz.ntmps104
  go_wp2_with fail
  refine (unhide HF).mono ?_
  rintro e w2 ⟨rfl, q, rfl⟩
  have CL2 := hide (unhide CL q)
  have c1 : (w1.drewN q).cell? ⟨g, 0, none⟩ = some (.slice ao n cap) := c0
  clear HF CL c0
  have hww := hide hw1
  clear hw1
  by_cases hlt : L < n
  · have i1 : (L : Int) < (n : Int) := by omega
    have i2 : (0 : Int) ≤ (L : Int) := by omega
    have i3 : (L : Int) ≤ (n : Int) := by omega
    have i4 : (n : Int) ≤ (cap : Int) := by omega
    have i5 : ¬ (cap = L) := by omega
    obtain ⟨p, hp⟩ : ∃ p, l[L]? = some p := ⟨_, List.getElem?_eq_getElem (by have := unhide HN; omega)⟩
    obtain ⟨b, rfl⟩ := unhide HC L p hp
    have hlen : (l.drop L).length = n - L := by rw [List.length_drop, unhide HN]
    have HCC := hide (clonePU (some ⟨b, L * 3, none⟩) (n - L) (cap - L) (cellsU (l.drop L)) (w1.drewN q) ⟨by rw [cellsU_len, hlen], (fun e => by cases e), fun a ha j u hj => by
      cases ha
      rw [cellsU_drop l L (by have := unhide HN; omega), List.getElem?_drop] at hj
      have := (unhide HT).row.cells rfl (L * 3 + j) u hj
      rw [add_offR] at this ⊢
      rw [Nat.zero_add] at this
      exact this, cellsU_one _⟩ (by omega))
    have HLen := hide hlen
    have e1 : (w1.drewN q).heap[G]? = some (.cells #[.slice none 0 0] 110 (0, 0)) := (unhide HZ).1
    clear hlen hp
    go_wp2_with fail
    refine (unhide CL2).mono ?_
    rintro e w3 ⟨rfl, rfl⟩
    go_wp2_with fail
    refine (unhide HCC).mono ?_
    rintro e w3 ⟨v3, rfl, o3, b3⟩
    obtain ⟨a3, c3, rfl⟩ : ∃ a3 c3', v3 = .slice a3 (n - L) c3' := by
      rcases o3.2 with ⟨rfl, hn⟩ | ⟨b, cap, cur, rfl, _⟩
      · omega
      · exact ⟨_, _, rfl⟩
    have hGs : G < (w1.drewN q).heap.size := (Array.getElem?_eq_some_iff.1 e1).1
    have e3 : w3.heap[G]? = some (.cells #[.slice none 0 0] 110 (0, 0)) := (b3.block G hGs).trans e1
    have d3 : w3.cell? ⟨G, 0, none⟩ = some (.slice none 0 0) := by rw [cell_of_row w3 G 0 _ _ (0, 0) e3]; rfl
    have f3 := frozen_of_row w3 G 0 _ _ e3
    have HO := hide (And.intro o3 (And.intro b3 e3))
    clear o3 b3 e3 e1 HCC hGs
    go_wp2_with fail
    go_ret
    obtain ⟨o3, b3, e3⟩ := unhide HO
    obtain ⟨N1, B1, Z1⟩ := unhide HZ
    have hz : (w1.drewN q).heap.size = G + 1 := Z1
    have hlow : w.heap.size ≤ G := by omega
    refine ⟨_, G, .slice a3 (n - L) c3, rfl, ⟨rfl, ?_, ?_, hlow⟩, ?_⟩
    · exact heap_setCell_same w3 G 0 _ _ (.slice a3 (n - L) c3) e3
    · rw [unhide HLen]
      refine ⟨o3.1, ?_⟩
      rcases o3.2 with h | ⟨b', cap', cur, hv, hb', hg', rest⟩
      · exact .inl h
      · refine .inr ⟨b', cap', cur, hv, by omega, ?_, rest⟩
        rw [heap_setCell_other _ _ _ _ (by simp; omega)]
        exact hg'
    · have h1 : Below w.heap.size w w3 := B1.trans ((⟨b3.os, b3.tape, b3.output, b3.size, fun k hk => b3.block k (by omega)⟩ : Below w.heap.size w1 w3))
      exact h1.setCell (p := ⟨G, 0, none⟩) hlow _
  · have i1 : ¬ (L : Int) < (n : Int) := by omega
    go_wp2_with fail
    refine (unhide CL2).mono ?_
    rintro e w3 ⟨rfl, rfl⟩
    go_wp2_with fail
    go_ret
    obtain ⟨N1, B1, Z1⟩ := unhide HZ
    rw [List.drop_of_length_le (by have := unhide HN; omega)]
    exact ⟨_, G, .slice none 0 0, rfl, ⟨rfl, N1, World.ownsRow_nil _ _ _ _, by omega⟩, below_drewN B1 q⟩

theorem low_firstU {p : ByteArray × ThU} {r : List (ByteArray × ThU)} : lowK (p :: r) p.1 = 0 := by
  unfold lowK
  rw [if_neg]
  rw [kl_irr]
  simp

set_option maxRecDepth 100000 in
set_option maxHeartbeats 400000 in
theorem all_zU {g : Nat} {v : Value} {l : List (ByteArray × ThU)} {w : World} (h : KTU w g v l) (hr : Rk l) (hb : l.length * 32 ≤ 140737488355328) (k0 : ByteArray) (hk0 : l.drop (lowK l k0) = l)
    (CA : Calls Tryz.prog 103 #[.pointer (some ⟨g, 0, none⟩), .int .i64 0] w fun e w' => e = .returned (.tuple #[.string k0, .agg #[.nilFunc, .bool false], .bool false]) ∧ Below w.heap.size w w') :
    Calls Tryz.prog 87 #[.pointer (some ⟨g, 0, none⟩)] w fun e w' => ∃ f G v', e = .returned f ∧ SeqU w.heap.size w' f l G v' ∧ Below w.heap.size w w' := by
  have HT : Hid (∀ u, Below w.heap.size w u → Calls Tryz.prog 104 #[.pointer (some ⟨g, 0, none⟩), .string k0] u fun e w' => ∃ f G v', e = .returned f ∧ SeqU u.heap.size w' f l G v' ∧ Below u.heap.size u w') := hide (fun u hu => by
    have := from_U (h.below hu) hr k0 hb
    rw [hk0] at this
    exact this)
  have HA := hide CA
  clear h hr hb hk0 CA
  go_enter Tryz.func87, Tryz.ntmps87
  go_wp2_with fail
  refine (unhide HA).mono ?_
  rintro e w1 ⟨rfl, b1⟩
  have b2 : Below w.heap.size w (w1.alloc (.cells #[.nilFunc, .bool false] 73)) := b1.alloc b1.size _
  have CF := hide (unhide HT _ b2)
  have HB := hide b2
  clear HA b1 b2
  go_wp2_with fail
  refine (unhide CF).mono ?_
  rintro e w3 ⟨f, G, v', rfl, hs, b3⟩
  obtain ⟨hfn, hs1, hs2, hs3⟩ := hs
  subst hfn
  have HS := hide (And.intro hs1 (And.intro hs2 (And.intro hs3 b3)))
  clear b3 hs1 hs2 hs3
  go_wp2_with fail
  go_ret
  obtain ⟨hs1, hs2, hs3, b3⟩ := unhide HS
  have hz := (unhide HB).size
  refine ⟨_, G, v', rfl, ⟨rfl, hs1, ⟨hs2.1, ?_⟩, by omega⟩, (unhide HB).trans (b3.mono hz)⟩
  rcases hs2.2 with h | ⟨b', cap', cur, hv, hb', rest⟩
  · exact .inl h
  · exact .inr ⟨b', cap', cur, hv, by omega, rest⟩

set_option maxRecDepth 100000 in
set_option maxHeartbeats 400000 in
theorem all_cU {g : Nat} {v : Value} {l : List (ByteArray × ThU)} {w : World} (h : KTU w g v l) (hr : Rk l) (hb : l.length * 32 ≤ 140737488355328) (k0 : ByteArray) (t0 : Fn) (t1 : Array Value) (t2 : Array Value) (t3 : Bool) (hk0 : l.drop (lowK l k0) = l)
    (CA : Calls Tryz.prog 103 #[.pointer (some ⟨g, 0, none⟩), .int .i64 0] w fun e w' => e = .returned (.tuple #[.string k0, .agg #[.func t0 t1 t2, .bool t3], .bool true]) ∧ Below w.heap.size w w') :
    Calls Tryz.prog 87 #[.pointer (some ⟨g, 0, none⟩)] w fun e w' => ∃ f G v', e = .returned f ∧ SeqU w.heap.size w' f l G v' ∧ Below w.heap.size w w' := by
  have HT : Hid (∀ u, Below w.heap.size w u → Calls Tryz.prog 104 #[.pointer (some ⟨g, 0, none⟩), .string k0] u fun e w' => ∃ f G v', e = .returned f ∧ SeqU u.heap.size w' f l G v' ∧ Below u.heap.size u w') := hide (fun u hu => by
    have := from_U (h.below hu) hr k0 hb
    rw [hk0] at this
    exact this)
  have HA := hide CA
  clear h hr hb hk0 CA
  go_enter Tryz.func87, Tryz.ntmps87
  go_wp2_with fail
  refine (unhide HA).mono ?_
  rintro e w1 ⟨rfl, b1⟩
  have b2 : Below w.heap.size w (w1.alloc (.cells #[.func t0 t1 t2, .bool t3] 73)) := b1.alloc b1.size _
  have CF := hide (unhide HT _ b2)
  have HB := hide b2
  clear HA b1 b2
  go_wp2_with fail
  refine (unhide CF).mono ?_
  rintro e w3 ⟨f, G, v', rfl, hs, b3⟩
  obtain ⟨hfn, hs1, hs2, hs3⟩ := hs
  subst hfn
  have HS := hide (And.intro hs1 (And.intro hs2 (And.intro hs3 b3)))
  clear b3 hs1 hs2 hs3
  go_wp2_with fail
  go_ret
  obtain ⟨hs1, hs2, hs3, b3⟩ := unhide HS
  have hz := (unhide HB).size
  refine ⟨_, G, v', rfl, ⟨rfl, hs1, ⟨hs2.1, ?_⟩, by omega⟩, (unhide HB).trans (b3.mono hz)⟩
  rcases hs2.2 with h | ⟨b', cap', cur, hv, hb', rest⟩
  · exact .inl h
  · exact .inr ⟨b', cap', cur, hv, by omega, rest⟩

theorem all_U {g : Nat} {v : Value} {l : List (ByteArray × ThU)} {w : World} (h : KTU w g v l) (hr : Rk l) (hb : l.length * 32 ≤ 140737488355328) :
    Calls Tryz.prog 87 #[.pointer (some ⟨g, 0, none⟩)] w fun e w' => ∃ f G v', e = .returned f ∧ SeqU w.heap.size w' f l G v' ∧ Below w.heap.size w w' := by
  cases l with
  | nil => exact all_zU h hr hb ⟨#[]⟩ rfl (at_genU _ 0 0 w (by simp) (fun u hu => len_U (h.below hu)))
  | cons p r =>
    obtain ⟨k, t⟩ := p
    obtain ⟨t0, t1, t2, t3⟩ := t
    exact all_cU h hr hb k t0 t1 t2 t3 (by rw [low_firstU]; rfl) (at_inU h 0 k (t0, t1, t2, t3) rfl)

/-- a row of its own stands as it stood -/
def KeepU (v : Value) (W W' : World) : Prop := ∀ b, v.ownBlock = some b → W'.heap[b]? = W.heap[b]?

/-- a pair, as yield takes it -/
abbrev encPU (p : ByteArray × ThU) : Array Value := #[.string p.1, .agg (thU p.2).toArray]

set_option maxRecDepth 100000 in
set_option maxHeartbeats 2000000 in
attribute [local go_sem] Oper.semAt_some in
theorem iter_inU {α : Type} (en : α → ByteArray × ThU) (n : Nat) (hn : 1 ≤ n) (l : Nat) (ps : List α) (G : Nat) (v : Value) (B : Nat) (W : World) (hG : W.heap[G]? = some (.cells #[v] 110 (0, 0))) (hrow : W.ownsRow B 118 3 v ps.length (cellsU (ps.map en)))
    (J Jx : List α → World → Prop) (hJ : AbidesFrom W.heap.size J)
    (hY : ∀ pre x W1, J pre W1 → pre.length < ps.length → YieldAt Fence.wide (n - 1) Tryz.prog l (encPU (en x)) W1 fun e W' =>
      (e = .returned (.bool true) ∧ J (pre ++ [x]) W' ∧ KeepU v W1 W') ∨ (e = .returned (.bool false) ∧ Jx (pre ++ [x]) W')) (h0 : J [] W) :
    CallsIn Fence.wide n Tryz.prog 116 #[.func (.yield l) #[] #[], .pointer (some ⟨G, 0, none⟩)] W fun e W' => (∃ v, e = .returned v) ∧ ((∃ xs, xs = ps ∧ J xs W') ∨ (∃ pre, pre <+: ps ∧ Jx pre W')) := by
  obtain ⟨ao, cap, rfl, hmax, HC⟩ : ∃ ao cap, v = .slice ao ps.length cap ∧ ps.length ≤ 9223372036854775807 ∧ Hid (∀ i p, ps[i]? = some p → ∃ b, ao = some ⟨b, 0, none⟩ ∧ b < W.heap.size ∧ ∀ j u, (pcU (en p))[j]? = some u → W.cell? ⟨b, i * 3 + j, none⟩ = some u) := by
    rcases hrow.2 with ⟨rfl, hn⟩ | ⟨b, cap, cur, rfl, hb, hg, hc, hm, hs, ht⟩
    · exact ⟨none, 0, by rw [hn], by omega, hide (fun i p hp => by have := (List.getElem?_eq_some_iff.1 hp).1; omega)⟩
    · refine ⟨_, cap, rfl, by unfold maxLen at hm; omega, hide (fun i p hp => ⟨b, rfl, (Array.getElem?_eq_some_iff.1 hg).1, fun j u hj => ?_⟩)⟩
      have := hrow.cells rfl _ _ (cellsU_at (ps.map en) i (en p) (by rw [List.getElem?_map, hp]; rfl) j u hj)
      rw [add_offR, Nat.zero_add] at this
      exact this
  have c0 : W.cell? ⟨G, 0, none⟩ = some (.slice ao ps.length cap) := by rw [cell_of_row W G 0 _ _ (0, 0) hG]; rfl
  obtain ⟨m, hm⟩ : ∃ m, ps.length = m := ⟨_, rfl⟩
  rw [hm] at c0 hmax
  have HM := hide hm
  clear hrow hG hm
  refine callsIn_of_wp Tryz.func116 rfl trivial ?_ rfl
  simp only [Tryz.ntmps116, List.size_toArray, List.length_cons, List.length_nil, Nat.reduceAdd, Nat.reduceSub, Array.replicate_succ, Array.replicate_zero, List.push_toArray, List.append_toArray, List.nil_append, List.cons_append]
  gi_wp2
  gi_loopw [7] (fun i wr => ∃ k : Nat, k ≤ m ∧ i = .int .i64 k ∧ J (ps.take k) wr ∧ Hid (KeepU (.slice ao ps.length cap) W wr)) (fun i _ => m - (intOf i).toNat)
  case atStart => exact ⟨0, Nat.zero_le _, rfl, h0, hide (fun b _ => rfl)⟩
  case round =>
    obtain ⟨k, hk, rfl, hJs, HNX⟩ := hrel
    by_cases hlt : k < m
    · obtain ⟨p, hp⟩ : ∃ p, ps[k]? = some p := ⟨_, List.getElem?_eq_getElem (by have := unhide HM; omega)⟩
      obtain ⟨b, rfl, hbW, hcs⟩ := unhide HC k p hp
      have hbe : wr.heap[b]? = W.heap[b]? := unhide HNX b rfl
      have hbl : b < wr.heap.size := by
        obtain ⟨o, ho⟩ : ∃ o, W.heap[b]? = some o := ⟨_, Array.getElem?_eq_getElem hbW⟩
        exact (Array.getElem?_eq_some_iff.1 (hbe.trans ho)).1
      have htk : ps.take k ++ [p] = ps.take (k + 1) := by rw [List.take_add_one, hp]; rfl
      obtain ⟨key, t0, t1, t2, t3, hep⟩ : ∃ key t0 t1 t2 t3, en p = (key, (t0, t1, t2, t3)) := ⟨_, _, _, _, _, rfl⟩
      rw [hep] at hcs
      have d0' : wr.cell? ⟨b, k * 3, none⟩ = some (.string key) := (World.cell?_of_block (w := W) hbe).trans (hcs 0 _ rfl)
      have g0 : wr.cell? ⟨b, k * 3 + 1, none⟩ = some (.func t0 t1 t2) := (World.cell?_of_block (w := W) hbe).trans (hcs 1 _ rfl)
      have g1 : wr.cell? ⟨b, k * 3 + 2, none⟩ = some (.bool t3) := (World.cell?_of_block (w := W) hbe).trans (hcs 2 _ rfl)
      have k1 : (k : Int) < (m : Int) := by omega
      have hJ2 : J (ps.take k) (wr.alloc (.cells #[.string key, .func t0 t1 t2, .bool t3] 118)) := hJ _ _ _ none hJs (World.grownBy_alloc _ _ _) (fun r h => by cases h)
      obtain ⟨fn, tmps, assign, body, hy, hR⟩ := hY _ p _ hJ2 (by have := unhide HM; rw [List.length_take]; omega)
      rw [htk] at hR
      rw [hep] at hy
      dsimp only [encPU, thU] at hy
      have HA : Hid ((wr.alloc (.cells #[.string key, .func t0 t1 t2, .bool t3] 118)).heap[b]? = W.heap[b]?) := hide ((((Below.refl wr.heap.size wr).alloc (Nat.le_refl _) (.cells #[.string key, .func t0 t1 t2, .bool t3] 118)).block b hbl).trans hbe)
      clear hbe hcs hbW hp
      gi_wp2
      refine hR.mono ?_
      rintro e W3 (⟨rfl, hJ3, hk3⟩ | ⟨rfl, hJx3⟩)
      · have HK3 : Hid (KeepU (.slice (some ⟨b, 0, none⟩) ps.length cap) W W3) := hide (fun c hc => by
          have hcb : c = b := by simpa [Value.ownBlock] using hc.symm
          subst hcb
          exact (hk3 c rfl).trans (unhide HA))
        clear hk3
        gi_wp2
        go_roundw
        case rel => exact ⟨k + 1, by omega, by simp, hJ3, HK3⟩
        case measure => simp [intOf]; omega
      · gi_wp2
        refine bodyPost_ret (results_none rfl _ _ _) rfl ?_
        exact ⟨⟨_, rfl⟩, .inr ⟨_, List.take_prefix _ _, hJx3⟩⟩
    · obtain rfl : k = m := by omega
      have k1 : ¬ (k : Int) < (k : Int) := by omega
      have htk : ps.take k = ps := List.take_of_length_le (by have := unhide HM; omega)
      rw [htk] at hJs
      gi_wp2
      go_end0
      first | exact ⟨⟨_, rfl⟩, .inl ⟨_, rfl, hJs⟩⟩ | exact ⟨⟨_, rfl⟩, .inl hJs⟩

/-- .. as the laws of a range want it -/
theorem iter_stopsU {α : Type} (en : α → ByteArray × ThU) (n : Nat) (hn : 1 ≤ n) (ps : List α) (G : Nat) (v : Value) (B : Nat) (w : World) (hG : w.heap[G]? = some (.cells #[v] 110 (0, 0))) (hrow : w.ownsRow B 118 3 v ps.length (cellsU (ps.map en))) :
    SeqStopsK Fence.wide n Tryz.prog 116 #[.pointer (some ⟨G, 0, none⟩)] (fun x => encPU (en x)) (KeepU v) (fun xs => xs = ps) (fun pre => pre <+: ps) ps.length w := fun l J Jx W hW hJ _ hY h0 => by
  have hgl := (Array.getElem?_eq_some_iff.1 hG).1
  refine iter_inU en n hn l ps G v B W ((hW.block G hgl).trans hG) ?_ J Jx hJ hY h0
  refine ⟨hrow.1, ?_⟩
  rcases hrow.2 with h | ⟨b, cap, cur, e, hb', hg', rest⟩
  · exact .inl h
  · exact .inr ⟨b, cap, cur, e, hb', (hW.block b (Array.getElem?_eq_some_iff.1 hg').1).trans hg', rest⟩

end Go.Proofs.YtdaooapfokhfcaaGreat

namespace Go.Proofs.YtdaooapfokhfcaaGreat
open Go.RowKit
set_option linter.unusedVariables false
set_option linter.unusedSimpArgs false

theorem infoPM : (Tryz.prog.info? 88).map (fun i => (i.zero, i.size, i.bytes)) = some (some (.pointer none), 1, 8) := by kernel_rfl

theorem zcPM : (Builtin.zeroCells (.pointer none : Value).cells 1).toList = [.pointer none] := by
  simp [Builtin.zeroCells, List.range_succ, Value.cells]

theorem zoPM : ∀ u ∈ ([.pointer none] : List Value), u.oneCell' = true := (by intro u hu; simp at hu; subst hu; rfl)

set_option maxRecDepth 100000 in
set_option maxHeartbeats 1000000 in
theorem deletePM (base : Nat) (xs : List Value) (n i b cap : Nat) (w : World) (ho : w.ownsRow base 88 1 (.slice (some ⟨b, 0, none⟩) n cap) n xs) (hl1 : ∀ u ∈ xs, u.oneCell' = true) (hi : i < n) (J : Int) (hJ : J = (i : Int) + 1) :
    Calls Tryz.prog 86 #[.slice (some ⟨b, 0, none⟩) n cap, .int .i64 i, .int .i64 J] w fun e w' => e = .returned (.slice (some ⟨b, 0, none⟩) (n - 1) cap) ∧ w'.ownsRow base 88 1 (.slice (some ⟨b, 0, none⟩) (n - 1) cap) (n - 1) (xs.take (i * 1) ++ xs.drop ((i + 1) * 1)) ∧ w.grownBy w' (some b) := by
  obtain ⟨i0, hi0, hz0, hz1, hz2⟩ := info_parts infoPM
  have hxl := ho.1
  obtain ⟨cur, hbase, hg, hc, hm, hcs, htk⟩ : ∃ cur : List Value, base ≤ b ∧ w.heap[b]? = some (.cells cur.toArray 88 (0, 0)) ∧ n ≤ cap ∧ cap ≤ maxLen ∧ cur.length = cap * 1 ∧ cur.take (n * 1) = xs := by
    rcases ho.2 with ⟨e, _⟩ | ⟨g, cap', cur, e, hb, hg, hc, hm, hs, ht⟩
    · cases e
    · cases e
      exact ⟨cur.toList, hb, by simpa using hg, hc, hm, by simpa using hs, ht⟩
  have hcm : cap ≤ 9223372036854775807 := by unfold maxLen at hm; omega
  have hsrc : ∀ (u : World) (ad : Addr), u.heap[b]? = some (.cells cur.toArray 88 (0, 0)) → (i + 1 < n → ad = ⟨b, i + 1, none⟩) → ∀ j v, (xs.drop ((i + 1) * 1))[j]? = some v → u.cell? (ad.add j) = some v := fun u ad hu had j v hj => by
    have hlt : i + 1 < n := by
      have := (List.getElem?_eq_some_iff.1 hj).1
      rw [List.length_drop, hxl] at this
      omega
    rw [had hlt, add_offR, cell_of_row u b _ _ _ (0, 0) hu]
    rw [List.getElem?_drop, ← htk] at hj
    rw [List.getElem?_take] at hj
    split at hj
    · simpa using hj
    · cases hj
  have HP : Hid (∀ u ∈ xs.drop ((i + 1) * 1), u.oneCell' = true) := hide (fun u hu => hl1 u (List.mem_of_mem_drop hu))
  have HG := hide hg
  have HS := hide hsrc
  have HC := hide (And.intro hbase (And.intro hcs (And.intro htk (And.intro hm hxl))))
  have HL : Hid ((xs.drop ((i + 1) * 1)).length = (n - (i + 1)) * 1) := hide (by rw [List.length_drop, hxl]; omega)
  have HF : Hid (i * 1 + (xs.drop ((i + 1) * 1)).length ≤ cur.length) := hide (by rw [unhide HL, hcs]; omega)
  obtain ⟨ds, hds⟩ : ∃ ds, xs.drop ((i + 1) * 1) = ds := ⟨_, rfl⟩
  rw [hds] at HL HF HS HP
  have HDS := hide hds
  have i1 : (0 : Int) ≤ (i : Int) := by omega
  have i2 : (i : Int) ≤ (i : Int) + 1 := by omega
  have i3 : (i : Int) + 1 ≤ (n : Int) := by omega
  have i4 : (n : Int) ≤ (cap : Int) := by omega
  have i5 : ¬ ((i : Int) = (i : Int) + 1) := by omega
  have i6 : ((i : Int) + 1).toNat = i + 1 := by omega
  have i7 : (0 : Int) ≤ (i : Int) + 1 := by omega
  have i8 : ¬ (n = i) := by omega
  have i9 : ¬ (cap = i) := by omega
  have i10 : (i : Int) ≤ (cap : Int) := by omega
  have i11 : (i : Int) + 1 ≤ (cap : Int) := by omega
  subst hJ
  clear ho hl1 hg hsrc hbase hcs hm htk hds hxl
  have fin : Hid (∀ w1 w2 : World, LaidR w.drew w1 b (splice cur (i * 1) ds) 88 → LaidR w1 w2 b (splice (splice cur (i * 1) ds) (n - 1) [.pointer none]) 88 →
      w2.ownsRow base 88 1 (.slice (some ⟨b, 0, none⟩) (n - 1) cap) (n - 1) (xs.take (i * 1) ++ xs.drop ((i + 1) * 1)) ∧ w.grownBy w2 (some b)) := hide (fun w1 w2 H1 H2 => by
    obtain ⟨hbase, hcs, htk, hm, hxl⟩ := unhide HC
    obtain ⟨hs1, hs2⟩ := splice_delR cur xs [.pointer none] 1 (n * 1) (i * 1) hxl rfl (by omega) (by omega) htk
    have e1 : i * 1 + 1 = (i + 1) * 1 := by omega
    have e2 : n * 1 - 1 = n - 1 := by omega
    rw [e1, unhide HDS, e2] at hs1 hs2
    refine ⟨⟨?_, .inr ⟨b, cap, _, rfl, hbase, H2.here, by omega, hm, by rw [List.size_toArray, hs2, hcs], ?_⟩⟩, ⟨?_, ?_, ?_, ?_, fun k hk hne' => ?_⟩⟩
    · simp only [List.length_append, List.length_take, List.length_drop, hxl]
      omega
    · rw [List.toList_toArray, unhide HDS, show (n - 1) * 1 = n - 1 by omega]
      exact hs1
    · exact H2.os.trans H1.os
    · exact H2.tape.trans H1.tape
    · exact H2.output.trans H1.output
    · rw [H2.size, H1.size]
      exact Nat.le_refl _
    · have hk2 : k ≠ b := fun e => hne' (by rw [e])
      rw [H2.other k hk2, H1.other k hk2]
      rfl)
  by_cases hcp : cap = i + 1
  · subst hcp
    go_enter Tryz.func86, Tryz.ntmps86
    go_wp2_with fail
    go_region_held3 (fun _ => True)
      (exact trivial)
      ((refine step_roomR (by rfl) (.tmp 22) (.tmp 25) 50 88 i0 1 (by rfl) Tryz.underlying50 hi0 hz1 b i (i + 1) ⟨b, 0, none⟩ 0 0 (by rfl) (by rfl) cur ds (unhide HG) (by have := unhide HL; omega) (unhide HS _ _ (unhide HG) (by omega)) (unhide HP) (by omega) (unhide HF) ?_; rw [show i + 0 = n - 1 by omega]; intro w1 H1))
    have hs1 : (splice cur (i * 1) ds).length = cur.length := length_splice _ _ _ (unhide HF)
    have HF1 : Hid (n - 1 + 1 ≤ (splice cur (i * 1) ds).length) := hide (by rw [hs1]; have := (unhide HC).2.1; omega)
    clear hs1
    have j1 : ((n - 1 : Nat) : Int) ≤ (n : Int) := by omega
    have j2 : ¬ (i + 1 = n - 1) := by omega
    have j3 : (0 : Int) ≤ ((n - 1 : Nat) : Int) := by omega
    have j4 : n - (n - 1) = 1 := by omega
    have tok1 : True := trivial
    go_wp2_with (first | (have _t := tok1; refine wpl_clearR rfl (.tmp 31) 50 88 _ 1 rfl Tryz.underlying50 Tryz.zeroValue88 [.pointer none] zcPM rfl zoPM b (n - 1) (i + 1 - (n - 1)) (by simp [Act.eval, Act.put, j4]) (splice cur (i * 1) ds) 88 (unhide H1).here (unhide HF1) ?_; intro w2 H2; clear tok1))
    go_ret
    exact ⟨rfl, unhide fin w1 w2 (unhide H1) (unhide H2)⟩
  · go_enter Tryz.func86, Tryz.ntmps86
    go_wp2_with fail
    go_region_held3 (fun _ => True)
      (exact trivial)
      ((refine step_roomR (by rfl) (.tmp 22) (.tmp 25) 50 88 i0 1 (by rfl) Tryz.underlying50 hi0 hz1 b i cap ⟨b, i + 1, none⟩ (n - (i + 1)) (cap - (i + 1)) (by rfl) (by rfl) cur ds (unhide HG) (by have := unhide HL; omega) (unhide HS _ _ (unhide HG) (by intro _; rfl)) (unhide HP) (by omega) (unhide HF) ?_; rw [show i + (n - (i + 1)) = n - 1 by omega]; intro w1 H1))
    have hs1 : (splice cur (i * 1) ds).length = cur.length := length_splice _ _ _ (unhide HF)
    have HF1 : Hid (n - 1 + 1 ≤ (splice cur (i * 1) ds).length) := hide (by rw [hs1]; have := (unhide HC).2.1; omega)
    clear hs1
    have j1 : ((n - 1 : Nat) : Int) ≤ (n : Int) := by omega
    have j2 : ¬ (cap = n - 1) := by omega
    have j3 : (0 : Int) ≤ ((n - 1 : Nat) : Int) := by omega
    have j4 : n - (n - 1) = 1 := by omega
    have tok1 : True := trivial
    go_wp2_with (first | (have _t := tok1; refine wpl_clearR rfl (.tmp 31) 50 88 _ 1 rfl Tryz.underlying50 Tryz.zeroValue88 [.pointer none] zcPM rfl zoPM b (n - 1) (cap - (n - 1)) (by simp [Act.eval, Act.put, j4]) (splice cur (i * 1) ds) 88 (unhide H1).here (unhide HF1) ?_; intro w2 H2; clear tok1))
    go_ret
    exact ⟨rfl, unhide fin w1 w2 (unhide H1) (unhide H2)⟩

end Go.Proofs.YtdaooapfokhfcaaGreat
