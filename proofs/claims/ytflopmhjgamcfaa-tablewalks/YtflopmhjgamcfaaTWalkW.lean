/-
  The walk of the law TableWalks; conditions: the scripts' steps lie in memory, 2^43 less some at the most.
-/
import Derived.Test.YtflopmhjgamcfaaTPlay
import Derived.Test.YtflopmhjgamcfaaTCopyI
set_option linter.unusedSimpArgs false
namespace Go.Proofs.Ytflopmhjgamcfaa.tableWalks
open Go.RowKit Go.Shelf
set_option linter.unusedVariables false
attribute [local go_sem] Oper.semAt_some

/-- what the second half goes by: where all lies that it reads -/
structure Wk (w : World) (S R P G : Nat) (stop : Int) (g : Nat) (rl : Value) (v' : Value) (l : Prs) (base : Nat) (W : World) : Prop where
  stopc : W.heap[S]? = some (.cells #[.int .i64 stop] 3 (0, 0))
  res : W.heap[R]? = some (.cells #[.bool false] 4 (0, 0))
  p : W.heap[P]? = some (.cells #[.pointer (some ⟨g, 0, none⟩), rl] 29 (0, 0))
  box : W.heap[G]? = some (.cells #[v'] 68 (0, 0))
  row : W.ownsRow base 71 2 v' l.length (cells2 (valsI l))
  ref : RefRow W rl l
  below : Below w.heap.size w W

section
variable {w W W' : World} {S R P G : Nat} {stop : Int} {g : Nat} {rl v' : Value} {l : Prs} {base : Nat}

theorem Wk.keep (h : Wk w S R P G stop g rl v' l base W) (hb : Below w.heap.size w W') (hk : ∀ (b : Nat) (c : Array Value) (t : TypeId), W.heap[b]? = some (.cells c t (0, 0)) → (b = S ∨ b = R ∨ b = P ∨ b = G ∨ v'.ownBlock = some b ∨ rl.ownBlock = some b) → W'.heap[b]? = W.heap[b]?) : Wk w S R P G stop g rl v' l base W' :=
  ⟨(hk _ _ _ h.stopc (by simp)).trans h.stopc, (hk _ _ _ h.res (by simp)).trans h.res, (hk _ _ _ h.p (by simp)).trans h.p, (hk _ _ _ h.box (by simp)).trans h.box,
    row_keep h.row (fun b hb => by obtain ⟨cur, hc⟩ := row_blk h.row hb; exact hk b _ _ hc (by simp [hb])), row_keep h.ref (fun b hb => by obtain ⟨cur, hc⟩ := row_blk h.ref hb; exact hk b _ _ hc (by simp [hb])), hb⟩

theorem Wk.later (h : Wk w S R P G stop g rl v' l base W) (hb : Below W.heap.size W W') : Wk w S R P G stop g rl v' l base W' :=
  h.keep (h.below.trans (hb.mono h.below.size)) (fun b c t hc _ => hb.block b (Array.getElem?_eq_some_iff.1 hc).1)
end

/-- within a round: what was gone through so far, which round it is; what an elder round has deferred -/
structure Rd (w : World) (S R P G : Nat) (stop : Int) (g : Nat) (rl : Value) (v' : Value) (l : Prs) (base : Nat) (Nb Qb : Nat) (r : Int) (B D0 : Nat) (dd : Bool) (c : Int) (W : World) : Prop where
  wk : Wk w S R P G stop g rl v' l base W
  cnt : W.heap[Nb]? = some (.cells #[.int .i64 c] 3 (0, 0))
  rnd : W.heap[Qb]? = some (.cells #[.int .i64 r] 3 (0, 0))
  size : B ≤ W.heap.size
  old : dd = true → W.heap[D0]? = some (.deferred (some []))

section
variable {w W W' : World} {S R P G : Nat} {stop : Int} {g : Nat} {rl v' : Value} {l : Prs} {base : Nat} {Nb Qb : Nat} {r : Int} {B D0 : Nat} {dd : Bool} {c : Int}

theorem Rd.own (h : Rd w S R P G stop g rl v' l base Nb Qb r B D0 dd c W) {row : Option Nat} (hg : W.grownBy W' row) (hr : ∀ q, row = some q → B ≤ q ∧ ∃ o : Obj, W.heap[q]? = some o ∧ o.isCells = false) (hw : w.heap.size ≤ B) (hD : dd = true → D0 < B) : Rd w S R P G stop g rl v' l base Nb Qb r B D0 dd c W' := by
  have hne : ∀ (q : Nat) (c : Array Value) (t : TypeId), W.heap[q]? = some (.cells c t (0, 0)) → some q ≠ row := fun q c t hq e => by
    obtain ⟨_, o, ho, hc⟩ := hr q e.symm
    rw [hq] at ho
    cases ho
    cases hc
  have hk : ∀ (q : Nat) (c : Array Value) (t : TypeId), W.heap[q]? = some (.cells c t (0, 0)) → W'.heap[q]? = W.heap[q]? := fun q c t hq => hg.block q (Array.getElem?_eq_some_iff.1 hq).1 (hne q c t hq)
  refine ⟨h.wk.keep (h.wk.below.grown hg h.wk.below.size (fun q hq => by have h1 := (hr q hq).1; omega)) (fun b c t hc _ => hk b c t hc), (hk _ _ _ h.cnt).trans h.cnt, (hk _ _ _ h.rnd).trans h.rnd, Nat.le_trans h.size hg.size, fun hd => ?_⟩
  have h1 := h.old hd
  exact (hg.block D0 (Array.getElem?_eq_some_iff.1 h1).1 (fun e => by have h2 := (hr D0 e.symm).1; have h3 := hD hd; omega)).trans h1

theorem Rd.step (h : Rd w S R P G stop g rl v' l base Nb Qb r B D0 dd c W) (c' : Int) (hS : S ≠ Nb) (hR : R ≠ Nb) (hP : P ≠ Nb) (hG : G ≠ Nb) (hQ : Qb ≠ Nb) (hw : w.heap.size ≤ Nb) : Rd w S R P G stop g rl v' l base Nb Qb r B D0 dd c' (W.setCell ⟨Nb, 0, none⟩ (.int .i64 c')) := by
  have ot : ∀ b, b ≠ Nb → (W.setCell ⟨Nb, 0, none⟩ (.int .i64 c')).heap[b]? = W.heap[b]? := fun b hb => heap_setCell_other _ _ _ _ hb
  refine ⟨h.wk.keep (h.wk.below.setCell (p := ⟨Nb, 0, none⟩) hw _) (fun b c t hc hd => ?_), heap_setCell_same W Nb 0 _ _ (.int .i64 c') h.cnt, (ot Qb hQ).trans h.rnd, by simp; exact h.size, fun hd => (ot D0 (fun e => ?_)).trans (h.old hd)⟩
  · rcases hd with rfl | rfl | rfl | rfl | hv | hv
    · exact ot _ hS
    · exact ot _ hR
    · exact ot _ hP
    · exact ot _ hG
    · obtain ⟨cur, hcur⟩ := row_blk h.wk.row hv
      exact ot b (blk_ne hcur h.cnt (by decide))
    · obtain ⟨cur, hcur⟩ := row_blk h.wk.ref hv
      exact ot b (blk_ne hcur h.cnt (by decide))
  · have h1 := h.old hd
    rw [e, h.cnt] at h1
    cases h1
end

theorem rounds_two {F : Fence} {n : Nat} {P : Program} {c : Code} {Q : Exit → Act → World → Prop} (X : Act → World → Prop) {a : Act} {w : World} (h1 : ∀ a w, X a w → Code.roundsIn F n P c Q 2 a w) (h0 : c.wpIn F n P (Exit.then X Q) a w) : Code.roundsIn F n P c Q 3 a w := by
  rw [roundsIn_succ]
  refine wpIn_mono h0 (fun e a w h => ?_)
  cases e with
  | normal => exact h1 _ _ h
  | _ => exact h

theorem pre_snoc {ps pre : List (Int × Int)} {x : Int × Int} (h : pre <+: ps) (hx : ps[pre.length]? = some x) : pre ++ [x] <+: ps := by
  obtain ⟨t, rfl⟩ := h
  rw [List.getElem?_append_right (Nat.le_refl _), Nat.sub_self] at hx
  cases t with
  | nil => cases hx
  | cons y t =>
    cases hx
    exact ⟨t, by simp⟩

theorem snoc_at {ps pre : List (Int × Int)} {x : Int × Int} (h : pre ++ [x] <+: ps) : ps[pre.length]? = some x := by
  obtain ⟨t, rfl⟩ := h
  simp

set_option maxRecDepth 100000 in
set_option maxHeartbeats 1000000 in
theorem walk (ao bo : Option Addr) (n cap nn bcap : Nat) (ss sl : List Stp4) (stop : Int) (w : World) (hk : Script w w.heap.size ao n ss) (hk2 : Script w w.heap.size bo nn sl) (hn : n + nn ≤ 8796093022206) :
    Calls Try.prog 4 #[.slice ao n cap, .slice bo nn bcap, .int .i64 stop] w fun e w' => e = .returned (.bool true) ∧ Below w.heap.size w w' := by
  have hn1 : (n + 2) * 16 ≤ 140737488355328 := by omega
  obtain ⟨S, hS⟩ : ∃ S, w.heap.size = S := ⟨_, rfl⟩
  obtain ⟨w1, hw1⟩ : ∃ w1, w.alloc (.cells #[.int .i64 stop] 3) = w1 := ⟨_, rfl⟩
  have N1 := heap_alloc_new w (.cells #[.int .i64 stop] 3)
  have B1 : Below w.heap.size w w1 := by rw [← hw1]; exact (Below.refl _ _).alloc (Nat.le_refl _) _
  have Z1 : w1.heap.size = S + 1 := by rw [← hw1, ← hS]; simp
  rw [hw1, hS] at N1
  obtain ⟨w2, hw2⟩ : ∃ w2, w1.alloc (.cells #[.bool false] 4) = w2 := ⟨_, rfl⟩
  have N2 := heap_alloc_new w1 (.cells #[.bool false] 4)
  have B2 : Below w1.heap.size w1 w2 := by rw [← hw2]; exact (Below.refl _ _).alloc (Nat.le_refl _) _
  have Z2 : w2.heap.size = S + 2 := by rw [← hw2]; simp [Z1]
  rw [hw2, Z1] at N2
  have B12 : Below w.heap.size w w2 := B1.trans (B2.mono B1.size)
  have CP := hide (played_I ao n cap ss w2 ((hk.later B12).mono B12.size) hn1)
  have K2 := hide ((hk2.later B12).mono B12.size)
  have HS := hide hS
  have W1 := hide hw1
  have W2 := hide hw2
  have Z1' := hide Z1
  have H2 := hide (And.intro ((B2.block S (by omega)).trans N1) (And.intro N2 (And.intro B12 Z2)))
  clear hk hk2 N1 B1 Z1 hS hw1 hw2 N2 B2 Z2 B12
  refine (callsIn_wide (n := 5)).1 ?_
  refine callsIn_of_wp_marks Try.func4 rfl trivial ?_ rfl
  simp only [Try.ntmps4, List.size_toArray, List.length_cons, List.length_nil, Nat.reduceAdd, Nat.reduceSub, Array.replicate_succ, Array.replicate_zero, List.push_toArray, List.append_toArray, List.nil_append, List.cons_append]
  gi_wp2_with fail
  rw [unhide HS, unhide W1, unhide W2]
  refine ⟨trivial, (callsIn_wide.2 (unhide CP)).mono ?_⟩
  rintro e w3 ⟨av, es, rfl, q1, q2, q3, q4⟩
  obtain ⟨A, ac, hav⟩ : ∃ A ac, av = .slice (some ⟨A, 0, none⟩) es.length ac := by
    rcases q1.row.2 with ⟨_, h0⟩ | ⟨A, cap, cur, rfl, _⟩
    · omega
    · exact ⟨A, cap, rfl⟩
  subst hav
  obtain ⟨a, ha⟩ : ∃ a, es[0]? = some a := ⟨_, List.getElem?_eq_getElem (by omega)⟩
  obtain ⟨t0, t1⟩ := all_cells q1 ha
  have ho := q1.ok 0 a ha
  have hl : a.l = a.m := q2 a (List.mem_of_getElem? ha)
  obtain ⟨ra, rc, hra, hrl, hrc, _, _⟩ := ref_cells ho.ref
  have q34 := And.intro q3 q4
  have HQ := hide (And.intro q1 (And.intro ho (And.intro hl (And.intro hra (And.intro q2 q34)))))
  rw [hra] at t1
  simp only [Nat.zero_mul, Nat.zero_add] at t0 t1
  obtain ⟨m, hm⟩ : ∃ m, es.length = m := ⟨_, rfl⟩
  rw [hm] at q3 ⊢
  have m1 : (0 : Int) < (m : Int) := by omega
  obtain ⟨M, hM⟩ : ∃ M, a.m.length = M := ⟨_, rfl⟩
  rw [hM] at t1 hrl
  have HM := hide (And.intro hM hm)
  obtain ⟨P, hP⟩ : ∃ P, w3.heap.size = P := ⟨_, rfl⟩
  obtain ⟨w4, hw4⟩ : ∃ w4, w3.alloc (.cells #[.pointer (some ⟨a.g, 0, none⟩), .slice ra M rc] 29) = w4 := ⟨_, rfl⟩
  have N4 := heap_alloc_new w3 (.cells #[.pointer (some ⟨a.g, 0, none⟩), .slice ra M rc] 29)
  have B4 : Below w3.heap.size w3 w4 := by rw [← hw4]; exact (Below.refl _ _).alloc (Nat.le_refl _) _
  have Z4 : w4.heap.size = P + 1 := by rw [← hw4, ← hP]; simp
  rw [hw4, hP] at N4
  have E4 : EntOk w2 w4 n a := ho.keep (Nat.le_refl _) (fun b c t hc _ => B4.block b (Array.getElem?_eq_some_iff.1 hc).1)
  have CA : Hid (Calls Try.prog 10 #[.pointer (some ⟨a.g, 0, none⟩)] w4 fun e w' => ∃ G v' wb, e = .returned (.func (.func 32) #[] #[.pointer (some ⟨G, 0, none⟩)]) ∧ Hid (Seq wb w' (.func (.func 32) #[] #[.pointer (some ⟨G, 0, none⟩)]) a.m G v' ∧ Below w4.heap.size w4 wb ∧ Below wb.heap.size wb w')) := hide (by
    have := all_I E4.tab E4.rises (by have := E4.len.1; omega)
    refine this.mono ?_
    rintro e w' ⟨f, G, v', wb, rfl, q1, q2, q3⟩
    have hf := q1.fn
    subst hf
    rw [hl] at q1
    exact ⟨G, v', wb, rfl, hide ⟨q1, q2, q3⟩⟩)
  have c4 : (w3.alloc (.cells #[.pointer (some ⟨a.g, 0, none⟩), .slice ra M rc] 29)).cell? ⟨P, 0, none⟩ = some (.pointer (some ⟨a.g, 0, none⟩)) := by rw [hw4, cell_of_row w4 P 0 _ _ (0, 0) N4]; rfl
  have X4 := hide (And.intro N4 (And.intro B4 Z4))
  have HP := hide hP
  have W4 := hide hw4
  clear q1 q2 q3 q4 q34 ho hl ha hra CP hm hM N4 B4 Z4 E4 hP hw4
  gi_wp2_with fail
  rw [unhide HP, unhide W4]
  refine ⟨trivial, (callsIn_wide.2 (unhide CA)).mono ?_⟩
  rintro e w5 ⟨G, v', wb, rfl, H5⟩
  obtain ⟨J, hJ⟩ : ∃ J : Nat → Obj → Prop, J = fun b o => w5.heap[b]? = some o ∧ (w3.heap.size ≤ b ∨ a.r.ownBlock = some b) := ⟨_, rfl⟩
  have A5 : Hid (AllT J w2 w5 (.slice (some ⟨A, 0, none⟩) es.length ac) es n) := hide (by
    obtain ⟨q1, ho, hl, hra, q2, q34⟩ := unhide HQ
    obtain ⟨N4, B4, Z4⟩ := unhide X4
    obtain ⟨hsq, bb, b5⟩ := unhide H5
    have b45 : Below w4.heap.size w4 w5 := bb.trans (b5.mono bb.size)
    have b35 : Below w3.heap.size w3 w5 := B4.trans (b45.mono B4.size)
    refine (q1.later b35).freeze (fun b o hb => ?_)
    rw [hJ] at hb
    obtain ⟨h1, h2⟩ := hb
    have old : ∀ x, x < w3.heap.size → w3.heap.size ≤ b → x ≠ b := fun x hx hb => by omega
    rcases h2 with h2 | h2
    · refine ⟨h1, fun e => ?_, fun e he => ⟨?_, fun e' => ?_⟩⟩
      · have := (q1.row.lt b e).2
        omega
      · obtain ⟨i, hi⟩ := List.mem_iff_getElem?.1 he
        exact old _ (Array.getElem?_eq_some_iff.1 (q1.ok i e hi).tab.here).1 h2
      · obtain ⟨i, hi⟩ := List.mem_iff_getElem?.1 he
        have := ((q1.ok i e hi).tab.row.lt b e').2
        omega
    · obtain ⟨cur, hc⟩ := row_blk ho.ref h2
      refine ⟨h1, fun e => ?_, fun e he => ⟨?_, fun e' => ?_⟩⟩
      · obtain ⟨cur2, hc2⟩ := row_blk q1.row e
        exact blk_ne hc hc2 (by decide) rfl
      · obtain ⟨i, hi⟩ := List.mem_iff_getElem?.1 he
        exact fun e' => blk_ne hc (q1.ok i e hi).tab.here (by decide) e'.symm
      · obtain ⟨i, hi⟩ := List.mem_iff_getElem?.1 he
        obtain ⟨cur2, hc2⟩ := row_blk (q1.ok i e hi).tab.row e'
        exact blk_ne hc hc2 (by decide) rfl)
  have HJ := hide hJ
  rw [(unhide HM).2] at A5
  clear hJ c4 CA t0 t1
  gi_wp2_with fail
  gi_loopw [7, 11] (fun xa x wr => ∃ (i : Nat) (es' : List Ent), i ≤ nn ∧ x = .int .i64 i ∧ Hid (AllT J w2 wr xa es' (n + i) ∧ (∀ a ∈ es', a.l = a.m) ∧ 1 ≤ es'.length ∧ es'.length ≤ 6)) (fun _ x _ => nn - (intOf x).toNat)
  case atStart => exact ⟨0, es, Nat.zero_le _, rfl, hide ⟨unhide A5, (unhide HQ).2.2.2.2.1, (unhide HQ).2.2.2.2.2⟩⟩
  case round =>
    obtain ⟨i, es', hi, rfl, HW⟩ := hrel
    by_cases hlt : i < nn
    · have i1 : (i : Int) < (nn : Int) := by omega
      obtain ⟨s, hs⟩ : ∃ s, sl[i]? = some s := ⟨_, List.getElem?_eq_getElem (by have := (unhide K2).length; omega)⟩
      obtain ⟨ad, b, o, rfl, he, _, c0, c1, c2, c3⟩ := ((unhide K2).later (unhide HW).1.below).cell i s hs
      obtain ⟨kd, on, k, x⟩ := s
      simp only at c0 c1 c2 c3
      have AW : AllT J w2 (wr.alloc (.cells #[.int .i64 kd, .int .i64 0, .int .i64 k, .int .i64 x] 36)) u7 es' (n + i) := (unhide HW).1.later ((Below.refl _ _).alloc (Nat.le_refl _) _)
      obtain ⟨N, hN⟩ : ∃ N, n + i = N := ⟨_, rfl⟩
      rw [hN] at AW
      have CD := hide (does_I AW (unhide HW).2.1 (unhide HW).2.2.1 (unhide HW).2.2.2 (by omega) kd 0 k x)
      have HN := hide hN
      clear hs AW hN
      gi_wp2_with fail
      refine ⟨trivial, (callsIn_wide.2 (unhide CD)).mono ?_⟩
      rintro e y1 ⟨av', es2, rfl, q1, q2, q3, q4⟩
      rw [← unhide HN] at q1
      have Q1 : Hid (AllT J w2 y1 av' es2 (n + (i + 1)) ∧ (∀ a ∈ es2, a.l = a.m) ∧ 1 ≤ es2.length ∧ es2.length ≤ 6) := hide ⟨q1, q2, q3, q4⟩
      clear q1 q2 q3 q4 c0 c1 c2 c3 CD he
      gi_wp2_with fail
      go_roundw
      case rel => exact ⟨i + 1, es2, by omega, by go_num, Q1⟩
      case measure => simp [intOf]; omega
    · obtain rfl : i = nn := by omega
      have i1 : decide ((i : Int) < (i : Int)) = false := by simp
      have i2 : decide (i < i) = false := by simp
      have WK : Hid (Wk w S (S + 1) P G stop a.g (.slice ra M rc) v' a.m wb.heap.size wr) := hide (by
        obtain ⟨q1, ho, hl, hra, q2, q34⟩ := unhide HQ
        obtain ⟨N4, B4, Z4⟩ := unhide X4
        obtain ⟨hsq, bb, b5⟩ := unhide H5
        obtain ⟨s2, r2, B12, Z2⟩ := unhide H2
        have hP := unhide HP
        rw [(unhide HM).1] at hra
        have b45 : Below w4.heap.size w4 w5 := bb.trans (b5.mono bb.size)
        have b35 : Below w3.heap.size w3 w5 := B4.trans (b45.mono B4.size)
        have fz := (unhide HW).1.frozen
        rw [unhide HJ] at fz
        have bel := (unhide HW).1.below
        have sz1 := bb.size
        have sz2 := B4.size
        have P5 := (b45.block P (by omega)).trans N4
        refine ⟨(bel.block S (by omega)).trans s2, (bel.block (S + 1) (by omega)).trans r2, (fz P _ ⟨P5, .inl (by omega)⟩).1, (fz G _ ⟨hsq.here, .inl (by have := hsq.low; omega)⟩).1, ?_, ?_, B12.trans (bel.mono B12.size)⟩
        · refine row_keep hsq.row (fun b hb => ?_)
          obtain ⟨cur, hc⟩ := row_blk hsq.row hb
          exact ((fz b _ ⟨hc, .inl (by have := (hsq.row.lt b hb).1; omega)⟩).1).trans hc.symm
        · rw [← hra]
          have r5 := ref_later ho.ref b35
          refine row_keep r5 (fun b hb => ?_)
          obtain ⟨cur, hc⟩ := row_blk r5 hb
          exact ((fz b _ ⟨hc, .inr hb⟩).1).trans hc.symm)
      have ZK : Hid (P < wr.heap.size ∧ G < wr.heap.size ∧ S + 1 < P ∧ w.heap.size = S ∧ ∀ b, v'.ownBlock = some b → b < wr.heap.size) := hide (by
        obtain ⟨s2, r2, B12, Z2⟩ := unhide H2
        have h1 := (unhide HQ).1.below.size
        have h2 := unhide HP
        exact ⟨(Array.getElem?_eq_some_iff.1 (unhide WK).p).1, (Array.getElem?_eq_some_iff.1 (unhide WK).box).1, by omega, unhide HS, fun b hb => ((unhide WK).row.lt b hb).2⟩)
      have HL := hide (unhide HM).1
      clear A5 HW HJ H5 X4 HQ H2 K2 HM W1 W2 W4 HP HS Z1'
      gi_wp2_with fail
      obtain ⟨Qb, hQb⟩ : ∃ Qb, wr.heap.size = Qb := ⟨_, rfl⟩
      obtain ⟨y0, hy0⟩ : ∃ y0, wr.alloc (.cells #[.int .i64 0] 3) = y0 := ⟨_, rfl⟩
      have NQ := heap_alloc_new wr (.cells #[.int .i64 0] 3)
      have BQ : Below wr.heap.size wr y0 := by rw [← hy0]; exact (Below.refl _ _).alloc (Nat.le_refl _) _
      have ZQ : y0.heap.size = Qb + 1 := by rw [← hy0, ← hQb]; simp
      rw [hy0, hQb] at NQ
      rw [hQb, hy0]
      have WK0 := hide ((unhide WK).later BQ)
      have ZK0 : Hid (P < Qb ∧ G < Qb ∧ S + 1 < P ∧ w.heap.size = S ∧ ∀ b, v'.ownBlock = some b → b < Qb) := by rw [← hQb]; exact ZK
      have H0 := hide (And.intro NQ ZQ)
      have cQ : y0.cell? ⟨Qb, 0, none⟩ = some (.int .i64 0) := by rw [cell_of_row y0 Qb 0 _ _ (0, 0) NQ]; rfl
      clear hQb hy0 NQ BQ ZQ WK ZK
      refine wpIn_loop_rounds 3 ?_
      obtain ⟨X, hX⟩ : ∃ X : Act → World → Prop, X = fun fr W => ∃ (D Q : Nat) (x16 x17 x18 x52 x53 x54 x55 x56 x57 x58 x59 x60 x61 x62 x63 x64 x65 x66 x67 x68 x69 x70 x71 x72 x73 x74 x75 x76 x77 x78 x79 x80 x81 x82 x83 x84 x85 x86 x87 x88 x89 x90 x91 x92 x93 x94 x95 x96 x97 x98 x99 x100 x101 x102 x103 x104 x105 x106 x107 x108 x109 x110 x111 x112 x113 : Value), fr = { tmps := #[.slice ao n cap, .slice bo i bcap, .int .i64 stop, undef, undef, .pointer (some ⟨S, 0, none⟩), .pointer (some ⟨S + 1, 0, none⟩), u7, .bool true, .pointer (some ⟨P, 0, none⟩), .func (.func 32) #[] #[.pointer (some ⟨G, 0, none⟩)], .int .i64 (i : Int), u12, u13, u14, .pointer (some ⟨Q, 0, none⟩), x16, x17, x18, .tuple #[.slice (some ⟨A, 0, none⟩) m ac, .bool true], .slice ao n cap, .tuple #[.slice (some ⟨A, 0, none⟩) m ac, .bool true], .slice (some ⟨A, 0, none⟩) m ac, .bool true, .bool true, .bool false, .slice (some ⟨A, 0, none⟩) m ac, .pointer (some ⟨A, 0, none⟩), .agg #[.pointer (some ⟨a.g, 0, none⟩), .slice ra M rc], .pointer (some ⟨P, 0, none⟩), .pointer (some ⟨a.g, 0, none⟩), .func (.func 32) #[] #[.pointer (some ⟨G, 0, none⟩)], .int .i64 (i : Int), .slice bo i bcap, .int .i64 (i : Int), .bool false, u36, u37, u38, u39, u40, u41, u42, u43, u44, u45, u46, u47, u48, u49, u50, u51, x52, x53, x54, x55, x56, x57, x58, x59, x60, x61, x62, x63, x64, x65, x66, x67, x68, x69, x70, x71, x72, x73, x74, x75, x76, x77, x78, x79, x80, x81, x82, x83, x84, x85, x86, x87, x88, x89, x90, x91, x92, x93, x94, x95, x96, x97, x98, x99, x100, x101, x102, x103, x104, x105, x106, x107, x108, x109, x110, x111, x112, x113], defers := [{ target := .collected D, args := #[] }] } ∧ Hid (Wk w S (S + 1) P G stop a.g (.slice ra M rc) v' a.m wb.heap.size W ∧ W.heap[Q]? = some (.cells #[.int .i64 1] 3 (0, 0)) ∧ W.heap[D]? = some (.deferred (some [])) ∧ w.heap.size ≤ D) := ⟨_, rfl⟩
      have HX := hide hX
      clear hX
      refine rounds_two X ?R1 ?R0
      case R0 =>
        obtain ⟨Nb, hNb⟩ : ∃ Nb, y0.heap.size = Nb := ⟨_, rfl⟩
        obtain ⟨y1, hy1⟩ : ∃ y1, y0.alloc (.cells #[.int .i64 0] 3) = y1 := ⟨_, rfl⟩
        have NN := heap_alloc_new y0 (.cells #[.int .i64 0] 3)
        have BN : Below y0.heap.size y0 y1 := by rw [← hy1]; exact (Below.refl _ _).alloc (Nat.le_refl _) _
        have ZN : y1.heap.size = Nb + 1 := by rw [← hy1, ← hNb]; simp
        rw [hy1, hNb] at NN
        have R1W : Hid (Rd w S (S + 1) P G stop a.g (.slice ra M rc) v' a.m wb.heap.size Nb Qb 0 y1.heap.size 0 false 0 y1) := hide ⟨(unhide WK0).later BN, NN, (BN.block Qb (by have := (unhide H0).2; omega)).trans (unhide H0).1, Nat.le_refl _, fun h => by cases h⟩
        have HB : Hid (w.heap.size ≤ y1.heap.size ∧ 0 < y1.heap.size ∧ S ≠ Nb ∧ S + 1 ≠ Nb ∧ P ≠ Nb ∧ G ≠ Nb ∧ Qb ≠ Nb ∧ w.heap.size ≤ Nb) := hide (by
          obtain ⟨g1, g2, g3, g4, _⟩ := unhide ZK0
          have := (unhide H0).2
          exact ⟨by omega, by omega, by omega, by omega, by omega, by omega, by omega, by omega⟩)
        have HNb := hide hNb
        have Y1 := hide hy1
        clear NN BN ZN hNb hy1
        gi_wp2_with fail
        rw [unhide HNb, unhide Y1]
        have WK1 : Hid (Rd w S (S + 1) P G stop a.g (.slice ra M rc) v' a.m wb.heap.size Nb Qb 0 y1.heap.size 0 false 0 y1) := R1W
        refine wpIn_mono (Q := fun e fr W => (e = .normal ∨ e = .exit 4) ∧ ∃ (D cnt : Nat), fr = { tmps := #[.slice ao n cap, .slice bo i bcap, .int .i64 stop, undef, undef, .pointer (some ⟨S, 0, none⟩), .pointer (some ⟨S + 1, 0, none⟩), u7, .bool true, .pointer (some ⟨P, 0, none⟩), .func (.func 32) #[] #[.pointer (some ⟨G, 0, none⟩)], .int .i64 (i : Int), u12, u13, u14, .pointer (some ⟨Qb, 0, none⟩), .pointer (some ⟨Nb, 0, none⟩), undef, undef, .tuple #[.slice (some ⟨A, 0, none⟩) m ac, .bool true], .slice ao n cap, .tuple #[.slice (some ⟨A, 0, none⟩) m ac, .bool true], .slice (some ⟨A, 0, none⟩) m ac, .bool true, .bool true, .bool false, .slice (some ⟨A, 0, none⟩) m ac, .pointer (some ⟨A, 0, none⟩), .agg #[.pointer (some ⟨a.g, 0, none⟩), .slice ra M rc], .pointer (some ⟨P, 0, none⟩), .pointer (some ⟨a.g, 0, none⟩), .func (.func 32) #[] #[.pointer (some ⟨G, 0, none⟩)], .int .i64 (i : Int), .slice bo i bcap, .int .i64 (i : Int), .bool false, u36, u37, u38, u39, u40, u41, u42, u43, u44, u45, u46, u47, u48, u49, u50, u51, .int .i64 0, .bool true, undef, undef, .func (.func 32) #[] #[.pointer (some ⟨G, 0, none⟩)], undef, undef, undef, undef, undef, undef, undef, undef, undef, undef, undef, undef, undef, undef, undef, undef, undef, undef, undef, undef, undef, undef, undef, undef, undef, undef, undef, undef, undef, undef, undef, undef, undef, undef, undef, undef, undef, undef, undef, undef, undef, undef, undef, undef, undef, undef, undef, undef, undef, undef, undef, undef, undef, undef, undef, undef, undef], defers := [{ target := .collected D, args := #[] }] } ∧ Hid (y1.heap.size ≤ D ∧ W.heap[D]? = some (.deferred (some [])) ∧ Rd w S (S + 1) P G stop a.g (.slice ra M rc) v' a.m wb.heap.size Nb Qb 0 y1.heap.size 0 false (cnt : Int) W ∧ (cnt = M ∨ (stop = (cnt : Int) ∧ 0 < cnt ∧ cnt ≤ M)))) ?rng ?rst
        case rng =>
          refine wpIn_rangeFunc_ownF rfl (by decide) (gf := 32) (lb := #[.pointer (some ⟨G, 0, none⟩)]) rfl trivial (enters_of Try.func32 (by kernel_rfl) rfl)
            (iter_stops _ (by decide) a.m G v' wb y1 (unhide WK1).wk.box (unhide WK1).wk.row) (fun h1 h2 b hb => (h2 b hb).trans (h1 b hb)) (fun W j o o' hj _ _ _ b hb => World.putObj_heap_other (by have := ((unhide WK1).wk.row.lt b hb).2; omega)) (Below.refl _ _) (fun _ => rfl)
            (fun pre W => pre <+: a.m ∧ Rd w S (S + 1) P G stop a.g (.slice ra M rc) v' a.m wb.heap.size Nb Qb 0 y1.heap.size 0 false (pre.length : Int) W)
            (fun c pre W => ¬ pre <+: a.m ∨ (c = .exit 4 ∧ pre <+: a.m ∧ stop = (pre.length : Int) ∧ 0 < pre.length ∧ Rd w S (S + 1) P G stop a.g (.slice ra M rc) v' a.m wb.heap.size Nb Qb 0 y1.heap.size 0 false (pre.length : Int) W)) ?hI ?hIx ?h0
            (fun x => { tmps := #[.slice ao n cap, .slice bo i bcap, .int .i64 stop, undef, undef, .pointer (some ⟨S, 0, none⟩), .pointer (some ⟨S + 1, 0, none⟩), u7, .bool true, .pointer (some ⟨P, 0, none⟩), .func (.func 32) #[] #[.pointer (some ⟨G, 0, none⟩)], .int .i64 (i : Int), u12, u13, u14, .pointer (some ⟨Qb, 0, none⟩), .pointer (some ⟨Nb, 0, none⟩), .int .i64 x.1, .int .i64 x.2, .tuple #[.slice (some ⟨A, 0, none⟩) m ac, .bool true], .slice ao n cap, .tuple #[.slice (some ⟨A, 0, none⟩) m ac, .bool true], .slice (some ⟨A, 0, none⟩) m ac, .bool true, .bool true, .bool false, .slice (some ⟨A, 0, none⟩) m ac, .pointer (some ⟨A, 0, none⟩), .agg #[.pointer (some ⟨a.g, 0, none⟩), .slice ra M rc], .pointer (some ⟨P, 0, none⟩), .pointer (some ⟨a.g, 0, none⟩), .func (.func 32) #[] #[.pointer (some ⟨G, 0, none⟩)], .int .i64 (i : Int), .slice bo i bcap, .int .i64 (i : Int), .bool false, u36, u37, u38, u39, u40, u41, u42, u43, u44, u45, u46, u47, u48, u49, u50, u51, .int .i64 0, .bool true, undef, undef, .func (.func 32) #[] #[.pointer (some ⟨G, 0, none⟩)], .int .i64 x.1, .int .i64 x.2, undef, undef, undef, undef, undef, undef, undef, undef, undef, undef, undef, undef, undef, undef, undef, undef, undef, undef, undef, undef, undef, undef, undef, undef, undef, undef, undef, undef, undef, undef, undef, undef, undef, undef, undef, undef, undef, undef, undef, undef, undef, undef, undef, undef, undef, undef, undef, undef, undef, undef, undef, undef, undef, undef, undef], defers := [] }) ?assign ?body ?done ?stop
          case hI =>
            rintro pre W W' row ⟨a0, a1⟩ hg hr
            exact ⟨a0, a1.own hg hr (unhide HB).1 (fun _ => (unhide HB).2.1)⟩
          case hIx =>
            rintro c pre W W' row h hg hr
            rcases h with h | ⟨g1, g2, g3, g4, g5⟩
            · exact .inl h
            · exact .inr ⟨g1, g2, g3, g4, g5.own hg hr (unhide HB).1 (fun _ => (unhide HB).2.1)⟩
          case h0 => exact ⟨List.nil_prefix, unhide WK1⟩
          case assign =>
            intro l x W K hK
            gi_wp2
            exact hK
          case body =>
            rintro l pre x W ⟨a0, a1⟩ hlt
            obtain ⟨d, hd⟩ : ∃ d, pre.length = d := ⟨_, rfl⟩
            rw [unhide HL] at hlt
            have hdM : d < M := by omega
            obtain ⟨p, hp⟩ : ∃ p, a.m[d]? = some p := ⟨_, List.getElem?_eq_getElem (by have := unhide HL; omega)⟩
            obtain ⟨b, hb, e0, e1⟩ : ∃ b, ra = some ⟨b, 0, none⟩ ∧ W.cell? ⟨b, d * 2, none⟩ = some (.int .i64 p.1) ∧ W.cell? ⟨b, d * 2 + 1, none⟩ = some (.int .i64 p.2) := by
              obtain ⟨ra', rc', e1, _, _, _, hc⟩ := ref_cells a1.wk.ref
              cases e1
              exact hc d p hp
            rw [hd] at a1
            have c1 : W.cell? ⟨Nb, 0, none⟩ = some (.int .i64 (d : Int)) := by rw [cell_of_row W Nb 0 _ _ (0, 0) a1.cnt]; rfl
            have c2 : W.cell? ⟨P, 1, none⟩ = some (.slice ra M rc) := by rw [cell_of_row W P 1 _ _ (0, 0) a1.wk.p]; rfl
            have c3 : W.cell? ⟨S + 1, 0, none⟩ = some (.bool false) := by rw [cell_of_row W (S + 1) 0 _ _ (0, 0) a1.wk.res]; rfl
            have c4 : W.cell? ⟨Qb, 0, none⟩ = some (.int .i64 0) := by rw [cell_of_row W Qb 0 _ _ (0, 0) a1.rnd]; rfl
            rw [hb] at c2
            have f1 := frozen_of a1.cnt
            have f3 := frozen_of a1.wk.res
            have d1 : (d : Int) < (M : Int) := by omega
            have d2 : ¬ (M : Int) ≤ (d : Int) := by omega
            obtain ⟨z1, z2, z3, z4, z5, z6, z7, z8⟩ := unhide HB
            have A2 := a1.step ((d : Int) + 1) z3 z4 z5 z6 z7 z8
            have c5 : (W.setCell ⟨Nb, 0, none⟩ (.int .i64 ((d : Int) + 1))).cell? ⟨S, 0, none⟩ = some (.int .i64 stop) := by rw [cell_of_row _ S 0 _ _ (0, 0) A2.wk.stopc]; rfl
            have c6 : (W.setCell ⟨Nb, 0, none⟩ (.int .i64 ((d : Int) + 1))).cell? ⟨Qb, 0, none⟩ = some (.int .i64 0) := by rw [cell_of_row _ Qb 0 _ _ (0, 0) A2.rnd]; rfl
            have c7 : (W.setCell ⟨Nb, 0, none⟩ (.int .i64 ((d : Int) + 1))).cell? ⟨Nb, 0, none⟩ = some (.int .i64 ((d : Int) + 1)) := by rw [cell_of_row _ Nb 0 _ _ (0, 0) A2.cnt]; rfl
            have HA := hide (And.intro a0 (And.intro a1 A2))
            have HP' : Hid (a.m[pre.length]? = some p ∧ pre.length = d) := hide ⟨by rw [hd]; exact hp, hd⟩
            have KV : Hid (KeepV v' W (W.setCell ⟨Nb, 0, none⟩ (.int .i64 ((d : Int) + 1)))) := hide (fun c hc => by
              obtain ⟨cur, hcur⟩ := row_blk a1.wk.row hc
              exact heap_setCell_other _ _ _ _ (blk_ne hcur a1.cnt (by decide)))
            clear a0 a1 A2 hp hd hlt hb z1 z2 z3 z4 z5 z6 z7 z8
            by_cases hx1 : x.1 = p.1
            · by_cases hx2 : x.2 = p.2
              · have hx : x = p := Prod.ext hx1 hx2
                clear hx1 hx2
                subst hx
                have LEN : Hid (((pre ++ [x]).length : Int) = (d : Int) + 1) := hide (by rw [List.length_append, (unhide HP').2]; simp)
                by_cases hst : (d : Int) + 1 = stop
                · have HST := hide hst
                  rw [hst] at c5 c6 c7
                  gi_wp2_with fail
                  show KeepsOthers W _ ∧ _
                  obtain ⟨a0, a1, A2⟩ := unhide HA
                  rw [unhide HST] at A2 LEN
                  refine ⟨KeepsOthers.setCell _ _ _, .inr ⟨rfl, pre_snoc a0 (unhide HP').1, ?_, by simp, ?_⟩⟩
                  · rw [unhide LEN]
                  · rw [unhide LEN]; exact A2
                · have hst2 : decide ((d : Int) + 1 = stop) = false := decide_eq_false hst
                  gi_wp2_with fail
                  show KeepsOthers W _ ∧ KeepV v' W _ ∧ _
                  obtain ⟨a0, a1, A2⟩ := unhide HA
                  refine ⟨KeepsOthers.setCell _ _ _, unhide KV, pre_snoc a0 (unhide HP').1, ?_⟩
                  rw [unhide LEN]
                  exact A2
              · have HN : Hid (¬ x = p) := hide (fun e => hx2 (by rw [e]))
                clear c5 c6 c7
                gi_wp2_with fail
                show KeepsOthers W _ ∧ _
                exact ⟨KeepsOthers.setCell _ _ _, .inl (fun h => unhide HN (Option.some.inj ((snoc_at h).symm.trans (unhide HP').1)))⟩
            · have HN : Hid (¬ x = p) := hide (fun e => hx1 (by rw [e]))
              clear c5 c6 c7
              gi_wp2_with fail
              show KeepsOthers W _ ∧ _
              exact ⟨KeepsOthers.setCell _ _ _, .inl (fun h => unhide HN (Option.some.inj ((snoc_at h).symm.trans (unhide HP').1)))⟩
          case done =>
            rintro D ys W hD hys ⟨a0, a1⟩ hK
            subst hys
            exact ⟨.inl rfl, D, a.m.length, rfl, hide ⟨hD, hK, a1, .inl (unhide HL)⟩⟩
          case stop =>
            rintro D c pre W hD h1 h2 hK
            rcases h2 with h2 | ⟨rfl, g2, g3, g4, g5⟩
            · exact absurd h1 h2
            · refine wpIn_exit ?_
              refine ⟨.inr rfl, D, pre.length, rfl, hide ⟨hD, hK, g5, .inr ⟨g3, g4, by have := g2.length_le; have := unhide HL; omega⟩⟩⟩
        case rst =>
          rintro e ac' W ⟨he, D, cnt, rfl, HF⟩
          obtain ⟨f1, f2, f3, f4⟩ := unhide HF
          have c1 : W.cell? ⟨Qb, 0, none⟩ = some (.int .i64 0) := by rw [cell_of_row W Qb 0 _ _ (0, 0) f3.rnd]; rfl
          have c2 : W.cell? ⟨S, 0, none⟩ = some (.int .i64 stop) := by rw [cell_of_row W S 0 _ _ (0, 0) f3.wk.stopc]; rfl
          have c3 : W.cell? ⟨P, 1, none⟩ = some (.slice ra M rc) := by rw [cell_of_row W P 1 _ _ (0, 0) f3.wk.p]; rfl
          have c4 : W.cell? ⟨Nb, 0, none⟩ = some (.int .i64 (cnt : Int)) := by rw [cell_of_row W Nb 0 _ _ (0, 0) f3.cnt]; rfl
          have FIN : Hid (Wk w S (S + 1) P G stop a.g (.slice ra M rc) v' a.m wb.heap.size (W.alloc (.cells #[.int .i64 1] 3)) ∧ (W.alloc (.cells #[.int .i64 1] 3)).heap[W.heap.size]? = some (.cells #[.int .i64 1] 3 (0, 0)) ∧ (W.alloc (.cells #[.int .i64 1] 3)).heap[D]? = some (.deferred (some [])) ∧ w.heap.size ≤ D) := hide (by
            have BW : Below W.heap.size W (W.alloc (.cells #[.int .i64 1] 3)) := (Below.refl _ _).alloc (Nat.le_refl _) _
            exact ⟨f3.wk.later BW, heap_alloc_new W _, (BW.block D (Array.getElem?_eq_some_iff.1 f2).1).trans f2, by have := (unhide HB).1; omega⟩)
          clear f1 f2 f3
          rcases he with rfl | rfl
          · dsimp only [Exit.inBlock, Exit.then]
            by_cases hs0 : stop ≤ 0
            · have hc : cnt = M := by rcases f4 with h | ⟨h1, h2, h3⟩ <;> omega
              subst hc
              clear f4
              gi_wp2_with fail
              rw [unhide HX]
              exact ⟨D, W.heap.size, _, _, _, _, _, _, _, _, _, _, _, _, _, _, _, _, _, _, _, _, _, _, _, _, _, _, _, _, _, _, _, _, _, _, _, _, _, _, _, _, _, _, _, _, _, _, _, _, _, _, _, _, _, _, _, _, _, _, _, _, _, _, _, _, _, rfl, unhide FIN⟩
            · by_cases hs1 : (M : Int) < stop
              · have hc : cnt = M := by rcases f4 with h | ⟨h1, h2, h3⟩ <;> omega
                subst hc
                clear f4
                gi_wp2_with fail
                rw [unhide HX]
                exact ⟨D, W.heap.size, _, _, _, _, _, _, _, _, _, _, _, _, _, _, _, _, _, _, _, _, _, _, _, _, _, _, _, _, _, _, _, _, _, _, _, _, _, _, _, _, _, _, _, _, _, _, _, _, _, _, _, _, _, _, _, _, _, _, _, _, _, _, _, _, _, rfl, unhide FIN⟩
              · clear f4
                gi_wp2_with fail
                rw [unhide HX]
                exact ⟨D, W.heap.size, _, _, _, _, _, _, _, _, _, _, _, _, _, _, _, _, _, _, _, _, _, _, _, _, _, _, _, _, _, _, _, _, _, _, _, _, _, _, _, _, _, _, _, _, _, _, _, _, _, _, _, _, _, _, _, _, _, _, _, _, _, _, _, _, _, rfl, unhide FIN⟩
          · dsimp only [Exit.inBlock, Exit.then]
            rw [if_pos rfl]
            by_cases hs0 : stop ≤ 0
            · have hc : cnt = M := by rcases f4 with h | ⟨h1, h2, h3⟩ <;> omega
              subst hc
              clear f4
              gi_wp2_with fail
              rw [unhide HX]
              exact ⟨D, W.heap.size, _, _, _, _, _, _, _, _, _, _, _, _, _, _, _, _, _, _, _, _, _, _, _, _, _, _, _, _, _, _, _, _, _, _, _, _, _, _, _, _, _, _, _, _, _, _, _, _, _, _, _, _, _, _, _, _, _, _, _, _, _, _, _, _, _, rfl, unhide FIN⟩
            · by_cases hs1 : (M : Int) < stop
              · have hc : cnt = M := by rcases f4 with h | ⟨h1, h2, h3⟩ <;> omega
                subst hc
                clear f4
                gi_wp2_with fail
                rw [unhide HX]
                exact ⟨D, W.heap.size, _, _, _, _, _, _, _, _, _, _, _, _, _, _, _, _, _, _, _, _, _, _, _, _, _, _, _, _, _, _, _, _, _, _, _, _, _, _, _, _, _, _, _, _, _, _, _, _, _, _, _, _, _, _, _, _, _, _, _, _, _, _, _, _, _, rfl, unhide FIN⟩
              · clear f4
                gi_wp2_with fail
                rw [unhide HX]
                exact ⟨D, W.heap.size, _, _, _, _, _, _, _, _, _, _, _, _, _, _, _, _, _, _, _, _, _, _, _, _, _, _, _, _, _, _, _, _, _, _, _, _, _, _, _, _, _, _, _, _, _, _, _, _, _, _, _, _, _, _, _, _, _, _, _, _, _, _, _, _, _, rfl, unhide FIN⟩
      case R1 =>
        intro fr W0 hfr
        rw [unhide HX] at hfr
        obtain ⟨g1, g2, g3, g4, _⟩ := unhide ZK0
        clear HX X ZK0 WK0 H0 cQ
        obtain ⟨D0, Qb, x16, x17, x18, x52, x53, x54, x55, x56, x57, x58, x59, x60, x61, x62, x63, x64, x65, x66, x67, x68, x69, x70, x71, x72, x73, x74, x75, x76, x77, x78, x79, x80, x81, x82, x83, x84, x85, x86, x87, x88, x89, x90, x91, x92, x93, x94, x95, x96, x97, x98, x99, x100, x101, x102, x103, x104, x105, x106, x107, x108, x109, x110, x111, x112, x113, rfl, HF⟩ := hfr
        obtain ⟨k1, k2, k3, k4⟩ := unhide HF
        have cQ : W0.cell? ⟨Qb, 0, none⟩ = some (.int .i64 1) := by rw [cell_of_row W0 Qb 0 _ _ (0, 0) k2]; rfl
        obtain ⟨Nb, hNb⟩ : ∃ Nb, W0.heap.size = Nb := ⟨_, rfl⟩
        obtain ⟨y1, hy1⟩ : ∃ y1, W0.alloc (.cells #[.int .i64 0] 3) = y1 := ⟨_, rfl⟩
        have NN := heap_alloc_new W0 (.cells #[.int .i64 0] 3)
        have BN : Below W0.heap.size W0 y1 := by rw [← hy1]; exact (Below.refl _ _).alloc (Nat.le_refl _) _
        have ZN : y1.heap.size = Nb + 1 := by rw [← hy1, ← hNb]; simp
        rw [hy1, hNb] at NN
        have zS := (Array.getElem?_eq_some_iff.1 k1.res).1
        have zP := (Array.getElem?_eq_some_iff.1 k1.p).1
        have zG := (Array.getElem?_eq_some_iff.1 k1.box).1
        have zQ := (Array.getElem?_eq_some_iff.1 k2).1
        have zD := (Array.getElem?_eq_some_iff.1 k3).1
        have R1W : Hid (Rd w S (S + 1) P G stop a.g (.slice ra M rc) v' a.m wb.heap.size Nb Qb 1 y1.heap.size D0 true 0 y1) := hide ⟨k1.later BN, NN, (BN.block Qb zQ).trans k2, Nat.le_refl _, fun _ => (BN.block D0 zD).trans k3⟩
        have HB : Hid (w.heap.size ≤ y1.heap.size ∧ D0 < y1.heap.size ∧ S ≠ Nb ∧ S + 1 ≠ Nb ∧ P ≠ Nb ∧ G ≠ Nb ∧ Qb ≠ Nb ∧ w.heap.size ≤ Nb) := hide ⟨by omega, by omega, by omega, by omega, by omega, by omega, by omega, by omega⟩
        have HNb := hide hNb
        have Y1 := hide hy1
        have HS' := hide (And.intro g4 k4)
        clear NN BN ZN hNb hy1 k1 k2 k3 k4 zS zP zG zQ zD HF g1 g2 g3 g4
        rw [roundsIn_succ]
        dsimp only
        gi_wp2_with fail
        rw [unhide HNb, unhide Y1]
        have WK1 : Hid (Rd w S (S + 1) P G stop a.g (.slice ra M rc) v' a.m wb.heap.size Nb Qb 1 y1.heap.size D0 true 0 y1) := R1W
        refine wpIn_mono (Q := fun e fr W => e = .normal ∧ ∃ (D cnt : Nat), fr = { tmps := #[.slice ao n cap, .slice bo i bcap, .int .i64 stop, undef, undef, .pointer (some ⟨S, 0, none⟩), .pointer (some ⟨S + 1, 0, none⟩), u7, .bool true, .pointer (some ⟨P, 0, none⟩), .func (.func 32) #[] #[.pointer (some ⟨G, 0, none⟩)], .int .i64 (i : Int), u12, u13, u14, .pointer (some ⟨Qb, 0, none⟩), .pointer (some ⟨Nb, 0, none⟩), x17, x18, .tuple #[.slice (some ⟨A, 0, none⟩) m ac, .bool true], .slice ao n cap, .tuple #[.slice (some ⟨A, 0, none⟩) m ac, .bool true], .slice (some ⟨A, 0, none⟩) m ac, .bool true, .bool true, .bool false, .slice (some ⟨A, 0, none⟩) m ac, .pointer (some ⟨A, 0, none⟩), .agg #[.pointer (some ⟨a.g, 0, none⟩), .slice ra M rc], .pointer (some ⟨P, 0, none⟩), .pointer (some ⟨a.g, 0, none⟩), .func (.func 32) #[] #[.pointer (some ⟨G, 0, none⟩)], .int .i64 (i : Int), .slice bo i bcap, .int .i64 (i : Int), .bool false, u36, u37, u38, u39, u40, u41, u42, u43, u44, u45, u46, u47, u48, u49, u50, u51, .int .i64 1, .bool true, x54, x55, .func (.func 32) #[] #[.pointer (some ⟨G, 0, none⟩)], x57, x58, x59, x60, x61, x62, x63, x64, x65, x66, x67, x68, x69, x70, x71, x72, x73, x74, x75, x76, x77, x78, x79, x80, x81, x82, x83, x84, x85, x86, x87, x88, x89, x90, x91, x92, x93, x94, x95, x96, x97, x98, x99, x100, x101, x102, x103, x104, x105, x106, x107, x108, x109, x110, x111, x112, x113], defers := [{ target := .collected D, args := #[] }, { target := .collected D0, args := #[] }] } ∧ Hid (y1.heap.size ≤ D ∧ W.heap[D]? = some (.deferred (some [])) ∧ Rd w S (S + 1) P G stop a.g (.slice ra M rc) v' a.m wb.heap.size Nb Qb 1 y1.heap.size D0 true (cnt : Int) W ∧ cnt = M)) ?rng ?rst
        case rng =>
          refine wpIn_rangeFunc_ownF rfl (by decide) (gf := 32) (lb := #[.pointer (some ⟨G, 0, none⟩)]) rfl trivial (enters_of Try.func32 (by kernel_rfl) rfl)
            (iter_stops _ (by decide) a.m G v' wb y1 (unhide WK1).wk.box (unhide WK1).wk.row) (fun h1 h2 b hb => (h2 b hb).trans (h1 b hb)) (fun W j o o' hj _ _ _ b hb => World.putObj_heap_other (by have := ((unhide WK1).wk.row.lt b hb).2; omega)) (Below.refl _ _) (fun _ => rfl)
            (fun pre W => pre <+: a.m ∧ Rd w S (S + 1) P G stop a.g (.slice ra M rc) v' a.m wb.heap.size Nb Qb 1 y1.heap.size D0 true (pre.length : Int) W)
            (fun c pre W => ¬ pre <+: a.m) ?hI ?hIx ?h0
            (fun x => { tmps := #[.slice ao n cap, .slice bo i bcap, .int .i64 stop, undef, undef, .pointer (some ⟨S, 0, none⟩), .pointer (some ⟨S + 1, 0, none⟩), u7, .bool true, .pointer (some ⟨P, 0, none⟩), .func (.func 32) #[] #[.pointer (some ⟨G, 0, none⟩)], .int .i64 (i : Int), u12, u13, u14, .pointer (some ⟨Qb, 0, none⟩), .pointer (some ⟨Nb, 0, none⟩), .int .i64 x.1, .int .i64 x.2, .tuple #[.slice (some ⟨A, 0, none⟩) m ac, .bool true], .slice ao n cap, .tuple #[.slice (some ⟨A, 0, none⟩) m ac, .bool true], .slice (some ⟨A, 0, none⟩) m ac, .bool true, .bool true, .bool false, .slice (some ⟨A, 0, none⟩) m ac, .pointer (some ⟨A, 0, none⟩), .agg #[.pointer (some ⟨a.g, 0, none⟩), .slice ra M rc], .pointer (some ⟨P, 0, none⟩), .pointer (some ⟨a.g, 0, none⟩), .func (.func 32) #[] #[.pointer (some ⟨G, 0, none⟩)], .int .i64 (i : Int), .slice bo i bcap, .int .i64 (i : Int), .bool false, u36, u37, u38, u39, u40, u41, u42, u43, u44, u45, u46, u47, u48, u49, u50, u51, .int .i64 1, .bool true, x54, x55, .func (.func 32) #[] #[.pointer (some ⟨G, 0, none⟩)], .int .i64 x.1, .int .i64 x.2, x59, x60, x61, x62, x63, x64, x65, x66, x67, x68, x69, x70, x71, x72, x73, x74, x75, x76, x77, x78, x79, x80, x81, x82, x83, x84, x85, x86, x87, x88, x89, x90, x91, x92, x93, x94, x95, x96, x97, x98, x99, x100, x101, x102, x103, x104, x105, x106, x107, x108, x109, x110, x111, x112, x113], defers := [] }) ?assign ?body ?done ?stop
          case hI =>
            rintro pre W W' row ⟨a0, a1⟩ hg hr
            exact ⟨a0, a1.own hg hr (unhide HB).1 (fun _ => (unhide HB).2.1)⟩
          case hIx =>
            exact fun _ _ _ _ _ h _ _ => h
          case h0 => exact ⟨List.nil_prefix, unhide WK1⟩
          case assign =>
            intro l x W K hK
            gi_wp2
            exact hK
          case body =>
            rintro l pre x W ⟨a0, a1⟩ hlt
            obtain ⟨d, hd⟩ : ∃ d, pre.length = d := ⟨_, rfl⟩
            rw [unhide HL] at hlt
            have hdM : d < M := by omega
            obtain ⟨p, hp⟩ : ∃ p, a.m[d]? = some p := ⟨_, List.getElem?_eq_getElem (by have := unhide HL; omega)⟩
            obtain ⟨b, hb, e0, e1⟩ : ∃ b, ra = some ⟨b, 0, none⟩ ∧ W.cell? ⟨b, d * 2, none⟩ = some (.int .i64 p.1) ∧ W.cell? ⟨b, d * 2 + 1, none⟩ = some (.int .i64 p.2) := by
              obtain ⟨ra', rc', e1, _, _, _, hc⟩ := ref_cells a1.wk.ref
              cases e1
              exact hc d p hp
            rw [hd] at a1
            have c1 : W.cell? ⟨Nb, 0, none⟩ = some (.int .i64 (d : Int)) := by rw [cell_of_row W Nb 0 _ _ (0, 0) a1.cnt]; rfl
            have c2 : W.cell? ⟨P, 1, none⟩ = some (.slice ra M rc) := by rw [cell_of_row W P 1 _ _ (0, 0) a1.wk.p]; rfl
            have c3 : W.cell? ⟨S + 1, 0, none⟩ = some (.bool false) := by rw [cell_of_row W (S + 1) 0 _ _ (0, 0) a1.wk.res]; rfl
            have c4 : W.cell? ⟨Qb, 0, none⟩ = some (.int .i64 1) := by rw [cell_of_row W Qb 0 _ _ (0, 0) a1.rnd]; rfl
            rw [hb] at c2
            have f1 := frozen_of a1.cnt
            have f3 := frozen_of a1.wk.res
            have d1 : (d : Int) < (M : Int) := by omega
            have d2 : ¬ (M : Int) ≤ (d : Int) := by omega
            obtain ⟨z1, z2, z3, z4, z5, z6, z7, z8⟩ := unhide HB
            have A2 := a1.step ((d : Int) + 1) z3 z4 z5 z6 z7 z8
            have c5 : (W.setCell ⟨Nb, 0, none⟩ (.int .i64 ((d : Int) + 1))).cell? ⟨S, 0, none⟩ = some (.int .i64 stop) := by rw [cell_of_row _ S 0 _ _ (0, 0) A2.wk.stopc]; rfl
            have c6 : (W.setCell ⟨Nb, 0, none⟩ (.int .i64 ((d : Int) + 1))).cell? ⟨Qb, 0, none⟩ = some (.int .i64 1) := by rw [cell_of_row _ Qb 0 _ _ (0, 0) A2.rnd]; rfl
            have c7 : (W.setCell ⟨Nb, 0, none⟩ (.int .i64 ((d : Int) + 1))).cell? ⟨Nb, 0, none⟩ = some (.int .i64 ((d : Int) + 1)) := by rw [cell_of_row _ Nb 0 _ _ (0, 0) A2.cnt]; rfl
            have HA := hide (And.intro a0 (And.intro a1 A2))
            have HP' : Hid (a.m[pre.length]? = some p ∧ pre.length = d) := hide ⟨by rw [hd]; exact hp, hd⟩
            have KV : Hid (KeepV v' W (W.setCell ⟨Nb, 0, none⟩ (.int .i64 ((d : Int) + 1)))) := hide (fun c hc => by
              obtain ⟨cur, hcur⟩ := row_blk a1.wk.row hc
              exact heap_setCell_other _ _ _ _ (blk_ne hcur a1.cnt (by decide)))
            clear a0 a1 A2 hp hd hlt hb z1 z2 z3 z4 z5 z6 z7 z8
            by_cases hx1 : x.1 = p.1
            · by_cases hx2 : x.2 = p.2
              · have hx : x = p := Prod.ext hx1 hx2
                clear hx1 hx2
                subst hx
                have LEN : Hid (((pre ++ [x]).length : Int) = (d : Int) + 1) := hide (by rw [List.length_append, (unhide HP').2]; simp)
                gi_wp2_with fail
                show KeepsOthers W _ ∧ KeepV v' W _ ∧ _
                obtain ⟨a0, a1, A2⟩ := unhide HA
                refine ⟨KeepsOthers.setCell _ _ _, unhide KV, pre_snoc a0 (unhide HP').1, ?_⟩
                rw [unhide LEN]
                exact A2
              · have HN : Hid (¬ x = p) := hide (fun e => hx2 (by rw [e]))
                clear c5 c6 c7
                gi_wp2_with fail
                show KeepsOthers W _ ∧ _
                exact ⟨KeepsOthers.setCell _ _ _, fun h => unhide HN (Option.some.inj ((snoc_at h).symm.trans (unhide HP').1))⟩
            · have HN : Hid (¬ x = p) := hide (fun e => hx1 (by rw [e]))
              clear c5 c6 c7
              gi_wp2_with fail
              show KeepsOthers W _ ∧ _
              exact ⟨KeepsOthers.setCell _ _ _, fun h => unhide HN (Option.some.inj ((snoc_at h).symm.trans (unhide HP').1))⟩
          case done =>
            rintro D ys W hD hys ⟨a0, a1⟩ hK
            subst hys
            exact ⟨rfl, D, a.m.length, rfl, hide ⟨hD, hK, a1, unhide HL⟩⟩
          case stop =>
            rintro D c pre W hD h1 h2 hK
            exact absurd h1 h2
        case rst =>
          rintro e fr W ⟨rfl, D, cnt, rfl, HF⟩
          obtain ⟨f1, f2, f3, f4⟩ := unhide HF
          subst f4
          have c1 : W.cell? ⟨Qb, 0, none⟩ = some (.int .i64 1) := by rw [cell_of_row W Qb 0 _ _ (0, 0) f3.rnd]; rfl
          have c2 : W.cell? ⟨S, 0, none⟩ = some (.int .i64 stop) := by rw [cell_of_row W S 0 _ _ (0, 0) f3.wk.stopc]; rfl
          have c3 : W.cell? ⟨P, 1, none⟩ = some (.slice ra cnt rc) := by rw [cell_of_row W P 1 _ _ (0, 0) f3.wk.p]; rfl
          have c4 : W.cell? ⟨Nb, 0, none⟩ = some (.int .i64 (cnt : Int)) := by rw [cell_of_row W Nb 0 _ _ (0, 0) f3.cnt]; rfl
          have BW : Below W.heap.size W (W.alloc (.cells #[.int .i64 2] 3)) := (Below.refl _ _).alloc (Nat.le_refl _) _
          have K2 := f3.wk.later BW
          have hd2 := (BW.block D (Array.getElem?_eq_some_iff.1 f2).1).trans f2
          have hd0 := (BW.block D0 (Array.getElem?_eq_some_iff.1 (f3.old rfl)).1).trans (f3.old rfl)
          have hne : D0 ≠ D := by have := (unhide HB).2.1; omega
          have c5 : (W.alloc (.cells #[.int .i64 2] 3)).cell? ⟨W.heap.size, 0, none⟩ = some (.int .i64 2) := by rw [cell_of_row _ W.heap.size 0 _ _ (0, 0) (heap_alloc_new W _)]; rfl
          have c6 : (W.alloc (.cells #[.int .i64 2] 3)).cell? ⟨S + 1, 0, none⟩ = some (.bool false) := by rw [cell_of_row _ (S + 1) 0 _ _ (0, 0) K2.res]; rfl
          have f6 := frozen_of K2.res
          have HK2 := hide (And.intro K2 (And.intro hd2 (And.intro hd0 (And.intro hne f1))))
          clear f1 f2 f3 K2 hd2 hd0 hne BW HF
          dsimp only [Exit.inBlock, Exit.then]
          gi_wp2_with fail
          rw [roundsIn_succ]
          gi_wp2_with fail
          obtain ⟨K2, hd2, hd0, hne, f1⟩ := unhide HK2
          have n1 : D ≠ S + 1 := fun e => by
            rw [e, K2.res] at hd2
            cases hd2
          have n0 : D0 ≠ S + 1 := fun e => by
            rw [e, K2.res] at hd0
            cases hd0
          have hK1 : ((W.alloc (.cells #[.int .i64 2] 3)).setCell ⟨S + 1, 0, none⟩ (.bool true)).heap[D]? = some (.deferred (some [])) := by rw [heap_setCell_other _ _ _ _ n1]; exact hd2
          refine ⟨by simp, .inl ⟨_, _, rfl, run_takeDeferred hK1, ?_⟩⟩
          have hK0 : (((W.alloc (.cells #[.int .i64 2] 3)).setCell ⟨S + 1, 0, none⟩ (.bool true)).putObj D (.deferred none)).heap[D0]? = some (.deferred (some [])) := by
            rw [World.putObj_heap_other (by omega), heap_setCell_other _ _ _ _ n0]
            exact hd0
          refine ⟨by simp, .inl ⟨_, _, rfl, run_takeDeferred hK0, ?_⟩⟩
          have h3 : ((((W.alloc (.cells #[.int .i64 2] 3)).setCell ⟨S + 1, 0, none⟩ (.bool true)).putObj D (.deferred none)).putObj D0 (.deferred none)).heap[S + 1]? = some (.cells #[.bool true] 4 (0, 0)) := by
            rw [World.putObj_heap_other (by omega), World.putObj_heap_other (by omega)]
            exact heap_setCell_same _ (S + 1) 0 _ _ (.bool true) K2.res
          have c9 : ((((W.alloc (.cells #[.int .i64 2] 3)).setCell ⟨S + 1, 0, none⟩ (.bool true)).putObj D (.deferred none)).putObj D0 (.deferred none)).cell? ⟨S + 1, 0, none⟩ = some (.bool true) := by rw [cell_of_row _ (S + 1) 0 _ _ (0, 0) h3]; rfl
          obtain ⟨g4, k4⟩ := unhide HS'
          have g5 := (unhide HB).1
          refine ⟨.bool true, ?_, rfl, ?_⟩
          · simp [results, Try.results4, go_sem, c9]
          · have b1 : Below w.heap.size w ((W.alloc (.cells #[.int .i64 2] 3)).setCell ⟨S + 1, 0, none⟩ (.bool true)) := K2.below.setCell (p := ⟨S + 1, 0, none⟩) (by show w.heap.size ≤ S + 1; omega) (.bool true)
            have b2 : Below w.heap.size ((W.alloc (.cells #[.int .i64 2] 3)).setCell ⟨S + 1, 0, none⟩ (.bool true)) (((W.alloc (.cells #[.int .i64 2] 3)).setCell ⟨S + 1, 0, none⟩ (.bool true)).putObj D (.deferred none)) := ⟨rfl, rfl, rfl, by simp, fun q hq => World.putObj_heap_other (by omega)⟩
            have b3 : Below w.heap.size (((W.alloc (.cells #[.int .i64 2] 3)).setCell ⟨S + 1, 0, none⟩ (.bool true)).putObj D (.deferred none)) ((((W.alloc (.cells #[.int .i64 2] 3)).setCell ⟨S + 1, 0, none⟩ (.bool true)).putObj D (.deferred none)).putObj D0 (.deferred none)) := ⟨rfl, rfl, rfl, by simp, fun q hq => World.putObj_heap_other (by omega)⟩
            exact (b1.trans b2).trans b3
end Go.Proofs.Ytflopmhjgamcfaa.tableWalks
