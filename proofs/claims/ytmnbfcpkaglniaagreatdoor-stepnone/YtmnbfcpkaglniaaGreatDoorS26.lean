/-
  Layer 12 (verify): what a body is while its places are looked at; the walk of reach; conditions: the package's variables.
-/
import Derived.Test.YtmnbfcpkaglniaaGreatDoorS25
set_option linter.unusedVariables false
set_option linter.unusedSimpArgs false
namespace Go.Proofs.YtmnbfcpkaglniaaGreatDoor
open Go.RowKit
set_option linter.unusedVariables false
set_option linter.unusedSimpArgs false
/-- nothing below a block is changed but two -/
structure Chg (base g hb : Nat) (w0 w : World) : Prop where
  os : w.os = w0.os
  tape : w.tape = w0.tape
  output : w.output = w0.output
  size : w0.heap.size ≤ w.heap.size
  oth : ∀ b, b < base → b ≠ g → b ≠ hb → w.heap[b]? = w0.heap[b]?
theorem Chg.refl (base g hb : Nat) (w : World) : Chg base g hb w w := ⟨rfl, rfl, rfl, Nat.le_refl _, fun _ _ _ _ => rfl⟩
theorem Chg.trans {base g hb : Nat} {a b c : World} (h : Chg base g hb a b) (k : Chg base g hb b c) : Chg base g hb a c :=
  ⟨k.os.trans h.os, k.tape.trans h.tape, k.output.trans h.output, Nat.le_trans h.size k.size, fun q h1 h2 h3 => (k.oth q h1 h2 h3).trans (h.oth q h1 h2 h3)⟩
theorem Chg.of_below {base g hb : Nat} {a b : World} (h : Below a.heap.size a b) (hs : base ≤ a.heap.size) : Chg base g hb a b :=
  ⟨h.os, h.tape, h.output, h.size, fun q h1 _ _ => h.block q (by omega)⟩
theorem Chg.below {base g hb : Nat} {a b : World} {B : Nat} (h : Chg base g hb a b) (h1 : B ≤ base) (h2 : B ≤ g) (h3 : B ≤ hb) : Below B a b :=
  ⟨h.os, h.tape, h.output, h.size, fun q hq => h.oth q (by omega) (by omega) (by omega)⟩
/-- a body while its places are looked at -/
structure Stt (base g hb : Nat) (x : Bv) (fn : Fn) (w0 w : World) (s : Sv) (wv : Value) : Prop where
  chg : Chg base g hb w0 w
  box : w.heap[g]? = some (.cells (x.cells fn (.map (some hb)) wv) 174 (0, 0))
  map : Hts w hb s.1
  wai : Off w base wv s.2
/-- what lies around it -/
structure Cxt (B g hb : Nat) (x : Bv) (m : Md) (fn : Fn) (ls : List Ins) (ps : List Int) (w0 : World) (wv0 : Value) : Prop where
  see : SeeB w0 B g x m fn ls ps (.map (some hb)) wv0
  bg : B ≤ g
  bh : B ≤ hb
  b1 : 1 < B
  gl : g < w0.heap.size
  hl : hb < w0.heap.size
  ne : g ≠ hb
  al : ∀ a, x.al = some a → a.block ≠ g ∧ a.block ≠ hb
  ap : ∀ a, x.ap = some a → a.block ≠ g ∧ a.block ≠ hb
  ts : fn.2.2.2.size ≤ 140737488351232
theorem Tab2.chg {base g hb : Nat} {w0 w : World} (h : Tab2 w0) (c : Chg base g hb w0 w) {B : Nat} (h1 : B ≤ base) (h2 : B ≤ g) (h3 : B ≤ hb) (hB : 1 < B) : Tab2 w := h.later (c.below h1 h2 h3) hB c.size
theorem Cxt.at {B g hb : Nat} {x : Bv} {m : Md} {fn : Fn} {ls : List Ins} {ps : List Int} {w0 w : World} {wv0 wv : Value} {s : Sv} (c : Cxt B g hb x m fn ls ps w0 wv0) (h : Stt w0.heap.size g hb x fn w0 w s wv) : SeeB w B g x m fn ls ps (.map (some hb)) wv where
  box := h.box
  l1 := c.see.l1
  l2 := c.see.l2
  mod := c.see.mod.later (h.chg.below c.see.big c.bg c.bh)
  big := Nat.le_trans c.see.big h.chg.size
  tab := c.see.tab.chg h.chg c.see.big c.bg c.bh c.b1
  ll := c.see.ll
  lp := c.see.lp
  bp := c.see.bp
  ins := fun j p hj => by
    obtain ⟨a, ha, hc, hd⟩ := c.see.ins j p hj
    have hn := c.al a ha
    have e1 := add_block a (j * 2)
    exact ⟨a, ha, cell_ne hc (h.chg.oth _ (cell_lt hc) (by rw [e1]; exact hn.1) (by rw [e1]; exact hn.2)), cell_ne hd (h.chg.oth _ (cell_lt hd) (by simp only []; rw [e1]; exact hn.1) (by simp only []; rw [e1]; exact hn.2))⟩
  pls := fun j z hj => by
    obtain ⟨a, ha, hc⟩ := c.see.pls j z hj
    have hn := c.ap a ha
    have e1 := add_block a j
    exact ⟨a, ha, cell_ne hc (h.chg.oth _ (cell_lt hc) (by rw [e1]; exact hn.1) (by rw [e1]; exact hn.2))⟩
  fl := c.see.fl
theorem Stt.later {g hb : Nat} {x : Bv} {fn : Fn} {w0 w w' : World} {s : Sv} {wv : Value} (h : Stt w0.heap.size g hb x fn w0 w s wv) (hb' : Below w.heap.size w w') (hl : hb < w0.heap.size) : Stt w0.heap.size g hb x fn w0 w' s wv where
  chg := h.chg.trans (.of_below hb' h.chg.size)
  box := (hb'.block g (Array.getElem?_eq_some_iff.1 h.box).1).trans h.box
  map := h.map.later (hb'.block hb (Nat.lt_of_lt_of_le hl h.chg.size))
  wai := h.wai.below hb'
/-- what else is changed when a place comes to wait -/
structure Mv (g hb : Nat) (w w' : World) (wv wv' : Value) : Prop where
  oth : ∀ b, b < w.heap.size → b ≠ g → b ≠ hb → some b ≠ wv.ownBlock → w'.heap[b]? = w.heap[b]?
  row : ∀ b, wv'.ownBlock = some b → wv.ownBlock = some b ∨ w.heap.size ≤ b
  size : w.heap.size ≤ w'.heap.size
theorem Mv.refl (g hb : Nat) (w : World) (wv : Value) : Mv g hb w w wv wv := ⟨fun _ _ _ _ _ => rfl, fun _ h => .inl h, Nat.le_refl _⟩
/-- 'm[k] = x', at the operation -/
theorem wpl_hput {w : World} {ops : Array Oper} {rest : List Oper} {o : Oper} {a : Act} {Q : Exit → Act → World → Prop}
    (hg : o.guard = none) (m x v : Operand) (t : TypeId) (hop : o.op = Op.mapUpdate t m x v) (ht : Tryz.prog.underlying t = some (.map 3 3)) (b : Nat) (H : List (Int × Int)) (k y : Int)
    (hm : a.eval m = .map (some b)) (hx : a.eval x = .int .i64 k) (hv : a.eval v = .int .i64 y) (h : Hts w b H) (hk : i64B k) (hy : i64B y) (hl : H.length < maxLen)
    (hK : ∀ w', Hid (Hts w' b ((k, y) :: H) ∧ w.grownBy w' (some b)) → wpList Tryz.prog ops Q rest (a.put o.dst undef) w') :
    wpList Tryz.prog ops Q (o :: rest) a w := by
  refine wpList_plain hg fun K' hK' => ?_
  obtain ⟨w', hrun, r1, r2⟩ := h.put hk hy hl t ht
  unfold Oper.wp
  simp [execOp, hop, hm, hx, hv, hrun, Result.andThen]
  exact hK' _ _ (hK w' ⟨r1, r2⟩)
theorem set11 {w : World} {q : Nat} {z0 z1 z2 z3 z4 z5 z6 z7 z8 z9 z10 : Value} {T : TypeId} (h : w.heap[q]? = some (.cells #[z0, z1, z2, z3, z4, z5, z6, z7, z8, z9, z10] T (0, 0))) (y : Value) :
    (w.setCell ⟨q, 10, none⟩ y).heap[q]? = some (.cells #[z0, z1, z2, z3, z4, z5, z6, z7, z8, z9, y] T (0, 0)) := by
  have e0 := heap_setCell_same w q 10 _ T y h
  simpa only [List.setIfInBounds_toArray, List.set_cons_zero, List.set_cons_succ] using e0
set_option maxRecDepth 100000 in
set_option maxHeartbeats 4000000 in
theorem reach_any {B g hb : Nat} {x : Bv} {m : Md} {fn : Fn} {ls : List Ins} {ps : List Int} {w0 w : World} {wv0 wv : Value} {s : Sv} (c : Cxt B g hb x m fn ls ps w0 wv0) (h : Stt w0.heap.size g hb x fn w0 w s wv) (a ht : Int) (ha : i64B a) (hh : i64B ht) (hw : s.2.Pairwise (· < ·)) (h1 : s.1.length ≤ 8000) (h2 : s.2.length ≤ 8000) :
    Calls Tryz.prog 123 #[.pointer (some ⟨g, 0, none⟩), .int .i64 a, .int .i64 ht] w fun e w' => ∃ wv', e = .returned (.int .i64 (rch (fn.2.2.2.size : Int) a ht s).2) ∧ Stt w0.heap.size g hb x fn w0 w' (rch (fn.2.2.2.size : Int) a ht s).1 wv' ∧ Mv g hb w w' wv wv' := by
  obtain ⟨e0, e1, e2, e3, e4, e5, e6, e7, e8, e9, e10⟩ := (c.at h).cells
  have hask := h.map.ask ha 170 Tryz.underlying170
  obtain ⟨r, hr⟩ : ∃ r, rch (fn.2.2.2.size : Int) a ht s = r := ⟨_, rfl⟩
  have hr' := hr
  unfold rch at hr'
  rw [hr]
  have hts := c.ts
  have HC := hide (And.intro c h)
  have HR := hide hr'
  obtain ⟨fp, fl, fk, ft⟩ := fn
  obtain ⟨b1, n1, d1, b2, n2, d2, b3, n3, d3, bl, nl, dl, bp, np, dp⟩ := x
  simp only [] at e6 HR hts
  clear c h hr hr' e0 e1 e2 e3 e4 e5 e7 e8
  by_cases hL : a = (ft.size : Int)
  · subst hL
    have HE : Hid (r = (s, 127)) := hide (by rw [← unhide HR, if_pos rfl])
    clear HR hask
    go_enter Tryz.func123, Tryz.ntmps123
    go_wp2_with fail
    go_ret
    exact ⟨wv, by rw [unhide HE]; rfl, by rw [unhide HE]; exact (unhide HC).2, Mv.refl _ _ _ _⟩
  · have qL : (a == (ft.size : Int)) = false := by simpa using hL
    have HR2 : Hid ((match s.1.lookup a with | some x => if x = ht then (s, 0) else (s, 126) | none => (((a, ht) :: s.1, insW a s.2), 0)) = r) := hide (by
      have hq := unhide HR
      rw [if_neg hL] at hq
      exact hq)
    clear HR
    cases hlk : s.1.lookup a with
    | some y =>
      rw [hlk] at hask HR2
      simp only [Option.getD_some, Option.isSome_some] at hask HR2
      by_cases hy : y = ht
      · subst hy
        have HE : Hid (r = (s, 0)) := hide (by rw [← unhide HR2, if_pos rfl])
        clear HR2 hlk
        go_enter Tryz.func123, Tryz.ntmps123
        go_wp2_with fail
        go_ret
        exact ⟨wv, by rw [unhide HE]; rfl, by rw [unhide HE]; exact (unhide HC).2, Mv.refl _ _ _ _⟩
      · have qy : (y == ht) = false := by simpa using hy
        have HE : Hid (r = (s, 126)) := hide (by rw [← unhide HR2, if_neg hy])
        clear HR2 hlk
        go_enter Tryz.func123, Tryz.ntmps123
        go_wp2_with fail
        go_ret
        exact ⟨wv, by rw [unhide HE]; rfl, by rw [unhide HE]; exact (unhide HC).2, Mv.refl _ _ _ _⟩
    | none =>
      rw [hlk] at hask HR2
      simp only [Option.getD_none, Option.isSome_none] at hask HR2
      have HE : Hid (r = (((a, ht) :: s.1, insW a s.2), 0)) := hide (unhide HR2).symm
      obtain ⟨ao, wcap, hwv, hrd⟩ := (unhide HC).2.wai.read
      subst hwv
      obtain ⟨n, hn⟩ : ∃ n, s.2.length = n := ⟨_, rfl⟩
      rw [hn] at e10 h2
      have HN := hide hn
      have HW := hide (And.intro hw hrd)
      clear HR2 hlk hrd hw hn
      go_enter Tryz.func123, Tryz.ntmps123
      have tok1 : True := trivial
      go_upto_region 8 with (first | (at_mapUpdate; have _t := tok1; refine wpl_hput rfl (.tmp 39) (.tmp 40) (.tmp 41) 170 rfl Tryz.underlying170 hb s.1 a ht rfl rfl rfl (unhide HC).2.map ha hh (by unfold maxLen; omega) ?_; clear tok1; intro w1 H1))
      have hgl := (unhide HC).1.gl
      have hhl := (unhide HC).1.hl
      have hne := (unhide HC).1.ne
      have hws := (unhide HC).2.chg.size
      have box1 : w1.heap[g]? = some (.cells #[.slice b1 n1 d1, .slice b2 n2 d2, .slice b3 n3 d3, .int .i64 fp, .int .i64 fl, .int .i64 fk, .string ft, .slice bl nl dl, .slice bp np dp, .map (some hb), .slice ao n wcap] 174 (0, 0)) := by
        have := ((unhide H1).2.block g (by omega) (fun e => hne (Option.some.inj e))).trans (unhide HC).2.box
        rw [this, unhide HN]
        rfl
      have off1 : Off w1 w0.heap.size (.slice ao n wcap) s.2 := by
        have hwai := (unhide HC).2.wai
        rw [unhide HN] at hwai
        exact hwai.later (fun b hb' hbl => (unhide H1).2.block b hbl (fun e => by
          have := (hwai.lt hb').1
          have := Option.some.inj e
          omega))
      obtain ⟨k0, k1, k2, k3, k4, k5, k6, k7, k8, k9, k10⟩ := row_cell11 box1
      have hrd1 : RdI w1 ao s.2 := by
        obtain ⟨ao', cap', e, hr⟩ := off1.read
        cases e
        exact hr
      have CS := hide (searchI s.2 ao wcap n w1 (unhide HN) hrd1 (by omega) (unhide HW).1 a)
      have HO1 := hide (And.intro off1 box1)
      clear off1 box1 hrd1 k0 k1 k2 k3 k4 k5 k6 k7 k8 k9 e6 e9 e10 hask
      go_wp2_with fail
      refine (unhide CS).mono ?_
      rintro e u ⟨L, rfl, hL', rfl⟩
      have HLW := hide hL'
      have hLn : L ≤ n := by have := hL'.1; rw [unhide HN] at this; exact this
      clear hL' CS
      go_upto_region 9 with fail
      obtain ⟨w2, hw2⟩ : ∃ w2, u.alloc (.cells #[.int .i64 a] 3) = w2 := ⟨_, rfl⟩
      have A2 : w2.heap[u.heap.size]? = some (.cells #[.int .i64 a] 3 (0, 0)) := by rw [← hw2]; exact heap_alloc_new _ _
      have B2 : Below u.heap.size u w2 := by rw [← hw2]; exact (Below.refl _ _).alloc (Nat.le_refl _) _
      have z2 : w2.heap.size = u.heap.size + 1 := by rw [← hw2]; simp
      obtain ⟨gv, hgv⟩ : ∃ gv, u.heap.size = gv := ⟨_, rfl⟩
      rw [hgv] at A2 z2
      have u1 : w0.heap.size ≤ u.heap.size := Nat.le_trans hws (unhide H1).2.size
      have CI := hide (insertO w0.heap.size (.slice ao n wcap) s.2 a n L gv w2 (unhide HN) ((unhide HO1).1.below B2) A2 (fun e => by
        have := ((unhide HO1).1.lt e).2
        omega) hLn (by omega) (by omega))
      have HB2 := hide (And.intro B2 (And.intro A2 z2))
      clear A2 B2
      go_wp2_with fail
      refine (unhide CI).mono ?_
      rintro e w3 ⟨v3, rfl, O3, G3⟩
      obtain ⟨ao3, cap3, hv3, _⟩ := O3.read
      obtain ⟨nn3, hn3⟩ : ∃ nn3, (s.2.take L ++ a :: s.2.drop L).length = nn3 := ⟨_, rfl⟩
      rw [hn3] at hv3
      subst hv3
      clear hn3
      have H3 := hide (And.intro O3 G3)
      have hrow : ∀ b, (Value.slice ao n wcap).ownBlock = some b → w0.heap.size ≤ b := fun b hb' => ((unhide HO1).1.lt hb').1
      have bx3 : w3.heap[g]? = some (.cells #[.slice b1 n1 d1, .slice b2 n2 d2, .slice b3 n3 d3, .int .i64 fp, .int .i64 fl, .int .i64 fk, .string ft, .slice bl nl dl, .slice bp np dp, .map (some hb), .slice ao n wcap] 174 (0, 0)) :=
        (G3.grown.block g (by omega) (fun e => by have := hrow g e.symm; omega)).trans (((unhide HB2).1.block g (by omega)).trans (unhide HO1).2)
      have fz3 := frozen_of_row w3 g 10 _ _ bx3
      obtain ⟨k0, k1, k2, k3, k4, k5, k6, k7, k8, k9, k11⟩ := row_cell11 bx3
      have HBX := hide bx3
      clear O3 G3 CI bx3 k0 k1 k2 k3 k4 k5 k6 k7 k8 k9
      go_wp2_with fail
      go_ret
      refine ⟨(.slice ao3 nn3 cap3), by rw [unhide HE]; rfl, ?_⟩
      rw [unhide HE]
      obtain ⟨O3, G3⟩ := unhide H3
      have hsz3 := G3.grown.size
      have hoth : ∀ b, b < w0.heap.size → b ≠ g → b ≠ hb → (w3.setCell ⟨g, 10, none⟩ (.slice ao3 nn3 cap3)).heap[b]? = w0.heap[b]? := fun b q1 q2 q3 => by
        rw [heap_setCell_other _ _ _ _ q2, G3.grown.block b (by omega) (fun e => by have := hrow b e.symm; omega), (unhide HB2).1.block b (by omega), (unhide H1).2.block b (by omega) (fun e => q3 (Option.some.inj e))]
        exact (unhide HC).2.chg.oth b q1 q2 q3
      have hob : (Value.slice ao n wcap).ownBlock = (Value.slice ao s.2.length wcap).ownBlock := by cases ao <;> rfl
      have hz1 := (unhide H1).2.size
      have hz2 := (unhide HB2).2.2
      have hz3 : (w3.setCell ⟨g, 10, none⟩ (.slice ao3 nn3 cap3)).heap.size = w3.heap.size := by simp
      have hmv : Mv g hb w (w3.setCell ⟨g, 10, none⟩ (.slice ao3 nn3 cap3)) (.slice ao s.2.length wcap) (.slice ao3 nn3 cap3) := by
        refine ⟨fun b q1 q2 q3 q4 => ?_, fun b q1 => ?_, by omega⟩
        · rw [← hob] at q4
          rw [heap_setCell_other _ _ _ _ q2, G3.grown.block b (by omega) q4, (unhide HB2).1.block b (by omega)]
          exact (unhide H1).2.block b q1 (fun e => q3 (Option.some.inj e))
        · rw [← hob]
          rcases G3.row b q1 with e | e
          · exact .inl e
          · exact .inr (by omega)
      refine ⟨?_, hmv⟩
      refine ⟨⟨?_, ?_, ?_, ?_, hoth⟩, set11 (unhide HBX) (.slice ao3 nn3 cap3), ?_, ?_⟩
      · exact G3.grown.os.trans ((unhide HB2).1.os.trans ((unhide H1).2.os.trans (unhide HC).2.chg.os))
      · exact G3.grown.tape.trans ((unhide HB2).1.tape.trans ((unhide H1).2.tape.trans (unhide HC).2.chg.tape))
      · exact G3.grown.output.trans ((unhide HB2).1.output.trans ((unhide H1).2.output.trans (unhide HC).2.chg.output))
      · have : (w3.setCell ⟨g, 10, none⟩ (.slice ao3 nn3 cap3)).heap.size = w3.heap.size := by simp
        omega
      · refine (unhide H1).1.later ?_
        rw [heap_setCell_other _ _ _ _ (Ne.symm hne), G3.grown.block hb (by omega) (fun e => by have := hrow hb e.symm; omega), (unhide HB2).1.block hb (by omega)]
      · rw [insW_is a s.2 L (unhide HLW)] at O3
        refine O3.later (fun b hb' hbl => heap_setCell_other _ _ _ _ (fun e => ?_))
        have := (O3.lt hb').1
        have e' : b = g := e
        omega
end Go.Proofs.YtmnbfcpkaglniaaGreatDoor
