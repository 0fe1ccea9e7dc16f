/-
  The walk of the law TableFrom; conditions: the script's steps lie in memory, 2^42 at the most.
-/
import Derived.Test.YtflopmhjgamcfaaTPlay
import Derived.Test.YtflopmhjgamcfaaTCopyI
set_option linter.unusedSimpArgs false
namespace Go.Proofs.Ytflopmhjgamcfaa.tableFrom
open Go.RowKit Go.Shelf
set_option linter.unusedVariables false
attribute [local go_sem] Oper.semAt_some

theorem pre_snoc {ps pre : List (Int × Int)} {x : Int × Int} (h : pre <+: ps) (hx : ps[pre.length]? = some x) : pre ++ [x] <+: ps := by
  obtain ⟨t, rfl⟩ := h
  rw [List.getElem?_append_right (Nat.le_refl _), Nat.sub_self] at hx
  cases t with
  | nil => cases hx
  | cons y t =>
    cases hx
    exact ⟨t, by simp⟩

theorem snoc_at {ps pre : List (Int × Int)} {x : Int × Int} (h : pre ++ [x] <+: ps) : ps[pre.length]? = some x := by
  obtain ⟨t, rfl⟩ := h
  simp

set_option maxRecDepth 100000 in
set_option maxHeartbeats 2000000 in
theorem walk (ao : Option Addr) (n cap : Nat) (ss : List Stp4) (k : Int) (w : World) (hk : Script w w.heap.size ao n ss) (hn : (n + 2) * 16 ≤ 140737488355328) :
    Calls Try.prog 5 #[.slice ao n cap, .int .i64 k] w fun e w' => e = .returned (.bool true) ∧ Below w.heap.size w w' := by
  obtain ⟨R, hR⟩ : ∃ R, w.heap.size = R := ⟨_, rfl⟩
  obtain ⟨w1, hw1⟩ : ∃ w1, w.alloc (.cells #[.bool false] 4) = w1 := ⟨_, rfl⟩
  have N1 := heap_alloc_new w (.cells #[.bool false] 4)
  have B1 : Below w.heap.size w w1 := by rw [← hw1]; exact (Below.refl _ _).alloc (Nat.le_refl _) _
  have Z1 : w1.heap.size = R + 1 := by rw [← hw1, ← hR]; simp
  rw [hw1, hR] at N1
  have CP := hide (played_I ao n cap ss w1 ((hk.later B1).mono B1.size) hn)
  have HR := hide hR
  have W1 := hide hw1
  have H1 := hide (And.intro N1 (And.intro B1 Z1))
  clear hk N1 B1 Z1 hR hw1
  refine (callsIn_wide (n := 5)).1 ?_
  refine callsIn_of_wp_marks Try.func5 rfl trivial ?_ rfl
  simp only [Try.ntmps5, List.size_toArray, List.length_cons, List.length_nil, Nat.reduceAdd, Nat.reduceSub, Array.replicate_succ, Array.replicate_zero, List.push_toArray, List.append_toArray, List.nil_append, List.cons_append]
  gi_wp2_with fail
  rw [unhide HR, unhide W1]
  refine ⟨trivial, (callsIn_wide.2 (unhide CP)).mono ?_⟩
  rintro e w2 ⟨av, es, rfl, q1, q2, q3, q4⟩
  obtain ⟨A, ac, hav⟩ : ∃ A ac, av = .slice (some ⟨A, 0, none⟩) es.length ac := by
    rcases q1.row.2 with ⟨_, h0⟩ | ⟨A, cap, cur, rfl, _⟩
    · omega
    · exact ⟨A, cap, rfl⟩
  subst hav
  obtain ⟨j, hj⟩ : ∃ j, es.length = j + 1 := ⟨es.length - 1, by omega⟩
  obtain ⟨a, ha⟩ : ∃ a, es[j]? = some a := ⟨_, List.getElem?_eq_getElem (by omega)⟩
  obtain ⟨t0, t1⟩ := all_cells q1 ha
  have ho := q1.ok j a ha
  have hl : a.l = a.m := q2 a (List.mem_of_getElem? ha)
  obtain ⟨ra, rc, hra, hrl, hrc, _, hcell⟩ := ref_cells ho.ref
  have HQ := hide (And.intro q1 (And.intro ho (And.intro hl hra)))
  rw [hra] at t1
  obtain ⟨m, hm⟩ : ∃ m, es.length = m := ⟨_, rfl⟩
  rw [hm] at q4 ⊢
  have m1 : (m : Int) - 1 = (j : Int) := by omega
  have m2 : (j : Int) < (m : Int) := by omega
  clear q1 q2 q3 ho hl ha hj hra CP hm hcell
  obtain ⟨M, hM⟩ : ∃ M, a.m.length = M := ⟨_, rfl⟩
  rw [hM] at t1 hrl
  have HM := hide hM
  clear hM
  have T0 := hide (And.intro t0 t1)
  obtain ⟨P, hP⟩ : ∃ P, w2.heap.size = P := ⟨_, rfl⟩
  obtain ⟨w3, hw3⟩ : ∃ w3, w2.alloc (.cells #[.pointer (some ⟨a.g, 0, none⟩), .slice ra M rc] 29) = w3 := ⟨_, rfl⟩
  have N3 := heap_alloc_new w2 (.cells #[.pointer (some ⟨a.g, 0, none⟩), .slice ra M rc] 29)
  have B3 : Below w2.heap.size w2 w3 := by rw [← hw3]; exact (Below.refl _ _).alloc (Nat.le_refl _) _
  have Z3 : w3.heap.size = P + 1 := by rw [← hw3, ← hP]; simp
  rw [hw3, hP] at N3
  have A3 := (unhide HQ).1.later B3
  have E3 : EntOk w1 w3 n a := (unhide HQ).2.1.keep (Nat.le_refl _) (fun b c t hc _ => B3.block b (Array.getElem?_eq_some_iff.1 hc).1)
  obtain ⟨L, hL⟩ : ∃ L, low a.m k = L := ⟨_, rfl⟩
  obtain ⟨hs, hhs⟩ : ∃ hs, has a.m k = hs := ⟨_, rfl⟩
  have CF : Hid (Calls Try.prog 12 #[.slice ra M rc, .int .i64 k] w3 fun e w' => e = .returned (.tuple #[.int .i64 (L : Int), .bool hs]) ∧ ∃ x4 : World, Below w3.heap.size w3 x4 ∧ x4.heap.size = w3.heap.size ∧ w' = x4) := hide (by
    have := ref_find E3.ref k
    rw [(unhide HQ).2.2.2, unhide HM, hL, hhs] at this
    refine this.mono ?_
    rintro e w' ⟨rfl, q, rfl⟩
    exact ⟨rfl, w3.drewN q, below_drewN (Below.refl _ _) q, rfl, rfl⟩)
  have X3 := hide (And.intro E3 (And.intro N3 (And.intro B3 (And.intro Z3 hL))))
  have HP := hide hP
  have W3 := hide hw3
  clear N3 B3 Z3 A3 E3 hL hhs hP hw3
  gi_wp2_with fail
  rw [unhide HP, unhide W3]
  refine ⟨trivial, (callsIn_wide.2 (unhide CF)).mono ?_⟩
  rintro e x4' ⟨rfl, x4, b4, z4, rfl⟩
  obtain ⟨E3, N3, B3, Z3, hL⟩ := unhide X3
  rw [Z3] at z4
  obtain ⟨w5, hw5⟩ : ∃ w5, x4'.alloc (.cells #[.int .i64 (L : Int)] 3) = w5 := ⟨_, rfl⟩
  have N5 := heap_alloc_new x4' (.cells #[.int .i64 (L : Int)] 3)
  have B5' : Below x4'.heap.size x4' w5 := by rw [← hw5]; exact (Below.refl _ _).alloc (Nat.le_refl _) _
  rw [hw5, z4] at N5
  have Z5 : w5.heap.size = P + 2 := by rw [← hw5]; simp [z4]
  have B5 : Below w3.heap.size w3 w5 := b4.trans (B5'.mono b4.size)
  have E5 : EntOk w1 w5 n a := E3.keep (Nat.le_refl _) (fun b c t hc _ => B5.block b (Array.getElem?_eq_some_iff.1 hc).1)
  have P5 := (B5.block P (by omega)).trans N3
  have hsame := (unhide HQ).2.2.1
  have CA : Hid (Calls Try.prog 13 #[.pointer (some ⟨a.g, 0, none⟩), .int .i64 k] w5 fun e w' => ∃ G v', e = .returned (.func (.func 32) #[] #[.pointer (some ⟨G, 0, none⟩)]) ∧ Hid (Seq w5 w' (.func (.func 32) #[] #[.pointer (some ⟨G, 0, none⟩)]) (a.m.drop L) G v' ∧ Below w5.heap.size w5 w')) := hide (by
    have := from_I E5.tab E5.rises k (by have := E5.len.1; omega)
    refine this.mono ?_
    rintro e w' ⟨f, G, v', rfl, q1, q2⟩
    have hf := q1.fn
    subst hf
    rw [hsame, hL] at q1
    exact ⟨G, v', rfl, hide ⟨q1, q2⟩⟩)
  have c7 : (x4'.alloc (.cells #[.int .i64 (L : Int)] 3)).cell? ⟨P, 0, none⟩ = some (.pointer (some ⟨a.g, 0, none⟩)) := by rw [hw5, cell_of_row w5 P 0 _ _ (0, 0) P5]; rfl
  have X5 := hide (And.intro N5 (And.intro P5 (And.intro E5 (And.intro Z5 ((B3.trans (B5.mono B3.size)))))))
  have W5 := hide hw5
  have Z4 := hide z4
  have HL := hide hL
  clear E3 N3 B3 Z3 hL b4 z4 N5 B5' Z5 B5 E5 P5 hsame hw5 X3 CF
  gi_wp2_with fail
  rw [unhide Z4, unhide W5]
  refine ⟨trivial, (callsIn_wide.2 (unhide CA)).mono ?_⟩
  rintro e w6 ⟨G, v', rfl, H6⟩
  obtain ⟨N5, P5, E5, Z5, B25⟩ := unhide X5
  obtain ⟨hs6, b6⟩ := unhide H6
  obtain ⟨N1, B1, Z1⟩ := unhide H1
  have hb2 := (unhide HQ).1.below
  have s2 := hb2.size
  have s5 := B25.size
  have n6 := (b6.block (P + 1) (by omega)).trans N5
  have p6 := (b6.block P (by omega)).trans P5
  have r6 : w6.heap[R]? = some (.cells #[.bool false] 4 (0, 0)) := (b6.block R (by omega)).trans ((B25.block R (by omega)).trans ((hb2.block R (by omega)).trans N1))
  have ref6 : RefRow w6 a.r a.m := ref_later E5.ref b6
  have bel5 : Below w.heap.size w w5 := (B1.trans (hb2.mono B1.size)).trans (B25.mono (by have := B1.size; omega))
  have bel6 : Below w.heap.size w w6 := bel5.trans (b6.mono bel5.size)
  have z6 := b6.size
  have LM : L ≤ M := by rw [← unhide HL, ← unhide HM]; exact low_le a.m k
  have HI0 := hide (And.intro n6 (And.intro p6 (And.intro r6 (And.intro ref6 bel6))))
  have HSQ := hide (And.intro hs6.here hs6.row)
  have HV : Hid (∀ b, v'.ownBlock = some b → P + 2 ≤ b ∧ b < w6.heap.size) := hide (fun b hb => by rw [← Z5]; exact hs6.row.lt b hb)
  have SZ : Hid (P + 2 ≤ w6.heap.size ∧ R < P ∧ w.heap.size = R) := hide ⟨by omega, by have := unhide HP; omega, unhide HR⟩
  clear N5 P5 E5 Z5 B25 hs6 b6 N1 B1 Z1 hb2 s2 s5 n6 p6 r6 ref6 bel5 bel6 z6 c7 CA X5 H6
  gi_wp2_with fail
  refine wpIn_rangeFunc_ownF rfl (by decide) (gf := 32) (lb := #[.pointer (some ⟨G, 0, none⟩)]) rfl trivial (enters_of Try.func32 (by kernel_rfl) rfl)
    (iter_stops _ (by decide) (a.m.drop L) G v' w5 w6 (unhide HSQ).1 (unhide HSQ).2) (fun h1 h2 b hb => (h2 b hb).trans (h1 b hb)) (fun W j o o' hj _ _ _ b hb => World.putObj_heap_other (by have := (unhide HV b hb).2; omega)) (Below.refl _ _) (fun _ => rfl)
    (fun pre W => pre <+: a.m.drop L ∧ W.heap[P + 1]? = some (.cells #[.int .i64 ((L + pre.length : Nat) : Int)] 3 (0, 0)) ∧ W.heap[P]? = some (.cells #[.pointer (some ⟨a.g, 0, none⟩), .slice ra M rc] 29 (0, 0)) ∧ W.heap[R]? = some (.cells #[.bool false] 4 (0, 0)) ∧ RefRow W a.r a.m ∧ Below w.heap.size w W ∧ w6.heap.size ≤ W.heap.size)
    (fun _ pre _ => ¬ pre <+: a.m.drop L) ?hI (fun _ _ _ _ _ hs _ _ => hs) ?h0
    (fun x => { tmps := #[.slice ao n cap, .int .i64 k, undef, undef, .pointer (some ⟨R, 0, none⟩), .slice (some ⟨A, 0, none⟩) m ac, .bool true, .pointer (some ⟨P, 0, none⟩), .int .i64 (L : Int), .bool hs, .pointer (some ⟨P + 1, 0, none⟩), .int .i64 x.1, .int .i64 x.2, .tuple #[.slice (some ⟨A, 0, none⟩) m ac, .bool true], .slice ao n cap, .tuple #[.slice (some ⟨A, 0, none⟩) m ac, .bool true], .slice (some ⟨A, 0, none⟩) m ac, .bool true, .bool true, .bool false, .slice (some ⟨A, 0, none⟩) m ac, .slice (some ⟨A, 0, none⟩) m ac, .int .i64 (m : Int), .int .i64 (j : Int), .pointer (some ⟨A, j * 2, none⟩), .agg #[.pointer (some ⟨a.g, 0, none⟩), .slice ra M rc], .tuple #[.int .i64 (L : Int), .bool hs], .pointer (some ⟨P, 1, none⟩), .slice ra M rc, .int .i64 k, .tuple #[.int .i64 (L : Int), .bool hs], .int .i64 (L : Int), .bool hs, .int .i64 (L : Int), .pointer (some ⟨P, 0, none⟩), .pointer (some ⟨a.g, 0, none⟩), .int .i64 k, .func (.func 32) #[] #[.pointer (some ⟨G, 0, none⟩)], .int .i64 x.1, .int .i64 x.2, undef, undef, undef, undef, undef, undef, undef, undef, undef, undef, undef, undef, undef, undef, undef, undef, undef, undef, undef, undef, undef, undef, undef, undef, undef, undef, undef, undef, undef, undef, undef, undef], defers := [] }) ?assign ?body ?done ?stop
  case hI =>
    rintro pre W W' row ⟨a0, a1, a2, a3, a4, a5, a6⟩ hg hr
    have hne : ∀ q c t, W.heap[q]? = some (.cells c t (0, 0)) → some q ≠ row := fun q c t hq e => by
      obtain ⟨_, o, ho, hc⟩ := hr q e.symm
      rw [hq] at ho
      cases ho
      cases hc
    have hk : ∀ (q : Nat) (c : Array Value) (t : TypeId), W.heap[q]? = some (.cells c t (0, 0)) → W'.heap[q]? = W.heap[q]? := fun q c t hq => hg.block q (Array.getElem?_eq_some_iff.1 hq).1 (hne q c t hq)
    exact ⟨a0, (hk _ _ _ a1).trans a1, (hk _ _ _ a2).trans a2, (hk _ _ _ a3).trans a3, row_keep a4 (fun b hb => by obtain ⟨cur, hc⟩ := row_blk a4 hb; exact hk b _ _ hc), a5.grown hg (by have := a5.size; omega) (fun q hq => by have h1 := (hr q hq).1; have h2 := (unhide HI0).2.2.2.2.size; omega), by have := hg.size; omega⟩
  case h0 =>
    obtain ⟨n6, p6, r6, ref6, bel6⟩ := unhide HI0
    exact ⟨List.nil_prefix, n6, p6, r6, ref6, bel6, Nat.le_refl _⟩
  case assign =>
    intro l x W K hK
    gi_wp2
    exact hK
  case body =>
    rintro l pre x W ⟨a0, a1, a2, a3, a4, a5, a6⟩ hlt
    obtain ⟨d, hd⟩ : ∃ d, L + pre.length = d := ⟨_, rfl⟩
    rw [List.length_drop, unhide HM] at hlt
    have hdM : d < M := by omega
    obtain ⟨p, hp⟩ : ∃ p, a.m[d]? = some p := ⟨_, List.getElem?_eq_getElem (by have := unhide HM; omega)⟩
    obtain ⟨b, hb, e0, e1⟩ : ∃ b, ra = some ⟨b, 0, none⟩ ∧ W.cell? ⟨b, d * 2, none⟩ = some (.int .i64 p.1) ∧ W.cell? ⟨b, d * 2 + 1, none⟩ = some (.int .i64 p.2) := by
      obtain ⟨ra', rc', e1, _, _, _, hc⟩ := ref_cells a4
      have e2 := (unhide HQ).2.2.2
      rw [e1] at e2
      cases e2
      exact hc d p hp
    rw [hd] at a1
    have c1 : W.cell? ⟨P + 1, 0, none⟩ = some (.int .i64 (d : Int)) := by rw [cell_of_row W (P + 1) 0 _ _ (0, 0) a1]; rfl
    have c2 : W.cell? ⟨P, 1, none⟩ = some (.slice ra M rc) := by rw [cell_of_row W P 1 _ _ (0, 0) a2]; rfl
    rw [hb] at c2
    have f1 := frozen_of a1
    have f3 := frozen_of a3
    have c3 : W.cell? ⟨R, 0, none⟩ = some (.bool false) := by rw [cell_of_row W R 0 _ _ (0, 0) a3]; rfl
    have d1 : (d : Int) < (M : Int) := by omega
    have d2 : ¬ (M : Int) ≤ (d : Int) := by omega
    have HA := hide (And.intro a0 (And.intro a1 (And.intro a2 (And.intro a3 (And.intro a4 (And.intro a5 a6))))))
    have HP' : Hid ((a.m.drop L)[pre.length]? = some p ∧ L + pre.length = d) := hide ⟨by rw [List.getElem?_drop, hd]; exact hp, hd⟩
    clear a0 a1 a2 a3 a4 a5 a6 hp hd hlt hb
    by_cases hx1 : x.1 = p.1
    · by_cases hx2 : x.2 = p.2
      · have hx : x = p := Prod.ext hx1 hx2
        clear hx1 hx2
        subst hx
        gi_wp2_with fail
        show KeepsOthers W _ ∧ KeepV v' W _ ∧ _
        obtain ⟨a0, a1, a2, a3, a4, a5, a6⟩ := unhide HA
        obtain ⟨g1, g2⟩ := unhide HP'
        obtain ⟨z1, z2, z3⟩ := unhide SZ
        refine ⟨KeepsOthers.setCell _ _ _, fun c hc => heap_setCell_other _ _ _ _ (by have := (unhide HV c hc).1; show c ≠ P + 1; omega), pre_snoc a0 g1, ?_, ?_, ?_, ?_, ?_, ?_⟩
        · have h1 := heap_setCell_same W (P + 1) 0 _ _ (.int .i64 ((d : Int) + 1)) a1
          have h2 : (d : Int) + 1 = (L : Int) + ((pre ++ [x]).length : Int) := by rw [List.length_append]; simp; omega
          rw [← h2]
          exact h1
        · rw [heap_setCell_other _ _ _ _ (by show P ≠ P + 1; omega)]; exact a2
        · rw [heap_setCell_other _ _ _ _ (by show R ≠ P + 1; omega)]; exact a3
        · exact row_keep a4 (fun c hc => by
            obtain ⟨cur, hcur⟩ := row_blk a4 hc
            exact heap_setCell_other _ _ _ _ (blk_ne hcur a1 (by decide)))
        · exact a5.setCell (p := ⟨P + 1, 0, none⟩) (by show w.heap.size ≤ P + 1; omega) _
        · simp; exact a6
      · have HN : Hid (¬ x = p) := hide (fun e => hx2 (by rw [e]))
        gi_wp2_with fail
        show KeepsOthers W _ ∧ _
        exact ⟨KeepsOthers.setCell _ _ _, fun h => unhide HN (Option.some.inj ((snoc_at h).symm.trans (unhide HP').1))⟩
    · have HN : Hid (¬ x = p) := hide (fun e => hx1 (by rw [e]))
      gi_wp2_with fail
      show KeepsOthers W _ ∧ _
      exact ⟨KeepsOthers.setCell _ _ _, fun h => unhide HN (Option.some.inj ((snoc_at h).symm.trans (unhide HP').1))⟩
  case done =>
    rintro D ys W hD hys ⟨a0, a1, a2, a3, a4, a5, a6⟩ hK
    subst hys
    have hd : L + (a.m.drop L).length = M := by rw [List.length_drop, unhide HM]; omega
    rw [hd] at a1
    have c1 : W.cell? ⟨P + 1, 0, none⟩ = some (.int .i64 (M : Int)) := by rw [cell_of_row W (P + 1) 0 _ _ (0, 0) a1]; rfl
    have c2 : W.cell? ⟨P, 1, none⟩ = some (.slice ra M rc) := by rw [cell_of_row W P 1 _ _ (0, 0) a2]; rfl
    have f3 := frozen_of a3
    have c3 : W.cell? ⟨R, 0, none⟩ = some (.bool false) := by rw [cell_of_row W R 0 _ _ (0, 0) a3]; rfl
    have HA := hide (And.intro a3 a5)
    clear a0 a1 a2 a3 a4 a5 a6 hd
    gi_wp2
    obtain ⟨a3, a5⟩ := unhide HA
    obtain ⟨z1, z2, z3⟩ := unhide SZ
    have hK' : (W.setCell ⟨R, 0, none⟩ (.bool true)).heap[D]? = some (.deferred (some [])) := by rw [heap_setCell_other _ _ _ _ (by show D ≠ R; omega)]; exact hK
    refine ⟨by simp, .inl ⟨_, _, rfl, run_takeDeferred hK', ?_⟩⟩
    have h3 : ((W.setCell ⟨R, 0, none⟩ (.bool true)).putObj D (.deferred none)).heap[R]? = some (.cells #[.bool true] 4 (0, 0)) := by
      rw [World.putObj_heap_other (by omega)]
      exact heap_setCell_same W R 0 _ _ (.bool true) a3
    have c4 : ((W.setCell ⟨R, 0, none⟩ (.bool true)).putObj D (.deferred none)).cell? ⟨R, 0, none⟩ = some (.bool true) := by rw [cell_of_row _ R 0 _ _ (0, 0) h3]; rfl
    refine ⟨.bool true, ?_, rfl, ?_⟩
    · simp [results, Try.results5, go_sem, c4]
    · exact (a5.setCell (p := ⟨R, 0, none⟩) (by show w.heap.size ≤ R; omega) _).trans ⟨rfl, rfl, rfl, by simp, fun q hq => World.putObj_heap_other (by omega)⟩
  case stop =>
    rintro D c pre W _ h1 h2 _
    exact absurd h1 h2
end Go.Proofs.Ytflopmhjgamcfaa.tableFrom
