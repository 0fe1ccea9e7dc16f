/-
  Layer 17 (parse): an expression alone, and within a function; plain lists, no conditions.
  Layer 17 (parse): the walk of ParseWithin; conditions: what the variables of strconv hold; the text's length.
  Layer 17 (parse): the walk of ParseWithin where both are read, and whatever the text; conditions: what the variables of strconv hold; the text's length.
  Layer 17 (parse): an expression is one node; plain lists, no conditions.
  Layer 17 (parse): the walk of ParseWithin, whatever the text; conditions: what the variables of strconv hold; the text's length.
  Layer 17 (parse): the document's Expr, of any source: what the program's comes to; no conditions.
-/
import Derived.Test.YtgalfhlclmkbfaaGreatDoorD47
import Derived.Test.YtgalfhlclmkbfaaGreatDoorD07
import Derived.Test.YtgalfhlclmkbfaaGreatDoorD48
import Derived.Test.YtgalfhlclmkbfaaGreatDoorD22
import Derived.Test.YtgalfhlclmkbfaaGreatDoorD00
import Derived.Test.YtgalfhlclmkbfaaGreatDoorD21
import Derived.Test.YtgalfhlclmkbfaaGreatDoorD23
import Derived.Test.YtgalfhlclmkbfaaGreatDoorD28
set_option linter.unusedVariables false
set_option linter.unusedSimpArgs false
namespace Go.Proofs.YtgalfhlclmkbfaaGreatDoor
set_option linter.unusedVariables false
set_option linter.unusedSimpArgs false
end Go.Proofs.YtgalfhlclmkbfaaGreatDoor

namespace Go.Proofs.YtgalfhlclmkbfaaGreatDoor
open Go.RowKit
set_option linter.unusedVariables false
set_option linter.unusedSimpArgs false
end Go.Proofs.YtgalfhlclmkbfaaGreatDoor

namespace Go.Proofs.YtgalfhlclmkbfaaGreatDoor
open Go.RowKit
set_option linter.unusedVariables false
set_option linter.unusedSimpArgs false
end Go.Proofs.YtgalfhlclmkbfaaGreatDoor

namespace Go.Proofs.YtgalfhlclmkbfaaGreatDoor
set_option linter.unusedVariables false
set_option linter.unusedSimpArgs false
end Go.Proofs.YtgalfhlclmkbfaaGreatDoor

namespace Go.Proofs.YtgalfhlclmkbfaaGreatDoor
open Go.RowKit
set_option linter.unusedVariables false
set_option linter.unusedSimpArgs false
end Go.Proofs.YtgalfhlclmkbfaaGreatDoor

namespace Go.Proofs.YtgalfhlclmkbfaaGreatDoor
open Go.RowKit
set_option linter.unusedVariables false
set_option linter.unusedSimpArgs false
theorem fst_nm {l : List UInt8} {t : Tk} {n : Nat} (h : fstT l = .ok (t, n)) : t.k = 1 → t.t.length ≤ 20 := by
 cases l with
 |nil => simp [fstT] at h
 |cons c r =>
  rw [fst_cons] at h
  split at h
  ·unfold wrdT at h
   split at h
   ·simp only [Except.ok.injEq, Prod.mk.injEq] at h
    obtain ⟨rfl, _⟩ := h
    intro e
    cases e
   ·split at h
    ·cases h
    ·simp only [Except.ok.injEq, Prod.mk.injEq] at h
     obtain ⟨rfl, _⟩ := h
     intro _
     show ((c :: r).takeWhile lxW).length ≤ 20
     omega
  ·split at h
   ·unfold numT at h
    split at h
    ·cases h
    ·simp only [Except.ok.injEq, Prod.mk.injEq] at h
     obtain ⟨rfl, _⟩ := h
     intro e
     cases e
   ·split at h
    ·unfold bytT at h
     split at h
     ·cases h
     ·simp only [Except.ok.injEq, Prod.mk.injEq] at h
      obtain ⟨rfl, _⟩ := h
      intro e
      cases e
    ·unfold sgnT at h
     split at h
     ·cases h
     ·simp only [Except.ok.injEq, Prod.mk.injEq] at h
      obtain ⟨rfl, _⟩ := h
      intro e
      cases e
theorem lp_nm : ∀ (f : Nat) (p : Nat) (l : List UInt8) (ts : List Tk), lpT f p l = .ok ts → ∀ t ∈ ts, t.k = 1 → t.t.length ≤ 32
 |0, p, l, ts, h => by simp [lpT] at h
 |f + 1, p, [], ts, h => by
  simp only [lpT, Except.ok.injEq] at h
  subst h
  intro t ht hk
  rw [List.mem_singleton] at ht
  subst ht
  cases hk
 |f + 1, p, c :: r, ts, h => by
  obtain ⟨t0, n, us, h1, h2, rfl⟩ := lp_ok h
  intro t ht hk
  rcases List.mem_cons.1 ht with rfl | ht
  ·have := fst_nm h1 hk
   show t0.t.length ≤ 32
   omega
  ·exact lp_nm f _ _ us h2 t ht hk
theorem all_nm {s : List UInt8} {ts : List Tk} (h : allT s = .ok ts) : ∀ t ∈ ts, t.k = 1 → t.t.length ≤ 32 := by
 rw [all_split (all_small h)] at h
 exact lp_nm _ _ _ _ h
theorem rq_new {w : World} {B : Nat} {q cap : Nat} {ts : List Tk} (ho : w.ownsRow B 52 4 (.slice (some ⟨q, 0, none⟩) ts.length cap) ts.length (flT ts)) (hlen : ts.length ≤ 10000) (h0 : 0 < ts.length) :
  Rq (w.alloc (.cells #[.slice (some ⟨q, 0, none⟩) ts.length cap, .int .i64 0, .int .i64 0, .int .i64 0, .int .i64 0] 49)) ⟨w.heap.size, q, cap, ts⟩ ⟨0, 0, 0, 0⟩ := by
 have b1 : Below w.heap.size w (w.alloc (.cells #[.slice (some ⟨q, 0, none⟩) ts.length cap, .int .i64 0, .int .i64 0, .int .i64 0, .int .i64 0] 49)) := (Below.refl _ _).alloc (Nat.le_refl _) _
 have hlt := (ho.lt q rfl).2
 refine ⟨heap_alloc_new _ _, h0, (TR.of ho rfl).later b1, ?_, ?_, hlen⟩
 ·show q ≠ w.heap.size
  omega
 ·rcases ho.2 with ⟨e, _⟩ | ⟨q', cap', cur, e, _, _, h3, _⟩
  ·cases e
  ·cases e
   exact h3
def fnQ (T : List Tk) (s1 : Sg) : Sg := (muQ T 0 [] s1).2
theorem fn_rl {T : List Tk} {r : Rs (List Nd)} {ns : List Nd} {s1 : Sg} (hE : ∀ E P, r = .error (E, P) → ¬ E = 0) (h : Rl T 0 r (ns, s1)) :
  ((fnQ T s1).e = 0 → ∃ l, r = .ok (ns, l) ∧ (hdT l).k = 0) ∧ (¬ (fnQ T s1).e = 0 → erOf r = ((fnQ T s1).e, (fnQ T s1).a)) := by
 match r, h, hE with
 |.error (E, P), h, hE =>
  have h1 : Er (fnQ T s1) E P := er_mu (hE E P rfl) 0 [] h
  refine ⟨fun e => absurd (h1.1.symm.trans e) (hE E P rfl), fun _ => ?_⟩
  rw [h1.1, h1.2]
  rfl
 |.ok (ms, l), h, hE =>
  obtain ⟨i, hi, rfl, e⟩ := h
  cases e
  by_cases hk : (hdT (T.drop i)).k = 0
  ·have e1 : isQ T 0 [] (stQ i 0) = true := by
    unfold isQ
    rw [tk_st]
    exact decide_eq_true ⟨rfl, hk, .inr (.inr (.inr (.inl rfl)))⟩
   have e2 : (fnQ T (stQ i 0)).e = 0 := by
    unfold fnQ muQ
    rw [if_pos e1]
    exact (nxQ_e T (stQ i 0)).1
   exact ⟨fun _ => ⟨_, rfl, hk⟩, fun e => absurd e2 e⟩
  ·have e1 : ¬ isQ T 0 [] (stQ i 0) = true := fun e => hk (by have := (isQ_k e).2.1; rw [tk_st] at this; exact this)
   have e2 : fnQ T (stQ i 0) = ⟨i, 0, 170, (hdT (T.drop i)).p⟩ := by
    unfold fnQ muQ
    rw [if_neg e1]
    unfold wrQ
    rw [if_pos (show (stQ i 0).e = 0 from rfl)]
    rfl
   rw [e2]
   refine ⟨(fun e => by cases e), fun _ => ?_⟩
   unfold erOf
   simp only [hk, if_false]
theorem TrR.of_er {w : World} {r : Rs (List Nd)} {w' : World} {E P : Nat} (hr : erOf r = (E, P)) (hE : ¬ E = 0) : TrR w r (.returned (.tuple #[.agg #[.int .i64 0, .string ⟨#[]⟩, .int .i64 0, .int .i64 0, .string ⟨#[]⟩, .slice none 0 0, .slice none 0 0, .bool false, .slice none 0 0, .int .i64 0], .int .i64 (P : Int), .int .i64 (E : Int)])) w' := by
 refine ⟨0, [], 0, 0, [], false, 0, none, 0, 0, P, E, [], rfl, ?_⟩
 match r, hr with
 |.error (a, q), hr =>
  cases hr
  exact ⟨⟨rfl, rfl, rfl, rfl, rfl, rfl, rfl, rfl, rfl, rfl⟩, rfl, rfl⟩
 |.ok (ns, l), hr =>
  unfold erOf at hr
  by_cases hk : (hdT l).k = 0
  ·simp only [hk, if_true] at hr
   cases hr
   exact absurd rfl hE
  ·simp only [hk, if_false] at hr
   cases hr
   exact ⟨fun e => absurd e hk, fun _ => ⟨⟨rfl, rfl, rfl, rfl, rfl, rfl, rfl, rfl, rfl, rfl⟩, rfl, rfl⟩⟩
theorem set10_of {u : World} {G : Nat} {x0 x1 x2 x3 x4 x5 x6 x7 x8 x9 : Value} {T : TypeId} (h : u.heap[G]? = some (.cells #[x0, x1, x2, x3, x4, x5, x6, x7, x8, x9] T (0, 0))) (v0 v1 v2 v3 v4 v5 v6 v7 v8 v9 : Value) :
  ((((((((((u.setCell ⟨G, 0, none⟩ (v0)).setCell ⟨G, 1, none⟩ (v1)).setCell ⟨G, 2, none⟩ (v2)).setCell ⟨G, 3, none⟩ (v3)).setCell ⟨G, 4, none⟩ (v4)).setCell ⟨G, 5, none⟩ (v5)).setCell ⟨G, 6, none⟩ (v6)).setCell ⟨G, 7, none⟩ (v7)).setCell ⟨G, 8, none⟩ (v8)).setCell ⟨G, 9, none⟩ (v9)).heap[G]? = some (.cells #[v0, v1, v2, v3, v4, v5, v6, v7, v8, v9] T (0, 0)) ∧ (∀ b, b ≠ G → ((((((((((u.setCell ⟨G, 0, none⟩ (v0)).setCell ⟨G, 1, none⟩ (v1)).setCell ⟨G, 2, none⟩ (v2)).setCell ⟨G, 3, none⟩ (v3)).setCell ⟨G, 4, none⟩ (v4)).setCell ⟨G, 5, none⟩ (v5)).setCell ⟨G, 6, none⟩ (v6)).setCell ⟨G, 7, none⟩ (v7)).setCell ⟨G, 8, none⟩ (v8)).setCell ⟨G, 9, none⟩ (v9)).heap[b]? = u.heap[b]?) ∧ Below G u ((((((((((u.setCell ⟨G, 0, none⟩ (v0)).setCell ⟨G, 1, none⟩ (v1)).setCell ⟨G, 2, none⟩ (v2)).setCell ⟨G, 3, none⟩ (v3)).setCell ⟨G, 4, none⟩ (v4)).setCell ⟨G, 5, none⟩ (v5)).setCell ⟨G, 6, none⟩ (v6)).setCell ⟨G, 7, none⟩ (v7)).setCell ⟨G, 8, none⟩ (v8)).setCell ⟨G, 9, none⟩ (v9)) := by
 refine ⟨set10 h v0 v1 v2 v3 v4 v5 v6 v7 v8 v9, fun b hb => ?_, ?_⟩
 ·iterate 10 rw [heap_setCell_other _ _ _ _ hb]
 ·have e : ∀ (x : World) (f : Nat) (v : Value), Below G u x → Below G u (x.setCell ⟨G, f, none⟩ v) := fun x f v hx => hx.setCell (p := ⟨G, f, none⟩) (Nat.le_refl _) v
  iterate 10 refine e _ _ _ ?_
  exact Below.refl _ _
set_option maxRecDepth 100000 in
set_option maxHeartbeats 2000000 in
theorem exprD_bad (s : ByteArray) (w : World) {p er : Nat} (ha : allT s.data.toList = .error (p, er)) (hz : ¬ er = 0) :
  Calls Tryz.prog 13 #[.string s] w fun e w' => e = .returned (.tuple #[.agg #[.int .i64 0, .string ⟨#[]⟩, .int .i64 0, .int .i64 0, .string ⟨#[]⟩, .slice none 0 0, .slice none 0 0, .bool false, .slice none 0 0, .int .i64 0], .int .i64 (p : Int), .int .i64 (er : Int)]) ∧ Below w.heap.size w w' := by
 obtain ⟨w1, hw1⟩ : ∃ w1, w.alloc (.cells #[.int .i64 0, .string ⟨#[]⟩, .int .i64 0, .int .i64 0, .string ⟨#[]⟩, .slice none 0 0, .slice none 0 0, .bool false, .slice none 0 0, .int .i64 0] 29) = w1 := ⟨_, rfl⟩
 obtain ⟨G, hG⟩ : ∃ G, w.heap.size = G := ⟨_, rfl⟩
 have A1 : w1.heap[G]? = some (.cells #[.int .i64 0, .string ⟨#[]⟩, .int .i64 0, .int .i64 0, .string ⟨#[]⟩, .slice none 0 0, .slice none 0 0, .bool false, .slice none 0 0, .int .i64 0] 29 (0, 0)) := by rw [← hw1, ← hG]; exact heap_alloc_new _ _
 have B1 : Below w.heap.size w w1 := by rw [← hw1]; exact (Below.refl _ _).alloc (Nat.le_refl _) _
 have CA := hide (allD_any s w1)
 rw [ha] at CA
 have n1 : ¬ (er : Int) = 0 := by omega
 have n2 : ((er : Int) == 0) = false := by simpa using n1
 have n3 : ((er : Int) != 0) = true := by simp; omega
 have H1 := hide (And.intro A1 B1)
 have HW := hide hw1
 clear ha hz A1 B1 hw1
 go_enter Tryz.func13, Tryz.ntmps13
 go_upto_region 1 with fail
 rw [unhide HW]
 try rw [hG]
 clear HW
 go_wp2_with fail
 refine (unhide CA).mono ?_
 rintro e w2 ⟨rfl, b2⟩
 have hlt : G < w1.heap.size := (Array.getElem?_eq_some_iff.1 (unhide H1).1).1
 have A2 := (b2.block G hlt).trans (unhide H1).1
 obtain ⟨g0, g1, g2, g3, g4, g5, g6, g7, g8, g9⟩ := row_cell10 A2
 obtain ⟨z0, z1, z2, z3, z4, z5, z6, z7, z8, z9⟩ := frozen10 A2
 obtain ⟨F1, F2, F3⟩ := set10_of A2 (.int .i64 0) (.string ⟨#[]⟩) (.int .i64 0) (.int .i64 0) (.string ⟨#[]⟩) (.slice none 0 0) (.slice none 0 0) (.bool false) (.slice none 0 0) (.int .i64 0)
 have HB : Hid (Below w.heap.size w w2) := hide ((unhide H1).2.trans (b2.mono (unhide H1).2.size))
 obtain ⟨w3, hw3⟩ : ∃ w3, ((((((((((w2.setCell ⟨G, 0, none⟩ (.int .i64 0)).setCell ⟨G, 1, none⟩ (.string ⟨#[]⟩)).setCell ⟨G, 2, none⟩ (.int .i64 0)).setCell ⟨G, 3, none⟩ (.int .i64 0)).setCell ⟨G, 4, none⟩ (.string ⟨#[]⟩)).setCell ⟨G, 5, none⟩ (.slice none 0 0)).setCell ⟨G, 6, none⟩ (.slice none 0 0)).setCell ⟨G, 7, none⟩ (.bool false)).setCell ⟨G, 8, none⟩ (.slice none 0 0)).setCell ⟨G, 9, none⟩ (.int .i64 0)) = w3 := ⟨_, rfl⟩
 rw [hw3] at F1 F2 F3
 have HF := hide (And.intro F1 F3)
 have HW3 := hide hw3
 clear F1 F2 F3 hw3 A2 b2 CA
 go_wp2_with fail
 rw [unhide HW3]
 obtain ⟨F1, F3⟩ := unhide HF
 obtain ⟨r0, r1, r2, r3, r4, r5, r6, r7, r8, r9⟩ := row_cell10 F1
 refine bodyPost_ret (v := .tuple #[.agg #[.int .i64 0, .string ⟨#[]⟩, .int .i64 0, .int .i64 0, .string ⟨#[]⟩, .slice none 0 0, .slice none 0 0, .bool false, .slice none 0 0, .int .i64 0], .int .i64 (p : Int), .int .i64 (er : Int)]) ?_ rfl ⟨rfl, by have h := unhide HB; rw [hG] at h ⊢; exact h.trans F3⟩
 simp [results, Tryz.results13, go_sem, r0, r1, r2, r3, r4, r5, r6, r7, r8, r9]
set_option maxRecDepth 100000 in
set_option maxHeartbeats 2000000 in
theorem exprD_ok (s : ByteArray) (w : World) {ts : List Tk} (ha : allT s.data.toList = .ok ts) {r : Rs (List Nd)} {fu : Nat} (hr : PJ fu 0 0 [] ts 0 = some r) :
  Calls Tryz.prog 13 #[.string s] w fun e w' => TrR w r e w' ∧ Below w.heap.size w w' := by
 obtain ⟨R, hR⟩ : ∃ R : Ending → World → Prop, ∀ e w', R e w' ↔ TrR w r e w' := ⟨fun e w' => TrR w r e w', fun _ _ => Iff.rfl⟩
 have HR := hide hR
 suffices hX : Calls Tryz.prog 13 #[.string s] w fun e w' => R e w' ∧ Below w.heap.size w w' from hX.mono (fun e w' h => ⟨(hR e w').1 h.1, h.2⟩)
 clear hR
 obtain ⟨hlen, hfin⟩ := all_fin ha
 have hfin' : ∃ us p, ts = us ++ [endT p] := hfin
 have h0 : 0 < ts.length := by obtain ⟨us, p, rfl⟩ := hfin'; simp
 obtain ⟨⟨ns, s1⟩, hq⟩ := RJ_tot hfin' (32 * ts.length + 64) 0 0 [] ⟨0, 0, 0, 0⟩ (.inl (by decide)) (by omega) h0 (by first | (simp [rnk]; done) | (simp [rnk]; omega))
 have hrl := (all_Rl hfin' (all_nm ha) (32 * ts.length + 64)).a0 (f := fu) (i := 0) (d := 0) h0 (by decide) hr hq
 obtain ⟨x1, x2⟩ := fn_rl (fun E P e => by subst e; exact PJ_err fu 0 0 [] ts 0 E P hr) hrl
 have AQ := all_Q _ (32 * ts.length + 64) (Nat.le_refl _) (by omega)
 obtain ⟨w1, hw1⟩ : ∃ w1, w.alloc (.cells #[.int .i64 0, .string ⟨#[]⟩, .int .i64 0, .int .i64 0, .string ⟨#[]⟩, .slice none 0 0, .slice none 0 0, .bool false, .slice none 0 0, .int .i64 0] 29) = w1 := ⟨_, rfl⟩
 obtain ⟨G, hG⟩ : ∃ G, w.heap.size = G := ⟨_, rfl⟩
 have A1 : w1.heap[G]? = some (.cells #[.int .i64 0, .string ⟨#[]⟩, .int .i64 0, .int .i64 0, .string ⟨#[]⟩, .slice none 0 0, .slice none 0 0, .bool false, .slice none 0 0, .int .i64 0] 29 (0, 0)) := by rw [← hw1, ← hG]; exact heap_alloc_new _ _
 have B1 : Below w.heap.size w w1 := by rw [← hw1]; exact (Below.refl _ _).alloc (Nat.le_refl _) _
 have CA := hide (allD_any s w1)
 rw [ha] at CA
 have H1 := hide (And.intro A1 B1)
 have HX := hide (And.intro x1 x2)
 have HQ := hide (And.intro AQ (And.intro hq (And.intro hlen h0)))
 have HW := hide hw1
 clear ha A1 B1 hw1 x1 x2 AQ hq hlen h0 hrl hr hfin hfin'
 go_enter Tryz.func13, Tryz.ntmps13
 go_upto_region 1 with fail
 rw [unhide HW]
 try rw [hG]
 clear HW
 go_wp2_with fail
 refine (unhide CA).mono ?_
 rintro e w2 ⟨⟨v, rfl, ho⟩, b2⟩
 obtain ⟨q, cap, hv⟩ : ∃ q cap, v = .slice (some ⟨q, 0, none⟩) ts.length cap := by
  rcases ho.2 with ⟨_, e2⟩ | ⟨q, cap, cur, e1, _⟩
  ·exfalso; have := (unhide HQ).2.2.2; omega
  ·exact ⟨q, cap, e1⟩
 subst hv
 have hlt : G < w1.heap.size := (Array.getElem?_eq_some_iff.1 (unhide H1).1).1
 have A2 := (b2.block G hlt).trans (unhide H1).1
 have R3 := rq_new ho (unhide HQ).2.2.1 (unhide HQ).2.2.2
 have B3 : Below w2.heap.size w2 (w2.alloc (.cells #[.slice (some ⟨q, 0, none⟩) ts.length cap, .int .i64 0, .int .i64 0, .int .i64 0, .int .i64 0] 49)) := (Below.refl _ _).alloc (Nat.le_refl _) _
 obtain ⟨w3, hw3⟩ : ∃ w3, w2.alloc (.cells #[.slice (some ⟨q, 0, none⟩) ts.length cap, .int .i64 0, .int .i64 0, .int .i64 0, .int .i64 0] 49) = w3 := ⟨_, rfl⟩
 rw [hw3] at R3 B3
 obtain ⟨g, hg⟩ : ∃ g, w2.heap.size = g := ⟨_, rfl⟩
 have hGg : G < g := by rw [← hg]; have := b2.size; omega
 have A3 := (B3.block G (by omega)).trans A2
 rw [hg] at R3
 have CE := hide ((unhide HQ).1.expr (c := ⟨g, q, cap, ts⟩) (unhide HQ).2.1 R3)
 have BB3 : Hid (Below w.heap.size w w3) := hide (by
  have h1 := (unhide H1).2
  exact (h1.trans (b2.mono h1.size)).trans (B3.mono (Nat.le_trans h1.size b2.size)))
 have HA3 := hide A3
 have hg3 : g < w3.heap.size := R3.frz.2.2.2.2
 obtain ⟨M, hM⟩ : ∃ M, ts.length = M := ⟨_, rfl⟩
 have HW3 := hide hw3
 rw [hM] at HW3
 have HM := hide hM
 clear ho b2 A2 R3 B3 A3 CA H1 hw3
 try rw [hM]
 clear hM
 go_upto_region 5 with fail
 rw [unhide HW3]
 try rw [hg]
 clear HW3
 go_wp2_with fail
 refine (unhide CE).mono ?_
 rintro e w4 ⟨k, t, vk, vn, vs, f, n, ak, ck, p, S, rfl, hl1, hn, r4, b4⟩
 try simp only [] at hl1 hn r4 b4
 have hGw3 : G < w3.heap.size := by omega
 have A4 := (b4.block G hGw3 (show G ≠ g by omega)).trans (unhide HA3)
 obtain ⟨AX, GX⟩ := bx w4 #[.int .i64 (k : Int), .string (bA t), .int .i64 (vk : Int), .int .i64 (vn : Int), .string (bA vs), .slice none 0 0, .slice none 0 0, .bool f, .slice ak n ck, .int .i64 (p : Int)] 29
 obtain ⟨w5, hw5⟩ : ∃ w5, w4.alloc (.cells #[.int .i64 (k : Int), .string (bA t), .int .i64 (vk : Int), .int .i64 (vn : Int), .string (bA vs), .slice none 0 0, .slice none 0 0, .bool f, .slice ak n ck, .int .i64 (p : Int)] 29) = w5 := ⟨_, rfl⟩
 rw [hw5] at AX GX
 obtain ⟨X, hXX⟩ : ∃ X, w4.heap.size = X := ⟨_, rfl⟩
 rw [hXX] at AX
 have h34 := b4.size
 have A5 := (GX.block G (by omega)).trans A4
 have R5 := r4.below GX
 have N5 := hn.to (w' := w5) (fun b _ hb _ => GX.block b hb) GX.size
 have CM := hide (must_any R5 0 [])
 obtain ⟨⟨⟨mk, mt, mn, mp⟩, s2⟩, hm⟩ : ∃ z, muQ ts 0 [] s1 = z := ⟨_, rfl⟩
 have hs2 : fnQ ts s1 = s2 := by unfold fnQ; rw [hm]
 rw [hm] at CM
 simp only [tkA] at CM
 rw [hs2] at HX
 have H5 := hide (And.intro A5 (And.intro AX (And.intro N5 (And.intro b4 GX))))
 have HW5 := hide hw5
 have HL1 := hide hl1
 clear hn r4 b4 A4 A5 AX GX R5 N5 hw5 hm hs2 CE HA3 hl1
 go_upto_region 6 with fail
 rw [unhide HW5]
 try rw [hXX]
 clear HW5
 go_wp2_with fail
 refine (unhide CM).mono ?_
 rintro e w6 ⟨rfl, r6, b6⟩
 try simp only [] at b6
 obtain ⟨A5, AX, N5, b4, GX⟩ := unhide H5
 have h45 := GX.size
 have hXg : X ≠ g := by rw [← hXX]; omega
 have A6 := (b6.block G (by omega) (show G ≠ g by omega)).trans A5
 have X6 := (b6.block X (by rw [← hXX]; exact (Array.getElem?_eq_some_iff.1 (by rw [hXX]; exact AX)).1) hXg).trans AX
 have N6 := N5.to (w' := w6) (fun b h1 hb _ => b6.block b hb (show b ≠ g by omega)) b6.size
 have BB6 : Hid (Below G w3 w6) := hide ⟨b6.os.trans (GX.os.trans b4.os), b6.tape.trans (GX.tape.trans b4.tape), b6.output.trans (GX.output.trans b4.output), Nat.le_trans b4.size (Nat.le_trans GX.size b6.size), fun z hz => by rw [b6.block z (by omega) (show z ≠ g by omega), GX.block z (by omega), b4.block z (by omega) (show z ≠ g by omega)]⟩
 obtain ⟨c0, c1, c2, c3, c4⟩ := r6.cells
 try simp only [] at c3 c4
 obtain ⟨g0, g1, g2, g3, g4, g5, g6, g7, g8, g9⟩ := row_cell10 A6
 obtain ⟨z0, z1, z2, z3, z4, z5, z6, z7, z8, z9⟩ := frozen10 A6
 obtain ⟨y0, y1, y2, y3, y4, y5, y6, y7, y8, y9⟩ := row_cell10 X6
 have H6 := hide (And.intro A6 N6)
 clear A5 AX N5 b4 GX A6 X6 N6 CM H5 c0 c1 c2 r6 b6
 by_cases he : s2.e = 0
 ·obtain ⟨l, hrl, hk0⟩ := (unhide HX).1 he
  obtain ⟨A6, N6⟩ := unhide H6
  obtain ⟨F1, F2, F3⟩ := set10_of A6 (.int .i64 (k : Int)) (.string (bA t)) (.int .i64 (vk : Int)) (.int .i64 (vn : Int)) (.string (bA vs)) (.slice none 0 0) (.slice none 0 0) (.bool f) (.slice ak n ck) (.int .i64 (p : Int))
  obtain ⟨w7, hw7⟩ : ∃ w7, ((((((((((w6.setCell ⟨G, 0, none⟩ (.int .i64 (k : Int))).setCell ⟨G, 1, none⟩ (.string (bA t))).setCell ⟨G, 2, none⟩ (.int .i64 (vk : Int))).setCell ⟨G, 3, none⟩ (.int .i64 (vn : Int))).setCell ⟨G, 4, none⟩ (.string (bA vs))).setCell ⟨G, 5, none⟩ (.slice none 0 0)).setCell ⟨G, 6, none⟩ (.slice none 0 0)).setCell ⟨G, 7, none⟩ (.bool f)).setCell ⟨G, 8, none⟩ (.slice ak n ck)).setCell ⟨G, 9, none⟩ (.int .i64 (p : Int))) = w7 := ⟨_, rfl⟩
  rw [hw7] at F1 F2 F3
  have he0 : ((s2.e : Nat) : Int) = 0 := by omega
  rw [he0] at c3
  have HF := hide (And.intro F1 (And.intro F2 (And.intro F3 N6)))
  have HK := hide (And.intro hrl hk0)
  have HW7 := hide hw7
  clear F1 F2 F3 hw7 A6 N6 he he0 hrl hk0 c4
  go_wp2_with fail
  rw [unhide HW7]
  obtain ⟨F1, F2, F3, N6⟩ := unhide HF
  obtain ⟨hrl, hk0⟩ := unhide HK
  obtain ⟨r0, r1, r2, r3, r4, r5, r6, r7, r8, r9⟩ := row_cell10 F1
  have bel : Below w.heap.size w w7 := by
   have h3 := unhide BB3
   rw [hG] at h3 ⊢
   exact (h3.trans (unhide BB6)).trans F3
  have N7 : NdOk w.heap.size w7 ns (ndC k t vk vn vs f n ak ck p) S := (N6.to (w' := w7) (fun b h1 _ _ => F2 b (by omega)) F3.size).low (by have := (unhide BB3).size; exact this)
  have HE : TrR w r (.returned (.tuple #[.agg #[.int .i64 (k : Int), .string (bA t), .int .i64 (vk : Int), .int .i64 (vn : Int), .string (bA vs), .slice none 0 0, .slice none 0 0, .bool f, .slice ak n ck, .int .i64 (p : Int)], .int .i64 0, .int .i64 0])) w7 := by
   refine ⟨k, t, vk, vn, vs, f, n, ak, ck, p, 0, 0, S, rfl, ?_⟩
   subst hrl
   exact ⟨fun _ => ⟨rfl, rfl, unhide HL1, N7⟩, fun e => absurd hk0 e⟩
  refine bodyPost_ret (v := .tuple #[.agg #[.int .i64 (k : Int), .string (bA t), .int .i64 (vk : Int), .int .i64 (vn : Int), .string (bA vs), .slice none 0 0, .slice none 0 0, .bool f, .slice ak n ck, .int .i64 (p : Int)], .int .i64 0, .int .i64 0]) ?_ rfl ⟨((unhide HR) _ _).2 HE, bel⟩
  simp [results, Tryz.results13, go_sem, r0, r1, r2, r3, r4, r5, r6, r7, r8, r9]
 ·have hx2 := (unhide HX).2 he
  obtain ⟨A6, N6⟩ := unhide H6
  obtain ⟨F1, F2, F3⟩ := set10_of A6 (.int .i64 0) (.string ⟨#[]⟩) (.int .i64 0) (.int .i64 0) (.string ⟨#[]⟩) (.slice none 0 0) (.slice none 0 0) (.bool false) (.slice none 0 0) (.int .i64 0)
  obtain ⟨w7, hw7⟩ : ∃ w7, ((((((((((w6.setCell ⟨G, 0, none⟩ (.int .i64 0)).setCell ⟨G, 1, none⟩ (.string ⟨#[]⟩)).setCell ⟨G, 2, none⟩ (.int .i64 0)).setCell ⟨G, 3, none⟩ (.int .i64 0)).setCell ⟨G, 4, none⟩ (.string ⟨#[]⟩)).setCell ⟨G, 5, none⟩ (.slice none 0 0)).setCell ⟨G, 6, none⟩ (.slice none 0 0)).setCell ⟨G, 7, none⟩ (.bool false)).setCell ⟨G, 8, none⟩ (.slice none 0 0)).setCell ⟨G, 9, none⟩ (.int .i64 0)) = w7 := ⟨_, rfl⟩
  rw [hw7] at F1 F2 F3
  obtain ⟨E, hE⟩ : ∃ E, s2.e = E := ⟨_, rfl⟩
  obtain ⟨P, hP⟩ : ∃ P, s2.a = P := ⟨_, rfl⟩
  rw [hE] at c3 he hx2
  rw [hP] at c4 hx2
  have n1 : ¬ (E : Int) = 0 := by omega
  have n2 : ((E : Int) == 0) = false := by simpa using n1
  have n3 : ((E : Int) != 0) = true := by simp; omega
  have HF := hide (And.intro F1 F3)
  have HK := hide (And.intro hx2 he)
  have HW7 := hide hw7
  clear F1 F2 F3 hw7 A6 N6 he hx2 hE hP y0 y1 y2 y3 y4 y5 y6 y7 y8 y9 HX
  go_upto_region 8 with fail
  go_region
  rw [unhide HW7]
  obtain ⟨F1, F3⟩ := unhide HF
  obtain ⟨hx2, he⟩ := unhide HK
  have G1 : w7.drew.heap[G]? = some (.cells #[.int .i64 0, .string ⟨#[]⟩, .int .i64 0, .int .i64 0, .string ⟨#[]⟩, .slice none 0 0, .slice none 0 0, .bool false, .slice none 0 0, .int .i64 0] 29 (0, 0)) := F1
  have bel : Below w.heap.size w w7.drew := by
   have h3 := unhide BB3
   rw [hG] at h3 ⊢
   exact ((h3.trans (unhide BB6)).trans F3).trans ((Below.refl _ _).drew)
  have HE : TrR w r (.returned (.tuple #[.agg #[.int .i64 0, .string ⟨#[]⟩, .int .i64 0, .int .i64 0, .string ⟨#[]⟩, .slice none 0 0, .slice none 0 0, .bool false, .slice none 0 0, .int .i64 0], .int .i64 (P : Int), .int .i64 (E : Int)])) w7.drew := TrR.of_er hx2 he
  have HB7 := hide (And.intro HE bel)
  generalize w7.drew = w8 at G1 HB7 ⊢
  clear F1 F3 HE bel
  go_wp2_with fail
  obtain ⟨r0, r1, r2, r3, r4, r5, r6, r7, r8, r9⟩ := row_cell10 G1
  refine bodyPost_ret (v := .tuple #[.agg #[.int .i64 0, .string ⟨#[]⟩, .int .i64 0, .int .i64 0, .string ⟨#[]⟩, .slice none 0 0, .slice none 0 0, .bool false, .slice none 0 0, .int .i64 0], .int .i64 (P : Int), .int .i64 (E : Int)]) ?_ rfl ⟨((unhide HR) _ _).2 (unhide HB7).1, (unhide HB7).2⟩
  simp [results, Tryz.results13, go_sem, r0, r1, r2, r3, r4, r5, r6, r7, r8, r9]
theorem exprD_any (s : ByteArray) (w : World) {r : Rs (List Nd)} (h : PgOf 0 s.data.toList r) : Calls Tryz.prog 13 #[.string s] w fun e w' => TrR w r e w' ∧ Below w.heap.size w w' := by
 rcases h with ⟨p, er, h1, rfl⟩ | ⟨ts, f, h1, h2⟩
 ·exact (exprD_bad s w h1 (all_er h1)).mono (fun e w' h => ⟨by rw [h.1]; exact TrR.of_er (r := .error (er, p)) rfl (all_er h1), h.2⟩)
 ·exact exprD_ok s w h1 h2
end Go.Proofs.YtgalfhlclmkbfaaGreatDoor
