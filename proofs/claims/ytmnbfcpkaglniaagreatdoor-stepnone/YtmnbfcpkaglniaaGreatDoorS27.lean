/-
  Layer 12 (verify): the walk of walk; conditions: the package's variables.
-/
import Derived.Test.YtmnbfcpkaglniaaGreatDoorS26
set_option linter.unusedVariables false
set_option linter.unusedSimpArgs false
namespace Go.Proofs.YtmnbfcpkaglniaaGreatDoor
open Go.RowKit
set_option linter.unusedVariables false
set_option linter.unusedSimpArgs false
/-- what a body's function must be for its places to be looked at -/
structure Fit (b : Bo) : Prop where
  snd : Sound b
  nam : ∀ i ∈ b.ls, Named b.m i
  trg : ∀ i ∈ b.ls, i.1 = 5 ∨ i.1 = 6 → i.2 ∈ b.ps
  sml : ∀ i ∈ b.ls, 0 ≤ tkI b.m i ∧ tkI b.m i ≤ 140737488351232 ∧ 0 ≤ gvsI i.1 ∧ gvsI i.1 ≤ 1
  s0 : 0 ≤ b.sk
  s1 : b.sk ≤ 40
theorem Fit.at {b : Bo} (h : Fit b) {a : Int} (ha : a ∈ b.ps) : ∃ i, b.ls[b.ps.idxOf a]? = some i ∧ i ∈ b.ls ∧ b.ps[b.ps.idxOf a]? = some a := by
  have h1 := List.idxOf_lt_length_iff.2 ha
  obtain ⟨i, hi⟩ : ∃ i, b.ls[b.ps.idxOf a]? = some i := ⟨_, List.getElem?_eq_getElem (by rw [h.snd.len]; exact h1)⟩
  exact ⟨i, hi, List.mem_of_getElem? hi, idx_at ha⟩
/-- where an instruction leads is a place of the code, or its end -/
theorem Fit.lds {b : Bo} (h : Fit b) (k : Nat) (i : Ins) (hi : i ∈ b.ls) : ∀ n ∈ lds b.ps b.L k i, n = b.L ∨ n ∈ b.ps := by
  have hb : bhd b.ps b.L k = b.L ∨ bhd b.ps b.L k ∈ b.ps := by
    unfold bhd
    split
    · rename_i hk
      obtain ⟨y, hy⟩ : ∃ y, b.ps[k + 1]? = some y := ⟨_, List.getElem?_eq_getElem hk⟩
      rw [getD_of hy]
      exact .inr (List.mem_of_getElem? hy)
    · exact .inl rfl
  intro n hn
  unfold Go.Proofs.YtmnbfcpkaglniaaGreatDoor.lds at hn
  split at hn
  · cases hn
  · split at hn
    · rename_i e
      simp at hn
      rw [hn]
      exact .inr (h.trg i hi (.inl e))
    · split at hn
      · rename_i e
        simp at hn
        rcases hn with rfl | rfl
        · exact hb
        · exact .inr (h.trg i hi (.inr e))
      · simp at hn
        rw [hn]
        exact hb
/-- what passes is no less than 0 and no more than is declared -/
theorem pas_ok {m : Md} {sk : Int} {i : Ins} {h : Int} (hs : 0 ≤ gvsI i.1) (h0 : (pasI m sk i h).2 = 0) : 0 ≤ (pasI m sk i h).1 ∧ (pasI m sk i h).1 ≤ sk := by
  unfold pasI at h0 ⊢
  split at h0
  · cases h0
  · rename_i h1
    rw [if_neg h1]
    split at h0
    · cases h0
    · rename_i h2
      rw [if_neg h2]
      exact ⟨by simp only []; omega, by simp only []; omega⟩
theorem i64_of {a : Int} (h0 : -1000000 ≤ a) (h1 : a ≤ 281474976710656) : i64B a := by unfold i64B; omega
theorem Stt.pop {base g hb : Nat} {x : Bv} {fn : Fn} {w0 w : World} {H : List (Int × Int)} {a : Int} {W : List Int} {b o cap n : Nat} (h : Stt base g hb x fn w0 w (H, a :: W) (.slice (some ⟨b, o, none⟩) n cap)) (hn : n = W.length + 1) (hg : g < base) (hne : g ≠ hb) (v : Value)
    (hv : (cap = 1 ∧ v = .slice (some ⟨b, o, none⟩) 0 0) ∨ (¬ cap = 1 ∧ v = .slice (some ⟨b, o + 1, none⟩) (n - 1) (cap - 1))) : Stt base g hb x fn w0 (w.setCell ⟨g, 10, none⟩ v) (H, W) v := by
  subst hn
  have hbx := set11 h.box v
  refine ⟨⟨h.chg.os, h.chg.tape, h.chg.output, by simpa using h.chg.size, fun q q1 q2 q3 => by rw [heap_setCell_other _ _ _ _ q2]; exact h.chg.oth q q1 q2 q3⟩, hbx, h.map.later (heap_setCell_other _ _ _ _ (Ne.symm hne)), ?_⟩
  rcases h.wai with ⟨e, _⟩ | ⟨b', o', cap', cur, e, h1, h2, h3, h4, h5, h6⟩
  · cases e
  · cases e
    have hbg : b ≠ g := by omega
    have h2' : (w.setCell ⟨g, 10, none⟩ v).heap[b]? = some (.cells cur.toArray 3 (0, 0)) := by rw [heap_setCell_other _ _ _ _ hbg]; exact h2
    simp only [List.length_cons] at h3 h6
    rcases hv with ⟨hc, rfl⟩ | ⟨hc, rfl⟩
    · have hW : W = [] := List.eq_nil_of_length_eq_zero (by omega)
      subst hW
      exact .inr ⟨b, o, 0, cur, rfl, h1, h2', Nat.le_refl _, by omega, by omega, by simp⟩
    · refine .inr ⟨b, o + 1, cap - 1, cur, by simp, h1, h2', by show W.length ≤ cap - 1; omega, by omega, by omega, ?_⟩
      have := congrArg (List.drop 1) h6
      rw [List.drop_take, List.drop_drop, List.map_cons] at this
      simpa using this
set_option maxRecDepth 100000 in
set_option maxHeartbeats 8000000 in
theorem walk_any {B g hb : Nat} {x : Bv} {m : Md} {fn : Fn} {ls : List Ins} {ps : List Int} {w0 w : World} {wv0 wv : Value} (c : Cxt B g hb x m fn ls ps w0 wv0) (h : Stt w0.heap.size g hb x fn w0 w ([], []) wv) (b : Bo) (hb0 : b = ⟨m, fn.2.2.1, ls, ps, (fn.2.2.2.size : Int)⟩) (hf : Fit b) (hL : 0 < fn.2.2.2.size) :
    Calls Tryz.prog 71 #[.pointer (some ⟨g, 0, none⟩)] w fun e w' => ∃ wv' W, e = .returned (.tuple #[.int .i64 (wlk b ps.length 0 ([(0, 0)], [0])).2.1, .int .i64 (wlk b ps.length 0 ([(0, 0)], [0])).2.2]) ∧ Stt w0.heap.size g hb x fn w0 w' ((wlk b ps.length 0 ([(0, 0)], [0])).1, W) wv' := by
  obtain ⟨R, hR⟩ : ∃ R, wlk b ps.length 0 ([(0, 0)], [0]) = R := ⟨_, rfl⟩
  obtain ⟨N, hN⟩ : ∃ N, ps.length = N := ⟨_, rfl⟩
  rw [hR]
  have hpb : N ≤ 4000 := by have := c.see.bp; have := c.see.lp; omega
  have hps : b.ps = ps := by rw [hb0]
  have hbs : b.sk = fn.2.2.1 := by rw [hb0]
  have hbL : b.L = (fn.2.2.2.size : Int) := by rw [hb0]
  have h0m : (0 : Int) ∈ ps := by obtain ⟨r, hr⟩ := hf.snd.fst; rw [hps] at hr; rw [hr]; simp
  have hst := Inv.start (ps := ps) (sk := b.sk) h0m hf.s0
  have C0 := reach_any c h 0 0 (i64_of (by omega) (by omega)) (i64_of (by omega) (by omega)) (by simp) (by simp) (by simp)
  have er : rch (fn.2.2.2.size : Int) 0 0 ([], []) = (([(0, 0)], [0]), 0) := by
    unfold rch
    rw [if_neg (by omega)]
    rfl
  rw [er] at C0
  have HC0 := hide C0
  have HCX := hide (And.intro c hf)
  have HST := hide hst
  have HR := hide (And.intro hR (And.intro hN (And.intro hb0 (And.intro hps (And.intro hbs hbL)))))
  have ALLR : Hid (∀ (u : World) (s : Sv) (wv : Value) (a t : Int), Stt w0.heap.size g hb x fn w0 u s wv → Inv ps b.sk s → s.1.length ≤ 4000 → s.2.length ≤ 4000 → (a = b.L ∨ a ∈ ps) → 0 ≤ t → t ≤ b.sk →
      Calls Tryz.prog 123 #[.pointer (some ⟨g, 0, none⟩), .int .i64 a, .int .i64 t] u fun e w' => ∃ wv', e = .returned (.int .i64 (rch b.L a t s).2) ∧ Stt w0.heap.size g hb x fn w0 w' (rch b.L a t s).1 wv' ∧ Mv g hb u w' wv wv') := hide (fun u s wv a t hs hi h1 h2 ha t0 t1 => by
    have hia : i64B a := by
      rcases ha with e | e
      · rw [e, hbL]
        exact i64_of (by omega) (by have := c.ts; omega)
      · have := hf.snd.inn a (by rw [hps]; exact e)
        rw [hbL] at this
        exact i64_of (by omega) (by have := c.ts; omega)
    have := reach_any c hs a t hia (i64_of (by omega) (by have := hf.s1; omega)) hi.rise (by omega) (by omega)
    rw [hbL]
    exact this)
  clear c h hR C0 hb0 hst hps hbs hbL h0m er hN
  clear hL
  go_enter Tryz.func71, Tryz.ntmps71
  go_wp2_with fail
  go_step3
  go_wp2_with fail
  refine (unhide HC0).mono ?_
  rintro e w1 ⟨wv1, rfl, S1, _⟩
  have HS1 := hide S1
  clear S1 HC0
  go_wp2_with fail
  go_step3
  go_wp2_with fail
  go_loopg [4, 5] N (fun gk v4 v5 wr => ∃ (s : Sv) (wv : Value) (at' : Int), v4 = .int .i64 at' ∧ v5 = .int .i64 0 ∧ Hid (Stt w0.heap.size g hb x fn w0 wr s wv) ∧ Hid (Inv ps b.sk s ∧ mu ps s ≤ gk ∧ wlk b gk at' s = R ∧ gk ≤ N))
  case atStart =>
    exact ⟨_, wv1, 0, rfl, rfl, HS1, hide ⟨(unhide HST).1, by have := (unhide HST).2; rw [(unhide HR).2.1] at this; exact this, by have := (unhide HR).1; rw [(unhide HR).2.1] at this; exact this, Nat.le_refl _⟩⟩
  case round =>
    obtain ⟨⟨H, WW⟩, wv, at', rfl, rfl, HSt, HI⟩ := hrel
    have hbnd : WW.length ≤ gk ∧ gk ≤ N := ⟨by have := (unhide HI).2.1; unfold mu at this; simp only [] at this; omega, (unhide HI).2.2.2⟩
    cases WW with
    | nil =>
      have HE : Hid (R = (H, at', 0)) := hide (by
        rw [← (unhide HI).2.2.1]
        cases gk <;> rfl)
      obtain ⟨ao, wc, hwv, hrd⟩ := (unhide HSt).wai.read
      simp only [List.length_nil] at hwv
      subst hwv
      obtain ⟨e0, e1, e2, e3, e4, e5, e6, e7, e8, e9, e10⟩ := ((unhide HCX).1.at (unhide HSt)).cells
      clear e0 e1 e2 e3 e4 e5 e6 e7 e8 e9 hrd
      go_wp2_with fail
      try rw [Exit.noGoto_ret]
      go_ret2
      exact ⟨_, [], by rw [unhide HE]; rfl, by rw [unhide HE]; exact unhide HSt⟩
    | cons a W =>
      obtain ⟨f, rfl⟩ : ∃ f, gk = f + 1 := ⟨gk - 1, by simp only [List.length_cons] at hbnd; omega⟩
      have hpop := (unhide HI).1.pop
      have hin : a ∈ ps := hpop.2.2.1
      obtain ⟨hh, hlk, hh0, hh1⟩ := hpop.2.2.2
      obtain ⟨n, hn⟩ : ∃ n, n = W.length + 1 := ⟨_, rfl⟩
      have hps : b.ps = ps := (unhide HR).2.2.2.1
      obtain ⟨⟨op, ai⟩, hi, him, hpi⟩ := (unhide HCX).2.at (a := a) (by rw [hps]; exact hin)
      rw [hps] at hi hpi
      have hls : b.ls = ls := by rw [(unhide HR).2.2.1]
      rw [hls] at hi him
      obtain ⟨k, hk⟩ : ∃ k, ps.idxOf a = k := ⟨_, rfl⟩
      rw [hk] at hi hpi
      obtain ⟨p1, p2, hpp⟩ : ∃ p1 p2, pasI m fn.2.2.1 (op, ai) hh = (p1, p2) := ⟨_, _, rfl⟩
      obtain ⟨D, hD⟩ : ∃ D, lds ps (fn.2.2.2.size : Int) k (op, ai) = D := ⟨_, rfl⟩
      have hbp : b.pas (H, W) a = (p1, p2) := by
        unfold Bo.pas
        rw [hps, hk, hls, getD_of hi, hlk, ← hpp, (unhide HR).2.2.1]
        rfl
      have hbd : b.lds a = D := by
        unfold Bo.lds
        rw [hps, hk, hls, getD_of hi, (unhide HR).2.2.2.2.2]
        exact hD
      obtain ⟨RX, hRX⟩ : ∃ RX, rchs b.L p1 D (H, W) = RX := ⟨_, rfl⟩
      have hRR : (if p2 = 0 then (if RX.2 = 0 then wlk b f a RX.1 else (RX.1.1, a, RX.2)) else (H, a, p2)) = R := by
        have := (unhide HI).2.2.1
        unfold wlk at this
        rw [hbp, hbd] at this
        simp only [hRX] at this
        exact this
      have hDm : ∀ y ∈ D, y = b.L ∨ y ∈ ps := by
        have := (unhide HCX).2.lds k (op, ai) (by rw [hls]; exact him)
        rw [hps, (unhide HR).2.2.2.2.2, hD] at this
        rw [(unhide HR).2.2.2.2.2]
        exact this
      have hnm := (unhide HCX).2.nam (op, ai) (by rw [hls]; exact him)
      have hsm := (unhide HCX).2.sml (op, ai) (by rw [hls]; exact him)
      have hbm : b.m = m := by rw [(unhide HR).2.2.1]
      rw [hbm] at hnm hsm
      have hpk : p2 = 0 → 0 ≤ p1 ∧ p1 ≤ b.sk := fun e => by
        have := pas_ok (m := m) (sk := fn.2.2.1) (i := (op, ai)) (h := hh) hsm.2.2.1 (by rw [hpp]; exact e)
        rw [hpp] at this
        rw [(unhide HR).2.2.2.2.1]
        exact this
      have hh2 : hh ≤ 1000 := by have := (unhide HCX).2.s1; omega
      have hmu : mu ps (H, W) ≤ f := by have := hpop.2.1; have := (unhide HI).2.1; omega
      have hInv := hpop.1
      have hkn : k < ps.length := by rw [← hk]; exact List.idxOf_lt_length_iff.2 hin
      have HALL := hide (And.intro hRX (And.intro hRR (And.intro hDm (And.intro hnm (And.intro hsm (And.intro hpk (And.intro hmu (And.intro hInv (And.intro hlk (And.intro hpp (And.intro hD (And.intro hi hkn))))))))))))
      have HPS : Hid (ps.Pairwise (· < ·)) := hide (by have := (unhide HCX).2.snd.rise; rw [hps] at this; exact this)
      have HPP := hide (And.intro hin hk)
      have hfN : f + 1 ≤ N := hbnd.2
      have hWn : W.length ≤ 4000 := by have := hbnd.1; simp only [List.length_cons] at this; omega
      have hia : i64B a := by
        have := (unhide HCX).2.snd.inn a (by rw [hps]; exact hin)
        rw [(unhide HR).2.2.2.2.2] at this
        exact i64_of (by omega) (by have := (unhide HCX).1.ts; omega)
      clear hpop hi him hpi hRX hRR hDm hnm hsm hpk hmu hInv hps hls hbm hbp hbd hpp hD hin hlk hk hkn hbnd
      obtain ⟨qb, qo, qc, cur, hwv, hqb, hq2, hq3, hq4, hq5, hq6⟩ : ∃ qb qo qc cur, wv = .slice (some ⟨qb, qo, none⟩) n qc ∧ w0.heap.size ≤ qb ∧ wr.heap[qb]? = some (.cells cur 3 (0, 0)) ∧ n ≤ qc ∧ qc ≤ maxLen ∧ wr.cell? ⟨qb, qo, none⟩ = some (.int .i64 a) ∧ True := by
        rcases (unhide HSt).wai with ⟨e, e2⟩ | ⟨b', o', cap', cur, e, h1, h2, h3, h4, h5, h6⟩
        · simp at e2
        · simp only [List.length_cons] at e h3 h6
          refine ⟨b', o', cap', cur.toArray, by rw [e, hn], h1, h2, by omega, h5, ?_, trivial⟩
          rw [cell_of_row wr b' o' _ _ (0, 0) h2]
          have e0 := congrArg (fun l => l[0]?) h6
          simp only [List.map_cons, List.getElem?_cons_zero] at e0
          rw [List.getElem?_take, if_pos (by omega), List.getElem?_drop] at e0
          simpa using e0
      subst hwv
      obtain ⟨e0, e1, e2, e3, e4, e5, e6, e7, e8, e9, e10⟩ := ((unhide HCX).1.at (unhide HSt)).cells
      have hqm : qc ≤ 9223372036854775807 := by unfold maxLen at hq4; omega
      have i1 : (0 : Int) < (n : Int) := by omega
      have i2 : (1 : Int) ≤ (n : Int) := by omega
      have i3 : (n : Int) ≤ (qc : Int) := by omega
      have i4 : ¬ n = 0 := by omega
      obtain ⟨o2, n2, c2, hcase⟩ : ∃ o2 n2 c2, (n = 1 ∧ qc = 1 ∧ o2 = qo ∧ n2 = 0 ∧ c2 = 0) ∨ (¬ qc = 1 ∧ o2 = qo + 1 ∧ n2 = n - 1 ∧ c2 = qc - 1) := by
        by_cases hc : qc = 1
        · exact ⟨qo, 0, 0, .inl ⟨by omega, hc, rfl, rfl, rfl⟩⟩
        · exact ⟨qo + 1, n - 1, qc - 1, .inr ⟨hc, rfl, rfl, rfl⟩⟩
      have HCASE := hide hcase
      have HPOP : Hid (Stt w0.heap.size g hb x fn w0 (wr.drew.setCell ⟨g, 10, none⟩ (.slice (some ⟨qb, o2, none⟩) n2 c2)) (H, W) (.slice (some ⟨qb, o2, none⟩) n2 c2)) := hide (by
        have hl := (unhide HSt).later (w' := wr.drew) ((Below.refl _ _).drew) (unhide HCX).1.hl
        exact hl.pop hn (unhide HCX).1.gl (unhide HCX).1.ne _ (by
          rcases hcase with ⟨q0, q1, rfl, rfl, rfl⟩ | ⟨q1, rfl, rfl, rfl⟩
          · exact .inl ⟨q1, rfl⟩
          · exact .inr ⟨q1, rfl⟩))
      have HFZ : Hid (wr.drew.frozen? ⟨g, 10, none⟩ = false) := hide (frozen_of_row wr.drew g 10 _ _ (unhide HSt).box)
      have HS0 : Hid (wr.drew.cell? ⟨g, 10, none⟩ = some (.slice (some ⟨qb, qo, none⟩) n qc) ∧ wr.drew.cell? ⟨qb, qo, none⟩ = some (.int .i64 a)) := hide ⟨e10, hq5⟩
      have i5 : ¬ (n : Int) < 1 := by omega
      have HN1 := hide hn
      clear e0 e1 e2 e3 e4 e5 e6 e7 e8 e9 hq2 hq3 hq4 hq6 hcase hqb hn
      go_upto_region 3 with fail
      clear e10 hq5
      refine till_begin (S := fun w' => w'.cell? ⟨g, 10, none⟩ = some (.slice (some ⟨qb, qo, none⟩) n qc) ∧ w'.cell? ⟨qb, qo, none⟩ = some (.int .i64 a)) 15 (by kernel_rfl) ?_
      refine till_take 0 (v := .pointer (some ⟨g, 0, none⟩)) (some 19) rfl rfl rfl (by kernel_rfl) (by kernel_rfl) (by kernel_rfl) (by kernel_rfl) (fun _ _ _ h => h) (Or.inl ⟨by rfl, fun u hu => by obtain ⟨b0, b1⟩ := hu; go_simp⟩) (unhide HS0) ?_
      try simp only [Act.put, List.setIfInBounds_toArray, List.set_cons_zero, List.set_cons_succ]
      refine till_take 1 (v := .pointer (some ⟨g, 0, none⟩)) (some 20) rfl rfl rfl (by kernel_rfl) (by kernel_rfl) (by kernel_rfl) (by kernel_rfl) (fun _ _ _ h => h) (Or.inl ⟨by rfl, fun u hu => by obtain ⟨b0, b1⟩ := hu; go_simp⟩) (unhide HS0) ?_
      try simp only [Act.put, List.setIfInBounds_toArray, List.set_cons_zero, List.set_cons_succ]
      refine till_take 2 (v := .pointer (some ⟨g, 0, none⟩)) (some 21) rfl rfl rfl (by kernel_rfl) (by kernel_rfl) (by kernel_rfl) (by kernel_rfl) (fun _ _ _ h => h) (Or.inl ⟨by rfl, fun u hu => by obtain ⟨b0, b1⟩ := hu; go_simp⟩) (unhide HS0) ?_
      try simp only [Act.put, List.setIfInBounds_toArray, List.set_cons_zero, List.set_cons_succ]
      refine till_take 3 (v := .pointer (some ⟨g, 10, none⟩)) (some 22) rfl rfl rfl (by kernel_rfl) (by kernel_rfl) (by kernel_rfl) (by kernel_rfl) (fun _ _ _ h => h) (Or.inl ⟨by rfl, fun u hu => by obtain ⟨b0, b1⟩ := hu; go_simp⟩) (unhide HS0) ?_
      try simp only [Act.put, List.setIfInBounds_toArray, List.set_cons_zero, List.set_cons_succ]
      refine till_take 4 (v := .slice (some ⟨qb, qo, none⟩) n qc) (some 23) rfl rfl rfl (by kernel_rfl) (by kernel_rfl) (by kernel_rfl) (by kernel_rfl) (fun _ _ _ h => h) (Or.inl ⟨by rfl, fun u hu => by obtain ⟨b0, b1⟩ := hu; go_simp⟩) (unhide HS0) ?_
      try simp only [Act.put, List.setIfInBounds_toArray, List.set_cons_zero, List.set_cons_succ]
      refine till_take 5 (v := .pointer (some ⟨qb, qo, none⟩)) (some 24) rfl rfl rfl (by kernel_rfl) (by kernel_rfl) (by kernel_rfl) (by kernel_rfl) (fun _ _ _ h => h) (Or.inl ⟨by rfl, fun u hu => by obtain ⟨b0, b1⟩ := hu; go_simp⟩) (unhide HS0) ?_
      try simp only [Act.put, List.setIfInBounds_toArray, List.set_cons_zero, List.set_cons_succ]
      refine till_take 6 (v := .int .i64 a) (some 25) rfl rfl rfl (by kernel_rfl) (by kernel_rfl) (by kernel_rfl) (by kernel_rfl) (fun _ _ _ h => h) (Or.inl ⟨by rfl, fun u hu => by obtain ⟨b0, b1⟩ := hu; go_simp⟩) (unhide HS0) ?_
      try simp only [Act.put, List.setIfInBounds_toArray, List.set_cons_zero, List.set_cons_succ]
      refine till_take 7 (v := .pointer (some ⟨g, 0, none⟩)) (some 26) rfl rfl rfl (by kernel_rfl) (by kernel_rfl) (by kernel_rfl) (by kernel_rfl) (fun _ _ _ h => h) (Or.inl ⟨by rfl, fun u hu => by obtain ⟨b0, b1⟩ := hu; go_simp⟩) (unhide HS0) ?_
      try simp only [Act.put, List.setIfInBounds_toArray, List.set_cons_zero, List.set_cons_succ]
      refine till_take 8 (v := .pointer (some ⟨g, 0, none⟩)) (some 27) rfl rfl rfl (by kernel_rfl) (by kernel_rfl) (by kernel_rfl) (by kernel_rfl) (fun _ _ _ h => h) (Or.inl ⟨by rfl, fun u hu => by obtain ⟨b0, b1⟩ := hu; go_simp⟩) (unhide HS0) ?_
      try simp only [Act.put, List.setIfInBounds_toArray, List.set_cons_zero, List.set_cons_succ]
      refine till_take 9 (v := .pointer (some ⟨g, 10, none⟩)) (some 28) rfl rfl rfl (by kernel_rfl) (by kernel_rfl) (by kernel_rfl) (by kernel_rfl) (fun _ _ _ h => h) (Or.inl ⟨by rfl, fun u hu => by obtain ⟨b0, b1⟩ := hu; go_simp⟩) (unhide HS0) ?_
      try simp only [Act.put, List.setIfInBounds_toArray, List.set_cons_zero, List.set_cons_succ]
      refine till_take 10 (v := .slice (some ⟨qb, qo, none⟩) n qc) (some 29) rfl rfl rfl (by kernel_rfl) (by kernel_rfl) (by kernel_rfl) (by kernel_rfl) (fun _ _ _ h => h) (Or.inl ⟨by rfl, fun u hu => by obtain ⟨b0, b1⟩ := hu; go_simp⟩) (unhide HS0) ?_
      try simp only [Act.put, List.setIfInBounds_toArray, List.set_cons_zero, List.set_cons_succ]
      refine till_take 11 (v := .slice (some ⟨qb, o2, none⟩) n2 c2) (some 30) rfl rfl rfl (by kernel_rfl) (by kernel_rfl) (by kernel_rfl) (by kernel_rfl) (fun _ _ _ h => h) (Or.inl ⟨by rfl, fun u hu => by
        obtain ⟨b0, b1⟩ := hu
        rcases unhide HCASE with ⟨q0, q1, q2, q3, q4⟩ | ⟨q1, q2, q3, q4⟩
        · subst q0 q1 q2 q3 q4
          go_simp
        · subst q2 q3 q4
          go_simp⟩) (unhide HS0) ?_
      try simp only [Act.put, List.setIfInBounds_toArray, List.set_cons_zero, List.set_cons_succ]
      refine till_one 12 (by kernel_rfl) rfl (fun K hK => ?_)
      obtain ⟨b0, b1⟩ := unhide HS0
      go_simp
      refine hK.out _ _ (Or.inr (unhide HS0)) ?_
      clear hK K b0 b1
      try simp only [Act.put, List.setIfInBounds_toArray, List.set_cons_zero, List.set_cons_succ]
      refine till_one 13 (by kernel_rfl) rfl (fun K hK => ?_)
      obtain ⟨b0, b1⟩ := unhide HS0
      go_simp
      refine hK.out _ _ (Or.inr (unhide HS0)) ?_
      clear hK K b0 b1
      try simp only [Act.put, List.setIfInBounds_toArray, List.set_cons_zero, List.set_cons_succ]
      refine till_one 14 (by kernel_rfl) rfl (fun K hK => ?_)
      obtain ⟨b0, b1⟩ := unhide HS0
      go_simp
      refine hK.out _ _ (Or.inr (unhide HS0)) ?_
      clear hK K b0 b1
      try simp only [Act.put, List.setIfInBounds_toArray, List.set_cons_zero, List.set_cons_succ]
      refine till_one 15 (by kernel_rfl) rfl (fun K hK => ?_)
      obtain ⟨b0, b1⟩ := unhide HS0
      have f1 := unhide HFZ
      go_simp
      refine hK.out _ _ (Or.inl (by first | rfl | trivial)) ?_
      clear hK K b0 b1 f1
      try simp only [Act.put, List.setIfInBounds_toArray, List.set_cons_zero, List.set_cons_succ]
      refine till_done (by kernel_rfl) ?_ _
      obtain ⟨w2, hw2⟩ : ∃ w2, wr.drew.setCell ⟨g, 10, none⟩ (.slice (some ⟨qb, o2, none⟩) n2 c2) = w2 := ⟨_, rfl⟩
      have hd2 : (wr.setCell ⟨g, 10, none⟩ (.slice (some ⟨qb, o2, none⟩) n2 c2)).drew = w2 := hw2
      have S2 := unhide HPOP
      rw [hw2] at S2
      first | rw [hw2] | rw [hd2]
      have HS2 := hide S2
      clear hw2 hd2 S2 HS0 HFZ HPOP HCASE
      have SB2 := hide ((unhide HCX).1.at (unhide HS2))
      obtain ⟨e0, e1, e2, e3, e4, e5, e6, e7, e8, e9, e10⟩ := (unhide SB2).cells
      have CSr := hide (searchI ps x.ap x.cp x.np w2 (unhide SB2).lp (unhide SB2).pls (by have := (unhide SB2).bp; omega) (unhide HPS) a)
      clear e0 e1 e2 e3 e4 e5 e6 e10 i1 i2 i3 i4 i5 hqm
      go_wp2_with fail
      refine (unhide CSr).mono ?_
      rintro e u2 ⟨L, rfl, hLow, hu2⟩
      have hLk : L = k := ((low_found (unhide HPS) hLow).2 (unhide HPP).1).trans (unhide HPP).2
      subst hLk hu2
      clear hLow CSr
      obtain ⟨ad, had, r0, r1⟩ := (unhide SB2).ins L _ (unhide HALL).2.2.2.2.2.2.2.2.2.2.2.1
      simp only [] at r0 r1
      rw [had] at e7
      have hLnl : (L : Int) < (x.nl : Int) := by have := (unhide HALL).2.2.2.2.2.2.2.2.2.2.2.2; have := (unhide SB2).lp; have := (unhide SB2).ll; have := (unhide HCX).2.snd.len; have q1 := (unhide HR).2.2.1; rw [q1] at this; simp only [] at this; omega
      have rl : (Instr.lookup 170 (.map (some hb)) (.int .i64 a) false).run Tryz.prog u2 = .ok (.int .i64 hh) u2 := by
        have := (unhide HS2).map.get hia 170 Tryz.underlying170
        simp only [] at this
        rw [(unhide HALL).2.2.2.2.2.2.2.2.1] at this
        exact this
      have CP : Hid (∀ (u : World), Below u2.heap.size u2 u → Calls Tryz.prog 125 #[.pointer (some ⟨g, 0, none⟩), .agg #[.int .i64 op, .int .i64 ai], .int .i64 hh] u fun e w' => e = .returned (.tuple #[.int .i64 p1, .int .i64 p2]) ∧ Below u.heap.size u w') := hide (fun u hu => by
        have := pass_any ((unhide SB2).later hu) op ai hh (unhide HALL).2.2.2.1 (unhide HALL).2.2.2.2.1 hh0 hh2
        rw [(unhide HALL).2.2.2.2.2.2.2.2.2.1] at this
        exact this)
      have SK : Hid (∀ u, Below u2.heap.size u2 u → u.cell? ⟨g, 7, none⟩ = some (.slice (some ad) x.nl x.cl) ∧ u.cell? (ad.add (L * 2)) = some (.int .i64 op) ∧ u.cell? ⟨(ad.add (L * 2)).block, (ad.add (L * 2)).off + 1, none⟩ = some (.int .i64 ai) ∧ u.cell? ⟨g, 9, none⟩ = some (.map (some hb)) ∧ (Instr.lookup 170 (.map (some hb)) (.int .i64 a) false).run Tryz.prog u = .ok (.int .i64 hh) u) := hide (fun u hu => ⟨cell_ne e7 (hu.block _ (cell_lt e7)), cell_ne r0 (hu.block _ (cell_lt r0)), cell_ne r1 (hu.block _ (cell_lt r1)), cell_ne e9 (hu.block _ (cell_lt e9)), by
        have := ((unhide HS2).later hu (unhide HCX).1.hl).map.get hia 170 Tryz.underlying170
        simp only [] at this
        rw [(unhide HALL).2.2.2.2.2.2.2.2.1] at this
        exact this⟩)
      have rl' := (unhide SK u2.drew ((Below.refl _ _).drew)).2.2.2.2
      clear e8
      go_upto_region 6 with fail
      go_region_held3 (fun u => u.cell? ⟨g, 7, none⟩ = some (.slice (some ad) x.nl x.cl) ∧ u.cell? (ad.add (L * 2)) = some (.int .i64 op) ∧ u.cell? ⟨(ad.add (L * 2)).block, (ad.add (L * 2)).off + 1, none⟩ = some (.int .i64 ai) ∧ u.cell? ⟨g, 9, none⟩ = some (.map (some hb)) ∧ (Instr.lookup 170 (.map (some hb)) (.int .i64 a) false).run Tryz.prog u = .ok (.int .i64 hh) u)
        (first | go_keep | (have hb6 := below_drew_of' b5; exact unhide SK _ hb6) | exact unhide SK _ ((Below.refl _ _).drew))
        (first | (go_at_call 125; refine (unhide CP _ ((Below.refl _ _).drew)).mono ?_; rintro e w5 ⟨rfl, b5⟩))
      have HS5 := hide ((unhide HS2).later (below_drew_of' b5) (unhide HCX).1.hl)
      clear b5 CP SK e7 e9 r0 r1 rl rl' had hLnl HS2 SB2
      by_cases hp2 : p2 = 0
      · subst hp2
        have hp1 := (unhide HALL).2.2.2.2.2.1 rfl
        have CLd := hide (leads_any ((unhide HCX).1.at (unhide HS5)) L op ai (unhide HALL).2.2.2.2.2.2.2.2.2.2.2.1 (unhide HALL).2.2.2.2.2.2.2.2.2.2.2.2 (unhide HCX).1.ts)
        rw [(unhide HALL).2.2.2.2.2.2.2.2.2.2.1] at CLd
        go_wp2_with fail
        refine (unhide CLd).mono ?_
        rintro e w6 ⟨ao, ⟨cap, rfl⟩, hrd, b6, hnew⟩
        have HS6 := hide ((unhide HS5).later b6 (unhide HCX).1.hl)
        have HRD : Hid (RdI w6 ao D ∧ ∀ ad, ao = some ad → ad.block < w6.heap.size ∧ ad.block ≠ g ∧ ad.block ≠ hb ∧ some ad.block ≠ (Value.slice (some ⟨qb, o2, none⟩) n2 c2).ownBlock) := hide ⟨hrd, fun ad had => by
          obtain ⟨h1, h2⟩ := hnew ad had
          have h3 := (unhide HS5).chg.size
          have h4 := (unhide HCX).1.gl
          have h5 := (unhide HCX).1.hl
          refine ⟨h2, by omega, by omega, fun e => ?_⟩
          have := ((unhide HS5).wai.lt e.symm).2
          omega⟩
        obtain ⟨dn, hdn⟩ : ∃ dn, D.length = dn := ⟨_, rfl⟩
        rw [hdn]
        have hd2 : dn ≤ 2 := by
          rw [← hdn, ← (unhide HALL).2.2.2.2.2.2.2.2.2.2.1]
          unfold lds
          split
          · simp
          · split
            · simp
            · split <;> simp
        have HDN := hide hdn
        clear hrd b6 CLd HS5 hdn hnew
        go_wp2_with fail
        go_loopw [5, 66] (fun v5 v66 wr2 => ∃ (i : Nat) (s : Sv) (wv : Value), v5 = .int .i64 0 ∧ v66 = .int .i64 (i : Int) ∧ Hid (i ≤ dn) ∧ Hid (Stt w0.heap.size g hb x fn w0 wr2 s wv ∧ RdI wr2 ao D ∧ ∀ ad, ao = some ad → ad.block < wr2.heap.size ∧ ad.block ≠ g ∧ ad.block ≠ hb ∧ some ad.block ≠ wv.ownBlock) ∧ Hid (Inv ps b.sk s ∧ mu ps s ≤ f ∧ rchs b.L p1 (D.drop i) s = RX)) (fun _ v66 _ => dn - (intOf v66).toNat)
        case atStart =>
          exact ⟨0, (H, W), _, rfl, rfl, hide (by omega), hide ⟨unhide HS6, unhide HRD⟩, hide ⟨(unhide HALL).2.2.2.2.2.2.2.1, (unhide HALL).2.2.2.2.2.2.1, by rw [List.drop_zero]; exact (unhide HALL).1⟩⟩
        case round =>
          clear HS6 HRD
          obtain ⟨i, s, wv3, rfl, rfl, Hi, HS7, HI7⟩ := hrel
          by_cases hlt : i < dn
          · have j1 : (i : Int) < (dn : Int) := by omega
            obtain ⟨y, hy⟩ : ∃ y, D[i]? = some y := ⟨_, List.getElem?_eq_getElem (by have := unhide HDN; omega)⟩
            obtain ⟨ada, rfl, r0⟩ := (unhide HS7).2.1 i y hy
            have hdr : D.drop i = y :: D.drop (i + 1) := by
              have hil := (List.getElem?_eq_some_iff.1 hy).1
              rw [List.drop_eq_getElem_cons hil]
              congr 1
              exact (List.getElem?_eq_some_iff.1 hy).2
            have hym := (unhide HALL).2.2.1 y (List.mem_of_getElem? hy)
            have hln1 : s.1.length ≤ 4000 := by have := (unhide HI7).1.cnt; have := (unhide HR).2.1; omega
            have hln2 : s.2.length ≤ 4000 := by have := (unhide HI7).2.1; unfold mu at this; omega
            have CR := hide (unhide ALLR wr s wv3 y p1 (unhide HS7).1 (unhide HI7).1 hln1 hln2 hym hp1.1 hp1.2)
            have hnx := (unhide HI7).1.rch (L := b.L) (a := y) (h := p1) hym hp1.1 hp1.2
            have hrr := (unhide HI7).2.2
            rw [hdr] at hrr
            unfold rchs at hrr
            obtain ⟨⟨s8, e8⟩, hr8⟩ : ∃ r8, rch b.L y p1 s = r8 := ⟨_, rfl⟩
            rw [hr8] at CR hnx hrr
            simp only [] at CR hnx hrr
            have HN8 := hide (And.intro hnx hrr)
            clear hdr hym hnx hrr hr8 hy hln1 hln2
            go_wp2_with fail
            refine (unhide CR).mono ?_
            rintro e w8 ⟨wv8, rfl, S8, M8⟩
            have HS8 := hide (And.intro S8 M8)
            clear S8 M8 CR
            by_cases he8 : e8 = 0
            · subst he8
              go_wp2_with fail
              go_roundw
              case rel =>
                refine ⟨i + 1, s8, wv8, rfl, by go_num, hide (by omega), hide ⟨(unhide HS8).1, ?_, ?_⟩, hide ⟨(unhide HN8).1.1, Nat.le_trans (unhide HN8).1.2 (unhide HI7).2.1, by have := (unhide HN8).2; rw [if_pos (by trivial)] at this; exact this⟩⟩
                · intro j z hj
                  obtain ⟨a3, h3, h4⟩ := (unhide HS7).2.1 j z hj
                  cases h3
                  have hq := (unhide HS7).2.2 _ rfl
                  have e1 := add_block ada j
                  exact ⟨ada, rfl, cell_ne h4 ((unhide HS8).2.oth _ (by rw [e1]; exact hq.1) (by rw [e1]; exact hq.2.1) (by rw [e1]; exact hq.2.2.1) (by rw [e1]; exact hq.2.2.2))⟩
                · intro a3 h3
                  cases h3
                  have hq := (unhide HS7).2.2 _ rfl
                  refine ⟨Nat.lt_of_lt_of_le hq.1 (unhide HS8).2.size, hq.2.1, hq.2.2.1, fun e => ?_⟩
                  rcases (unhide HS8).2.row _ e.symm with e2 | e2
                  · exact hq.2.2.2 e2.symm
                  · omega
              case measure => simp [intOf]; omega
            · have qe8 : (e8 == 0) = false := by simpa using he8
              have HE : Hid (R = (s8.1, a, e8)) := hide (by
                have h1 := (unhide HN8).2
                rw [if_neg he8] at h1
                have h2 := (unhide HALL).2.1
                rw [if_pos (by trivial), ← h1, if_neg he8] at h2
                exact h2.symm)
              go_wp2_with fail
              try rw [Exit.noGoto_ret]
              go_ret2
              exact ⟨wv8, s8.2, by rw [unhide HE]; rfl, by rw [unhide HE]; exact (unhide HS8).1⟩
          · have j1 : ¬ (i : Int) < (dn : Int) := by omega
            have hend : RX = (s, 0) := by
              have := (unhide HI7).2.2
              rw [List.drop_of_length_le (by have := unhide HDN; omega)] at this
              exact this.symm
            have HW2 : Hid (wlk b f a s = R) := hide (by
              have h2 := (unhide HALL).2.1
              rw [if_pos (by trivial), hend, if_pos rfl] at h2
              exact h2)
            clear hend
            go_wp2_with fail
            go_roundg f
            case measure => omega
            case rel => exact ⟨s, wv3, a, rfl, rfl, hide (unhide HS7).1, hide ⟨(unhide HI7).1, (unhide HI7).2.1, unhide HW2, by omega⟩⟩
      · have qp2 : (p2 == 0) = false := by simpa using hp2
        have HE : Hid (R = (H, a, p2)) := hide (by
          have h2 := (unhide HALL).2.1
          rw [if_neg hp2] at h2
          exact h2.symm)
        go_wp2_with fail
        try rw [Exit.noGoto_ret]
        go_ret2
        exact ⟨_, W, by rw [unhide HE]; rfl, by rw [unhide HE]; exact unhide HS5⟩
end Go.Proofs.YtmnbfcpkaglniaaGreatDoor
