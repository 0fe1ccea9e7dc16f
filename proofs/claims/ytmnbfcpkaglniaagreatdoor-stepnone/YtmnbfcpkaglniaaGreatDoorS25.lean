/-
  Layer 12 (verify): the walks of exchange, pass, leads; conditions: the package's variables.
  Layer 12 (verify): the walks of leads and reach; conditions: the package's variables.
-/
import Derived.Test.YtmnbfcpkaglniaaGreatDoorS24
import Derived.Deep.LoopGhost
set_option linter.unusedVariables false
set_option linter.unusedSimpArgs false
namespace Go.Proofs.YtmnbfcpkaglniaaGreatDoor
open Go.RowKit
set_option linter.unusedVariables false
set_option linter.unusedSimpArgs false
/-- an instruction whose operand names something -/
structure Named (m : Md) (i : Ins) : Prop where
  flt : faultI i.1 i.2 = 0
  fn : i.1 = 8 → i.2 < (m.fs.length : Int)
  cn : i.1 = 24 → i.2 < (m.cs.length : Int)
theorem Named.of {m : Md} {lo : Int} {ps : List Int} {i : Ins} (h1 : faultI i.1 i.2 = 0) (h2 : opE m lo ps i = 0) : Named m i where
  flt := h1
  fn := fun e => by
    unfold opE at h2
    rw [e, sorts_are.2.2.1, if_neg (by omega), if_neg (by omega), if_pos rfl] at h2
    split at h2
    · assumption
    · omega
  cn := fun e => by
    unfold opE at h2
    rw [e, sorts_are.2.2.2.1, if_pos rfl] at h2
    split at h2
    · rename_i h
      exact h.1
    · omega
set_option maxRecDepth 100000 in
set_option maxHeartbeats 4000000 in
theorem exchange_any {w : World} {B g : Nat} {x : Bv} {m : Md} {fn : Fn} {ls : List Ins} {ps : List Int} {hv wv : Value} (h : SeeB w B g x m fn ls ps hv wv) (op a : Int) (hn : Named m (op, a)) :
    Calls Tryz.prog 174 #[.pointer (some ⟨g, 0, none⟩), .agg #[.int .i64 op, .int .i64 a]] w fun e w' => e = .returned (.tuple #[.int .i64 (tkI m (op, a)), .int .i64 (gvsI op)]) ∧ Below w.heap.size w w' := by
  obtain ⟨w1, hw1⟩ : ∃ w1, w.alloc (.cells #[.int .i64 op, .int .i64 a] 36) = w1 := ⟨_, rfl⟩
  have B1 : Below w.heap.size w w1 := by rw [← hw1]; exact (Below.refl _ _).alloc (Nat.le_refl _) _
  have A1 : w1.heap[w.heap.size]? = some (.cells #[.int .i64 op, .int .i64 a] 36 (0, 0)) := by rw [← hw1]; exact heap_alloc_new _ _
  have Z1 : w1.heap.size = w.heap.size + 1 := by rw [← hw1]; simp
  obtain ⟨G, hG⟩ : ∃ G, w.heap.size = G := ⟨_, rfl⟩
  have C1 := hide (info_any op w1 (h.tab.below B1).tab)
  have hfo := fault_ok hn.flt
  simp only [] at hfo
  have hmo := (opd_at (srt op) (srt_is op hfo.1).2).2.2.2.1
  have a0 : 0 ≤ a := hfo.2.1
  have a1 : a ≤ 3999 := by have := hfo.2.2; omega
  obtain ⟨i, rfl⟩ : ∃ i : Nat, a = (i : Int) := ⟨a.toNat, by omega⟩
  obtain ⟨TK, hTK⟩ : ∃ TK, tkI m (op, (i : Int)) = TK := ⟨_, rfl⟩
  obtain ⟨GV, hGV⟩ : ∃ GV, gvsI op = GV := ⟨_, rfl⟩
  have hT' := hTK
  unfold tkI at hT'
  simp only [Int.toNat_natCast] at hT'
  rw [hTK, hGV]
  unfold tksI at hT'
  unfold gvsI at hGV
  generalize infoA op = y0 at *
  obtain ⟨⟨xn, xa, xb, xc, xd, xf⟩, xe⟩ := y0
  simp only [infV] at C1 hGV hT'
  subst hGV
  have h8 := hn.fn
  have h24 := hn.cn
  simp only [] at h8 h24
  have c0 : w1.cell? ⟨G, 0, none⟩ = some (.int .i64 op) := by rw [← hG, cell_of_row w1 _ 0 _ _ (0, 0) A1]; rfl
  have H1 := hide (And.intro B1 (And.intro A1 Z1))
  have HS := hide h
  have HT := hide hT'
  have HN := hide (And.intro h8 h24)
  obtain ⟨fp, fl, fk, ft⟩ := fn
  obtain ⟨b1, n1, d1, b2, n2, d2, b3, n3, d3, bl, nl, dl, bp, np, dp⟩ := x
  clear h hn B1 A1 Z1 hfo hmo hTK hT' h8 h24
  have LAST : ∀ w2, Hid (Below w1.heap.size w1 w2) → ∃ w3, w3 = w2.alloc (.cells #[.string xn, .int .i64 xa, .int .i64 xb, .int .i64 xc, .int .i64 xd, .int .i64 xf] 98) ∧ Hid (Below w.heap.size w w3) ∧ w3.cell? ⟨w2.heap.size, 2, none⟩ = some (.int .i64 xb) ∧ w3.cell? ⟨w2.heap.size, 3, none⟩ = some (.int .i64 xc) ∧ w3.cell? ⟨G, 0, none⟩ = some (.int .i64 op) ∧ w3.cell? ⟨G, 1, none⟩ = some (.int .i64 (i : Int)) ∧ w2.heap.size + 1 = w3.heap.size := fun w2 H2 => by
    refine ⟨_, rfl, ?_, ?_, ?_, ?_, ?_, by simp⟩
    · exact hide ((unhide H1).1.trans (((unhide H2).mono (unhide H1).1.size).alloc (Nat.le_trans (unhide H1).1.size (unhide H2).size) _))
    · rw [cell_of_row _ _ 2 _ _ (0, 0) (heap_alloc_new w2 _)]; rfl
    · rw [cell_of_row _ _ 3 _ _ (0, 0) (heap_alloc_new w2 _)]; rfl
    · have hb := ((unhide H2).alloc (unhide H2).size (.cells #[.string xn, .int .i64 xa, .int .i64 xb, .int .i64 xc, .int .i64 xd, .int .i64 xf] 98)).block G (by have := (unhide H1).2.2; omega)
      rw [cell_of_row _ _ 0 _ _ (0, 0) (hb.trans (by rw [← hG]; exact (unhide H1).2.1))]; rfl
    · have hb := ((unhide H2).alloc (unhide H2).size (.cells #[.string xn, .int .i64 xa, .int .i64 xb, .int .i64 xc, .int .i64 xd, .int .i64 xf] 98)).block G (by have := (unhide H1).2.2; omega)
      rw [cell_of_row _ _ 1 _ _ (0, 0) (hb.trans (by rw [← hG]; exact (unhide H1).2.1))]; rfl
  have HLA := hide LAST
  clear LAST
  go_enter Tryz.func174, Tryz.ntmps174
  go_wp2_with fail
  refine (unhide C1).mono ?_
  rintro e w2 ⟨rfl, B2⟩
  have H2 := hide B2
  clear B2 C1 c0
  go_upto_region 2 with fail
  obtain ⟨w3, hw3, H3, k2, k3, c0, c1, z3⟩ := unhide HLA w2 H2
  rw [← hw3]
  clear hw3 HLA
  have HS3 := hide ((unhide HS).later (unhide H3))
  obtain ⟨e0, e1, e2, e3, e4, e5, e6, e7, e8, e9, e10⟩ := (unhide HS3).cells
  simp only [] at e0 e1 e2 e3 e4 e5 e6 e7 e8 e9 e10
  have hl1 := (unhide HS3).l1
  have hl2 := (unhide HS3).l2
  simp only [] at hl1 hl2
  have hNb : n1 ≤ 140737488351232 ∧ n2 ≤ 140737488351232 := by have := (unhide HS3).mod.len; simp only [hl1, hl2] at this; omega
  have HL := hide (And.intro hl1 hl2)
  clear hl1 hl2 e2 e3 e4 e5 e6 e7 e8 e9 e10
  by_cases o8 : op = 8
  · subst o8
    have hlt : (i : Int) < (n2 : Int) := by have := (unhide HN).1 rfl; rw [(unhide HL).2] at this; exact this
    obtain ⟨⟨p, l, s, tt⟩, hy⟩ : ∃ y, m.fs[i]? = some y := ⟨_, List.getElem?_eq_getElem (by have := (unhide HL).2; omega)⟩
    obtain ⟨ad, hax, hab, hts, f0, f1, f2, f3⟩ := (unhide HS3).mod.func i p l s tt hy
    simp only [] at hax
    subst hax
    have HE : Hid (p = TK) := hide (by
      have hh := unhide HT
      rw [if_pos rfl, getD_of hy] at hh
      exact hh)
    clear HT hy
    go_upto_region 4 with fail
    go_quiet (fail)
    go_wp2_with fail
    go_ret2
    exact ⟨by rw [← unhide HE]; rfl, by first | exact below_drewN (unhide H3) _ | (rw [← hG]; exact below_drewN (unhide H3) _)⟩
  · have q8 : (op == 8) = false := by simpa using o8
    by_cases o23 : op = 23
    · subst o23
      have HE : Hid ((i : Int) = TK) := hide (by
        have hh := unhide HT
        rw [if_neg o8, if_pos rfl] at hh
        exact hh)
      clear HT
      go_upto_region 6 with fail
      go_quiet (fail)
      go_wp2_with fail
      go_ret2
      exact ⟨by rw [← unhide HE]; rfl, by first | exact below_drewN (unhide H3) _ | (rw [← hG]; exact below_drewN (unhide H3) _)⟩
    · have q23 : (op == 23) = false := by simpa using o23
      by_cases o24 : op = 24
      · subst o24
        have hlt : (i : Int) < (n1 : Int) := by have := (unhide HN).2 rfl; rw [(unhide HL).1] at this; exact this
        obtain ⟨y, hy⟩ : ∃ y, m.cs[i]? = some y := ⟨_, List.getElem?_eq_getElem (by have := (unhide HL).1; omega)⟩
        obtain ⟨ad, y0, y1, y2, al', ak', ll', m', cl', ck', hax, hab, hcc, hvv⟩ := (unhide HS3).mod.const i y hy
        simp only [] at hax
        subst hax
        have f3 : w3.cell? ⟨(ad.add (i * 5)).block, (ad.add (i * 5)).off + 3, none⟩ = some (.slice al' ll' cl') := hcc 3 _ rfl
        have hll : y.l.length = ll' := by
          obtain ⟨kd, n, s, l, ks, al, ak, cl, ck, V, rfl, hx, hf, el⟩ := hvv.inv
          have h1 := congrArg Array.toList (Value.agg.inj hx)
          simp at h1
          exact h1.2.2.2.1.2.1.symm
        have HE : Hid ((ll' : Int) = TK) := hide (by
          have hh := unhide HT
          rw [if_neg o8, if_neg o23, if_pos rfl, getD_of hy, hll] at hh
          exact hh)
        clear HT hy hcc hvv hll
        go_upto_region 8 with fail
        go_quiet (fail)
        go_wp2_with fail
        go_ret2
        exact ⟨by rw [← unhide HE]; rfl, by first | exact below_drewN (unhide H3) _ | (rw [← hG]; exact below_drewN (unhide H3) _)⟩
      · have q24 : (op == 24) = false := by simpa using o24
        have HE : Hid (xb = TK) := hide (by
          have hh := unhide HT
          rw [if_neg o8, if_neg o23, if_neg o24] at hh
          exact hh)
        clear HT
        go_upto_region 9 with fail
        go_quiet (fail)
        go_wp2_with fail
        go_ret2
        exact ⟨by rw [← unhide HE]; rfl, by first | exact below_drewN (unhide H3) _ | (rw [← hG]; exact below_drewN (unhide H3) _)⟩
/-- what an instruction takes is no less than 0 -/
theorem tk_small {m : Md} {i : Ins} (h : Named m i) (hm : ∀ f ∈ m.fs, 0 ≤ f.1) (hc : ∀ v ∈ m.cs, v.l.length ≤ 140737488351232) (hp : ∀ f ∈ m.fs, f.1 ≤ 140737488351232) : 0 ≤ tkI m i ∧ tkI m i ≤ 140737488351232 ∧ 0 ≤ gvsI i.1 ∧ gvsI i.1 ≤ 1 := by
  have hfo := fault_ok h.flt
  have ts := tks_small i.1 hfo.1
  have hmo := (opd_at (srt i.1) (srt_is i.1 hfo.1).2).2.2.2.1
  refine ⟨?_, ?_, ts.2.2.1, ts.2.2.2⟩
  · unfold tkI
    split
    · rename_i e
      have hlt := h.fn e
      obtain ⟨y, hy⟩ : ∃ y, m.fs[i.2.toNat]? = some y := ⟨_, List.getElem?_eq_getElem (by omega)⟩
      rw [getD_of hy]
      exact hm y (List.mem_of_getElem? hy)
    · split
      · exact hfo.2.1
      · split
        · omega
        · exact ts.1
  · unfold tkI
    split
    · rename_i e
      have hlt := h.fn e
      obtain ⟨y, hy⟩ : ∃ y, m.fs[i.2.toNat]? = some y := ⟨_, List.getElem?_eq_getElem (by omega)⟩
      rw [getD_of hy]
      exact hp y (List.mem_of_getElem? hy)
    · split
      · have := hfo.2.2
        omega
      · split
        · rename_i e
          have hlt := h.cn e
          obtain ⟨y, hy⟩ : ∃ y, m.cs[i.2.toNat]? = some y := ⟨_, List.getElem?_eq_getElem (by omega)⟩
          rw [getD_of hy]
          have := hc y (List.mem_of_getElem? hy)
          omega
        · have := ts.2.1
          omega
set_option maxRecDepth 100000 in
set_option maxHeartbeats 4000000 in
theorem pass_any {w : World} {B g : Nat} {x : Bv} {m : Md} {fn : Fn} {ls : List Ins} {ps : List Int} {hv wv : Value} (h : SeeB w B g x m fn ls ps hv wv) (op a ht : Int) (hn : Named m (op, a)) (hs : 0 ≤ tkI m (op, a) ∧ tkI m (op, a) ≤ 140737488351232 ∧ 0 ≤ gvsI op ∧ gvsI op ≤ 1) (h0 : 0 ≤ ht) (h1 : ht ≤ 1000) :
    Calls Tryz.prog 125 #[.pointer (some ⟨g, 0, none⟩), .agg #[.int .i64 op, .int .i64 a], .int .i64 ht] w fun e w' => e = .returned (.tuple #[.int .i64 (pasI m fn.2.2.1 (op, a) ht).1, .int .i64 (pasI m fn.2.2.1 (op, a) ht).2]) ∧ Below w.heap.size w w' := by
  obtain ⟨w1, hw1⟩ : ∃ w1, w.alloc (.cells #[.int .i64 op, .int .i64 a] 36) = w1 := ⟨_, rfl⟩
  have B1 : Below w.heap.size w w1 := by rw [← hw1]; exact (Below.refl _ _).alloc (Nat.le_refl _) _
  have A1 : w1.heap[w.heap.size]? = some (.cells #[.int .i64 op, .int .i64 a] 36 (0, 0)) := by rw [← hw1]; exact heap_alloc_new _ _
  have Z1 : w1.heap.size = w.heap.size + 1 := by rw [← hw1]; simp
  obtain ⟨G, hG⟩ : ∃ G, w.heap.size = G := ⟨_, rfl⟩
  have CE := hide (exchange_any (h.later B1) op a hn)
  obtain ⟨r, hr⟩ : ∃ r, pasI m fn.2.2.1 (op, a) ht = r := ⟨_, rfl⟩
  have hr' := hr
  unfold pasI at hr'
  rw [hr]
  generalize tkI m (op, a) = TK at *
  simp only [] at hr'
  generalize gvsI op = GV at *
  obtain ⟨r1, r2⟩ := r
  simp only []
  have c0 : w1.cell? ⟨G, 0, none⟩ = some (.int .i64 op) := by rw [← hG, cell_of_row w1 _ 0 _ _ (0, 0) A1]; rfl
  have c1 : w1.cell? ⟨G, 1, none⟩ = some (.int .i64 a) := by rw [← hG, cell_of_row w1 _ 1 _ _ (0, 0) A1]; rfl
  have H1 := hide (And.intro B1 (And.intro A1 Z1))
  have HS := hide h
  have HR := hide hr'
  obtain ⟨t1, t2, t3, t4⟩ := hs
  obtain ⟨fp, fl, fk, ft⟩ := fn
  simp only [] at HR
  clear h hn B1 A1 Z1 hr hr'
  go_enter Tryz.func125, Tryz.ntmps125
  go_wp2_with fail
  refine (unhide CE).mono ?_
  rintro e w2 ⟨rfl, B2⟩
  have H2 : Hid (Below w.heap.size w w2) := hide ((unhide H1).1.trans (B2.mono (unhide H1).1.size))
  clear B2 CE c0 c1
  obtain ⟨e0, e1, e2, e3, e4, e5, e6, e7, e8, e9, e10⟩ := ((unhide HS).later (unhide H2)).cells
  simp only [] at e5
  clear e0 e1 e2 e3 e4 e6 e7 e8 e9 e10
  by_cases q1 : ht < TK
  · have HE : Hid (r1 = 0 ∧ r2 = 124) := hide (by
      have hh := unhide HR
      rw [if_pos q1] at hh
      cases hh
      exact ⟨rfl, rfl⟩)
    clear HR
    go_wp2_with fail
    go_ret2
    exact ⟨by rw [(unhide HE).1, (unhide HE).2]; rfl, by first | exact unhide H2 | (rw [← hG]; exact unhide H2)⟩
  · have k1 : IntKind.i64.wrap (ht - TK) = ht - TK := by rw [IntKind.wrap_i64]; omega
    have k2 : IntKind.i64.wrap (ht - TK + GV) = ht - TK + GV := by rw [IntKind.wrap_i64]; omega
    by_cases q2 : fk < ht - TK + GV
    · have HE : Hid (r1 = 0 ∧ r2 = 125) := hide (by
        have hh := unhide HR
        rw [if_neg q1, if_pos q2] at hh
        cases hh
        exact ⟨rfl, rfl⟩)
      clear HR
      go_wp2_with fail
      go_ret2
      exact ⟨by rw [(unhide HE).1, (unhide HE).2]; rfl, by first | exact unhide H2 | (rw [← hG]; exact unhide H2)⟩
    · have HE : Hid (r1 = ht - TK + GV ∧ r2 = 0) := hide (by
        have hh := unhide HR
        rw [if_neg q1, if_neg q2] at hh
        cases hh
        exact ⟨rfl, rfl⟩)
      clear HR
      go_wp2_with fail
      go_ret2
      exact ⟨by rw [(unhide HE).1, (unhide HE).2]; rfl, by first | exact unhide H2 | (rw [← hG]; exact unhide H2)⟩
theorem one_at {w : World} {G : Nat} {z : Int} {T : TypeId} (h : w.heap[G]? = some (.cells #[.int .i64 z] T (0, 0))) : RdI w (some ⟨G, 0, none⟩) [z] := fun j y hj => by
  match j with
  | 0 =>
    simp at hj
    subst hj
    exact ⟨_, rfl, by rw [add_offR, cell_of_row w G _ _ _ (0, 0) h]; rfl⟩
  | j + 1 => simp at hj
theorem two_at {w : World} {G : Nat} {y z : Int} {T : TypeId} (h : w.heap[G]? = some (.cells #[.int .i64 y, .int .i64 z] T (0, 0))) : RdI w (some ⟨G, 0, none⟩) [y, z] := fun j v hj => by
  match j with
  | 0 =>
    simp at hj
    subst hj
    exact ⟨_, rfl, by rw [add_offR, cell_of_row w G _ _ _ (0, 0) h]; rfl⟩
  | 1 =>
    simp at hj
    subst hj
    exact ⟨_, rfl, by rw [add_offR, cell_of_row w G _ _ _ (0, 0) h]; rfl⟩
  | j + 2 => simp at hj
set_option maxRecDepth 100000 in
set_option maxHeartbeats 4000000 in
theorem leads_any {w : World} {B g : Nat} {x : Bv} {m : Md} {fn : Fn} {ls : List Ins} {ps : List Int} {hv wv : Value} (h : SeeB w B g x m fn ls ps hv wv) (k : Nat) (op a : Int) (hi : ls[k]? = some (op, a)) (hkp : k < ps.length) (hts : fn.2.2.2.size ≤ 140737488351232) :
    Calls Tryz.prog 126 #[.pointer (some ⟨g, 0, none⟩), .int .i64 (k : Int)] w fun e w' => ∃ ao, (∃ cap, e = .returned (.slice ao (lds ps (fn.2.2.2.size : Int) k (op, a)).length cap)) ∧ RdI w' ao (lds ps (fn.2.2.2.size : Int) k (op, a)) ∧ Below w.heap.size w w' ∧ ∀ ad, ao = some ad → w.heap.size ≤ ad.block ∧ ad.block < w'.heap.size := by
  obtain ⟨G, hG⟩ : ∃ G, w.heap.size = G := ⟨_, rfl⟩
  obtain ⟨e0, e1, e2, e3, e4, e5, e6, e7, e8, e9, e10⟩ := h.cells
  obtain ⟨ai, hai, j0, j1⟩ := h.ins k _ hi
  simp only [] at j0 j1
  have hb8 := h.bp
  have hnp := h.lp
  have hnl := h.ll
  have hkl : k < ls.length := (List.getElem?_eq_some_iff.1 hi).1
  obtain ⟨w1, hw1⟩ : ∃ w1, w.alloc (.cells #[.int .i64 op, .int .i64 a] 36) = w1 := ⟨_, rfl⟩
  have B1 : Below w.heap.size w w1 := by rw [← hw1]; exact (Below.refl _ _).alloc (Nat.le_refl _) _
  have A1 : w1.heap[G]? = some (.cells #[.int .i64 op, .int .i64 a] 36 (0, 0)) := by rw [← hw1, ← hG]; exact heap_alloc_new _ _
  have Z1 : w1.heap.size = G + 1 := by rw [← hw1, ← hG]; simp
  have c0 : w1.cell? ⟨G, 0, none⟩ = some (.int .i64 op) := by rw [cell_of_row w1 _ 0 _ _ (0, 0) A1]; rfl
  have c1 : w1.cell? ⟨G, 1, none⟩ = some (.int .i64 a) := by rw [cell_of_row w1 _ 1 _ _ (0, 0) A1]; rfl
  obtain ⟨bh, hbh⟩ : ∃ bh, bhd ps (fn.2.2.2.size : Int) k = bh := ⟨_, rfl⟩
  have HB1 := hide (And.intro B1 (And.intro A1 Z1))
  obtain ⟨D, hD⟩ : ∃ D, lds ps (fn.2.2.2.size : Int) k (op, a) = D := ⟨_, rfl⟩
  have hD' := hD
  unfold lds at hD'
  rw [hbh] at hD'
  simp only [] at hD'
  rw [hD]
  have HD := hide hD'
  have NEW : Hid (∀ c : Array Value, ∃ u, u = w1.alloc (.cells c 3) ∧ Below w.heap.size w u ∧ u.heap[G + 1]? = some (.cells c 3 (0, 0))) := hide (fun c => ⟨_, rfl, B1.alloc B1.size _, by rw [← Z1]; exact heap_alloc_new _ _⟩)
  obtain ⟨fp, fl, fk, ft⟩ := fn
  obtain ⟨b1, n1, d1, b2, n2, d2, b3, n3, d3, bl, nl, dl, bp, np, dp⟩ := x
  simp only [] at e0 e1 e2 e3 e4 e5 e6 e7 e8 e9 e10 hai hb8 hnp hnl hbh hts
  have k1 : (k : Int) < (nl : Int) := by omega
  obtain ⟨q, hq⟩ : ∃ q : Nat, q = k + 1 := ⟨_, rfl⟩
  have hkw : IntKind.i64.wrap ((k : Int) + 1) = (q : Int) := by rw [IntKind.wrap_i64]; omega
  have HQ := hide hq
  subst hai
  have HS := hide h
  have HBH := hide hbh
  have HLp := hide hnp
  clear h hi hD hD' B1 A1 hbh hnp hnl e0 e1 e2 e3 e4 e5 e9 e10
  by_cases hk : q < np
  · have k2 : (q : Int) < (np : Int) := by omega
    obtain ⟨pz, hpz⟩ : ∃ pz, ps[q]? = some pz := ⟨_, List.getElem?_eq_getElem (by have := unhide HLp; omega)⟩
    obtain ⟨pa, hpa, r0⟩ := (unhide HS).pls q pz hpz
    simp only [] at hpa
    subst hpa
    have hbe : bh = pz := by
      have hh := unhide HBH
      unfold bhd at hh
      rw [if_pos (by have := unhide HLp; omega), ← hq, getD_of hpz] at hh
      exact hh.symm
    subst hbe
    clear hpz hq
    go_enter Tryz.func126, Tryz.ntmps126
    go_upto_region 5 with fail
    by_cases o9 : op = 9
    · subst o9
      have HE : Hid (D = []) := hide (by rw [← unhide HD, if_pos rfl])
      go_wp2_with fail
      go_ret
      exact ⟨none, ⟨0, by rw [unhide HE]; rfl⟩, by rw [unhide HE]; exact (fun j z hj => by simp at hj), by first | exact (unhide HB1).1 | (rw [← hG]; exact (unhide HB1).1), fun ad had => by cases had⟩
    · have q9 : (op == 9) = false := by simpa using o9
      by_cases o5 : op = 5
      · subst o5
        have HE : Hid (D = [a]) := hide (by rw [← unhide HD, if_neg o9, if_pos rfl])
        go_wp2_with fail
        go_ret
        obtain ⟨u, hu, hb, hr⟩ := unhide NEW #[.int .i64 a]
        rw [← hu]
        exact ⟨_, ⟨_, by rw [unhide HE]; rfl⟩, by rw [unhide HE]; exact one_at hr, by first | exact hb | (rw [← hG]; exact hb), fun ad had => by cases had; exact ⟨by simp only []; omega, (Array.getElem?_eq_some_iff.1 hr).1⟩⟩
      · have q5 : (op == 5) = false := by simpa using o5
        by_cases o6 : op = 6
        · subst o6
          have HE : Hid (D = [bh, a]) := hide (by rw [← unhide HD, if_neg o9, if_neg o5, if_pos rfl])
          go_wp2_with fail
          go_ret
          obtain ⟨u, hu, hb, hr⟩ := unhide NEW #[.int .i64 bh, .int .i64 a]
          rw [← hu]
          exact ⟨_, ⟨_, by rw [unhide HE]; rfl⟩, by rw [unhide HE]; exact two_at hr, by first | exact hb | (rw [← hG]; exact hb), fun ad had => by cases had; exact ⟨by simp only []; omega, (Array.getElem?_eq_some_iff.1 hr).1⟩⟩
        · have q6 : (op == 6) = false := by simpa using o6
          have HE : Hid (D = [bh]) := hide (by rw [← unhide HD, if_neg o9, if_neg o5, if_neg o6])
          go_wp2_with fail
          go_ret
          obtain ⟨u, hu, hb, hr⟩ := unhide NEW #[.int .i64 bh]
          rw [← hu]
          exact ⟨_, ⟨_, by rw [unhide HE]; rfl⟩, by rw [unhide HE]; exact one_at hr, by first | exact hb | (rw [← hG]; exact hb), fun ad had => by cases had; exact ⟨by simp only []; omega, (Array.getElem?_eq_some_iff.1 hr).1⟩⟩
  · have k2 : ¬ (q : Int) < (np : Int) := by omega
    have hbe : bh = (ft.size : Int) := by
      have hh := unhide HBH
      unfold bhd at hh
      rw [if_neg (by have := unhide HLp; omega)] at hh
      exact hh.symm
    subst hbe
    clear hq
    go_enter Tryz.func126, Tryz.ntmps126
    go_upto_region 5 with fail
    by_cases o9 : op = 9
    · subst o9
      have HE : Hid (D = []) := hide (by rw [← unhide HD, if_pos rfl])
      go_wp2_with fail
      go_ret
      exact ⟨none, ⟨0, by rw [unhide HE]; rfl⟩, by rw [unhide HE]; exact (fun j z hj => by simp at hj), by first | exact (unhide HB1).1 | (rw [← hG]; exact (unhide HB1).1), fun ad had => by cases had⟩
    · have q9 : (op == 9) = false := by simpa using o9
      by_cases o5 : op = 5
      · subst o5
        have HE : Hid (D = [a]) := hide (by rw [← unhide HD, if_neg o9, if_pos rfl])
        go_wp2_with fail
        go_ret
        obtain ⟨u, hu, hb, hr⟩ := unhide NEW #[.int .i64 a]
        rw [← hu]
        exact ⟨_, ⟨_, by rw [unhide HE]; rfl⟩, by rw [unhide HE]; exact one_at hr, by first | exact hb | (rw [← hG]; exact hb), fun ad had => by cases had; exact ⟨by simp only []; omega, (Array.getElem?_eq_some_iff.1 hr).1⟩⟩
      · have q5 : (op == 5) = false := by simpa using o5
        by_cases o6 : op = 6
        · subst o6
          have HE : Hid (D = [(ft.size : Int), a]) := hide (by rw [← unhide HD, if_neg o9, if_neg o5, if_pos rfl])
          go_wp2_with fail
          go_ret
          obtain ⟨u, hu, hb, hr⟩ := unhide NEW #[.int .i64 (ft.size : Int), .int .i64 a]
          rw [← hu]
          exact ⟨_, ⟨_, by rw [unhide HE]; rfl⟩, by rw [unhide HE]; exact two_at hr, by first | exact hb | (rw [← hG]; exact hb), fun ad had => by cases had; exact ⟨by simp only []; omega, (Array.getElem?_eq_some_iff.1 hr).1⟩⟩
        · have q6 : (op == 6) = false := by simpa using o6
          have HE : Hid (D = [(ft.size : Int)]) := hide (by rw [← unhide HD, if_neg o9, if_neg o5, if_neg o6])
          go_wp2_with fail
          go_ret
          obtain ⟨u, hu, hb, hr⟩ := unhide NEW #[.int .i64 (ft.size : Int)]
          rw [← hu]
          exact ⟨_, ⟨_, by rw [unhide HE]; rfl⟩, by rw [unhide HE]; exact one_at hr, by first | exact hb | (rw [← hG]; exact hb), fun ad had => by cases had; exact ⟨by simp only []; omega, (Array.getElem?_eq_some_iff.1 hr).1⟩⟩
end Go.Proofs.YtmnbfcpkaglniaaGreatDoor
