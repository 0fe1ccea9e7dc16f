/-
  Layer 12 (verify): a function's body in memory; the walks of operand, exchange, pass, leads; conditions: the package's variables.
-/
import Derived.Test.YtmnbfcpkaglniaaGreatDoorS23
set_option linter.unusedVariables false
set_option linter.unusedSimpArgs false
namespace Go.Proofs.YtmnbfcpkaglniaaGreatDoor
open Go.RowKit
set_option linter.unusedVariables false
set_option linter.unusedSimpArgs false
/-- how the parts of a body lie -/
structure Bv where
  a1 : Option Addr
  n1 : Nat
  c1 : Nat
  a2 : Option Addr
  n2 : Nat
  c2 : Nat
  a3 : Option Addr
  n3 : Nat
  c3 : Nat
  al : Option Addr
  nl : Nat
  cl : Nat
  ap : Option Addr
  np : Nat
  cp : Nat
def Bv.cells (x : Bv) (fn : Fn) (hv wv : Value) : Array Value :=
  #[.slice x.a1 x.n1 x.c1, .slice x.a2 x.n2 x.c2, .slice x.a3 x.n3 x.c3, .int .i64 fn.1, .int .i64 fn.2.1, .int .i64 fn.2.2.1, .string fn.2.2.2, .slice x.al x.nl x.cl, .slice x.ap x.np x.cp, hv, wv]
/-- instructions that can be read -/
def RdN (w : World) (ao : Option Addr) (ls : List Ins) : Prop := ∀ j p, ls[j]? = some p → ∃ a, ao = some a ∧ w.cell? (a.add (j * 2)) = some (.int .i64 p.1) ∧ w.cell? ⟨(a.add (j * 2)).block, (a.add (j * 2)).off + 1, none⟩ = some (.int .i64 p.2)
/-- a body that can be read -/
structure SeeB (w : World) (B g : Nat) (x : Bv) (m : Md) (fn : Fn) (ls : List Ins) (ps : List Int) (hv wv : Value) : Prop where
  box : w.heap[g]? = some (.cells (x.cells fn hv wv) 174 (0, 0))
  l1 : m.cs.length = x.n1
  l2 : m.fs.length = x.n2
  mod : IsM w (fun b => b < B) m x.a1 x.c1 x.a2 x.c2 x.a3 x.c3
  big : B ≤ w.heap.size
  tab : Tab2 w
  ll : ls.length = x.nl
  lp : ps.length = x.np
  bp : x.np ≤ 4000
  ins : RdN w x.al ls
  pls : RdI w x.ap ps
  fl : ∀ i ∈ ls, faultI i.1 i.2 = 0
theorem cell_ne {w w' : World} {a : Addr} {v : Value} (h : w.cell? a = some v) (hb : w'.heap[a.block]? = w.heap[a.block]?) : w'.cell? a = some v := by rw [World.cell?_of_block hb]; exact h
theorem cell_lt {w : World} {a : Addr} {v : Value} (h : w.cell? a = some v) : a.block < w.heap.size := by
  rcases Nat.lt_or_ge a.block w.heap.size with hl | hl
  · exact hl
  · have : w.heap[a.block]? = none := Array.getElem?_eq_none hl
    simp [World.cell?, this] at h
theorem add_block (a : Addr) (j : Nat) : (a.add j).block = a.block := by
  obtain ⟨b, o, e⟩ := a
  unfold Addr.add
  split <;> simp
theorem RdI.later {w w' : World} {ao : Option Addr} {zs : List Int} (h : RdI w ao zs) (hb : Below w.heap.size w w') : RdI w' ao zs := fun j z hj => by
  obtain ⟨a, ha, hc⟩ := h j z hj
  exact ⟨a, ha, cell_ne hc (hb.block _ (cell_lt hc))⟩
theorem RdN.later {w w' : World} {ao : Option Addr} {ls : List Ins} (h : RdN w ao ls) (hb : Below w.heap.size w w') : RdN w' ao ls := fun j p hj => by
  obtain ⟨a, ha, hc, hd⟩ := h j p hj
  exact ⟨a, ha, cell_ne hc (hb.block _ (cell_lt hc)), cell_ne hd (hb.block _ (cell_lt hd))⟩
theorem SeeB.later {w w' : World} {B g : Nat} {x : Bv} {m : Md} {fn : Fn} {ls : List Ins} {ps : List Int} {hv wv : Value} (h : SeeB w B g x m fn ls ps hv wv) (hb : Below w.heap.size w w') : SeeB w' B g x m fn ls ps hv wv where
  box := (hb.block g (Array.getElem?_eq_some_iff.1 h.box).1).trans h.box
  l1 := h.l1
  l2 := h.l2
  mod := h.mod.later (hb.mono h.big)
  big := Nat.le_trans h.big hb.size
  tab := h.tab.below hb
  ll := h.ll
  lp := h.lp
  bp := h.bp
  ins := h.ins.later hb
  pls := h.pls.later hb
  fl := h.fl
theorem row_cell11 {w : World} {g : Nat} {x0 x1 x2 x3 x4 x5 x6 x7 x8 x9 x10 : Value} {T : TypeId} (h : w.heap[g]? = some (.cells #[x0, x1, x2, x3, x4, x5, x6, x7, x8, x9, x10] T (0, 0))) :
    w.cell? ⟨g, 0, none⟩ = some x0 ∧ w.cell? ⟨g, 1, none⟩ = some x1 ∧ w.cell? ⟨g, 2, none⟩ = some x2 ∧ w.cell? ⟨g, 3, none⟩ = some x3 ∧ w.cell? ⟨g, 4, none⟩ = some x4 ∧ w.cell? ⟨g, 5, none⟩ = some x5 ∧ w.cell? ⟨g, 6, none⟩ = some x6 ∧ w.cell? ⟨g, 7, none⟩ = some x7 ∧ w.cell? ⟨g, 8, none⟩ = some x8 ∧ w.cell? ⟨g, 9, none⟩ = some x9 ∧ w.cell? ⟨g, 10, none⟩ = some x10 :=
  ⟨by rw [cell_of_row w g 0 _ _ (0, 0) h]; rfl, by rw [cell_of_row w g 1 _ _ (0, 0) h]; rfl, by rw [cell_of_row w g 2 _ _ (0, 0) h]; rfl, by rw [cell_of_row w g 3 _ _ (0, 0) h]; rfl, by rw [cell_of_row w g 4 _ _ (0, 0) h]; rfl, by rw [cell_of_row w g 5 _ _ (0, 0) h]; rfl, by rw [cell_of_row w g 6 _ _ (0, 0) h]; rfl, by rw [cell_of_row w g 7 _ _ (0, 0) h]; rfl, by rw [cell_of_row w g 8 _ _ (0, 0) h]; rfl, by rw [cell_of_row w g 9 _ _ (0, 0) h]; rfl, by rw [cell_of_row w g 10 _ _ (0, 0) h]; rfl⟩
theorem SeeB.cells {w : World} {B g : Nat} {x : Bv} {m : Md} {fn : Fn} {ls : List Ins} {ps : List Int} {hv wv : Value} (h : SeeB w B g x m fn ls ps hv wv) :
    w.cell? ⟨g, 0, none⟩ = some (.slice x.a1 x.n1 x.c1) ∧ w.cell? ⟨g, 1, none⟩ = some (.slice x.a2 x.n2 x.c2) ∧ w.cell? ⟨g, 2, none⟩ = some (.slice x.a3 x.n3 x.c3) ∧ w.cell? ⟨g, 3, none⟩ = some (.int .i64 fn.1) ∧ w.cell? ⟨g, 4, none⟩ = some (.int .i64 fn.2.1) ∧ w.cell? ⟨g, 5, none⟩ = some (.int .i64 fn.2.2.1) ∧ w.cell? ⟨g, 6, none⟩ = some (.string fn.2.2.2) ∧ w.cell? ⟨g, 7, none⟩ = some (.slice x.al x.nl x.cl) ∧ w.cell? ⟨g, 8, none⟩ = some (.slice x.ap x.np x.cp) ∧ w.cell? ⟨g, 9, none⟩ = some hv ∧ w.cell? ⟨g, 10, none⟩ = some wv := row_cell11 h.box
theorem getD_of {α : Type} {l : List α} {i : Nat} {y d : α} (h : l[i]? = some y) : l.getD i d = y := by simp [List.getD, h]
set_option maxRecDepth 100000 in
set_option maxHeartbeats 4000000 in
theorem operand_any {w : World} {B g : Nat} {x : Bv} {m : Md} {fn : Fn} {ls : List Ins} {ps : List Int} {hv wv : Value} (h : SeeB w B g x m fn ls ps hv wv) (hps : ps.Pairwise (· < ·)) (op a : Int) (hf : faultI op a = 0) :
    Calls Tryz.prog 122 #[.pointer (some ⟨g, 0, none⟩), .agg #[.int .i64 op, .int .i64 a]] w fun e w' => e = .returned (.int .i64 (opE m fn.2.1 ps (op, a))) ∧ Below w.heap.size w w' := by
  obtain ⟨w1, hw1⟩ : ∃ w1, w.alloc (.cells #[.int .i64 op, .int .i64 a] 36) = w1 := ⟨_, rfl⟩
  have B1 : Below w.heap.size w w1 := by rw [← hw1]; exact (Below.refl _ _).alloc (Nat.le_refl _) _
  have A1 : w1.heap[w.heap.size]? = some (.cells #[.int .i64 op, .int .i64 a] 36 (0, 0)) := by rw [← hw1]; exact heap_alloc_new _ _
  have Z1 : w1.heap.size = w.heap.size + 1 := by rw [← hw1]; simp
  obtain ⟨G, hG⟩ : ∃ G, w.heap.size = G := ⟨_, rfl⟩
  have C1 := hide (info_any op w1 (h.tab.below B1).tab)
  have hfo := fault_ok hf
  have hmo := (opd_at (srt op) (srt_is op hfo.1).2).2.2.2.1
  have a0 : 0 ≤ a := hfo.2.1
  have a1 : a ≤ 3999 := by have := hfo.2.2; omega
  obtain ⟨i, rfl⟩ : ∃ i : Nat, a = (i : Int) := ⟨a.toNat, by omega⟩
  rw [infoA_in op hfo.1] at C1
  have e2 := srt_is op hfo.1
  have hsv : ∀ v, (srt op = 1 → servesB op v = true ∨ servesB op v = false) := fun v _ => by cases servesB op v <;> simp
  obtain ⟨F, hF⟩ : ∃ F, opE m fn.2.1 ps (op, (i : Int)) = F := ⟨_, rfl⟩
  have hF' := hF
  unfold opE at hF'
  simp only [Int.toNat_natCast] at hF'
  rw [hF]
  generalize OPS.getD op.toNat blank = y at *
  obtain ⟨xn, xa, xb, xc, xd, xf⟩ := y
  simp only [infV] at C1 e2
  obtain ⟨k, hk⟩ : ∃ k, srt op = k := ⟨_, rfl⟩
  rw [hk] at e2 hF'
  obtain ⟨rfl, k5⟩ := e2
  have c0 : w1.cell? ⟨G, 0, none⟩ = some (.int .i64 op) := by rw [← hG, cell_of_row w1 _ 0 _ _ (0, 0) A1]; rfl
  have H1 := hide (And.intro B1 (And.intro A1 Z1))
  have HS := hide (And.intro h hps)
  have HF := hide hF'
  obtain ⟨fp, fl, fk, ft⟩ := fn
  obtain ⟨b1, n1, d1, b2, n2, d2, b3, n3, d3, bl, nl, dl, bp, np, dp⟩ := x
  simp only [] at HF
  clear h hps B1 A1 Z1 hfo hmo hF hF' hsv hf hk
  have LAST : ∀ w2, Hid (Below w1.heap.size w1 w2) → ∃ w3, w3 = w2.alloc (.cells #[.string xn, .int .i64 (k : Int), .int .i64 xb, .int .i64 xc, .int .i64 xd, .int .i64 xf] 98) ∧ Hid (Below w.heap.size w w3) ∧ w3.cell? ⟨w2.heap.size, 1, none⟩ = some (.int .i64 (k : Int)) ∧ w3.cell? ⟨G, 0, none⟩ = some (.int .i64 op) ∧ w3.cell? ⟨G, 1, none⟩ = some (.int .i64 (i : Int)) ∧ w2.heap.size + 1 = w3.heap.size := fun w2 H2 => by
    refine ⟨_, rfl, ?_, ?_, ?_, ?_, by simp⟩
    · exact hide ((unhide H1).1.trans (((unhide H2).mono (unhide H1).1.size).alloc (Nat.le_trans (unhide H1).1.size (unhide H2).size) _))
    · rw [cell_of_row _ _ 1 _ _ (0, 0) (heap_alloc_new w2 _)]; rfl
    · have hb := ((unhide H2).alloc (unhide H2).size (.cells #[.string xn, .int .i64 (k : Int), .int .i64 xb, .int .i64 xc, .int .i64 xd, .int .i64 xf] 98)).block G (by have := (unhide H1).2.2; omega)
      rw [cell_of_row _ _ 0 _ _ (0, 0) (hb.trans (by rw [← hG]; exact (unhide H1).2.1))]; rfl
    · have hb := ((unhide H2).alloc (unhide H2).size (.cells #[.string xn, .int .i64 (k : Int), .int .i64 xb, .int .i64 xc, .int .i64 xd, .int .i64 xf] 98)).block G (by have := (unhide H1).2.2; omega)
      rw [cell_of_row _ _ 1 _ _ (0, 0) (hb.trans (by rw [← hG]; exact (unhide H1).2.1))]; rfl
  have HLA := hide LAST
  clear LAST
  go_enter Tryz.func122, Tryz.ntmps122
  go_wp2_with fail
  refine (unhide C1).mono ?_
  rintro e w2 ⟨rfl, B2⟩
  have H2 := hide B2
  clear B2 C1 c0
  go_upto_region 3 with fail
  obtain ⟨w3, hw3, H3, d1', c0, c1, z3⟩ := unhide HLA w2 H2
  rw [← hw3]
  clear hw3 HLA
  have HS3 := hide ((unhide HS).1.later (unhide H3))
  obtain ⟨e0, e1, e2, e3, e4, e5, e6, e7, e8, e9, e10⟩ := (unhide HS3).cells
  simp only [] at e0 e1 e2 e3 e4 e5 e6 e7 e8 e9 e10
  have hl1 := (unhide HS3).l1
  have hl2 := (unhide HS3).l2
  simp only [] at hl1 hl2
  have hN : n1 ≤ 140737488351232 ∧ n2 ≤ 140737488351232 := by have := (unhide HS3).mod.len; simp only [hl1, hl2] at this; omega
  have HL := hide (And.intro hl1 hl2)
  clear hl1 hl2
  match k, k5, HF with
  | 0, _, HF =>
    have HE : Hid (F = 0) := hide (by rw [← unhide HF]; simp)
    clear HF
    go_wp2_with fail
    go_ret
    exact ⟨by rw [unhide HE]; rfl, by first | exact unhide H3 | (rw [← hG]; exact unhide H3)⟩
  | 5, _, HF =>
    have HE : Hid (F = 0) := hide (by rw [← unhide HF]; simp)
    clear HF
    go_wp2_with fail
    go_ret
    exact ⟨by rw [unhide HE]; rfl, by first | exact unhide H3 | (rw [← hG]; exact unhide H3)⟩
  | 2, _, HF =>
    by_cases hl : (i : Int) < fl
    · have HE : Hid (F = 0) := hide (by rw [← unhide HF]; simp [hl])
      clear HF
      go_upto_region 7 with fail
      go_quiet (fail)
      go_wp2_with fail
      go_ret
      exact ⟨by rw [unhide HE]; rfl, by first | exact below_drewN (unhide H3) _ | (rw [← hG]; exact below_drewN (unhide H3) _)⟩
    · have HE : Hid (F = 122) := hide (by rw [← unhide HF]; simp [hl])
      clear HF
      go_upto_region 7 with fail
      go_quiet (fail)
      go_wp2_with fail
      go_ret
      exact ⟨by rw [unhide HE]; rfl, by first | exact below_drewN (unhide H3) _ | (rw [← hG]; exact below_drewN (unhide H3) _)⟩
  | 4, _, HF =>
    rw [(unhide HL).2] at HF
    by_cases hl : (i : Int) < (n2 : Int)
    · have HE : Hid (F = 0) := hide (by rw [← unhide HF]; simp; omega)
      clear HF
      go_upto_region 9 with fail
      go_quiet (fail)
      go_wp2_with fail
      go_ret
      exact ⟨by rw [unhide HE]; rfl, by first | exact below_drewN (unhide H3) _ | (rw [← hG]; exact below_drewN (unhide H3) _)⟩
    · have HE : Hid (F = 122) := hide (by rw [← unhide HF]; simp; omega)
      clear HF
      go_upto_region 9 with fail
      go_quiet (fail)
      go_wp2_with fail
      go_ret
      exact ⟨by rw [unhide HE]; rfl, by first | exact below_drewN (unhide H3) _ | (rw [← hG]; exact below_drewN (unhide H3) _)⟩
  | 3, _, HF =>
    by_cases hl : (i : Int) ∈ ps
    · have CS : Hid (∀ (u : World), Below w3.heap.size w3 u → Calls Tryz.prog 124 #[.slice bp np dp, .int .i64 (i : Int)] u fun e w' => ∃ L : Nat, e = .returned (.tuple #[.int .i64 L, .bool true]) ∧ w' = u) := hide (fun u hu => (searchI ps bp dp np u (unhide HS3).lp ((unhide HS3).later hu).pls (by have := (unhide HS3).bp; simp only [] at this; omega) (unhide HS).2 (i : Int)).mono (by
        rintro e u' ⟨L, rfl, hL, rfl⟩
        exact ⟨L, by rw [decide_eq_true ((low_found (unhide HS).2 hL).1.1 hl)], rfl⟩))
      have HE : Hid (F = 0) := hide (by rw [← unhide HF]; simp [hl])
      clear HF hl
      go_upto_region 11 with fail
      go_region_held3 (fun u => u.cell? ⟨G, 1, none⟩ = some (.int .i64 (i : Int)) ∧ u.cell? ⟨g, 8, none⟩ = some (.slice bp np dp))
        (first | go_keep)
        (first | (go_at_call 124; refine (unhide CS _ (below_drewN (Below.refl _ _) _)).mono ?_; rintro e w5 ⟨L, rfl, rfl⟩))
      all_goals (go_wp2_with fail; go_ret; exact ⟨by rw [unhide HE]; rfl, by first | exact below_drewN (unhide H3) _ | (rw [← hG]; exact below_drewN (unhide H3) _)⟩)
    · have CS : Hid (∀ (u : World), Below w3.heap.size w3 u → Calls Tryz.prog 124 #[.slice bp np dp, .int .i64 (i : Int)] u fun e w' => ∃ L : Nat, e = .returned (.tuple #[.int .i64 L, .bool false]) ∧ w' = u) := hide (fun u hu => (searchI ps bp dp np u (unhide HS3).lp ((unhide HS3).later hu).pls (by have := (unhide HS3).bp; simp only [] at this; omega) (unhide HS).2 (i : Int)).mono (by
        rintro e u' ⟨L, rfl, hL, rfl⟩
        exact ⟨L, by rw [decide_eq_false (fun hc => hl ((low_found (unhide HS).2 hL).1.2 hc))], rfl⟩))
      have HE : Hid (F = 123) := hide (by rw [← unhide HF]; simp [hl])
      clear HF hl
      go_upto_region 11 with fail
      go_region_held3 (fun u => u.cell? ⟨G, 1, none⟩ = some (.int .i64 (i : Int)) ∧ u.cell? ⟨g, 8, none⟩ = some (.slice bp np dp))
        (first | go_keep)
        (first | (go_at_call 124; refine (unhide CS _ (below_drewN (Below.refl _ _) _)).mono ?_; rintro e w5 ⟨L, rfl, rfl⟩))
      all_goals (go_wp2_with fail; go_ret; exact ⟨by rw [unhide HE]; rfl, by first | exact below_drewN (unhide H3) _ | (rw [← hG]; exact below_drewN (unhide H3) _)⟩)
  | 1, _, HF =>
    rw [(unhide HL).1] at HF
    by_cases hl : (i : Int) < (n1 : Int)
    · obtain ⟨y, hy⟩ : ∃ y, m.cs[i]? = some y := ⟨_, List.getElem?_eq_getElem (by have := (unhide HL).1; omega)⟩
      obtain ⟨ad, y0, y1, y2, al', ak', ll', m', cl', ck', hax, hab, hcc, hvv⟩ := (unhide HS3).mod.const i y hy
      simp only [] at hax
      subst hax
      have hyc : servesB op y = true ∧ F = 0 ∨ servesB op y = false ∧ F = 122 := by
        have hh := unhide HF
        rw [if_pos rfl] at hh
        by_cases hs : servesB op y = true
        · exact .inl ⟨hs, by rw [← hh]; exact if_pos ⟨hl, by rw [getD_of hy]; exact hs⟩⟩
        · exact .inr ⟨by simpa using hs, by rw [← hh]; exact if_neg (fun hc => hs (by rw [getD_of hy] at hc; exact hc.2))⟩
      have f0 : w3.cell? (ad.add (i * 5)) = some (.int .i64 y0) := hcc 0 _ rfl
      have f1 : w3.cell? ⟨(ad.add (i * 5)).block, (ad.add (i * 5)).off + 1, none⟩ = some (.int .i64 y1) := hcc 1 _ rfl
      have f2 : w3.cell? ⟨(ad.add (i * 5)).block, (ad.add (i * 5)).off + 2, none⟩ = some (.string y2) := hcc 2 _ rfl
      have f3 : w3.cell? ⟨(ad.add (i * 5)).block, (ad.add (i * 5)).off + 3, none⟩ = some (.slice al' ll' cl') := hcc 3 _ rfl
      have f4 : w3.cell? ⟨(ad.add (i * 5)).block, (ad.add (i * 5)).off + 4, none⟩ = some (.slice ak' m' ck') := hcc 4 _ rfl
      have CS : Hid (∀ (u : World), Below w3.heap.size w3 u → Calls Tryz.prog 170 #[.int .i64 op, .agg #[.int .i64 y0, .int .i64 y1, .string y2, .slice al' ll' cl', .slice ak' m' ck']] u fun e w' => e = .returned (.bool (servesB op y)) ∧ Below u.heap.size u w') := hide (fun u hu => serves_any op y _ B u (IsV.mono (hu.mono (unhide HS3).big) hvv) (Nat.le_trans (unhide HS3).big hu.size))
      generalize servesB op y = R at *
      have SK : Hid (∀ u, Below w3.heap.size w3 u → u.cell? ⟨G, 0, none⟩ = some (.int .i64 op) ∧ u.cell? ⟨G, 1, none⟩ = some (.int .i64 (i : Int)) ∧ u.cell? ⟨g, 0, none⟩ = some (.slice (some ad) n1 d1) ∧ u.cell? (ad.add (i * 5)) = some (.int .i64 y0) ∧ u.cell? ⟨(ad.add (i * 5)).block, (ad.add (i * 5)).off + 1, none⟩ = some (.int .i64 y1) ∧ u.cell? ⟨(ad.add (i * 5)).block, (ad.add (i * 5)).off + 2, none⟩ = some (.string y2) ∧ u.cell? ⟨(ad.add (i * 5)).block, (ad.add (i * 5)).off + 3, none⟩ = some (.slice al' ll' cl') ∧ u.cell? ⟨(ad.add (i * 5)).block, (ad.add (i * 5)).off + 4, none⟩ = some (.slice ak' m' ck')) := hide (fun u hu => ⟨cell_ne c0 (hu.block _ (cell_lt c0)), cell_ne c1 (hu.block _ (cell_lt c1)), cell_ne e0 (hu.block _ (cell_lt e0)), cell_ne f0 (hu.block _ (cell_lt f0)), cell_ne f1 (hu.block _ (cell_lt f1)), cell_ne f2 (hu.block _ (cell_lt f2)), cell_ne f3 (hu.block _ (cell_lt f3)), cell_ne f4 (hu.block _ (cell_lt f4))⟩)
      have HY := hide hyc
      clear hcc hvv hy hyc HF e1 e2 e3 e4 e5 e6 e7 e8 e9 e10
      go_upto_region 5 with fail
      go_region_held3 (fun u => u.cell? ⟨G, 0, none⟩ = some (.int .i64 op) ∧ u.cell? ⟨G, 1, none⟩ = some (.int .i64 (i : Int)) ∧ u.cell? ⟨g, 0, none⟩ = some (.slice (some ad) n1 d1) ∧ u.cell? (ad.add (i * 5)) = some (.int .i64 y0) ∧ u.cell? ⟨(ad.add (i * 5)).block, (ad.add (i * 5)).off + 1, none⟩ = some (.int .i64 y1) ∧ u.cell? ⟨(ad.add (i * 5)).block, (ad.add (i * 5)).off + 2, none⟩ = some (.string y2) ∧ u.cell? ⟨(ad.add (i * 5)).block, (ad.add (i * 5)).off + 3, none⟩ = some (.slice al' ll' cl') ∧ u.cell? ⟨(ad.add (i * 5)).block, (ad.add (i * 5)).off + 4, none⟩ = some (.slice ak' m' ck'))
        (first | go_keep | (have hb6 := below_drew_of' b5; exact unhide SK _ hb6))
        (first | (go_at_call 170; refine (unhide CS _ (below_drewN (Below.refl _ _) _)).mono ?_; rintro e w5 ⟨rfl, b5⟩))
      have H5 : Hid (Below w.heap.size w w5) := hide ((unhide H3).trans ((below_drew_of' b5).mono (unhide H3).size))
      clear b5 CS SK c0 c1 e0 f0 f1 f2 f3 f4
      rcases unhide HY with ⟨rfl, hF2⟩ | ⟨rfl, hF2⟩
      · have HE := hide hF2
        clear hF2 HY
        go_wp2_with fail
        go_ret
        exact ⟨by rw [unhide HE]; rfl, by first | exact unhide H5 | (rw [← hG]; exact unhide H5)⟩
      · have HE := hide hF2
        clear hF2 HY
        go_wp2_with fail
        go_ret
        exact ⟨by rw [unhide HE]; rfl, by first | exact unhide H5 | (rw [← hG]; exact unhide H5)⟩
    · have HE : Hid (F = 122) := hide (by rw [← unhide HF]; simp [hl])
      clear HF
      go_upto_region 5 with fail
      go_quiet (fail)
      go_wp2_with fail
      go_ret
      exact ⟨by rw [unhide HE]; rfl, by first | exact below_drewN (unhide H3) _ | (rw [← hG]; exact below_drewN (unhide H3) _)⟩
end Go.Proofs.YtmnbfcpkaglniaaGreatDoor
