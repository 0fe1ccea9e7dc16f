/-
  Layer 12 (verify): the walks of read and operands; conditions: the package's variables.
-/
import Derived.Test.YtmnbfcpkaglniaaGreatDoorS27
import Derived.Lib.ConvBytes
set_option linter.unusedVariables false
set_option linter.unusedSimpArgs false
namespace Go.Proofs.YtmnbfcpkaglniaaGreatDoor
open Go.RowKit
set_option linter.unusedVariables false
set_option linter.unusedSimpArgs false
theorem zsT_len (s : ByteArray) : (zsT s).length = s.size := by
  unfold zsT
  rw [List.length_map, Array.length_toList]
  rfl
theorem zsT_small (s : ByteArray) : ∀ y ∈ zsT s, 0 ≤ y ∧ y ≤ 255 := by
  intro y hy
  obtain ⟨b, _, rfl⟩ := List.mem_map.1 hy
  have := b.toNat_lt
  omega
/-- bytes that were made of a text -/
structure FreshT (w w' : World) (s : ByteArray) (cap : Nat) : Prop where
  below : Below w.heap.size w w'
  size : w'.heap.size = w.heap.size + 1
  row : Row8 w' (some ⟨w.heap.size, 0, none⟩) s.size cap (zsT s)
  cap : cap ≤ 9223372036854775807
theorem freshT_of (w : World) (e : TypeId) (s : ByteArray) (hs : s.size ≤ 140737488351232) : FreshT w (Lib.bytesWorld w e s) s (grownCap w s.size 0 e) where
  below := ⟨by simp only [Lib.bytesWorld, World.freeze]; rfl, by simp only [Lib.bytesWorld, World.freeze]; rfl, by simp only [Lib.bytesWorld, World.freeze]; rfl, by rw [Lib.bytesWorld_size]; omega, fun k hk => Lib.bytesWorld_at_old w e s k hk⟩
  size := Lib.bytesWorld_size w e s
  row := ⟨zsT_len s, (fun e => by cases e), (fun ad had j u hj => by
    cases had
    rw [add_offR, Nat.zero_add]
    have hl : j < s.size := by have := (List.getElem?_eq_some_iff.1 hj).1; rw [List.length_map, zsT_len] at this; exact this
    rw [Lib.bytesWorld_cell w e s j hl]
    have hl2 : j < s.data.toList.length := by rw [Array.length_toList]; exact hl
    unfold zsT at hj
    rw [List.getElem?_map, List.getElem?_map, List.getElem?_eq_getElem hl2] at hj
    rw [← hj, List.getD_eq_getElem?_getD, List.getElem?_eq_getElem hl2]
    rfl), zsT_small s, grownCap_ge w s.size 0 e⟩
  cap := by
    have := grownCap_le_maxLen w s.size 0 e (by unfold maxLen; omega)
    unfold maxLen at this
    omega
theorem wpl_bytesT {w : World} {ops : Array Oper} {rest : List Oper} {o : Oper} {a : Act} {Q : Exit → Act → World → Prop} (hw : Region.wanted o (yielded ops a.tmps) = true) (src dst e : TypeId) (x : Operand) (ho : o.op = .convert src dst x) (s : ByteArray) (hx : a.eval x = .string s) (hsz : s.size ≤ 140737488351232)
    (hs : Tryz.prog.underlying src = some .string) (hd : Tryz.prog.underlying dst = some (.slice e)) (he : Tryz.prog.underlying e = some (.int .u8))
    (h : ∀ w' cap, Hid (FreshT w w' s cap) → wpList Tryz.prog ops Q rest (a.put o.dst (.slice (some ⟨w.heap.size, 0, none⟩) s.size cap)) w') : wpList Tryz.prog ops Q (o :: rest) a w := by
  refine wpList_step fun K hK => ?_
  rw [if_pos hw]
  have hr := Lib.run_convert_string_bytes (P := Tryz.prog) w src dst e s hs hd he
  unfold Oper.wp
  simp [execOp, ho, hx, hr, Result.andThen]
  exact hK _ _ (h _ _ (freshT_of w e s hsz))
theorem set78 {w : World} {q : Nat} {z0 z1 z2 z3 z4 z5 z6 z7 z8 z9 z10 : Value} {T : TypeId} (h : w.heap[q]? = some (.cells #[z0, z1, z2, z3, z4, z5, z6, z7, z8, z9, z10] T (0, 0))) (y7 y8 : Value) :
    ((w.setCell ⟨q, 7, none⟩ y7).setCell ⟨q, 8, none⟩ y8).heap[q]? = some (.cells #[z0, z1, z2, z3, z4, z5, z6, y7, y8, z9, z10] T (0, 0)) := by
  have e0 := heap_setCell_same w q 7 _ T y7 h
  simp only [List.setIfInBounds_toArray, List.set_cons_zero, List.set_cons_succ] at e0
  have e1 := heap_setCell_same _ q 8 _ T y8 e0
  simpa only [List.setIfInBounds_toArray, List.set_cons_zero, List.set_cons_succ] using e1
/-- what read answers: place, fault -/
def rdF (t : ByteArray) : Int × Int := if (lsF t).2.2.2 = 0 then (if (lsF t).1 = [] then (0, 127) else (0, 0)) else ((lsF t).2.2.1, 121)
/-- what read leaves -/
structure RdOk (w w' : World) (g : Nat) (x : Bv) (fn : Fn) (hv wv : Value) (al : Option Addr) (cl : Nat) (ap : Option Addr) (cp : Nat) : Prop where
  os : w'.os = w.os
  tape : w'.tape = w.tape
  output : w'.output = w.output
  size : w.heap.size ≤ w'.heap.size
  oth : ∀ b, b < w.heap.size → b ≠ g → w'.heap[b]? = w.heap[b]?
  box : w'.heap[g]? = some (.cells ({ x with al := al, nl := (lsF fn.2.2.2).1.length, cl := cl, ap := ap, np := (lsF fn.2.2.2).2.1.length, cp := cp }.cells fn hv wv) 174 (0, 0))
  ins : w'.ownsRow w.heap.size 36 2 (.slice al (lsF fn.2.2.2).1.length cl) (lsF fn.2.2.2).1.length (insV (lsF fn.2.2.2).1)
  pls : w'.ownsRow w.heap.size 3 1 (.slice ap (lsF fn.2.2.2).2.1.length cp) (lsF fn.2.2.2).2.1.length ((lsF fn.2.2.2).2.1.map (Value.int .i64))
set_option maxRecDepth 100000 in
set_option maxHeartbeats 4000000 in
theorem read_any (x : Bv) (fn : Fn) (hv wv : Value) (w : World) (g : Nat) (hbox : w.heap[g]? = some (.cells (x.cells fn hv wv) 174 (0, 0))) (hT : Tab2 w) (hts : fn.2.2.2.size ≤ 4000) :
    Calls Tryz.prog 69 #[.pointer (some ⟨g, 0, none⟩)] w fun e w' => e = .returned (.tuple #[.int .i64 (rdF fn.2.2.2).1, .int .i64 (rdF fn.2.2.2).2]) ∧ ((¬ (rdF fn.2.2.2).2 = 0 ∧ Below w.heap.size w w') ∨ ((rdF fn.2.2.2).2 = 0 ∧ ∃ al cl ap cp, RdOk w w' g x fn hv wv al cl ap cp)) := by
  obtain ⟨e0, e1, e2, e3, e4, e5, e6, e7, e8, e9, e10⟩ := row_cell11 hbox
  have hgl : g < w.heap.size := (Array.getElem?_eq_some_iff.1 hbox).1
  obtain ⟨G, hG⟩ : ∃ G, w.heap.size = G := ⟨_, rfl⟩
  obtain ⟨fp, fl, fk, ft⟩ := fn
  simp only [] at e6 hts ⊢
  have HB := hide (And.intro hbox hT)
  have CL : Hid (∀ (u : World) (cap : Nat), FreshT w u ft cap → Calls Tryz.prog 121 #[.slice (some ⟨G, 0, none⟩) ft.size cap] u fun e w' => ∃ al cl ap cp, e = .returned (.tuple #[.slice al (lsF ft).1.length cl, .slice ap (lsF ft).2.1.length cp, .int .i64 (lsF ft).2.2.1, .int .i64 (lsF ft).2.2.2]) ∧ Listed u w' (lsF ft) al cl ap cp) := hide (fun u cap hu => by
    have hc := cntI_le (zsT ft) ft.size 0
    have := list_any (some ⟨w.heap.size, 0, none⟩) ft.size cap (zsT ft) u (hT.below hu.below) hu.row hu.cap (by omega)
    rw [← zsT_len ft] at this ⊢
    rw [← hG]
    exact this)
  obtain ⟨r, hr⟩ : ∃ r, lsF ft = r := ⟨_, rfl⟩
  obtain ⟨F, hF⟩ : ∃ F, rdF ft = F := ⟨_, rfl⟩
  have hF' := hF
  unfold rdF at hF'
  rw [hr] at hF' CL
  rw [hF]
  have HF := hide (And.intro hF' hr)
  obtain ⟨rl, rp, ra, re⟩ := r
  simp only [] at CL HF
  obtain ⟨ln, hln⟩ : ∃ ln, rl.length = ln := ⟨_, rfl⟩
  obtain ⟨pn, hpn⟩ : ∃ pn, rp.length = pn := ⟨_, rfl⟩
  rw [hln, hpn] at CL
  have HLN := hide (And.intro hln hpn)
  clear hbox hT hr hF hF' e0 e1 e2 e3 e4 e5 e7 e8 e9 e10 hln hpn
  have tok1 : True := trivial
  go_enter Tryz.func69, Tryz.ntmps69
  go_wp2_with (first | (have _t := tok1; refine wpl_bytesT rfl 9 90 5 (.tmp 13) rfl ft rfl (by omega) Tryz.underlying9 Tryz.underlying90 Tryz.underlying5 ?_; clear tok1; intro w1 cap H1))
  first | rw [hG] | skip
  refine (unhide CL w1 cap (unhide H1)).mono ?_
  rintro e w2 ⟨al, cl, ap, cp, rfl, HLd⟩
  have H2 := hide HLd
  have B2 : Hid (Below w.heap.size w w2) := hide ((unhide H1).below.trans (HLd.below.mono (unhide H1).below.size))
  clear HLd CL
  by_cases hre : re = 0
  · subst hre
    by_cases hl0 : ln = 0
    · subst hl0
      have HE : Hid (F = (0, 127)) := hide (by
        have h1 := (unhide HF).1
        rw [if_pos rfl, if_pos (List.eq_nil_of_length_eq_zero (unhide HLN).1)] at h1
        exact h1.symm)
      go_wp2_with fail
      go_ret2
      exact ⟨by rw [unhide HE]; rfl, .inl ⟨by rw [unhide HE]; simp, by first | exact unhide B2 | (rw [← hG]; exact unhide B2)⟩⟩
    · have HE : Hid (F = (0, 0)) := hide (by
        have h1 := (unhide HF).1
        rw [if_pos rfl, if_neg (fun e => hl0 (by rw [← (unhide HLN).1, e]; rfl))] at h1
        exact h1.symm)
      have hl0' : ¬ (ln : Int) = 0 := by omega
      have ql0 : ((ln : Int) == 0) = false := by simpa using hl0
      have bx2 := ((unhide B2).block g (by omega)).trans (unhide HB).1
      obtain ⟨k0, k1, k2, k3, k4, k5, k6, k7, k8, k9, k10⟩ := row_cell11 bx2
      have fz7 := frozen_of_row w2 g 7 _ _ bx2
      have fz8 := frozen_of_row w2 g 8 _ _ bx2
      have HBX := hide bx2
      clear bx2 k0 k1 k2 k3 k4 k5 k6 k9 k10
      go_wp2_with fail
      go_ret2
      refine ⟨by rw [unhide HE]; rfl, .inr ⟨by rw [unhide HE], al, cl, ap, cp, ?_⟩⟩
      have hrr := (unhide HF).2
      have hb2 := unhide B2
      have hgw : g < w.heap.size := by omega
      have hoth : ∀ b, b ≠ g → ((w2.setCell ⟨g, 7, none⟩ (.slice al ln cl)).setCell ⟨g, 8, none⟩ (.slice ap pn cp)).heap[b]? = w2.heap[b]? := fun b hb => by
        rw [heap_setCell_other _ _ _ _ hb, heap_setCell_other _ _ _ _ hb]
      refine ⟨hb2.os, hb2.tape, hb2.output, by simpa using hb2.size, fun b h1 h2 => (hoth b h2).trans (hb2.block b h1), ?_, ?_, ?_⟩
      · have := set78 (unhide HBX) (.slice al ln cl) (.slice ap pn cp)
        simp only [hrr, (unhide HLN).1, (unhide HLN).2]
        exact this
      · have h1 := own_low (unhide H2).ins (unhide H1).below.size
        simp only [hrr]
        rw [(unhide HLN).1] at h1 ⊢
        exact own_later h1 (fun b hl hb => hoth b (fun e => by have := (h1.lt b hb).1; omega))
      · have h1 := own_low (unhide H2).pls (unhide H1).below.size
        simp only [hrr]
        rw [(unhide HLN).2] at h1 ⊢
        exact own_later h1 (fun b hl hb => hoth b (fun e => by have := (h1.lt b hb).1; omega))
  · have qre : (re == 0) = false := by simpa using hre
    have HE : Hid (F = (ra, 121)) := hide (by
      have h1 := (unhide HF).1
      rw [if_neg hre] at h1
      exact h1.symm)
    go_wp2_with fail
    go_ret2
    exact ⟨by rw [unhide HE]; rfl, .inl ⟨by rw [unhide HE]; simp, by first | exact unhide B2 | (rw [← hG]; exact unhide B2)⟩⟩
set_option maxRecDepth 100000 in
set_option maxHeartbeats 4000000 in
theorem operands_any {w : World} {B g : Nat} {x : Bv} {m : Md} {fn : Fn} {ls : List Ins} {ps : List Int} {hv wv : Value} (h : SeeB w B g x m fn ls ps hv wv) (hps : ps.Pairwise (· < ·)) (hlp : ls.length = ps.length) :
    Calls Tryz.prog 70 #[.pointer (some ⟨g, 0, none⟩)] w fun e w' => e = .returned (.tuple #[.int .i64 (opsE m fn.2.1 ps ls ps).1, .int .i64 (opsE m fn.2.1 ps ls ps).2]) ∧ Below w.heap.size w w' := by
  obtain ⟨R, hR⟩ : ∃ R, opsE m fn.2.1 ps ls ps = R := ⟨_, rfl⟩
  rw [hR]
  obtain ⟨b1, n1, d1, b2, n2, d2, b3, n3, d3, bl, nl, dl, bp, np, dp⟩ := x
  have HS := hide (And.intro h (And.intro hps hlp))
  have hnl := h.ll
  have hb8 := h.bp
  have hnp := h.lp
  simp only [] at hnl hb8 hnp
  have hn4 : nl ≤ 4000 := by omega
  obtain ⟨e0, e1, e2, e3, e4, e5, e6, e7, e8, e9, e10⟩ := h.cells
  simp only [] at e7
  have HR := hide hR
  obtain ⟨N, hN⟩ : ∃ N, nl = N := ⟨_, rfl⟩
  rw [hN] at e7 hn4
  have HN := hide (And.intro hN (And.intro hnl hnp))
  clear h hps hlp hR e0 e1 e2 e3 e4 e5 e6 e8 e9 e10 hnl hb8 hnp hN
  go_enter Tryz.func70, Tryz.ntmps70
  go_wp2_with fail
  go_loopw [12] (fun v wr => ∃ i : Nat, v = .int .i64 (i : Int) ∧ Hid (i ≤ N) ∧ Hid (Below w.heap.size w wr ∧ opsE m fn.2.1 ps (ls.drop i) (ps.drop i) = R)) (fun v _ => N - (intOf v).toNat)
  case atStart => exact ⟨0, rfl, hide (by omega), hide ⟨Below.refl _ _, by rw [List.drop_zero, List.drop_zero]; exact unhide HR⟩⟩
  case round =>
    obtain ⟨i, rfl, Hi, HX⟩ := hrel
    by_cases hlt : i < N
    · have j1 : (i : Int) < (N : Int) := by omega
      obtain ⟨⟨op, a⟩, hy⟩ : ∃ y, ls[i]? = some y := ⟨_, List.getElem?_eq_getElem (by have := unhide HN; omega)⟩
      obtain ⟨pz, hpz⟩ : ∃ y, ps[i]? = some y := ⟨_, List.getElem?_eq_getElem (by have := unhide HN; have := (unhide HS).2.2; omega)⟩
      have SB := (unhide HS).1.later (unhide HX).1
      obtain ⟨ad, had, r0, r1⟩ := SB.ins i _ hy
      obtain ⟨pd, hpd, r2⟩ := SB.pls i _ hpz
      simp only [] at r0 r1 had hpd
      subst had hpd
      have hfl := SB.fl _ (List.mem_of_getElem? hy)
      simp only [] at hfl
      have hd1 : ls.drop i = (op, a) :: ls.drop (i + 1) := by
        rw [List.drop_eq_getElem_cons (List.getElem?_eq_some_iff.1 hy).1]
        congr 1
        exact (List.getElem?_eq_some_iff.1 hy).2
      have hd2 : ps.drop i = pz :: ps.drop (i + 1) := by
        rw [List.drop_eq_getElem_cons (List.getElem?_eq_some_iff.1 hpz).1]
        congr 1
        exact (List.getElem?_eq_some_iff.1 hpz).2
      have hst := (unhide HX).2
      rw [hd1, hd2] at hst
      unfold opsE at hst
      obtain ⟨w1, hw1⟩ : ∃ w1, wr.alloc (.cells #[.int .i64 op, .int .i64 a] 36) = w1 := ⟨_, rfl⟩
      have B1 : Below wr.heap.size wr w1 := by rw [← hw1]; exact (Below.refl _ _).alloc (Nat.le_refl _) _
      have A1 : w1.heap[wr.heap.size]? = some (.cells #[.int .i64 op, .int .i64 a] 36 (0, 0)) := by rw [← hw1]; exact heap_alloc_new _ _
      have c0 : w1.cell? ⟨wr.heap.size, 0, none⟩ = some (.int .i64 op) := by rw [cell_of_row w1 _ 0 _ _ (0, 0) A1]; rfl
      have c1 : w1.cell? ⟨wr.heap.size, 1, none⟩ = some (.int .i64 a) := by rw [cell_of_row w1 _ 1 _ _ (0, 0) A1]; rfl
      have CO := hide (operand_any (SB.later B1) (unhide HS).2.1 op a hfl)
      obtain ⟨E, hE⟩ : ∃ E, opE m fn.2.1 ps (op, a) = E := ⟨_, rfl⟩
      rw [hE] at CO hst
      have e7' := cell_ne e7 ((unhide HX).1.block _ (cell_lt e7))
      have e8' := SB.cells.2.2.2.2.2.2.2.2.1
      simp only [] at e8'
      have HB1 : Hid (Below w.heap.size w w1) := hide ((unhide HX).1.trans (B1.mono (unhide HX).1.size))
      have HST := hide hst
      have K8 : Hid (∀ u, Below w1.heap.size w1 u → u.cell? ⟨g, 8, none⟩ = some (.slice (some pd) np dp) ∧ u.cell? (pd.add i) = some (.int .i64 pz)) := hide (fun u hu => by
        have c8 := cell_ne e8' (B1.block _ (cell_lt e8'))
        have c2 := cell_ne r2 (B1.block _ (cell_lt r2))
        exact ⟨cell_ne c8 (hu.block _ (cell_lt c8)), cell_ne c2 (hu.block _ (cell_lt c2))⟩)
      have hip : (i : Int) < (np : Int) := by have := unhide HN; have := (unhide HS).2.2; omega
      clear hst hE SB B1 A1 hd1 hd2 hy hpz hfl r2 e8' e7'
      go_wp2_with fail
      refine (unhide CO).mono ?_
      rintro e w2 ⟨rfl, b2⟩
      have H2 : Hid (Below w.heap.size w w2) := hide ((unhide HB1).trans (b2.mono (unhide HB1).size))
      obtain ⟨g8, g2⟩ := unhide K8 w2 b2
      clear b2 CO c0 c1
      by_cases hE0 : E = 0
      · subst hE0
        have H3 : Hid (opsE m fn.2.1 ps (ls.drop (i + 1)) (ps.drop (i + 1)) = R) := hide (by
          have := unhide HST
          rw [if_pos (by trivial)] at this
          exact this)
        clear g8 g2
        go_wp2_with fail
        go_roundw
        case rel => exact ⟨i + 1, by go_num, hide (by omega), hide ⟨unhide H2, unhide H3⟩⟩
        case measure => simp [intOf]; omega
      · have qE : (E == 0) = false := by simpa using hE0
        have HE : Hid (R = (pz, E)) := hide (by
          have := unhide HST
          rw [if_neg hE0] at this
          exact this.symm)
        go_wp2_with fail
        go_ret2
        exact ⟨by rw [unhide HE]; rfl, unhide H2⟩
    · have j1 : ¬ (i : Int) < (N : Int) := by omega
      have HE : Hid (R = (0, 0)) := hide (by
        rw [← (unhide HX).2, List.drop_of_length_le (by have := unhide HN; omega)]
        rfl)
      go_wp2_with fail
      go_ret2
      exact ⟨by rw [unhide HE]; rfl, (unhide HX).1⟩
end Go.Proofs.YtmnbfcpkaglniaaGreatDoor
