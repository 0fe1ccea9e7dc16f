/-
  Layer 17 (parse): the document's reader: rows of expressions; conditions: the reader's state.
-/
import Derived.Test.YtgalfhlclmkbfaaGreatDoorD15
import Derived.Deep.LoopGhost
set_option linter.unusedVariables false
set_option linter.unusedSimpArgs false
namespace Go.Proofs.YtgalfhlclmkbfaaGreatDoor
open Go.RowKit
set_option linter.unusedVariables false
set_option linter.unusedSimpArgs false
theorem wpl_appQ {w : World} {ops : Array Oper} {rest : List Oper} {o : Oper} {a : Act} {Q : Exit → Act → World → Prop} (hgd : o.guard = none) (s x : Operand) (ho : o.op = .call { callee := .builtin .append, args := #[s, x], argTypes := #[27, 27] })
  (base : Nat) (v : Value) (n : Nat) (xs : List Value) (hs : a.eval s = v) (hown : w.ownsRow base 29 10 v n xs) (q : Nat) (cs : Array Value) (hx : a.eval x = .slice (some ⟨q, 0, none⟩) 1 1) (hq : w.heap[q]? = some (.cells cs 29 (0, 0))) (hl : cs.toList.length = 1 * 10) (h1 : ∀ u ∈ cs.toList, u.oneCell' = true)
  (hn : n + 1 ≤ 1000000) (hbase : base ≤ w.heap.size)
  (h : ∀ g cap w', Hid (w'.ownsRow base 29 10 (.slice (some ⟨g, 0, none⟩) (n + 1) cap) (n + 1) (xs ++ cs.toList) ∧ w.grownBy w' v.ownBlock ∧ (v.ownBlock = some g ∨ g = w.heap.size)) → wpList Tryz.prog ops Q rest (a.put o.dst (.slice (some ⟨g, 0, none⟩) (n + 1) cap)) w') : wpList Tryz.prog ops Q (o :: rest) a w := by
 obtain ⟨ind, hi0, hi1, hi2, hi3⟩ := info_nd
 refine wpList_step fun K hK => ?_
 exact step_append_lies w hgd s x 27 ho base 29 ind _ 10 144 Tryz.underlying27 hi0 hi1 hi2 hi3 rfl (by omega) v n xs hs hown ⟨q, 0, none⟩ 1 1 cs.toList hx hl (World.news_of_block hq) h1 (by omega) (by unfold maxLen; omega) (by omega) hbase _ rfl (fun g cap w' a b c _ => hK _ _ (h g cap w' (hide ⟨a, b, c⟩)))
theorem Rq.two {w w' : World} {c : Cx} {σ : Sg} (h : Rq w c σ) (hg : w'.heap[c.g]? = w.heap[c.g]?) (ht : w'.heap[c.tb]? = w.heap[c.tb]?) (hs : w.heap.size ≤ w'.heap.size) : Rq w' c σ := by
 refine ⟨hg.trans h.box, h.ix, fun i t hi => ?_, h.apart, h.cap, h.len⟩
 obtain ⟨b, e, h1, h2, h3, h4, h5⟩ := h.row i t hi
 injection e with e0
 injection e0 with e0
 subst e0
 exact ⟨c.tb, rfl, Nat.lt_of_lt_of_le h1 hs, (World.cell?_of_block ht).trans h2, (World.cell?_of_block ht).trans h3, (World.cell?_of_block ht).trans h4, (World.cell?_of_block ht).trans h5⟩
theorem Sq0.below2 {w : World} {c : Cx} {u u' : World} {σ : Sg} {d B : Nat} (h : Sq0 w c u σ d) (b : Below B u u') (hB : w.heap.size ≤ B) : Sq0 w c u' σ d :=
 ⟨h.rd.two (b.block _ (by have := h.g1; omega)) (b.block _ (by have := h.t1; omega)) b.size, ⟨b.os.trans h.bs.os, b.tape.trans h.bs.tape, b.output.trans h.bs.output, Nat.le_trans h.bs.size b.size, fun k hk hn => (b.block k (by omega)).trans (h.bs.block k hk hn)⟩, h.g1, h.t1⟩
theorem RJ_fuel {T : List Tk} {f j x : Nat} {acc : List Nd} {σ : Sg} {r : List Nd × Sg} (h : RJ T f j x acc σ = some r) : ∃ g, f = g + 1 := by
 cases f with
 |zero => cases h
 |succ g => exact ⟨g, rfl⟩
set_option maxRecDepth 100000 in
set_option maxHeartbeats 2000000 in
theorem listq_step {c : Cx} {σ : Sg} {w w1 : World} {r : List Nd × Sg} {f x : Nat} (hf : f ≤ 500000) (cl : List UInt8) (hcl : chQ x = cl) (ihe : ∀ {f1 : Nat}, f1 ≤ f → ∀ {c : Cx} {σ : Sg} {w : World} {r : List Nd × Sg}, RJ c.ts f1 0 0 [] σ = some r → Rq w c σ → Calls Tryz.prog 23 #[.pointer (some ⟨c.g, 0, none⟩)] w fun e w' => NqP c w r e w') (hJ : RJ c.ts (f + 1) 6 x [] σ = some r) (hws : w = w1) (h : Rq w1 c σ) :
  Calls Tryz.prog 131 #[.pointer (some ⟨c.g, 0, none⟩), .string (bA cl)] w1 fun e w' => KqP c w r e w' := by
 have S1 := hide (Sq0.start (d := 0) hws h)
 have hgw : c.g < w.heap.size := by rw [hws]; exact h.frz.2.2.2.2
 clear h hws
 go_enter Tryz.func131, Tryz.ntmps131
 have HJ0 := hide (show qList c.ts (RJ c.ts f) x σ = some r from hJ)
 clear hJ
 have HJ1 := hide ((by have := unhide HJ0; unfold qList at this; rw [hcl] at this; exact this))
 clear HJ0
 rcases Bool.eq_false_or_eq_true (isQ c.ts 5 cl σ) with hq | hq
 ·have HJ2 := hide ((by have := (unhide HJ1); rw [if_pos hq] at this; exact this))
  clear HJ1
  have CC := hide ((by have := signq_any (unhide S1).rd cl; rw [hq] at this; exact this))
  go_wp2_with fail
  refine (unhide CC).mono ?_
  rintro e w2 ⟨rfl, b⟩
  have S2 := hide ((unhide S1).below b)
  clear b CC S1
  go_wp2_with fail
  go_loopg [5] 0 (fun gk v5 wr => v5 = .slice none 0 0 ∧ Hid (Sq0 w c wr σ 0))
  case atStart => exact ⟨rfl, S2⟩
  case round =>
   have HJ60 := HJ2
   clear HJ2 S2
   obtain ⟨rfl, HI⟩ := hrel
   obtain ⟨w50, hw50⟩ : ∃ zz, zz = wr := ⟨_, rfl⟩
   subst hw50
   have S50 := HI
   clear HI
   have CC := hide (closes_any (unhide S50).rd cl)
   go_wp2_with fail
   refine (unhide CC).mono ?_
   rintro e w51 ⟨rfl, r2, b⟩
   have S51 := hide ((unhide S50).go (d' := 0) b r2)
   clear b r2 CC S50
   have HR := hide (okq_some (unhide HJ60))
   go_wp2_with fail
   go_ret
   rw [unhide HR]
   exact ⟨none, 0, [], [], rfl, Kr.nil (unhide S51).lt, (unhide S51).rd, (unhide S51).bs⟩
 ·have HJ2 := hide ((by have := (unhide HJ1); rw [if_neg (by rw [hq]; decide)] at this; exact this))
  clear HJ1
  have CC := hide ((by have := signq_any (unhide S1).rd cl; rw [hq] at this; exact this))
  go_wp2_with fail
  refine (unhide CC).mono ?_
  rintro e w2 ⟨rfl, b⟩
  have S2 := hide ((unhide S1).below b)
  clear b CC S1
  go_wp2_with fail
  go_loopg [5] f (fun gk v5 wr => ∃ (acc : List Nd) (sa : Sg) (na : Nat) (ak : Option Addr) (ck : Nat) (C : List Value) (Sa : List Nat), v5 = .slice ak na ck ∧ Hid (gk ≤ f ∧ RJ c.ts gk 7 x acc sa = some r ∧ acc.length = na ∧ na + gk ≤ f) ∧ Hid (Sq0 w c wr sa 0 ∧ Kr w.heap.size wr acc (.slice ak na ck) C Sa))
  case atStart => exact ⟨[], σ, 0, none, 0, _, _, rfl, hide ⟨Nat.le_refl _, (unhide HJ2), rfl, by omega⟩, hide ⟨unhide S2, Kr.nil (unhide S2).lt⟩⟩
  case round =>
   clear HJ2 S2
   obtain ⟨acc, sa, na, ak, ck, Ca, Sa, rfl, HA, HI⟩ := hrel
   obtain ⟨w50, hw50⟩ : ∃ zz, zz = wr := ⟨_, rfl⟩
   subst hw50
   have S50 := hide (unhide HI).1
   have HKa_50 := hide (unhide HI).2
   obtain ⟨g1, hg1⟩ := RJ_fuel (unhide HA).2.1
   subst hg1
   have HJ60 := hide (show qListL c.ts (RJ c.ts g1) x acc sa = some r from (unhide HA).2.1)
   have hlna := (unhide HA).2.2.1
   have hbnb := (unhide HA).2.2.2
   have hgf := (unhide HA).1
   clear HI HA
   have HJ61 := hide ((by have := unhide HJ60; unfold qListL at this; rw [hcl] at this; exact this))
   clear HJ60
   by_cases he : sa.e = 0
   ·have HJ62 := hide ((by have := (unhide HJ61); rw [if_pos he] at this; exact this))
    clear HJ61
    have he0 : ((sa.e : Nat) : Int) = 0 := by omega
    have ec := (unhide S50).rd.cells.2.2.2.1
    rw [he0] at ec
    obtain ⟨nsy, sy, hy, hth⟩ := bq_some (unhide HJ62)
    have HJ63 := hide (hth)
    clear HJ62
    clear hth
    have CR := hide (ihe (f1 := g1) (by omega) hy (unhide S50).rd)
    clear hy
    go_wp2_with fail
    refine (unhide CR).mono ?_
    rintro e w51 ⟨ky, ty, vky, vny, vsy, fy, ny, aky, cky, py, Zy, rfl, hly, hn, r2, b⟩
    simp only [] at hly hn r2
    have S51 := hide ((unhide S50).go (d' := 0) b r2)
    have HKa_51 := hide ((unhide HKa_50).beside b (by omega))
    obtain ⟨loy, hlo⟩ : ∃ zz, w50.heap.size = zz := ⟨_, rfl⟩
    have ltloy : w.heap.size ≤ loy := by rw [← hlo]; exact (unhide S50).lt
    have HWa_y := hide ((unhide HKa_50).vlt hlo)
    have lea_y := (unhide HKa_50).ok.le
    rw [hlo] at lea_y
    rw [hlo] at hn
    have HNy_51 := hide hn
    clear hlo b r2 hn CR S50 HKa_50
    go_upto_region 5 with fail
    obtain ⟨w52, hw⟩ : ∃ zz, w51.alloc (.cells #[.int .i64 (ky : Int), .string (bA ty), .int .i64 (vky : Int), .int .i64 (vny : Int), .string (bA vsy), .slice none 0 0, .slice none 0 0, .bool fy, .slice aky ny cky, .int .i64 (py : Int)] 29) = zz := ⟨_, rfl⟩
    have b : Below w51.heap.size w51 w52 := by rw [← hw]; exact (Below.refl _ _).alloc (Nat.le_refl _) _
    obtain ⟨X, hQ⟩ : ∃ zz, w51.heap.size = zz := ⟨_, rfl⟩
    have HBX_52 : Hid (w52.heap[X]? = some (.cells #[.int .i64 (ky : Int), .string (bA ty), .int .i64 (vky : Int), .int .i64 (vny : Int), .string (bA vsy), .slice none 0 0, .slice none 0 0, .bool fy, .slice aky ny cky, .int .i64 (py : Int)] 29 (0, 0))) := hide (by rw [← hw, ← hQ]; exact heap_alloc_new _ _)
    have S52 := hide ((unhide S51).below b)
    have HKa_52 := hide ((unhide HKa_51).beside (Beside.of_below (gr := c.g) b) (by omega))
    have HNy_52 := hide ((unhide HNy_51).beside (Beside.of_below (gr := c.g) b) (by omega))
    have APa_X := hide ((unhide HKa_51).fresh hQ)
    have ANy_X := hide ((unhide HNy_51).fresh hQ)
    have ltX : w.heap.size ≤ X := by rw [← hQ]; exact (unhide S51).lt
    rw [hw]
    try rw [hQ]
    clear hw hQ b S51 HKa_51 HNy_51
    obtain ⟨Xo0, Xo1, Xo2, Xo3, Xo4, Xo5, Xo6, Xo7, Xo8, Xo9⟩ := row_cell10 (unhide HBX_52)
    obtain ⟨w53, hwr⟩ : ∃ zz, w52.alloc (.cells #[.int .i64 (ky : Int), .string (bA ty), .int .i64 (vky : Int), .int .i64 (vny : Int), .string (bA vsy), .slice none 0 0, .slice none 0 0, .bool fy, .slice aky ny cky, .int .i64 (py : Int)] 29) = zz := ⟨_, rfl⟩
    have b : Below w52.heap.size w52 w53 := by rw [← hwr]; exact (Below.refl _ _).alloc (Nat.le_refl _) _
    obtain ⟨hx, hhx⟩ : ∃ zz, w52.heap.size = zz := ⟨_, rfl⟩
    have at4 : Hid (w53.heap[hx]? = some (.cells #[.int .i64 (ky : Int), .string (bA ty), .int .i64 (vky : Int), .int .i64 (vny : Int), .string (bA vsy), .slice none 0 0, .slice none 0 0, .bool fy, .slice aky ny cky, .int .i64 (py : Int)] 29 (0, 0))) := hide (by rw [← hwr, ← hhx]; exact heap_alloc_new _ _)
    have S53 := hide ((unhide S52).below b)
    have HBX_53 := bx_be HBX_52 b
    have HKa_53 := hide ((unhide HKa_52).beside (Beside.of_below (gr := c.g) b) (by omega))
    have HNy_53 := hide ((unhide HNy_52).beside (Beside.of_below (gr := c.g) b) (by omega))
    clear b S52 HBX_52 HKa_52 HNy_52
    have hkl := (unhide HKa_53).own
    rw [hlna] at hkl
    have HKL := hide hkl
    clear hkl
    have tokA : True := trivial
    have bbL : ∀ u : World, w53.grownBy u (Value.slice ak na ck).ownBlock → Below w.heap.size w53 u := fun u hg => (Below.refl _ _).grown hg (unhide HKa_53).ok.le (fun z hz => ((unhide HKa_53).own.lt z hz).1)
    have HBL := hide bbL
    clear bbL
    go_upto_region 6 with (first | (at_builtin; have _t := tokA; refine wpl_appQ rfl (.tmp 23) (.tmp 25) rfl w.heap.size (.slice ak na ck) na _ rfl (unhide HKL) hx #[.int .i64 (ky : Int), .string (bA ty), .int .i64 (vky : Int), .int .i64 (vny : Int), .string (bA vsy), .slice none 0 0, .slice none 0 0, .bool fy, .slice aky ny cky, .int .i64 (py : Int)] rfl (unhide at4) rfl (ndC_one _ _ _ _ _ _ _ _ _ _) (by omega) (unhide HKa_53).ok.le ?_; clear tokA; intro g5 cap5 w54 H5))
    have bb := (unhide HBL) _ (unhide H5).2.1
    have S54 := hide ((unhide S53).below2 bb (Nat.le_refl _))
    have HKn_54 := hide (Kr.push (unhide HKa_53) (unhide HNy_53) (by omega) (unhide HWa_y).2 (unhide HWa_y).1 (unhide H5).1 (by rw [List.length_append, hly, hlna]) (unhide H5).2.1 (unhide H5).2.2)
    clear bb H5 HKL at4 hwr hhx HBL HKa_53 HNy_53 HBX_53 S53 Xo0 Xo1 Xo2 Xo3 Xo4 Xo5 Xo6 Xo7 Xo8 Xo9
    rcases Bool.eq_false_or_eq_true (isQ c.ts 5 [44] sy) with hq2 | hq2
    ·have HJ64 := hide ((by have := (unhide HJ63); rw [if_pos hq2] at this; exact this))
     clear HJ63
     have CC := hide ((by have := signq_any (unhide S54).rd [44]; rw [hq2] at this; exact this))
     go_wp2_with fail
     refine (unhide CC).mono ?_
     rintro e w55 ⟨rfl, b⟩
     have S55 := hide ((unhide S54).below b)
     have HKn_55 := hide ((unhide HKn_54).beside (Beside.of_below (gr := c.g) b) (by omega))
     clear b CC S54 HKn_54
     have CC := hide (next_any (unhide S55).rd)
     go_wp2_with fail
     refine (unhide CC).mono ?_
     rintro e w56 ⟨rfl, r2, b⟩
     have S56 := hide ((unhide S55).go (d' := 0) b r2)
     have HKn_56 := hide ((unhide HKn_55).beside b (by omega))
     clear b r2 CC S55 HKn_55
     go_wp2_with fail
     go_roundg g1
     case measure => omega
     case rel => exact ⟨acc ++ nsy, nxQ c.ts sy, na + 1, some ⟨g5, 0, none⟩, cap5, _, _, rfl, hide ⟨by omega, (unhide HJ64), by rw [List.length_append, hly, hlna], by omega⟩, hide ⟨unhide S56, unhide HKn_56⟩⟩
    ·have HJ64 := hide ((by have := (unhide HJ63); rw [if_neg (by rw [hq2]; decide)] at this; exact this))
     clear HJ63
     have CC := hide ((by have := signq_any (unhide S54).rd [44]; rw [hq2] at this; exact this))
     go_wp2_with fail
     refine (unhide CC).mono ?_
     rintro e w55 ⟨rfl, b⟩
     have S55 := hide ((unhide S54).below b)
     have HKn_55 := hide ((unhide HKn_54).beside (Beside.of_below (gr := c.g) b) (by omega))
     clear b CC S54 HKn_54
     have CC := hide (closes_any (unhide S55).rd cl)
     go_wp2_with fail
     refine (unhide CC).mono ?_
     rintro e w56 ⟨rfl, r2, b⟩
     have S56 := hide ((unhide S55).go (d' := 0) b r2)
     have HKn_56 := hide ((unhide HKn_55).beside b (by omega))
     clear b r2 CC S55 HKn_55
     have HR := hide (okq_some (unhide HJ64))
     have hl9 : (acc ++ nsy).length = na + 1 := by rw [List.length_append, hly, hlna]
     have HL9 := hide hl9
     clear hl9
     go_wp2_with fail
     go_ret
     rw [unhide HR]
     exact ⟨some ⟨g5, 0, none⟩, cap5, _, _, by show _ = Ending.returned (.slice _ (acc ++ nsy).length _); rw [unhide HL9]; rfl, by show Kr _ _ _ (.slice _ (acc ++ nsy).length _) _ _; rw [unhide HL9]; exact unhide HKn_56, (unhide S56).rd, (unhide S56).bs⟩
   ·have HJ62 := hide ((by have := (unhide HJ61); rw [if_neg he] at this; exact this))
    clear HJ61
    have he0 : ¬ ((sa.e : Nat) : Int) = 0 := by omega
    have he1 : (((sa.e : Nat) : Int) == 0) = false := beq_eq_false_iff_ne.2 he0
    have ec := (unhide S50).rd.cells.2.2.2.1
    have CC := hide (closes_any (unhide S50).rd cl)
    go_wp2_with fail
    refine (unhide CC).mono ?_
    rintro e w51 ⟨rfl, r2, b⟩
    have S51 := hide ((unhide S50).go (d' := 0) b r2)
    have HKa_51 := hide ((unhide HKa_50).beside b (by omega))
    clear b r2 CC S50 HKa_50
    have HR := hide (okq_some (unhide HJ62))
    go_wp2_with fail
    go_ret
    rw [unhide HR]
    exact ⟨ak, ck, _, _, by rw [hlna]; rfl, by rw [hlna]; exact unhide HKa_51, (unhide S51).rd, (unhide S51).bs⟩
end Go.Proofs.YtgalfhlclmkbfaaGreatDoor
