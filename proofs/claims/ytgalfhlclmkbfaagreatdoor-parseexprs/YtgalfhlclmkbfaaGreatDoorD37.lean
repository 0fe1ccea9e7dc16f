/-
  Layer 17 (parse): parts with commas between; conditions: the reader's state.
-/
import Derived.Test.YtgalfhlclmkbfaaGreatDoorD11
import Derived.Deep.LoopGhost
set_option linter.unusedVariables false
set_option linter.unusedSimpArgs false
namespace Go.Proofs.YtgalfhlclmkbfaaGreatDoor
open Go.RowKit
set_option linter.unusedVariables false
set_option linter.unusedSimpArgs false
set_option maxRecDepth 100000 in
set_option maxHeartbeats 8000000 in
theorem parts_p0 {c : Cx} {l : List Tk} {d : Nat} {w w1 : World} {r : Rs (List Nd)} {f x : Nat} (cl : List UInt8) (hcl : clX x = cl) (ihp : ∀ {f1 : Nat}, f1 ≤ f → ∀ {c : Cx} {l : List Tk} {d : Nat} {w : World} {r : Rs (List Nd)}, jPart (PJ f1) x l d = some r → Rd w c l d → Calls Tryz.prog 53 #[.pointer (some ⟨c.g, 0, none⟩)] w fun e w' => NdP c w d r e w') (hJ : PJ (f + 1) 6 x [] l d = some r) (hws : w = w1) (h : Rd w1 c l d) :
  Calls Tryz.prog 52 #[.pointer (some ⟨c.g, 0, none⟩), .string (bA cl), .func (Fn.func 53) #[.pointer (some ⟨c.g, 0, none⟩)] #[]] w1 fun e w' => KsP c w d r e w' := by
 have S1 := hide (St0.start hws h)
 have hgw : c.g < w.heap.size := by rw [hws]; exact h.cells.2.2.2.2.2
 have hnl : l.length ≤ 10000 := by have h1 := h.head; have h2 := h.len; omega
 clear h hws
 go_enter Tryz.func52, Tryz.ntmps52
 have HJ0 := hide (show jParts (PJ f) x l d = some r from hJ)
 clear hJ
 have HJ1 := hide ((by have := unhide HJ0; unfold jParts at this; exact this))
 clear HJ0
 have HJ2 := hide ((by have := (unhide HJ1); rw [hcl] at this; exact this))
 clear HJ1
 by_cases hb : isS cl l = true
 ·have hq : isS cl l = true := by simpa using hb
  have CC := hide ((by have := seesSign_any (unhide S1).rd cl; rw [hq] at this; exact this))
  go_wp2_with fail
  refine (unhide CC).mono ?_
  rintro e w2 ⟨rfl, b⟩
  have S2 := hide ((unhide S1).below b)
  clear b CC S1
  have HJ3 := hide ((by have := (unhide HJ2); rw [if_pos hq] at this; exact this))
  clear HJ2
  have HR := hide (okN_some (unhide HJ3))
  go_wp2_with fail
  go_ret
  rw [unhide HR]
  exact ⟨none, 0, [], [], rfl, Kr.nil (unhide S2).lt, (unhide S2).rd, (unhide S2).bs⟩
 ·have hq : isS cl l = false := by simpa using hb
  have CC := hide ((by have := seesSign_any (unhide S1).rd cl; rw [hq] at this; exact this))
  go_wp2_with fail
  refine (unhide CC).mono ?_
  rintro e w2 ⟨rfl, b⟩
  have S2 := hide ((unhide S1).below b)
  clear b CC S1
  have HJ3 := hide ((by have := (unhide HJ2); rw [if_neg (by rw [hq]; decide)] at this; exact this))
  clear HJ2
  obtain ⟨yx, hy, hth⟩ := bnd_some (unhide HJ3)
  have HJ4 := hide (hth)
  clear HJ3
  clear hth
  have CR := hide (ihp (Nat.le_refl f) hy (unhide S2).rd)
  have HYX := hide hy
  clear hy
  rcases yx with ⟨ea, ep⟩ | ⟨nsx, lx⟩
  ·have HR := hide (thn_err (unhide HJ4))
   go_wp2_with fail
   refine (unhide CR).mono ?_
   rintro e wx ⟨rfl, b⟩
   have HX := hide ((unhide S2).bad b)
   clear b CR
   unfold fltP
   go_wp2_with fail
   exact ⟨rfl, by rw [unhide HR]; exact ⟨rfl, unhide HX⟩⟩
  ·have HJ5 := hide (thn_ok (unhide HJ4))
   clear HJ4
   go_wp2_with fail
   refine (unhide CR).mono ?_
   rintro e w3 ⟨kx, tx, vkx, vnx, vsx, fx, nx, akx, ckx, px, Zx, rfl, hlx, hn, r2, b⟩
   have S3 := hide ((unhide S2).go b r2)
   obtain ⟨lox, hlo⟩ : ∃ zz, w2.heap.size = zz := ⟨_, rfl⟩
   have ltlox : w.heap.size ≤ lox := by rw [← hlo]; exact (unhide S2).lt
   rw [hlo] at hn
   have HNx_3 := hide hn
   clear hlo b r2 hn CR S2
   have hbna : 1 + lx.length ≤ 10000 := by have h1 := part_len (PJ_len f) (unhide HYX); have h2 := hnl; omega
   have hkn := hide (unhide HNx_3)
   obtain ⟨w4, hwr⟩ : ∃ zz, w3.alloc (.cells #[.int .i64 (kx : Int), .string (bA tx), .int .i64 (vkx : Int), .int .i64 (vnx : Int), .string (bA vsx), .slice none 0 0, .slice none 0 0, .bool fx, .slice akx nx ckx, .int .i64 (px : Int)] 29) = zz := ⟨_, rfl⟩
   have b : Below w3.heap.size w3 w4 := by rw [← hwr]; exact (Below.refl _ _).alloc (Nat.le_refl _) _
   obtain ⟨qr, hqr⟩ : ∃ zz, w3.heap.size = zz := ⟨_, rfl⟩
   have HKr_4 : Hid (Kr lox w4 _ (.slice (some ⟨qr, 0, none⟩) _ _) [.int .i64 (kx : Int), .string (bA tx), .int .i64 (vkx : Int), .int .i64 (vnx : Int), .string (bA vsx), .slice none 0 0, .slice none 0 0, .bool fx, .slice akx nx ckx, .int .i64 (px : Int)] _) := hide (by rw [← hwr, ← hqr]; exact Kr.mk' (unhide hkn) (by rw [hlx]; decide))
   rw [hlx] at HKr_4
   have ltr : w.heap.size ≤ qr := by rw [← hqr]; exact (unhide S3).lt
   have S4 := hide ((unhide S3).below b)
   clear b hkn S3 HNx_3
   go_wp2_with fail
   clear hwr hqr
   go_loopg [7] f (fun gk v7 wr => ∃ (acc : List Nd) (la : List Tk) (na : Nat) (ak : Option Addr) (ck : Nat) (C : List Value) (Sa : List Nat), v7 = .slice ak na ck ∧ Hid (gk ≤ f ∧ PJ gk 7 x acc la d = some r ∧ acc.length = na ∧ na + la.length ≤ 10000) ∧ Hid (St0 w c wr la d ∧ Kr w.heap.size wr acc (.slice ak na ck) C Sa))
   case atStart => exact ⟨nsx, lx, 1, some ⟨qr, 0, none⟩, 1, _, _, rfl, hide ⟨Nat.le_refl _, (unhide HJ5), hlx, hbna⟩, hide ⟨unhide S4, (unhide HKr_4).low ltlox⟩⟩
   case round =>
    clear HJ5 HKr_4 S4
    obtain ⟨acc, la, na, ak, ck, Ca, Sa, rfl, HA, HI⟩ := hrel
    obtain ⟨w50, hw50⟩ : ∃ zz, zz = wr := ⟨_, rfl⟩
    subst hw50
    have S50 := hide (unhide HI).1
    have HKa_50 := hide (unhide HI).2
    obtain ⟨g1, hg1⟩ := PJ_fuel (unhide HA).2.1
    subst hg1
    have HJ60 := hide (show jPaL (PJ g1) x acc la d = some r from (unhide HA).2.1)
    have hlna := (unhide HA).2.2.1
    have hbnb := (unhide HA).2.2.2
    have hgf := (unhide HA).1
    clear HI HA
    have HJ61 := hide ((by have := unhide HJ60; unfold jPaL at this; exact this))
    clear HJ60
    by_cases hb : isS [44] la = true
    ·have hq : isS [44] la = true := by simpa using hb
     have CC := hide ((by have := seesSign_any (unhide S50).rd [44]; rw [hq] at this; exact this))
     go_wp2_with fail
     refine (unhide CC).mono ?_
     rintro e w51 ⟨rfl, b⟩
     have S51 := hide ((unhide S50).below b)
     have HKa_51 := hide ((unhide HKa_50).beside (Beside.of_below (gr := c.g) b) (by omega))
     clear b CC S50 HKa_50
     have HJ62 := hide ((by have := (unhide HJ61); rw [if_pos hq] at this; exact this))
     clear HJ61
     have hkk := isS_k hq
     have CC := hide (pass_any (unhide S51).rd hkk)
     go_wp2_with fail
     refine (unhide CC).mono ?_
     rintro e w52 ⟨rfl, r2, b⟩
     have S52 := hide ((unhide S51).go b r2)
     have HKa_52 := hide ((unhide HKa_51).beside b (by omega))
     clear b r2 CC S51 HKa_51
     obtain ⟨yy, hy, hth⟩ := bnd_some (unhide HJ62)
     have HJ63 := hide (hth)
     clear HJ62
     clear hth
     have CR := hide (ihp (f1 := g1) (by omega) hy (unhide S52).rd)
     have HYX := hide hy
     clear hy
     rcases yy with ⟨ea, ep⟩ | ⟨nsy, ly⟩
     ·have HR := hide (thn_err (unhide HJ63))
      go_wp2_with fail
      refine (unhide CR).mono ?_
      rintro e wx ⟨rfl, b⟩
      have HX := hide ((unhide S52).bad b)
      clear b CR
      unfold fltP
      go_wp2_with fail
      exact ⟨rfl, by rw [unhide HR]; exact ⟨rfl, unhide HX⟩⟩
     ·have HJ64 := hide (thn_ok (unhide HJ63))
      clear HJ63
      go_wp2_with fail
      refine (unhide CR).mono ?_
      rintro e w53 ⟨ky, ty, vky, vny, vsy, fy, ny, aky, cky, py, Zy, rfl, hly, hn, r2, b⟩
      have S53 := hide ((unhide S52).go b r2)
      have HKa_53 := hide ((unhide HKa_52).beside b (by omega))
      obtain ⟨loy, hlo⟩ : ∃ zz, w52.heap.size = zz := ⟨_, rfl⟩
      have ltloy : w.heap.size ≤ loy := by rw [← hlo]; exact (unhide S52).lt
      have HWa_y := hide ((unhide HKa_52).vlt hlo)
      have lea_y := (unhide HKa_52).ok.le
      rw [hlo] at lea_y
      rw [hlo] at hn
      have HNy_53 := hide hn
      clear hlo b r2 hn CR S52 HKa_52
      have hpl := part_len (PJ_len g1) (unhide HYX)
      have htl := tail_le la
      obtain ⟨w54, hwr⟩ : ∃ zz, w53.alloc (.cells #[.int .i64 (ky : Int), .string (bA ty), .int .i64 (vky : Int), .int .i64 (vny : Int), .string (bA vsy), .slice none 0 0, .slice none 0 0, .bool fy, .slice aky ny cky, .int .i64 (py : Int)] 29) = zz := ⟨_, rfl⟩
      have b : Below w53.heap.size w53 w54 := by rw [← hwr]; exact (Below.refl _ _).alloc (Nat.le_refl _) _
      obtain ⟨hx, hhx⟩ : ∃ zz, w53.heap.size = zz := ⟨_, rfl⟩
      have at4 : Hid (w54.heap[hx]? = some (.cells #[.int .i64 (ky : Int), .string (bA ty), .int .i64 (vky : Int), .int .i64 (vny : Int), .string (bA vsy), .slice none 0 0, .slice none 0 0, .bool fy, .slice aky ny cky, .int .i64 (py : Int)] 29 (0, 0))) := hide (by rw [← hwr, ← hhx]; exact heap_alloc_new _ _)
      have S54 := hide ((unhide S53).below b)
      have HKa_54 := hide ((unhide HKa_53).beside (Beside.of_below (gr := c.g) b) (by omega))
      have HNy_54 := hide ((unhide HNy_53).beside (Beside.of_below (gr := c.g) b) (by omega))
      clear b S53 HKa_53 HNy_53
      have hkl := (unhide HKa_54).own
      rw [hlna] at hkl
      have HKL := hide hkl
      clear hkl
      have tokA : True := trivial
      go_wp2_with (first | (at_builtin; have _t := tokA; refine wpl_appN rfl (.tmp 18) (.tmp 21) rfl w.heap.size (.slice ak na ck) na _ rfl (unhide HKL) hx #[.int .i64 (ky : Int), .string (bA ty), .int .i64 (vky : Int), .int .i64 (vny : Int), .string (bA vsy), .slice none 0 0, .slice none 0 0, .bool fy, .slice aky ny cky, .int .i64 (py : Int)] rfl (unhide at4) rfl (ndC_one _ _ _ _ _ _ _ _ _ _) (by omega) (unhide HKa_54).ok.le ?_; clear tokA; intro g5 cap5 w55 H5))
      have bb : Below w.heap.size w54 w55 := (Below.refl _ _).grown (unhide H5).2.1 (unhide HKa_54).ok.le (fun z hz => ((unhide HKa_54).own.lt z hz).1)
      have S55 := hide ((unhide S54).below2 bb (Nat.le_refl _))
      have HKn_55 := hide (Kr.push (unhide HKa_54) (unhide HNy_54) (by omega) (unhide HWa_y).2 (unhide HWa_y).1 (unhide H5).1 (by rw [List.length_append, hly, hlna]) (unhide H5).2.1 (unhide H5).2.2)
      clear bb H5 HKL at4 hwr hhx
      go_roundg g1
      case measure => omega
      case rel => exact ⟨acc ++ nsy, ly, na + 1, some ⟨g5, 0, none⟩, cap5, _, _, rfl, hide ⟨by omega, (unhide HJ64), by rw [List.length_append, hly, hlna], by omega⟩, hide ⟨unhide S55, unhide HKn_55⟩⟩
    ·have hq : isS [44] la = false := by simpa using hb
     have CC := hide ((by have := seesSign_any (unhide S50).rd [44]; rw [hq] at this; exact this))
     go_wp2_with fail
     refine (unhide CC).mono ?_
     rintro e w51 ⟨rfl, b⟩
     have S51 := hide ((unhide S50).below b)
     have HKa_51 := hide ((unhide HKa_50).beside (Beside.of_below (gr := c.g) b) (by omega))
     clear b CC S50 HKa_50
     have HJ62 := hide ((by have := (unhide HJ61); rw [if_neg (by rw [hq]; decide)] at this; exact this))
     clear HJ61
     have HR := hide (okN_some (unhide HJ62))
     go_wp2_with fail
     go_ret
     rw [unhide HR]
     exact ⟨ak, ck, _, _, by rw [hlna]; rfl, by rw [hlna]; exact unhide HKa_51, (unhide S51).rd, (unhide S51).bs⟩
set_option maxRecDepth 100000 in
set_option maxHeartbeats 8000000 in
theorem parts_e0 {c : Cx} {l : List Tk} {d : Nat} {w w1 : World} {r : Rs (List Nd)} {f x : Nat} (cl : List UInt8) (hcl : clX x = cl) (ihp : ∀ {f1 : Nat}, f1 ≤ f → ∀ {c : Cx} {l : List Tk} {d : Nat} {w : World} {r : Rs (List Nd)}, jPart (PJ f1) x l d = some r → Rd w c l d → Calls Tryz.prog 22 #[.pointer (some ⟨c.g, 0, none⟩)] w fun e w' => NdP c w d r e w') (hJ : PJ (f + 1) 6 x [] l d = some r) (hws : w = w1) (h : Rd w1 c l d) :
  Calls Tryz.prog 52 #[.pointer (some ⟨c.g, 0, none⟩), .string (bA cl), .func (Fn.func 22) #[.pointer (some ⟨c.g, 0, none⟩)] #[]] w1 fun e w' => KsP c w d r e w' := by
 have S1 := hide (St0.start hws h)
 have hgw : c.g < w.heap.size := by rw [hws]; exact h.cells.2.2.2.2.2
 have hnl : l.length ≤ 10000 := by have h1 := h.head; have h2 := h.len; omega
 clear h hws
 go_enter Tryz.func52, Tryz.ntmps52
 have HJ0 := hide (show jParts (PJ f) x l d = some r from hJ)
 clear hJ
 have HJ1 := hide ((by have := unhide HJ0; unfold jParts at this; exact this))
 clear HJ0
 have HJ2 := hide ((by have := (unhide HJ1); rw [hcl] at this; exact this))
 clear HJ1
 by_cases hb : isS cl l = true
 ·have hq : isS cl l = true := by simpa using hb
  have CC := hide ((by have := seesSign_any (unhide S1).rd cl; rw [hq] at this; exact this))
  go_wp2_with fail
  refine (unhide CC).mono ?_
  rintro e w2 ⟨rfl, b⟩
  have S2 := hide ((unhide S1).below b)
  clear b CC S1
  have HJ3 := hide ((by have := (unhide HJ2); rw [if_pos hq] at this; exact this))
  clear HJ2
  have HR := hide (okN_some (unhide HJ3))
  go_wp2_with fail
  go_ret
  rw [unhide HR]
  exact ⟨none, 0, [], [], rfl, Kr.nil (unhide S2).lt, (unhide S2).rd, (unhide S2).bs⟩
 ·have hq : isS cl l = false := by simpa using hb
  have CC := hide ((by have := seesSign_any (unhide S1).rd cl; rw [hq] at this; exact this))
  go_wp2_with fail
  refine (unhide CC).mono ?_
  rintro e w2 ⟨rfl, b⟩
  have S2 := hide ((unhide S1).below b)
  clear b CC S1
  have HJ3 := hide ((by have := (unhide HJ2); rw [if_neg (by rw [hq]; decide)] at this; exact this))
  clear HJ2
  obtain ⟨yx, hy, hth⟩ := bnd_some (unhide HJ3)
  have HJ4 := hide (hth)
  clear HJ3
  clear hth
  have CR := hide (ihp (Nat.le_refl f) hy (unhide S2).rd)
  have HYX := hide hy
  clear hy
  rcases yx with ⟨ea, ep⟩ | ⟨nsx, lx⟩
  ·have HR := hide (thn_err (unhide HJ4))
   go_wp2_with fail
   refine (unhide CR).mono ?_
   rintro e wx ⟨rfl, b⟩
   have HX := hide ((unhide S2).bad b)
   clear b CR
   unfold fltP
   go_wp2_with fail
   exact ⟨rfl, by rw [unhide HR]; exact ⟨rfl, unhide HX⟩⟩
  ·have HJ5 := hide (thn_ok (unhide HJ4))
   clear HJ4
   go_wp2_with fail
   refine (unhide CR).mono ?_
   rintro e w3 ⟨kx, tx, vkx, vnx, vsx, fx, nx, akx, ckx, px, Zx, rfl, hlx, hn, r2, b⟩
   have S3 := hide ((unhide S2).go b r2)
   obtain ⟨lox, hlo⟩ : ∃ zz, w2.heap.size = zz := ⟨_, rfl⟩
   have ltlox : w.heap.size ≤ lox := by rw [← hlo]; exact (unhide S2).lt
   rw [hlo] at hn
   have HNx_3 := hide hn
   clear hlo b r2 hn CR S2
   have hbna : 1 + lx.length ≤ 10000 := by have h1 := part_len (PJ_len f) (unhide HYX); have h2 := hnl; omega
   have hkn := hide (unhide HNx_3)
   obtain ⟨w4, hwr⟩ : ∃ zz, w3.alloc (.cells #[.int .i64 (kx : Int), .string (bA tx), .int .i64 (vkx : Int), .int .i64 (vnx : Int), .string (bA vsx), .slice none 0 0, .slice none 0 0, .bool fx, .slice akx nx ckx, .int .i64 (px : Int)] 29) = zz := ⟨_, rfl⟩
   have b : Below w3.heap.size w3 w4 := by rw [← hwr]; exact (Below.refl _ _).alloc (Nat.le_refl _) _
   obtain ⟨qr, hqr⟩ : ∃ zz, w3.heap.size = zz := ⟨_, rfl⟩
   have HKr_4 : Hid (Kr lox w4 _ (.slice (some ⟨qr, 0, none⟩) _ _) [.int .i64 (kx : Int), .string (bA tx), .int .i64 (vkx : Int), .int .i64 (vnx : Int), .string (bA vsx), .slice none 0 0, .slice none 0 0, .bool fx, .slice akx nx ckx, .int .i64 (px : Int)] _) := hide (by rw [← hwr, ← hqr]; exact Kr.mk' (unhide hkn) (by rw [hlx]; decide))
   rw [hlx] at HKr_4
   have ltr : w.heap.size ≤ qr := by rw [← hqr]; exact (unhide S3).lt
   have S4 := hide ((unhide S3).below b)
   clear b hkn S3 HNx_3
   go_wp2_with fail
   clear hwr hqr
   go_loopg [7] f (fun gk v7 wr => ∃ (acc : List Nd) (la : List Tk) (na : Nat) (ak : Option Addr) (ck : Nat) (C : List Value) (Sa : List Nat), v7 = .slice ak na ck ∧ Hid (gk ≤ f ∧ PJ gk 7 x acc la d = some r ∧ acc.length = na ∧ na + la.length ≤ 10000) ∧ Hid (St0 w c wr la d ∧ Kr w.heap.size wr acc (.slice ak na ck) C Sa))
   case atStart => exact ⟨nsx, lx, 1, some ⟨qr, 0, none⟩, 1, _, _, rfl, hide ⟨Nat.le_refl _, (unhide HJ5), hlx, hbna⟩, hide ⟨unhide S4, (unhide HKr_4).low ltlox⟩⟩
   case round =>
    clear HJ5 HKr_4 S4
    obtain ⟨acc, la, na, ak, ck, Ca, Sa, rfl, HA, HI⟩ := hrel
    obtain ⟨w50, hw50⟩ : ∃ zz, zz = wr := ⟨_, rfl⟩
    subst hw50
    have S50 := hide (unhide HI).1
    have HKa_50 := hide (unhide HI).2
    obtain ⟨g1, hg1⟩ := PJ_fuel (unhide HA).2.1
    subst hg1
    have HJ60 := hide (show jPaL (PJ g1) x acc la d = some r from (unhide HA).2.1)
    have hlna := (unhide HA).2.2.1
    have hbnb := (unhide HA).2.2.2
    have hgf := (unhide HA).1
    clear HI HA
    have HJ61 := hide ((by have := unhide HJ60; unfold jPaL at this; exact this))
    clear HJ60
    by_cases hb : isS [44] la = true
    ·have hq : isS [44] la = true := by simpa using hb
     have CC := hide ((by have := seesSign_any (unhide S50).rd [44]; rw [hq] at this; exact this))
     go_wp2_with fail
     refine (unhide CC).mono ?_
     rintro e w51 ⟨rfl, b⟩
     have S51 := hide ((unhide S50).below b)
     have HKa_51 := hide ((unhide HKa_50).beside (Beside.of_below (gr := c.g) b) (by omega))
     clear b CC S50 HKa_50
     have HJ62 := hide ((by have := (unhide HJ61); rw [if_pos hq] at this; exact this))
     clear HJ61
     have hkk := isS_k hq
     have CC := hide (pass_any (unhide S51).rd hkk)
     go_wp2_with fail
     refine (unhide CC).mono ?_
     rintro e w52 ⟨rfl, r2, b⟩
     have S52 := hide ((unhide S51).go b r2)
     have HKa_52 := hide ((unhide HKa_51).beside b (by omega))
     clear b r2 CC S51 HKa_51
     obtain ⟨yy, hy, hth⟩ := bnd_some (unhide HJ62)
     have HJ63 := hide (hth)
     clear HJ62
     clear hth
     have CR := hide (ihp (f1 := g1) (by omega) hy (unhide S52).rd)
     have HYX := hide hy
     clear hy
     rcases yy with ⟨ea, ep⟩ | ⟨nsy, ly⟩
     ·have HR := hide (thn_err (unhide HJ63))
      go_wp2_with fail
      refine (unhide CR).mono ?_
      rintro e wx ⟨rfl, b⟩
      have HX := hide ((unhide S52).bad b)
      clear b CR
      unfold fltP
      go_wp2_with fail
      exact ⟨rfl, by rw [unhide HR]; exact ⟨rfl, unhide HX⟩⟩
     ·have HJ64 := hide (thn_ok (unhide HJ63))
      clear HJ63
      go_wp2_with fail
      refine (unhide CR).mono ?_
      rintro e w53 ⟨ky, ty, vky, vny, vsy, fy, ny, aky, cky, py, Zy, rfl, hly, hn, r2, b⟩
      have S53 := hide ((unhide S52).go b r2)
      have HKa_53 := hide ((unhide HKa_52).beside b (by omega))
      obtain ⟨loy, hlo⟩ : ∃ zz, w52.heap.size = zz := ⟨_, rfl⟩
      have ltloy : w.heap.size ≤ loy := by rw [← hlo]; exact (unhide S52).lt
      have HWa_y := hide ((unhide HKa_52).vlt hlo)
      have lea_y := (unhide HKa_52).ok.le
      rw [hlo] at lea_y
      rw [hlo] at hn
      have HNy_53 := hide hn
      clear hlo b r2 hn CR S52 HKa_52
      have hpl := part_len (PJ_len g1) (unhide HYX)
      have htl := tail_le la
      obtain ⟨w54, hwr⟩ : ∃ zz, w53.alloc (.cells #[.int .i64 (ky : Int), .string (bA ty), .int .i64 (vky : Int), .int .i64 (vny : Int), .string (bA vsy), .slice none 0 0, .slice none 0 0, .bool fy, .slice aky ny cky, .int .i64 (py : Int)] 29) = zz := ⟨_, rfl⟩
      have b : Below w53.heap.size w53 w54 := by rw [← hwr]; exact (Below.refl _ _).alloc (Nat.le_refl _) _
      obtain ⟨hx, hhx⟩ : ∃ zz, w53.heap.size = zz := ⟨_, rfl⟩
      have at4 : Hid (w54.heap[hx]? = some (.cells #[.int .i64 (ky : Int), .string (bA ty), .int .i64 (vky : Int), .int .i64 (vny : Int), .string (bA vsy), .slice none 0 0, .slice none 0 0, .bool fy, .slice aky ny cky, .int .i64 (py : Int)] 29 (0, 0))) := hide (by rw [← hwr, ← hhx]; exact heap_alloc_new _ _)
      have S54 := hide ((unhide S53).below b)
      have HKa_54 := hide ((unhide HKa_53).beside (Beside.of_below (gr := c.g) b) (by omega))
      have HNy_54 := hide ((unhide HNy_53).beside (Beside.of_below (gr := c.g) b) (by omega))
      clear b S53 HKa_53 HNy_53
      have hkl := (unhide HKa_54).own
      rw [hlna] at hkl
      have HKL := hide hkl
      clear hkl
      have tokA : True := trivial
      go_wp2_with (first | (at_builtin; have _t := tokA; refine wpl_appN rfl (.tmp 18) (.tmp 21) rfl w.heap.size (.slice ak na ck) na _ rfl (unhide HKL) hx #[.int .i64 (ky : Int), .string (bA ty), .int .i64 (vky : Int), .int .i64 (vny : Int), .string (bA vsy), .slice none 0 0, .slice none 0 0, .bool fy, .slice aky ny cky, .int .i64 (py : Int)] rfl (unhide at4) rfl (ndC_one _ _ _ _ _ _ _ _ _ _) (by omega) (unhide HKa_54).ok.le ?_; clear tokA; intro g5 cap5 w55 H5))
      have bb : Below w.heap.size w54 w55 := (Below.refl _ _).grown (unhide H5).2.1 (unhide HKa_54).ok.le (fun z hz => ((unhide HKa_54).own.lt z hz).1)
      have S55 := hide ((unhide S54).below2 bb (Nat.le_refl _))
      have HKn_55 := hide (Kr.push (unhide HKa_54) (unhide HNy_54) (by omega) (unhide HWa_y).2 (unhide HWa_y).1 (unhide H5).1 (by rw [List.length_append, hly, hlna]) (unhide H5).2.1 (unhide H5).2.2)
      clear bb H5 HKL at4 hwr hhx
      go_roundg g1
      case measure => omega
      case rel => exact ⟨acc ++ nsy, ly, na + 1, some ⟨g5, 0, none⟩, cap5, _, _, rfl, hide ⟨by omega, (unhide HJ64), by rw [List.length_append, hly, hlna], by omega⟩, hide ⟨unhide S55, unhide HKn_55⟩⟩
    ·have hq : isS [44] la = false := by simpa using hb
     have CC := hide ((by have := seesSign_any (unhide S50).rd [44]; rw [hq] at this; exact this))
     go_wp2_with fail
     refine (unhide CC).mono ?_
     rintro e w51 ⟨rfl, b⟩
     have S51 := hide ((unhide S50).below b)
     have HKa_51 := hide ((unhide HKa_50).beside (Beside.of_below (gr := c.g) b) (by omega))
     clear b CC S50 HKa_50
     have HJ62 := hide ((by have := (unhide HJ61); rw [if_neg (by rw [hq]; decide)] at this; exact this))
     clear HJ61
     have HR := hide (okN_some (unhide HJ62))
     go_wp2_with fail
     go_ret
     rw [unhide HR]
     exact ⟨ak, ck, _, _, by rw [hlna]; rfl, by rw [hlna]; exact unhide HKa_51, (unhide S51).rd, (unhide S51).bs⟩
set_option maxRecDepth 100000 in
set_option maxHeartbeats 8000000 in
theorem parts_r0 {c : Cx} {l : List Tk} {d : Nat} {w w1 : World} {r : Rs (List Nd)} {f x : Nat} (cl : List UInt8) (hcl : clX x = cl) (ihp : ∀ {f1 : Nat}, f1 ≤ f → ∀ {c : Cx} {l : List Tk} {d : Nat} {w : World} {r : Rs (List Nd)}, jPart (PJ f1) x l d = some r → Rd w c l d → Calls Tryz.prog 128 #[.pointer (some ⟨c.g, 0, none⟩)] w fun e w' => NdP c w d r e w') (hJ : PJ (f + 1) 6 x [] l d = some r) (hws : w = w1) (h : Rd w1 c l d) :
  Calls Tryz.prog 52 #[.pointer (some ⟨c.g, 0, none⟩), .string (bA cl), .func (Fn.func 128) #[.pointer (some ⟨c.g, 0, none⟩)] #[]] w1 fun e w' => KsP c w d r e w' := by
 have S1 := hide (St0.start hws h)
 have hgw : c.g < w.heap.size := by rw [hws]; exact h.cells.2.2.2.2.2
 have hnl : l.length ≤ 10000 := by have h1 := h.head; have h2 := h.len; omega
 clear h hws
 go_enter Tryz.func52, Tryz.ntmps52
 have HJ0 := hide (show jParts (PJ f) x l d = some r from hJ)
 clear hJ
 have HJ1 := hide ((by have := unhide HJ0; unfold jParts at this; exact this))
 clear HJ0
 have HJ2 := hide ((by have := (unhide HJ1); rw [hcl] at this; exact this))
 clear HJ1
 by_cases hb : isS cl l = true
 ·have hq : isS cl l = true := by simpa using hb
  have CC := hide ((by have := seesSign_any (unhide S1).rd cl; rw [hq] at this; exact this))
  go_wp2_with fail
  refine (unhide CC).mono ?_
  rintro e w2 ⟨rfl, b⟩
  have S2 := hide ((unhide S1).below b)
  clear b CC S1
  have HJ3 := hide ((by have := (unhide HJ2); rw [if_pos hq] at this; exact this))
  clear HJ2
  have HR := hide (okN_some (unhide HJ3))
  go_wp2_with fail
  go_ret
  rw [unhide HR]
  exact ⟨none, 0, [], [], rfl, Kr.nil (unhide S2).lt, (unhide S2).rd, (unhide S2).bs⟩
 ·have hq : isS cl l = false := by simpa using hb
  have CC := hide ((by have := seesSign_any (unhide S1).rd cl; rw [hq] at this; exact this))
  go_wp2_with fail
  refine (unhide CC).mono ?_
  rintro e w2 ⟨rfl, b⟩
  have S2 := hide ((unhide S1).below b)
  clear b CC S1
  have HJ3 := hide ((by have := (unhide HJ2); rw [if_neg (by rw [hq]; decide)] at this; exact this))
  clear HJ2
  obtain ⟨yx, hy, hth⟩ := bnd_some (unhide HJ3)
  have HJ4 := hide (hth)
  clear HJ3
  clear hth
  have CR := hide (ihp (Nat.le_refl f) hy (unhide S2).rd)
  have HYX := hide hy
  clear hy
  rcases yx with ⟨ea, ep⟩ | ⟨nsx, lx⟩
  ·have HR := hide (thn_err (unhide HJ4))
   go_wp2_with fail
   refine (unhide CR).mono ?_
   rintro e wx ⟨rfl, b⟩
   have HX := hide ((unhide S2).bad b)
   clear b CR
   unfold fltP
   go_wp2_with fail
   exact ⟨rfl, by rw [unhide HR]; exact ⟨rfl, unhide HX⟩⟩
  ·have HJ5 := hide (thn_ok (unhide HJ4))
   clear HJ4
   go_wp2_with fail
   refine (unhide CR).mono ?_
   rintro e w3 ⟨kx, tx, vkx, vnx, vsx, fx, nx, akx, ckx, px, Zx, rfl, hlx, hn, r2, b⟩
   have S3 := hide ((unhide S2).go b r2)
   obtain ⟨lox, hlo⟩ : ∃ zz, w2.heap.size = zz := ⟨_, rfl⟩
   have ltlox : w.heap.size ≤ lox := by rw [← hlo]; exact (unhide S2).lt
   rw [hlo] at hn
   have HNx_3 := hide hn
   clear hlo b r2 hn CR S2
   have hbna : 1 + lx.length ≤ 10000 := by have h1 := part_len (PJ_len f) (unhide HYX); have h2 := hnl; omega
   have hkn := hide (unhide HNx_3)
   obtain ⟨w4, hwr⟩ : ∃ zz, w3.alloc (.cells #[.int .i64 (kx : Int), .string (bA tx), .int .i64 (vkx : Int), .int .i64 (vnx : Int), .string (bA vsx), .slice none 0 0, .slice none 0 0, .bool fx, .slice akx nx ckx, .int .i64 (px : Int)] 29) = zz := ⟨_, rfl⟩
   have b : Below w3.heap.size w3 w4 := by rw [← hwr]; exact (Below.refl _ _).alloc (Nat.le_refl _) _
   obtain ⟨qr, hqr⟩ : ∃ zz, w3.heap.size = zz := ⟨_, rfl⟩
   have HKr_4 : Hid (Kr lox w4 _ (.slice (some ⟨qr, 0, none⟩) _ _) [.int .i64 (kx : Int), .string (bA tx), .int .i64 (vkx : Int), .int .i64 (vnx : Int), .string (bA vsx), .slice none 0 0, .slice none 0 0, .bool fx, .slice akx nx ckx, .int .i64 (px : Int)] _) := hide (by rw [← hwr, ← hqr]; exact Kr.mk' (unhide hkn) (by rw [hlx]; decide))
   rw [hlx] at HKr_4
   have ltr : w.heap.size ≤ qr := by rw [← hqr]; exact (unhide S3).lt
   have S4 := hide ((unhide S3).below b)
   clear b hkn S3 HNx_3
   go_wp2_with fail
   clear hwr hqr
   go_loopg [7] f (fun gk v7 wr => ∃ (acc : List Nd) (la : List Tk) (na : Nat) (ak : Option Addr) (ck : Nat) (C : List Value) (Sa : List Nat), v7 = .slice ak na ck ∧ Hid (gk ≤ f ∧ PJ gk 7 x acc la d = some r ∧ acc.length = na ∧ na + la.length ≤ 10000) ∧ Hid (St0 w c wr la d ∧ Kr w.heap.size wr acc (.slice ak na ck) C Sa))
   case atStart => exact ⟨nsx, lx, 1, some ⟨qr, 0, none⟩, 1, _, _, rfl, hide ⟨Nat.le_refl _, (unhide HJ5), hlx, hbna⟩, hide ⟨unhide S4, (unhide HKr_4).low ltlox⟩⟩
   case round =>
    clear HJ5 HKr_4 S4
    obtain ⟨acc, la, na, ak, ck, Ca, Sa, rfl, HA, HI⟩ := hrel
    obtain ⟨w50, hw50⟩ : ∃ zz, zz = wr := ⟨_, rfl⟩
    subst hw50
    have S50 := hide (unhide HI).1
    have HKa_50 := hide (unhide HI).2
    obtain ⟨g1, hg1⟩ := PJ_fuel (unhide HA).2.1
    subst hg1
    have HJ60 := hide (show jPaL (PJ g1) x acc la d = some r from (unhide HA).2.1)
    have hlna := (unhide HA).2.2.1
    have hbnb := (unhide HA).2.2.2
    have hgf := (unhide HA).1
    clear HI HA
    have HJ61 := hide ((by have := unhide HJ60; unfold jPaL at this; exact this))
    clear HJ60
    by_cases hb : isS [44] la = true
    ·have hq : isS [44] la = true := by simpa using hb
     have CC := hide ((by have := seesSign_any (unhide S50).rd [44]; rw [hq] at this; exact this))
     go_wp2_with fail
     refine (unhide CC).mono ?_
     rintro e w51 ⟨rfl, b⟩
     have S51 := hide ((unhide S50).below b)
     have HKa_51 := hide ((unhide HKa_50).beside (Beside.of_below (gr := c.g) b) (by omega))
     clear b CC S50 HKa_50
     have HJ62 := hide ((by have := (unhide HJ61); rw [if_pos hq] at this; exact this))
     clear HJ61
     have hkk := isS_k hq
     have CC := hide (pass_any (unhide S51).rd hkk)
     go_wp2_with fail
     refine (unhide CC).mono ?_
     rintro e w52 ⟨rfl, r2, b⟩
     have S52 := hide ((unhide S51).go b r2)
     have HKa_52 := hide ((unhide HKa_51).beside b (by omega))
     clear b r2 CC S51 HKa_51
     obtain ⟨yy, hy, hth⟩ := bnd_some (unhide HJ62)
     have HJ63 := hide (hth)
     clear HJ62
     clear hth
     have CR := hide (ihp (f1 := g1) (by omega) hy (unhide S52).rd)
     have HYX := hide hy
     clear hy
     rcases yy with ⟨ea, ep⟩ | ⟨nsy, ly⟩
     ·have HR := hide (thn_err (unhide HJ63))
      go_wp2_with fail
      refine (unhide CR).mono ?_
      rintro e wx ⟨rfl, b⟩
      have HX := hide ((unhide S52).bad b)
      clear b CR
      unfold fltP
      go_wp2_with fail
      exact ⟨rfl, by rw [unhide HR]; exact ⟨rfl, unhide HX⟩⟩
     ·have HJ64 := hide (thn_ok (unhide HJ63))
      clear HJ63
      go_wp2_with fail
      refine (unhide CR).mono ?_
      rintro e w53 ⟨ky, ty, vky, vny, vsy, fy, ny, aky, cky, py, Zy, rfl, hly, hn, r2, b⟩
      have S53 := hide ((unhide S52).go b r2)
      have HKa_53 := hide ((unhide HKa_52).beside b (by omega))
      obtain ⟨loy, hlo⟩ : ∃ zz, w52.heap.size = zz := ⟨_, rfl⟩
      have ltloy : w.heap.size ≤ loy := by rw [← hlo]; exact (unhide S52).lt
      have HWa_y := hide ((unhide HKa_52).vlt hlo)
      have lea_y := (unhide HKa_52).ok.le
      rw [hlo] at lea_y
      rw [hlo] at hn
      have HNy_53 := hide hn
      clear hlo b r2 hn CR S52 HKa_52
      have hpl := part_len (PJ_len g1) (unhide HYX)
      have htl := tail_le la
      obtain ⟨w54, hwr⟩ : ∃ zz, w53.alloc (.cells #[.int .i64 (ky : Int), .string (bA ty), .int .i64 (vky : Int), .int .i64 (vny : Int), .string (bA vsy), .slice none 0 0, .slice none 0 0, .bool fy, .slice aky ny cky, .int .i64 (py : Int)] 29) = zz := ⟨_, rfl⟩
      have b : Below w53.heap.size w53 w54 := by rw [← hwr]; exact (Below.refl _ _).alloc (Nat.le_refl _) _
      obtain ⟨hx, hhx⟩ : ∃ zz, w53.heap.size = zz := ⟨_, rfl⟩
      have at4 : Hid (w54.heap[hx]? = some (.cells #[.int .i64 (ky : Int), .string (bA ty), .int .i64 (vky : Int), .int .i64 (vny : Int), .string (bA vsy), .slice none 0 0, .slice none 0 0, .bool fy, .slice aky ny cky, .int .i64 (py : Int)] 29 (0, 0))) := hide (by rw [← hwr, ← hhx]; exact heap_alloc_new _ _)
      have S54 := hide ((unhide S53).below b)
      have HKa_54 := hide ((unhide HKa_53).beside (Beside.of_below (gr := c.g) b) (by omega))
      have HNy_54 := hide ((unhide HNy_53).beside (Beside.of_below (gr := c.g) b) (by omega))
      clear b S53 HKa_53 HNy_53
      have hkl := (unhide HKa_54).own
      rw [hlna] at hkl
      have HKL := hide hkl
      clear hkl
      have tokA : True := trivial
      go_wp2_with (first | (at_builtin; have _t := tokA; refine wpl_appN rfl (.tmp 18) (.tmp 21) rfl w.heap.size (.slice ak na ck) na _ rfl (unhide HKL) hx #[.int .i64 (ky : Int), .string (bA ty), .int .i64 (vky : Int), .int .i64 (vny : Int), .string (bA vsy), .slice none 0 0, .slice none 0 0, .bool fy, .slice aky ny cky, .int .i64 (py : Int)] rfl (unhide at4) rfl (ndC_one _ _ _ _ _ _ _ _ _ _) (by omega) (unhide HKa_54).ok.le ?_; clear tokA; intro g5 cap5 w55 H5))
      have bb : Below w.heap.size w54 w55 := (Below.refl _ _).grown (unhide H5).2.1 (unhide HKa_54).ok.le (fun z hz => ((unhide HKa_54).own.lt z hz).1)
      have S55 := hide ((unhide S54).below2 bb (Nat.le_refl _))
      have HKn_55 := hide (Kr.push (unhide HKa_54) (unhide HNy_54) (by omega) (unhide HWa_y).2 (unhide HWa_y).1 (unhide H5).1 (by rw [List.length_append, hly, hlna]) (unhide H5).2.1 (unhide H5).2.2)
      clear bb H5 HKL at4 hwr hhx
      go_roundg g1
      case measure => omega
      case rel => exact ⟨acc ++ nsy, ly, na + 1, some ⟨g5, 0, none⟩, cap5, _, _, rfl, hide ⟨by omega, (unhide HJ64), by rw [List.length_append, hly, hlna], by omega⟩, hide ⟨unhide S55, unhide HKn_55⟩⟩
    ·have hq : isS [44] la = false := by simpa using hb
     have CC := hide ((by have := seesSign_any (unhide S50).rd [44]; rw [hq] at this; exact this))
     go_wp2_with fail
     refine (unhide CC).mono ?_
     rintro e w51 ⟨rfl, b⟩
     have S51 := hide ((unhide S50).below b)
     have HKa_51 := hide ((unhide HKa_50).beside (Beside.of_below (gr := c.g) b) (by omega))
     clear b CC S50 HKa_50
     have HJ62 := hide ((by have := (unhide HJ61); rw [if_neg (by rw [hq]; decide)] at this; exact this))
     clear HJ61
     have HR := hide (okN_some (unhide HJ62))
     go_wp2_with fail
     go_ret
     rw [unhide HR]
     exact ⟨ak, ck, _, _, by rw [hlna]; rfl, by rw [hlna]; exact unhide HKa_51, (unhide S51).rd, (unhide S51).bs⟩
end Go.Proofs.YtgalfhlclmkbfaaGreatDoor
