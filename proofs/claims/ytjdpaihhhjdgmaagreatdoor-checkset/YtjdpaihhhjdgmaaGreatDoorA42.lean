/-
  Layer 17 (parse): what stands within brackets; names and calls; conditions: the reader's state.
  Layer 17 (parse): signs that bind; conditions: the reader's state.
-/
import Derived.Test.YtjdpaihhhjdgmaaGreatDoorA39
import Derived.Deep.LoopGhost
set_option linter.unusedVariables false
set_option linter.unusedSimpArgs false
set_option maxRecDepth 100000
set_option maxHeartbeats 8000000
namespace Go.Proofs.YtjdpaihhhjdgmaaGreatDoor
open Go.RowKit
set_option linter.unusedVariables false
set_option linter.unusedSimpArgs false
theorem within_step {c:Cx} {l:List Tk} {d:Nat} {w:World} {r:Rs (List Nd)} {f x:Nat} (pf:Nat) (op cl:List UInt8) (kd:Nat) (hop:opX x=op) (hcl:clX x=cl) (hkd:kdX x=kd) (ihp:∀{c:Cx} {l:List Tk} {d:Nat} {w:World} {r:Rs (List Nd)},PJ f 6 x [] l d=some r→Rd w c l d→Calls Tryz.prog 78 #[.pointer (some ⟨c.g,0,none⟩),.string (bA cl),.func (Fn.func pf) #[.pointer (some ⟨c.g,0,none⟩)] #[]] w fun e w'=>KsP c w d r e w') (hJ:PJ (f+1) 22 x [] l d=some r) (h:Rd w c l d) :
  Calls Tryz.prog 198 #[.pointer (some ⟨c.g,0,none⟩),.int .i64 (kd:Int),.string (bA op),.string (bA cl),.func (Fn.func pf) #[.pointer (some ⟨c.g,0,none⟩)] #[]] w fun e w'=>NdP c w d r e w':=by
 have S1:=hZ (St.start h 28 #[.int .i64 0,.string ⟨#[]⟩,.int .i64 0,.int .i64 0,.string ⟨#[]⟩,.slice none 0 0,.slice none 0 0,.bool false,.slice none 0 0,.int .i64 0])
 obtain⟨w1,hw1⟩:=eX (w.alloc (.cells #[.int .i64 0,.string ⟨#[]⟩,.int .i64 0,.int .i64 0,.string ⟨#[]⟩,.slice none 0 0,.slice none 0 0,.bool false,.slice none 0 0,.int .i64 0] 28))
 rw [hw1] at S1
 obtain⟨G,hG⟩:=eX (w.heap.size)
 have hgw:c.g<w.heap.size:=h.cells.2.2.2.2.2
 clear h
 go_enter Tryz.func198,Tryz.ntmps198
 have HJ0:=hZ (show jWithin (PJ f) x l d=some r from hJ)
 clear hJ
 have HJ1:=hZ ((by have:=uZ HJ0;unfold jWithin at this;exact this))
 clear HJ0
 have HJ2:=hZ ((by have:=(uZ HJ1);rw [hop,hcl,hkd] at this;exact this))
 clear HJ1
 by_cases hb:isS op l=true
 ·have hq:isS op l=true:=by simpa using hb
  have hlw:=(uZ S1).rd.low
  by_cases hd:d<24
  ·have HJ3:=hZ (thn_en hq hd (uZ HJ2))
   clear HJ2
   have CC:=hZ (ent_ok (uZ S1).rd op hq hd)
   go_wp2_with fail
   refine(uZ CC).mono ?_
   rintro e w2 ⟨rfl,r2,b⟩
   have S2:=hZ ((uZ S1).go b r2)
   clear b r2 CC S1
   go_upto_region 2 with (first|(refine wpl_tk3 rfl _ rfl _ _ _ _ rfl ?_)|(refine wpl_tk1 rfl _ rfl _ _ _ _ rfl ?_)|(refine wpl_tk0 rfl _ rfl _ _ _ _ rfl ?_))
   obtain⟨w3,hw⟩:=eX (w2.alloc (.cells #[.int .i64 (kd:Int),.string ⟨#[]⟩,.int .i64 0,.int .i64 0,.string ⟨#[]⟩,.slice none 0 0,.slice none 0 0,.bool false,.slice none 0 0,.int .i64 ((hdT l).p:Int)] 28))
   have b:=alB hw
   obtain⟨Q,hQ⟩:=eX (w2.heap.size)
   have HBQ_3:Hid (w3.heap[Q]?=some (.cells #[.int .i64 (kd:Int),.string ⟨#[]⟩,.int .i64 0,.int .i64 0,.string ⟨#[]⟩,.slice none 0 0,.slice none 0 0,.bool false,.slice none 0 0,.int .i64 ((hdT l).p:Int)] 28 (0,0))):=hZ (by rw [←hw,←hQ];exact heap_alloc_new _ _)
   have S3:=hZ ((uZ S2).below b)
   have ltQ:w.heap.size<Q:=by rw [←hQ];exact(uZ S2).lt
   rw [hw]
   try rw [hQ]
   clear hw hQ b S2
   obtain⟨yx,hy,hth⟩:=bnd_some (uZ HJ3)
   have HJ4:=hZ (hth)
   clear HJ3
   clear hth
   have CR:=hZ (ihp hy (uZ S3).rd)
   have HYX:=hZ hy
   clear hy
   rcases yx with ⟨ea,ep⟩|⟨nsx,lx⟩
   ·have HR:=hZ (thn_err (uZ HJ4))
    go_wp2_with fail
    refine(uZ CR).mono ?_
    rintro e wx ⟨rfl,b⟩
    have HX:=hZ ((uZ S3).bad b)
    clear b CR
    unfold fltP
    go_wp2_with fail
    exact⟨rfl,by rw [uZ HR];exact⟨rfl,uZ HX⟩⟩
   ·have HJ5:=hZ (thn_ok (uZ HJ4))
    clear HJ4
    go_wp2_with fail
    refine(uZ CR).mono ?_
    rintro e w4 ⟨ax,qx,Cx,Zx,rfl,hk,r2,b⟩
    have S4:=hZ ((uZ S3).go b r2)
    have HBQ_4:=bx_go HBQ_3 b (by omega)
    obtain⟨lox,hlo⟩:=eX (w3.heap.size)
    have ltlox:w.heap.size<lox:=by rw [←hlo];exact(uZ S3).lt
    have lqQ_x:Q<lox:=by rw [←hlo];exact(Array.getElem?_eq_some_iff.1 (uZ HBQ_3)).1
    rw [hlo] at hk
    have HKx_4:=hZ hk
    clear hlo b r2 hk CR S3 HBQ_3
    obtain⟨na,hlnx⟩:=eX (nsx.length)
    rw [hlnx] at HKx_4
    try rw [hlnx]
    obtain⟨-,-,-,-,-,-,-,-,Qc8,-⟩:=row_cell10 (uZ HBQ_4)
    have Qf8:=frozen_of_row w4 Q 8 _ _ (uZ HBQ_4)
    go_upto_region 3 with fail
    clear Qc8 Qf8
    try rw [hlnx]
    obtain⟨w5,hw⟩:=eX (w4.setCell ⟨Q,8,none⟩ (.slice ax na qx))
    have HBQ_5:Hid (w5.heap[Q]?=some (.cells #[.int .i64 (kd:Int),.string ⟨#[]⟩,.int .i64 0,.int .i64 0,.string ⟨#[]⟩,.slice none 0 0,.slice none 0 0,.bool false,.slice ax na qx,.int .i64 ((hdT l).p:Int)] 28 (0,0))):=hZ (by rw [←hw,heap_setCell_same w4 Q 8 _ _ _ (uZ HBQ_4)];rfl)
    have S5:Hid (St w c 28 #[.int .i64 0,.string ⟨#[]⟩,.int .i64 0,.int .i64 0,.string ⟨#[]⟩,.slice none 0 0,.slice none 0 0,.bool false,.slice none 0 0,.int .i64 0] w5 lx (d+1)):=hZ (by rw [←hw];exact(uZ S4).own Q 8 _ ltQ)
    have HKx_5:=hZ ((uZ HKx_4).but (q:=Q) (w':=w5) (fun b _ hb=>by rw [←hw];exact heap_setCell_other _ _ _ _ hb) (by rw [←hw];simp) (by omega))
    rw [hw]
    clear hw S4 HBQ_4 HKx_4
    by_cases hb:isS cl lx=true
    ·have hq:isS cl lx=true:=by simpa using hb
     have HJ6:=hZ (thn_sg hq (uZ HJ5))
     clear HJ5
     have CC:=hZ (leave_ok (uZ S5).rd cl hq)
     go_wp2_with fail
     refine(uZ CC).mono ?_
     rintro e w6 ⟨rfl,r2,b⟩
     have S6:=hZ ((uZ S5).go b r2)
     have HBQ_6:=bx_go HBQ_5 b (by omega)
     have HKx_6:=hZ ((uZ HKx_5).beside b (by omega))
     clear b r2 CC S5 HBQ_5 HKx_5
     have hr1:=okN_some (uZ HJ6)
     have hnn:=(uZ HKx_6).node' hlnx kd [] 0 0 [] false (hdT l).p
     have HR:=hZ (hr1)
     have BX:=(uZ S6).bx
     rw [hG] at BX
     obtain⟨g0,g1,g2,g3,g4,g5,g6,g7,g8,g9⟩:=row_cell10 BX
     obtain⟨z0,z1,z2,z3,z4,z5,z6,z7,z8,z9⟩:=frozen10 BX
     clear BX
     obtain⟨Qc0,Qc1,Qc2,Qc3,Qc4,Qc5,Qc6,Qc7,Qc8,Qc9⟩:=row_cell10 (uZ HBQ_6)
     have FF:=hZ (St.done (uZ S6) (hnn.low (by omega)) rfl hG)
     go_wp2_with fail
     refine rtN (p:=10) rfl rfl (uZ FF).1 rfl rfl ?_
     rw [uZ HR]
     exact(uZ FF).2
    ·have hq:isS cl lx=false:=by simpa using hb
     have CC:=hZ (leave_bad (uZ S5).rd cl hq)
     have HR:=hZ (thn_sgb hq (uZ HJ5))
     go_wp2_with fail
     refine(uZ CC).mono ?_
     rintro e wx ⟨rfl,b⟩
     have HX:=hZ ((uZ S5).bad b)
     clear b CC
     unfold fltP
     go_wp2_with fail
     exact⟨rfl,by rw [uZ HR];exact⟨rfl,uZ HX⟩⟩
  ·have CC:=hZ (ent_deep (uZ S1).rd op hq (show d=24 by omega))
   have HR:=hZ (thn_end hq (show d=24 by omega) (uZ HJ2))
   go_wp2_with fail
   refine(uZ CC).mono ?_
   rintro e wx ⟨rfl,b⟩
   have HX:=hZ ((uZ S1).bad b)
   clear b CC
   unfold fltP
   go_wp2_with fail
   exact⟨rfl,by rw [uZ HR];exact⟨rfl,uZ HX⟩⟩
 ·have hq:isS op l=false:=by simpa using hb
  have CC:=hZ (ent_bad (uZ S1).rd op hq)
  have HR:=hZ (thn_enb hq (uZ HJ2))
  go_wp2_with fail
  refine(uZ CC).mono ?_
  rintro e wx ⟨rfl,b⟩
  have HX:=hZ ((uZ S1).bad b)
  clear b CC
  unfold fltP
  go_wp2_with fail
  exact⟨rfl,by rw [uZ HR];exact⟨rfl,uZ HX⟩⟩
theorem name_step {c:Cx} {l:List Tk} {d:Nat} {w:World} {r:Rs (List Nd)} {f:Nat} (ihw:∀{c:Cx} {l:List Tk} {d:Nat} {w:World} {r:Rs (List Nd)},PJ f 22 1 [] l d=some r→Rd w c l d→Calls Tryz.prog 198 #[.pointer (some ⟨c.g,0,none⟩),.int .i64 15,.string (bA [40]),.string (bA [41]),.func (Fn.func 161) #[.pointer (some ⟨c.g,0,none⟩)] #[]] w fun e w'=>NdP c w d r e w') (hJ:PJ (f+1) 21 0 [] l d=some r) (h:Rd w c l d) :
  Calls Tryz.prog 196 #[.pointer (some ⟨c.g,0,none⟩)] w fun e w'=>NdP c w d r e w':=by
 have S1:=hZ (St.start h 28 #[.int .i64 0,.string ⟨#[]⟩,.int .i64 0,.int .i64 0,.string ⟨#[]⟩,.slice none 0 0,.slice none 0 0,.bool false,.slice none 0 0,.int .i64 0])
 obtain⟨w1,hw1⟩:=eX (w.alloc (.cells #[.int .i64 0,.string ⟨#[]⟩,.int .i64 0,.int .i64 0,.string ⟨#[]⟩,.slice none 0 0,.slice none 0 0,.bool false,.slice none 0 0,.int .i64 0] 28))
 rw [hw1] at S1
 obtain⟨G,hG⟩:=eX (w.heap.size)
 have hgw:c.g<w.heap.size:=h.cells.2.2.2.2.2
 clear h
 go_enter Tryz.func196,Tryz.ntmps196
 have HJ0:=hZ (show jName (PJ f) l d=some r from hJ)
 clear hJ
 have HJ1:=hZ ((by have:=uZ HJ0;unfold jName at this;exact this))
 clear HJ0
 obtain⟨⟨k2,t2,n2,p2⟩,ht⟩:∃t,hdT l=t:=⟨_,rfl⟩
 have HT2:=hZ ht
 clear ht
 by_cases hq:(hdT l).k=1
 ·have HJ2:=hZ ((by have:=thn_nm hq (uZ HJ1);rw [uZ HT2] at this;exact this))
  clear HJ1
  have CC:=hZ ((by have:=pnm_ok (uZ S1).rd hq;rw [uZ HT2] at this;simp only [tkA] at this;exact this))
  go_wp2_with fail
  refine(uZ CC).mono ?_
  rintro e w2 ⟨rfl,r2,b⟩
  have S2:=hZ ((uZ S1).go b r2)
  clear b r2 CC S1
  go_upto_region 2 with fail
  obtain⟨w3,hw⟩:=eX (w2.alloc (.cells #[.int .i64 (k2:Int),.string (bA t2),.int .i64 (n2:Int),.int .i64 (p2:Int)] 85))
  have b:=alB hw
  obtain⟨Q,hQ⟩:=eX (w2.heap.size)
  have HBQ_3:Hid (w3.heap[Q]?=some (.cells #[.int .i64 (k2:Int),.string (bA t2),.int .i64 (n2:Int),.int .i64 (p2:Int)] 85 (0,0))):=hZ (by rw [←hw,←hQ];exact heap_alloc_new _ _)
  have S3:=hZ ((uZ S2).below b)
  have ltQ:w.heap.size<Q:=by rw [←hQ];exact(uZ S2).lt
  rw [hw]
  try rw [hQ]
  clear hw hQ b S2
  by_cases hb:isS [40] l.tail=true
  ·have hq:isS [40] l.tail=true:=by simpa using hb
   have CC:=hZ ((by have:=seesSign_any (uZ S3).rd [40];rw [hq] at this;exact this))
   go_wp2_with fail
   refine(uZ CC).mono ?_
   rintro e w4 ⟨rfl,b⟩
   have S4:=hZ ((uZ S3).below b)
   have HBQ_4:=bx_be HBQ_3 b
   clear b CC S3 HBQ_3
   have HJ3:=hZ ((by have:=(uZ HJ2);rw [if_pos hq] at this;exact this))
   clear HJ2
   obtain⟨yx,hy,hth⟩:=bnd_some (uZ HJ3)
   have HJ4:=hZ (hth)
   clear HJ3
   clear hth
   have CR:=hZ (ihw hy (uZ S4).rd)
   have HYX:=hZ hy
   clear hy
   rcases yx with ⟨ea,ep⟩|⟨nsx,lx⟩
   ·have HR:=hZ (thn_err (uZ HJ4))
    go_wp2_with fail
    refine(uZ CR).mono ?_
    rintro e wx ⟨rfl,b⟩
    have HX:=hZ ((uZ S4).bad b)
    clear b CR
    unfold fltP
    go_wp2_with fail
    exact⟨rfl,by rw [uZ HR];exact⟨rfl,uZ HX⟩⟩
   ·have HJ5:=hZ (thn_ok (uZ HJ4))
    clear HJ4
    go_wp2_with fail
    refine(uZ CR).mono ?_
    rintro e w5 ⟨kx,tx,vkx,vnx,vsx,fx,nx,akx,ckx,px,Zx,rfl,hlx,hn,r2,b⟩
    have S5:=hZ ((uZ S4).go b r2)
    have HBQ_5:=bx_go HBQ_4 b (by omega)
    obtain⟨lox,hlo⟩:=eX (w4.heap.size)
    have ltlox:w.heap.size<lox:=by rw [←hlo];exact(uZ S4).lt
    have lqQ_x:Q<lox:=by rw [←hlo];exact(Array.getElem?_eq_some_iff.1 (uZ HBQ_4)).1
    rw [hlo] at hn
    have HNx_5:=hZ hn
    clear hlo b r2 hn CR S4 HBQ_4
    go_upto_region 5 with fail
    obtain⟨w6,hw⟩:=eX (w5.alloc (.cells #[.int .i64 (kx:Int),.string (bA tx),.int .i64 (vkx:Int),.int .i64 (vnx:Int),.string (bA vsx),.slice none 0 0,.slice none 0 0,.bool fx,.slice akx nx ckx,.int .i64 (px:Int)] 28))
    have b:=alB hw
    obtain⟨P,hQ⟩:=eX (w5.heap.size)
    have HBP_6:Hid (w6.heap[P]?=some (.cells #[.int .i64 (kx:Int),.string (bA tx),.int .i64 (vkx:Int),.int .i64 (vnx:Int),.string (bA vsx),.slice none 0 0,.slice none 0 0,.bool fx,.slice akx nx ckx,.int .i64 (px:Int)] 28 (0,0))):=hZ (by rw [←hw,←hQ];exact heap_alloc_new _ _)
    have S6:=hZ ((uZ S5).below b)
    have HBQ_6:=bx_be HBQ_5 b
    have HNx_6:=hZ ((uZ HNx_5).beside (Beside.of_below (gr:=c.g) b) (by omega))
    have lQ_P:Q<P:=by rw [←hQ];exact(Array.getElem?_eq_some_iff.1 (uZ HBQ_5)).1
    have ANx_P:=hZ ((uZ HNx_5).fresh hQ)
    have ltP:w.heap.size<P:=by rw [←hQ];exact(uZ S5).lt
    rw [hw]
    try rw [hQ]
    clear hw hQ b S5 HBQ_5 HNx_5
    obtain⟨-,Qc1,-,Qc3⟩:=row_cell4 (uZ HBQ_6)
    obtain⟨-,Pc1,-,-,-,-,-,-,-,Pc9⟩:=row_cell10 (uZ HBP_6)
    have Pf1:=frozen_of_row w6 P 1 _ _ (uZ HBP_6)
    have Pf9:=frozen_of_row w6 P 9 _ _ (uZ HBP_6)
    go_region
    clear Qc1 Qc3 Pc1 Pc9 Pf1 Pf9
    obtain⟨w7,hw⟩:=eX (w6.setCell ⟨P,1,none⟩ (.string (bA t2)))
    have HBP_7:Hid (w7.heap[P]?=some (.cells #[.int .i64 (kx:Int),.string (bA t2),.int .i64 (vkx:Int),.int .i64 (vnx:Int),.string (bA vsx),.slice none 0 0,.slice none 0 0,.bool fx,.slice akx nx ckx,.int .i64 (px:Int)] 28 (0,0))):=hZ (by rw [←hw,heap_setCell_same w6 P 1 _ _ _ (uZ HBP_6)];rfl)
    have S7:Hid (St w c 28 #[.int .i64 0,.string ⟨#[]⟩,.int .i64 0,.int .i64 0,.string ⟨#[]⟩,.slice none 0 0,.slice none 0 0,.bool false,.slice none 0 0,.int .i64 0] w7 lx d):=hZ (by rw [←hw];exact(uZ S6).own P 1 _ ltP)
    have HBQ_7:=(bx_ne (q:=P) (f:=1) (v:=.string (bA t2)) HBQ_6 (by omega))
    rw [hw] at HBQ_7
    have HNx_7:=hZ ((uZ HNx_6).but (q:=P) (w':=w7) (fun b _ hb=>by rw [←hw];exact heap_setCell_other _ _ _ _ hb) (by rw [←hw];simp) (uZ ANx_P))
    rw [hw]
    clear hw S6 HBQ_6 HBP_6 HNx_6
    obtain⟨w8,hw⟩:=eX (w7.setCell ⟨P,9,none⟩ (.int .i64 (p2:Int)))
    have HBP_8:Hid (w8.heap[P]?=some (.cells #[.int .i64 (kx:Int),.string (bA t2),.int .i64 (vkx:Int),.int .i64 (vnx:Int),.string (bA vsx),.slice none 0 0,.slice none 0 0,.bool fx,.slice akx nx ckx,.int .i64 (p2:Int)] 28 (0,0))):=hZ (by rw [←hw,heap_setCell_same w7 P 9 _ _ _ (uZ HBP_7)];rfl)
    have S8:Hid (St w c 28 #[.int .i64 0,.string ⟨#[]⟩,.int .i64 0,.int .i64 0,.string ⟨#[]⟩,.slice none 0 0,.slice none 0 0,.bool false,.slice none 0 0,.int .i64 0] w8 lx d):=hZ (by rw [←hw];exact(uZ S7).own P 9 _ ltP)
    have HBQ_8:=(bx_ne (q:=P) (f:=9) (v:=.int .i64 (p2:Int)) HBQ_7 (by omega))
    rw [hw] at HBQ_8
    have HNx_8:=hZ ((uZ HNx_7).but (q:=P) (w':=w8) (fun b _ hb=>by rw [←hw];exact heap_setCell_other _ _ _ _ hb) (by rw [←hw];simp) (uZ ANx_P))
    rw [hw]
    clear hw S7 HBQ_7 HBP_7 HNx_7
    obtain⟨w9,hw⟩:=eX (w8.drew)
    have b:Below w8.heap.size w8 w9:=by rw [←hw];exact(Below.refl _ _).drew
    have S9:=hZ ((uZ S8).below b)
    have HBQ_9:=bx_be HBQ_8 b
    have HBP_9:=bx_be HBP_8 b
    have HNx_9:=hZ ((uZ HNx_8).beside (Beside.of_below (gr:=c.g) b) (by omega))
    rw [hw]
    clear hw b S8 HBQ_8 HBP_8 HNx_8
    have hr1:=okN_some (uZ HJ5)
    have hnn:=(uZ HNx_9).retext hlx t2 p2
    have HR:=hZ (hr1)
    have BX:=(uZ S9).bx
    rw [hG] at BX
    obtain⟨g0,g1,g2,g3,g4,g5,g6,g7,g8,g9⟩:=row_cell10 BX
    obtain⟨z0,z1,z2,z3,z4,z5,z6,z7,z8,z9⟩:=frozen10 BX
    clear BX
    obtain⟨Pc0,Pc1,Pc2,Pc3,Pc4,Pc5,Pc6,Pc7,Pc8,Pc9⟩:=row_cell10 (uZ HBP_9)
    have FF:=hZ (St.done (uZ S9) (hnn.low (by omega)) (by rw [List.length_map];exact hlx) hG)
    go_wp2_with fail
    refine rtN (p:=2) rfl rfl (uZ FF).1 rfl rfl ?_
    rw [uZ HR]
    exact(uZ FF).2
  ·have hq:isS [40] l.tail=false:=by simpa using hb
   have CC:=hZ ((by have:=seesSign_any (uZ S3).rd [40];rw [hq] at this;exact this))
   go_wp2_with fail
   refine(uZ CC).mono ?_
   rintro e w4 ⟨rfl,b⟩
   have S4:=hZ ((uZ S3).below b)
   have HBQ_4:=bx_be HBQ_3 b
   clear b CC S3 HBQ_3
   have HJ3:=hZ ((by have:=(uZ HJ2);rw [if_neg (by rw [hq];decide)] at this;exact this))
   clear HJ2
   have hr1:=okN_some (uZ HJ3)
   have hnn:=NdOk.leaf (lo:=w.heap.size+1) (w:=w4) (uZ S4).lt 14 t2 0 0 [] false p2
   have HR:=hZ (hr1)
   have BX:=(uZ S4).bx
   rw [hG] at BX
   obtain⟨g0,g1,g2,g3,g4,g5,g6,g7,g8,g9⟩:=row_cell10 BX
   obtain⟨z0,z1,z2,z3,z4,z5,z6,z7,z8,z9⟩:=frozen10 BX
   clear BX
   obtain⟨Qc0,Qc1,Qc2,Qc3⟩:=row_cell4 (uZ HBQ_4)
   have FF:=hZ (St.done (uZ S4) (hnn) rfl hG)
   go_wp2_with fail
   refine rtN (p:=2) rfl rfl (uZ FF).1 rfl rfl ?_
   rw [uZ HR]
   exact(uZ FF).2
 ·have CC:=hZ (pnm_bad (uZ S1).rd hq)
  have HR:=hZ (thn_nmb hq (uZ HJ1))
  go_wp2_with fail
  refine(uZ CC).mono ?_
  rintro e wx ⟨rfl,b⟩
  have HX:=hZ ((uZ S1).bad b)
  clear b CC
  unfold fltP
  go_wp2_with fail
  exact⟨rfl,by rw [uZ HR];exact⟨rfl,uZ HX⟩⟩
theorem tl_0:(bA [124,124]).toList=[124,124]:=bA_list _
theorem tl_1:(bA [38,38]).toList=[38,38]:=bA_list _
theorem tl_2:(bA [61,61]).toList=[61,61]:=bA_list _
theorem tl_3:(bA [33,61]).toList=[33,61]:=bA_list _
theorem tl_4:(bA [60]).toList=[60]:=bA_list _
theorem tl_5:(bA [60,61]).toList=[60,61]:=bA_list _
theorem tl_6:(bA [62]).toList=[62]:=bA_list _
theorem tl_7:(bA [62,61]).toList=[62,61]:=bA_list _
theorem tl_8:(bA [43]).toList=[43]:=bA_list _
theorem tl_9:(bA [45]).toList=[45]:=bA_list _
theorem tl_10:(bA [42]).toList=[42]:=bA_list _
theorem tl_11:(bA [47]).toList=[47]:=bA_list _
theorem tl_12:(bA [37]).toList=[37]:=bA_list _
theorem row_any {c:Cx} {l:List Tk} {d:Nat} {w:World} (h:Rd w c l d) :
  Calls Tryz.prog 190 #[.pointer (some ⟨c.g,0,none⟩)] w fun e w'=>e=.returned (.int .i64 (rowT l:Int))∧Below w.heap.size w w':=by
 have CT:=hZ (token_any h)
 obtain⟨R,hR⟩:=eX (rowT l)
 have HR:=hZ hR
 rw [hR]
 clear hR
 obtain⟨⟨k,t,n,p⟩,ht⟩:∃t,hdT l=t:=⟨_,rfl⟩
 have HT:=hZ ht
 rw [ht] at CT
 simp only [tkA] at CT
 clear h ht
 go_enter Tryz.func190,Tryz.ntmps190
 go_wp2_with fail
 refine(uZ CT).mono ?_
 rintro e w1 ⟨rfl,b1⟩
 go_upto_region 2 with fail
 obtain⟨w2,hw2⟩:=eX (w1.alloc (.cells #[.int .i64 (k:Int),.string (bA t),.int .i64 (n:Int),.int .i64 (p:Int)] 85))
 have A2:w2.heap[w1.heap.size]?=some (.cells #[.int .i64 (k:Int),.string (bA t),.int .i64 (n:Int),.int .i64 (p:Int)] 85 (0,0)):=by rw [←hw2];exact heap_alloc_new _ _
 have B2:=alB hw2
 have HX:Hid (Below w.heap.size w w2):=hZ (b1.trans (B2.mono b1.size))
 obtain⟨a0,a1,a2,a3⟩:=row_cell4 A2
 rw [hw2]
 clear hw2 A2 B2 b1 CT
 by_cases hk:k=5
 ·subst hk
  by_cases ht:t=[124,124]
  ·have HV:=hZ (show R=1 by rw [←uZ HR];unfold rowT;rw [uZ HT,ht];rfl)
   have p0:(bA t).toList=[124,124]:=by rw [ht];exact tl_0
   clear ht
   go_wp2_with fail
   go_ret
   exact⟨by rw [uZ HV];rfl,uZ HX⟩
  ·have m0:¬t=[124,124]:=ht
   have n0:((bA t).toList == [124,124])=false:=by rw [beq_eq_false_iff_ne];exact fun e=>ht (bA_inj.1 (bytes_inj.1 (e.trans tl_0.symm)))
   clear ht
   by_cases ht:t=[38,38]
   ·have HV:=hZ (show R=2 by rw [←uZ HR];unfold rowT;rw [uZ HT,ht];rfl)
    clear m0
    have p1:(bA t).toList=[38,38]:=by rw [ht];exact tl_1
    clear ht
    clear n0
    go_wp2_with fail
    go_ret
    exact⟨by rw [uZ HV];rfl,uZ HX⟩
   ·have m1:¬t=[38,38]:=ht
    have n1:((bA t).toList == [38,38])=false:=by rw [beq_eq_false_iff_ne];exact fun e=>ht (bA_inj.1 (bytes_inj.1 (e.trans tl_1.symm)))
    clear ht
    by_cases ht:t=[61,61]
    ·have HV:=hZ (show R=3 by rw [←uZ HR];unfold rowT;rw [uZ HT,ht];rfl)
     clear m0 m1
     have p2:(bA t).toList=[61,61]:=by rw [ht];exact tl_2
     clear ht
     clear n0 n1
     go_wp2_with fail
     go_ret
     exact⟨by rw [uZ HV];rfl,uZ HX⟩
    ·have m2:¬t=[61,61]:=ht
     have n2:((bA t).toList == [61,61])=false:=by rw [beq_eq_false_iff_ne];exact fun e=>ht (bA_inj.1 (bytes_inj.1 (e.trans tl_2.symm)))
     clear ht
     by_cases ht:t=[33,61]
     ·have HV:=hZ (show R=3 by rw [←uZ HR];unfold rowT;rw [uZ HT,ht];rfl)
      clear m0 m1 m2
      have p3:(bA t).toList=[33,61]:=by rw [ht];exact tl_3
      clear ht
      clear n0 n1 n2
      go_wp2_with fail
      go_ret
      exact⟨by rw [uZ HV];rfl,uZ HX⟩
     ·have m3:¬t=[33,61]:=ht
      have n3:((bA t).toList == [33,61])=false:=by rw [beq_eq_false_iff_ne];exact fun e=>ht (bA_inj.1 (bytes_inj.1 (e.trans tl_3.symm)))
      clear ht
      by_cases ht:t=[60]
      ·have HV:=hZ (show R=3 by rw [←uZ HR];unfold rowT;rw [uZ HT,ht];rfl)
       clear m0 m1 m2 m3
       have p4:(bA t).toList=[60]:=by rw [ht];exact tl_4
       clear ht
       clear n0 n1 n2 n3
       go_wp2_with fail
       go_ret
       exact⟨by rw [uZ HV];rfl,uZ HX⟩
      ·have m4:¬t=[60]:=ht
       have n4:((bA t).toList == [60])=false:=by rw [beq_eq_false_iff_ne];exact fun e=>ht (bA_inj.1 (bytes_inj.1 (e.trans tl_4.symm)))
       clear ht
       by_cases ht:t=[60,61]
       ·have HV:=hZ (show R=3 by rw [←uZ HR];unfold rowT;rw [uZ HT,ht];rfl)
        clear m0 m1 m2 m3 m4
        have p5:(bA t).toList=[60,61]:=by rw [ht];exact tl_5
        clear ht
        clear n0 n1 n2 n3 n4
        go_wp2_with fail
        go_ret
        exact⟨by rw [uZ HV];rfl,uZ HX⟩
       ·have m5:¬t=[60,61]:=ht
        have n5:((bA t).toList == [60,61])=false:=by rw [beq_eq_false_iff_ne];exact fun e=>ht (bA_inj.1 (bytes_inj.1 (e.trans tl_5.symm)))
        clear ht
        by_cases ht:t=[62]
        ·have HV:=hZ (show R=3 by rw [←uZ HR];unfold rowT;rw [uZ HT,ht];rfl)
         clear m0 m1 m2 m3 m4 m5
         have p6:(bA t).toList=[62]:=by rw [ht];exact tl_6
         clear ht
         clear n0 n1 n2 n3 n4 n5
         go_wp2_with fail
         go_ret
         exact⟨by rw [uZ HV];rfl,uZ HX⟩
        ·have m6:¬t=[62]:=ht
         have n6:((bA t).toList == [62])=false:=by rw [beq_eq_false_iff_ne];exact fun e=>ht (bA_inj.1 (bytes_inj.1 (e.trans tl_6.symm)))
         clear ht
         by_cases ht:t=[62,61]
         ·have HV:=hZ (show R=3 by rw [←uZ HR];unfold rowT;rw [uZ HT,ht];rfl)
          clear m0 m1 m2 m3 m4 m5 m6
          have p7:(bA t).toList=[62,61]:=by rw [ht];exact tl_7
          clear ht
          clear n0 n1 n2 n3 n4 n5 n6
          go_wp2_with fail
          go_ret
          exact⟨by rw [uZ HV];rfl,uZ HX⟩
         ·have m7:¬t=[62,61]:=ht
          have n7:((bA t).toList == [62,61])=false:=by rw [beq_eq_false_iff_ne];exact fun e=>ht (bA_inj.1 (bytes_inj.1 (e.trans tl_7.symm)))
          clear ht
          by_cases ht:t=[43]
          ·have HV:=hZ (show R=4 by rw [←uZ HR];unfold rowT;rw [uZ HT,ht];rfl)
           clear m0 m1 m2 m3 m4 m5 m6 m7
           have p8:(bA t).toList=[43]:=by rw [ht];exact tl_8
           clear ht
           clear n0 n1 n2 n3 n4 n5 n6 n7
           go_wp2_with fail
           go_ret
           exact⟨by rw [uZ HV];rfl,uZ HX⟩
          ·have m8:¬t=[43]:=ht
           have n8:((bA t).toList == [43])=false:=by rw [beq_eq_false_iff_ne];exact fun e=>ht (bA_inj.1 (bytes_inj.1 (e.trans tl_8.symm)))
           clear ht
           by_cases ht:t=[45]
           ·have HV:=hZ (show R=4 by rw [←uZ HR];unfold rowT;rw [uZ HT,ht];rfl)
            clear m0 m1 m2 m3 m4 m5 m6 m7 m8
            have p9:(bA t).toList=[45]:=by rw [ht];exact tl_9
            clear ht
            clear n0 n1 n2 n3 n4 n5 n6 n7 n8
            go_wp2_with fail
            go_ret
            exact⟨by rw [uZ HV];rfl,uZ HX⟩
           ·have m9:¬t=[45]:=ht
            have n9:((bA t).toList == [45])=false:=by rw [beq_eq_false_iff_ne];exact fun e=>ht (bA_inj.1 (bytes_inj.1 (e.trans tl_9.symm)))
            clear ht
            by_cases ht:t=[42]
            ·have HV:=hZ (show R=5 by rw [←uZ HR];unfold rowT;rw [uZ HT,ht];rfl)
             clear m0 m1 m2 m3 m4 m5 m6 m7 m8 m9
             have p10:(bA t).toList=[42]:=by rw [ht];exact tl_10
             clear ht
             clear n0 n1 n2 n3 n4 n5 n6 n7 n8 n9
             go_wp2_with fail
             go_ret
             exact⟨by rw [uZ HV];rfl,uZ HX⟩
            ·have m10:¬t=[42]:=ht
             have n10:((bA t).toList == [42])=false:=by rw [beq_eq_false_iff_ne];exact fun e=>ht (bA_inj.1 (bytes_inj.1 (e.trans tl_10.symm)))
             clear ht
             by_cases ht:t=[47]
             ·have HV:=hZ (show R=5 by rw [←uZ HR];unfold rowT;rw [uZ HT,ht];rfl)
              clear m0 m1 m2 m3 m4 m5 m6 m7 m8 m9 m10
              have p11:(bA t).toList=[47]:=by rw [ht];exact tl_11
              clear ht
              clear n0 n1 n2 n3 n4 n5 n6 n7 n8 n9 n10
              go_wp2_with fail
              go_ret
              exact⟨by rw [uZ HV];rfl,uZ HX⟩
             ·have m11:¬t=[47]:=ht
              have n11:((bA t).toList == [47])=false:=by rw [beq_eq_false_iff_ne];exact fun e=>ht (bA_inj.1 (bytes_inj.1 (e.trans tl_11.symm)))
              clear ht
              by_cases ht:t=[37]
              ·have HV:=hZ (show R=5 by rw [←uZ HR];unfold rowT;rw [uZ HT,ht];rfl)
               clear m0 m1 m2 m3 m4 m5 m6 m7 m8 m9 m10 m11
               have p12:(bA t).toList=[37]:=by rw [ht];exact tl_12
               clear ht
               clear n0 n1 n2 n3 n4 n5 n6 n7 n8 n9 n10 n11
               go_wp2_with fail
               go_ret
               exact⟨by rw [uZ HV];rfl,uZ HX⟩
              ·have m12:¬t=[37]:=ht
               have n12:((bA t).toList == [37])=false:=by rw [beq_eq_false_iff_ne];exact fun e=>ht (bA_inj.1 (bytes_inj.1 (e.trans tl_12.symm)))
               clear ht
               have HV:=hZ (show R=0 by rw [←uZ HR];unfold rowT;rw [uZ HT];show rowS t=0;unfold rowS;simp only [m0,m1,m2,m3,m4,m5,m6,m7,m8,m9,m10,m11,m12,or_self,if_false,reduceIte])
               clear m0 m1 m2 m3 m4 m5 m6 m7 m8 m9 m10 m11 m12
               go_wp2_with fail
               go_ret
               exact⟨by rw [uZ HV];rfl,uZ HX⟩
 ·have hk1:¬(k:Int)=5:=by omega
  have hk2:((k:Int) == 5)=false:=by simpa using hk1
  have HV:=hZ (show R=0 by rw [←uZ HR];unfold rowT;rw [uZ HT];exact if_neg hk)
  go_wp2_with fail
  go_ret
  exact⟨by rw [uZ HV];rfl,uZ HX⟩
end Go.Proofs.YtjdpaihhhjdgmaaGreatDoor
