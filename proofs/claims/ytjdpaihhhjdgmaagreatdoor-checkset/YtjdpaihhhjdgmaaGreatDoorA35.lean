/-
  Layer 17 (parse): words, returns, lets, loops, groups, parameters; conditions: the reader's state.
-/
import Derived.Test.YtjdpaihhhjdgmaaGreatDoorA33
set_option linter.unusedVariables false
set_option linter.unusedSimpArgs false
set_option maxRecDepth 100000
set_option maxHeartbeats 8000000
namespace Go.Proofs.YtjdpaihhhjdgmaaGreatDoor
open Go.RowKit
set_option linter.unusedVariables false
set_option linter.unusedSimpArgs false
theorem pword_any {c:Cx} {l:List Tk} {d:Nat} {w:World} {r:Rs (List Nd)} {f x:Nat} (hk0:¬(hdT l).k=0) (hJ:PJ (f+1) 26 x [] l d=some r) (h:Rd w c l d) :
  Calls Tryz.prog 150 #[.pointer (some ⟨c.g,0,none⟩),.int .i64 (x:Int)] w fun e w'=>NdP c w d r e w':=by
 have S1:=hZ (St.start h 28 #[.int .i64 0,.string ⟨#[]⟩,.int .i64 0,.int .i64 0,.string ⟨#[]⟩,.slice none 0 0,.slice none 0 0,.bool false,.slice none 0 0,.int .i64 0])
 obtain⟨w1,hw1⟩:=eX (w.alloc (.cells #[.int .i64 0,.string ⟨#[]⟩,.int .i64 0,.int .i64 0,.string ⟨#[]⟩,.slice none 0 0,.slice none 0 0,.bool false,.slice none 0 0,.int .i64 0] 28))
 rw [hw1] at S1
 obtain⟨G,hG⟩:=eX (w.heap.size)
 have hgw:c.g<w.heap.size:=h.cells.2.2.2.2.2
 have HK0:=hZ hk0
 clear h
 go_enter Tryz.func150,Tryz.ntmps150
 have HJ0:=hZ (show jWord x l=some r from hJ)
 clear hJ
 obtain⟨⟨k,t,n,p⟩,ht⟩:∃t,hdT l=t:=⟨_,rfl⟩
 have HT:=hZ ht
 clear ht
 have HJ1:=hZ ((by have:=uZ HJ0;unfold jWord at this;rw [uZ HT] at this;exact this))
 clear HJ0
 have CC:=hZ ((by have:=pass_any (uZ S1).rd (uZ HK0);rw [uZ HT] at this;simp only [tkA] at this;exact this))
 go_wp2_with fail
 refine(uZ CC).mono ?_
 rintro e w2 ⟨rfl,r2,b⟩
 have S2:=hZ ((uZ S1).go b r2)
 clear b r2 CC S1
 go_upto_region 2 with (first|(refine wpl_tk3 rfl _ rfl _ _ _ _ rfl ?_)|(refine wpl_tk1 rfl _ rfl _ _ _ _ rfl ?_)|(refine wpl_tk0 rfl _ rfl _ _ _ _ rfl ?_))
 obtain⟨w3,hw⟩:=eX (w2.alloc (.cells #[.int .i64 (x:Int),.string ⟨#[]⟩,.int .i64 0,.int .i64 0,.string ⟨#[]⟩,.slice none 0 0,.slice none 0 0,.bool false,.slice none 0 0,.int .i64 (p:Int)] 28))
 have b:=alB hw
 obtain⟨Q,hQ⟩:=eX (w2.heap.size)
 have HBQ_3:Hid (w3.heap[Q]?=some (.cells #[.int .i64 (x:Int),.string ⟨#[]⟩,.int .i64 0,.int .i64 0,.string ⟨#[]⟩,.slice none 0 0,.slice none 0 0,.bool false,.slice none 0 0,.int .i64 (p:Int)] 28 (0,0))):=hZ (by rw [←hw,←hQ];exact heap_alloc_new _ _)
 have S3:=hZ ((uZ S2).below b)
 have ltQ:w.heap.size<Q:=by rw [←hQ];exact(uZ S2).lt
 rw [hw]
 try rw [hQ]
 clear hw hQ b S2
 by_cases hb:isS [59] l.tail=true
 ·have hq:isS [59] l.tail=true:=by simpa using hb
  have HJ2:=hZ (thn_sg hq (uZ HJ1))
  clear HJ1
  have CC:=hZ (psg_ok (uZ S3).rd [59] hq)
  go_wp2_with fail
  refine(uZ CC).mono ?_
  rintro e w4 ⟨rfl,r2,b⟩
  have S4:=hZ ((uZ S3).go b r2)
  have HBQ_4:=bx_go HBQ_3 b (by omega)
  clear b r2 CC S3 HBQ_3
  have hr1:=okN_some (uZ HJ2)
  have hnn:=NdOk.leaf (lo:=w.heap.size+1) (w:=w4) (uZ S4).lt x [] 0 0 [] false p
  have HR:=hZ (hr1)
  have BX:=(uZ S4).bx
  rw [hG] at BX
  obtain⟨g0,g1,g2,g3,g4,g5,g6,g7,g8,g9⟩:=row_cell10 BX
  obtain⟨z0,z1,z2,z3,z4,z5,z6,z7,z8,z9⟩:=frozen10 BX
  clear BX
  obtain⟨Qc0,Qc1,Qc2,Qc3,Qc4,Qc5,Qc6,Qc7,Qc8,Qc9⟩:=row_cell10 (uZ HBQ_4)
  have FF:=hZ (St.done (uZ S4) (hnn) rfl hG)
  go_wp2_with fail
  refine rtN (p:=4) rfl rfl (uZ FF).1 rfl rfl ?_
  rw [uZ HR]
  exact(uZ FF).2
 ·have hq:isS [59] l.tail=false:=by simpa using hb
  have CC:=hZ (psg_bad (uZ S3).rd [59] hq)
  have HR:=hZ (thn_sgb hq (uZ HJ1))
  go_wp2_with fail
  refine(uZ CC).mono ?_
  rintro e wx ⟨rfl,b⟩
  have HX:=hZ ((uZ S3).bad b)
  clear b CC
  unfold fltP
  go_wp2_with fail
  exact⟨rfl,by rw [uZ HR];exact⟨rfl,uZ HX⟩⟩
theorem give_step {c:Cx} {l:List Tk} {d:Nat} {w:World} {r:Rs (List Nd)} {f:Nat} (ihe:∀{c:Cx} {l:List Tk} {d:Nat} {w:World} {r:Rs (List Nd)},PJ f 0 0 [] l d=some r→Rd w c l d→Calls Tryz.prog 161 #[.pointer (some ⟨c.g,0,none⟩)] w fun e w'=>NdP c w d r e w') (hk0:¬(hdT l).k=0) (hJ:PJ (f+1) 18 0 [] l d=some r) (h:Rd w c l d) :
  Calls Tryz.prog 149 #[.pointer (some ⟨c.g,0,none⟩)] w fun e w'=>NdP c w d r e w':=by
 have S1:=hZ (St.start h 28 #[.int .i64 0,.string ⟨#[]⟩,.int .i64 0,.int .i64 0,.string ⟨#[]⟩,.slice none 0 0,.slice none 0 0,.bool false,.slice none 0 0,.int .i64 0])
 obtain⟨w1,hw1⟩:=eX (w.alloc (.cells #[.int .i64 0,.string ⟨#[]⟩,.int .i64 0,.int .i64 0,.string ⟨#[]⟩,.slice none 0 0,.slice none 0 0,.bool false,.slice none 0 0,.int .i64 0] 28))
 rw [hw1] at S1
 obtain⟨G,hG⟩:=eX (w.heap.size)
 have hgw:c.g<w.heap.size:=h.cells.2.2.2.2.2
 have HK0:=hZ hk0
 clear h
 go_enter Tryz.func149,Tryz.ntmps149
 have HJ0:=hZ (show jGive (PJ f) l d=some r from hJ)
 clear hJ
 obtain⟨⟨k,t,n,p⟩,ht⟩:∃t,hdT l=t:=⟨_,rfl⟩
 have HT:=hZ ht
 clear ht
 have HJ1:=hZ ((by have:=uZ HJ0;unfold jGive at this;rw [uZ HT] at this;exact this))
 clear HJ0
 have CC:=hZ ((by have:=pass_any (uZ S1).rd (uZ HK0);rw [uZ HT] at this;simp only [tkA] at this;exact this))
 go_wp2_with fail
 refine(uZ CC).mono ?_
 rintro e w2 ⟨rfl,r2,b⟩
 have S2:=hZ ((uZ S1).go b r2)
 clear b r2 CC S1
 go_upto_region 2 with (first|(refine wpl_tk3 rfl _ rfl _ _ _ _ rfl ?_)|(refine wpl_tk1 rfl _ rfl _ _ _ _ rfl ?_)|(refine wpl_tk0 rfl _ rfl _ _ _ _ rfl ?_))
 obtain⟨w3,hw⟩:=eX (w2.alloc (.cells #[.int .i64 9,.string ⟨#[]⟩,.int .i64 0,.int .i64 0,.string ⟨#[]⟩,.slice none 0 0,.slice none 0 0,.bool false,.slice none 0 0,.int .i64 (p:Int)] 28))
 have b:=alB hw
 obtain⟨Q,hQ⟩:=eX (w2.heap.size)
 have HBQ_3:Hid (w3.heap[Q]?=some (.cells #[.int .i64 9,.string ⟨#[]⟩,.int .i64 0,.int .i64 0,.string ⟨#[]⟩,.slice none 0 0,.slice none 0 0,.bool false,.slice none 0 0,.int .i64 (p:Int)] 28 (0,0))):=hZ (by rw [←hw,←hQ];exact heap_alloc_new _ _)
 have S3:=hZ ((uZ S2).below b)
 have ltQ:w.heap.size<Q:=by rw [←hQ];exact(uZ S2).lt
 rw [hw]
 try rw [hQ]
 clear hw hQ b S2
 by_cases hb:isS [59] l.tail=true
 ·have hq:isS [59] l.tail=true:=by simpa using hb
  have CC:=hZ ((by have:=seesSign_any (uZ S3).rd [59];rw [hq] at this;exact this))
  go_wp2_with fail
  refine(uZ CC).mono ?_
  rintro e w4 ⟨rfl,b⟩
  have S4:=hZ ((uZ S3).below b)
  have HBQ_4:=bx_be HBQ_3 b
  clear b CC S3 HBQ_3
  have HJ2:=hZ ((by have:=(uZ HJ1);rw [if_pos hq] at this;exact this))
  clear HJ1
  by_cases hb:isS [59] l.tail=true
  ·have hq:isS [59] l.tail=true:=by simpa using hb
   have HJ3:=hZ (thn_sg hq (uZ HJ2))
   clear HJ2
   have CC:=hZ (psg_ok (uZ S4).rd [59] hq)
   go_wp2_with fail
   refine(uZ CC).mono ?_
   rintro e w5 ⟨rfl,r2,b⟩
   have S5:=hZ ((uZ S4).go b r2)
   have HBQ_5:=bx_go HBQ_4 b (by omega)
   clear b r2 CC S4 HBQ_4
   have hr1:=okN_some (uZ HJ3)
   have hnn:=NdOk.leaf (lo:=w.heap.size+1) (w:=w5) (uZ S5).lt 9 [] 0 0 [] false p
   have HR:=hZ (hr1)
   have BX:=(uZ S5).bx
   rw [hG] at BX
   obtain⟨g0,g1,g2,g3,g4,g5,g6,g7,g8,g9⟩:=row_cell10 BX
   obtain⟨z0,z1,z2,z3,z4,z5,z6,z7,z8,z9⟩:=frozen10 BX
   clear BX
   obtain⟨Qc0,Qc1,Qc2,Qc3,Qc4,Qc5,Qc6,Qc7,Qc8,Qc9⟩:=row_cell10 (uZ HBQ_5)
   have FF:=hZ (St.done (uZ S5) (hnn) rfl hG)
   go_wp2_with fail
   refine rtN (p:=2) rfl rfl (uZ FF).1 rfl rfl ?_
   rw [uZ HR]
   exact(uZ FF).2
  ·have hq:isS [59] l.tail=false:=by simpa using hb
   have CC:=hZ (psg_bad (uZ S4).rd [59] hq)
   have HR:=hZ (thn_sgb hq (uZ HJ2))
   go_wp2_with fail
   refine(uZ CC).mono ?_
   rintro e wx ⟨rfl,b⟩
   have HX:=hZ ((uZ S4).bad b)
   clear b CC
   unfold fltP
   go_wp2_with fail
   exact⟨rfl,by rw [uZ HR];exact⟨rfl,uZ HX⟩⟩
 ·have hq:isS [59] l.tail=false:=by simpa using hb
  have CC:=hZ ((by have:=seesSign_any (uZ S3).rd [59];rw [hq] at this;exact this))
  go_wp2_with fail
  refine(uZ CC).mono ?_
  rintro e w4 ⟨rfl,b⟩
  have S4:=hZ ((uZ S3).below b)
  have HBQ_4:=bx_be HBQ_3 b
  clear b CC S3 HBQ_3
  have HJ2:=hZ ((by have:=(uZ HJ1);rw [if_neg (by rw [hq];decide)] at this;exact this))
  clear HJ1
  obtain⟨yx,hy,hth⟩:=bnd_some (uZ HJ2)
  have HJ3:=hZ (hth)
  clear HJ2
  clear hth
  have CR:=hZ (ihe hy (uZ S4).rd)
  have HYX:=hZ hy
  clear hy
  rcases yx with ⟨ea,ep⟩|⟨nsx,lx⟩
  ·have HR:=hZ (thn_err (uZ HJ3))
   go_wp2_with fail
   refine(uZ CR).mono ?_
   rintro e wx ⟨rfl,b⟩
   have HX:=hZ ((uZ S4).bad b)
   clear b CR
   unfold fltP
   go_wp2_with fail
   exact⟨rfl,by rw [uZ HR];exact⟨rfl,uZ HX⟩⟩
  ·have HJ4:=hZ (thn_ok (uZ HJ3))
   clear HJ3
   go_wp2_with fail
   refine(uZ CR).mono ?_
   rintro e w5 ⟨kx,tx,vkx,vnx,vsx,fx,nx,akx,ckx,px,Zx,rfl,hlx,hn,r2,b⟩
   have S5:=hZ ((uZ S4).go b r2)
   have HBQ_5:=bx_go HBQ_4 b (by omega)
   obtain⟨lox,hlo⟩:=eX (w4.heap.size)
   have ltlox:w.heap.size<lox:=by rw [←hlo];exact(uZ S4).lt
   have lqQ_x:Q<lox:=by rw [←hlo];exact(Array.getElem?_eq_some_iff.1 (uZ HBQ_4)).1
   rw [hlo] at hn
   have HNx_5:=hZ hn
   clear hlo b r2 hn CR S4 HBQ_4
   have hkn:=hZ (uZ HNx_5)
   obtain⟨w6,hwr⟩:=eX (w5.alloc (.cells #[.int .i64 (kx:Int),.string (bA tx),.int .i64 (vkx:Int),.int .i64 (vnx:Int),.string (bA vsx),.slice none 0 0,.slice none 0 0,.bool fx,.slice akx nx ckx,.int .i64 (px:Int)] 28))
   have b:=alB hwr
   obtain⟨qr,hqr⟩:=eX (w5.heap.size)
   have HKr_6:Hid (Kr lox w6 _ (.slice (some ⟨qr,0,none⟩) _ _) [.int .i64 (kx:Int),.string (bA tx),.int .i64 (vkx:Int),.int .i64 (vnx:Int),.string (bA vsx),.slice none 0 0,.slice none 0 0,.bool fx,.slice akx nx ckx,.int .i64 (px:Int)] _):=hZ (by rw [←hwr,←hqr];exact Kr.mk' (uZ hkn) (by rw [hlx];decide))
   rw [hlx] at HKr_6
   have ltr:w.heap.size<qr:=by rw [←hqr];exact(uZ S5).lt
   have S6:=hZ ((uZ S5).below b)
   have HBQ_6:=bx_be HBQ_5 b
   clear b hkn S5 HBQ_5 HNx_5
   obtain⟨-,-,-,-,-,-,-,-,Qc8,-⟩:=row_cell10 (uZ HBQ_6)
   have Qf8:=frozen_of_row w6 Q 8 _ _ (uZ HBQ_6)
   go_upto_region 4 with fail
   clear Qc8 Qf8 hwr hqr
   obtain⟨w7,hw⟩:=eX (w6.setCell ⟨Q,8,none⟩ (.slice (some ⟨qr,0,none⟩) 1 1))
   have HBQ_7:Hid (w7.heap[Q]?=some (.cells #[.int .i64 9,.string ⟨#[]⟩,.int .i64 0,.int .i64 0,.string ⟨#[]⟩,.slice none 0 0,.slice none 0 0,.bool false,.slice (some ⟨qr,0,none⟩) 1 1,.int .i64 (p:Int)] 28 (0,0))):=hZ (by rw [←hw,heap_setCell_same w6 Q 8 _ _ _ (uZ HBQ_6)];rfl)
   have S7:Hid (St w c 28 #[.int .i64 0,.string ⟨#[]⟩,.int .i64 0,.int .i64 0,.string ⟨#[]⟩,.slice none 0 0,.slice none 0 0,.bool false,.slice none 0 0,.int .i64 0] w7 lx d):=hZ (by rw [←hw];exact(uZ S6).own Q 8 _ ltQ)
   have HKr_7:=hZ ((uZ HKr_6).but (q:=Q) (w':=w7) (fun b _ hb=>by rw [←hw];exact heap_setCell_other _ _ _ _ hb) (by rw [←hw];simp) (by omega))
   rw [hw]
   clear hw S6 HBQ_6 HKr_6
   by_cases hb:isS [59] lx=true
   ·have hq:isS [59] lx=true:=by simpa using hb
    have HJ5:=hZ (thn_sg hq (uZ HJ4))
    clear HJ4
    have CC:=hZ (psg_ok (uZ S7).rd [59] hq)
    go_wp2_with fail
    refine(uZ CC).mono ?_
    rintro e w8 ⟨rfl,r2,b⟩
    have S8:=hZ ((uZ S7).go b r2)
    have HBQ_8:=bx_go HBQ_7 b (by omega)
    have HKr_8:=hZ ((uZ HKr_7).beside b (by omega))
    clear b r2 CC S7 HBQ_7 HKr_7
    have hr1:=okN_some (uZ HJ5)
    have hnn:=(uZ HKr_8).node' hlx 9 [] 0 0 [] false p
    have HR:=hZ (hr1)
    have BX:=(uZ S8).bx
    rw [hG] at BX
    obtain⟨g0,g1,g2,g3,g4,g5,g6,g7,g8,g9⟩:=row_cell10 BX
    obtain⟨z0,z1,z2,z3,z4,z5,z6,z7,z8,z9⟩:=frozen10 BX
    clear BX
    obtain⟨Qc0,Qc1,Qc2,Qc3,Qc4,Qc5,Qc6,Qc7,Qc8,Qc9⟩:=row_cell10 (uZ HBQ_8)
    have FF:=hZ (St.done (uZ S8) (hnn.low (by omega)) rfl hG)
    go_wp2_with fail
    refine rtN (p:=2) rfl rfl (uZ FF).1 rfl rfl ?_
    rw [uZ HR]
    exact(uZ FF).2
   ·have hq:isS [59] lx=false:=by simpa using hb
    have CC:=hZ (psg_bad (uZ S7).rd [59] hq)
    have HR:=hZ (thn_sgb hq (uZ HJ4))
    go_wp2_with fail
    refine(uZ CC).mono ?_
    rintro e wx ⟨rfl,b⟩
    have HX:=hZ ((uZ S7).bad b)
    clear b CC
    unfold fltP
    go_wp2_with fail
    exact⟨rfl,by rw [uZ HR];exact⟨rfl,uZ HX⟩⟩
theorem let_step {c:Cx} {l:List Tk} {d:Nat} {w:World} {r:Rs (List Nd)} {f:Nat} (ihe:∀{c:Cx} {l:List Tk} {d:Nat} {w:World} {r:Rs (List Nd)},PJ f 0 0 [] l d=some r→Rd w c l d→Calls Tryz.prog 161 #[.pointer (some ⟨c.g,0,none⟩)] w fun e w'=>NdP c w d r e w') (hk0:¬(hdT l).k=0) (hJ:PJ (f+1) 15 0 [] l d=some r) (h:Rd w c l d) :
  Calls Tryz.prog 146 #[.pointer (some ⟨c.g,0,none⟩)] w fun e w'=>NdP c w d r e w':=by
 have S1:=hZ (St.start h 28 #[.int .i64 0,.string ⟨#[]⟩,.int .i64 0,.int .i64 0,.string ⟨#[]⟩,.slice none 0 0,.slice none 0 0,.bool false,.slice none 0 0,.int .i64 0])
 obtain⟨w1,hw1⟩:=eX (w.alloc (.cells #[.int .i64 0,.string ⟨#[]⟩,.int .i64 0,.int .i64 0,.string ⟨#[]⟩,.slice none 0 0,.slice none 0 0,.bool false,.slice none 0 0,.int .i64 0] 28))
 rw [hw1] at S1
 obtain⟨G,hG⟩:=eX (w.heap.size)
 have hgw:c.g<w.heap.size:=h.cells.2.2.2.2.2
 have HK0:=hZ hk0
 clear h
 go_enter Tryz.func146,Tryz.ntmps146
 have HJ0:=hZ (show jLet (PJ f) l d=some r from hJ)
 clear hJ
 obtain⟨⟨k,t,n,p⟩,ht⟩:∃t,hdT l=t:=⟨_,rfl⟩
 have HT:=hZ ht
 clear ht
 have HJ1:=hZ ((by have:=uZ HJ0;unfold jLet at this;rw [uZ HT] at this;exact this))
 clear HJ0
 have CC:=hZ ((by have:=pass_any (uZ S1).rd (uZ HK0);rw [uZ HT] at this;simp only [tkA] at this;exact this))
 go_wp2_with fail
 refine(uZ CC).mono ?_
 rintro e w2 ⟨rfl,r2,b⟩
 have S2:=hZ ((uZ S1).go b r2)
 clear b r2 CC S1
 go_upto_region 2 with (first|(refine wpl_tk3 rfl _ rfl _ _ _ _ rfl ?_)|(refine wpl_tk1 rfl _ rfl _ _ _ _ rfl ?_)|(refine wpl_tk0 rfl _ rfl _ _ _ _ rfl ?_))
 obtain⟨w3,hw⟩:=eX (w2.alloc (.cells #[.int .i64 5,.string ⟨#[]⟩,.int .i64 0,.int .i64 0,.string ⟨#[]⟩,.slice none 0 0,.slice none 0 0,.bool false,.slice none 0 0,.int .i64 (p:Int)] 28))
 have b:=alB hw
 obtain⟨Q,hQ⟩:=eX (w2.heap.size)
 have HBQ_3:Hid (w3.heap[Q]?=some (.cells #[.int .i64 5,.string ⟨#[]⟩,.int .i64 0,.int .i64 0,.string ⟨#[]⟩,.slice none 0 0,.slice none 0 0,.bool false,.slice none 0 0,.int .i64 (p:Int)] 28 (0,0))):=hZ (by rw [←hw,←hQ];exact heap_alloc_new _ _)
 have S3:=hZ ((uZ S2).below b)
 have ltQ:w.heap.size<Q:=by rw [←hQ];exact(uZ S2).lt
 rw [hw]
 try rw [hQ]
 clear hw hQ b S2
 obtain⟨⟨k2,t2,n2,p2⟩,ht⟩:∃t,hdT l.tail=t:=⟨_,rfl⟩
 have HT2:=hZ ht
 clear ht
 by_cases hq:(hdT l.tail).k=1
 ·have HJ2:=hZ ((by have:=thn_nm hq (uZ HJ1);rw [uZ HT2] at this;exact this))
  clear HJ1
  have CC:=hZ ((by have:=pnm_ok (uZ S3).rd hq;rw [uZ HT2] at this;simp only [tkA] at this;exact this))
  go_wp2_with fail
  refine(uZ CC).mono ?_
  rintro e w4 ⟨rfl,r2,b⟩
  have S4:=hZ ((uZ S3).go b r2)
  have HBQ_4:=bx_go HBQ_3 b (by omega)
  clear b r2 CC S3 HBQ_3
  obtain⟨-,Qc1,-,-,-,-,-,-,-,-⟩:=row_cell10 (uZ HBQ_4)
  have Qf1:=frozen_of_row w4 Q 1 _ _ (uZ HBQ_4)
  go_upto_region 3 with (first|(refine wpl_tk3 rfl _ rfl _ _ _ _ rfl ?_)|(refine wpl_tk1 rfl _ rfl _ _ _ _ rfl ?_)|(refine wpl_tk0 rfl _ rfl _ _ _ _ rfl ?_))
  clear Qc1 Qf1
  obtain⟨w5,hw⟩:=eX (w4.setCell ⟨Q,1,none⟩ (.string (bA t2)))
  have HBQ_5:Hid (w5.heap[Q]?=some (.cells #[.int .i64 5,.string (bA t2),.int .i64 0,.int .i64 0,.string ⟨#[]⟩,.slice none 0 0,.slice none 0 0,.bool false,.slice none 0 0,.int .i64 (p:Int)] 28 (0,0))):=hZ (by rw [←hw,heap_setCell_same w4 Q 1 _ _ _ (uZ HBQ_4)];rfl)
  have S5:Hid (St w c 28 #[.int .i64 0,.string ⟨#[]⟩,.int .i64 0,.int .i64 0,.string ⟨#[]⟩,.slice none 0 0,.slice none 0 0,.bool false,.slice none 0 0,.int .i64 0] w5 l.tail.tail d):=hZ (by rw [←hw];exact(uZ S4).own Q 1 _ ltQ)
  rw [hw]
  clear hw S4 HBQ_4
  by_cases hb:isS [61] l.tail.tail=true
  ·have hq:isS [61] l.tail.tail=true:=by simpa using hb
   have CC:=hZ ((by have:=seesSign_any (uZ S5).rd [61];rw [hq] at this;exact this))
   go_wp2_with fail
   refine(uZ CC).mono ?_
   rintro e w6 ⟨rfl,b⟩
   have S6:=hZ ((uZ S5).below b)
   have HBQ_6:=bx_be HBQ_5 b
   clear b CC S5 HBQ_5
   have HJ3:=hZ ((by have:=(uZ HJ2);rw [if_pos hq] at this;exact this))
   clear HJ2
   have hkk:=isS_k hq
   have CC:=hZ (pass_any (uZ S6).rd hkk)
   go_wp2_with fail
   refine(uZ CC).mono ?_
   rintro e w7 ⟨rfl,r2,b⟩
   have S7:=hZ ((uZ S6).go b r2)
   have HBQ_7:=bx_go HBQ_6 b (by omega)
   clear b r2 CC S6 HBQ_6
   obtain⟨yx,hy,hth⟩:=bnd_some (uZ HJ3)
   have HJ4:=hZ (hth)
   clear HJ3
   clear hth
   have CR:=hZ (ihe hy (uZ S7).rd)
   have HYX:=hZ hy
   clear hy
   rcases yx with ⟨ea,ep⟩|⟨nsx,lx⟩
   ·have HR:=hZ (thn_err (uZ HJ4))
    go_wp2_with fail
    refine(uZ CR).mono ?_
    rintro e wx ⟨rfl,b⟩
    have HX:=hZ ((uZ S7).bad b)
    clear b CR
    unfold fltP
    go_wp2_with fail
    exact⟨rfl,by rw [uZ HR];exact⟨rfl,uZ HX⟩⟩
   ·have HJ5:=hZ (thn_ok (uZ HJ4))
    clear HJ4
    go_wp2_with fail
    refine(uZ CR).mono ?_
    rintro e w8 ⟨kx,tx,vkx,vnx,vsx,fx,nx,akx,ckx,px,Zx,rfl,hlx,hn,r2,b⟩
    have S8:=hZ ((uZ S7).go b r2)
    have HBQ_8:=bx_go HBQ_7 b (by omega)
    obtain⟨lox,hlo⟩:=eX (w7.heap.size)
    have ltlox:w.heap.size<lox:=by rw [←hlo];exact(uZ S7).lt
    have lqQ_x:Q<lox:=by rw [←hlo];exact(Array.getElem?_eq_some_iff.1 (uZ HBQ_7)).1
    rw [hlo] at hn
    have HNx_8:=hZ hn
    clear hlo b r2 hn CR S7 HBQ_7
    have hkn:=hZ (uZ HNx_8)
    obtain⟨w9,hwr⟩:=eX (w8.alloc (.cells #[.int .i64 (kx:Int),.string (bA tx),.int .i64 (vkx:Int),.int .i64 (vnx:Int),.string (bA vsx),.slice none 0 0,.slice none 0 0,.bool fx,.slice akx nx ckx,.int .i64 (px:Int)] 28))
    have b:=alB hwr
    obtain⟨qr,hqr⟩:=eX (w8.heap.size)
    have HKr_9:Hid (Kr lox w9 _ (.slice (some ⟨qr,0,none⟩) _ _) [.int .i64 (kx:Int),.string (bA tx),.int .i64 (vkx:Int),.int .i64 (vnx:Int),.string (bA vsx),.slice none 0 0,.slice none 0 0,.bool fx,.slice akx nx ckx,.int .i64 (px:Int)] _):=hZ (by rw [←hwr,←hqr];exact Kr.mk' (uZ hkn) (by rw [hlx];decide))
    rw [hlx] at HKr_9
    have ltr:w.heap.size<qr:=by rw [←hqr];exact(uZ S8).lt
    have S9:=hZ ((uZ S8).below b)
    have HBQ_9:=bx_be HBQ_8 b
    clear b hkn S8 HBQ_8 HNx_8
    obtain⟨-,-,-,-,-,-,-,-,Qc8,-⟩:=row_cell10 (uZ HBQ_9)
    have Qf8:=frozen_of_row w9 Q 8 _ _ (uZ HBQ_9)
    go_upto_region 6 with fail
    clear Qc8 Qf8 hwr hqr
    obtain⟨w10,hw⟩:=eX (w9.setCell ⟨Q,8,none⟩ (.slice (some ⟨qr,0,none⟩) 1 1))
    have HBQ_10:Hid (w10.heap[Q]?=some (.cells #[.int .i64 5,.string (bA t2),.int .i64 0,.int .i64 0,.string ⟨#[]⟩,.slice none 0 0,.slice none 0 0,.bool false,.slice (some ⟨qr,0,none⟩) 1 1,.int .i64 (p:Int)] 28 (0,0))):=hZ (by rw [←hw,heap_setCell_same w9 Q 8 _ _ _ (uZ HBQ_9)];rfl)
    have S10:Hid (St w c 28 #[.int .i64 0,.string ⟨#[]⟩,.int .i64 0,.int .i64 0,.string ⟨#[]⟩,.slice none 0 0,.slice none 0 0,.bool false,.slice none 0 0,.int .i64 0] w10 lx d):=hZ (by rw [←hw];exact(uZ S9).own Q 8 _ ltQ)
    have HKr_10:=hZ ((uZ HKr_9).but (q:=Q) (w':=w10) (fun b _ hb=>by rw [←hw];exact heap_setCell_other _ _ _ _ hb) (by rw [←hw];simp) (by omega))
    rw [hw]
    clear hw S9 HBQ_9 HKr_9
    by_cases hb:isS [59] lx=true
    ·have hq:isS [59] lx=true:=by simpa using hb
     have HJ6:=hZ (thn_sg hq (uZ HJ5))
     clear HJ5
     have CC:=hZ (psg_ok (uZ S10).rd [59] hq)
     go_wp2_with fail
     refine(uZ CC).mono ?_
     rintro e w11 ⟨rfl,r2,b⟩
     have S11:=hZ ((uZ S10).go b r2)
     have HBQ_11:=bx_go HBQ_10 b (by omega)
     have HKr_11:=hZ ((uZ HKr_10).beside b (by omega))
     clear b r2 CC S10 HBQ_10 HKr_10
     have hr1:=okN_some (uZ HJ6)
     have hnn:=(uZ HKr_11).node' hlx 5 t2 0 0 [] false p
     have HR:=hZ (hr1)
     have BX:=(uZ S11).bx
     rw [hG] at BX
     obtain⟨g0,g1,g2,g3,g4,g5,g6,g7,g8,g9⟩:=row_cell10 BX
     obtain⟨z0,z1,z2,z3,z4,z5,z6,z7,z8,z9⟩:=frozen10 BX
     clear BX
     obtain⟨Qc0,Qc1,Qc2,Qc3,Qc4,Qc5,Qc6,Qc7,Qc8,Qc9⟩:=row_cell10 (uZ HBQ_11)
     have FF:=hZ (St.done (uZ S11) (hnn.low (by omega)) rfl hG)
     go_wp2_with fail
     refine rtN (p:=2) rfl rfl (uZ FF).1 rfl rfl ?_
     rw [uZ HR]
     exact(uZ FF).2
    ·have hq:isS [59] lx=false:=by simpa using hb
     have CC:=hZ (psg_bad (uZ S10).rd [59] hq)
     have HR:=hZ (thn_sgb hq (uZ HJ5))
     go_wp2_with fail
     refine(uZ CC).mono ?_
     rintro e wx ⟨rfl,b⟩
     have HX:=hZ ((uZ S10).bad b)
     clear b CC
     unfold fltP
     go_wp2_with fail
     exact⟨rfl,by rw [uZ HR];exact⟨rfl,uZ HX⟩⟩
  ·have hq:isS [61] l.tail.tail=false:=by simpa using hb
   have CC:=hZ ((by have:=seesSign_any (uZ S5).rd [61];rw [hq] at this;exact this))
   go_wp2_with fail
   refine(uZ CC).mono ?_
   rintro e w6 ⟨rfl,b⟩
   have S6:=hZ ((uZ S5).below b)
   have HBQ_6:=bx_be HBQ_5 b
   clear b CC S5 HBQ_5
   have HJ3:=hZ ((by have:=(uZ HJ2);rw [if_neg (by rw [hq];decide)] at this;exact this))
   clear HJ2
   by_cases hb:isS [59] l.tail.tail=true
   ·have hq:isS [59] l.tail.tail=true:=by simpa using hb
    have HJ4:=hZ (thn_sg hq (uZ HJ3))
    clear HJ3
    have CC:=hZ (psg_ok (uZ S6).rd [59] hq)
    go_wp2_with fail
    refine(uZ CC).mono ?_
    rintro e w7 ⟨rfl,r2,b⟩
    have S7:=hZ ((uZ S6).go b r2)
    have HBQ_7:=bx_go HBQ_6 b (by omega)
    clear b r2 CC S6 HBQ_6
    have hr1:=okN_some (uZ HJ4)
    have hnn:=NdOk.leaf (lo:=w.heap.size+1) (w:=w7) (uZ S7).lt 5 t2 0 0 [] false p
    have HR:=hZ (hr1)
    have BX:=(uZ S7).bx
    rw [hG] at BX
    obtain⟨g0,g1,g2,g3,g4,g5,g6,g7,g8,g9⟩:=row_cell10 BX
    obtain⟨z0,z1,z2,z3,z4,z5,z6,z7,z8,z9⟩:=frozen10 BX
    clear BX
    obtain⟨Qc0,Qc1,Qc2,Qc3,Qc4,Qc5,Qc6,Qc7,Qc8,Qc9⟩:=row_cell10 (uZ HBQ_7)
    have FF:=hZ (St.done (uZ S7) (hnn) rfl hG)
    go_wp2_with fail
    refine rtN (p:=2) rfl rfl (uZ FF).1 rfl rfl ?_
    rw [uZ HR]
    exact(uZ FF).2
   ·have hq:isS [59] l.tail.tail=false:=by simpa using hb
    have CC:=hZ (psg_bad (uZ S6).rd [59] hq)
    have HR:=hZ (thn_sgb hq (uZ HJ3))
    go_wp2_with fail
    refine(uZ CC).mono ?_
    rintro e wx ⟨rfl,b⟩
    have HX:=hZ ((uZ S6).bad b)
    clear b CC
    unfold fltP
    go_wp2_with fail
    exact⟨rfl,by rw [uZ HR];exact⟨rfl,uZ HX⟩⟩
 ·have CC:=hZ (pnm_bad (uZ S3).rd hq)
  have HR:=hZ (thn_nmb hq (uZ HJ1))
  go_wp2_with fail
  refine(uZ CC).mono ?_
  rintro e wx ⟨rfl,b⟩
  have HX:=hZ ((uZ S3).bad b)
  clear b CC
  unfold fltP
  go_wp2_with fail
  exact⟨rfl,by rw [uZ HR];exact⟨rfl,uZ HX⟩⟩
theorem group_step {c:Cx} {l:List Tk} {d:Nat} {w:World} {r:Rs (List Nd)} {f:Nat} (ihe:∀{c:Cx} {l:List Tk} {d:Nat} {w:World} {r:Rs (List Nd)},PJ f 0 0 [] l d=some r→Rd w c l d→Calls Tryz.prog 161 #[.pointer (some ⟨c.g,0,none⟩)] w fun e w'=>NdP c w d r e w') (hJ:PJ (f+1) 23 0 [] l d=some r) (h:Rd w c l d) :
  Calls Tryz.prog 200 #[.pointer (some ⟨c.g,0,none⟩)] w fun e w'=>NdP c w d r e w':=by
 have S1:=hZ (St.start h 28 #[.int .i64 0,.string ⟨#[]⟩,.int .i64 0,.int .i64 0,.string ⟨#[]⟩,.slice none 0 0,.slice none 0 0,.bool false,.slice none 0 0,.int .i64 0])
 obtain⟨w1,hw1⟩:=eX (w.alloc (.cells #[.int .i64 0,.string ⟨#[]⟩,.int .i64 0,.int .i64 0,.string ⟨#[]⟩,.slice none 0 0,.slice none 0 0,.bool false,.slice none 0 0,.int .i64 0] 28))
 rw [hw1] at S1
 obtain⟨G,hG⟩:=eX (w.heap.size)
 have hgw:c.g<w.heap.size:=h.cells.2.2.2.2.2
 clear h
 go_enter Tryz.func200,Tryz.ntmps200
 have HJ0:=hZ (show jGroup (PJ f) l d=some r from hJ)
 clear hJ
 have HJ1:=hZ ((by have:=uZ HJ0;unfold jGroup at this;exact this))
 clear HJ0
 by_cases hb:isS [40] l=true
 ·have hq:isS [40] l=true:=by simpa using hb
  have hlw:=(uZ S1).rd.low
  by_cases hd:d<24
  ·have HJ2:=hZ (thn_en hq hd (uZ HJ1))
   clear HJ1
   have CC:=hZ (ent_ok (uZ S1).rd [40] hq hd)
   go_wp2_with fail
   refine(uZ CC).mono ?_
   rintro e w2 ⟨rfl,r2,b⟩
   have S2:=hZ ((uZ S1).go b r2)
   clear b r2 CC S1
   obtain⟨yx,hy,hth⟩:=bnd_some (uZ HJ2)
   have HJ3:=hZ (hth)
   clear HJ2
   clear hth
   have CR:=hZ (ihe hy (uZ S2).rd)
   have HYX:=hZ hy
   clear hy
   rcases yx with ⟨ea,ep⟩|⟨nsx,lx⟩
   ·have HR:=hZ (thn_err (uZ HJ3))
    go_wp2_with fail
    refine(uZ CR).mono ?_
    rintro e wx ⟨rfl,b⟩
    have HX:=hZ ((uZ S2).bad b)
    clear b CR
    unfold fltP
    go_wp2_with fail
    exact⟨rfl,by rw [uZ HR];exact⟨rfl,uZ HX⟩⟩
   ·have HJ4:=hZ (thn_ok (uZ HJ3))
    clear HJ3
    go_wp2_with fail
    refine(uZ CR).mono ?_
    rintro e w3 ⟨kx,tx,vkx,vnx,vsx,fx,nx,akx,ckx,px,Zx,rfl,hlx,hn,r2,b⟩
    have S3:=hZ ((uZ S2).go b r2)
    obtain⟨lox,hlo⟩:=eX (w2.heap.size)
    have ltlox:w.heap.size<lox:=by rw [←hlo];exact(uZ S2).lt
    rw [hlo] at hn
    have HNx_3:=hZ hn
    clear hlo b r2 hn CR S2
    go_upto_region 3 with fail
    obtain⟨w4,hw⟩:=eX (w3.alloc (.cells #[.int .i64 (kx:Int),.string (bA tx),.int .i64 (vkx:Int),.int .i64 (vnx:Int),.string (bA vsx),.slice none 0 0,.slice none 0 0,.bool fx,.slice akx nx ckx,.int .i64 (px:Int)] 28))
    have b:=alB hw
    obtain⟨Q,hQ⟩:=eX (w3.heap.size)
    have HBQ_4:Hid (w4.heap[Q]?=some (.cells #[.int .i64 (kx:Int),.string (bA tx),.int .i64 (vkx:Int),.int .i64 (vnx:Int),.string (bA vsx),.slice none 0 0,.slice none 0 0,.bool fx,.slice akx nx ckx,.int .i64 (px:Int)] 28 (0,0))):=hZ (by rw [←hw,←hQ];exact heap_alloc_new _ _)
    have S4:=hZ ((uZ S3).below b)
    have HNx_4:=hZ ((uZ HNx_3).beside (Beside.of_below (gr:=c.g) b) (by omega))
    have ANx_Q:=hZ ((uZ HNx_3).fresh hQ)
    have ltQ:w.heap.size<Q:=by rw [←hQ];exact(uZ S3).lt
    rw [hw]
    try rw [hQ]
    clear hw hQ b S3 HNx_3
    by_cases hb:isS [41] lx=true
    ·have hq:isS [41] lx=true:=by simpa using hb
     have HJ5:=hZ (thn_sg hq (uZ HJ4))
     clear HJ4
     have CC:=hZ (leave_ok (uZ S4).rd [41] hq)
     go_wp2_with fail
     refine(uZ CC).mono ?_
     rintro e w5 ⟨rfl,r2,b⟩
     have S5:=hZ ((uZ S4).go b r2)
     have HBQ_5:=bx_go HBQ_4 b (by omega)
     have HNx_5:=hZ ((uZ HNx_4).beside b (by omega))
     clear b r2 CC S4 HBQ_4 HNx_4
     have hr1:=okN_some (uZ HJ5)
     have HR:=hZ (hr1)
     have BX:=(uZ S5).bx
     rw [hG] at BX
     obtain⟨g0,g1,g2,g3,g4,g5,g6,g7,g8,g9⟩:=row_cell10 BX
     obtain⟨z0,z1,z2,z3,z4,z5,z6,z7,z8,z9⟩:=frozen10 BX
     clear BX
     obtain⟨Qc0,Qc1,Qc2,Qc3,Qc4,Qc5,Qc6,Qc7,Qc8,Qc9⟩:=row_cell10 (uZ HBQ_5)
     have FF:=hZ (St.done (uZ S5) ((uZ HNx_5).low (by omega)) hlx hG)
     go_wp2_with fail
     refine rtN (p:=2) rfl rfl (uZ FF).1 rfl rfl ?_
     rw [uZ HR]
     exact(uZ FF).2
    ·have hq:isS [41] lx=false:=by simpa using hb
     have CC:=hZ (leave_bad (uZ S4).rd [41] hq)
     have HR:=hZ (thn_sgb hq (uZ HJ4))
     go_wp2_with fail
     refine(uZ CC).mono ?_
     rintro e wx ⟨rfl,b⟩
     have HX:=hZ ((uZ S4).bad b)
     clear b CC
     unfold fltP
     go_wp2_with fail
     exact⟨rfl,by rw [uZ HR];exact⟨rfl,uZ HX⟩⟩
  ·have CC:=hZ (ent_deep (uZ S1).rd [40] hq (show d=24 by omega))
   have HR:=hZ (thn_end hq (show d=24 by omega) (uZ HJ1))
   go_wp2_with fail
   refine(uZ CC).mono ?_
   rintro e wx ⟨rfl,b⟩
   have HX:=hZ ((uZ S1).bad b)
   clear b CC
   unfold fltP
   go_wp2_with fail
   exact⟨rfl,by rw [uZ HR];exact⟨rfl,uZ HX⟩⟩
 ·have hq:isS [40] l=false:=by simpa using hb
  have CC:=hZ (ent_bad (uZ S1).rd [40] hq)
  have HR:=hZ (thn_enb hq (uZ HJ1))
  go_wp2_with fail
  refine(uZ CC).mono ?_
  rintro e wx ⟨rfl,b⟩
  have HX:=hZ ((uZ S1).bad b)
  clear b CC
  unfold fltP
  go_wp2_with fail
  exact⟨rfl,by rw [uZ HR];exact⟨rfl,uZ HX⟩⟩
theorem param_any {c:Cx} {l:List Tk} {d:Nat} {w:World} {r:Rs (List Nd)} {f:Nat} (hJ:PJ (f+1) 25 0 [] l d=some r) (h:Rd w c l d) :
  Calls Tryz.prog 79 #[.pointer (some ⟨c.g,0,none⟩)] w fun e w'=>NdP c w d r e w':=by
 have S1:=hZ (St.start h 28 #[.int .i64 0,.string ⟨#[]⟩,.int .i64 0,.int .i64 0,.string ⟨#[]⟩,.slice none 0 0,.slice none 0 0,.bool false,.slice none 0 0,.int .i64 0])
 obtain⟨w1,hw1⟩:=eX (w.alloc (.cells #[.int .i64 0,.string ⟨#[]⟩,.int .i64 0,.int .i64 0,.string ⟨#[]⟩,.slice none 0 0,.slice none 0 0,.bool false,.slice none 0 0,.int .i64 0] 28))
 rw [hw1] at S1
 obtain⟨G,hG⟩:=eX (w.heap.size)
 have hgw:c.g<w.heap.size:=h.cells.2.2.2.2.2
 clear h
 go_enter Tryz.func79,Tryz.ntmps79
 have HJ0:=hZ (show jParam l=some r from hJ)
 clear hJ
 have HJ1:=hZ ((by have:=uZ HJ0;unfold jParam at this;exact this))
 clear HJ0
 obtain⟨⟨k2,t2,n2,p2⟩,ht⟩:∃t,hdT l=t:=⟨_,rfl⟩
 have HT2:=hZ ht
 clear ht
 by_cases hq:(hdT l).k=1
 ·have HJ2:=hZ ((by have:=thn_nm hq (uZ HJ1);rw [uZ HT2] at this;exact this))
  clear HJ1
  have CC:=hZ ((by have:=pnm_ok (uZ S1).rd hq;rw [uZ HT2] at this;simp only [tkA] at this;exact this))
  go_wp2_with fail
  refine(uZ CC).mono ?_
  rintro e w2 ⟨rfl,r2,b⟩
  have S2:=hZ ((uZ S1).go b r2)
  clear b r2 CC S1
  go_upto_region 2 with fail
  obtain⟨w3,hw⟩:=eX (w2.alloc (.cells #[.int .i64 (k2:Int),.string (bA t2),.int .i64 (n2:Int),.int .i64 (p2:Int)] 85))
  have b:=alB hw
  obtain⟨Q,hQ⟩:=eX (w2.heap.size)
  have HBQ_3:Hid (w3.heap[Q]?=some (.cells #[.int .i64 (k2:Int),.string (bA t2),.int .i64 (n2:Int),.int .i64 (p2:Int)] 85 (0,0))):=hZ (by rw [←hw,←hQ];exact heap_alloc_new _ _)
  have S3:=hZ ((uZ S2).below b)
  have ltQ:w.heap.size<Q:=by rw [←hQ];exact(uZ S2).lt
  rw [hw]
  try rw [hQ]
  clear hw hQ b S2
  have hr1:=okN_some (uZ HJ2)
  have hnn:=NdOk.leaf (lo:=w.heap.size+1) (w:=w3) (uZ S3).lt 3 t2 0 0 [] false p2
  have HR:=hZ (hr1)
  have BX:=(uZ S3).bx
  rw [hG] at BX
  obtain⟨g0,g1,g2,g3,g4,g5,g6,g7,g8,g9⟩:=row_cell10 BX
  obtain⟨z0,z1,z2,z3,z4,z5,z6,z7,z8,z9⟩:=frozen10 BX
  clear BX
  obtain⟨Qc0,Qc1,Qc2,Qc3⟩:=row_cell4 (uZ HBQ_3)
  have FF:=hZ (St.done (uZ S3) (hnn) rfl hG)
  go_wp2_with fail
  refine rtN (p:=2) rfl rfl (uZ FF).1 rfl rfl ?_
  rw [uZ HR]
  exact(uZ FF).2
 ·have CC:=hZ (pnm_bad (uZ S1).rd hq)
  have HR:=hZ (thn_nmb hq (uZ HJ1))
  go_wp2_with fail
  refine(uZ CC).mono ?_
  rintro e wx ⟨rfl,b⟩
  have HX:=hZ ((uZ S1).bad b)
  clear b CC
  unfold fltP
  go_wp2_with fail
  exact⟨rfl,by rw [uZ HR];exact⟨rfl,uZ HX⟩⟩
end Go.Proofs.YtjdpaihhhjdgmaaGreatDoor
