/-
  Layer 17 (parse): the condition and the block behind it; conditions: the reader's state.
  Layer 17 (parse): Ifs; conditions: the reader's state.
-/
import Derived.Test.YtjdpaihhhjdgmaaGreatDoorA39
set_option linter.unusedVariables false
set_option linter.unusedSimpArgs false
set_option maxRecDepth 100000
set_option maxHeartbeats 8000000
namespace Go.Proofs.YtjdpaihhhjdgmaaGreatDoor
open Go.RowKit
set_option linter.unusedVariables false
set_option linter.unusedSimpArgs false
theorem guard_step0 {c:Cx} {l:List Tk} {d:Nat} {w w1:World} {r:Rs (List Nd)} {f:Nat} (ihe:∀{c:Cx} {l:List Tk} {d:Nat} {w:World} {r:Rs (List Nd)},PJ f 0 0 [] l d=some r→Rd w c l d→Calls Tryz.prog 161 #[.pointer (some ⟨c.g,0,none⟩)] w fun e w'=>NdP c w d r e w') (ihb:∀{c:Cx} {l:List Tk} {d:Nat} {w:World} {r:Rs (List Nd)},PJ f 10 0 [] l d=some r→Rd w c l d→Calls Tryz.prog 80 #[.pointer (some ⟨c.g,0,none⟩)] w fun e w'=>NdP c w d r e w') (hJ:PJ (f+1) 20 0 [] l d=some r) (hws:w=w1) (h:Rd w1 c l d) :
  Calls Tryz.prog 162 #[.pointer (some ⟨c.g,0,none⟩)] w1 fun e w'=>KsP c w d r e w':=by
 have S1:=hZ (St0.start hws h)
 have hgw:c.g<w.heap.size:=by rw [hws];exact h.cells.2.2.2.2.2
 clear h hws
 go_enter Tryz.func162,Tryz.ntmps162
 have HJ0:=hZ (show jGuard (PJ f) l d=some r from hJ)
 clear hJ
 have HJ1:=hZ ((by have:=uZ HJ0;unfold jGuard at this;exact this))
 clear HJ0
 by_cases hb:isS [40] l=true
 ·have hq:isS [40] l=true:=by simpa using hb
  have HJ2:=hZ (thn_sg hq (uZ HJ1))
  clear HJ1
  have CC:=hZ (psg_ok (uZ S1).rd [40] hq)
  go_wp2_with fail
  refine(uZ CC).mono ?_
  rintro e w2 ⟨rfl,r2,b⟩
  have S2:=hZ ((uZ S1).go b r2)
  clear b r2 CC S1
  obtain⟨yx,hy,hth⟩:=bnd_some (uZ HJ2)
  have HJ3:=hZ (hth)
  clear HJ2
  clear hth
  have CR:=hZ (ihe hy (uZ S2).rd)
  have HYX:=hZ hy
  clear hy
  rcases yx with ⟨ea,ep⟩|⟨nsx,lx⟩
  ·have HR:=hZ (thn_err (uZ HJ3))
   go_wp2_with fail
   refine(uZ CR).mono ?_
   rintro e wx ⟨rfl,b⟩
   have HX:=hZ ((uZ S2).bad b)
   clear b CR
   unfold fltP
   go_wp2_with fail
   exact⟨rfl,by rw [uZ HR];exact⟨rfl,uZ HX⟩⟩
  ·have HJ4:=hZ (thn_ok (uZ HJ3))
   clear HJ3
   go_wp2_with fail
   refine(uZ CR).mono ?_
   rintro e w3 ⟨kx,tx,vkx,vnx,vsx,fx,nx,akx,ckx,px,Zx,rfl,hlx,hn,r2,b⟩
   have S3:=hZ ((uZ S2).go b r2)
   obtain⟨lox,hlo⟩:=eX (w2.heap.size)
   have ltlox:w.heap.size≤lox:=by rw [←hlo];exact(uZ S2).lt
   rw [hlo] at hn
   have HNx_3:=hZ hn
   clear hlo b r2 hn CR S2
   go_upto_region 3 with fail
   obtain⟨w4,hw⟩:=eX (w3.alloc (.cells #[.int .i64 (kx:Int),.string (bA tx),.int .i64 (vkx:Int),.int .i64 (vnx:Int),.string (bA vsx),.slice none 0 0,.slice none 0 0,.bool fx,.slice akx nx ckx,.int .i64 (px:Int)] 28))
   have b:=alB hw
   obtain⟨Q,hQ⟩:=eX (w3.heap.size)
   have HBQ_4:Hid (w4.heap[Q]?=some (.cells #[.int .i64 (kx:Int),.string (bA tx),.int .i64 (vkx:Int),.int .i64 (vnx:Int),.string (bA vsx),.slice none 0 0,.slice none 0 0,.bool fx,.slice akx nx ckx,.int .i64 (px:Int)] 28 (0,0))):=hZ (by rw [←hw,←hQ];exact heap_alloc_new _ _)
   have S4:=hZ ((uZ S3).below b)
   have HNx_4:=hZ ((uZ HNx_3).beside (Beside.of_below (gr:=c.g) b) (by omega))
   have ANx_Q:=hZ ((uZ HNx_3).fresh hQ)
   have ltQ:w.heap.size≤Q:=by rw [←hQ];exact(uZ S3).lt
   rw [hw]
   try rw [hQ]
   clear hw hQ b S3 HNx_3
   by_cases hb:isS [41] lx=true
   ·have hq:isS [41] lx=true:=by simpa using hb
    have HJ5:=hZ (thn_sg hq (uZ HJ4))
    clear HJ4
    have CC:=hZ (psg_ok (uZ S4).rd [41] hq)
    go_wp2_with fail
    refine(uZ CC).mono ?_
    rintro e w5 ⟨rfl,r2,b⟩
    have S5:=hZ ((uZ S4).go b r2)
    have HBQ_5:=bx_go HBQ_4 b (by omega)
    have HNx_5:=hZ ((uZ HNx_4).beside b (by omega))
    clear b r2 CC S4 HBQ_4 HNx_4
    go_upto_region 4 with fail
    obtain⟨Qc0,Qc1,Qc2,Qc3,Qc4,Qc5,Qc6,Qc7,Qc8,Qc9⟩:=row_cell10 (uZ HBQ_5)
    have HS0:Hid (w5.drew.cell? ⟨Q,0,none⟩=some (.int .i64 (kx:Int))∧w5.drew.cell? ⟨Q,1,none⟩=some (.string (bA tx))∧w5.drew.cell? ⟨Q,2,none⟩=some (.int .i64 (vkx:Int))∧w5.drew.cell? ⟨Q,3,none⟩=some (.int .i64 (vnx:Int))∧w5.drew.cell? ⟨Q,4,none⟩=some (.string (bA vsx))∧w5.drew.cell? ⟨Q,5,none⟩=some (.slice none 0 0)∧w5.drew.cell? ⟨Q,6,none⟩=some (.slice none 0 0)∧w5.drew.cell? ⟨Q,7,none⟩=some (.bool fx)∧w5.drew.cell? ⟨Q,8,none⟩=some (.slice akx nx ckx)∧w5.drew.cell? ⟨Q,9,none⟩=some (.int .i64 (px:Int))):=hZ (⟨Qc0,Qc1,Qc2,Qc3,Qc4,Qc5,Qc6,Qc7,Qc8,Qc9⟩)
    refine till_begin (S:=fun w'=>w'.cell? ⟨Q,0,none⟩=some (.int .i64 (kx:Int))∧w'.cell? ⟨Q,1,none⟩=some (.string (bA tx))∧w'.cell? ⟨Q,2,none⟩=some (.int .i64 (vkx:Int))∧w'.cell? ⟨Q,3,none⟩=some (.int .i64 (vnx:Int))∧w'.cell? ⟨Q,4,none⟩=some (.string (bA vsx))∧w'.cell? ⟨Q,5,none⟩=some (.slice none 0 0)∧w'.cell? ⟨Q,6,none⟩=some (.slice none 0 0)∧w'.cell? ⟨Q,7,none⟩=some (.bool fx)∧w'.cell? ⟨Q,8,none⟩=some (.slice akx nx ckx)∧w'.cell? ⟨Q,9,none⟩=some (.int .i64 (px:Int))) 4 (by kernel_rfl) ?_
    obtain⟨w6,hWD⟩:=eX (w5.drew)
    have bD:Below w5.heap.size w5 w6:=by rw [←hWD];exact(Below.refl _ _).drew
    rw [hWD] at HS0
    rw [hWD]
    have S6:=hZ ((uZ S5).below bD)
    have HBQ_6:=bx_be HBQ_5 bD
    have HNx_6:=hZ ((uZ HNx_5).beside (Beside.of_below (gr:=c.g) bD) (by omega))
    clear hWD bD S5 HBQ_5 HNx_5
    clear Qc0 Qc1 Qc2 Qc3 Qc4 Qc5 Qc6 Qc7 Qc8 Qc9
    refine tK 0 (v:=.agg #[.int .i64 (kx:Int),.string (bA tx),.int .i64 (vkx:Int),.int .i64 (vnx:Int),.string (bA vsx),.slice none 0 0,.slice none 0 0,.bool fx,.slice akx nx ckx,.int .i64 (px:Int)]) (some 10) rfl rfl rfl (by kernel_rfl) (fun _ _ _ h=>h) (Or.inl ⟨by rfl,fun u hu=>by obtain⟨b0,b1,b2,b3,b4,b5,b6,b7,b8,b9⟩:=hu;go_simp⟩) (uZ HS0) ?_
    try simp only [Act.put,sA,sB,sC]
    refine tK 1 (v:=.pointer (some ⟨c.g,0,none⟩)) (some 11) rfl rfl rfl (by kernel_rfl) (fun _ _ _ h=>h) (Or.inl ⟨by rfl,fun u hu=>by obtain⟨b0,b1,b2,b3,b4,b5,b6,b7,b8,b9⟩:=hu;go_simp⟩) (uZ HS0) ?_
    try simp only [Act.put,sA,sB,sC]
    obtain⟨yy,hy,hth⟩:=bnd_some (uZ HJ5)
    have HJ6:=hZ (hth)
    clear HJ5
    clear hth
    have CR:=hZ (ihb hy (uZ S6).rd)
    have HYX:=hZ hy
    clear hy
    rcases yy with ⟨ea,ep⟩|⟨nsy,ly⟩
    ·have HR:=hZ (thn_err (uZ HJ6))
     refine till_one 2 (by kernel_rfl) rfl (fun K hK=>?_)
     go_simp
     refine(uZ CR).mono ?_
     rintro e wx ⟨rfl,b⟩
     have HX:=hZ ((uZ S6).bad b)
     clear b CR
     unfold fltP
     go_wp2_with fail
     exact⟨rfl,by rw [uZ HR];exact⟨rfl,uZ HX⟩⟩
    ·have HJ7:=hZ (thn_ok (uZ HJ6))
     clear HJ6
     refine till_one 2 (by kernel_rfl) rfl (fun K hK=>?_)
     go_simp
     refine(uZ CR).mono ?_
     rintro e w7 ⟨ky,ty,vky,vny,vsy,fy,ny,aky,cky,py,Zy,rfl,hly,hn,r2,b⟩
     have S7:=hZ ((uZ S6).go b r2)
     have HBQ_7:=bx_go HBQ_6 b (by omega)
     have HNx_7:=hZ ((uZ HNx_6).beside b (by omega))
     obtain⟨loy,hlo⟩:=eX (w6.heap.size)
     have ltloy:w.heap.size≤loy:=by rw [←hlo];exact(uZ S6).lt
     have lqQ_y:Q<loy:=by rw [←hlo];exact(Array.getElem?_eq_some_iff.1 (uZ HBQ_6)).1
     have HMx_y:Hid (∀b∈Zx,b<loy):=hZ (fun b hb=>by rw [←hlo];exact((uZ HNx_6).rg b hb).2)
     have lex_y:lox≤loy:=by rw [←hlo];exact(uZ HNx_6).le
     rw [hlo] at hn
     have HNy_7:=hZ hn
     clear hlo b r2 hn CR S6 HBQ_6 HNx_6
     clear HS0
     have HS0:Hid (w7.cell? ⟨Q,0,none⟩=some (.int .i64 (kx:Int))∧w7.cell? ⟨Q,1,none⟩=some (.string (bA tx))∧w7.cell? ⟨Q,2,none⟩=some (.int .i64 (vkx:Int))∧w7.cell? ⟨Q,3,none⟩=some (.int .i64 (vnx:Int))∧w7.cell? ⟨Q,4,none⟩=some (.string (bA vsx))∧w7.cell? ⟨Q,5,none⟩=some (.slice none 0 0)∧w7.cell? ⟨Q,6,none⟩=some (.slice none 0 0)∧w7.cell? ⟨Q,7,none⟩=some (.bool fx)∧w7.cell? ⟨Q,8,none⟩=some (.slice akx nx ckx)∧w7.cell? ⟨Q,9,none⟩=some (.int .i64 (px:Int))):=hZ (by exact row_cell10 (uZ HBQ_7))
     go_wp2_with fail
     refine hK.out _ _ (Or.inr (uZ HS0)) ?_
     clear hK K
     try simp only [Act.put,sA,sB,sC]
     have hr1:=okN_some (uZ HJ7)
     have HR:=hZ hr1
     clear hr1
     have hkn:=hZ ((uZ HNx_7).app (uZ HMx_y) (uZ HNy_7) (by omega))
     obtain⟨w8,hwr⟩:=eX (w7.alloc (.cells #[.int .i64 (kx:Int),.string (bA tx),.int .i64 (vkx:Int),.int .i64 (vnx:Int),.string (bA vsx),.slice none 0 0,.slice none 0 0,.bool fx,.slice akx nx ckx,.int .i64 (px:Int),.int .i64 (ky:Int),.string (bA ty),.int .i64 (vky:Int),.int .i64 (vny:Int),.string (bA vsy),.slice none 0 0,.slice none 0 0,.bool fy,.slice aky ny cky,.int .i64 (py:Int)] 28))
     have b:=alB hwr
     obtain⟨qr,hqr⟩:=eX (w7.heap.size)
     have HKr_8:Hid (Kr lox w8 _ (.slice (some ⟨qr,0,none⟩) _ _) [.int .i64 (kx:Int),.string (bA tx),.int .i64 (vkx:Int),.int .i64 (vnx:Int),.string (bA vsx),.slice none 0 0,.slice none 0 0,.bool fx,.slice akx nx ckx,.int .i64 (px:Int),.int .i64 (ky:Int),.string (bA ty),.int .i64 (vky:Int),.int .i64 (vny:Int),.string (bA vsy),.slice none 0 0,.slice none 0 0,.bool fy,.slice aky ny cky,.int .i64 (py:Int)] _):=hZ (by rw [←hwr,←hqr];exact Kr.mk' (uZ hkn) (by rw [show (nsx++nsy).length=2 by rw [List.length_append,hlx,hly]];decide))
     rw [show (nsx++nsy).length=2 by rw [List.length_append,hlx,hly]] at HKr_8
     have ltr:w.heap.size≤qr:=by rw [←hqr];exact(uZ S7).lt
     have S8:=hZ ((uZ S7).below b)
     have HBQ_8:=bx_be HBQ_7 b
     clear b hkn S7 HBQ_7 HNx_7 HNy_7
     refine till_one 3 (by kernel_rfl) rfl (fun K hK=>?_)
     go_simp
     try rw [hwr]
     try rw [hqr]
     clear HS0
     have HS0:Hid (w8.cell? ⟨Q,0,none⟩=some (.int .i64 (kx:Int))∧w8.cell? ⟨Q,1,none⟩=some (.string (bA tx))∧w8.cell? ⟨Q,2,none⟩=some (.int .i64 (vkx:Int))∧w8.cell? ⟨Q,3,none⟩=some (.int .i64 (vnx:Int))∧w8.cell? ⟨Q,4,none⟩=some (.string (bA vsx))∧w8.cell? ⟨Q,5,none⟩=some (.slice none 0 0)∧w8.cell? ⟨Q,6,none⟩=some (.slice none 0 0)∧w8.cell? ⟨Q,7,none⟩=some (.bool fx)∧w8.cell? ⟨Q,8,none⟩=some (.slice akx nx ckx)∧w8.cell? ⟨Q,9,none⟩=some (.int .i64 (px:Int))):=hZ (by exact row_cell10 (uZ HBQ_8))
     refine hK.out _ _ (Or.inr (uZ HS0)) ?_
     clear hK K hwr hqr
     try simp only [Act.put,sA,sB,sC]
     refine till_one 4 (by kernel_rfl) rfl (fun K hK=>?_)
     go_simp
     refine hK.out _ _ (Or.inl (by first|rfl|trivial)) ?_
     clear hK K HS0
     try simp only [Act.put,sA,sB,sC]
     refine till_done (by kernel_rfl) ?_ _
     go_wp2_with fail
     go_ret
     rw [uZ HR]
     exact⟨some ⟨qr,0,none⟩,2,_,_,by rw [show (nsx++nsy).length=2 by rw [List.length_append,hlx,hly]];rfl,by rw [show (nsx++nsy).length=2 by rw [List.length_append,hlx,hly]];exact(uZ HKr_8).low (by omega),(uZ S8).rd,(uZ S8).bs⟩
   ·have hq:isS [41] lx=false:=by simpa using hb
    have CC:=hZ (psg_bad (uZ S4).rd [41] hq)
    have HR:=hZ (thn_sgb hq (uZ HJ4))
    go_wp2_with fail
    refine(uZ CC).mono ?_
    rintro e wx ⟨rfl,b⟩
    have HX:=hZ ((uZ S4).bad b)
    clear b CC
    unfold fltP
    go_wp2_with fail
    exact⟨rfl,by rw [uZ HR];exact⟨rfl,uZ HX⟩⟩
 ·have hq:isS [40] l=false:=by simpa using hb
  have CC:=hZ (psg_bad (uZ S1).rd [40] hq)
  have HR:=hZ (thn_sgb hq (uZ HJ1))
  go_wp2_with fail
  refine(uZ CC).mono ?_
  rintro e wx ⟨rfl,b⟩
  have HX:=hZ ((uZ S1).bad b)
  clear b CC
  unfold fltP
  go_wp2_with fail
  exact⟨rfl,by rw [uZ HR];exact⟨rfl,uZ HX⟩⟩
theorem loop_step {c:Cx} {l:List Tk} {d:Nat} {w:World} {r:Rs (List Nd)} {f:Nat} (ihg:∀{c:Cx} {l:List Tk} {d:Nat} {w:World} {r:Rs (List Nd)},PJ f 20 0 [] l d=some r→Rd w c l d→Calls Tryz.prog 162 #[.pointer (some ⟨c.g,0,none⟩)] w fun e w'=>KsP c w d r e w') (hk0:¬(hdT l).k=0) (hJ:PJ (f+1) 17 0 [] l d=some r) (h:Rd w c l d) :
  Calls Tryz.prog 148 #[.pointer (some ⟨c.g,0,none⟩)] w fun e w'=>NdP c w d r e w':=by
 have S1:=hZ (St.start h 28 #[.int .i64 0,.string ⟨#[]⟩,.int .i64 0,.int .i64 0,.string ⟨#[]⟩,.slice none 0 0,.slice none 0 0,.bool false,.slice none 0 0,.int .i64 0])
 obtain⟨w1,hw1⟩:=eX (w.alloc (.cells #[.int .i64 0,.string ⟨#[]⟩,.int .i64 0,.int .i64 0,.string ⟨#[]⟩,.slice none 0 0,.slice none 0 0,.bool false,.slice none 0 0,.int .i64 0] 28))
 rw [hw1] at S1
 obtain⟨G,hG⟩:=eX (w.heap.size)
 have hgw:c.g<w.heap.size:=h.cells.2.2.2.2.2
 have HK0:=hZ hk0
 clear h
 go_enter Tryz.func148,Tryz.ntmps148
 have HJ0:=hZ (show jLoop (PJ f) l d=some r from hJ)
 clear hJ
 obtain⟨⟨k,t,n,p⟩,ht⟩:∃t,hdT l=t:=⟨_,rfl⟩
 have HT:=hZ ht
 clear ht
 have HJ1:=hZ ((by have:=uZ HJ0;unfold jLoop at this;rw [uZ HT] at this;exact this))
 clear HJ0
 have CC:=hZ ((by have:=pass_any (uZ S1).rd (uZ HK0);rw [uZ HT] at this;simp only [tkA] at this;exact this))
 go_wp2_with fail
 refine(uZ CC).mono ?_
 rintro e w2 ⟨rfl,r2,b⟩
 have S2:=hZ ((uZ S1).go b r2)
 clear b r2 CC S1
 go_upto_region 2 with (first|(refine wpl_tk3 rfl _ rfl _ _ _ _ rfl ?_)|(refine wpl_tk1 rfl _ rfl _ _ _ _ rfl ?_)|(refine wpl_tk0 rfl _ rfl _ _ _ _ rfl ?_))
 obtain⟨w3,hw⟩:=eX (w2.alloc (.cells #[.int .i64 8,.string ⟨#[]⟩,.int .i64 0,.int .i64 0,.string ⟨#[]⟩,.slice none 0 0,.slice none 0 0,.bool false,.slice none 0 0,.int .i64 (p:Int)] 28))
 have b:=alB hw
 obtain⟨Q,hQ⟩:=eX (w2.heap.size)
 have HBQ_3:Hid (w3.heap[Q]?=some (.cells #[.int .i64 8,.string ⟨#[]⟩,.int .i64 0,.int .i64 0,.string ⟨#[]⟩,.slice none 0 0,.slice none 0 0,.bool false,.slice none 0 0,.int .i64 (p:Int)] 28 (0,0))):=hZ (by rw [←hw,←hQ];exact heap_alloc_new _ _)
 have S3:=hZ ((uZ S2).below b)
 have ltQ:w.heap.size<Q:=by rw [←hQ];exact(uZ S2).lt
 rw [hw]
 try rw [hQ]
 clear hw hQ b S2
 obtain⟨yx,hy,hth⟩:=bnd_some (uZ HJ1)
 have HJ2:=hZ (hth)
 clear HJ1
 clear hth
 have CR:=hZ (ihg hy (uZ S3).rd)
 have HYX:=hZ hy
 clear hy
 rcases yx with ⟨ea,ep⟩|⟨nsx,lx⟩
 ·have HR:=hZ (thn_err (uZ HJ2))
  go_wp2_with fail
  refine(uZ CR).mono ?_
  rintro e wx ⟨rfl,b⟩
  have HX:=hZ ((uZ S3).bad b)
  clear b CR
  unfold fltP
  go_wp2_with fail
  exact⟨rfl,by rw [uZ HR];exact⟨rfl,uZ HX⟩⟩
 ·have HJ3:=hZ (thn_ok (uZ HJ2))
  clear HJ2
  go_wp2_with fail
  refine(uZ CR).mono ?_
  rintro e w4 ⟨ax,qx,Cx,Zx,rfl,hk,r2,b⟩
  have S4:=hZ ((uZ S3).go b r2)
  have HBQ_4:=bx_go HBQ_3 b (by omega)
  obtain⟨lox,hlo⟩:=eX (w3.heap.size)
  have ltlox:w.heap.size<lox:=by rw [←hlo];exact(uZ S3).lt
  have lqQ_x:Q<lox:=by rw [←hlo];exact(Array.getElem?_eq_some_iff.1 (uZ HBQ_3)).1
  rw [hlo] at hk
  have HKx_4:=hZ hk
  clear hlo b r2 hk CR S3 HBQ_3
  obtain⟨na,hlnx⟩:=eX (nsx.length)
  rw [hlnx] at HKx_4
  try rw [hlnx]
  obtain⟨-,-,-,-,-,-,-,-,Qc8,-⟩:=row_cell10 (uZ HBQ_4)
  have Qf8:=frozen_of_row w4 Q 8 _ _ (uZ HBQ_4)
  go_upto_region 3 with fail
  clear Qc8 Qf8
  try rw [hlnx]
  obtain⟨w5,hw⟩:=eX (w4.setCell ⟨Q,8,none⟩ (.slice ax na qx))
  have HBQ_5:Hid (w5.heap[Q]?=some (.cells #[.int .i64 8,.string ⟨#[]⟩,.int .i64 0,.int .i64 0,.string ⟨#[]⟩,.slice none 0 0,.slice none 0 0,.bool false,.slice ax na qx,.int .i64 (p:Int)] 28 (0,0))):=hZ (by rw [←hw,heap_setCell_same w4 Q 8 _ _ _ (uZ HBQ_4)];rfl)
  have S5:Hid (St w c 28 #[.int .i64 0,.string ⟨#[]⟩,.int .i64 0,.int .i64 0,.string ⟨#[]⟩,.slice none 0 0,.slice none 0 0,.bool false,.slice none 0 0,.int .i64 0] w5 lx d):=hZ (by rw [←hw];exact(uZ S4).own Q 8 _ ltQ)
  have HKx_5:=hZ ((uZ HKx_4).but (q:=Q) (w':=w5) (fun b _ hb=>by rw [←hw];exact heap_setCell_other _ _ _ _ hb) (by rw [←hw];simp) (by omega))
  rw [hw]
  clear hw S4 HBQ_4 HKx_4
  have hr1:=okN_some (uZ HJ3)
  have hnn:=(uZ HKx_5).node' hlnx 8 [] 0 0 [] false p
  have HR:=hZ (hr1)
  have BX:=(uZ S5).bx
  rw [hG] at BX
  obtain⟨g0,g1,g2,g3,g4,g5,g6,g7,g8,g9⟩:=row_cell10 BX
  obtain⟨z0,z1,z2,z3,z4,z5,z6,z7,z8,z9⟩:=frozen10 BX
  clear BX
  obtain⟨Qc0,Qc1,Qc2,Qc3,Qc4,Qc5,Qc6,Qc7,Qc8,Qc9⟩:=row_cell10 (uZ HBQ_5)
  have FF:=hZ (St.done (uZ S5) (hnn.low (by omega)) rfl hG)
  go_wp2_with fail
  refine rtN (p:=2) rfl rfl (uZ FF).1 rfl rfl ?_
  rw [uZ HR]
  exact(uZ FF).2
theorem choice_step {c:Cx} {l:List Tk} {d:Nat} {w:World} {r:Rs (List Nd)} {f:Nat} (ihg:∀{c:Cx} {l:List Tk} {d:Nat} {w:World} {r:Rs (List Nd)},PJ f 20 0 [] l d=some r→Rd w c l d→Calls Tryz.prog 162 #[.pointer (some ⟨c.g,0,none⟩)] w fun e w'=>KsP c w d r e w') (ihc:∀{c:Cx} {l:List Tk} {d:Nat} {w:World} {r:Rs (List Nd)},¬(hdT l).k=0→PJ f 12 0 [] l d=some r→Rd w c l d→Calls Tryz.prog 147 #[.pointer (some ⟨c.g,0,none⟩)] w fun e w'=>NdP c w d r e w') (ihb:∀{c:Cx} {l:List Tk} {d:Nat} {w:World} {r:Rs (List Nd)},PJ f 10 0 [] l d=some r→Rd w c l d→Calls Tryz.prog 80 #[.pointer (some ⟨c.g,0,none⟩)] w fun e w'=>NdP c w d r e w') (hk0:¬(hdT l).k=0) (hJ:PJ (f+1) 12 0 [] l d=some r) (h:Rd w c l d) :
  Calls Tryz.prog 147 #[.pointer (some ⟨c.g,0,none⟩)] w fun e w'=>NdP c w d r e w':=by
 have S1:=hZ (St.start h 28 #[.int .i64 0,.string ⟨#[]⟩,.int .i64 0,.int .i64 0,.string ⟨#[]⟩,.slice none 0 0,.slice none 0 0,.bool false,.slice none 0 0,.int .i64 0])
 obtain⟨w1,hw1⟩:=eX (w.alloc (.cells #[.int .i64 0,.string ⟨#[]⟩,.int .i64 0,.int .i64 0,.string ⟨#[]⟩,.slice none 0 0,.slice none 0 0,.bool false,.slice none 0 0,.int .i64 0] 28))
 rw [hw1] at S1
 obtain⟨G,hG⟩:=eX (w.heap.size)
 have hgw:c.g<w.heap.size:=h.cells.2.2.2.2.2
 have HK0:=hZ hk0
 have hnl:l.tail.length≤10000:=by have h1:=h.head;have h2:=h.len;have h3:=tail_le l;omega
 clear h
 go_enter Tryz.func147,Tryz.ntmps147
 have HJ0:=hZ (show jChoice (PJ f) l d=some r from hJ)
 clear hJ
 obtain⟨⟨k,t,n,p⟩,ht⟩:∃t,hdT l=t:=⟨_,rfl⟩
 have HT:=hZ ht
 clear ht
 have HJ1:=hZ ((by have:=uZ HJ0;unfold jChoice at this;rw [uZ HT] at this;exact this))
 clear HJ0
 have CC:=hZ ((by have:=pass_any (uZ S1).rd (uZ HK0);rw [uZ HT] at this;simp only [tkA] at this;exact this))
 go_wp2_with fail
 refine(uZ CC).mono ?_
 rintro e w2 ⟨rfl,r2,b⟩
 have S2:=hZ ((uZ S1).go b r2)
 clear b r2 CC S1
 go_upto_region 2 with (first|(refine wpl_tk3 rfl _ rfl _ _ _ _ rfl ?_)|(refine wpl_tk1 rfl _ rfl _ _ _ _ rfl ?_)|(refine wpl_tk0 rfl _ rfl _ _ _ _ rfl ?_))
 obtain⟨w3,hw⟩:=eX (w2.alloc (.cells #[.int .i64 7,.string ⟨#[]⟩,.int .i64 0,.int .i64 0,.string ⟨#[]⟩,.slice none 0 0,.slice none 0 0,.bool false,.slice none 0 0,.int .i64 (p:Int)] 28))
 have b:=alB hw
 obtain⟨Q,hQ⟩:=eX (w2.heap.size)
 have HBQ_3:Hid (w3.heap[Q]?=some (.cells #[.int .i64 7,.string ⟨#[]⟩,.int .i64 0,.int .i64 0,.string ⟨#[]⟩,.slice none 0 0,.slice none 0 0,.bool false,.slice none 0 0,.int .i64 (p:Int)] 28 (0,0))):=hZ (by rw [←hw,←hQ];exact heap_alloc_new _ _)
 have S3:=hZ ((uZ S2).below b)
 have ltQ:w.heap.size<Q:=by rw [←hQ];exact(uZ S2).lt
 rw [hw]
 try rw [hQ]
 clear hw hQ b S2
 obtain⟨yx,hy,hth⟩:=bnd_some (uZ HJ1)
 have HJ2:=hZ (hth)
 clear HJ1
 clear hth
 have CR:=hZ (ihg hy (uZ S3).rd)
 have HYX:=hZ hy
 clear hy
 rcases yx with ⟨ea,ep⟩|⟨nsx,lx⟩
 ·have HR:=hZ (thn_err (uZ HJ2))
  go_wp2_with fail
  refine(uZ CR).mono ?_
  rintro e wx ⟨rfl,b⟩
  have HX:=hZ ((uZ S3).bad b)
  clear b CR
  unfold fltP
  go_wp2_with fail
  exact⟨rfl,by rw [uZ HR];exact⟨rfl,uZ HX⟩⟩
 ·have HJ3:=hZ (thn_ok (uZ HJ2))
  clear HJ2
  go_wp2_with fail
  refine(uZ CR).mono ?_
  rintro e w4 ⟨ax,qx,Cx,Zx,rfl,hk,r2,b⟩
  have S4:=hZ ((uZ S3).go b r2)
  have HBQ_4:=bx_go HBQ_3 b (by omega)
  obtain⟨lox,hlo⟩:=eX (w3.heap.size)
  have ltlox:w.heap.size<lox:=by rw [←hlo];exact(uZ S3).lt
  have lqQ_x:Q<lox:=by rw [←hlo];exact(Array.getElem?_eq_some_iff.1 (uZ HBQ_3)).1
  rw [hlo] at hk
  have HKx_4:=hZ hk
  clear hlo b r2 hk CR S3 HBQ_3
  obtain⟨na,hlnx⟩:=eX (nsx.length)
  rw [hlnx] at HKx_4
  try rw [hlnx]
  have hbna:na+lx.length≤10000:=by have h1:=PJ_len f 20 0 [] l.tail d nsx lx ⟨by decide,by omega⟩ (uZ HYX);simp only [twoJ,List.length_nil,reduceIte] at h1;have h2:=hnl;omega
  obtain⟨-,-,-,-,-,-,-,-,Qc8,-⟩:=row_cell10 (uZ HBQ_4)
  have Qf8:=frozen_of_row w4 Q 8 _ _ (uZ HBQ_4)
  go_upto_region 3 with fail
  clear Qc8 Qf8
  try rw [hlnx]
  obtain⟨w5,hw⟩:=eX (w4.setCell ⟨Q,8,none⟩ (.slice ax na qx))
  have HBQ_5:Hid (w5.heap[Q]?=some (.cells #[.int .i64 7,.string ⟨#[]⟩,.int .i64 0,.int .i64 0,.string ⟨#[]⟩,.slice none 0 0,.slice none 0 0,.bool false,.slice ax na qx,.int .i64 (p:Int)] 28 (0,0))):=hZ (by rw [←hw,heap_setCell_same w4 Q 8 _ _ _ (uZ HBQ_4)];rfl)
  have S5:Hid (St w c 28 #[.int .i64 0,.string ⟨#[]⟩,.int .i64 0,.int .i64 0,.string ⟨#[]⟩,.slice none 0 0,.slice none 0 0,.bool false,.slice none 0 0,.int .i64 0] w5 lx d):=hZ (by rw [←hw];exact(uZ S4).own Q 8 _ ltQ)
  have HKx_5:=hZ ((uZ HKx_4).but (q:=Q) (w':=w5) (fun b _ hb=>by rw [←hw];exact heap_setCell_other _ _ _ _ hb) (by rw [←hw];simp) (by omega))
  rw [hw]
  clear hw S4 HBQ_4 HKx_4
  by_cases hb:isK [101,108,115,101] lx=true
  ·have hq:isK [101,108,115,101] lx=true:=by simpa using hb
   have CC:=hZ ((by have:=seesKey_any (uZ S5).rd [101,108,115,101];rw [hq] at this;exact this))
   go_wp2_with fail
   refine(uZ CC).mono ?_
   rintro e w6 ⟨rfl,b⟩
   have S6:=hZ ((uZ S5).below b)
   have HBQ_6:=bx_be HBQ_5 b
   have HKx_6:=hZ ((uZ HKx_5).beside (Beside.of_below (gr:=c.g) b) (by omega))
   clear b CC S5 HBQ_5 HKx_5
   have HJ4:=hZ ((by have:=(uZ HJ3);rw [if_pos hq] at this;exact this))
   clear HJ3
   have hkk:=isK_k hq
   have CC:=hZ (pass_any (uZ S6).rd hkk)
   go_wp2_with fail
   refine(uZ CC).mono ?_
   rintro e w7 ⟨rfl,r2,b⟩
   have S7:=hZ ((uZ S6).go b r2)
   have HBQ_7:=bx_go HBQ_6 b (by omega)
   have HKx_7:=hZ ((uZ HKx_6).beside b (by omega))
   clear b r2 CC S6 HBQ_6 HKx_6
   by_cases hb:isK [105,102] lx.tail=true
   ·have hq:isK [105,102] lx.tail=true:=by simpa using hb
    have CC:=hZ ((by have:=seesKey_any (uZ S7).rd [105,102];rw [hq] at this;exact this))
    go_wp2_with fail
    refine(uZ CC).mono ?_
    rintro e w8 ⟨rfl,b⟩
    have S8:=hZ ((uZ S7).below b)
    have HBQ_8:=bx_be HBQ_7 b
    have HKx_8:=hZ ((uZ HKx_7).beside (Beside.of_below (gr:=c.g) b) (by omega))
    clear b CC S7 HBQ_7 HKx_7
    have HJ5:=hZ ((by have:=(uZ HJ4);rw [if_pos hq] at this;exact this))
    clear HJ4
    have hk2:=isK_k hq
    go_upto_region 6 with fail
    obtain⟨-,-,-,-,-,-,-,-,Qc8,-⟩:=row_cell10 (uZ HBQ_8)
    have HS0:Hid (w8.drew.cell? ⟨Q,8,none⟩=some (.slice ax na qx)):=hZ (Qc8)
    refine till_begin (S:=fun w'=>w'.cell? ⟨Q,8,none⟩=some (.slice ax na qx)) 7 (by kernel_rfl) ?_
    obtain⟨w9,hWD⟩:=eX (w8.drew)
    have bD:Below w8.heap.size w8 w9:=by rw [←hWD];exact(Below.refl _ _).drew
    rw [hWD] at HS0
    rw [hWD]
    have S9:=hZ ((uZ S8).below bD)
    have HBQ_9:=bx_be HBQ_8 bD
    have HKx_9:=hZ ((uZ HKx_8).beside (Beside.of_below (gr:=c.g) bD) (by omega))
    clear hWD bD S8 HBQ_8 HKx_8
    clear Qc8
    refine tK 0 (v:=.pointer (some ⟨Q,8,none⟩)) (some 17) rfl rfl rfl (by kernel_rfl) (fun _ _ _ h=>h) (Or.inl ⟨by rfl,fun u hu=>by obtain b0:=hu;go_simp⟩) (uZ HS0) ?_
    try simp only [Act.put,sA,sB,sC]
    refine tK 1 (v:=.slice ax na qx) (some 18) rfl rfl rfl (by kernel_rfl) (fun _ _ _ h=>h) (Or.inl ⟨by rfl,fun u hu=>by obtain b0:=hu;go_simp⟩) (uZ HS0) ?_
    try simp only [Act.put,sA,sB,sC]
    refine tK 2 (v:=.pointer (some ⟨c.g,0,none⟩)) (some 19) rfl rfl rfl (by kernel_rfl) (fun _ _ _ h=>h) (Or.inl ⟨by rfl,fun u hu=>by obtain b0:=hu;go_simp⟩) (uZ HS0) ?_
    try simp only [Act.put,sA,sB,sC]
    obtain⟨yy,hy,hth⟩:=bnd_some (uZ HJ5)
    have HJ6:=hZ (hth)
    clear HJ5
    clear hth
    have CR:=hZ (ihc hk2 hy (uZ S9).rd)
    have HYX:=hZ hy
    clear hy
    rcases yy with ⟨ea,ep⟩|⟨nsy,ly⟩
    ·have HR:=hZ (thn_err (uZ HJ6))
     refine till_one 3 (by kernel_rfl) rfl (fun K hK=>?_)
     go_simp
     refine(uZ CR).mono ?_
     rintro e wx ⟨rfl,b⟩
     have HX:=hZ ((uZ S9).bad b)
     clear b CR
     unfold fltP
     go_wp2_with fail
     exact⟨rfl,by rw [uZ HR];exact⟨rfl,uZ HX⟩⟩
    ·have HJ7:=hZ (thn_ok (uZ HJ6))
     clear HJ6
     refine till_one 3 (by kernel_rfl) rfl (fun K hK=>?_)
     go_simp
     refine(uZ CR).mono ?_
     rintro e w10 ⟨ky,ty,vky,vny,vsy,fy,ny,aky,cky,py,Zy,rfl,hly,hn,r2,b⟩
     have S10:=hZ ((uZ S9).go b r2)
     have HBQ_10:=bx_go HBQ_9 b (by omega)
     have HKx_10:=hZ ((uZ HKx_9).beside b (by omega))
     obtain⟨loy,hlo⟩:=eX (w9.heap.size)
     have ltloy:w.heap.size<loy:=by rw [←hlo];exact(uZ S9).lt
     have lqQ_y:Q<loy:=by rw [←hlo];exact(Array.getElem?_eq_some_iff.1 (uZ HBQ_9)).1
     have HWx_y:=hZ ((uZ HKx_9).vlt hlo)
     have lex_y:=(uZ HKx_9).ok.le
     rw [hlo] at lex_y
     rw [hlo] at hn
     have HNy_10:=hZ hn
     clear hlo b r2 hn CR S9 HBQ_9 HKx_9
     clear HS0
     have HS0:Hid (w10.cell? ⟨Q,8,none⟩=some (.slice ax na qx)):=hZ (by exact(row_cell10 (uZ HBQ_10)).2.2.2.2.2.2.2.2.1)
     go_wp2_with fail
     refine hK.out _ _ (Or.inr (uZ HS0)) ?_
     clear hK K
     try simp only [Act.put,sA,sB,sC]
     obtain⟨w11,hwr⟩:=eX (w10.alloc (.cells #[.int .i64 (ky:Int),.string (bA ty),.int .i64 (vky:Int),.int .i64 (vny:Int),.string (bA vsy),.slice none 0 0,.slice none 0 0,.bool fy,.slice aky ny cky,.int .i64 (py:Int)] 28))
     have b:=alB hwr
     obtain⟨hx,hhx⟩:=eX (w10.heap.size)
     have at4:Hid (w11.heap[hx]?=some (.cells #[.int .i64 (ky:Int),.string (bA ty),.int .i64 (vky:Int),.int .i64 (vny:Int),.string (bA vsy),.slice none 0 0,.slice none 0 0,.bool fy,.slice aky ny cky,.int .i64 (py:Int)] 28 (0,0))):=hZ (by rw [←hwr,←hhx];exact heap_alloc_new _ _)
     have S11:=hZ ((uZ S10).below b)
     have HBQ_11:=bx_be HBQ_10 b
     have HKx_11:=hZ ((uZ HKx_10).beside (Beside.of_below (gr:=c.g) b) (by omega))
     have HNy_11:=hZ ((uZ HNy_10).beside (Beside.of_below (gr:=c.g) b) (by omega))
     clear b S10 HBQ_10 HKx_10 HNy_10
     refine till_one 4 (by kernel_rfl) rfl (fun K hK=>?_)
     go_simp
     try rw [hwr]
     try rw [hhx]
     clear HS0
     have HS0:Hid (w11.cell? ⟨Q,8,none⟩=some (.slice ax na qx)):=hZ (by exact(row_cell10 (uZ HBQ_11)).2.2.2.2.2.2.2.2.1)
     refine hK.out _ _ (Or.inr (uZ HS0)) ?_
     clear hK K hwr hhx
     try simp only [Act.put,sA,sB,sC]
     obtain⟨ind,hi0,hi1,hi2,hi3⟩:=info_nd
     have hkl:=(uZ HKx_11).own
     rw [hlnx] at hkl
     have HKL:=hZ hkl
     clear hkl
     refine till_one 5 (by kernel_rfl) rfl (fun K hK=>?_)
     refine step_append_lies _ (by rfl) _ _ 26 (by rfl) lox 28 ind _ 10 144 Tryz.underlying26 hi0 hi1 hi2 hi3 rfl (by omega) (.slice ax na qx) (na) _ (by rfl) (uZ HKL) ⟨hx,0,none⟩ 1 1 [.int .i64 (ky:Int),.string (bA ty),.int .i64 (vky:Int),.int .i64 (vny:Int),.string (bA vsy),.slice none 0 0,.slice none 0 0,.bool fy,.slice aky ny cky,.int .i64 (py:Int)] (by rfl) (by rfl) (World.news_of_block (uZ at4)) (ndC_one _ _ _ _ _ _ _ _ _ _) (by omega) (by unfold maxLen;have:=hbna;omega) (by have:=hbna;omega) (uZ HKx_11).ok.le _ rfl ?_
     intro g5 cap5 w12 hown5 hgrow5 hat5 hlt5
     change K (Act.put _ (some 22) _) w12
     clear hi0 hi1 hi2 hi3 HKL ind at4
     have hne:∀x,x<lox→some x≠(.slice ax na qx:Value).ownBlock:=fun x hx e=>by have:=((uZ HKx_11).own.lt x e.symm).1;omega
     have bb:Below lox w11 w12:=(Below.refl _ _).grown hgrow5 (uZ HKx_11).ok.le (fun x hx=>((uZ HKx_11).own.lt x hx).1)
     have S12:=hZ ((uZ S11).below2 bb (by omega))
     have HBQ_12:Hid (w12.heap[Q]?=some (.cells #[.int .i64 7,.string ⟨#[]⟩,.int .i64 0,.int .i64 0,.string ⟨#[]⟩,.slice none 0 0,.slice none 0 0,.bool false,.slice ax na qx,.int .i64 (p:Int)] 28 (0,0))):=hZ ((bb.block Q (by omega)).trans (uZ HBQ_11))
     have HKn_12:=hZ (Kr.push (uZ HKx_11) (uZ HNy_11) (by omega) (uZ HWx_y).2 (uZ HWx_y).1 hown5 (by rw [List.length_append,hly,hlnx]) hgrow5 hat5)
     clear bb hne hown5 hgrow5 hat5 hlt5 HS0 S11 HBQ_11 HKx_11 HNy_11
     have HS0:Hid (w12.cell? ⟨Q,8,none⟩=some (.slice ax na qx)):=hZ (by exact(row_cell10 (uZ HBQ_12)).2.2.2.2.2.2.2.2.1)
     refine hK.out _ _ (Or.inr (uZ HS0)) ?_
     clear hK K
     try simp only [Act.put,sA,sB,sC]
     refine tK 6 (v:=.pointer (some ⟨Q,8,none⟩)) (some 23) rfl rfl rfl (by kernel_rfl) (fun _ _ _ h=>h) (Or.inl ⟨by rfl,fun u hu=>by obtain b0:=hu;go_simp⟩) (uZ HS0) ?_
     try simp only [Act.put,sA,sB,sC]
     obtain⟨-,-,-,-,-,-,-,-,g8,-⟩:=row_cell10 (uZ HBQ_12)
     have z8:=frozen_of_row w12 Q 8 _ _ (uZ HBQ_12)
     refine till_one 7 (by kernel_rfl) rfl (fun K hK=>?_)
     go_simp
     refine hK.out _ _ (Or.inl (by first|rfl|trivial)) ?_
     clear hK K HS0 g8 z8
     try simp only [Act.put,sA,sB,sC]
     refine till_done (by kernel_rfl) ?_ _
     obtain⟨w13,hw⟩:=eX (w12.setCell ⟨Q,8,none⟩ (.slice (some ⟨g5,0,none⟩) (na+1) cap5))
     have HBQ_13:Hid (w13.heap[Q]?=some (.cells #[.int .i64 7,.string ⟨#[]⟩,.int .i64 0,.int .i64 0,.string ⟨#[]⟩,.slice none 0 0,.slice none 0 0,.bool false,.slice (some ⟨g5,0,none⟩) (na+1) cap5,.int .i64 (p:Int)] 28 (0,0))):=hZ (by rw [←hw,heap_setCell_same w12 Q 8 _ _ _ (uZ HBQ_12)];rfl)
     have S13:Hid (St w c 28 #[.int .i64 0,.string ⟨#[]⟩,.int .i64 0,.int .i64 0,.string ⟨#[]⟩,.slice none 0 0,.slice none 0 0,.bool false,.slice none 0 0,.int .i64 0] w13 ly d):=hZ (by rw [←hw];exact(uZ S12).own Q 8 _ ltQ)
     have HKn_13:=hZ ((uZ HKn_12).but (q:=Q) (w':=w13) (fun b _ hb=>by rw [←hw];exact heap_setCell_other _ _ _ _ hb) (by rw [←hw];simp) (by omega))
     rw [hw]
     clear hw S12 HBQ_12 HKn_12
     have hr1:=okN_some (uZ HJ7)
     have hnn:=(uZ HKn_13).node' (show (nsx++nsy).length=na+1 by rw [List.length_append,hly,hlnx]) 7 [] 0 0 [] false p
     have HR:=hZ (hr1)
     have BX:=(uZ S13).bx
     rw [hG] at BX
     obtain⟨g0,g1,g2,g3,g4,g5,g6,g7,g8,g9⟩:=row_cell10 BX
     obtain⟨z0,z1,z2,z3,z4,z5,z6,z7,z8,z9⟩:=frozen10 BX
     clear BX
     obtain⟨Qc0,Qc1,Qc2,Qc3,Qc4,Qc5,Qc6,Qc7,Qc8,Qc9⟩:=row_cell10 (uZ HBQ_13)
     have FF:=hZ (St.done (uZ S13) (hnn.low (by omega)) rfl hG)
     go_wp2_with fail
     refine rtN (p:=2) rfl rfl (uZ FF).1 rfl rfl ?_
     rw [uZ HR]
     exact(uZ FF).2
   ·have hq:isK [105,102] lx.tail=false:=by simpa using hb
    have CC:=hZ ((by have:=seesKey_any (uZ S7).rd [105,102];rw [hq] at this;exact this))
    go_wp2_with fail
    refine(uZ CC).mono ?_
    rintro e w8 ⟨rfl,b⟩
    have S8:=hZ ((uZ S7).below b)
    have HBQ_8:=bx_be HBQ_7 b
    have HKx_8:=hZ ((uZ HKx_7).beside (Beside.of_below (gr:=c.g) b) (by omega))
    clear b CC S7 HBQ_7 HKx_7
    have HJ5:=hZ ((by have:=(uZ HJ4);rw [if_neg (by rw [hq];decide)] at this;exact this))
    clear HJ4
    go_upto_region 7 with fail
    obtain⟨-,-,-,-,-,-,-,-,Qc8,-⟩:=row_cell10 (uZ HBQ_8)
    have HS0:Hid (w8.drew.cell? ⟨Q,8,none⟩=some (.slice ax na qx)):=hZ (Qc8)
    refine till_begin (S:=fun w'=>w'.cell? ⟨Q,8,none⟩=some (.slice ax na qx)) 7 (by kernel_rfl) ?_
    obtain⟨w9,hWD⟩:=eX (w8.drew)
    have bD:Below w8.heap.size w8 w9:=by rw [←hWD];exact(Below.refl _ _).drew
    rw [hWD] at HS0
    rw [hWD]
    have S9:=hZ ((uZ S8).below bD)
    have HBQ_9:=bx_be HBQ_8 bD
    have HKx_9:=hZ ((uZ HKx_8).beside (Beside.of_below (gr:=c.g) bD) (by omega))
    clear hWD bD S8 HBQ_8 HKx_8
    clear Qc8
    refine tK 0 (v:=.pointer (some ⟨Q,8,none⟩)) (some 24) rfl rfl rfl (by kernel_rfl) (fun _ _ _ h=>h) (Or.inl ⟨by rfl,fun u hu=>by obtain b0:=hu;go_simp⟩) (uZ HS0) ?_
    try simp only [Act.put,sA,sB,sC]
    refine tK 1 (v:=.slice ax na qx) (some 25) rfl rfl rfl (by kernel_rfl) (fun _ _ _ h=>h) (Or.inl ⟨by rfl,fun u hu=>by obtain b0:=hu;go_simp⟩) (uZ HS0) ?_
    try simp only [Act.put,sA,sB,sC]
    refine tK 2 (v:=.pointer (some ⟨c.g,0,none⟩)) (some 26) rfl rfl rfl (by kernel_rfl) (fun _ _ _ h=>h) (Or.inl ⟨by rfl,fun u hu=>by obtain b0:=hu;go_simp⟩) (uZ HS0) ?_
    try simp only [Act.put,sA,sB,sC]
    obtain⟨yy,hy,hth⟩:=bnd_some (uZ HJ5)
    have HJ6:=hZ (hth)
    clear HJ5
    clear hth
    have CR:=hZ (ihb hy (uZ S9).rd)
    have HYX:=hZ hy
    clear hy
    rcases yy with ⟨ea,ep⟩|⟨nsy,ly⟩
    ·have HR:=hZ (thn_err (uZ HJ6))
     refine till_one 3 (by kernel_rfl) rfl (fun K hK=>?_)
     go_simp
     refine(uZ CR).mono ?_
     rintro e wx ⟨rfl,b⟩
     have HX:=hZ ((uZ S9).bad b)
     clear b CR
     unfold fltP
     go_wp2_with fail
     exact⟨rfl,by rw [uZ HR];exact⟨rfl,uZ HX⟩⟩
    ·have HJ7:=hZ (thn_ok (uZ HJ6))
     clear HJ6
     refine till_one 3 (by kernel_rfl) rfl (fun K hK=>?_)
     go_simp
     refine(uZ CR).mono ?_
     rintro e w10 ⟨ky,ty,vky,vny,vsy,fy,ny,aky,cky,py,Zy,rfl,hly,hn,r2,b⟩
     have S10:=hZ ((uZ S9).go b r2)
     have HBQ_10:=bx_go HBQ_9 b (by omega)
     have HKx_10:=hZ ((uZ HKx_9).beside b (by omega))
     obtain⟨loy,hlo⟩:=eX (w9.heap.size)
     have ltloy:w.heap.size<loy:=by rw [←hlo];exact(uZ S9).lt
     have lqQ_y:Q<loy:=by rw [←hlo];exact(Array.getElem?_eq_some_iff.1 (uZ HBQ_9)).1
     have HWx_y:=hZ ((uZ HKx_9).vlt hlo)
     have lex_y:=(uZ HKx_9).ok.le
     rw [hlo] at lex_y
     rw [hlo] at hn
     have HNy_10:=hZ hn
     clear hlo b r2 hn CR S9 HBQ_9 HKx_9
     clear HS0
     have HS0:Hid (w10.cell? ⟨Q,8,none⟩=some (.slice ax na qx)):=hZ (by exact(row_cell10 (uZ HBQ_10)).2.2.2.2.2.2.2.2.1)
     go_wp2_with fail
     refine hK.out _ _ (Or.inr (uZ HS0)) ?_
     clear hK K
     try simp only [Act.put,sA,sB,sC]
     obtain⟨w11,hwr⟩:=eX (w10.alloc (.cells #[.int .i64 (ky:Int),.string (bA ty),.int .i64 (vky:Int),.int .i64 (vny:Int),.string (bA vsy),.slice none 0 0,.slice none 0 0,.bool fy,.slice aky ny cky,.int .i64 (py:Int)] 28))
     have b:=alB hwr
     obtain⟨hx,hhx⟩:=eX (w10.heap.size)
     have at4:Hid (w11.heap[hx]?=some (.cells #[.int .i64 (ky:Int),.string (bA ty),.int .i64 (vky:Int),.int .i64 (vny:Int),.string (bA vsy),.slice none 0 0,.slice none 0 0,.bool fy,.slice aky ny cky,.int .i64 (py:Int)] 28 (0,0))):=hZ (by rw [←hwr,←hhx];exact heap_alloc_new _ _)
     have S11:=hZ ((uZ S10).below b)
     have HBQ_11:=bx_be HBQ_10 b
     have HKx_11:=hZ ((uZ HKx_10).beside (Beside.of_below (gr:=c.g) b) (by omega))
     have HNy_11:=hZ ((uZ HNy_10).beside (Beside.of_below (gr:=c.g) b) (by omega))
     clear b S10 HBQ_10 HKx_10 HNy_10
     refine till_one 4 (by kernel_rfl) rfl (fun K hK=>?_)
     go_simp
     try rw [hwr]
     try rw [hhx]
     clear HS0
     have HS0:Hid (w11.cell? ⟨Q,8,none⟩=some (.slice ax na qx)):=hZ (by exact(row_cell10 (uZ HBQ_11)).2.2.2.2.2.2.2.2.1)
     refine hK.out _ _ (Or.inr (uZ HS0)) ?_
     clear hK K hwr hhx
     try simp only [Act.put,sA,sB,sC]
     obtain⟨ind,hi0,hi1,hi2,hi3⟩:=info_nd
     have hkl:=(uZ HKx_11).own
     rw [hlnx] at hkl
     have HKL:=hZ hkl
     clear hkl
     refine till_one 5 (by kernel_rfl) rfl (fun K hK=>?_)
     refine step_append_lies _ (by rfl) _ _ 26 (by rfl) lox 28 ind _ 10 144 Tryz.underlying26 hi0 hi1 hi2 hi3 rfl (by omega) (.slice ax na qx) (na) _ (by rfl) (uZ HKL) ⟨hx,0,none⟩ 1 1 [.int .i64 (ky:Int),.string (bA ty),.int .i64 (vky:Int),.int .i64 (vny:Int),.string (bA vsy),.slice none 0 0,.slice none 0 0,.bool fy,.slice aky ny cky,.int .i64 (py:Int)] (by rfl) (by rfl) (World.news_of_block (uZ at4)) (ndC_one _ _ _ _ _ _ _ _ _ _) (by omega) (by unfold maxLen;have:=hbna;omega) (by have:=hbna;omega) (uZ HKx_11).ok.le _ rfl ?_
     intro g5 cap5 w12 hown5 hgrow5 hat5 hlt5
     change K (Act.put _ (some 29) _) w12
     clear hi0 hi1 hi2 hi3 HKL ind at4
     have hne:∀x,x<lox→some x≠(.slice ax na qx:Value).ownBlock:=fun x hx e=>by have:=((uZ HKx_11).own.lt x e.symm).1;omega
     have bb:Below lox w11 w12:=(Below.refl _ _).grown hgrow5 (uZ HKx_11).ok.le (fun x hx=>((uZ HKx_11).own.lt x hx).1)
     have S12:=hZ ((uZ S11).below2 bb (by omega))
     have HBQ_12:Hid (w12.heap[Q]?=some (.cells #[.int .i64 7,.string ⟨#[]⟩,.int .i64 0,.int .i64 0,.string ⟨#[]⟩,.slice none 0 0,.slice none 0 0,.bool false,.slice ax na qx,.int .i64 (p:Int)] 28 (0,0))):=hZ ((bb.block Q (by omega)).trans (uZ HBQ_11))
     have HKn_12:=hZ (Kr.push (uZ HKx_11) (uZ HNy_11) (by omega) (uZ HWx_y).2 (uZ HWx_y).1 hown5 (by rw [List.length_append,hly,hlnx]) hgrow5 hat5)
     clear bb hne hown5 hgrow5 hat5 hlt5 HS0 S11 HBQ_11 HKx_11 HNy_11
     have HS0:Hid (w12.cell? ⟨Q,8,none⟩=some (.slice ax na qx)):=hZ (by exact(row_cell10 (uZ HBQ_12)).2.2.2.2.2.2.2.2.1)
     refine hK.out _ _ (Or.inr (uZ HS0)) ?_
     clear hK K
     try simp only [Act.put,sA,sB,sC]
     refine tK 6 (v:=.pointer (some ⟨Q,8,none⟩)) (some 30) rfl rfl rfl (by kernel_rfl) (fun _ _ _ h=>h) (Or.inl ⟨by rfl,fun u hu=>by obtain b0:=hu;go_simp⟩) (uZ HS0) ?_
     try simp only [Act.put,sA,sB,sC]
     obtain⟨-,-,-,-,-,-,-,-,g8,-⟩:=row_cell10 (uZ HBQ_12)
     have z8:=frozen_of_row w12 Q 8 _ _ (uZ HBQ_12)
     refine till_one 7 (by kernel_rfl) rfl (fun K hK=>?_)
     go_simp
     refine hK.out _ _ (Or.inl (by first|rfl|trivial)) ?_
     clear hK K HS0 g8 z8
     try simp only [Act.put,sA,sB,sC]
     refine till_done (by kernel_rfl) ?_ _
     obtain⟨w13,hw⟩:=eX (w12.setCell ⟨Q,8,none⟩ (.slice (some ⟨g5,0,none⟩) (na+1) cap5))
     have HBQ_13:Hid (w13.heap[Q]?=some (.cells #[.int .i64 7,.string ⟨#[]⟩,.int .i64 0,.int .i64 0,.string ⟨#[]⟩,.slice none 0 0,.slice none 0 0,.bool false,.slice (some ⟨g5,0,none⟩) (na+1) cap5,.int .i64 (p:Int)] 28 (0,0))):=hZ (by rw [←hw,heap_setCell_same w12 Q 8 _ _ _ (uZ HBQ_12)];rfl)
     have S13:Hid (St w c 28 #[.int .i64 0,.string ⟨#[]⟩,.int .i64 0,.int .i64 0,.string ⟨#[]⟩,.slice none 0 0,.slice none 0 0,.bool false,.slice none 0 0,.int .i64 0] w13 ly d):=hZ (by rw [←hw];exact(uZ S12).own Q 8 _ ltQ)
     have HKn_13:=hZ ((uZ HKn_12).but (q:=Q) (w':=w13) (fun b _ hb=>by rw [←hw];exact heap_setCell_other _ _ _ _ hb) (by rw [←hw];simp) (by omega))
     rw [hw]
     clear hw S12 HBQ_12 HKn_12
     have hr1:=okN_some (uZ HJ7)
     have hnn:=(uZ HKn_13).node' (show (nsx++nsy).length=na+1 by rw [List.length_append,hly,hlnx]) 7 [] 0 0 [] false p
     have HR:=hZ (hr1)
     have BX:=(uZ S13).bx
     rw [hG] at BX
     obtain⟨g0,g1,g2,g3,g4,g5,g6,g7,g8,g9⟩:=row_cell10 BX
     obtain⟨z0,z1,z2,z3,z4,z5,z6,z7,z8,z9⟩:=frozen10 BX
     clear BX
     obtain⟨Qc0,Qc1,Qc2,Qc3,Qc4,Qc5,Qc6,Qc7,Qc8,Qc9⟩:=row_cell10 (uZ HBQ_13)
     have FF:=hZ (St.done (uZ S13) (hnn.low (by omega)) rfl hG)
     go_wp2_with fail
     refine rtN (p:=2) rfl rfl (uZ FF).1 rfl rfl ?_
     rw [uZ HR]
     exact(uZ FF).2
  ·have hq:isK [101,108,115,101] lx=false:=by simpa using hb
   have CC:=hZ ((by have:=seesKey_any (uZ S5).rd [101,108,115,101];rw [hq] at this;exact this))
   go_wp2_with fail
   refine(uZ CC).mono ?_
   rintro e w6 ⟨rfl,b⟩
   have S6:=hZ ((uZ S5).below b)
   have HBQ_6:=bx_be HBQ_5 b
   have HKx_6:=hZ ((uZ HKx_5).beside (Beside.of_below (gr:=c.g) b) (by omega))
   clear b CC S5 HBQ_5 HKx_5
   have HJ4:=hZ ((by have:=(uZ HJ3);rw [if_neg (by rw [hq];decide)] at this;exact this))
   clear HJ3
   have hr1:=okN_some (uZ HJ4)
   have hnn:=(uZ HKx_6).node' hlnx 7 [] 0 0 [] false p
   have HR:=hZ (hr1)
   have BX:=(uZ S6).bx
   rw [hG] at BX
   obtain⟨g0,g1,g2,g3,g4,g5,g6,g7,g8,g9⟩:=row_cell10 BX
   obtain⟨z0,z1,z2,z3,z4,z5,z6,z7,z8,z9⟩:=frozen10 BX
   clear BX
   obtain⟨Qc0,Qc1,Qc2,Qc3,Qc4,Qc5,Qc6,Qc7,Qc8,Qc9⟩:=row_cell10 (uZ HBQ_6)
   have FF:=hZ (St.done (uZ S6) (hnn.low (by omega)) rfl hG)
   go_wp2_with fail
   refine rtN (p:=2) rfl rfl (uZ FF).1 rfl rfl ?_
   rw [uZ HR]
   exact(uZ FF).2
end Go.Proofs.YtjdpaihhhjdgmaaGreatDoor
