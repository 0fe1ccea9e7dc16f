/-
  Layer 17 (parse): pairs of a record; conditions: the reader's state.
-/
import Derived.Test.YtjdpaihhhjdgmaaGreatDoorA33
set_option linter.unusedVariables false
set_option linter.unusedSimpArgs false
set_option maxRecDepth 100000
set_option maxHeartbeats 8000000
namespace Go.Proofs.YtjdpaihhhjdgmaaGreatDoor
open Go.RowKit
set_option linter.unusedVariables false
set_option linter.unusedSimpArgs false
theorem pair_step {c:Cx} {l:List Tk} {d:Nat} {w:World} {r:Rs (List Nd)} {f:Nat} (ihe:∀{c:Cx} {l:List Tk} {d:Nat} {w:World} {r:Rs (List Nd)},PJ f 0 0 [] l d=some r→Rd w c l d→Calls Tryz.prog 161 #[.pointer (some ⟨c.g,0,none⟩)] w fun e w'=>NdP c w d r e w') (hJ:PJ (f+1) 8 0 [] l d=some r) (h:Rd w c l d) :
  Calls Tryz.prog 199 #[.pointer (some ⟨c.g,0,none⟩)] w fun e w'=>NdP c w d r e w':=by
 have S1:=hZ (St.start h 28 #[.int .i64 0,.string ⟨#[]⟩,.int .i64 0,.int .i64 0,.string ⟨#[]⟩,.slice none 0 0,.slice none 0 0,.bool false,.slice none 0 0,.int .i64 0])
 obtain⟨w1,hw1⟩:=eX (w.alloc (.cells #[.int .i64 0,.string ⟨#[]⟩,.int .i64 0,.int .i64 0,.string ⟨#[]⟩,.slice none 0 0,.slice none 0 0,.bool false,.slice none 0 0,.int .i64 0] 28))
 rw [hw1] at S1
 obtain⟨G,hG⟩:=eX (w.heap.size)
 have hgw:c.g<w.heap.size:=h.cells.2.2.2.2.2
 clear h
 go_enter Tryz.func199,Tryz.ntmps199
 have HJ0:=hZ (show jPair (PJ f) l d=some r from hJ)
 clear hJ
 obtain⟨⟨k,t,n,p⟩,ht⟩:∃t,hdT l=t:=⟨_,rfl⟩
 have HT:=hZ ht
 clear ht
 have HJ1:=hZ ((by have:=uZ HJ0;unfold jPair at this;rw [uZ HT] at this;exact this))
 clear HJ0
 have CC:=hZ ((by have:=token_any (uZ S1).rd;rw [uZ HT] at this;simp only [tkA] at this;exact this))
 go_wp2_with fail
 refine(uZ CC).mono ?_
 rintro e w2 ⟨rfl,b⟩
 have S2:=hZ ((uZ S1).below b)
 clear b CC S1
 go_upto_region 2 with fail
 obtain⟨w3,hw⟩:=eX (w2.alloc (.cells #[.int .i64 (k:Int),.string (bA t),.int .i64 (n:Int),.int .i64 (p:Int)] 85))
 have b:=alB hw
 obtain⟨Q,hQ⟩:=eX (w2.heap.size)
 have HBQ_3:Hid (w3.heap[Q]?=some (.cells #[.int .i64 (k:Int),.string (bA t),.int .i64 (n:Int),.int .i64 (p:Int)] 85 (0,0))):=hZ (by rw [←hw,←hQ];exact heap_alloc_new _ _)
 have S3:=hZ ((uZ S2).below b)
 have ltQ:w.heap.size<Q:=by rw [←hQ];exact(uZ S2).lt
 rw [hw]
 try rw [hQ]
 clear hw hQ b S2
 have htk:Hid (hdT l=⟨k,t,n,p⟩):=HT
 obtain⟨Qc0,Qc1,Qc2,Qc3⟩:=row_cell4 (uZ HBQ_3)
 have hbs:((bA t).size:Int)=(t.length:Int):=by rw [bA_size]
 by_cases hc:¬k=1∧(¬k=4∨32<t.length)
 ·have HR:=hZ (show r=.error (170,p) by have:=uZ HJ1;rw [if_pos hc] at this;cases this;rfl)
  have h11:¬(k:Int)=1:=by omega
  have h12:((k:Int) == 1)=false:=by simpa using h11
  by_cases h4:¬k=4
  ·have h41:¬(k:Int)=4:=by omega
   have h42:((k:Int) == 4)=false:=by simpa using h41
   have CC:=hZ (by have:=refuse_any (uZ S3).rd;rw [uZ HT] at this;exact this)
   go_wp2_with fail
   refine(uZ CC).mono ?_
   rintro e wx ⟨rfl,b⟩
   have HX:=hZ ((uZ S3).bad (Beside.of_below b))
   clear b CC
   unfold fltP
   go_wp2_with fail
   exact⟨rfl,by rw [uZ HR];exact⟨rfl,uZ HX⟩⟩
  ·obtain rfl:k=4:=by omega
   have hln:¬((t.length:Int)≤32):=by omega
   have hln2:(32:Int)<(t.length:Int):=by omega
   have CC:=hZ (by have:=refuse_any (uZ S3).rd;rw [uZ HT] at this;exact this)
   go_wp2_with fail
   refine(uZ CC).mono ?_
   rintro e wx ⟨rfl,b⟩
   have HX:=hZ ((uZ S3).bad (Beside.of_below b))
   clear b CC
   unfold fltP
   go_wp2_with fail
   exact⟨rfl,by rw [uZ HR];exact⟨rfl,uZ HX⟩⟩
 ·have HJ2:=hZ (by have:=uZ HJ1;rw [if_neg hc] at this;exact this)
  clear HJ1
  by_cases h1:k=1
  ·subst h1
   have hkz:¬(1:Nat)=0:=by decide
   have hk0:¬(hdT l).k=0:=by rw [uZ HT];exact hkz
   have HK0:=hZ hk0
   clear hk0
   go_upto_region 4 with fail
   clear Qc0 Qc1 Qc2 Qc3
   have CC:=hZ ((by have:=pass_any (uZ S3).rd (uZ HK0);rw [uZ HT] at this;simp only [tkA] at this;exact this))
   go_wp2_with fail
   refine(uZ CC).mono ?_
   rintro e w4 ⟨rfl,r2,b⟩
   have S4:=hZ ((uZ S3).go b r2)
   have HBQ_4:=bx_go HBQ_3 b (by omega)
   clear b r2 CC S3 HBQ_3
   by_cases hb:isS [58] l.tail=true
   ·have hq:isS [58] l.tail=true:=by simpa using hb
    have HJ3:=hZ (thn_sg hq (uZ HJ2))
    clear HJ2
    have CC:=hZ (psg_ok (uZ S4).rd [58] hq)
    go_wp2_with fail
    refine(uZ CC).mono ?_
    rintro e w5 ⟨rfl,r2,b⟩
    have S5:=hZ ((uZ S4).go b r2)
    have HBQ_5:=bx_go HBQ_4 b (by omega)
    clear b r2 CC S4 HBQ_4
    go_upto_region 6 with fail
    obtain⟨-,Qc1,-,Qc3⟩:=row_cell4 (uZ HBQ_5)
    have HS0:Hid (w5.drew.cell? ⟨Q,1,none⟩=some (.string (bA t))∧w5.drew.cell? ⟨Q,3,none⟩=some (.int .i64 (p:Int))):=hZ (⟨Qc1,Qc3⟩)
    refine till_begin (S:=fun w'=>w'.cell? ⟨Q,1,none⟩=some (.string (bA t))∧w'.cell? ⟨Q,3,none⟩=some (.int .i64 (p:Int))) 8 (by kernel_rfl) ?_
    obtain⟨w6,hWD⟩:=eX (w5.drew)
    have bD:Below w5.heap.size w5 w6:=by rw [←hWD];exact(Below.refl _ _).drew
    rw [hWD] at HS0
    rw [hWD]
    have S6:=hZ ((uZ S5).below bD)
    have HBQ_6:=bx_be HBQ_5 bD
    clear hWD bD S5 HBQ_5
    clear Qc1 Qc3
    refine tK 0 (v:=.pointer (some ⟨Q,1,none⟩)) (some 26) rfl rfl rfl (by kernel_rfl) (fun _ _ _ h=>h) (Or.inl ⟨by rfl,fun u hu=>by obtain⟨b0,b1⟩:=hu;go_simp⟩) (uZ HS0) ?_
    try simp only [Act.put,sA,sB,sC]
    refine tK 1 (v:=.string (bA t)) (some 27) rfl rfl rfl (by kernel_rfl) (fun _ _ _ h=>h) (Or.inl ⟨by rfl,fun u hu=>by obtain⟨b0,b1⟩:=hu;go_simp⟩) (uZ HS0) ?_
    try simp only [Act.put,sA,sB,sC]
    refine tK 2 (v:=.pointer (some ⟨c.g,0,none⟩)) (some 28) rfl rfl rfl (by kernel_rfl) (fun _ _ _ h=>h) (Or.inl ⟨by rfl,fun u hu=>by obtain⟨b0,b1⟩:=hu;go_simp⟩) (uZ HS0) ?_
    try simp only [Act.put,sA,sB,sC]
    refine tK 5 (v:=.pointer (some ⟨Q,3,none⟩)) (some 31) rfl rfl rfl (by kernel_rfl) (fun _ _ _ h=>h) (Or.inl ⟨by rfl,fun u hu=>by obtain⟨b0,b1⟩:=hu;go_simp⟩) (uZ HS0) ?_
    try simp only [Act.put,sA,sB,sC]
    refine tK 6 (v:=.int .i64 (p:Int)) (some 32) rfl rfl rfl (by kernel_rfl) (fun _ _ _ h=>h) (Or.inl ⟨by rfl,fun u hu=>by obtain⟨b0,b1⟩:=hu;go_simp⟩) (uZ HS0) ?_
    try simp only [Act.put,sA,sB,sC]
    obtain⟨yx,hy,hth⟩:=bnd_some (uZ HJ3)
    have HJ4:=hZ (hth)
    clear HJ3
    clear hth
    have CR:=hZ (ihe hy (uZ S6).rd)
    have HYX:=hZ hy
    clear hy
    rcases yx with ⟨ea,ep⟩|⟨nsx,lx⟩
    ·have HR:=hZ (thn_err (uZ HJ4))
     refine till_one 3 (by kernel_rfl) rfl (fun K hK=>?_)
     go_simp
     refine(uZ CR).mono ?_
     rintro e wx ⟨rfl,b⟩
     have HX:=hZ ((uZ S6).bad b)
     clear b CR
     unfold fltP
     go_wp2_with fail
     exact⟨rfl,by rw [uZ HR];exact⟨rfl,uZ HX⟩⟩
    ·have HJ5:=hZ (thn_ok (uZ HJ4))
     clear HJ4
     refine till_one 3 (by kernel_rfl) rfl (fun K hK=>?_)
     go_simp
     refine(uZ CR).mono ?_
     rintro e w7 ⟨kx,tx,vkx,vnx,vsx,fx,nx,akx,ckx,px,Zx,rfl,hlx,hn,r2,b⟩
     have S7:=hZ ((uZ S6).go b r2)
     have HBQ_7:=bx_go HBQ_6 b (by omega)
     obtain⟨lox,hlo⟩:=eX (w6.heap.size)
     have ltlox:w.heap.size<lox:=by rw [←hlo];exact(uZ S6).lt
     have lqQ_x:Q<lox:=by rw [←hlo];exact(Array.getElem?_eq_some_iff.1 (uZ HBQ_6)).1
     rw [hlo] at hn
     have HNx_7:=hZ hn
     clear hlo b r2 hn CR S6 HBQ_6
     clear HS0
     have HS0:Hid (w7.cell? ⟨Q,1,none⟩=some (.string (bA t))∧w7.cell? ⟨Q,3,none⟩=some (.int .i64 (p:Int))):=hZ (by obtain⟨c0,c1,c2,c3⟩:=row_cell4 (uZ HBQ_7);exact⟨c1,c3⟩)
     go_wp2_with fail
     refine hK.out _ _ (Or.inr (uZ HS0)) ?_
     clear hK K
     try simp only [Act.put,sA,sB,sC]
     have hkn:=hZ (uZ HNx_7)
     obtain⟨w8,hwr⟩:=eX (w7.alloc (.cells #[.int .i64 (kx:Int),.string (bA tx),.int .i64 (vkx:Int),.int .i64 (vnx:Int),.string (bA vsx),.slice none 0 0,.slice none 0 0,.bool fx,.slice akx nx ckx,.int .i64 (px:Int)] 28))
     have b:=alB hwr
     obtain⟨qr,hqr⟩:=eX (w7.heap.size)
     have HKr_8:Hid (Kr lox w8 _ (.slice (some ⟨qr,0,none⟩) _ _) [.int .i64 (kx:Int),.string (bA tx),.int .i64 (vkx:Int),.int .i64 (vnx:Int),.string (bA vsx),.slice none 0 0,.slice none 0 0,.bool fx,.slice akx nx ckx,.int .i64 (px:Int)] _):=hZ (by rw [←hwr,←hqr];exact Kr.mk' (uZ hkn) (by rw [hlx];decide))
     rw [hlx] at HKr_8
     have ltr:w.heap.size<qr:=by rw [←hqr];exact(uZ S7).lt
     have S8:=hZ ((uZ S7).below b)
     have HBQ_8:=bx_be HBQ_7 b
     clear b hkn S7 HBQ_7 HNx_7
     refine till_one 4 (by kernel_rfl) rfl (fun K hK=>?_)
     go_simp
     try rw [hwr]
     try rw [hqr]
     clear HS0
     have HS0:Hid (w8.cell? ⟨Q,1,none⟩=some (.string (bA t))∧w8.cell? ⟨Q,3,none⟩=some (.int .i64 (p:Int))):=hZ (by obtain⟨c0,c1,c2,c3⟩:=row_cell4 (uZ HBQ_8);exact⟨c1,c3⟩)
     refine hK.out _ _ (Or.inr (uZ HS0)) ?_
     clear hK K hwr hqr
     try simp only [Act.put,sA,sB,sC]
     refine tK 7 (v:=.agg #[.int .i64 20,.string (bA t),.int .i64 0,.int .i64 0,.string ⟨#[]⟩,.slice none 0 0,.slice none 0 0,.bool false,.slice (some ⟨qr,0,none⟩) 1 1,.int .i64 (p:Int)]) (some 33) rfl rfl rfl (by kernel_rfl) (fun _ _ _ h=>h) (Or.inl ⟨by rfl,fun u hu=>by obtain⟨b0,b1⟩:=hu;go_simp⟩) (uZ HS0) ?_
     try simp only [Act.put,sA,sB,sC]
     have hr1:=okN_some (uZ HJ5)
     have hnn:=(uZ HKr_8).node' hlx 20 t 0 0 [] false p
     have HR:=hZ (hr1)
     have BX:=(uZ S8).bx
     rw [hG] at BX
     have FF:=hZ (St.done (uZ S8) (hnn.low (by omega)) rfl hG)
     refine till_one 8 (by kernel_rfl) rfl (fun K hK=>?_)
     obtain⟨g0,g1,g2,g3,g4,g5,g6,g7,g8,g9⟩:=row_cell10 BX
     obtain⟨z0,z1,z2,z3,z4,z5,z6,z7,z8,z9⟩:=frozen10 BX
     go_simp
     refine hK.out _ _ (Or.inl (by first|rfl|trivial)) ?_
     clear hK K BX g0 z0 g1 z1 g2 z2 g3 z3 g4 z4 g5 z5 g6 z6 g7 z7 g8 z8 g9 z9
     try simp only [Act.put,sA,sB,sC]
     refine till_done (by kernel_rfl) ?_ _
     go_wp2_with fail
     refine rtN (p:=2) rfl rfl (uZ FF).1 rfl rfl ?_
     rw [uZ HR]
     exact(uZ FF).2
   ·have hq:isS [58] l.tail=false:=by simpa using hb
    have CC:=hZ (psg_bad (uZ S4).rd [58] hq)
    have HR:=hZ (thn_sgb hq (uZ HJ2))
    go_wp2_with fail
    refine(uZ CC).mono ?_
    rintro e wx ⟨rfl,b⟩
    have HX:=hZ ((uZ S4).bad b)
    clear b CC
    unfold fltP
    go_wp2_with fail
    exact⟨rfl,by rw [uZ HR];exact⟨rfl,uZ HX⟩⟩
  ·obtain rfl:k=4:=by omega
   have hkz:¬(4:Nat)=0:=by decide
   have hln:(t.length:Int)≤32:=by omega
   have hk0:¬(hdT l).k=0:=by rw [uZ HT];exact hkz
   have HK0:=hZ hk0
   clear hk0
   go_upto_region 4 with fail
   clear Qc0 Qc1 Qc2 Qc3
   have CC:=hZ ((by have:=pass_any (uZ S3).rd (uZ HK0);rw [uZ HT] at this;simp only [tkA] at this;exact this))
   go_wp2_with fail
   refine(uZ CC).mono ?_
   rintro e w4 ⟨rfl,r2,b⟩
   have S4:=hZ ((uZ S3).go b r2)
   have HBQ_4:=bx_go HBQ_3 b (by omega)
   clear b r2 CC S3 HBQ_3
   by_cases hb:isS [58] l.tail=true
   ·have hq:isS [58] l.tail=true:=by simpa using hb
    have HJ3:=hZ (thn_sg hq (uZ HJ2))
    clear HJ2
    have CC:=hZ (psg_ok (uZ S4).rd [58] hq)
    go_wp2_with fail
    refine(uZ CC).mono ?_
    rintro e w5 ⟨rfl,r2,b⟩
    have S5:=hZ ((uZ S4).go b r2)
    have HBQ_5:=bx_go HBQ_4 b (by omega)
    clear b r2 CC S4 HBQ_4
    go_upto_region 6 with fail
    obtain⟨-,Qc1,-,Qc3⟩:=row_cell4 (uZ HBQ_5)
    have HS0:Hid (w5.drew.cell? ⟨Q,1,none⟩=some (.string (bA t))∧w5.drew.cell? ⟨Q,3,none⟩=some (.int .i64 (p:Int))):=hZ (⟨Qc1,Qc3⟩)
    refine till_begin (S:=fun w'=>w'.cell? ⟨Q,1,none⟩=some (.string (bA t))∧w'.cell? ⟨Q,3,none⟩=some (.int .i64 (p:Int))) 8 (by kernel_rfl) ?_
    obtain⟨w6,hWD⟩:=eX (w5.drew)
    have bD:Below w5.heap.size w5 w6:=by rw [←hWD];exact(Below.refl _ _).drew
    rw [hWD] at HS0
    rw [hWD]
    have S6:=hZ ((uZ S5).below bD)
    have HBQ_6:=bx_be HBQ_5 bD
    clear hWD bD S5 HBQ_5
    clear Qc1 Qc3
    refine tK 0 (v:=.pointer (some ⟨Q,1,none⟩)) (some 26) rfl rfl rfl (by kernel_rfl) (fun _ _ _ h=>h) (Or.inl ⟨by rfl,fun u hu=>by obtain⟨b0,b1⟩:=hu;go_simp⟩) (uZ HS0) ?_
    try simp only [Act.put,sA,sB,sC]
    refine tK 1 (v:=.string (bA t)) (some 27) rfl rfl rfl (by kernel_rfl) (fun _ _ _ h=>h) (Or.inl ⟨by rfl,fun u hu=>by obtain⟨b0,b1⟩:=hu;go_simp⟩) (uZ HS0) ?_
    try simp only [Act.put,sA,sB,sC]
    refine tK 2 (v:=.pointer (some ⟨c.g,0,none⟩)) (some 28) rfl rfl rfl (by kernel_rfl) (fun _ _ _ h=>h) (Or.inl ⟨by rfl,fun u hu=>by obtain⟨b0,b1⟩:=hu;go_simp⟩) (uZ HS0) ?_
    try simp only [Act.put,sA,sB,sC]
    refine tK 5 (v:=.pointer (some ⟨Q,3,none⟩)) (some 31) rfl rfl rfl (by kernel_rfl) (fun _ _ _ h=>h) (Or.inl ⟨by rfl,fun u hu=>by obtain⟨b0,b1⟩:=hu;go_simp⟩) (uZ HS0) ?_
    try simp only [Act.put,sA,sB,sC]
    refine tK 6 (v:=.int .i64 (p:Int)) (some 32) rfl rfl rfl (by kernel_rfl) (fun _ _ _ h=>h) (Or.inl ⟨by rfl,fun u hu=>by obtain⟨b0,b1⟩:=hu;go_simp⟩) (uZ HS0) ?_
    try simp only [Act.put,sA,sB,sC]
    obtain⟨yx,hy,hth⟩:=bnd_some (uZ HJ3)
    have HJ4:=hZ (hth)
    clear HJ3
    clear hth
    have CR:=hZ (ihe hy (uZ S6).rd)
    have HYX:=hZ hy
    clear hy
    rcases yx with ⟨ea,ep⟩|⟨nsx,lx⟩
    ·have HR:=hZ (thn_err (uZ HJ4))
     refine till_one 3 (by kernel_rfl) rfl (fun K hK=>?_)
     go_simp
     refine(uZ CR).mono ?_
     rintro e wx ⟨rfl,b⟩
     have HX:=hZ ((uZ S6).bad b)
     clear b CR
     unfold fltP
     go_wp2_with fail
     exact⟨rfl,by rw [uZ HR];exact⟨rfl,uZ HX⟩⟩
    ·have HJ5:=hZ (thn_ok (uZ HJ4))
     clear HJ4
     refine till_one 3 (by kernel_rfl) rfl (fun K hK=>?_)
     go_simp
     refine(uZ CR).mono ?_
     rintro e w7 ⟨kx,tx,vkx,vnx,vsx,fx,nx,akx,ckx,px,Zx,rfl,hlx,hn,r2,b⟩
     have S7:=hZ ((uZ S6).go b r2)
     have HBQ_7:=bx_go HBQ_6 b (by omega)
     obtain⟨lox,hlo⟩:=eX (w6.heap.size)
     have ltlox:w.heap.size<lox:=by rw [←hlo];exact(uZ S6).lt
     have lqQ_x:Q<lox:=by rw [←hlo];exact(Array.getElem?_eq_some_iff.1 (uZ HBQ_6)).1
     rw [hlo] at hn
     have HNx_7:=hZ hn
     clear hlo b r2 hn CR S6 HBQ_6
     clear HS0
     have HS0:Hid (w7.cell? ⟨Q,1,none⟩=some (.string (bA t))∧w7.cell? ⟨Q,3,none⟩=some (.int .i64 (p:Int))):=hZ (by obtain⟨c0,c1,c2,c3⟩:=row_cell4 (uZ HBQ_7);exact⟨c1,c3⟩)
     go_wp2_with fail
     refine hK.out _ _ (Or.inr (uZ HS0)) ?_
     clear hK K
     try simp only [Act.put,sA,sB,sC]
     have hkn:=hZ (uZ HNx_7)
     obtain⟨w8,hwr⟩:=eX (w7.alloc (.cells #[.int .i64 (kx:Int),.string (bA tx),.int .i64 (vkx:Int),.int .i64 (vnx:Int),.string (bA vsx),.slice none 0 0,.slice none 0 0,.bool fx,.slice akx nx ckx,.int .i64 (px:Int)] 28))
     have b:=alB hwr
     obtain⟨qr,hqr⟩:=eX (w7.heap.size)
     have HKr_8:Hid (Kr lox w8 _ (.slice (some ⟨qr,0,none⟩) _ _) [.int .i64 (kx:Int),.string (bA tx),.int .i64 (vkx:Int),.int .i64 (vnx:Int),.string (bA vsx),.slice none 0 0,.slice none 0 0,.bool fx,.slice akx nx ckx,.int .i64 (px:Int)] _):=hZ (by rw [←hwr,←hqr];exact Kr.mk' (uZ hkn) (by rw [hlx];decide))
     rw [hlx] at HKr_8
     have ltr:w.heap.size<qr:=by rw [←hqr];exact(uZ S7).lt
     have S8:=hZ ((uZ S7).below b)
     have HBQ_8:=bx_be HBQ_7 b
     clear b hkn S7 HBQ_7 HNx_7
     refine till_one 4 (by kernel_rfl) rfl (fun K hK=>?_)
     go_simp
     try rw [hwr]
     try rw [hqr]
     clear HS0
     have HS0:Hid (w8.cell? ⟨Q,1,none⟩=some (.string (bA t))∧w8.cell? ⟨Q,3,none⟩=some (.int .i64 (p:Int))):=hZ (by obtain⟨c0,c1,c2,c3⟩:=row_cell4 (uZ HBQ_8);exact⟨c1,c3⟩)
     refine hK.out _ _ (Or.inr (uZ HS0)) ?_
     clear hK K hwr hqr
     try simp only [Act.put,sA,sB,sC]
     refine tK 7 (v:=.agg #[.int .i64 20,.string (bA t),.int .i64 0,.int .i64 0,.string ⟨#[]⟩,.slice none 0 0,.slice none 0 0,.bool false,.slice (some ⟨qr,0,none⟩) 1 1,.int .i64 (p:Int)]) (some 33) rfl rfl rfl (by kernel_rfl) (fun _ _ _ h=>h) (Or.inl ⟨by rfl,fun u hu=>by obtain⟨b0,b1⟩:=hu;go_simp⟩) (uZ HS0) ?_
     try simp only [Act.put,sA,sB,sC]
     have hr1:=okN_some (uZ HJ5)
     have hnn:=(uZ HKr_8).node' hlx 20 t 0 0 [] false p
     have HR:=hZ (hr1)
     have BX:=(uZ S8).bx
     rw [hG] at BX
     have FF:=hZ (St.done (uZ S8) (hnn.low (by omega)) rfl hG)
     refine till_one 8 (by kernel_rfl) rfl (fun K hK=>?_)
     obtain⟨g0,g1,g2,g3,g4,g5,g6,g7,g8,g9⟩:=row_cell10 BX
     obtain⟨z0,z1,z2,z3,z4,z5,z6,z7,z8,z9⟩:=frozen10 BX
     go_simp
     refine hK.out _ _ (Or.inl (by first|rfl|trivial)) ?_
     clear hK K BX g0 z0 g1 z1 g2 z2 g3 z3 g4 z4 g5 z5 g6 z6 g7 z7 g8 z8 g9 z9
     try simp only [Act.put,sA,sB,sC]
     refine till_done (by kernel_rfl) ?_ _
     go_wp2_with fail
     refine rtN (p:=2) rfl rfl (uZ FF).1 rfl rfl ?_
     rw [uZ HR]
     exact(uZ FF).2
   ·have hq:isS [58] l.tail=false:=by simpa using hb
    have CC:=hZ (psg_bad (uZ S4).rd [58] hq)
    have HR:=hZ (thn_sgb hq (uZ HJ2))
    go_wp2_with fail
    refine(uZ CC).mono ?_
    rintro e wx ⟨rfl,b⟩
    have HX:=hZ ((uZ S4).bad b)
    clear b CC
    unfold fltP
    go_wp2_with fail
    exact⟨rfl,by rw [uZ HR];exact⟨rfl,uZ HX⟩⟩
end Go.Proofs.YtjdpaihhhjdgmaaGreatDoor
