/-
  Layer 17 (parse): literals, operands; conditions: the reader's state.
  Layer 17 (parse): operands; conditions: the reader's state.
-/
import Derived.Test.YtjdpaihhhjdgmaaGreatDoorA39
set_option linter.unusedVariables false
set_option linter.unusedSimpArgs false
set_option maxRecDepth 100000
set_option maxHeartbeats 8000000
namespace Go.Proofs.YtjdpaihhhjdgmaaGreatDoor
open Go.RowKit
set_option linter.unusedVariables false
set_option linter.unusedSimpArgs false
theorem NdP.from {c:Cx} {w w0 u:World} {d:Nat} {r:Rs (List Nd)} {e:Ending} (b:Below w0.heap.size w0 w) (h:NdP c w d r e u):NdP c w0 d r e u:=by
 rcases r with ⟨a,p⟩|⟨ns,l⟩
 ·exact⟨h.1,(Beside.of_below b).trans h.2⟩
 ·obtain⟨k,t,vk,vn,vs,f,n,ak,ck,p,S,h1,h2,h3,h4,h5⟩:=h
  exact⟨k,t,vk,vn,vs,f,n,ak,ck,p,S,h1,h2,h3.low b.size,h4,(Beside.of_below b).trans h5⟩
theorem row_cell5 {w:World} {g:Nat} {x0 x1 x2 x3 x4:Value} {T:TypeId} (h:w.heap[g]?=some (.cells #[x0,x1,x2,x3,x4] T (0,0))) :
  w.cell? ⟨g,0,none⟩=some x0∧w.cell? ⟨g,1,none⟩=some x1∧w.cell? ⟨g,2,none⟩=some x2∧w.cell? ⟨g,3,none⟩=some x3∧w.cell? ⟨g,4,none⟩=some x4:=
 ⟨by rw [cell_of_row w g 0 _ _ (0,0) h];rfl,by rw [cell_of_row w g 1 _ _ (0,0) h];rfl,by rw [cell_of_row w g 2 _ _ (0,0) h];rfl,by rw [cell_of_row w g 3 _ _ (0,0) h];rfl,by rw [cell_of_row w g 4 _ _ (0,0) h];rfl⟩
theorem lit_any {c:Cx} {l:List Tk} {d:Nat} {wz:World} (hz:Rd wz c l d) (hk0:¬(hdT l).k=0) (vk vn:Nat) (vs:List UInt8) :
  Calls Tryz.prog 197 #[.pointer (some ⟨c.g,0,none⟩),.agg #[.int .i64 (vk:Int),.int .i64 (vn:Int),.string (bA vs),.slice none 0 0,.slice none 0 0]] wz fun e w'=>NdP c wz d (.ok ([⟨13,[],vk,vn,vs,false,[],(hdT l).p⟩],l.tail)) e w':=by
 obtain⟨r,hr⟩:∃r:Rs (List Nd),r=.ok ([⟨13,[],vk,vn,vs,false,[],(hdT l).p⟩],l.tail):=⟨_,rfl⟩
 rw [←hr]
 obtain⟨w,hw0⟩:=eX (wz.alloc (.cells #[.int .i64 (vk:Int),.int .i64 (vn:Int),.string (bA vs),.slice none 0 0,.slice none 0 0] 25))
 have b0:=alB hw0
 obtain⟨V,hV⟩:=eX (wz.heap.size)
 have hVl:V<w.heap.size:=by rw [←hV,←hw0];simp
 have HB0:Hid (w.heap[V]?=some (.cells #[.int .i64 (vk:Int),.int .i64 (vn:Int),.string (bA vs),.slice none 0 0,.slice none 0 0] 25 (0,0))):=hZ (by rw [←hw0,←hV];exact heap_alloc_new _ _)
 have h:=hz.below b0
 have S1:=hZ (St.start h 28 #[.int .i64 0,.string ⟨#[]⟩,.int .i64 0,.int .i64 0,.string ⟨#[]⟩,.slice none 0 0,.slice none 0 0,.bool false,.slice none 0 0,.int .i64 0])
 obtain⟨w1,hw1⟩:=eX (w.alloc (.cells #[.int .i64 0,.string ⟨#[]⟩,.int .i64 0,.int .i64 0,.string ⟨#[]⟩,.slice none 0 0,.slice none 0 0,.bool false,.slice none 0 0,.int .i64 0] 28))
 rw [hw1] at S1
 obtain⟨G,hG⟩:=eX (w.heap.size)
 have hgw:c.g<w.heap.size:=h.cells.2.2.2.2.2
 have b1:=alB hw1
 have HBV_1:=bx_be HB0 b1
 have hgV:c.g<V:=by rw [←hV];exact hz.cells.2.2.2.2.2
 have BZ:=hZ b0
 have HK0:=hZ hk0
 obtain⟨⟨k,t,n,p⟩,ht⟩:∃t,hdT l=t:=⟨_,rfl⟩
 have HT:=hZ ht
 rw [ht] at hr
 have HRR:=hZ hr
 clear h hz hk0 b0 b1 HB0 ht hr
 go_enter Tryz.func197,Tryz.ntmps197
 go_upto_region 1 with fail
 obtain⟨v0,v1,v2,v3,v4⟩:=row_cell5 (uZ HBV_1)
 have HS0:Hid (w1.drew.cell? ⟨V,0,none⟩=some (.int .i64 (vk:Int))∧w1.drew.cell? ⟨V,1,none⟩=some (.int .i64 (vn:Int))∧w1.drew.cell? ⟨V,2,none⟩=some (.string (bA vs))∧w1.drew.cell? ⟨V,3,none⟩=some (.slice none 0 0)∧w1.drew.cell? ⟨V,4,none⟩=some (.slice none 0 0)):=hZ (⟨v0,v1,v2,v3,v4⟩)
 refine till_begin (S:=fun w'=>w'.cell? ⟨V,0,none⟩=some (.int .i64 (vk:Int))∧w'.cell? ⟨V,1,none⟩=some (.int .i64 (vn:Int))∧w'.cell? ⟨V,2,none⟩=some (.string (bA vs))∧w'.cell? ⟨V,3,none⟩=some (.slice none 0 0)∧w'.cell? ⟨V,4,none⟩=some (.slice none 0 0)) 5 (by kernel_rfl) ?_
 obtain⟨w2,hWD⟩:=eX (w1.drew)
 have bD:Below w1.heap.size w1 w2:=by rw [←hWD];exact(Below.refl _ _).drew
 rw [hWD] at HS0
 rw [hWD]
 have S2:=hZ ((uZ S1).below bD)
 have HBV_2:=bx_be HBV_1 bD
 clear hWD bD S1 HBV_1
 clear v0 v1 v2 v3 v4
 refine tK 0 (v:=.agg #[.int .i64 (vk:Int),.int .i64 (vn:Int),.string (bA vs),.slice none 0 0,.slice none 0 0]) (some 5) rfl rfl rfl (by kernel_rfl) (fun _ _ _ h=>h) (Or.inl ⟨by rfl,fun u hu=>by obtain⟨b0,b1,b2,b3,b4⟩:=hu;go_simp⟩) (uZ HS0) ?_
 try simp only [Act.put,sA,sB,sC]
 refine tK 1 (v:=.pointer (some ⟨c.g,0,none⟩)) (some 6) rfl rfl rfl (by kernel_rfl) (fun _ _ _ h=>h) (Or.inl ⟨by rfl,fun u hu=>by obtain⟨b0,b1,b2,b3,b4⟩:=hu;go_simp⟩) (uZ HS0) ?_
 try simp only [Act.put,sA,sB,sC]
 have CC:=hZ (by have:=pass_any (uZ S2).rd (uZ HK0);rw [uZ HT] at this;simp only [tkA] at this;exact this)
 refine till_one 2 (by kernel_rfl) rfl (fun K hK=>?_)
 go_simp
 refine(uZ CC).mono ?_
 rintro e w3 ⟨rfl,r2,b⟩
 have S3:=hZ ((uZ S2).go b r2)
 have HBV_3:=bx_go HBV_2 b (by omega)
 clear b r2 CC HS0 S2 HBV_2
 have HS0:Hid (w3.cell? ⟨V,0,none⟩=some (.int .i64 (vk:Int))∧w3.cell? ⟨V,1,none⟩=some (.int .i64 (vn:Int))∧w3.cell? ⟨V,2,none⟩=some (.string (bA vs))∧w3.cell? ⟨V,3,none⟩=some (.slice none 0 0)∧w3.cell? ⟨V,4,none⟩=some (.slice none 0 0)):=hZ (by exact row_cell5 (uZ HBV_3))
 go_wp2_with fail
 refine hK.out _ _ (Or.inr (uZ HS0)) ?_
 clear hK K
 try simp only [Act.put,sA,sB,sC]
 refine till_one 3 (by kernel_rfl) rfl (fun K hK=>?_)
 refine step_tk3 rfl _ rfl _ _ _ _ rfl ?_
 refine hK.out _ _ (Or.inr (uZ HS0)) ?_
 clear hK K
 try simp only [Act.put,sA,sB,sC]
 refine tK 4 (v:=.agg #[.int .i64 13,.string ⟨#[]⟩,.int .i64 (vk:Int),.int .i64 (vn:Int),.string (bA vs),.slice none 0 0,.slice none 0 0,.bool false,.slice none 0 0,.int .i64 (p:Int)]) (some 9) rfl rfl rfl (by kernel_rfl) (fun _ _ _ h=>h) (Or.inl ⟨by rfl,fun u hu=>by obtain⟨b0,b1,b2,b3,b4⟩:=hu;go_simp⟩) (uZ HS0) ?_
 try simp only [Act.put,sA,sB,sC]
 have hnn:=NdOk.leaf (lo:=w.heap.size+1) (w:=w3) (uZ S3).lt 13 [] vk vn vs false p
 have BX:=(uZ S3).bx
 rw [hG] at BX
 have FF:=hZ (St.done (uZ S3) hnn rfl hG)
 refine till_one 5 (by kernel_rfl) rfl (fun K hK=>?_)
 obtain⟨g0,g1,g2,g3,g4,g5,g6,g7,g8,g9⟩:=row_cell10 BX
 obtain⟨z0,z1,z2,z3,z4,z5,z6,z7,z8,z9⟩:=frozen10 BX
 go_simp
 refine hK.out _ _ (Or.inl (by first|rfl|trivial)) ?_
 clear hK K BX g0 z0 g1 z1 g2 z2 g3 z3 g4 z4 g5 z5 g6 z6 g7 z7 g8 z8 g9 z9
 try simp only [Act.put,sA,sB,sC]
 refine till_done (by kernel_rfl) ?_ _
 go_wp2_with fail
 refine rtN (p:=4) rfl rfl (uZ FF).1 rfl rfl ?_
 rw [uZ HRR]
 exact NdP.from (uZ BZ) (uZ FF).2
theorem operand_step {c:Cx} {l:List Tk} {d:Nat} {w:World} {r:Rs (List Nd)} {f:Nat} (ihn:∀{c:Cx} {l:List Tk} {d:Nat} {w:World} {r:Rs (List Nd)},PJ f 21 0 [] l d=some r→Rd w c l d→Calls Tryz.prog 196 #[.pointer (some ⟨c.g,0,none⟩)] w fun e w'=>NdP c w d r e w') (ihl:∀{c:Cx} {l:List Tk} {d:Nat} {w:World} {r:Rs (List Nd)},PJ f 22 2 [] l d=some r→Rd w c l d→Calls Tryz.prog 198 #[.pointer (some ⟨c.g,0,none⟩),.int .i64 18,.string (bA [91]),.string (bA [93]),.func (Fn.func 161) #[.pointer (some ⟨c.g,0,none⟩)] #[]] w fun e w'=>NdP c w d r e w') (ihr:∀{c:Cx} {l:List Tk} {d:Nat} {w:World} {r:Rs (List Nd)},PJ f 22 3 [] l d=some r→Rd w c l d→Calls Tryz.prog 198 #[.pointer (some ⟨c.g,0,none⟩),.int .i64 19,.string (bA [123]),.string (bA [125]),.func (Fn.func 199) #[.pointer (some ⟨c.g,0,none⟩)] #[]] w fun e w'=>NdP c w d r e w') (ihg:∀{c:Cx} {l:List Tk} {d:Nat} {w:World} {r:Rs (List Nd)},PJ f 23 0 [] l d=some r→Rd w c l d→Calls Tryz.prog 200 #[.pointer (some ⟨c.g,0,none⟩)] w fun e w'=>NdP c w d r e w') (hJ:PJ (f+1) 5 0 [] l d=some r) (h:Rd w c l d) :
  Calls Tryz.prog 195 #[.pointer (some ⟨c.g,0,none⟩)] w fun e w'=>NdP c w d r e w':=by
 have S1:=hZ (St.start h 28 #[.int .i64 0,.string ⟨#[]⟩,.int .i64 0,.int .i64 0,.string ⟨#[]⟩,.slice none 0 0,.slice none 0 0,.bool false,.slice none 0 0,.int .i64 0])
 obtain⟨w1,hw1⟩:=eX (w.alloc (.cells #[.int .i64 0,.string ⟨#[]⟩,.int .i64 0,.int .i64 0,.string ⟨#[]⟩,.slice none 0 0,.slice none 0 0,.bool false,.slice none 0 0,.int .i64 0] 28))
 rw [hw1] at S1
 obtain⟨G,hG⟩:=eX (w.heap.size)
 have hgw:c.g<w.heap.size:=h.cells.2.2.2.2.2
 clear h
 go_enter Tryz.func195,Tryz.ntmps195
 have HJ0:=hZ (show jOperand (PJ f) l d=some r from hJ)
 clear hJ
 obtain⟨⟨k,t,n,p⟩,ht⟩:∃t,hdT l=t:=⟨_,rfl⟩
 have HT:=hZ ht
 clear ht
 have HJ1:=hZ ((by have:=uZ HJ0;unfold jOperand at this;rw [uZ HT] at this;exact this))
 clear HJ0
 have CC:=hZ ((by have:=token_any (uZ S1).rd;rw [uZ HT] at this;simp only [tkA] at this;exact this))
 go_wp2_with fail
 refine(uZ CC).mono ?_
 rintro e w2 ⟨rfl,b⟩
 have S2:=hZ ((uZ S1).below b)
 clear b CC S1
 go_upto_region 2 with fail
 obtain⟨w3,hw⟩:=eX (w2.alloc (.cells #[.int .i64 (k:Int),.string (bA t),.int .i64 (n:Int),.int .i64 (p:Int)] 85))
 have b:=alB hw
 obtain⟨Q,hQ⟩:=eX (w2.heap.size)
 have HBQ_3:Hid (w3.heap[Q]?=some (.cells #[.int .i64 (k:Int),.string (bA t),.int .i64 (n:Int),.int .i64 (p:Int)] 85 (0,0))):=hZ (by rw [←hw,←hQ];exact heap_alloc_new _ _)
 have S3:=hZ ((uZ S2).below b)
 have ltQ:w.heap.size<Q:=by rw [←hQ];exact(uZ S2).lt
 rw [hw]
 try rw [hQ]
 clear hw hQ b S2
 by_cases h1:k=1
 ·obtain⟨Qc0,Qc1,Qc2,Qc3⟩:=row_cell4 (uZ HBQ_3)
  have HJ2:=hZ ((by have:=(uZ HJ1);rw [if_pos h1] at this;exact this))
  clear HJ1
  subst h1
  have CR:=hZ (ihn (uZ HJ2) (uZ S3).rd)
  obtain⟨y,hyr⟩:=eX r
  have HR:=hZ hyr
  rw [hyr] at CR
  clear hyr
  rcases y with ⟨ea,ep⟩|⟨nsx,lx⟩
  ·go_wp2_with fail
   refine(uZ CR).mono ?_
   rintro e wx ⟨rfl,b⟩
   have HX:=hZ ((uZ S3).bad b)
   clear b CR
   unfold fltP
   go_wp2_with fail
   exact⟨rfl,by rw [uZ HR];exact⟨rfl,uZ HX⟩⟩
  ·go_wp2_with fail
   refine(uZ CR).mono ?_
   rintro e w4 ⟨kx,tx,vkx,vnx,vsx,fx,nx,akx,ckx,px,Zx,rfl,hlx,hn,r2,b⟩
   have S4:=hZ ((uZ S3).go b r2)
   have HNx_4:=hZ (hn.low (lo':=w.heap.size+1) (uZ S3).lt)
   clear b r2 hn CR S3
   have HR:=hZ (uZ HR)
   have BX:=(uZ S4).bx
   rw [hG] at BX
   obtain⟨g0,g1,g2,g3,g4,g5,g6,g7,g8,g9⟩:=row_cell10 BX
   obtain⟨z0,z1,z2,z3,z4,z5,z6,z7,z8,z9⟩:=frozen10 BX
   clear BX
   have FF:=hZ (St.done (uZ S4) (uZ HNx_4) hlx hG)
   go_wp2_with fail
   refine rtN (p:=2) rfl rfl (uZ FF).1 rfl rfl ?_
   rw [uZ HR]
   exact(uZ FF).2
 ·have h11:¬(k:Int)=1:=by omega
  have h12:((k:Int) == 1)=false:=by simpa using h11
  have HJ2:=hZ ((by have:=(uZ HJ1);rw [if_neg h1] at this;exact this))
  clear HJ1
  by_cases h3:k=3
  ·obtain⟨Qc0,Qc1,Qc2,Qc3⟩:=row_cell4 (uZ HBQ_3)
   have HJ3:=hZ ((by have:=(uZ HJ2);rw [if_pos h3] at this;exact this))
   clear HJ2
   subst h3
   have HR0:=hZ (by have:=okN_some (uZ HJ3);rw [uZ HT] at this;exact this)
   have CR:=hZ (by have:=lit_any (uZ S3).rd (by rw [uZ HT];show ¬(3:Nat)=0;decide) 2 n [];rw [uZ HT] at this;exact this)
   go_wp2_with fail
   refine(uZ CR).mono ?_
   rintro e w4 ⟨kx,tx,vkx,vnx,vsx,fx,nx,akx,ckx,px,Zx,rfl,hlx,hn,r2,b⟩
   have S4:=hZ ((uZ S3).go b r2)
   have HNx_4:=hZ (hn.low (lo':=w.heap.size+1) (uZ S3).lt)
   clear b r2 hn CR S3
   have HR:=hZ (uZ HR0)
   have BX:=(uZ S4).bx
   rw [hG] at BX
   obtain⟨g0,g1,g2,g3,g4,g5,g6,g7,g8,g9⟩:=row_cell10 BX
   obtain⟨z0,z1,z2,z3,z4,z5,z6,z7,z8,z9⟩:=frozen10 BX
   clear BX
   have FF:=hZ (St.done (uZ S4) (uZ HNx_4) rfl hG)
   go_wp2_with fail
   refine rtN (p:=2) rfl rfl (uZ FF).1 rfl rfl ?_
   rw [uZ HR]
   exact(uZ FF).2
  ·have h31:¬(k:Int)=3:=by omega
   have h32:((k:Int) == 3)=false:=by simpa using h31
   have HJ3:=hZ ((by have:=(uZ HJ2);rw [if_neg h3] at this;exact this))
   clear HJ2
   by_cases h4:k=4
   ·obtain⟨Qc0,Qc1,Qc2,Qc3⟩:=row_cell4 (uZ HBQ_3)
    have HJ4:=hZ ((by have:=(uZ HJ3);rw [if_pos h4] at this;exact this))
    clear HJ3
    subst h4
    have HR0:=hZ (by have:=okN_some (uZ HJ4);rw [uZ HT] at this;exact this)
    have CR:=hZ (by have:=lit_any (uZ S3).rd (by rw [uZ HT];show ¬(4:Nat)=0;decide) 3 0 t;rw [uZ HT] at this;exact this)
    go_wp2_with fail
    refine(uZ CR).mono ?_
    rintro e w4 ⟨kx,tx,vkx,vnx,vsx,fx,nx,akx,ckx,px,Zx,rfl,hlx,hn,r2,b⟩
    have S4:=hZ ((uZ S3).go b r2)
    have HNx_4:=hZ (hn.low (lo':=w.heap.size+1) (uZ S3).lt)
    clear b r2 hn CR S3
    have HR:=hZ (uZ HR0)
    have BX:=(uZ S4).bx
    rw [hG] at BX
    obtain⟨g0,g1,g2,g3,g4,g5,g6,g7,g8,g9⟩:=row_cell10 BX
    obtain⟨z0,z1,z2,z3,z4,z5,z6,z7,z8,z9⟩:=frozen10 BX
    clear BX
    have FF:=hZ (St.done (uZ S4) (uZ HNx_4) rfl hG)
    go_wp2_with fail
    refine rtN (p:=2) rfl rfl (uZ FF).1 rfl rfl ?_
    rw [uZ HR]
    exact(uZ FF).2
   ·have h41:¬(k:Int)=4:=by omega
    have h42:((k:Int) == 4)=false:=by simpa using h41
    have HJ4:=hZ ((by have:=(uZ HJ3);rw [if_neg h4] at this;exact this))
    clear HJ3
    obtain⟨Qc0,Qc1,Qc2,Qc3⟩:=row_cell4 (uZ HBQ_3)
    go_upto_region 9 with fail
    clear Qc0 Qc1 Qc2 Qc3
    by_cases hb:isK [116,114,117,101] l=true
    ·have hq:isK [116,114,117,101] l=true:=by simpa using hb
     have CC:=hZ ((by have:=seesKey_any (uZ S3).rd [116,114,117,101];rw [hq] at this;exact this))
     go_wp2_with fail
     refine(uZ CC).mono ?_
     rintro e w4 ⟨rfl,b⟩
     have S4:=hZ ((uZ S3).below b)
     have HBQ_4:=bx_be HBQ_3 b
     clear b CC S3 HBQ_3
     have HJ5:=hZ ((by have:=(uZ HJ4);rw [if_pos hq] at this;exact this))
     clear HJ4
     have hkq:=isK_k hq
     have HR0:=hZ (by have:=okN_some (uZ HJ5);rw [uZ HT] at this;exact this)
     have CR:=hZ (by have:=lit_any (uZ S4).rd hkq 1 1 [];rw [uZ HT] at this;exact this)
     go_wp2_with fail
     refine(uZ CR).mono ?_
     rintro e w5 ⟨kx,tx,vkx,vnx,vsx,fx,nx,akx,ckx,px,Zx,rfl,hlx,hn,r2,b⟩
     have S5:=hZ ((uZ S4).go b r2)
     have HNx_5:=hZ (hn.low (lo':=w.heap.size+1) (uZ S4).lt)
     clear b r2 hn CR S4
     have HR:=hZ (uZ HR0)
     have BX:=(uZ S5).bx
     rw [hG] at BX
     obtain⟨g0,g1,g2,g3,g4,g5,g6,g7,g8,g9⟩:=row_cell10 BX
     obtain⟨z0,z1,z2,z3,z4,z5,z6,z7,z8,z9⟩:=frozen10 BX
     clear BX
     have FF:=hZ (St.done (uZ S5) (uZ HNx_5) rfl hG)
     go_wp2_with fail
     refine rtN (p:=2) rfl rfl (uZ FF).1 rfl rfl ?_
     rw [uZ HR]
     exact(uZ FF).2
    ·have hq:isK [116,114,117,101] l=false:=by simpa using hb
     have CC:=hZ ((by have:=seesKey_any (uZ S3).rd [116,114,117,101];rw [hq] at this;exact this))
     go_wp2_with fail
     refine(uZ CC).mono ?_
     rintro e w4 ⟨rfl,b⟩
     have S4:=hZ ((uZ S3).below b)
     have HBQ_4:=bx_be HBQ_3 b
     clear b CC S3 HBQ_3
     have HJ5:=hZ ((by have:=(uZ HJ4);rw [if_neg (by rw [hq];decide)] at this;exact this))
     clear HJ4
     by_cases hb:isK [102,97,108,115,101] l=true
     ·have hq:isK [102,97,108,115,101] l=true:=by simpa using hb
      have CC:=hZ ((by have:=seesKey_any (uZ S4).rd [102,97,108,115,101];rw [hq] at this;exact this))
      go_wp2_with fail
      refine(uZ CC).mono ?_
      rintro e w5 ⟨rfl,b⟩
      have S5:=hZ ((uZ S4).below b)
      have HBQ_5:=bx_be HBQ_4 b
      clear b CC S4 HBQ_4
      have HJ6:=hZ ((by have:=(uZ HJ5);rw [if_pos hq] at this;exact this))
      clear HJ5
      have hkq:=isK_k hq
      have HR0:=hZ (by have:=okN_some (uZ HJ6);rw [uZ HT] at this;exact this)
      have CR:=hZ (by have:=lit_any (uZ S5).rd hkq 1 0 [];rw [uZ HT] at this;exact this)
      go_wp2_with fail
      refine(uZ CR).mono ?_
      rintro e w6 ⟨kx,tx,vkx,vnx,vsx,fx,nx,akx,ckx,px,Zx,rfl,hlx,hn,r2,b⟩
      have S6:=hZ ((uZ S5).go b r2)
      have HNx_6:=hZ (hn.low (lo':=w.heap.size+1) (uZ S5).lt)
      clear b r2 hn CR S5
      have HR:=hZ (uZ HR0)
      have BX:=(uZ S6).bx
      rw [hG] at BX
      obtain⟨g0,g1,g2,g3,g4,g5,g6,g7,g8,g9⟩:=row_cell10 BX
      obtain⟨z0,z1,z2,z3,z4,z5,z6,z7,z8,z9⟩:=frozen10 BX
      clear BX
      have FF:=hZ (St.done (uZ S6) (uZ HNx_6) rfl hG)
      go_wp2_with fail
      refine rtN (p:=2) rfl rfl (uZ FF).1 rfl rfl ?_
      rw [uZ HR]
      exact(uZ FF).2
     ·have hq:isK [102,97,108,115,101] l=false:=by simpa using hb
      have CC:=hZ ((by have:=seesKey_any (uZ S4).rd [102,97,108,115,101];rw [hq] at this;exact this))
      go_wp2_with fail
      refine(uZ CC).mono ?_
      rintro e w5 ⟨rfl,b⟩
      have S5:=hZ ((uZ S4).below b)
      have HBQ_5:=bx_be HBQ_4 b
      clear b CC S4 HBQ_4
      have HJ6:=hZ ((by have:=(uZ HJ5);rw [if_neg (by rw [hq];decide)] at this;exact this))
      clear HJ5
      by_cases hb:isK [117,110,105,116] l=true
      ·have hq:isK [117,110,105,116] l=true:=by simpa using hb
       have CC:=hZ ((by have:=seesKey_any (uZ S5).rd [117,110,105,116];rw [hq] at this;exact this))
       go_wp2_with fail
       refine(uZ CC).mono ?_
       rintro e w6 ⟨rfl,b⟩
       have S6:=hZ ((uZ S5).below b)
       have HBQ_6:=bx_be HBQ_5 b
       clear b CC S5 HBQ_5
       have HJ7:=hZ ((by have:=(uZ HJ6);rw [if_pos hq] at this;exact this))
       clear HJ6
       have hkq:=isK_k hq
       have HR0:=hZ (by have:=okN_some (uZ HJ7);rw [uZ HT] at this;exact this)
       have CR:=hZ (by have:=lit_any (uZ S6).rd hkq 0 0 [];rw [uZ HT] at this;exact this)
       go_wp2_with fail
       refine(uZ CR).mono ?_
       rintro e w7 ⟨kx,tx,vkx,vnx,vsx,fx,nx,akx,ckx,px,Zx,rfl,hlx,hn,r2,b⟩
       have S7:=hZ ((uZ S6).go b r2)
       have HNx_7:=hZ (hn.low (lo':=w.heap.size+1) (uZ S6).lt)
       clear b r2 hn CR S6
       have HR:=hZ (uZ HR0)
       have BX:=(uZ S7).bx
       rw [hG] at BX
       obtain⟨g0,g1,g2,g3,g4,g5,g6,g7,g8,g9⟩:=row_cell10 BX
       obtain⟨z0,z1,z2,z3,z4,z5,z6,z7,z8,z9⟩:=frozen10 BX
       clear BX
       have FF:=hZ (St.done (uZ S7) (uZ HNx_7) rfl hG)
       go_wp2_with fail
       refine rtN (p:=2) rfl rfl (uZ FF).1 rfl rfl ?_
       rw [uZ HR]
       exact(uZ FF).2
      ·have hq:isK [117,110,105,116] l=false:=by simpa using hb
       have CC:=hZ ((by have:=seesKey_any (uZ S5).rd [117,110,105,116];rw [hq] at this;exact this))
       go_wp2_with fail
       refine(uZ CC).mono ?_
       rintro e w6 ⟨rfl,b⟩
       have S6:=hZ ((uZ S5).below b)
       have HBQ_6:=bx_be HBQ_5 b
       clear b CC S5 HBQ_5
       have HJ7:=hZ ((by have:=(uZ HJ6);rw [if_neg (by rw [hq];decide)] at this;exact this))
       clear HJ6
       by_cases hb:isS [91] l=true
       ·have hq:isS [91] l=true:=by simpa using hb
        have CC:=hZ ((by have:=seesSign_any (uZ S6).rd [91];rw [hq] at this;exact this))
        go_wp2_with fail
        refine(uZ CC).mono ?_
        rintro e w7 ⟨rfl,b⟩
        have S7:=hZ ((uZ S6).below b)
        have HBQ_7:=bx_be HBQ_6 b
        clear b CC S6 HBQ_6
        have HJ8:=hZ ((by have:=(uZ HJ7);rw [if_pos hq] at this;exact this))
        clear HJ7
        have CR:=hZ (ihl (uZ HJ8) (uZ S7).rd)
        obtain⟨y,hyr⟩:=eX r
        have HR:=hZ hyr
        rw [hyr] at CR
        clear hyr
        rcases y with ⟨ea,ep⟩|⟨nsx,lx⟩
        ·go_wp2_with fail
         refine(uZ CR).mono ?_
         rintro e wx ⟨rfl,b⟩
         have HX:=hZ ((uZ S7).bad b)
         clear b CR
         unfold fltP
         go_wp2_with fail
         exact⟨rfl,by rw [uZ HR];exact⟨rfl,uZ HX⟩⟩
        ·go_wp2_with fail
         refine(uZ CR).mono ?_
         rintro e w8 ⟨kx,tx,vkx,vnx,vsx,fx,nx,akx,ckx,px,Zx,rfl,hlx,hn,r2,b⟩
         have S8:=hZ ((uZ S7).go b r2)
         have HNx_8:=hZ (hn.low (lo':=w.heap.size+1) (uZ S7).lt)
         clear b r2 hn CR S7
         have HR:=hZ (uZ HR)
         have BX:=(uZ S8).bx
         rw [hG] at BX
         obtain⟨g0,g1,g2,g3,g4,g5,g6,g7,g8,g9⟩:=row_cell10 BX
         obtain⟨z0,z1,z2,z3,z4,z5,z6,z7,z8,z9⟩:=frozen10 BX
         clear BX
         have FF:=hZ (St.done (uZ S8) (uZ HNx_8) hlx hG)
         go_wp2_with fail
         refine rtN (p:=2) rfl rfl (uZ FF).1 rfl rfl ?_
         rw [uZ HR]
         exact(uZ FF).2
       ·have hq:isS [91] l=false:=by simpa using hb
        have CC:=hZ ((by have:=seesSign_any (uZ S6).rd [91];rw [hq] at this;exact this))
        go_wp2_with fail
        refine(uZ CC).mono ?_
        rintro e w7 ⟨rfl,b⟩
        have S7:=hZ ((uZ S6).below b)
        have HBQ_7:=bx_be HBQ_6 b
        clear b CC S6 HBQ_6
        have HJ8:=hZ ((by have:=(uZ HJ7);rw [if_neg (by rw [hq];decide)] at this;exact this))
        clear HJ7
        by_cases hb:isS [123] l=true
        ·have hq:isS [123] l=true:=by simpa using hb
         have CC:=hZ ((by have:=seesSign_any (uZ S7).rd [123];rw [hq] at this;exact this))
         go_wp2_with fail
         refine(uZ CC).mono ?_
         rintro e w8 ⟨rfl,b⟩
         have S8:=hZ ((uZ S7).below b)
         have HBQ_8:=bx_be HBQ_7 b
         clear b CC S7 HBQ_7
         have HJ9:=hZ ((by have:=(uZ HJ8);rw [if_pos hq] at this;exact this))
         clear HJ8
         have CR:=hZ (ihr (uZ HJ9) (uZ S8).rd)
         obtain⟨y,hyr⟩:=eX r
         have HR:=hZ hyr
         rw [hyr] at CR
         clear hyr
         rcases y with ⟨ea,ep⟩|⟨nsx,lx⟩
         ·go_wp2_with fail
          refine(uZ CR).mono ?_
          rintro e wx ⟨rfl,b⟩
          have HX:=hZ ((uZ S8).bad b)
          clear b CR
          unfold fltP
          go_wp2_with fail
          exact⟨rfl,by rw [uZ HR];exact⟨rfl,uZ HX⟩⟩
         ·go_wp2_with fail
          refine(uZ CR).mono ?_
          rintro e w9 ⟨kx,tx,vkx,vnx,vsx,fx,nx,akx,ckx,px,Zx,rfl,hlx,hn,r2,b⟩
          have S9:=hZ ((uZ S8).go b r2)
          have HNx_9:=hZ (hn.low (lo':=w.heap.size+1) (uZ S8).lt)
          clear b r2 hn CR S8
          have HR:=hZ (uZ HR)
          have BX:=(uZ S9).bx
          rw [hG] at BX
          obtain⟨g0,g1,g2,g3,g4,g5,g6,g7,g8,g9⟩:=row_cell10 BX
          obtain⟨z0,z1,z2,z3,z4,z5,z6,z7,z8,z9⟩:=frozen10 BX
          clear BX
          have FF:=hZ (St.done (uZ S9) (uZ HNx_9) hlx hG)
          go_wp2_with fail
          refine rtN (p:=2) rfl rfl (uZ FF).1 rfl rfl ?_
          rw [uZ HR]
          exact(uZ FF).2
        ·have hq:isS [123] l=false:=by simpa using hb
         have CC:=hZ ((by have:=seesSign_any (uZ S7).rd [123];rw [hq] at this;exact this))
         go_wp2_with fail
         refine(uZ CC).mono ?_
         rintro e w8 ⟨rfl,b⟩
         have S8:=hZ ((uZ S7).below b)
         have HBQ_8:=bx_be HBQ_7 b
         clear b CC S7 HBQ_7
         have HJ9:=hZ ((by have:=(uZ HJ8);rw [if_neg (by rw [hq];decide)] at this;exact this))
         clear HJ8
         have CR:=hZ (ihg (uZ HJ9) (uZ S8).rd)
         obtain⟨y,hyr⟩:=eX r
         have HR:=hZ hyr
         rw [hyr] at CR
         clear hyr
         rcases y with ⟨ea,ep⟩|⟨nsx,lx⟩
         ·go_wp2_with fail
          refine(uZ CR).mono ?_
          rintro e wx ⟨rfl,b⟩
          have HX:=hZ ((uZ S8).bad b)
          clear b CR
          unfold fltP
          go_wp2_with fail
          exact⟨rfl,by rw [uZ HR];exact⟨rfl,uZ HX⟩⟩
         ·go_wp2_with fail
          refine(uZ CR).mono ?_
          rintro e w9 ⟨kx,tx,vkx,vnx,vsx,fx,nx,akx,ckx,px,Zx,rfl,hlx,hn,r2,b⟩
          have S9:=hZ ((uZ S8).go b r2)
          have HNx_9:=hZ (hn.low (lo':=w.heap.size+1) (uZ S8).lt)
          clear b r2 hn CR S8
          have HR:=hZ (uZ HR)
          have BX:=(uZ S9).bx
          rw [hG] at BX
          obtain⟨g0,g1,g2,g3,g4,g5,g6,g7,g8,g9⟩:=row_cell10 BX
          obtain⟨z0,z1,z2,z3,z4,z5,z6,z7,z8,z9⟩:=frozen10 BX
          clear BX
          have FF:=hZ (St.done (uZ S9) (uZ HNx_9) hlx hG)
          go_wp2_with fail
          refine rtN (p:=2) rfl rfl (uZ FF).1 rfl rfl ?_
          rw [uZ HR]
          exact(uZ FF).2
end Go.Proofs.YtjdpaihhhjdgmaaGreatDoor
