/-
  Layer 17 (parse): the walk of read where a source has no tokens; conditions: what the variables of strconv hold.
  Layer 17 (parse): expressions in brackets, statements that are an expression, words; conditions: the reader's state.
-/
import Derived.Test.YtilhlmmcdfoaoaaGreatDoorE32
import Derived.Test.YtilhlmmcdfoaoaaGreatDoorE10
set_option linter.unusedVariables false
set_option linter.unusedSimpArgs false
namespace Go.Proofs.YtilhlmmcdfoaoaaGreatDoor
open Go.RowKit
set_option linter.unusedVariables false
set_option linter.unusedSimpArgs false
set_option maxRecDepth 100000 in
set_option maxHeartbeats 1000000 in
theorem read_bad (s:ByteArray) (wv:Value) (w:World) (he:Ev w) (hw6:5<w.heap.size) {p er:Nat} (ha:allT s.data.toList=.error (p,er)) (hz:¬er=0) :
  Calls Tryz.prog 10 #[.string s,wv] w fun e w'=>e=.returned (.tuple #[.agg ndZ,.int .i64 (p:Int),.int .i64 (er:Int)])∧Below w.heap.size w w':=by
 obtain⟨hB3,hb3⟩:=b3_new w
 obtain⟨G,hG⟩:∃G,w.heap.size=G:=⟨_,rfl⟩
 obtain⟨w3,hw3⟩:∃w3,(((w.alloc (.cells ndZ 29)).alloc (.cells #[.int .i64 0] 3)).alloc (.cells #[.int .i64 0] 30))=w3:=⟨_,rfl⟩
 have HW:=hZ hw3
 rw [hw3] at hB3 hb3
 have CA:=hZ (all_any s w3 (he.below hb3 hw6) (by have:=hb3.size;omega))
 rw [ha] at CA
 rw [hG] at hB3
 have H3:=hZ (And.intro hB3 hb3)
 have HG:=hZ hG
 have n1:¬(er:Int)=0:=by omega
 have n2:((er:Int) == 0)=false:=by simpa using n1
 clear he hw6 ha hB3 hb3 hw3 hz
 go_enter_defers Tryz.func10,Tryz.ntmps10
 go_upto_region 1 with fail
 have e3:=uZ HW
 unfold ndZ at e3
 rw [e3]
 clear e3 HW
 go_wp2_with fail
 refine(uZ CA).mono ?_
 rintro e w4 ⟨rfl,b4⟩
 have hlt3:=(uZ H3).1.lt
 have D4:B3 G ndZ 0 0 w4:=(uZ H3).1.at (fun k _ _=>b4.block k (by omega))
 obtain⟨c1,c2,f1,f2⟩:=D4.cells
 obtain⟨T1,T2,T3,T4⟩:=b3_two D4 (p:Int) (er:Int)
 obtain⟨w5,hw5⟩:∃w5,((w4.setCell ⟨G+1,0,none⟩ (.int .i64 (p:Int))).setCell ⟨G+2,0,none⟩ (.int .i64 (er:Int)))=w5:=⟨_,rfl⟩
 rw [hw5] at T1 T2 T3 T4
 have bel5:Below w.heap.size w w5:=by
  have h3:=(uZ H3).2
  have hg:=uZ HG
  rw [hg]
  rw [hg] at h3
  have b4':Below G w3 w4:=⟨b4.os,b4.tape,b4.output,b4.size,fun k hk=>b4.block k (by omega)⟩
  exact(h3.trans b4').trans T4
 obtain⟨e0,e1,e2,e3,e4,e5,e6,e7,e8,e9⟩:=row_cell10 T1.b0
 obtain⟨g0,g1,g2,g3,g4,g5,g6,g7,g8,g9⟩:=frozen10 T1.b0
 obtain⟨k1,k2,m1,m2⟩:=T1.cells
 have H5:=hZ (And.intro T1 bel5)
 have HW5:=hZ hw5
 clear H3 b4 hlt3 D4 T1 T2 T3 T4 hw5 bel5 CA
 go_upto_region 2 with fail
 rw [uZ HW5]
 clear HW5 c1 c2 f1 f2 hG
 go_upto_region 3 with fail
 go_region
 obtain⟨T1,bel5⟩:=uZ H5
 have hg:=uZ HG
 have DA:=(b3_set T1 (.int .i64 0) (.string ⟨#[]⟩) (.int .i64 0) (.int .i64 0) (.string ⟨#[]⟩) (.slice none 0 0) (.slice none 0 0) (.bool false) (.slice none 0 0) (.int .i64 0) (p:Int) (er:Int)).drew
 have BA:=(b3_oth (g:=G) (w1:=w5) (.int .i64 0) (.string ⟨#[]⟩) (.int .i64 0) (.int .i64 0) (.string ⟨#[]⟩) (.slice none 0 0) (.slice none 0 0) (.bool false) (.slice none 0 0) (.int .i64 0) (.int .i64 (p:Int)) (.int .i64 (er:Int))).2.drew
 rw [show G+1+1=G+2 from rfl]
 generalize World.drew _=w6 at DA BA ⊢
 have bel:Below w.heap.size w w6:=by
  rw [hg] at bel5 ⊢
  exact bel5.trans BA
 clear BA bel5 T1 H5 HG
 obtain⟨r0,r1,r2,r3,r4,r5,r6,r7,r8,r9⟩:=row_cell10 DA.b0
 obtain⟨s1,s2,_,_⟩:=DA.cells
 clear e0 e1 e2 e3 e4 e5 e6 e7 e8 e9 g0 g1 g2 g3 g4 g5 g6 g7 g8 g9 k1 k2 m1 m2 hg
 have bel':=hZ bel
 clear bel DA
 go_wp2_with fail
 simp [bodyPostD,Leaves,settle,results,Tryz.results10,go_sem,r0,r1,r2,r3,r4,r5,r6,r7,r8,r9,s1,s2]
 exact⟨rfl,uZ bel'⟩
set_option maxRecDepth 100000 in
set_option maxHeartbeats 4000000 in
theorem expr_step {c:Cx} {l:List Tk} {d:Nat} {w:World} {r:Rs (List Nd)} {f:Nat} (ihb:∀{x:Nat} {c:Cx} {l:List Tk} {d:Nat} {w:World} {r:Rs (List Nd)},1≤x→x≤6→PJ f 2 x [] l d=some r→Rd w c l d→Calls Tryz.prog 25 #[.pointer (some ⟨c.g,0,none⟩),.int .i64 (x:Int)] w fun e w'=>NdP c w d r e w') (hJ:PJ (f+1) 0 0 [] l d=some r) (h:Rd w c l d) :
  Calls Tryz.prog 15 #[.pointer (some ⟨c.g,0,none⟩)] w fun e w'=>NdP c w d r e w':=by
 have S1:=hZ (St.start h 29 #[.int .i64 0,.string ⟨#[]⟩,.int .i64 0,.int .i64 0,.string ⟨#[]⟩,.slice none 0 0,.slice none 0 0,.bool false,.slice none 0 0,.int .i64 0])
 obtain⟨w1,hw1⟩:∃w1,w.alloc (.cells #[.int .i64 0,.string ⟨#[]⟩,.int .i64 0,.int .i64 0,.string ⟨#[]⟩,.slice none 0 0,.slice none 0 0,.bool false,.slice none 0 0,.int .i64 0] 29)=w1:=⟨_,rfl⟩
 rw [hw1] at S1
 obtain⟨G,hG⟩:∃G,w.heap.size=G:=⟨_,rfl⟩
 have hgw:c.g<w.heap.size:=h.cells.2.2.2.2.2
 clear h
 go_enter Tryz.func15,Tryz.ntmps15
 have HJ0:=hZ hJ
 clear hJ
 obtain⟨y,hyr⟩:∃y,r=y:=⟨_,rfl⟩
 have HR:=hZ hyr
 have CR:=hZ (ihb (show 1≤1 by omega) (show 1≤6 by omega) (uZ HJ0) (uZ S1).rd)
 rw [hyr] at CR
 clear hyr
 rcases y with ⟨ea,ep⟩|⟨nsx,lx⟩
 ·go_wp2_with fail
  refine(uZ CR).mono ?_
  rintro e wx ⟨rfl,b⟩
  have HX:=hZ ((uZ S1).bad b)
  clear b CR
  unfold fltP
  go_wp2_with fail
  exact⟨rfl,by rw [uZ HR];exact⟨rfl,uZ HX⟩⟩
 ·go_wp2_with fail
  refine(uZ CR).mono ?_
  rintro e w2 ⟨kx,tx,vkx,vnx,vsx,fx,nx,akx,ckx,px,Zx,rfl,hlx,hn,r2,b⟩
  have S2:=hZ ((uZ S1).go b r2)
  have HNx_2:=hZ (hn.low (lo':=w.heap.size+1) (uZ S1).lt)
  clear b r2 hn CR S1
  have HR:=hZ (uZ HR)
  have BX:=(uZ S2).bx
  rw [hG] at BX
  obtain⟨g0,g1,g2,g3,g4,g5,g6,g7,g8,g9⟩:=row_cell10 BX
  obtain⟨z0,z1,z2,z3,z4,z5,z6,z7,z8,z9⟩:=frozen10 BX
  clear BX
  have FF:=hZ (St.done (uZ S2) (uZ HNx_2) hlx hG)
  go_wp2_with fail
  refine bodyPost_ret (ret_c1 (p:=2) (T:=29) rfl _ _ G _ _ _ rfl (uZ FF).1 Tryz.underlying29 rfl size_nd) rfl ?_
  rw [uZ HR]
  exact(uZ FF).2
set_option maxRecDepth 100000 in
set_option maxHeartbeats 4000000 in
theorem do_step {c:Cx} {l:List Tk} {d:Nat} {w:World} {r:Rs (List Nd)} {f:Nat} (ihe:∀{c:Cx} {l:List Tk} {d:Nat} {w:World} {r:Rs (List Nd)},PJ f 0 0 [] l d=some r→Rd w c l d→Calls Tryz.prog 15 #[.pointer (some ⟨c.g,0,none⟩)] w fun e w'=>NdP c w d r e w') (hJ:PJ (f+1) 19 0 [] l d=some r) (h:Rd w c l d) :
  Calls Tryz.prog 88 #[.pointer (some ⟨c.g,0,none⟩)] w fun e w'=>NdP c w d r e w':=by
 have S1:=hZ (St.start h 29 #[.int .i64 0,.string ⟨#[]⟩,.int .i64 0,.int .i64 0,.string ⟨#[]⟩,.slice none 0 0,.slice none 0 0,.bool false,.slice none 0 0,.int .i64 0])
 obtain⟨w1,hw1⟩:∃w1,w.alloc (.cells #[.int .i64 0,.string ⟨#[]⟩,.int .i64 0,.int .i64 0,.string ⟨#[]⟩,.slice none 0 0,.slice none 0 0,.bool false,.slice none 0 0,.int .i64 0] 29)=w1:=⟨_,rfl⟩
 rw [hw1] at S1
 obtain⟨G,hG⟩:∃G,w.heap.size=G:=⟨_,rfl⟩
 have hgw:c.g<w.heap.size:=h.cells.2.2.2.2.2
 clear h
 go_enter Tryz.func88,Tryz.ntmps88
 have HJ0:=hZ (show jDo (PJ f) l d=some r from hJ)
 clear hJ
 obtain⟨⟨k,t,n,p⟩,ht⟩:∃t,hdT l=t:=⟨_,rfl⟩
 have HT:=hZ ht
 clear ht
 have HJ1:=hZ ((by have:=uZ HJ0;unfold jDo at this;rw [uZ HT] at this;exact this))
 clear HJ0
 have CC:=hZ ((by have:=token_any (uZ S1).rd;rw [uZ HT] at this;simp only [tkA] at this;exact this))
 go_wp2_with fail
 refine(uZ CC).mono ?_
 rintro e w2 ⟨rfl,b⟩
 have S2:=hZ ((uZ S1).below b)
 clear b CC S1
 go_upto_region 2 with (first|(refine wpl_tk3 rfl _ rfl _ _ _ _ rfl ?_)|(refine wpl_tk1 rfl _ rfl _ _ _ _ rfl ?_)|(refine wpl_tk0 rfl _ rfl _ _ _ _ rfl ?_))
 obtain⟨w3,hw⟩:∃zz,w2.alloc (.cells #[.int .i64 12,.string ⟨#[]⟩,.int .i64 0,.int .i64 0,.string ⟨#[]⟩,.slice none 0 0,.slice none 0 0,.bool false,.slice none 0 0,.int .i64 (p:Int)] 29)=zz:=⟨_,rfl⟩
 have b:Below w2.heap.size w2 w3:=by rw [←hw];exact(Below.refl _ _).alloc (Nat.le_refl _) _
 obtain⟨Q,hQ⟩:∃zz,w2.heap.size=zz:=⟨_,rfl⟩
 have HBQ_3:Hid (w3.heap[Q]?=some (.cells #[.int .i64 12,.string ⟨#[]⟩,.int .i64 0,.int .i64 0,.string ⟨#[]⟩,.slice none 0 0,.slice none 0 0,.bool false,.slice none 0 0,.int .i64 (p:Int)] 29 (0,0))):=hZ (by rw [←hw,←hQ];exact heap_alloc_new _ _)
 have S3:=hZ ((uZ S2).below b)
 have ltQ:w.heap.size<Q:=by rw [←hQ];exact(uZ S2).lt
 rw [hw]
 try rw [hQ]
 clear hw hQ b S2
 obtain⟨yx,hy,hth⟩:=bnd_some (uZ HJ1)
 have HJ2:=hZ (hth)
 clear HJ1
 clear hth
 have CR:=hZ (ihe hy (uZ S3).rd)
 have HYX:=hZ hy
 clear hy
 rcases yx with ⟨ea,ep⟩|⟨nsx,lx⟩
 ·have HR:=hZ (thn_err (uZ HJ2))
  go_wp2_with fail
  refine(uZ CR).mono ?_
  rintro e wx ⟨rfl,b⟩
  have HX:=hZ ((uZ S3).bad b)
  clear b CR
  unfold fltP
  go_wp2_with fail
  exact⟨rfl,by rw [uZ HR];exact⟨rfl,uZ HX⟩⟩
 ·have HJ3:=hZ (thn_ok (uZ HJ2))
  clear HJ2
  go_wp2_with fail
  refine(uZ CR).mono ?_
  rintro e w4 ⟨kx,tx,vkx,vnx,vsx,fx,nx,akx,ckx,px,Zx,rfl,hlx,hn,r2,b⟩
  have S4:=hZ ((uZ S3).go b r2)
  have HBQ_4:=bx_go HBQ_3 b (by omega)
  obtain⟨lox,hlo⟩:∃zz,w3.heap.size=zz:=⟨_,rfl⟩
  have ltlox:w.heap.size<lox:=by rw [←hlo];exact(uZ S3).lt
  have lqQ_x:Q<lox:=by rw [←hlo];exact(Array.getElem?_eq_some_iff.1 (uZ HBQ_3)).1
  rw [hlo] at hn
  have HNx_4:=hZ hn
  clear hlo b r2 hn CR S3 HBQ_3
  have hkn:=hZ (uZ HNx_4)
  obtain⟨w5,hwr⟩:∃zz,w4.alloc (.cells #[.int .i64 (kx:Int),.string (bA tx),.int .i64 (vkx:Int),.int .i64 (vnx:Int),.string (bA vsx),.slice none 0 0,.slice none 0 0,.bool fx,.slice akx nx ckx,.int .i64 (px:Int)] 29)=zz:=⟨_,rfl⟩
  have b:Below w4.heap.size w4 w5:=by rw [←hwr];exact(Below.refl _ _).alloc (Nat.le_refl _) _
  obtain⟨qr,hqr⟩:∃zz,w4.heap.size=zz:=⟨_,rfl⟩
  have HKr_5:Hid (Kr lox w5 _ (.slice (some ⟨qr,0,none⟩) _ _) [.int .i64 (kx:Int),.string (bA tx),.int .i64 (vkx:Int),.int .i64 (vnx:Int),.string (bA vsx),.slice none 0 0,.slice none 0 0,.bool fx,.slice akx nx ckx,.int .i64 (px:Int)] _):=hZ (by rw [←hwr,←hqr];exact Kr.mk' (uZ hkn) (by rw [hlx];decide))
  rw [hlx] at HKr_5
  have ltr:w.heap.size<qr:=by rw [←hqr];exact(uZ S4).lt
  have S5:=hZ ((uZ S4).below b)
  have HBQ_5:=bx_be HBQ_4 b
  clear b hkn S4 HBQ_4 HNx_4
  obtain⟨-,-,-,-,-,-,-,-,Qc8,-⟩:=row_cell10 (uZ HBQ_5)
  have Qf8:=frozen_of_row w5 Q 8 _ _ (uZ HBQ_5)
  go_upto_region 3 with fail
  clear Qc8 Qf8 hwr hqr
  obtain⟨w6,hw⟩:∃zz,w5.setCell ⟨Q,8,none⟩ (.slice (some ⟨qr,0,none⟩) 1 1)=zz:=⟨_,rfl⟩
  have HBQ_6:Hid (w6.heap[Q]?=some (.cells #[.int .i64 12,.string ⟨#[]⟩,.int .i64 0,.int .i64 0,.string ⟨#[]⟩,.slice none 0 0,.slice none 0 0,.bool false,.slice (some ⟨qr,0,none⟩) 1 1,.int .i64 (p:Int)] 29 (0,0))):=hZ (by rw [←hw,heap_setCell_same w5 Q 8 _ _ _ (uZ HBQ_5)];rfl)
  have S6:Hid (St w c 29 #[.int .i64 0,.string ⟨#[]⟩,.int .i64 0,.int .i64 0,.string ⟨#[]⟩,.slice none 0 0,.slice none 0 0,.bool false,.slice none 0 0,.int .i64 0] w6 lx d):=hZ (by rw [←hw];exact(uZ S5).own Q 8 _ ltQ)
  have HKr_6:=hZ ((uZ HKr_5).but (q:=Q) (w':=w6) (fun b _ hb=>by rw [←hw];exact heap_setCell_other _ _ _ _ hb) (by rw [←hw];simp) (by omega))
  rw [hw]
  clear hw S5 HBQ_5 HKr_5
  by_cases hb:isS [59] lx=true
  ·have hq:isS [59] lx=true:=by simpa using hb
   have HJ4:=hZ (thn_sg hq (uZ HJ3))
   clear HJ3
   have CC:=hZ (psg_ok (uZ S6).rd [59] hq)
   go_wp2_with fail
   refine(uZ CC).mono ?_
   rintro e w7 ⟨rfl,r2,b⟩
   have S7:=hZ ((uZ S6).go b r2)
   have HBQ_7:=bx_go HBQ_6 b (by omega)
   have HKr_7:=hZ ((uZ HKr_6).beside b (by omega))
   clear b r2 CC S6 HBQ_6 HKr_6
   have hr1:=okN_some (uZ HJ4)
   have hnn:=(uZ HKr_7).node' hlx 12 [] 0 0 [] false p
   have HR:=hZ (hr1)
   have BX:=(uZ S7).bx
   rw [hG] at BX
   obtain⟨g0,g1,g2,g3,g4,g5,g6,g7,g8,g9⟩:=row_cell10 BX
   obtain⟨z0,z1,z2,z3,z4,z5,z6,z7,z8,z9⟩:=frozen10 BX
   clear BX
   obtain⟨Qc0,Qc1,Qc2,Qc3,Qc4,Qc5,Qc6,Qc7,Qc8,Qc9⟩:=row_cell10 (uZ HBQ_7)
   have FF:=hZ (St.done (uZ S7) (hnn.low (by omega)) rfl hG)
   go_wp2_with fail
   refine bodyPost_ret (ret_c1 (p:=2) (T:=29) rfl _ _ G _ _ _ rfl (uZ FF).1 Tryz.underlying29 rfl size_nd) rfl ?_
   rw [uZ HR]
   exact(uZ FF).2
  ·have hq:isS [59] lx=false:=by simpa using hb
   have CC:=hZ (psg_bad (uZ S6).rd [59] hq)
   have HR:=hZ (thn_sgb hq (uZ HJ3))
   go_wp2_with fail
   refine(uZ CC).mono ?_
   rintro e wx ⟨rfl,b⟩
   have HX:=hZ ((uZ S6).bad b)
   clear b CC
   unfold fltP
   go_wp2_with fail
   exact⟨rfl,by rw [uZ HR];exact⟨rfl,uZ HX⟩⟩
end Go.Proofs.YtilhlmmcdfoaoaaGreatDoor
