/-
  Layer 17 (parse): the document's reader: signs ahead; conditions: the reader's state.
-/
import Derived.Test.YtilhlmmcdfoaoaaGreatDoorE12
set_option linter.unusedVariables false
set_option linter.unusedSimpArgs false
namespace Go.Proofs.YtilhlmmcdfoaoaaGreatDoor
open Go.RowKit
set_option linter.unusedVariables false
set_option linter.unusedSimpArgs false
set_option maxRecDepth 100000 in
set_option maxHeartbeats 4000000 in
theorem unaryq_step {c:Cx} {σ:Sg} {w:World} {r:List Nd × Sg} {f:Nat} (ihu:∀{c:Cx} {σ:Sg} {w:World} {r:List Nd × Sg},RJ c.ts f 1 0 [] σ=some r→Rq w c σ→Calls Tryz.prog 120 #[.pointer (some ⟨c.g,0,none⟩)] w fun e w'=>NqP c w r e w') (ihp:∀{c:Cx} {σ:Sg} {w:World} {r:List Nd × Sg},RJ c.ts f 24 0 [] σ=some r→Rq w c σ→Calls Tryz.prog 132 #[.pointer (some ⟨c.g,0,none⟩)] w fun e w'=>NqP c w r e w') (hJ:RJ c.ts (f+1) 1 0 [] σ=some r) (h:Rq w c σ) :
  Calls Tryz.prog 120 #[.pointer (some ⟨c.g,0,none⟩)] w fun e w'=>NqP c w r e w':=by
 have S1:=hZ (Sq.start (d:=0) h 29 #[.int .i64 0,.string ⟨#[]⟩,.int .i64 0,.int .i64 0,.string ⟨#[]⟩,.slice none 0 0,.slice none 0 0,.bool false,.slice none 0 0,.int .i64 0])
 obtain⟨w1,hw1⟩:∃w1,w.alloc (.cells #[.int .i64 0,.string ⟨#[]⟩,.int .i64 0,.int .i64 0,.string ⟨#[]⟩,.slice none 0 0,.slice none 0 0,.bool false,.slice none 0 0,.int .i64 0] 29)=w1:=⟨_,rfl⟩
 rw [hw1] at S1
 obtain⟨G,hG⟩:∃G,w.heap.size=G:=⟨_,rfl⟩
 have hgw:c.g<w.heap.size:=h.frz.2.2.2.2
 clear h
 go_enter Tryz.func120,Tryz.ntmps120
 have HJ0:=hZ (show qUnary c.ts (RJ c.ts f) σ=some r from hJ)
 clear hJ
 have HJ1:=hZ ((by have:=uZ HJ0;unfold qUnary at this;exact this))
 clear HJ0
 rcases Bool.eq_false_or_eq_true (isQ c.ts 5 [45] σ) with hq|hq
 ·have HJ2:=hZ ((by have:=(uZ HJ1);rw [if_pos (Or.inl hq)] at this;exact this))
  clear HJ1
  have CC:=hZ ((by have:=signq_any (uZ S1).rd [45];rw [hq] at this;exact this))
  go_wp2_with fail
  refine(uZ CC).mono ?_
  rintro e w2 ⟨rfl,b⟩
  have S2:=hZ ((uZ S1).below b)
  clear b CC S1
  rcases Bool.eq_false_or_eq_true (isQ c.ts 5 [33] σ) with hq2|hq2
  ·have CC:=hZ ((by have:=signq_any (uZ S2).rd [33];rw [hq2] at this;exact this))
   go_wp2_with fail
   refine(uZ CC).mono ?_
   rintro e w3 ⟨rfl,b⟩
   have S3:=hZ ((uZ S2).below b)
   clear b CC S2
   obtain⟨⟨k,t,n,p⟩,ht⟩:∃zz,(opQ c.ts σ).1=zz:=⟨_,rfl⟩
   have HT:=hZ ht
   clear ht
   have CC:=hZ ((by have:=opens_any (uZ S3).rd;rw [uZ HT] at this;simp only [tkA] at this;exact this))
   go_wp2_with fail
   refine(uZ CC).mono ?_
   rintro e w4 ⟨rfl,r2,b⟩
   have S4:=hZ ((uZ S3).go (d':=0) b r2)
   clear b r2 CC S3
   go_upto_region 6 with fail
   obtain⟨w5,hw⟩:∃zz,w4.alloc (.cells #[.int .i64 (k:Int),.string (bA t),.int .i64 (n:Int),.int .i64 (p:Int)] 52)=zz:=⟨_,rfl⟩
   have b:Below w4.heap.size w4 w5:=by rw [←hw];exact(Below.refl _ _).alloc (Nat.le_refl _) _
   obtain⟨B,hQ⟩:∃zz,w4.heap.size=zz:=⟨_,rfl⟩
   have HBB_5:Hid (w5.heap[B]?=some (.cells #[.int .i64 (k:Int),.string (bA t),.int .i64 (n:Int),.int .i64 (p:Int)] 52 (0,0))):=hZ (by rw [←hw,←hQ];exact heap_alloc_new _ _)
   have S5:=hZ ((uZ S4).below b)
   have ltB:w.heap.size<B:=by rw [←hQ];exact(uZ S4).lt
   rw [hw]
   try rw [hQ]
   clear hw hQ b S4
   by_cases he:(opQ c.ts σ).2.e=0
   ·have HJ3:=hZ ((by have:=(uZ HJ2);rw [if_pos he,uZ HT] at this;exact this))
    clear HJ2
    have he0:(((opQ c.ts σ).2.e:Nat):Int)=0:=by omega
    have ec:=(uZ S5).rd.cells.2.2.2.1
    rw [he0] at ec
    obtain⟨nsx,sx,hy,hth⟩:=bq_some (uZ HJ3)
    have HJ4:=hZ (hth)
    clear HJ3
    clear hth
    have CR:=hZ (ihu hy (uZ S5).rd)
    clear hy
    go_wp2_with fail
    refine(uZ CR).mono ?_
    rintro e w6 ⟨kx,tx,vkx,vnx,vsx,fx,nx,akx,ckx,px,Zx,rfl,hlx,hn,r2,b⟩
    simp only [] at hlx hn r2
    have S6:=hZ ((uZ S5).go (d':=0) b r2)
    have HBB_6:=bx_go HBB_5 b (by omega)
    obtain⟨lox,hlo⟩:∃zz,w5.heap.size=zz:=⟨_,rfl⟩
    have ltlox:w.heap.size<lox:=by rw [←hlo];exact(uZ S5).lt
    have lqB_x:B<lox:=by rw [←hlo];exact(Array.getElem?_eq_some_iff.1 (uZ HBB_5)).1
    rw [hlo] at hn
    have HNx_6:=hZ hn
    clear hlo b r2 hn CR S5 HBB_5
    go_upto_region 9 with fail
    obtain⟨w7,hw⟩:∃zz,w6.alloc (.cells #[.int .i64 (kx:Int),.string (bA tx),.int .i64 (vkx:Int),.int .i64 (vnx:Int),.string (bA vsx),.slice none 0 0,.slice none 0 0,.bool fx,.slice akx nx ckx,.int .i64 (px:Int)] 29)=zz:=⟨_,rfl⟩
    have b:Below w6.heap.size w6 w7:=by rw [←hw];exact(Below.refl _ _).alloc (Nat.le_refl _) _
    obtain⟨X,hQ⟩:∃zz,w6.heap.size=zz:=⟨_,rfl⟩
    have HBX_7:Hid (w7.heap[X]?=some (.cells #[.int .i64 (kx:Int),.string (bA tx),.int .i64 (vkx:Int),.int .i64 (vnx:Int),.string (bA vsx),.slice none 0 0,.slice none 0 0,.bool fx,.slice akx nx ckx,.int .i64 (px:Int)] 29 (0,0))):=hZ (by rw [←hw,←hQ];exact heap_alloc_new _ _)
    have S7:=hZ ((uZ S6).below b)
    have HBB_7:=bx_be HBB_6 b
    have HNx_7:=hZ ((uZ HNx_6).beside (Beside.of_below (gr:=c.g) b) (by omega))
    have lB_X:B<X:=by rw [←hQ];exact(Array.getElem?_eq_some_iff.1 (uZ HBB_6)).1
    have ANx_X:=hZ ((uZ HNx_6).fresh hQ)
    have ltX:w.heap.size<X:=by rw [←hQ];exact(uZ S6).lt
    rw [hw]
    try rw [hQ]
    clear hw hQ b S6 HBB_6 HNx_6
    have oc:=(uZ S7).rd.cells.2.2.1
    have of:=(uZ S7).rd.frz.2.1
    obtain⟨i9,so,e9,a9⟩:=sx
    simp only [] at oc
    obtain⟨w8,hw⟩:∃zz,w7.setCell ⟨c.g,2,none⟩ (.int .i64 (wrap64 (so - 1)))=zz:=⟨_,rfl⟩
    have bb:Beside c.g w7 w8:=by rw [←hw];exact(Beside.refl c.g w7).set
    have rr:Rq w8 c (dnQ ⟨i9,so,e9,a9⟩):=by rw [←hw];exact(uZ S7).rd.seto (wrI (so - 1))
    have S8:=hZ ((uZ S7).go (d':=0) bb rr)
    have HBB_8:=bx_go HBB_7 bb (by omega)
    have HBX_8:=bx_go HBX_7 bb (by omega)
    have HNx_8:=hZ ((uZ HNx_7).beside bb (by omega))
    have HW:=hZ hw
    clear hw bb rr S7 HBB_7 HBX_7 HNx_7
    go_upto_region 10 with fail
    rw [uZ HW]
    clear HW oc of
    obtain⟨Bo0,Bo1,Bo2,Bo3⟩:=row_cell4 (uZ HBB_8)
    obtain⟨Xo0,Xo1,Xo2,Xo3,Xo4,Xo5,Xo6,Xo7,Xo8,Xo9⟩:=row_cell10 (uZ HBX_8)
    have hkn:=hZ (uZ HNx_8)
    obtain⟨w9,hwr⟩:∃zz,w8.alloc (.cells #[.int .i64 (kx:Int),.string (bA tx),.int .i64 (vkx:Int),.int .i64 (vnx:Int),.string (bA vsx),.slice none 0 0,.slice none 0 0,.bool fx,.slice akx nx ckx,.int .i64 (px:Int)] 29)=zz:=⟨_,rfl⟩
    have b:Below w8.heap.size w8 w9:=by rw [←hwr];exact(Below.refl _ _).alloc (Nat.le_refl _) _
    obtain⟨qr,hqr⟩:∃zz,w8.heap.size=zz:=⟨_,rfl⟩
    have HKr_9:Hid (Kr lox w9 _ (.slice (some ⟨qr,0,none⟩) _ _) [.int .i64 (kx:Int),.string (bA tx),.int .i64 (vkx:Int),.int .i64 (vnx:Int),.string (bA vsx),.slice none 0 0,.slice none 0 0,.bool fx,.slice akx nx ckx,.int .i64 (px:Int)] _):=hZ (by rw [←hwr,←hqr];exact Kr.mk' (uZ hkn) (by rw [hlx];decide))
    rw [hlx] at HKr_9
    have ltr:w.heap.size<qr:=by rw [←hqr];exact(uZ S8).lt
    have S9:=hZ ((uZ S8).below b)
    have HBB_9:=bx_be HBB_8 b
    have HBX_9:=bx_be HBX_8 b
    clear b hkn S8 HBB_8 HBX_8 HNx_8
    have hr1:=okq_some (uZ HJ4)
    have hnn:=(uZ HKr_9).node' hlx 16 t 0 0 [] false p
    obtain⟨Bc0,Bc1,Bc2,Bc3⟩:=row_cell4 (uZ HBB_9)
    have HR:=hZ (hr1)
    have BX:=(uZ S9).bx
    rw [hG] at BX
    obtain⟨g0,g1,g2,g3,g4,g5,g6,g7,g8,g9⟩:=row_cell10 BX
    obtain⟨z0,z1,z2,z3,z4,z5,z6,z7,z8,z9⟩:=frozen10 BX
    clear BX
    have FF:=hZ (Sq.done (uZ S9) (hnn.low (by omega)) rfl hG)
    go_wp2_with fail
    refine bodyPost_ret (ret_c1 (p:=2) (T:=29) rfl _ _ G _ _ _ rfl (uZ FF).1 Tryz.underlying29 rfl size_nd) rfl ?_
    rw [uZ HR]
    exact(uZ FF).2
   ·have HJ3:=hZ ((by have:=(uZ HJ2);rw [if_neg he] at this;exact this))
    clear HJ2
    have he0:¬(((opQ c.ts σ).2.e:Nat):Int)=0:=by omega
    have he1:((((opQ c.ts σ).2.e:Nat):Int) == 0)=false:=beq_eq_false_iff_ne.2 he0
    have he2:((((opQ c.ts σ).2.e:Nat):Int) != 0)=true:=by simp;omega
    have ec:=(uZ S5).rd.cells.2.2.2.1
    have hr1:=okq_some (uZ HJ3)
    have hnn:=NdOk.leaf (lo:=w.heap.size+1) (w:=w5) (uZ S5).lt 0 [] 0 0 [] false 0
    generalize (opQ c.ts σ).2=s9 at *
    have HR:=hZ (hr1)
    have BX:=(uZ S5).bx
    rw [hG] at BX
    obtain⟨g0,g1,g2,g3,g4,g5,g6,g7,g8,g9⟩:=row_cell10 BX
    obtain⟨z0,z1,z2,z3,z4,z5,z6,z7,z8,z9⟩:=frozen10 BX
    clear BX
    have FF:=hZ (Sq.done (uZ S5) (hnn) rfl hG)
    go_wp2_with fail
    refine bodyPost_ret (ret_c1 (p:=2) (T:=29) rfl _ _ G _ _ _ rfl (uZ FF).1 Tryz.underlying29 rfl size_nd) rfl ?_
    rw [uZ HR]
    exact(uZ FF).2
  ·have CC:=hZ ((by have:=signq_any (uZ S2).rd [33];rw [hq2] at this;exact this))
   go_wp2_with fail
   refine(uZ CC).mono ?_
   rintro e w3 ⟨rfl,b⟩
   have S3:=hZ ((uZ S2).below b)
   clear b CC S2
   obtain⟨⟨k,t,n,p⟩,ht⟩:∃zz,(opQ c.ts σ).1=zz:=⟨_,rfl⟩
   have HT:=hZ ht
   clear ht
   have CC:=hZ ((by have:=opens_any (uZ S3).rd;rw [uZ HT] at this;simp only [tkA] at this;exact this))
   go_wp2_with fail
   refine(uZ CC).mono ?_
   rintro e w4 ⟨rfl,r2,b⟩
   have S4:=hZ ((uZ S3).go (d':=0) b r2)
   clear b r2 CC S3
   go_upto_region 6 with fail
   obtain⟨w5,hw⟩:∃zz,w4.alloc (.cells #[.int .i64 (k:Int),.string (bA t),.int .i64 (n:Int),.int .i64 (p:Int)] 52)=zz:=⟨_,rfl⟩
   have b:Below w4.heap.size w4 w5:=by rw [←hw];exact(Below.refl _ _).alloc (Nat.le_refl _) _
   obtain⟨B,hQ⟩:∃zz,w4.heap.size=zz:=⟨_,rfl⟩
   have HBB_5:Hid (w5.heap[B]?=some (.cells #[.int .i64 (k:Int),.string (bA t),.int .i64 (n:Int),.int .i64 (p:Int)] 52 (0,0))):=hZ (by rw [←hw,←hQ];exact heap_alloc_new _ _)
   have S5:=hZ ((uZ S4).below b)
   have ltB:w.heap.size<B:=by rw [←hQ];exact(uZ S4).lt
   rw [hw]
   try rw [hQ]
   clear hw hQ b S4
   by_cases he:(opQ c.ts σ).2.e=0
   ·have HJ3:=hZ ((by have:=(uZ HJ2);rw [if_pos he,uZ HT] at this;exact this))
    clear HJ2
    have he0:(((opQ c.ts σ).2.e:Nat):Int)=0:=by omega
    have ec:=(uZ S5).rd.cells.2.2.2.1
    rw [he0] at ec
    obtain⟨nsx,sx,hy,hth⟩:=bq_some (uZ HJ3)
    have HJ4:=hZ (hth)
    clear HJ3
    clear hth
    have CR:=hZ (ihu hy (uZ S5).rd)
    clear hy
    go_wp2_with fail
    refine(uZ CR).mono ?_
    rintro e w6 ⟨kx,tx,vkx,vnx,vsx,fx,nx,akx,ckx,px,Zx,rfl,hlx,hn,r2,b⟩
    simp only [] at hlx hn r2
    have S6:=hZ ((uZ S5).go (d':=0) b r2)
    have HBB_6:=bx_go HBB_5 b (by omega)
    obtain⟨lox,hlo⟩:∃zz,w5.heap.size=zz:=⟨_,rfl⟩
    have ltlox:w.heap.size<lox:=by rw [←hlo];exact(uZ S5).lt
    have lqB_x:B<lox:=by rw [←hlo];exact(Array.getElem?_eq_some_iff.1 (uZ HBB_5)).1
    rw [hlo] at hn
    have HNx_6:=hZ hn
    clear hlo b r2 hn CR S5 HBB_5
    go_upto_region 9 with fail
    obtain⟨w7,hw⟩:∃zz,w6.alloc (.cells #[.int .i64 (kx:Int),.string (bA tx),.int .i64 (vkx:Int),.int .i64 (vnx:Int),.string (bA vsx),.slice none 0 0,.slice none 0 0,.bool fx,.slice akx nx ckx,.int .i64 (px:Int)] 29)=zz:=⟨_,rfl⟩
    have b:Below w6.heap.size w6 w7:=by rw [←hw];exact(Below.refl _ _).alloc (Nat.le_refl _) _
    obtain⟨X,hQ⟩:∃zz,w6.heap.size=zz:=⟨_,rfl⟩
    have HBX_7:Hid (w7.heap[X]?=some (.cells #[.int .i64 (kx:Int),.string (bA tx),.int .i64 (vkx:Int),.int .i64 (vnx:Int),.string (bA vsx),.slice none 0 0,.slice none 0 0,.bool fx,.slice akx nx ckx,.int .i64 (px:Int)] 29 (0,0))):=hZ (by rw [←hw,←hQ];exact heap_alloc_new _ _)
    have S7:=hZ ((uZ S6).below b)
    have HBB_7:=bx_be HBB_6 b
    have HNx_7:=hZ ((uZ HNx_6).beside (Beside.of_below (gr:=c.g) b) (by omega))
    have lB_X:B<X:=by rw [←hQ];exact(Array.getElem?_eq_some_iff.1 (uZ HBB_6)).1
    have ANx_X:=hZ ((uZ HNx_6).fresh hQ)
    have ltX:w.heap.size<X:=by rw [←hQ];exact(uZ S6).lt
    rw [hw]
    try rw [hQ]
    clear hw hQ b S6 HBB_6 HNx_6
    have oc:=(uZ S7).rd.cells.2.2.1
    have of:=(uZ S7).rd.frz.2.1
    obtain⟨i9,so,e9,a9⟩:=sx
    simp only [] at oc
    obtain⟨w8,hw⟩:∃zz,w7.setCell ⟨c.g,2,none⟩ (.int .i64 (wrap64 (so - 1)))=zz:=⟨_,rfl⟩
    have bb:Beside c.g w7 w8:=by rw [←hw];exact(Beside.refl c.g w7).set
    have rr:Rq w8 c (dnQ ⟨i9,so,e9,a9⟩):=by rw [←hw];exact(uZ S7).rd.seto (wrI (so - 1))
    have S8:=hZ ((uZ S7).go (d':=0) bb rr)
    have HBB_8:=bx_go HBB_7 bb (by omega)
    have HBX_8:=bx_go HBX_7 bb (by omega)
    have HNx_8:=hZ ((uZ HNx_7).beside bb (by omega))
    have HW:=hZ hw
    clear hw bb rr S7 HBB_7 HBX_7 HNx_7
    go_upto_region 10 with fail
    rw [uZ HW]
    clear HW oc of
    obtain⟨Bo0,Bo1,Bo2,Bo3⟩:=row_cell4 (uZ HBB_8)
    obtain⟨Xo0,Xo1,Xo2,Xo3,Xo4,Xo5,Xo6,Xo7,Xo8,Xo9⟩:=row_cell10 (uZ HBX_8)
    have hkn:=hZ (uZ HNx_8)
    obtain⟨w9,hwr⟩:∃zz,w8.alloc (.cells #[.int .i64 (kx:Int),.string (bA tx),.int .i64 (vkx:Int),.int .i64 (vnx:Int),.string (bA vsx),.slice none 0 0,.slice none 0 0,.bool fx,.slice akx nx ckx,.int .i64 (px:Int)] 29)=zz:=⟨_,rfl⟩
    have b:Below w8.heap.size w8 w9:=by rw [←hwr];exact(Below.refl _ _).alloc (Nat.le_refl _) _
    obtain⟨qr,hqr⟩:∃zz,w8.heap.size=zz:=⟨_,rfl⟩
    have HKr_9:Hid (Kr lox w9 _ (.slice (some ⟨qr,0,none⟩) _ _) [.int .i64 (kx:Int),.string (bA tx),.int .i64 (vkx:Int),.int .i64 (vnx:Int),.string (bA vsx),.slice none 0 0,.slice none 0 0,.bool fx,.slice akx nx ckx,.int .i64 (px:Int)] _):=hZ (by rw [←hwr,←hqr];exact Kr.mk' (uZ hkn) (by rw [hlx];decide))
    rw [hlx] at HKr_9
    have ltr:w.heap.size<qr:=by rw [←hqr];exact(uZ S8).lt
    have S9:=hZ ((uZ S8).below b)
    have HBB_9:=bx_be HBB_8 b
    have HBX_9:=bx_be HBX_8 b
    clear b hkn S8 HBB_8 HBX_8 HNx_8
    have hr1:=okq_some (uZ HJ4)
    have hnn:=(uZ HKr_9).node' hlx 16 t 0 0 [] false p
    obtain⟨Bc0,Bc1,Bc2,Bc3⟩:=row_cell4 (uZ HBB_9)
    have HR:=hZ (hr1)
    have BX:=(uZ S9).bx
    rw [hG] at BX
    obtain⟨g0,g1,g2,g3,g4,g5,g6,g7,g8,g9⟩:=row_cell10 BX
    obtain⟨z0,z1,z2,z3,z4,z5,z6,z7,z8,z9⟩:=frozen10 BX
    clear BX
    have FF:=hZ (Sq.done (uZ S9) (hnn.low (by omega)) rfl hG)
    go_wp2_with fail
    refine bodyPost_ret (ret_c1 (p:=2) (T:=29) rfl _ _ G _ _ _ rfl (uZ FF).1 Tryz.underlying29 rfl size_nd) rfl ?_
    rw [uZ HR]
    exact(uZ FF).2
   ·have HJ3:=hZ ((by have:=(uZ HJ2);rw [if_neg he] at this;exact this))
    clear HJ2
    have he0:¬(((opQ c.ts σ).2.e:Nat):Int)=0:=by omega
    have he1:((((opQ c.ts σ).2.e:Nat):Int) == 0)=false:=beq_eq_false_iff_ne.2 he0
    have he2:((((opQ c.ts σ).2.e:Nat):Int) != 0)=true:=by simp;omega
    have ec:=(uZ S5).rd.cells.2.2.2.1
    have hr1:=okq_some (uZ HJ3)
    have hnn:=NdOk.leaf (lo:=w.heap.size+1) (w:=w5) (uZ S5).lt 0 [] 0 0 [] false 0
    generalize (opQ c.ts σ).2=s9 at *
    have HR:=hZ (hr1)
    have BX:=(uZ S5).bx
    rw [hG] at BX
    obtain⟨g0,g1,g2,g3,g4,g5,g6,g7,g8,g9⟩:=row_cell10 BX
    obtain⟨z0,z1,z2,z3,z4,z5,z6,z7,z8,z9⟩:=frozen10 BX
    clear BX
    have FF:=hZ (Sq.done (uZ S5) (hnn) rfl hG)
    go_wp2_with fail
    refine bodyPost_ret (ret_c1 (p:=2) (T:=29) rfl _ _ G _ _ _ rfl (uZ FF).1 Tryz.underlying29 rfl size_nd) rfl ?_
    rw [uZ HR]
    exact(uZ FF).2
 ·have CC:=hZ ((by have:=signq_any (uZ S1).rd [45];rw [hq] at this;exact this))
  go_wp2_with fail
  refine(uZ CC).mono ?_
  rintro e w2 ⟨rfl,b⟩
  have S2:=hZ ((uZ S1).below b)
  clear b CC S1
  rcases Bool.eq_false_or_eq_true (isQ c.ts 5 [33] σ) with hq2|hq2
  ·have HJ2:=hZ ((by have:=(uZ HJ1);rw [if_pos (Or.inr hq2)] at this;exact this))
   clear HJ1
   have CC:=hZ ((by have:=signq_any (uZ S2).rd [33];rw [hq2] at this;exact this))
   go_wp2_with fail
   refine(uZ CC).mono ?_
   rintro e w3 ⟨rfl,b⟩
   have S3:=hZ ((uZ S2).below b)
   clear b CC S2
   obtain⟨⟨k,t,n,p⟩,ht⟩:∃zz,(opQ c.ts σ).1=zz:=⟨_,rfl⟩
   have HT:=hZ ht
   clear ht
   have CC:=hZ ((by have:=opens_any (uZ S3).rd;rw [uZ HT] at this;simp only [tkA] at this;exact this))
   go_wp2_with fail
   refine(uZ CC).mono ?_
   rintro e w4 ⟨rfl,r2,b⟩
   have S4:=hZ ((uZ S3).go (d':=0) b r2)
   clear b r2 CC S3
   go_upto_region 6 with fail
   obtain⟨w5,hw⟩:∃zz,w4.alloc (.cells #[.int .i64 (k:Int),.string (bA t),.int .i64 (n:Int),.int .i64 (p:Int)] 52)=zz:=⟨_,rfl⟩
   have b:Below w4.heap.size w4 w5:=by rw [←hw];exact(Below.refl _ _).alloc (Nat.le_refl _) _
   obtain⟨B,hQ⟩:∃zz,w4.heap.size=zz:=⟨_,rfl⟩
   have HBB_5:Hid (w5.heap[B]?=some (.cells #[.int .i64 (k:Int),.string (bA t),.int .i64 (n:Int),.int .i64 (p:Int)] 52 (0,0))):=hZ (by rw [←hw,←hQ];exact heap_alloc_new _ _)
   have S5:=hZ ((uZ S4).below b)
   have ltB:w.heap.size<B:=by rw [←hQ];exact(uZ S4).lt
   rw [hw]
   try rw [hQ]
   clear hw hQ b S4
   by_cases he:(opQ c.ts σ).2.e=0
   ·have HJ3:=hZ ((by have:=(uZ HJ2);rw [if_pos he,uZ HT] at this;exact this))
    clear HJ2
    have he0:(((opQ c.ts σ).2.e:Nat):Int)=0:=by omega
    have ec:=(uZ S5).rd.cells.2.2.2.1
    rw [he0] at ec
    obtain⟨nsx,sx,hy,hth⟩:=bq_some (uZ HJ3)
    have HJ4:=hZ (hth)
    clear HJ3
    clear hth
    have CR:=hZ (ihu hy (uZ S5).rd)
    clear hy
    go_wp2_with fail
    refine(uZ CR).mono ?_
    rintro e w6 ⟨kx,tx,vkx,vnx,vsx,fx,nx,akx,ckx,px,Zx,rfl,hlx,hn,r2,b⟩
    simp only [] at hlx hn r2
    have S6:=hZ ((uZ S5).go (d':=0) b r2)
    have HBB_6:=bx_go HBB_5 b (by omega)
    obtain⟨lox,hlo⟩:∃zz,w5.heap.size=zz:=⟨_,rfl⟩
    have ltlox:w.heap.size<lox:=by rw [←hlo];exact(uZ S5).lt
    have lqB_x:B<lox:=by rw [←hlo];exact(Array.getElem?_eq_some_iff.1 (uZ HBB_5)).1
    rw [hlo] at hn
    have HNx_6:=hZ hn
    clear hlo b r2 hn CR S5 HBB_5
    go_upto_region 9 with fail
    obtain⟨w7,hw⟩:∃zz,w6.alloc (.cells #[.int .i64 (kx:Int),.string (bA tx),.int .i64 (vkx:Int),.int .i64 (vnx:Int),.string (bA vsx),.slice none 0 0,.slice none 0 0,.bool fx,.slice akx nx ckx,.int .i64 (px:Int)] 29)=zz:=⟨_,rfl⟩
    have b:Below w6.heap.size w6 w7:=by rw [←hw];exact(Below.refl _ _).alloc (Nat.le_refl _) _
    obtain⟨X,hQ⟩:∃zz,w6.heap.size=zz:=⟨_,rfl⟩
    have HBX_7:Hid (w7.heap[X]?=some (.cells #[.int .i64 (kx:Int),.string (bA tx),.int .i64 (vkx:Int),.int .i64 (vnx:Int),.string (bA vsx),.slice none 0 0,.slice none 0 0,.bool fx,.slice akx nx ckx,.int .i64 (px:Int)] 29 (0,0))):=hZ (by rw [←hw,←hQ];exact heap_alloc_new _ _)
    have S7:=hZ ((uZ S6).below b)
    have HBB_7:=bx_be HBB_6 b
    have HNx_7:=hZ ((uZ HNx_6).beside (Beside.of_below (gr:=c.g) b) (by omega))
    have lB_X:B<X:=by rw [←hQ];exact(Array.getElem?_eq_some_iff.1 (uZ HBB_6)).1
    have ANx_X:=hZ ((uZ HNx_6).fresh hQ)
    have ltX:w.heap.size<X:=by rw [←hQ];exact(uZ S6).lt
    rw [hw]
    try rw [hQ]
    clear hw hQ b S6 HBB_6 HNx_6
    have oc:=(uZ S7).rd.cells.2.2.1
    have of:=(uZ S7).rd.frz.2.1
    obtain⟨i9,so,e9,a9⟩:=sx
    simp only [] at oc
    obtain⟨w8,hw⟩:∃zz,w7.setCell ⟨c.g,2,none⟩ (.int .i64 (wrap64 (so - 1)))=zz:=⟨_,rfl⟩
    have bb:Beside c.g w7 w8:=by rw [←hw];exact(Beside.refl c.g w7).set
    have rr:Rq w8 c (dnQ ⟨i9,so,e9,a9⟩):=by rw [←hw];exact(uZ S7).rd.seto (wrI (so - 1))
    have S8:=hZ ((uZ S7).go (d':=0) bb rr)
    have HBB_8:=bx_go HBB_7 bb (by omega)
    have HBX_8:=bx_go HBX_7 bb (by omega)
    have HNx_8:=hZ ((uZ HNx_7).beside bb (by omega))
    have HW:=hZ hw
    clear hw bb rr S7 HBB_7 HBX_7 HNx_7
    go_upto_region 10 with fail
    rw [uZ HW]
    clear HW oc of
    obtain⟨Bo0,Bo1,Bo2,Bo3⟩:=row_cell4 (uZ HBB_8)
    obtain⟨Xo0,Xo1,Xo2,Xo3,Xo4,Xo5,Xo6,Xo7,Xo8,Xo9⟩:=row_cell10 (uZ HBX_8)
    have hkn:=hZ (uZ HNx_8)
    obtain⟨w9,hwr⟩:∃zz,w8.alloc (.cells #[.int .i64 (kx:Int),.string (bA tx),.int .i64 (vkx:Int),.int .i64 (vnx:Int),.string (bA vsx),.slice none 0 0,.slice none 0 0,.bool fx,.slice akx nx ckx,.int .i64 (px:Int)] 29)=zz:=⟨_,rfl⟩
    have b:Below w8.heap.size w8 w9:=by rw [←hwr];exact(Below.refl _ _).alloc (Nat.le_refl _) _
    obtain⟨qr,hqr⟩:∃zz,w8.heap.size=zz:=⟨_,rfl⟩
    have HKr_9:Hid (Kr lox w9 _ (.slice (some ⟨qr,0,none⟩) _ _) [.int .i64 (kx:Int),.string (bA tx),.int .i64 (vkx:Int),.int .i64 (vnx:Int),.string (bA vsx),.slice none 0 0,.slice none 0 0,.bool fx,.slice akx nx ckx,.int .i64 (px:Int)] _):=hZ (by rw [←hwr,←hqr];exact Kr.mk' (uZ hkn) (by rw [hlx];decide))
    rw [hlx] at HKr_9
    have ltr:w.heap.size<qr:=by rw [←hqr];exact(uZ S8).lt
    have S9:=hZ ((uZ S8).below b)
    have HBB_9:=bx_be HBB_8 b
    have HBX_9:=bx_be HBX_8 b
    clear b hkn S8 HBB_8 HBX_8 HNx_8
    have hr1:=okq_some (uZ HJ4)
    have hnn:=(uZ HKr_9).node' hlx 16 t 0 0 [] false p
    obtain⟨Bc0,Bc1,Bc2,Bc3⟩:=row_cell4 (uZ HBB_9)
    have HR:=hZ (hr1)
    have BX:=(uZ S9).bx
    rw [hG] at BX
    obtain⟨g0,g1,g2,g3,g4,g5,g6,g7,g8,g9⟩:=row_cell10 BX
    obtain⟨z0,z1,z2,z3,z4,z5,z6,z7,z8,z9⟩:=frozen10 BX
    clear BX
    have FF:=hZ (Sq.done (uZ S9) (hnn.low (by omega)) rfl hG)
    go_wp2_with fail
    refine bodyPost_ret (ret_c1 (p:=2) (T:=29) rfl _ _ G _ _ _ rfl (uZ FF).1 Tryz.underlying29 rfl size_nd) rfl ?_
    rw [uZ HR]
    exact(uZ FF).2
   ·have HJ3:=hZ ((by have:=(uZ HJ2);rw [if_neg he] at this;exact this))
    clear HJ2
    have he0:¬(((opQ c.ts σ).2.e:Nat):Int)=0:=by omega
    have he1:((((opQ c.ts σ).2.e:Nat):Int) == 0)=false:=beq_eq_false_iff_ne.2 he0
    have he2:((((opQ c.ts σ).2.e:Nat):Int) != 0)=true:=by simp;omega
    have ec:=(uZ S5).rd.cells.2.2.2.1
    have hr1:=okq_some (uZ HJ3)
    have hnn:=NdOk.leaf (lo:=w.heap.size+1) (w:=w5) (uZ S5).lt 0 [] 0 0 [] false 0
    generalize (opQ c.ts σ).2=s9 at *
    have HR:=hZ (hr1)
    have BX:=(uZ S5).bx
    rw [hG] at BX
    obtain⟨g0,g1,g2,g3,g4,g5,g6,g7,g8,g9⟩:=row_cell10 BX
    obtain⟨z0,z1,z2,z3,z4,z5,z6,z7,z8,z9⟩:=frozen10 BX
    clear BX
    have FF:=hZ (Sq.done (uZ S5) (hnn) rfl hG)
    go_wp2_with fail
    refine bodyPost_ret (ret_c1 (p:=2) (T:=29) rfl _ _ G _ _ _ rfl (uZ FF).1 Tryz.underlying29 rfl size_nd) rfl ?_
    rw [uZ HR]
    exact(uZ FF).2
  ·have HJ2:=hZ ((by have:=(uZ HJ1);rw [if_neg (by rw [hq,hq2];simp)] at this;exact this))
   clear HJ1
   have CC:=hZ ((by have:=signq_any (uZ S2).rd [33];rw [hq2] at this;exact this))
   go_wp2_with fail
   refine(uZ CC).mono ?_
   rintro e w3 ⟨rfl,b⟩
   have S3:=hZ ((uZ S2).below b)
   clear b CC S2
   obtain⟨⟨nsx,sx⟩,hrx⟩:∃zz,r=zz:=⟨_,rfl⟩
   have CR:=hZ (ihp (uZ HJ2) (uZ S3).rd)
   have HR1:=hZ hrx
   rw [hrx] at CR
   clear hrx
   go_wp2_with fail
   refine(uZ CR).mono ?_
   rintro e wz ⟨kx,tx,vkx,vnx,vsx,fx,nx,akx,ckx,px,Zx,rfl,hlx,hn,r2,b⟩
   simp only [] at hlx hn r2
   have S90:=hZ ((uZ S3).go (d':=0) b r2)
   have HNx_90:=hZ (hn.low (lo':=w.heap.size+1) (uZ S3).lt)
   clear b r2 hn CR S3
   have HR:=hZ (uZ HR1)
   have BX:=(uZ S90).bx
   rw [hG] at BX
   obtain⟨g0,g1,g2,g3,g4,g5,g6,g7,g8,g9⟩:=row_cell10 BX
   obtain⟨z0,z1,z2,z3,z4,z5,z6,z7,z8,z9⟩:=frozen10 BX
   clear BX
   have FF:=hZ (Sq.done (uZ S90) (uZ HNx_90) hlx hG)
   go_wp2_with fail
   refine bodyPost_ret (ret_c1 (p:=2) (T:=29) rfl _ _ G _ _ _ rfl (uZ FF).1 Tryz.underlying29 rfl size_nd) rfl ?_
   rw [uZ HR]
   exact(uZ FF).2
end Go.Proofs.YtilhlmmcdfoaoaaGreatDoor
