/-
  Layer 17 (parse): the document's reader: literals, brackets; conditions: the reader's state.
  Layer 17 (parse): the document's reader: brackets; conditions: the reader's state.
-/
import Derived.Test.YtilhlmmcdfoaoaaGreatDoorE12
set_option linter.unusedVariables false
set_option linter.unusedSimpArgs false
namespace Go.Proofs.YtilhlmmcdfoaoaaGreatDoor
open Go.RowKit
set_option linter.unusedVariables false
set_option linter.unusedSimpArgs false
theorem row_cell5q {w:World} {g:Nat} {v0 v1 v2 v3 v4:Value} {T:TypeId} (h:w.heap[g]?=some (.cells #[v0,v1,v2,v3,v4] T (0,0))):w.cell? ⟨g,0,none⟩=some v0∧w.cell? ⟨g,1,none⟩=some v1∧w.cell? ⟨g,2,none⟩=some v2∧w.cell? ⟨g,3,none⟩=some v3∧w.cell? ⟨g,4,none⟩=some v4:=
 ⟨by rw [cell_of_row w g 0 _ _ (0,0) h];rfl,by rw [cell_of_row w g 1 _ _ (0,0) h];rfl,by rw [cell_of_row w g 2 _ _ (0,0) h];rfl,by rw [cell_of_row w g 3 _ _ (0,0) h];rfl,by rw [cell_of_row w g 4 _ _ (0,0) h];rfl⟩
set_option maxRecDepth 100000 in
set_option maxHeartbeats 1000000 in
theorem litq_any (vk vn:Nat) (vs:List UInt8) (p:Nat) (w:World) :
  Calls Tryz.prog 137 #[.agg #[.int .i64 (vk:Int),.int .i64 (vn:Int),.string (bA vs),.slice none 0 0,.slice none 0 0],.int .i64 (p:Int)] w fun e w'=>e=.returned (.agg #[.int .i64 13,.string ⟨#[]⟩,.int .i64 (vk:Int),.int .i64 (vn:Int),.string (bA vs),.slice none 0 0,.slice none 0 0,.bool false,.slice none 0 0,.int .i64 (p:Int)])∧Below w.heap.size w w':=by
 obtain⟨w1,hw1⟩:∃w1,w.alloc (.cells #[.int .i64 (vk:Int),.int .i64 (vn:Int),.string (bA vs),.slice none 0 0,.slice none 0 0] 26)=w1:=⟨_,rfl⟩
 have A1:w1.heap[w.heap.size]?=some (.cells #[.int .i64 (vk:Int),.int .i64 (vn:Int),.string (bA vs),.slice none 0 0,.slice none 0 0] 26 (0,0)):=by rw [←hw1];exact heap_alloc_new _ _
 have B1:Below w.heap.size w w1:=by rw [←hw1];exact(Below.refl _ _).alloc (Nat.le_refl _) _
 obtain⟨w2,hw2⟩:∃w2,w1.alloc (.cells #[.int .i64 0,.string ⟨#[]⟩,.int .i64 0,.int .i64 0,.string ⟨#[]⟩,.slice none 0 0,.slice none 0 0,.bool false,.slice none 0 0,.int .i64 0] 29)=w2:=⟨_,rfl⟩
 have A2:w2.heap[w1.heap.size]?=some (.cells #[.int .i64 0,.string ⟨#[]⟩,.int .i64 0,.int .i64 0,.string ⟨#[]⟩,.slice none 0 0,.slice none 0 0,.bool false,.slice none 0 0,.int .i64 0] 29 (0,0)):=by rw [←hw2];exact heap_alloc_new _ _
 have B2:Below w1.heap.size w1 w2:=by rw [←hw2];exact(Below.refl _ _).alloc (Nat.le_refl _) _
 have hlt:w.heap.size<w1.heap.size:=(Array.getElem?_eq_some_iff.1 A1).1
 have A3:=(B2.block _ hlt).trans A1
 have HB:=hZ (B1.trans (B2.mono B1.size))
 obtain⟨Q,hQ⟩:∃Q,w.heap.size=Q:=⟨_,rfl⟩
 have hG:w1.heap.size=Q+1:=by rw [←hw1,←hQ];simp
 rw [hQ] at A3 hlt
 rw [hG] at A2 hlt
 obtain⟨q0,q1,q2,q3,q4⟩:=row_cell5q A3
 obtain⟨g0,g1,g2,g3,g4,g5,g6,g7,g8,g9⟩:=row_cell10 A2
 obtain⟨z0,z1,z2,z3,z4,z5,z6,z7,z8,z9⟩:=frozen10 A2
 have W3:=hZ (set10 A2 (.int .i64 13) (.string ⟨#[]⟩) (.int .i64 (vk:Int)) (.int .i64 (vn:Int)) (.string (bA vs)) (.slice none 0 0) (.slice none 0 0) (.bool false) (.slice none 0 0) (.int .i64 (p:Int)))
 have E3:Hid (Below w.heap.size w ((((((((((w2.setCell ⟨Q+1,0,none⟩ (.int .i64 13)).setCell ⟨Q+1,1,none⟩ (.string ⟨#[]⟩)).setCell ⟨Q+1,2,none⟩ (.int .i64 (vk:Int))).setCell ⟨Q+1,3,none⟩ (.int .i64 (vn:Int))).setCell ⟨Q+1,4,none⟩ (.string (bA vs))).setCell ⟨Q+1,5,none⟩ (.slice none 0 0)).setCell ⟨Q+1,6,none⟩ (.slice none 0 0)).setCell ⟨Q+1,7,none⟩ (.bool false)).setCell ⟨Q+1,8,none⟩ (.slice none 0 0)).setCell ⟨Q+1,9,none⟩ (.int .i64 (p:Int)))):=hZ (by
  have e:∀(x:World) (f:Nat) (v:Value),Below w.heap.size w x→Below w.heap.size w (x.setCell ⟨Q+1,f,none⟩ v):=fun x f v hx=>hx.setCell (p:=⟨Q+1,f,none⟩) (show w.heap.size≤Q+1 by omega) v
  iterate 10 refine e _ _ _ ?_
  exact uZ HB)
 have HW1:=hZ hw1
 have HW2:=hZ hw2
 clear A1 B1 A2 B2 A3 HB hw1 hw2
 go_enter Tryz.func137,Tryz.ntmps137
 go_upto_region 1 with fail
 rw [uZ HW1,uZ HW2]
 try rw [hQ]
 clear HW1 HW2
 go_wp2_with fail
 exact bodyPost_ret (ret_c1 (p:=4) (T:=29) rfl _ _ (Q+1) _ _ _ rfl (uZ W3) Tryz.underlying29 rfl size_nd) rfl ⟨rfl,uZ E3⟩
set_option maxRecDepth 100000 in
set_option maxHeartbeats 1000000 in
theorem brackq_step {c:Cx} {σ:Sg} {w0:World} {r:List Nd × Sg} {f:Nat} (ihe:∀{c:Cx} {σ:Sg} {w:World} {r:List Nd × Sg},RJ c.ts f 0 0 [] σ=some r→Rq w c σ→Calls Tryz.prog 91 #[.pointer (some ⟨c.g,0,none⟩)] w fun e w'=>NqP c w r e w') (ihl:∀{c:Cx} {σ:Sg} {w:World} {r:List Nd × Sg},RJ c.ts f 6 93 [] σ=some r→Rq w c σ→Calls Tryz.prog 138 #[.pointer (some ⟨c.g,0,none⟩),.string ⟨#[93]⟩] w fun e w'=>KqP c w r e w') (ihq:∀{c:Cx} {σ:Sg} {w:World} {r:List Nd × Sg},RJ c.ts f 8 0 [] σ=some r→Rq w c σ→Calls Tryz.prog 140 #[.pointer (some ⟨c.g,0,none⟩)] w fun e w'=>KqP c w r e w') (hJ:RJ c.ts (f+1) 23 0 [] σ=some r) (h0:Rq w0 c σ) :
  Calls Tryz.prog 139 #[.pointer (some ⟨c.g,0,none⟩),.agg (tkA (tkQ c.ts σ))] w0 fun e w'=>NqP c w0 r e w':=by
 obtain⟨⟨k,t,n,p⟩,ht⟩:∃zz,tkQ c.ts σ=zz:=⟨_,rfl⟩
 have HT:=hZ ht
 rw [ht]
 simp only [tkA]
 clear ht
 obtain⟨w,hwb⟩:∃w,w0.alloc (.cells #[.int .i64 (k:Int),.string (bA t),.int .i64 (n:Int),.int .i64 (p:Int)] 52)=w:=⟨_,rfl⟩
 have b0:Below w0.heap.size w0 w:=by rw [←hwb];exact(Below.refl _ _).alloc (Nat.le_refl _) _
 have h:=h0.below b0
 have A0:w.heap[w0.heap.size]?=some (.cells #[.int .i64 (k:Int),.string (bA t),.int .i64 (n:Int),.int .i64 (p:Int)] 52 (0,0)):=by rw [←hwb];exact heap_alloc_new _ _
 suffices hX:Calls Tryz.prog 139 #[.pointer (some ⟨c.g,0,none⟩),.agg #[.int .i64 (k:Int),.string (bA t),.int .i64 (n:Int),.int .i64 (p:Int)]] w0 fun e w'=>NqP c w r e w' from hX.mono (fun e w' hp=>by
  obtain⟨k,t,vk,vn,vs,f,n,ak,ck,p,S,h1,h2,h3,h4,h5⟩:=hp
  exact⟨k,t,vk,vn,vs,f,n,ak,ck,p,S,h1,h2,h3.low b0.size,h4,(Beside.of_below b0).trans h5⟩)
 have S1:=hZ (Sq.start (d:=0) h 29 #[.int .i64 0,.string ⟨#[]⟩,.int .i64 0,.int .i64 0,.string ⟨#[]⟩,.slice none 0 0,.slice none 0 0,.bool false,.slice none 0 0,.int .i64 0])
 obtain⟨w1,hw1⟩:∃w1,w.alloc (.cells #[.int .i64 0,.string ⟨#[]⟩,.int .i64 0,.int .i64 0,.string ⟨#[]⟩,.slice none 0 0,.slice none 0 0,.bool false,.slice none 0 0,.int .i64 0] 29)=w1:=⟨_,rfl⟩
 rw [hw1] at S1
 have b1:Below w.heap.size w w1:=by rw [←hw1];exact(Below.refl _ _).alloc (Nat.le_refl _) _
 obtain⟨B,hB⟩:∃B,w0.heap.size=B:=⟨_,rfl⟩
 have hG:w.heap.size=B+1:=by rw [←hwb,←hB];simp
 rw [hB] at A0
 have HBB_1:Hid (w1.heap[B]?=some (.cells #[.int .i64 (k:Int),.string (bA t),.int .i64 (n:Int),.int .i64 (p:Int)] 52 (0,0))):=hZ ((b1.block B (by omega)).trans A0)
 have hgw:c.g<w.heap.size:=h.frz.2.2.2.2
 have hgB:c.g<B:=by rw [←hB];exact h0.frz.2.2.2.2
 clear h h0 b0 b1 A0
 go_enter Tryz.func139,Tryz.ntmps139
 have HJ0:=hZ (show qBrack c.ts (RJ c.ts f) σ=some r from hJ)
 clear hJ
 have HJ1:=hZ ((by have:=uZ HJ0;unfold qBrack at this;rw [uZ HT] at this;simp only [] at this;exact this))
 clear HJ0
 go_upto_region 1 with fail
 clear hw1 hwb
 by_cases hk:k=5
 ·subst hk
  by_cases h40:t=[40]
  ·subst h40
   have HJ2:=hZ ((by have:=(uZ HJ1);rw [if_pos ⟨rfl,by decide⟩] at this;exact this))
   clear HJ1
   have f40:((bA [40]).toList == [40])=true:=by kernel_rfl
   have f91:((bA [40]).toList == [91])=false:=by kernel_rfl
   have f123:((bA [40]).toList == [123])=false:=by kernel_rfl
   obtain⟨Bc0,Bc1,Bc2,Bc3⟩:=row_cell4 (uZ HBB_1)
   obtain⟨⟨kz,tz,nz,pz⟩,ht⟩:∃zz,(opQ c.ts σ).1=zz:=⟨_,rfl⟩
   have HTz:=hZ ht
   clear ht
   have CC:=hZ ((by have:=opens_any (uZ S1).rd;rw [uZ HTz] at this;simp only [tkA] at this;exact this))
   go_wp2_with fail
   refine(uZ CC).mono ?_
   rintro e w2 ⟨rfl,r2,b⟩
   have S2:=hZ ((uZ S1).go (d':=0) b r2)
   have HBB_2:=bx_go HBB_1 b (by omega)
   clear b r2 CC S1 HBB_1
   clear Bc0 Bc1 Bc2 Bc3
   by_cases he:(opQ c.ts σ).2.e=0
   ·have HJ3:=hZ ((by have:=(uZ HJ2);rw [if_pos he] at this;exact this))
    clear HJ2
    have he0:(((opQ c.ts σ).2.e:Nat):Int)=0:=by omega
    have ec:=(uZ S2).rd.cells.2.2.2.1
    rw [he0] at ec
    obtain⟨Bc0,Bc1,Bc2,Bc3⟩:=row_cell4 (uZ HBB_2)
    have HJ4:=hZ ((by have:=(uZ HJ3);first|rw [if_pos rfl] at this|rw [if_pos trivial] at this;exact this))
    clear HJ3
    obtain⟨nsx,sx,hy,hth⟩:=bq_some (uZ HJ4)
    have HJ5:=hZ (hth)
    clear HJ4
    clear hth
    have CR:=hZ (ihe hy (uZ S2).rd)
    clear hy
    go_wp2_with fail
    refine(uZ CR).mono ?_
    rintro e w3 ⟨kx,tx,vkx,vnx,vsx,fx,nx,akx,ckx,px,Zx,rfl,hlx,hn,r2,b⟩
    simp only [] at hlx hn r2
    have S3:=hZ ((uZ S2).go (d':=0) b r2)
    have HBB_3:=bx_go HBB_2 b (by omega)
    obtain⟨lox,hlo⟩:∃zz,w2.heap.size=zz:=⟨_,rfl⟩
    have ltlox:w.heap.size<lox:=by rw [←hlo];exact(uZ S2).lt
    have lqB_x:B<lox:=by rw [←hlo];exact(Array.getElem?_eq_some_iff.1 (uZ HBB_2)).1
    rw [hlo] at hn
    have HNx_3:=hZ hn
    clear hlo b r2 hn CR S2 HBB_2
    go_upto_region 10 with fail
    obtain⟨w4,hw⟩:∃zz,w3.alloc (.cells #[.int .i64 (kx:Int),.string (bA tx),.int .i64 (vkx:Int),.int .i64 (vnx:Int),.string (bA vsx),.slice none 0 0,.slice none 0 0,.bool fx,.slice akx nx ckx,.int .i64 (px:Int)] 29)=zz:=⟨_,rfl⟩
    have b:Below w3.heap.size w3 w4:=by rw [←hw];exact(Below.refl _ _).alloc (Nat.le_refl _) _
    obtain⟨X,hQ⟩:∃zz,w3.heap.size=zz:=⟨_,rfl⟩
    have HBX_4:Hid (w4.heap[X]?=some (.cells #[.int .i64 (kx:Int),.string (bA tx),.int .i64 (vkx:Int),.int .i64 (vnx:Int),.string (bA vsx),.slice none 0 0,.slice none 0 0,.bool fx,.slice akx nx ckx,.int .i64 (px:Int)] 29 (0,0))):=hZ (by rw [←hw,←hQ];exact heap_alloc_new _ _)
    have S4:=hZ ((uZ S3).below b)
    have HBB_4:=bx_be HBB_3 b
    have HNx_4:=hZ ((uZ HNx_3).beside (Beside.of_below (gr:=c.g) b) (by omega))
    have lB_X:B<X:=by rw [←hQ];exact(Array.getElem?_eq_some_iff.1 (uZ HBB_3)).1
    have ANx_X:=hZ ((uZ HNx_3).fresh hQ)
    have ltX:w.heap.size<X:=by rw [←hQ];exact(uZ S3).lt
    rw [hw]
    try rw [hQ]
    clear hw hQ b S3 HBB_3 HNx_3
    have CC:=hZ (closes_any (uZ S4).rd [41])
    go_wp2_with fail
    refine(uZ CC).mono ?_
    rintro e w5 ⟨rfl,r2,b⟩
    have S5:=hZ ((uZ S4).go (d':=0) b r2)
    have HBB_5:=bx_go HBB_4 b (by omega)
    have HBX_5:=bx_go HBX_4 b (by omega)
    have HNx_5:=hZ ((uZ HNx_4).beside b (by omega))
    clear b r2 CC S4 HBB_4 HBX_4 HNx_4
    have hr1:=okq_some (uZ HJ5)
    have HR:=hZ (hr1)
    have BX:=(uZ S5).bx
    rw [hG] at BX
    obtain⟨g0,g1,g2,g3,g4,g5,g6,g7,g8,g9⟩:=row_cell10 BX
    obtain⟨z0,z1,z2,z3,z4,z5,z6,z7,z8,z9⟩:=frozen10 BX
    clear BX
    obtain⟨Xc0,Xc1,Xc2,Xc3,Xc4,Xc5,Xc6,Xc7,Xc8,Xc9⟩:=row_cell10 (uZ HBX_5)
    have FF:=hZ (Sq.done (uZ S5) ((uZ HNx_5).low (lo':=w.heap.size+1) (by omega)) hlx hG)
    go_wp2_with fail
    refine bodyPost_ret (ret_c1 (p:=4) (T:=29) rfl _ _ (B+1) _ _ _ rfl (uZ FF).1 Tryz.underlying29 rfl size_nd) rfl ?_
    rw [uZ HR]
    exact(uZ FF).2
   ·have HJ3:=hZ ((by have:=(uZ HJ2);rw [if_neg he] at this;exact this))
    clear HJ2
    have he0:¬(((opQ c.ts σ).2.e:Nat):Int)=0:=by omega
    have he1:((((opQ c.ts σ).2.e:Nat):Int) == 0)=false:=beq_eq_false_iff_ne.2 he0
    have he2:((((opQ c.ts σ).2.e:Nat):Int) != 0)=true:=by simp;omega
    have ec:=(uZ S2).rd.cells.2.2.2.1
    generalize (opQ c.ts σ).2=s9 at *
    have hr1:=okq_some (uZ HJ3)
    have hnn:=NdOk.leaf (lo:=w.heap.size+1) (w:=w2) (uZ S2).lt 0 [] 0 0 [] false 0
    have HR:=hZ (hr1)
    have BX:=(uZ S2).bx
    rw [hG] at BX
    obtain⟨g0,g1,g2,g3,g4,g5,g6,g7,g8,g9⟩:=row_cell10 BX
    obtain⟨z0,z1,z2,z3,z4,z5,z6,z7,z8,z9⟩:=frozen10 BX
    clear BX
    have FF:=hZ (Sq.done (uZ S2) (hnn) rfl hG)
    go_wp2_with fail
    refine bodyPost_ret (ret_c1 (p:=4) (T:=29) rfl _ _ (B+1) _ _ _ rfl (uZ FF).1 Tryz.underlying29 rfl size_nd) rfl ?_
    rw [uZ HR]
    exact(uZ FF).2
  ·by_cases h91:t=[91]
   ·subst h91
    have HJ2:=hZ ((by have:=(uZ HJ1);rw [if_pos ⟨rfl,by decide⟩] at this;exact this))
    clear HJ1
    have f40:((bA [91]).toList == [40])=false:=by kernel_rfl
    have f91:((bA [91]).toList == [91])=true:=by kernel_rfl
    have f123:((bA [91]).toList == [123])=false:=by kernel_rfl
    obtain⟨Bc0,Bc1,Bc2,Bc3⟩:=row_cell4 (uZ HBB_1)
    obtain⟨⟨kz,tz,nz,pz⟩,ht⟩:∃zz,(opQ c.ts σ).1=zz:=⟨_,rfl⟩
    have HTz:=hZ ht
    clear ht
    have CC:=hZ ((by have:=opens_any (uZ S1).rd;rw [uZ HTz] at this;simp only [tkA] at this;exact this))
    go_wp2_with fail
    refine(uZ CC).mono ?_
    rintro e w2 ⟨rfl,r2,b⟩
    have S2:=hZ ((uZ S1).go (d':=0) b r2)
    have HBB_2:=bx_go HBB_1 b (by omega)
    clear b r2 CC S1 HBB_1
    clear Bc0 Bc1 Bc2 Bc3
    by_cases he:(opQ c.ts σ).2.e=0
    ·have HJ3:=hZ ((by have:=(uZ HJ2);rw [if_pos he] at this;exact this))
     clear HJ2
     have he0:(((opQ c.ts σ).2.e:Nat):Int)=0:=by omega
     have ec:=(uZ S2).rd.cells.2.2.2.1
     rw [he0] at ec
     obtain⟨Bc0,Bc1,Bc2,Bc3⟩:=row_cell4 (uZ HBB_2)
     have HJ4:=hZ ((by have:=(uZ HJ3);rw [if_neg (by decide)] at this;(first|rw [if_pos rfl] at this|rw [if_pos trivial] at this);exact this))
     clear HJ3
     obtain⟨nsx,sx,hy,hth⟩:=bq_some (uZ HJ4)
     have HJ5:=hZ (hth)
     clear HJ4
     clear hth
     have CR:=hZ (ihl hy (uZ S2).rd)
     clear hy
     go_wp2_with fail
     refine(uZ CR).mono ?_
     rintro e w3 ⟨ax,qx,Cx,Zx,rfl,hk,r2,b⟩
     simp only [] at hk r2
     have S3:=hZ ((uZ S2).go (d':=0) b r2)
     have HBB_3:=bx_go HBB_2 b (by omega)
     obtain⟨lox,hlo⟩:∃zz,w2.heap.size=zz:=⟨_,rfl⟩
     have ltlox:w.heap.size<lox:=by rw [←hlo];exact(uZ S2).lt
     have lqB_x:B<lox:=by rw [←hlo];exact(Array.getElem?_eq_some_iff.1 (uZ HBB_2)).1
     rw [hlo] at hk
     have HKx_3:=hZ hk
     clear hlo b r2 hk CR S2 HBB_2
     obtain⟨nx,hnx⟩:∃zz,nsx.length=zz:=⟨_,rfl⟩
     rw [hnx] at HKx_3
     try rw [hnx]
     clear Bc0 Bc1 Bc2 Bc3
     obtain⟨Bc0,Bc1,Bc2,Bc3⟩:=row_cell4 (uZ HBB_3)
     have hr1:=okq_some (uZ HJ5)
     have hnn:=(uZ HKx_3).node' hnx 18 [] 0 0 [] false p
     have HR:=hZ (hr1)
     have BX:=(uZ S3).bx
     rw [hG] at BX
     obtain⟨g0,g1,g2,g3,g4,g5,g6,g7,g8,g9⟩:=row_cell10 BX
     obtain⟨z0,z1,z2,z3,z4,z5,z6,z7,z8,z9⟩:=frozen10 BX
     clear BX
     have FF:=hZ (Sq.done (uZ S3) (hnn.low (lo':=w.heap.size+1) (by omega)) rfl hG)
     go_wp2_with fail
     refine bodyPost_ret (ret_c1 (p:=4) (T:=29) rfl _ _ (B+1) _ _ _ rfl (uZ FF).1 Tryz.underlying29 rfl size_nd) rfl ?_
     rw [uZ HR]
     exact(uZ FF).2
    ·have HJ3:=hZ ((by have:=(uZ HJ2);rw [if_neg he] at this;exact this))
     clear HJ2
     have he0:¬(((opQ c.ts σ).2.e:Nat):Int)=0:=by omega
     have he1:((((opQ c.ts σ).2.e:Nat):Int) == 0)=false:=beq_eq_false_iff_ne.2 he0
     have he2:((((opQ c.ts σ).2.e:Nat):Int) != 0)=true:=by simp;omega
     have ec:=(uZ S2).rd.cells.2.2.2.1
     generalize (opQ c.ts σ).2=s9 at *
     have hr1:=okq_some (uZ HJ3)
     have hnn:=NdOk.leaf (lo:=w.heap.size+1) (w:=w2) (uZ S2).lt 0 [] 0 0 [] false 0
     have HR:=hZ (hr1)
     have BX:=(uZ S2).bx
     rw [hG] at BX
     obtain⟨g0,g1,g2,g3,g4,g5,g6,g7,g8,g9⟩:=row_cell10 BX
     obtain⟨z0,z1,z2,z3,z4,z5,z6,z7,z8,z9⟩:=frozen10 BX
     clear BX
     have FF:=hZ (Sq.done (uZ S2) (hnn) rfl hG)
     go_wp2_with fail
     refine bodyPost_ret (ret_c1 (p:=4) (T:=29) rfl _ _ (B+1) _ _ _ rfl (uZ FF).1 Tryz.underlying29 rfl size_nd) rfl ?_
     rw [uZ HR]
     exact(uZ FF).2
   ·by_cases h123:t=[123]
    ·subst h123
     have HJ2:=hZ ((by have:=(uZ HJ1);rw [if_pos ⟨rfl,by decide⟩] at this;exact this))
     clear HJ1
     have f40:((bA [123]).toList == [40])=false:=by kernel_rfl
     have f91:((bA [123]).toList == [91])=false:=by kernel_rfl
     have f123:((bA [123]).toList == [123])=true:=by kernel_rfl
     obtain⟨Bc0,Bc1,Bc2,Bc3⟩:=row_cell4 (uZ HBB_1)
     obtain⟨⟨kz,tz,nz,pz⟩,ht⟩:∃zz,(opQ c.ts σ).1=zz:=⟨_,rfl⟩
     have HTz:=hZ ht
     clear ht
     have CC:=hZ ((by have:=opens_any (uZ S1).rd;rw [uZ HTz] at this;simp only [tkA] at this;exact this))
     go_wp2_with fail
     refine(uZ CC).mono ?_
     rintro e w2 ⟨rfl,r2,b⟩
     have S2:=hZ ((uZ S1).go (d':=0) b r2)
     have HBB_2:=bx_go HBB_1 b (by omega)
     clear b r2 CC S1 HBB_1
     clear Bc0 Bc1 Bc2 Bc3
     by_cases he:(opQ c.ts σ).2.e=0
     ·have HJ3:=hZ ((by have:=(uZ HJ2);rw [if_pos he] at this;exact this))
      clear HJ2
      have he0:(((opQ c.ts σ).2.e:Nat):Int)=0:=by omega
      have ec:=(uZ S2).rd.cells.2.2.2.1
      rw [he0] at ec
      obtain⟨Bc0,Bc1,Bc2,Bc3⟩:=row_cell4 (uZ HBB_2)
      have HJ4:=hZ ((by have:=(uZ HJ3);rw [if_neg (by decide)] at this;rw [if_neg (by decide)] at this;exact this))
      clear HJ3
      obtain⟨nsx,sx,hy,hth⟩:=bq_some (uZ HJ4)
      have HJ5:=hZ (hth)
      clear HJ4
      clear hth
      have CR:=hZ (ihq hy (uZ S2).rd)
      clear hy
      go_wp2_with fail
      refine(uZ CR).mono ?_
      rintro e w3 ⟨ax,qx,Cx,Zx,rfl,hk,r2,b⟩
      simp only [] at hk r2
      have S3:=hZ ((uZ S2).go (d':=0) b r2)
      have HBB_3:=bx_go HBB_2 b (by omega)
      obtain⟨lox,hlo⟩:∃zz,w2.heap.size=zz:=⟨_,rfl⟩
      have ltlox:w.heap.size<lox:=by rw [←hlo];exact(uZ S2).lt
      have lqB_x:B<lox:=by rw [←hlo];exact(Array.getElem?_eq_some_iff.1 (uZ HBB_2)).1
      rw [hlo] at hk
      have HKx_3:=hZ hk
      clear hlo b r2 hk CR S2 HBB_2
      obtain⟨nx,hnx⟩:∃zz,nsx.length=zz:=⟨_,rfl⟩
      rw [hnx] at HKx_3
      try rw [hnx]
      clear Bc0 Bc1 Bc2 Bc3
      obtain⟨Bc0,Bc1,Bc2,Bc3⟩:=row_cell4 (uZ HBB_3)
      have hr1:=okq_some (uZ HJ5)
      have hnn:=(uZ HKx_3).node' hnx 19 [] 0 0 [] false p
      have HR:=hZ (hr1)
      have BX:=(uZ S3).bx
      rw [hG] at BX
      obtain⟨g0,g1,g2,g3,g4,g5,g6,g7,g8,g9⟩:=row_cell10 BX
      obtain⟨z0,z1,z2,z3,z4,z5,z6,z7,z8,z9⟩:=frozen10 BX
      clear BX
      have FF:=hZ (Sq.done (uZ S3) (hnn.low (lo':=w.heap.size+1) (by omega)) rfl hG)
      go_wp2_with fail
      refine bodyPost_ret (ret_c1 (p:=4) (T:=29) rfl _ _ (B+1) _ _ _ rfl (uZ FF).1 Tryz.underlying29 rfl size_nd) rfl ?_
      rw [uZ HR]
      exact(uZ FF).2
     ·have HJ3:=hZ ((by have:=(uZ HJ2);rw [if_neg he] at this;exact this))
      clear HJ2
      have he0:¬(((opQ c.ts σ).2.e:Nat):Int)=0:=by omega
      have he1:((((opQ c.ts σ).2.e:Nat):Int) == 0)=false:=beq_eq_false_iff_ne.2 he0
      have he2:((((opQ c.ts σ).2.e:Nat):Int) != 0)=true:=by simp;omega
      have ec:=(uZ S2).rd.cells.2.2.2.1
      generalize (opQ c.ts σ).2=s9 at *
      have hr1:=okq_some (uZ HJ3)
      have hnn:=NdOk.leaf (lo:=w.heap.size+1) (w:=w2) (uZ S2).lt 0 [] 0 0 [] false 0
      have HR:=hZ (hr1)
      have BX:=(uZ S2).bx
      rw [hG] at BX
      obtain⟨g0,g1,g2,g3,g4,g5,g6,g7,g8,g9⟩:=row_cell10 BX
      obtain⟨z0,z1,z2,z3,z4,z5,z6,z7,z8,z9⟩:=frozen10 BX
      clear BX
      have FF:=hZ (Sq.done (uZ S2) (hnn) rfl hG)
      go_wp2_with fail
      refine bodyPost_ret (ret_c1 (p:=4) (T:=29) rfl _ _ (B+1) _ _ _ rfl (uZ FF).1 Tryz.underlying29 rfl size_nd) rfl ?_
      rw [uZ HR]
      exact(uZ FF).2
    ·have f40:((bA t).toList == [40])=false:=beq_eq_false_iff_ne.2 (fun e=>h40 (by rw [bA_list] at e;exact e))
     have f91:((bA t).toList == [91])=false:=beq_eq_false_iff_ne.2 (fun e=>h91 (by rw [bA_list] at e;exact e))
     have f123:((bA t).toList == [123])=false:=beq_eq_false_iff_ne.2 (fun e=>h123 (by rw [bA_list] at e;exact e))
     have HJ2:=hZ ((by have:=(uZ HJ1);rw [if_neg (fun e=>by rcases e.2 with e|e|e;exact h40 e;exact h91 e;exact h123 e)] at this;exact this))
     clear HJ1
     obtain⟨Bc0,Bc1,Bc2,Bc3⟩:=row_cell4 (uZ HBB_1)
     have CC:=hZ (wrong_any (uZ S1).rd 170)
     go_wp2_with fail
     refine(uZ CC).mono ?_
     rintro e w2 ⟨rfl,r2,b⟩
     have S2:=hZ ((uZ S1).go (d':=0) b r2)
     have HBB_2:=bx_go HBB_1 b (by omega)
     clear b r2 CC S1 HBB_1
     have hr1:=okq_some (uZ HJ2)
     have hnn:=NdOk.leaf (lo:=w.heap.size+1) (w:=w2) (uZ S2).lt 0 [] 0 0 [] false 0
     have HR:=hZ (hr1)
     have BX:=(uZ S2).bx
     rw [hG] at BX
     obtain⟨g0,g1,g2,g3,g4,g5,g6,g7,g8,g9⟩:=row_cell10 BX
     obtain⟨z0,z1,z2,z3,z4,z5,z6,z7,z8,z9⟩:=frozen10 BX
     clear BX
     have FF:=hZ (Sq.done (uZ S2) (hnn) rfl hG)
     go_wp2_with fail
     refine bodyPost_ret (ret_c1 (p:=4) (T:=29) rfl _ _ (B+1) _ _ _ rfl (uZ FF).1 Tryz.underlying29 rfl size_nd) rfl ?_
     rw [uZ HR]
     exact(uZ FF).2
 ·have n1:¬(k:Int)=5:=by omega
  have n2:((k:Int) == 5)=false:=beq_eq_false_iff_ne.2 n1
  have n3:((k:Int) != 5)=true:=by simp;omega
  have HJ2:=hZ ((by have:=(uZ HJ1);rw [if_neg (fun e=>hk e.1)] at this;exact this))
  clear HJ1
  obtain⟨Bc0,Bc1,Bc2,Bc3⟩:=row_cell4 (uZ HBB_1)
  have CC:=hZ (wrong_any (uZ S1).rd 170)
  go_wp2_with fail
  refine(uZ CC).mono ?_
  rintro e w2 ⟨rfl,r2,b⟩
  have S2:=hZ ((uZ S1).go (d':=0) b r2)
  have HBB_2:=bx_go HBB_1 b (by omega)
  clear b r2 CC S1 HBB_1
  have hr1:=okq_some (uZ HJ2)
  have hnn:=NdOk.leaf (lo:=w.heap.size+1) (w:=w2) (uZ S2).lt 0 [] 0 0 [] false 0
  have HR:=hZ (hr1)
  have BX:=(uZ S2).bx
  rw [hG] at BX
  obtain⟨g0,g1,g2,g3,g4,g5,g6,g7,g8,g9⟩:=row_cell10 BX
  obtain⟨z0,z1,z2,z3,z4,z5,z6,z7,z8,z9⟩:=frozen10 BX
  clear BX
  have FF:=hZ (Sq.done (uZ S2) (hnn) rfl hG)
  go_wp2_with fail
  refine bodyPost_ret (ret_c1 (p:=4) (T:=29) rfl _ _ (B+1) _ _ _ rfl (uZ FF).1 Tryz.underlying29 rfl size_nd) rfl ?_
  rw [uZ HR]
  exact(uZ FF).2
end Go.Proofs.YtilhlmmcdfoaoaaGreatDoor
