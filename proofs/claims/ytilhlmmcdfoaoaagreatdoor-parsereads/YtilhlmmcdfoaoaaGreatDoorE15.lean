/-
  Layer 17 (parse): the document's reader: what stands lowest; conditions: the reader's state.
  Layer 17 (parse): the document's reader: rows of expressions; conditions: the reader's state.
-/
import Derived.Test.YtilhlmmcdfoaoaaGreatDoorE14
import Derived.Deep.LoopGhost
set_option linter.unusedVariables false
set_option linter.unusedSimpArgs false
namespace Go.Proofs.YtilhlmmcdfoaoaaGreatDoor
open Go.RowKit
set_option linter.unusedVariables false
set_option linter.unusedSimpArgs false
set_option maxRecDepth 100000 in
set_option maxHeartbeats 2000000 in
theorem primq_step {c:Cx} {σ:Sg} {w:World} {r:List Nd × Sg} {f:Nat} (ihl:∀{c:Cx} {σ:Sg} {w:World} {r:List Nd × Sg},RJ c.ts f 6 41 [] σ=some r→Rq w c σ→Calls Tryz.prog 138 #[.pointer (some ⟨c.g,0,none⟩),.string ⟨#[41]⟩] w fun e w'=>KqP c w r e w') (ihk:∀{c:Cx} {σ:Sg} {w:World} {r:List Nd × Sg},RJ c.ts f 23 0 [] σ=some r→Rq w c σ→Calls Tryz.prog 139 #[.pointer (some ⟨c.g,0,none⟩),.agg (tkA (tkQ c.ts σ))] w fun e w'=>NqP c w r e w') (hJ:RJ c.ts (f+1) 5 0 [] σ=some r) (h:Rq w c σ) :
  Calls Tryz.prog 136 #[.pointer (some ⟨c.g,0,none⟩)] w fun e w'=>NqP c w r e w':=by
 have S1:=hZ (Sq.start (d:=0) h 29 #[.int .i64 0,.string ⟨#[]⟩,.int .i64 0,.int .i64 0,.string ⟨#[]⟩,.slice none 0 0,.slice none 0 0,.bool false,.slice none 0 0,.int .i64 0])
 obtain⟨w1,hw1⟩:∃w1,w.alloc (.cells #[.int .i64 0,.string ⟨#[]⟩,.int .i64 0,.int .i64 0,.string ⟨#[]⟩,.slice none 0 0,.slice none 0 0,.bool false,.slice none 0 0,.int .i64 0] 29)=w1:=⟨_,rfl⟩
 rw [hw1] at S1
 obtain⟨G,hG⟩:∃G,w.heap.size=G:=⟨_,rfl⟩
 have hgw:c.g<w.heap.size:=h.frz.2.2.2.2
 clear h
 go_enter Tryz.func136,Tryz.ntmps136
 have HJ0:=hZ (show qPrim c.ts (RJ c.ts f) σ=some r from hJ)
 clear hJ
 obtain⟨⟨k,t,n,p⟩,ht⟩:∃zz,tkQ c.ts σ=zz:=⟨_,rfl⟩
 have HT:=hZ ht
 clear ht
 have HJ1:=hZ ((by have:=uZ HJ0;unfold qPrim at this;rw [uZ HT] at this;simp only [] at this;exact this))
 clear HJ0
 have CC:=hZ ((by have:=peek_any (uZ S1).rd;rw [uZ HT] at this;simp only [tkA] at this;exact this))
 go_wp2_with fail
 refine(uZ CC).mono ?_
 rintro e w2 ⟨rfl,b⟩
 have S2:=hZ ((uZ S1).below b)
 clear b CC S1
 go_upto_region 2 with fail
 obtain⟨w3,hw⟩:∃zz,w2.alloc (.cells #[.int .i64 (k:Int),.string (bA t),.int .i64 (n:Int),.int .i64 (p:Int)] 52)=zz:=⟨_,rfl⟩
 have b:Below w2.heap.size w2 w3:=by rw [←hw];exact(Below.refl _ _).alloc (Nat.le_refl _) _
 obtain⟨B,hQ⟩:∃zz,w2.heap.size=zz:=⟨_,rfl⟩
 have HBB_3:Hid (w3.heap[B]?=some (.cells #[.int .i64 (k:Int),.string (bA t),.int .i64 (n:Int),.int .i64 (p:Int)] 52 (0,0))):=hZ (by rw [←hw,←hQ];exact heap_alloc_new _ _)
 have S3:=hZ ((uZ S2).below b)
 have ltB:w.heap.size<B:=by rw [←hQ];exact(uZ S2).lt
 rw [hw]
 try rw [hQ]
 clear hw hQ b S2
 by_cases he:σ.e=0
 ·have HJ2:=hZ ((by have:=(uZ HJ1);rw [if_pos he] at this;exact this))
  clear HJ1
  have he0:((σ.e:Nat):Int)=0:=by omega
  have ec:=(uZ S3).rd.cells.2.2.2.1
  rw [he0] at ec
  obtain⟨Bc0,Bc1,Bc2,Bc3⟩:=row_cell4 (uZ HBB_3)
  by_cases hk:k=3
  ·subst hk
   have HJ3:=hZ ((by have:=(uZ HJ2);(first|rw [if_pos rfl] at this|rw [if_pos trivial] at this);exact this))
   clear HJ2
   have HJ4:=hZ ((by have:=(uZ HJ3);unfold litQ at this;rw [uZ HT] at this;simp only [] at this;exact this))
   clear HJ3
   have CC:=hZ ((by have:=next_any (uZ S3).rd;rw [uZ HT] at this;simp only [tkA] at this;exact this))
   go_wp2_with fail
   refine(uZ CC).mono ?_
   rintro e w4 ⟨rfl,r2,b⟩
   have S4:=hZ ((uZ S3).go (d':=0) b r2)
   have HBB_4:=bx_go HBB_3 b (by omega)
   clear b r2 CC S3 HBB_3
   clear Bc0 Bc1 Bc2 Bc3 ec
   obtain⟨Bc0,Bc1,Bc2,Bc3⟩:=row_cell4 (uZ HBB_4)
   have CC:=hZ ((show Calls Tryz.prog 137 #[.agg #[.int .i64 2,.int .i64 (n:Int),.string ⟨#[]⟩,.slice none 0 0,.slice none 0 0],.int .i64 (p:Int)] w4 _ from litq_any 2 n [] p w4))
   go_wp2_with fail
   refine(uZ CC).mono ?_
   rintro e w5 ⟨rfl,b⟩
   have S5:=hZ ((uZ S4).below b)
   have HBB_5:=bx_be HBB_4 b
   clear b CC S4 HBB_4
   have hr1:=okq_some (show okq [(⟨13,[],2,n,[],false,[],p⟩:Nd)] (nxQ c.ts σ)=some r from (uZ HJ4))
   have hnn:=NdOk.leaf (lo:=w.heap.size+1) (w:=w5) (uZ S5).lt 13 [] 2 n [] false p
   have HR:=hZ (hr1)
   have BX:=(uZ S5).bx
   rw [hG] at BX
   obtain⟨g0,g1,g2,g3,g4,g5,g6,g7,g8,g9⟩:=row_cell10 BX
   obtain⟨z0,z1,z2,z3,z4,z5,z6,z7,z8,z9⟩:=frozen10 BX
   clear BX
   have FF:=hZ (Sq.done (uZ S5) (hnn) rfl hG)
   go_wp2_with fail
   refine bodyPost_ret (ret_c1 (p:=2) (T:=29) rfl _ _ G _ _ _ rfl (uZ FF).1 Tryz.underlying29 rfl size_nd) rfl ?_
   rw [uZ HR]
   exact(uZ FF).2
  ·have n3:¬(k:Int)=3:=by omega
   have m3:((k:Int) == 3)=false:=beq_eq_false_iff_ne.2 n3
   have HJ3:=hZ ((by have:=(uZ HJ2);rw [if_neg hk] at this;exact this))
   clear HJ2
   by_cases hk4:k=4
   ·subst hk4
    have HJ4:=hZ ((by have:=(uZ HJ3);(first|rw [if_pos rfl] at this|rw [if_pos trivial] at this);exact this))
    clear HJ3
    have HJ5:=hZ ((by have:=(uZ HJ4);unfold litQ at this;rw [uZ HT] at this;simp only [] at this;exact this))
    clear HJ4
    have CC:=hZ ((by have:=next_any (uZ S3).rd;rw [uZ HT] at this;simp only [tkA] at this;exact this))
    go_wp2_with fail
    refine(uZ CC).mono ?_
    rintro e w4 ⟨rfl,r2,b⟩
    have S4:=hZ ((uZ S3).go (d':=0) b r2)
    have HBB_4:=bx_go HBB_3 b (by omega)
    clear b r2 CC S3 HBB_3
    clear Bc0 Bc1 Bc2 Bc3 ec
    obtain⟨Bc0,Bc1,Bc2,Bc3⟩:=row_cell4 (uZ HBB_4)
    have CC:=hZ ((show Calls Tryz.prog 137 #[.agg #[.int .i64 3,.int .i64 0,.string (bA t),.slice none 0 0,.slice none 0 0],.int .i64 (p:Int)] w4 _ from litq_any 3 0 t p w4))
    go_wp2_with fail
    refine(uZ CC).mono ?_
    rintro e w5 ⟨rfl,b⟩
    have S5:=hZ ((uZ S4).below b)
    have HBB_5:=bx_be HBB_4 b
    clear b CC S4 HBB_4
    have hr1:=okq_some (show okq [(⟨13,[],3,0,t,false,[],p⟩:Nd)] (nxQ c.ts σ)=some r from (uZ HJ5))
    have hnn:=NdOk.leaf (lo:=w.heap.size+1) (w:=w5) (uZ S5).lt 13 [] 3 0 t false p
    have HR:=hZ (hr1)
    have BX:=(uZ S5).bx
    rw [hG] at BX
    obtain⟨g0,g1,g2,g3,g4,g5,g6,g7,g8,g9⟩:=row_cell10 BX
    obtain⟨z0,z1,z2,z3,z4,z5,z6,z7,z8,z9⟩:=frozen10 BX
    clear BX
    have FF:=hZ (Sq.done (uZ S5) (hnn) rfl hG)
    go_wp2_with fail
    refine bodyPost_ret (ret_c1 (p:=2) (T:=29) rfl _ _ G _ _ _ rfl (uZ FF).1 Tryz.underlying29 rfl size_nd) rfl ?_
    rw [uZ HR]
    exact(uZ FF).2
   ·have n4:¬(k:Int)=4:=by omega
    have m4:((k:Int) == 4)=false:=beq_eq_false_iff_ne.2 n4
    have HJ4:=hZ ((by have:=(uZ HJ3);rw [if_neg hk4] at this;exact this))
    clear HJ3
    by_cases hk2:k=2
    ·subst hk2
     by_cases hT:t=[116,114,117,101]
     ·subst hT
      have fT:((bA [116,114,117,101]).toList == [116,114,117,101])=true:=by kernel_rfl
      have fF:((bA [116,114,117,101]).toList == [102,97,108,115,101])=false:=by kernel_rfl
      have fU:((bA [116,114,117,101]).toList == [117,110,105,116])=false:=by kernel_rfl
      have HJ5:=hZ ((by have:=(uZ HJ4);(first|rw [if_pos ⟨rfl,rfl⟩] at this|rw [if_pos (by decide)] at this);exact this))
      clear HJ4
      have HJ6:=hZ ((by have:=(uZ HJ5);unfold litQ at this;rw [uZ HT] at this;simp only [] at this;exact this))
      clear HJ5
      have CC:=hZ ((by have:=next_any (uZ S3).rd;rw [uZ HT] at this;simp only [tkA] at this;exact this))
      go_wp2_with fail
      refine(uZ CC).mono ?_
      rintro e w4 ⟨rfl,r2,b⟩
      have S4:=hZ ((uZ S3).go (d':=0) b r2)
      have HBB_4:=bx_go HBB_3 b (by omega)
      clear b r2 CC S3 HBB_3
      clear Bc0 Bc1 Bc2 Bc3 ec
      go_upto_region 13 with fail
      obtain⟨w5,hw⟩:∃zz,w4.alloc (.cells #[.int .i64 1,.int .i64 0,.string ⟨#[]⟩,.slice none 0 0,.slice none 0 0] 26)=zz:=⟨_,rfl⟩
      have b:Below w4.heap.size w4 w5:=by rw [←hw];exact(Below.refl _ _).alloc (Nat.le_refl _) _
      obtain⟨V,hQ⟩:∃zz,w4.heap.size=zz:=⟨_,rfl⟩
      have HBV_5:Hid (w5.heap[V]?=some (.cells #[.int .i64 1,.int .i64 0,.string ⟨#[]⟩,.slice none 0 0,.slice none 0 0] 26 (0,0))):=hZ (by rw [←hw,←hQ];exact heap_alloc_new _ _)
      have S5:=hZ ((uZ S4).below b)
      have HBB_5:=bx_be HBB_4 b
      have lB_V:B<V:=by rw [←hQ];exact(Array.getElem?_eq_some_iff.1 (uZ HBB_4)).1
      have ltV:w.heap.size<V:=by rw [←hQ];exact(uZ S4).lt
      rw [hw]
      try rw [hQ]
      clear hw hQ b S4 HBB_4
      obtain⟨Vc0,Vc1,Vc2,Vc3,Vc4⟩:=row_cell5q (uZ HBV_5)
      obtain⟨Bc0,Bc1,Bc2,Bc3⟩:=row_cell4 (uZ HBB_5)
      have Vf1:=frozen_of_row w5 V 1 _ _ (uZ HBV_5)
      go_upto_region 15 with fail
      clear Vc0 Vc1 Vc2 Vc3 Vc4 Vf1 Bc0 Bc1 Bc2 Bc3
      obtain⟨w6,hw⟩:∃zz,w5.setCell ⟨V,1,none⟩ (.int .i64 1)=zz:=⟨_,rfl⟩
      have HBV_6:Hid (w6.heap[V]?=some (.cells #[.int .i64 1,.int .i64 1,.string ⟨#[]⟩,.slice none 0 0,.slice none 0 0] 26 (0,0))):=hZ (by rw [←hw,heap_setCell_same w5 V 1 _ _ _ (uZ HBV_5)];rfl)
      have S6:Hid (Sq w c 29 #[.int .i64 0,.string ⟨#[]⟩,.int .i64 0,.int .i64 0,.string ⟨#[]⟩,.slice none 0 0,.slice none 0 0,.bool false,.slice none 0 0,.int .i64 0] w6 (nxQ c.ts σ) 0):=hZ (by rw [←hw];exact(uZ S5).own V 1 _ ltV)
      have HBB_6:=(bx_ne (q:=V) (f:=1) (v:=.int .i64 1) HBB_5 (by omega))
      rw [hw] at HBB_6
      rw [hw]
      clear hw S5 HBB_5 HBV_5
      obtain⟨Vc0,Vc1,Vc2,Vc3,Vc4⟩:=row_cell5q (uZ HBV_6)
      obtain⟨Bc0,Bc1,Bc2,Bc3⟩:=row_cell4 (uZ HBB_6)
      have CC:=hZ ((show Calls Tryz.prog 137 #[.agg #[.int .i64 1,.int .i64 1,.string ⟨#[]⟩,.slice none 0 0,.slice none 0 0],.int .i64 (p:Int)] w6 _ from litq_any 1 1 [] p w6))
      go_wp2_with fail
      refine(uZ CC).mono ?_
      rintro e w7 ⟨rfl,b⟩
      have S7:=hZ ((uZ S6).below b)
      have HBB_7:=bx_be HBB_6 b
      have HBV_7:=bx_be HBV_6 b
      clear b CC S6 HBB_6 HBV_6
      have hr1:=okq_some (show okq [(⟨13,[],1,1,[],false,[],p⟩:Nd)] (nxQ c.ts σ)=some r from (uZ HJ6))
      have hnn:=NdOk.leaf (lo:=w.heap.size+1) (w:=w7) (uZ S7).lt 13 [] 1 1 [] false p
      have HR:=hZ (hr1)
      have BX:=(uZ S7).bx
      rw [hG] at BX
      obtain⟨g0,g1,g2,g3,g4,g5,g6,g7,g8,g9⟩:=row_cell10 BX
      obtain⟨z0,z1,z2,z3,z4,z5,z6,z7,z8,z9⟩:=frozen10 BX
      clear BX
      have FF:=hZ (Sq.done (uZ S7) (hnn) rfl hG)
      go_wp2_with fail
      refine bodyPost_ret (ret_c1 (p:=2) (T:=29) rfl _ _ G _ _ _ rfl (uZ FF).1 Tryz.underlying29 rfl size_nd) rfl ?_
      rw [uZ HR]
      exact(uZ FF).2
     ·by_cases hF:t=[102,97,108,115,101]
      ·subst hF
       have fT:((bA [102,97,108,115,101]).toList == [116,114,117,101])=false:=by kernel_rfl
       have fF:((bA [102,97,108,115,101]).toList == [102,97,108,115,101])=true:=by kernel_rfl
       have fU:((bA [102,97,108,115,101]).toList == [117,110,105,116])=false:=by kernel_rfl
       have HJ5:=hZ ((by have:=(uZ HJ4);rw [if_neg (by decide)] at this;rw [if_pos (by decide)] at this;exact this))
       clear HJ4
       have HJ6:=hZ ((by have:=(uZ HJ5);unfold litQ at this;rw [uZ HT] at this;simp only [] at this;exact this))
       clear HJ5
       have CC:=hZ ((by have:=next_any (uZ S3).rd;rw [uZ HT] at this;simp only [tkA] at this;exact this))
       go_wp2_with fail
       refine(uZ CC).mono ?_
       rintro e w4 ⟨rfl,r2,b⟩
       have S4:=hZ ((uZ S3).go (d':=0) b r2)
       have HBB_4:=bx_go HBB_3 b (by omega)
       clear b r2 CC S3 HBB_3
       clear Bc0 Bc1 Bc2 Bc3 ec
       go_upto_region 13 with fail
       obtain⟨w5,hw⟩:∃zz,w4.alloc (.cells #[.int .i64 1,.int .i64 0,.string ⟨#[]⟩,.slice none 0 0,.slice none 0 0] 26)=zz:=⟨_,rfl⟩
       have b:Below w4.heap.size w4 w5:=by rw [←hw];exact(Below.refl _ _).alloc (Nat.le_refl _) _
       obtain⟨V,hQ⟩:∃zz,w4.heap.size=zz:=⟨_,rfl⟩
       have HBV_5:Hid (w5.heap[V]?=some (.cells #[.int .i64 1,.int .i64 0,.string ⟨#[]⟩,.slice none 0 0,.slice none 0 0] 26 (0,0))):=hZ (by rw [←hw,←hQ];exact heap_alloc_new _ _)
       have S5:=hZ ((uZ S4).below b)
       have HBB_5:=bx_be HBB_4 b
       have lB_V:B<V:=by rw [←hQ];exact(Array.getElem?_eq_some_iff.1 (uZ HBB_4)).1
       have ltV:w.heap.size<V:=by rw [←hQ];exact(uZ S4).lt
       rw [hw]
       try rw [hQ]
       clear hw hQ b S4 HBB_4
       obtain⟨Vc0,Vc1,Vc2,Vc3,Vc4⟩:=row_cell5q (uZ HBV_5)
       obtain⟨Bc0,Bc1,Bc2,Bc3⟩:=row_cell4 (uZ HBB_5)
       have CC:=hZ ((show Calls Tryz.prog 137 #[.agg #[.int .i64 1,.int .i64 0,.string ⟨#[]⟩,.slice none 0 0,.slice none 0 0],.int .i64 (p:Int)] w5 _ from litq_any 1 0 [] p w5))
       go_wp2_with fail
       refine(uZ CC).mono ?_
       rintro e w6 ⟨rfl,b⟩
       have S6:=hZ ((uZ S5).below b)
       have HBB_6:=bx_be HBB_5 b
       have HBV_6:=bx_be HBV_5 b
       clear b CC S5 HBB_5 HBV_5
       have hr1:=okq_some (show okq [(⟨13,[],1,0,[],false,[],p⟩:Nd)] (nxQ c.ts σ)=some r from (uZ HJ6))
       have hnn:=NdOk.leaf (lo:=w.heap.size+1) (w:=w6) (uZ S6).lt 13 [] 1 0 [] false p
       have HR:=hZ (hr1)
       have BX:=(uZ S6).bx
       rw [hG] at BX
       obtain⟨g0,g1,g2,g3,g4,g5,g6,g7,g8,g9⟩:=row_cell10 BX
       obtain⟨z0,z1,z2,z3,z4,z5,z6,z7,z8,z9⟩:=frozen10 BX
       clear BX
       have FF:=hZ (Sq.done (uZ S6) (hnn) rfl hG)
       go_wp2_with fail
       refine bodyPost_ret (ret_c1 (p:=2) (T:=29) rfl _ _ G _ _ _ rfl (uZ FF).1 Tryz.underlying29 rfl size_nd) rfl ?_
       rw [uZ HR]
       exact(uZ FF).2
      ·by_cases hU:t=[117,110,105,116]
       ·subst hU
        have fT:((bA [117,110,105,116]).toList == [116,114,117,101])=false:=by kernel_rfl
        have fF:((bA [117,110,105,116]).toList == [102,97,108,115,101])=false:=by kernel_rfl
        have fU:((bA [117,110,105,116]).toList == [117,110,105,116])=true:=by kernel_rfl
        have HJ5:=hZ ((by have:=(uZ HJ4);rw [if_neg (by decide)] at this;rw [if_neg (by decide)] at this;rw [if_pos (by decide)] at this;exact this))
        clear HJ4
        have HJ6:=hZ ((by have:=(uZ HJ5);unfold litQ at this;rw [uZ HT] at this;simp only [] at this;exact this))
        clear HJ5
        have CC:=hZ ((by have:=next_any (uZ S3).rd;rw [uZ HT] at this;simp only [tkA] at this;exact this))
        go_wp2_with fail
        refine(uZ CC).mono ?_
        rintro e w4 ⟨rfl,r2,b⟩
        have S4:=hZ ((uZ S3).go (d':=0) b r2)
        have HBB_4:=bx_go HBB_3 b (by omega)
        clear b r2 CC S3 HBB_3
        clear Bc0 Bc1 Bc2 Bc3 ec
        obtain⟨Bc0,Bc1,Bc2,Bc3⟩:=row_cell4 (uZ HBB_4)
        have CC:=hZ ((show Calls Tryz.prog 137 #[.agg #[.int .i64 0,.int .i64 0,.string ⟨#[]⟩,.slice none 0 0,.slice none 0 0],.int .i64 (p:Int)] w4 _ from litq_any 0 0 [] p w4))
        go_wp2_with fail
        refine(uZ CC).mono ?_
        rintro e w5 ⟨rfl,b⟩
        have S5:=hZ ((uZ S4).below b)
        have HBB_5:=bx_be HBB_4 b
        clear b CC S4 HBB_4
        have hr1:=okq_some (show okq [(⟨13,[],0,0,[],false,[],p⟩:Nd)] (nxQ c.ts σ)=some r from (uZ HJ6))
        have hnn:=NdOk.leaf (lo:=w.heap.size+1) (w:=w5) (uZ S5).lt 13 [] 0 0 [] false p
        have HR:=hZ (hr1)
        have BX:=(uZ S5).bx
        rw [hG] at BX
        obtain⟨g0,g1,g2,g3,g4,g5,g6,g7,g8,g9⟩:=row_cell10 BX
        obtain⟨z0,z1,z2,z3,z4,z5,z6,z7,z8,z9⟩:=frozen10 BX
        clear BX
        have FF:=hZ (Sq.done (uZ S5) (hnn) rfl hG)
        go_wp2_with fail
        refine bodyPost_ret (ret_c1 (p:=2) (T:=29) rfl _ _ G _ _ _ rfl (uZ FF).1 Tryz.underlying29 rfl size_nd) rfl ?_
        rw [uZ HR]
        exact(uZ FF).2
       ·have fT:((bA t).toList == [116,114,117,101])=false:=beq_eq_false_iff_ne.2 (fun e=>hT (by rw [bA_list] at e;exact e))
        have fF:((bA t).toList == [102,97,108,115,101])=false:=beq_eq_false_iff_ne.2 (fun e=>hF (by rw [bA_list] at e;exact e))
        have fU:((bA t).toList == [117,110,105,116])=false:=beq_eq_false_iff_ne.2 (fun e=>hU (by rw [bA_list] at e;exact e))
        have HJ5:=hZ ((by have:=(uZ HJ4);rw [if_neg (fun e=>hT e.2),if_neg (fun e=>hF e.2),if_neg (fun e=>hU e.2),if_neg (by decide)] at this;exact this))
        clear HJ4
        obtain⟨⟨nsx,sx⟩,hrx⟩:∃zz,r=zz:=⟨_,rfl⟩
        have CR:=hZ (by have:=ihk (uZ HJ5) (uZ S3).rd;rw [uZ HT] at this;simp only [tkA] at this;exact this)
        have HR1:=hZ hrx
        rw [hrx] at CR
        clear hrx
        go_wp2_with fail
        refine(uZ CR).mono ?_
        rintro e wz ⟨kx,tx,vkx,vnx,vsx,fx,nx,akx,ckx,px,Zx,rfl,hlx,hn,r2,b⟩
        simp only [] at hlx hn r2
        have S90:=hZ ((uZ S3).go (d':=0) b r2)
        have HNx_90:=hZ (hn.low (lo':=w.heap.size+1) (uZ S3).lt)
        clear b r2 hn CR S3 Bc0 Bc1 Bc2 Bc3 ec
        have HR:=hZ (uZ HR1)
        have BX:=(uZ S90).bx
        rw [hG] at BX
        obtain⟨g0,g1,g2,g3,g4,g5,g6,g7,g8,g9⟩:=row_cell10 BX
        obtain⟨z0,z1,z2,z3,z4,z5,z6,z7,z8,z9⟩:=frozen10 BX
        clear BX
        have FF:=hZ (Sq.done (uZ S90) (uZ HNx_90) hlx hG)
        go_wp2_with fail
        refine bodyPost_ret (ret_c1 (p:=2) (T:=29) rfl _ _ G _ _ _ rfl (uZ FF).1 Tryz.underlying29 rfl size_nd) rfl ?_
        rw [uZ HR]
        exact(uZ FF).2
    ·have n2:¬(k:Int)=2:=by omega
     have m2:((k:Int) == 2)=false:=beq_eq_false_iff_ne.2 n2
     have HJ5:=hZ ((by have:=(uZ HJ4);rw [if_neg (fun e=>hk2 e.1),if_neg (fun e=>hk2 e.1),if_neg (fun e=>hk2 e.1)] at this;exact this))
     clear HJ4
     by_cases hk1:k=1
     ·subst hk1
      have HJ6:=hZ ((by have:=(uZ HJ5);(first|rw [if_pos rfl] at this|rw [if_pos trivial] at this);exact this))
      clear HJ5
      have CC:=hZ ((by have:=next_any (uZ S3).rd;rw [uZ HT] at this;simp only [tkA] at this;exact this))
      go_wp2_with fail
      refine(uZ CC).mono ?_
      rintro e w4 ⟨rfl,r2,b⟩
      have S4:=hZ ((uZ S3).go (d':=0) b r2)
      have HBB_4:=bx_go HBB_3 b (by omega)
      clear b r2 CC S3 HBB_3
      clear Bc0 Bc1 Bc2 Bc3 ec
      rcases Bool.eq_false_or_eq_true (isQ c.ts 5 [40] (nxQ c.ts σ)) with hq|hq
      ·have HJ7:=hZ ((by have:=(uZ HJ6);rw [if_pos hq] at this;exact this))
       clear HJ6
       have CC:=hZ ((by have:=signq_any (uZ S4).rd [40];rw [hq] at this;exact this))
       go_wp2_with fail
       refine(uZ CC).mono ?_
       rintro e w5 ⟨rfl,b⟩
       have S5:=hZ ((uZ S4).below b)
       have HBB_5:=bx_be HBB_4 b
       clear b CC S4 HBB_4
       obtain⟨⟨kz,tz,nz,pz⟩,ht⟩:∃zz,(opQ c.ts (nxQ c.ts σ)).1=zz:=⟨_,rfl⟩
       have HTz:=hZ ht
       clear ht
       have CC:=hZ ((by have:=opens_any (uZ S5).rd;rw [uZ HTz] at this;simp only [tkA] at this;exact this))
       go_wp2_with fail
       refine(uZ CC).mono ?_
       rintro e w6 ⟨rfl,r2,b⟩
       have S6:=hZ ((uZ S5).go (d':=0) b r2)
       have HBB_6:=bx_go HBB_5 b (by omega)
       clear b r2 CC S5 HBB_5
       obtain⟨nsx,sx,hy,hth⟩:=bq_some (uZ HJ7)
       have HJ8:=hZ (hth)
       clear HJ7
       clear hth
       have CR:=hZ (ihl hy (uZ S6).rd)
       clear hy
       go_wp2_with fail
       refine(uZ CR).mono ?_
       rintro e w7 ⟨ax,qx,Cx,Zx,rfl,hk,r2,b⟩
       simp only [] at hk r2
       have S7:=hZ ((uZ S6).go (d':=0) b r2)
       have HBB_7:=bx_go HBB_6 b (by omega)
       obtain⟨lox,hlo⟩:∃zz,w6.heap.size=zz:=⟨_,rfl⟩
       have ltlox:w.heap.size<lox:=by rw [←hlo];exact(uZ S6).lt
       have lqB_x:B<lox:=by rw [←hlo];exact(Array.getElem?_eq_some_iff.1 (uZ HBB_6)).1
       rw [hlo] at hk
       have HKx_7:=hZ hk
       clear hlo b r2 hk CR S6 HBB_6
       obtain⟨nx,hnx⟩:∃zz,nsx.length=zz:=⟨_,rfl⟩
       rw [hnx] at HKx_7
       try rw [hnx]
       obtain⟨Bc0,Bc1,Bc2,Bc3⟩:=row_cell4 (uZ HBB_7)
       have hr1:=okq_some (uZ HJ8)
       have hnn:=(uZ HKx_7).node' hnx 15 t 0 0 [] false p
       have HR:=hZ (hr1)
       have BX:=(uZ S7).bx
       rw [hG] at BX
       obtain⟨g0,g1,g2,g3,g4,g5,g6,g7,g8,g9⟩:=row_cell10 BX
       obtain⟨z0,z1,z2,z3,z4,z5,z6,z7,z8,z9⟩:=frozen10 BX
       clear BX
       have FF:=hZ (Sq.done (uZ S7) (hnn.low (lo':=w.heap.size+1) (by omega)) rfl hG)
       go_wp2_with fail
       refine bodyPost_ret (ret_c1 (p:=2) (T:=29) rfl _ _ G _ _ _ rfl (uZ FF).1 Tryz.underlying29 rfl size_nd) rfl ?_
       rw [uZ HR]
       exact(uZ FF).2
      ·have HJ7:=hZ ((by have:=(uZ HJ6);rw [if_neg (by rw [hq];simp)] at this;exact this))
       clear HJ6
       have CC:=hZ ((by have:=signq_any (uZ S4).rd [40];rw [hq] at this;exact this))
       go_wp2_with fail
       refine(uZ CC).mono ?_
       rintro e w5 ⟨rfl,b⟩
       have S5:=hZ ((uZ S4).below b)
       have HBB_5:=bx_be HBB_4 b
       clear b CC S4 HBB_4
       obtain⟨Bc0,Bc1,Bc2,Bc3⟩:=row_cell4 (uZ HBB_5)
       have hr1:=okq_some (uZ HJ7)
       have hnn:=NdOk.leaf (lo:=w.heap.size+1) (w:=w5) (uZ S5).lt 14 t 0 0 [] false p
       have HR:=hZ (hr1)
       have BX:=(uZ S5).bx
       rw [hG] at BX
       obtain⟨g0,g1,g2,g3,g4,g5,g6,g7,g8,g9⟩:=row_cell10 BX
       obtain⟨z0,z1,z2,z3,z4,z5,z6,z7,z8,z9⟩:=frozen10 BX
       clear BX
       have FF:=hZ (Sq.done (uZ S5) (hnn) rfl hG)
       go_wp2_with fail
       refine bodyPost_ret (ret_c1 (p:=2) (T:=29) rfl _ _ G _ _ _ rfl (uZ FF).1 Tryz.underlying29 rfl size_nd) rfl ?_
       rw [uZ HR]
       exact(uZ FF).2
     ·have n1:¬(k:Int)=1:=by omega
      have m1:((k:Int) == 1)=false:=beq_eq_false_iff_ne.2 n1
      have HJ6:=hZ ((by have:=(uZ HJ5);rw [if_neg hk1] at this;exact this))
      clear HJ5
      obtain⟨⟨nsx,sx⟩,hrx⟩:∃zz,r=zz:=⟨_,rfl⟩
      have CR:=hZ (by have:=ihk (uZ HJ6) (uZ S3).rd;rw [uZ HT] at this;simp only [tkA] at this;exact this)
      have HR1:=hZ hrx
      rw [hrx] at CR
      clear hrx
      go_wp2_with fail
      refine(uZ CR).mono ?_
      rintro e wz ⟨kx,tx,vkx,vnx,vsx,fx,nx,akx,ckx,px,Zx,rfl,hlx,hn,r2,b⟩
      simp only [] at hlx hn r2
      have S90:=hZ ((uZ S3).go (d':=0) b r2)
      have HNx_90:=hZ (hn.low (lo':=w.heap.size+1) (uZ S3).lt)
      clear b r2 hn CR S3 Bc0 Bc1 Bc2 Bc3 ec
      have HR:=hZ (uZ HR1)
      have BX:=(uZ S90).bx
      rw [hG] at BX
      obtain⟨g0,g1,g2,g3,g4,g5,g6,g7,g8,g9⟩:=row_cell10 BX
      obtain⟨z0,z1,z2,z3,z4,z5,z6,z7,z8,z9⟩:=frozen10 BX
      clear BX
      have FF:=hZ (Sq.done (uZ S90) (uZ HNx_90) hlx hG)
      go_wp2_with fail
      refine bodyPost_ret (ret_c1 (p:=2) (T:=29) rfl _ _ G _ _ _ rfl (uZ FF).1 Tryz.underlying29 rfl size_nd) rfl ?_
      rw [uZ HR]
      exact(uZ FF).2
 ·have HJ2:=hZ ((by have:=(uZ HJ1);rw [if_neg he] at this;exact this))
  clear HJ1
  have he0:¬((σ.e:Nat):Int)=0:=by omega
  have he1:(((σ.e:Nat):Int) == 0)=false:=beq_eq_false_iff_ne.2 he0
  have he2:(((σ.e:Nat):Int) != 0)=true:=by simp;omega
  have ec:=(uZ S3).rd.cells.2.2.2.1
  have hr1:=okq_some (uZ HJ2)
  have hnn:=NdOk.leaf (lo:=w.heap.size+1) (w:=w3) (uZ S3).lt 0 [] 0 0 [] false 0
  have HR:=hZ (hr1)
  have BX:=(uZ S3).bx
  rw [hG] at BX
  obtain⟨g0,g1,g2,g3,g4,g5,g6,g7,g8,g9⟩:=row_cell10 BX
  obtain⟨z0,z1,z2,z3,z4,z5,z6,z7,z8,z9⟩:=frozen10 BX
  clear BX
  have FF:=hZ (Sq.done (uZ S3) (hnn) rfl hG)
  go_wp2_with fail
  refine bodyPost_ret (ret_c1 (p:=2) (T:=29) rfl _ _ G _ _ _ rfl (uZ FF).1 Tryz.underlying29 rfl size_nd) rfl ?_
  rw [uZ HR]
  exact(uZ FF).2
theorem wpl_appQ {w:World} {ops:Array Oper} {rest:List Oper} {o:Oper} {a:Act} {Q:Exit→Act→World→Prop} (hgd:o.guard=none) (s x:Operand) (ho:o.op=.call { callee:=.builtin .append,args:=#[s,x],argTypes:=#[27,27] })
  (base:Nat) (v:Value) (n:Nat) (xs:List Value) (hs:a.eval s=v) (hown:w.ownsRow base 29 10 v n xs) (q:Nat) (cs:Array Value) (hx:a.eval x=.slice (some ⟨q,0,none⟩) 1 1) (hq:w.heap[q]?=some (.cells cs 29 (0,0))) (hl:cs.toList.length=1 * 10) (h1:∀u∈cs.toList,u.oneCell'=true)
  (hn:n+1≤1000000) (hbase:base≤w.heap.size)
  (h:∀g cap w',Hid (w'.ownsRow base 29 10 (.slice (some ⟨g,0,none⟩) (n+1) cap) (n+1) (xs++cs.toList)∧w.grownBy w' v.ownBlock∧(v.ownBlock=some g∨g=w.heap.size))→wpList Tryz.prog ops Q rest (a.put o.dst (.slice (some ⟨g,0,none⟩) (n+1) cap)) w'):wpList Tryz.prog ops Q (o :: rest) a w:=by
 obtain⟨ind,hi0,hi1,hi2,hi3⟩:=info_nd
 refine wpList_step fun K hK=>?_
 exact step_append_lies w hgd s x 27 ho base 29 ind _ 10 144 Tryz.underlying27 hi0 hi1 hi2 hi3 rfl (by omega) v n xs hs hown ⟨q,0,none⟩ 1 1 cs.toList hx hl (World.news_of_block hq) h1 (by omega) (by unfold maxLen;omega) (by omega) hbase _ rfl (fun g cap w' a b c _=>hK _ _ (h g cap w' (hZ ⟨a,b,c⟩)))
theorem Rq.two {w w':World} {c:Cx} {σ:Sg} (h:Rq w c σ) (hg:w'.heap[c.g]?=w.heap[c.g]?) (ht:w'.heap[c.tb]?=w.heap[c.tb]?) (hs:w.heap.size≤w'.heap.size):Rq w' c σ:=by
 refine⟨hg.trans h.box,h.ix,fun i t hi=>?_,h.apart,h.cap,h.len⟩
 obtain⟨b,e,h1,h2,h3,h4,h5⟩:=h.row i t hi
 injection e with e0
 injection e0 with e0
 subst e0
 exact⟨c.tb,rfl,Nat.lt_of_lt_of_le h1 hs,(World.cell?_of_block ht).trans h2,(World.cell?_of_block ht).trans h3,(World.cell?_of_block ht).trans h4,(World.cell?_of_block ht).trans h5⟩
theorem Sq0.below2 {w:World} {c:Cx} {u u':World} {σ:Sg} {d B:Nat} (h:Sq0 w c u σ d) (b:Below B u u') (hB:w.heap.size≤B):Sq0 w c u' σ d:=
 ⟨h.rd.two (b.block _ (by have:=h.g1;omega)) (b.block _ (by have:=h.t1;omega)) b.size,⟨b.os.trans h.bs.os,b.tape.trans h.bs.tape,b.output.trans h.bs.output,Nat.le_trans h.bs.size b.size,fun k hk hn=>(b.block k (by omega)).trans (h.bs.block k hk hn)⟩,h.g1,h.t1⟩
theorem RJ_fuel {T:List Tk} {f j x:Nat} {acc:List Nd} {σ:Sg} {r:List Nd × Sg} (h:RJ T f j x acc σ=some r):∃g,f=g+1:=by
 cases f with
 |zero=>cases h
 |succ g=>exact⟨g,rfl⟩
set_option maxRecDepth 100000 in
set_option maxHeartbeats 2000000 in
theorem listq_step {c:Cx} {σ:Sg} {w w1:World} {r:List Nd × Sg} {f x:Nat} (hf:f≤500000) (cl:List UInt8) (hcl:chQ x=cl) (ihe:∀{f1:Nat},f1≤f→∀{c:Cx} {σ:Sg} {w:World} {r:List Nd × Sg},RJ c.ts f1 0 0 [] σ=some r→Rq w c σ→Calls Tryz.prog 91 #[.pointer (some ⟨c.g,0,none⟩)] w fun e w'=>NqP c w r e w') (hJ:RJ c.ts (f+1) 6 x [] σ=some r) (hws:w=w1) (h:Rq w1 c σ) :
  Calls Tryz.prog 138 #[.pointer (some ⟨c.g,0,none⟩),.string (bA cl)] w1 fun e w'=>KqP c w r e w':=by
 have S1:=hZ (Sq0.start (d:=0) hws h)
 have hgw:c.g<w.heap.size:=by rw [hws];exact h.frz.2.2.2.2
 clear h hws
 go_enter Tryz.func138,Tryz.ntmps138
 have HJ0:=hZ (show qList c.ts (RJ c.ts f) x σ=some r from hJ)
 clear hJ
 have HJ1:=hZ ((by have:=uZ HJ0;unfold qList at this;rw [hcl] at this;exact this))
 clear HJ0
 rcases Bool.eq_false_or_eq_true (isQ c.ts 5 cl σ) with hq|hq
 ·have HJ2:=hZ ((by have:=(uZ HJ1);rw [if_pos hq] at this;exact this))
  clear HJ1
  have CC:=hZ ((by have:=signq_any (uZ S1).rd cl;rw [hq] at this;exact this))
  go_wp2_with fail
  refine(uZ CC).mono ?_
  rintro e w2 ⟨rfl,b⟩
  have S2:=hZ ((uZ S1).below b)
  clear b CC S1
  go_wp2_with fail
  go_loopg [5] 0 (fun gk v5 wr=>v5=.slice none 0 0∧Hid (Sq0 w c wr σ 0))
  case atStart=>exact⟨rfl,S2⟩
  case round=>
   have HJ60:=HJ2
   clear HJ2 S2
   obtain⟨rfl,HI⟩:=hrel
   obtain⟨w50,hw50⟩:∃zz,zz=wr:=⟨_,rfl⟩
   subst hw50
   have S50:=HI
   clear HI
   have CC:=hZ (closes_any (uZ S50).rd cl)
   go_wp2_with fail
   refine(uZ CC).mono ?_
   rintro e w51 ⟨rfl,r2,b⟩
   have S51:=hZ ((uZ S50).go (d':=0) b r2)
   clear b r2 CC S50
   have HR:=hZ (okq_some (uZ HJ60))
   go_wp2_with fail
   go_ret
   rw [uZ HR]
   exact⟨none,0,[],[],rfl,Kr.nil (uZ S51).lt,(uZ S51).rd,(uZ S51).bs⟩
 ·have HJ2:=hZ ((by have:=(uZ HJ1);rw [if_neg (by rw [hq];decide)] at this;exact this))
  clear HJ1
  have CC:=hZ ((by have:=signq_any (uZ S1).rd cl;rw [hq] at this;exact this))
  go_wp2_with fail
  refine(uZ CC).mono ?_
  rintro e w2 ⟨rfl,b⟩
  have S2:=hZ ((uZ S1).below b)
  clear b CC S1
  go_wp2_with fail
  go_loopg [5] f (fun gk v5 wr=>∃(acc:List Nd) (sa:Sg) (na:Nat) (ak:Option Addr) (ck:Nat) (C:List Value) (Sa:List Nat),v5=.slice ak na ck∧Hid (gk≤f∧RJ c.ts gk 7 x acc sa=some r∧acc.length=na∧na+gk≤f)∧Hid (Sq0 w c wr sa 0∧Kr w.heap.size wr acc (.slice ak na ck) C Sa))
  case atStart=>exact⟨[],σ,0,none,0,_,_,rfl,hZ ⟨Nat.le_refl _,(uZ HJ2),rfl,by omega⟩,hZ ⟨uZ S2,Kr.nil (uZ S2).lt⟩⟩
  case round=>
   clear HJ2 S2
   obtain⟨acc,sa,na,ak,ck,Ca,Sa,rfl,HA,HI⟩:=hrel
   obtain⟨w50,hw50⟩:∃zz,zz=wr:=⟨_,rfl⟩
   subst hw50
   have S50:=hZ (uZ HI).1
   have HKa_50:=hZ (uZ HI).2
   obtain⟨g1,hg1⟩:=RJ_fuel (uZ HA).2.1
   subst hg1
   have HJ60:=hZ (show qListL c.ts (RJ c.ts g1) x acc sa=some r from (uZ HA).2.1)
   have hlna:=(uZ HA).2.2.1
   have hbnb:=(uZ HA).2.2.2
   have hgf:=(uZ HA).1
   clear HI HA
   have HJ61:=hZ ((by have:=uZ HJ60;unfold qListL at this;rw [hcl] at this;exact this))
   clear HJ60
   by_cases he:sa.e=0
   ·have HJ62:=hZ ((by have:=(uZ HJ61);rw [if_pos he] at this;exact this))
    clear HJ61
    have he0:((sa.e:Nat):Int)=0:=by omega
    have ec:=(uZ S50).rd.cells.2.2.2.1
    rw [he0] at ec
    obtain⟨nsy,sy,hy,hth⟩:=bq_some (uZ HJ62)
    have HJ63:=hZ (hth)
    clear HJ62
    clear hth
    have CR:=hZ (ihe (f1:=g1) (by omega) hy (uZ S50).rd)
    clear hy
    go_wp2_with fail
    refine(uZ CR).mono ?_
    rintro e w51 ⟨ky,ty,vky,vny,vsy,fy,ny,aky,cky,py,Zy,rfl,hly,hn,r2,b⟩
    simp only [] at hly hn r2
    have S51:=hZ ((uZ S50).go (d':=0) b r2)
    have HKa_51:=hZ ((uZ HKa_50).beside b (by omega))
    obtain⟨loy,hlo⟩:∃zz,w50.heap.size=zz:=⟨_,rfl⟩
    have ltloy:w.heap.size≤loy:=by rw [←hlo];exact(uZ S50).lt
    have HWa_y:=hZ ((uZ HKa_50).vlt hlo)
    have lea_y:=(uZ HKa_50).ok.le
    rw [hlo] at lea_y
    rw [hlo] at hn
    have HNy_51:=hZ hn
    clear hlo b r2 hn CR S50 HKa_50
    go_upto_region 5 with fail
    obtain⟨w52,hw⟩:∃zz,w51.alloc (.cells #[.int .i64 (ky:Int),.string (bA ty),.int .i64 (vky:Int),.int .i64 (vny:Int),.string (bA vsy),.slice none 0 0,.slice none 0 0,.bool fy,.slice aky ny cky,.int .i64 (py:Int)] 29)=zz:=⟨_,rfl⟩
    have b:Below w51.heap.size w51 w52:=by rw [←hw];exact(Below.refl _ _).alloc (Nat.le_refl _) _
    obtain⟨X,hQ⟩:∃zz,w51.heap.size=zz:=⟨_,rfl⟩
    have HBX_52:Hid (w52.heap[X]?=some (.cells #[.int .i64 (ky:Int),.string (bA ty),.int .i64 (vky:Int),.int .i64 (vny:Int),.string (bA vsy),.slice none 0 0,.slice none 0 0,.bool fy,.slice aky ny cky,.int .i64 (py:Int)] 29 (0,0))):=hZ (by rw [←hw,←hQ];exact heap_alloc_new _ _)
    have S52:=hZ ((uZ S51).below b)
    have HKa_52:=hZ ((uZ HKa_51).beside (Beside.of_below (gr:=c.g) b) (by omega))
    have HNy_52:=hZ ((uZ HNy_51).beside (Beside.of_below (gr:=c.g) b) (by omega))
    have APa_X:=hZ ((uZ HKa_51).fresh hQ)
    have ANy_X:=hZ ((uZ HNy_51).fresh hQ)
    have ltX:w.heap.size≤X:=by rw [←hQ];exact(uZ S51).lt
    rw [hw]
    try rw [hQ]
    clear hw hQ b S51 HKa_51 HNy_51
    obtain⟨Xo0,Xo1,Xo2,Xo3,Xo4,Xo5,Xo6,Xo7,Xo8,Xo9⟩:=row_cell10 (uZ HBX_52)
    obtain⟨w53,hwr⟩:∃zz,w52.alloc (.cells #[.int .i64 (ky:Int),.string (bA ty),.int .i64 (vky:Int),.int .i64 (vny:Int),.string (bA vsy),.slice none 0 0,.slice none 0 0,.bool fy,.slice aky ny cky,.int .i64 (py:Int)] 29)=zz:=⟨_,rfl⟩
    have b:Below w52.heap.size w52 w53:=by rw [←hwr];exact(Below.refl _ _).alloc (Nat.le_refl _) _
    obtain⟨hx,hhx⟩:∃zz,w52.heap.size=zz:=⟨_,rfl⟩
    have at4:Hid (w53.heap[hx]?=some (.cells #[.int .i64 (ky:Int),.string (bA ty),.int .i64 (vky:Int),.int .i64 (vny:Int),.string (bA vsy),.slice none 0 0,.slice none 0 0,.bool fy,.slice aky ny cky,.int .i64 (py:Int)] 29 (0,0))):=hZ (by rw [←hwr,←hhx];exact heap_alloc_new _ _)
    have S53:=hZ ((uZ S52).below b)
    have HBX_53:=bx_be HBX_52 b
    have HKa_53:=hZ ((uZ HKa_52).beside (Beside.of_below (gr:=c.g) b) (by omega))
    have HNy_53:=hZ ((uZ HNy_52).beside (Beside.of_below (gr:=c.g) b) (by omega))
    clear b S52 HBX_52 HKa_52 HNy_52
    have hkl:=(uZ HKa_53).own
    rw [hlna] at hkl
    have HKL:=hZ hkl
    clear hkl
    have tokA:True:=trivial
    have bbL:∀u:World,w53.grownBy u (Value.slice ak na ck).ownBlock→Below w.heap.size w53 u:=fun u hg=>(Below.refl _ _).grown hg (uZ HKa_53).ok.le (fun z hz=>((uZ HKa_53).own.lt z hz).1)
    have HBL:=hZ bbL
    clear bbL
    go_upto_region 6 with (first|(at_builtin;have _t:=tokA;refine wpl_appQ rfl (.tmp 23) (.tmp 25) rfl w.heap.size (.slice ak na ck) na _ rfl (uZ HKL) hx #[.int .i64 (ky:Int),.string (bA ty),.int .i64 (vky:Int),.int .i64 (vny:Int),.string (bA vsy),.slice none 0 0,.slice none 0 0,.bool fy,.slice aky ny cky,.int .i64 (py:Int)] rfl (uZ at4) rfl (ndC_one _ _ _ _ _ _ _ _ _ _) (by omega) (uZ HKa_53).ok.le ?_;clear tokA;intro g5 cap5 w54 H5))
    have bb:=(uZ HBL) _ (uZ H5).2.1
    have S54:=hZ ((uZ S53).below2 bb (Nat.le_refl _))
    have HKn_54:=hZ (Kr.push (uZ HKa_53) (uZ HNy_53) (by omega) (uZ HWa_y).2 (uZ HWa_y).1 (uZ H5).1 (by rw [List.length_append,hly,hlna]) (uZ H5).2.1 (uZ H5).2.2)
    clear bb H5 HKL at4 hwr hhx HBL HKa_53 HNy_53 HBX_53 S53 Xo0 Xo1 Xo2 Xo3 Xo4 Xo5 Xo6 Xo7 Xo8 Xo9
    rcases Bool.eq_false_or_eq_true (isQ c.ts 5 [44] sy) with hq2|hq2
    ·have HJ64:=hZ ((by have:=(uZ HJ63);rw [if_pos hq2] at this;exact this))
     clear HJ63
     have CC:=hZ ((by have:=signq_any (uZ S54).rd [44];rw [hq2] at this;exact this))
     go_wp2_with fail
     refine(uZ CC).mono ?_
     rintro e w55 ⟨rfl,b⟩
     have S55:=hZ ((uZ S54).below b)
     have HKn_55:=hZ ((uZ HKn_54).beside (Beside.of_below (gr:=c.g) b) (by omega))
     clear b CC S54 HKn_54
     have CC:=hZ (next_any (uZ S55).rd)
     go_wp2_with fail
     refine(uZ CC).mono ?_
     rintro e w56 ⟨rfl,r2,b⟩
     have S56:=hZ ((uZ S55).go (d':=0) b r2)
     have HKn_56:=hZ ((uZ HKn_55).beside b (by omega))
     clear b r2 CC S55 HKn_55
     go_wp2_with fail
     go_roundg g1
     case measure=>omega
     case rel=>exact⟨acc++nsy,nxQ c.ts sy,na+1,some ⟨g5,0,none⟩,cap5,_,_,rfl,hZ ⟨by omega,(uZ HJ64),by rw [List.length_append,hly,hlna],by omega⟩,hZ ⟨uZ S56,uZ HKn_56⟩⟩
    ·have HJ64:=hZ ((by have:=(uZ HJ63);rw [if_neg (by rw [hq2];decide)] at this;exact this))
     clear HJ63
     have CC:=hZ ((by have:=signq_any (uZ S54).rd [44];rw [hq2] at this;exact this))
     go_wp2_with fail
     refine(uZ CC).mono ?_
     rintro e w55 ⟨rfl,b⟩
     have S55:=hZ ((uZ S54).below b)
     have HKn_55:=hZ ((uZ HKn_54).beside (Beside.of_below (gr:=c.g) b) (by omega))
     clear b CC S54 HKn_54
     have CC:=hZ (closes_any (uZ S55).rd cl)
     go_wp2_with fail
     refine(uZ CC).mono ?_
     rintro e w56 ⟨rfl,r2,b⟩
     have S56:=hZ ((uZ S55).go (d':=0) b r2)
     have HKn_56:=hZ ((uZ HKn_55).beside b (by omega))
     clear b r2 CC S55 HKn_55
     have HR:=hZ (okq_some (uZ HJ64))
     have hl9:(acc++nsy).length=na+1:=by rw [List.length_append,hly,hlna]
     have HL9:=hZ hl9
     clear hl9
     go_wp2_with fail
     go_ret
     rw [uZ HR]
     exact⟨some ⟨g5,0,none⟩,cap5,_,_,by show _=Ending.returned (.slice _ (acc++nsy).length _);rw [uZ HL9];rfl,by show Kr _ _ _ (.slice _ (acc++nsy).length _) _ _;rw [uZ HL9];exact uZ HKn_56,(uZ S56).rd,(uZ S56).bs⟩
   ·have HJ62:=hZ ((by have:=(uZ HJ61);rw [if_neg he] at this;exact this))
    clear HJ61
    have he0:¬((sa.e:Nat):Int)=0:=by omega
    have he1:(((sa.e:Nat):Int) == 0)=false:=beq_eq_false_iff_ne.2 he0
    have ec:=(uZ S50).rd.cells.2.2.2.1
    have CC:=hZ (closes_any (uZ S50).rd cl)
    go_wp2_with fail
    refine(uZ CC).mono ?_
    rintro e w51 ⟨rfl,r2,b⟩
    have S51:=hZ ((uZ S50).go (d':=0) b r2)
    have HKa_51:=hZ ((uZ HKa_50).beside b (by omega))
    clear b r2 CC S50 HKa_50
    have HR:=hZ (okq_some (uZ HJ62))
    go_wp2_with fail
    go_ret
    rw [uZ HR]
    exact⟨ak,ck,_,_,by rw [hlna];rfl,by rw [hlna];exact uZ HKa_51,(uZ S51).rd,(uZ S51).bs⟩
end Go.Proofs.YtilhlmmcdfoaoaaGreatDoor
