/-
  Layer 17 (parse): the document's reader: statements; conditions: the reader's state.
-/
import Derived.Test.YtilhlmmcdfoaoaaGreatDoorE19
import Derived.Test.YtilhlmmcdfoaoaaGreatDoorE22
import Derived.Deep.CutBlock
set_option linter.unusedVariables false
set_option linter.unusedSimpArgs false
namespace Go.Proofs.YtilhlmmcdfoaoaaGreatDoor
open Go.RowKit
set_option linter.unusedVariables false
set_option linter.unusedSimpArgs false
set_option maxRecDepth 100000 in
set_option maxHeartbeats 16000000 in
theorem statq_step {c:Cx} {σ:Sg} {w:World} {r:List Nd × Sg} {F f:Nat} (ihe:∀{c:Cx} {σ:Sg} {w:World} {r:List Nd × Sg},RJ c.ts F 0 0 [] σ=some r→Rq w c σ→Calls Tryz.prog 91 #[.pointer (some ⟨c.g,0,none⟩)] w fun e w'=>NqP c w r e w') (ihl:∀{c:Cx} {σ:Sg} {w:World} {r:List Nd × Sg},RS c.ts F f 7 0 [] σ=some r→Rq w c σ→Calls Tryz.prog 92 #[.pointer (some ⟨c.g,0,none⟩)] w fun e w'=>NqP c w r e w') (ihi:∀{c:Cx} {σ:Sg} {w:World} {r:List Nd × Sg},RS c.ts F f 9 0 [] σ=some r→Rq w c σ→Calls Tryz.prog 93 #[.pointer (some ⟨c.g,0,none⟩)] w fun e w'=>NqP c w r e w') (ihc:∀{c:Cx} {σ:Sg} {w:World} {r:List Nd × Sg},RS c.ts F f 8 0 [] σ=some r→Rq w c σ→Calls Tryz.prog 94 #[.pointer (some ⟨c.g,0,none⟩)] w fun e w'=>NqP c w r e w') (ihb:∀{c:Cx} {σ:Sg} {w:World} {r:List Nd × Sg},RS c.ts F f 4 0 [] σ=some r→Rq w c σ→Calls Tryz.prog 48 #[.pointer (some ⟨c.g,0,none⟩)] w fun e w'=>NqP c w r e w') (hJ:RS c.ts F (f+1) 6 0 [] σ=some r) (h:Rq w c σ) :
  Calls Tryz.prog 68 #[.pointer (some ⟨c.g,0,none⟩)] w fun e w'=>NqP c w r e w':=by
 have S1:=hZ (Sq.start (d:=0) h 29 #[.int .i64 0,.string ⟨#[]⟩,.int .i64 0,.int .i64 0,.string ⟨#[]⟩,.slice none 0 0,.slice none 0 0,.bool false,.slice none 0 0,.int .i64 0])
 obtain⟨w1,hw1⟩:∃w1,w.alloc (.cells #[.int .i64 0,.string ⟨#[]⟩,.int .i64 0,.int .i64 0,.string ⟨#[]⟩,.slice none 0 0,.slice none 0 0,.bool false,.slice none 0 0,.int .i64 0] 29)=w1:=⟨_,rfl⟩
 rw [hw1] at S1
 obtain⟨G,hG⟩:∃G,w.heap.size=G:=⟨_,rfl⟩
 have hgw:c.g<w.heap.size:=h.frz.2.2.2.2
 clear h
 go_enter Tryz.func68,Tryz.ntmps68
 have HJ0:=hZ (show sStat c.ts (RJ c.ts F) (RS c.ts F f) σ=some r from hJ)
 clear hJ
 obtain⟨⟨k,t,n,p⟩,ht⟩:∃zz,tkQ c.ts σ=zz:=⟨_,rfl⟩
 have HT:=hZ ht
 clear ht
 have HJ1:=hZ ((by have:=uZ HJ0;unfold sStat enQ at this;rw [uZ HT] at this;simp only [] at this;exact this))
 clear HJ0
 have CC:=hZ ((by have:=peek_any (uZ S1).rd;rw [uZ HT] at this;simp only [tkA] at this;exact this))
 go_wp2_with fail
 refine(uZ CC).mono ?_
 rintro e w2 ⟨rfl,b⟩
 have S2:=hZ ((uZ S1).below b)
 clear b CC S1
 go_upto_region 2 with fail
 obtain⟨w3,hw⟩:∃zz,w2.alloc (.cells #[.int .i64 (k:Int),.string (bA t),.int .i64 (n:Int),.int .i64 (p:Int)] 52)=zz:=⟨_,rfl⟩
 have b:Below w2.heap.size w2 w3:=by rw [←hw];exact(Below.refl _ _).alloc (Nat.le_refl _) _
 obtain⟨B,hQ⟩:∃zz,w2.heap.size=zz:=⟨_,rfl⟩
 have HBB_3:Hid (w3.heap[B]?=some (.cells #[.int .i64 (k:Int),.string (bA t),.int .i64 (n:Int),.int .i64 (p:Int)] 52 (0,0))):=hZ (by rw [←hw,←hQ];exact heap_alloc_new _ _)
 have S3:=hZ ((uZ S2).below b)
 have ltB:w.heap.size<B:=by rw [←hQ];exact(uZ S2).lt
 rw [hw]
 try rw [hQ]
 clear hw hQ b S2
 obtain⟨Bc0,Bc1,Bc2,Bc3⟩:=row_cell4 (uZ HBB_3)
 go_upto_region 3 with fail
 obtain⟨w4,hw⟩:∃zz,w3.alloc (.cells #[.int .i64 12,.string ⟨#[]⟩,.int .i64 0,.int .i64 0,.string ⟨#[]⟩,.slice none 0 0,.slice none 0 0,.bool false,.slice none 0 0,.int .i64 (p:Int)] 29)=zz:=⟨_,rfl⟩
 have b:Below w3.heap.size w3 w4:=by rw [←hw];exact(Below.refl _ _).alloc (Nat.le_refl _) _
 obtain⟨Q,hQ⟩:∃zz,w3.heap.size=zz:=⟨_,rfl⟩
 have HBQ_4:Hid (w4.heap[Q]?=some (.cells #[.int .i64 12,.string ⟨#[]⟩,.int .i64 0,.int .i64 0,.string ⟨#[]⟩,.slice none 0 0,.slice none 0 0,.bool false,.slice none 0 0,.int .i64 (p:Int)] 29 (0,0))):=hZ (by rw [←hw,←hQ];exact heap_alloc_new _ _)
 have S4:=hZ ((uZ S3).below b)
 have HBB_4:=bx_be HBB_3 b
 have lB_Q:B<Q:=by rw [←hQ];exact(Array.getElem?_eq_some_iff.1 (uZ HBB_3)).1
 have ltQ:w.heap.size<Q:=by rw [←hQ];exact(uZ S3).lt
 rw [hw]
 try rw [hQ]
 clear hw hQ b S3 HBB_3
 clear Bc0 Bc1 Bc2 Bc3
 obtain⟨vs9,hvs⟩:∃zz,setQ c.ts σ=zz:=⟨_,rfl⟩
 have HJ2:=hZ ((by have:=(uZ HJ1);rw [hvs] at this;exact this))
 clear HJ1
 have CC:=hZ ((by have:=setsq_any (uZ S4).rd;rw [hvs] at this;exact this))
 go_wp2_with fail
 refine(uZ CC).mono ?_
 rintro e w5 ⟨rfl,b⟩
 have S5:=hZ ((uZ S4).below b)
 have HBB_5:=bx_be HBB_4 b
 have HBQ_5:=bx_be HBQ_4 b
 clear b CC S4 HBB_4 HBQ_4
 go_upto_block 0 with fail
 go_cut [] from 19 to 138 (fun wx=>∃(kd:Nat) (tx:List UInt8) (ks:List Nd) (s5:Sg) (na:Nat) (ak:Option Addr) (ck:Nat) (C:List Value) (Sa:List Nat),ks.length=na∧Hid (okq [nd0 kd tx ks p] (muQ c.ts 5 [59] s5).2=some r)∧Hid (Sq w c 29 #[.int .i64 0,.string ⟨#[]⟩,.int .i64 0,.int .i64 0,.string ⟨#[]⟩,.slice none 0 0,.slice none 0 0,.bool false,.slice none 0 0,.int .i64 0] wx s5 0∧wx.heap[Q]?=some (.cells #[.int .i64 (kd:Int),.string (bA tx),.int .i64 0,.int .i64 0,.string ⟨#[]⟩,.slice none 0 0,.slice none 0 0,.bool false,.slice ak na ck,.int .i64 (p:Int)] 29 (0,0))∧Kr (Q+1) wx ks (.slice ak na ck) C Sa))
 case first=>
  rcases Bool.eq_false_or_eq_true vs9 with hv|hv
  ·subst hv
   have HJ3:=hZ ((by have:=(uZ HJ2);(first|rw [if_pos rfl] at this|rw [if_pos trivial] at this);exact this))
   clear HJ2
   obtain⟨Qc0,-,-,-,-,-,-,-,-,-⟩:=row_cell10 (uZ HBQ_5)
   have Qf0:=frozen_of_row w5 Q 0 _ _ (uZ HBQ_5)
   go_upto_region 8 with fail
   clear Qc0 Qf0
   obtain⟨w6,hw⟩:∃zz,w5.setCell ⟨Q,0,none⟩ (.int .i64 6)=zz:=⟨_,rfl⟩
   have HBQ_6:Hid (w6.heap[Q]?=some (.cells #[.int .i64 6,.string ⟨#[]⟩,.int .i64 0,.int .i64 0,.string ⟨#[]⟩,.slice none 0 0,.slice none 0 0,.bool false,.slice none 0 0,.int .i64 (p:Int)] 29 (0,0))):=hZ (by rw [←hw,heap_setCell_same w5 Q 0 _ _ _ (uZ HBQ_5)];rfl)
   have S6:Hid (Sq w c 29 #[.int .i64 0,.string ⟨#[]⟩,.int .i64 0,.int .i64 0,.string ⟨#[]⟩,.slice none 0 0,.slice none 0 0,.bool false,.slice none 0 0,.int .i64 0] w6 σ 0):=hZ (by rw [←hw];exact(uZ S5).own Q 0 _ ltQ)
   have HBB_6:=(bx_ne (q:=Q) (f:=0) (v:=.int .i64 6) HBB_5 (by omega))
   rw [hw] at HBB_6
   rw [hw]
   clear hw S5 HBB_5 HBQ_5
   obtain⟨-,Bc1,-,-⟩:=row_cell4 (uZ HBB_6)
   obtain⟨-,Qc1,-,-,-,-,-,-,-,-⟩:=row_cell10 (uZ HBQ_6)
   have Qf1:=frozen_of_row w6 Q 1 _ _ (uZ HBQ_6)
   go_upto_region 9 with fail
   clear Qc1 Qf1 Bc1
   obtain⟨w7,hw⟩:∃zz,w6.setCell ⟨Q,1,none⟩ (.string (bA t))=zz:=⟨_,rfl⟩
   have HBQ_7:Hid (w7.heap[Q]?=some (.cells #[.int .i64 6,.string (bA t),.int .i64 0,.int .i64 0,.string ⟨#[]⟩,.slice none 0 0,.slice none 0 0,.bool false,.slice none 0 0,.int .i64 (p:Int)] 29 (0,0))):=hZ (by rw [←hw,heap_setCell_same w6 Q 1 _ _ _ (uZ HBQ_6)];rfl)
   have S7:Hid (Sq w c 29 #[.int .i64 0,.string ⟨#[]⟩,.int .i64 0,.int .i64 0,.string ⟨#[]⟩,.slice none 0 0,.slice none 0 0,.bool false,.slice none 0 0,.int .i64 0] w7 σ 0):=hZ (by rw [←hw];exact(uZ S6).own Q 1 _ ltQ)
   have HBB_7:=(bx_ne (q:=Q) (f:=1) (v:=.string (bA t)) HBB_6 (by omega))
   rw [hw] at HBB_7
   rw [hw]
   clear hw S6 HBB_6 HBQ_6
   have CC:=hZ (next_any (uZ S7).rd)
   go_wp2_with fail
   refine(uZ CC).mono ?_
   rintro e w8 ⟨rfl,r2,b⟩
   have S8:=hZ ((uZ S7).go (d':=0) b r2)
   have HBB_8:=bx_go HBB_7 b (by omega)
   have HBQ_8:=bx_go HBQ_7 b (by omega)
   clear b r2 CC S7 HBB_7 HBQ_7
   have CC:=hZ (next_any (uZ S8).rd)
   go_wp2_with fail
   refine(uZ CC).mono ?_
   rintro e w9 ⟨rfl,r2,b⟩
   have S9:=hZ ((uZ S8).go (d':=0) b r2)
   have HBB_9:=bx_go HBB_8 b (by omega)
   have HBQ_9:=bx_go HBQ_8 b (by omega)
   clear b r2 CC S8 HBB_8 HBQ_8
   have HKa_9:Hid (Kr (Q+1) w9 [] (.slice none 0 0) [] []):=hZ (Kr.nil (Array.getElem?_eq_some_iff.1 (uZ HBQ_9)).1)
   have hlna:([]:List Nd).length=0:=rfl
   obtain⟨nsx,sx,hy,hth⟩:=bq_some (uZ HJ3)
   have HJ4:=hZ (hth)
   clear HJ3
   clear hth
   have CR:=hZ (ihe hy (uZ S9).rd)
   clear hy
   go_wp2_with fail
   refine(uZ CR).mono ?_
   rintro e w10 ⟨kx,tx,vkx,vnx,vsx,fx,nx,akx,ckx,px,Zx,rfl,hlx,hn,r2,b⟩
   simp only [] at hlx hn r2
   have S10:=hZ ((uZ S9).go (d':=0) b r2)
   have HBB_10:=bx_go HBB_9 b (by omega)
   have HBQ_10:=bx_go HBQ_9 b (by omega)
   have HKa_10:=hZ ((uZ HKa_9).beside b (by omega))
   obtain⟨lox,hlo⟩:∃zz,w9.heap.size=zz:=⟨_,rfl⟩
   have ltlox:w.heap.size<lox:=by rw [←hlo];exact(uZ S9).lt
   have lqB_x:B<lox:=by rw [←hlo];exact(Array.getElem?_eq_some_iff.1 (uZ HBB_9)).1
   have lqQ_x:Q<lox:=by rw [←hlo];exact(Array.getElem?_eq_some_iff.1 (uZ HBQ_9)).1
   have HWa_x:=hZ ((uZ HKa_9).vlt hlo)
   have lea_x:=(uZ HKa_9).ok.le
   rw [hlo] at lea_x
   rw [hlo] at hn
   have HNx_10:=hZ hn
   clear hlo b r2 hn CR S9 HBB_9 HBQ_9 HKa_9
   go_upto_region 12 with fail
   obtain⟨w11,hw⟩:∃zz,w10.alloc (.cells #[.int .i64 (kx:Int),.string (bA tx),.int .i64 (vkx:Int),.int .i64 (vnx:Int),.string (bA vsx),.slice none 0 0,.slice none 0 0,.bool fx,.slice akx nx ckx,.int .i64 (px:Int)] 29)=zz:=⟨_,rfl⟩
   have b:Below w10.heap.size w10 w11:=by rw [←hw];exact(Below.refl _ _).alloc (Nat.le_refl _) _
   obtain⟨X,hQ⟩:∃zz,w10.heap.size=zz:=⟨_,rfl⟩
   have HBX_11:Hid (w11.heap[X]?=some (.cells #[.int .i64 (kx:Int),.string (bA tx),.int .i64 (vkx:Int),.int .i64 (vnx:Int),.string (bA vsx),.slice none 0 0,.slice none 0 0,.bool fx,.slice akx nx ckx,.int .i64 (px:Int)] 29 (0,0))):=hZ (by rw [←hw,←hQ];exact heap_alloc_new _ _)
   have S11:=hZ ((uZ S10).below b)
   have HBB_11:=bx_be HBB_10 b
   have HBQ_11:=bx_be HBQ_10 b
   have HKa_11:=hZ ((uZ HKa_10).beside (Beside.of_below (gr:=c.g) b) (by omega))
   have HNx_11:=hZ ((uZ HNx_10).beside (Beside.of_below (gr:=c.g) b) (by omega))
   have lB_X:B<X:=by rw [←hQ];exact(Array.getElem?_eq_some_iff.1 (uZ HBB_10)).1
   have lQ_X:Q<X:=by rw [←hQ];exact(Array.getElem?_eq_some_iff.1 (uZ HBQ_10)).1
   have APa_X:=hZ ((uZ HKa_10).fresh hQ)
   have ANx_X:=hZ ((uZ HNx_10).fresh hQ)
   have ltX:w.heap.size<X:=by rw [←hQ];exact(uZ S10).lt
   rw [hw]
   try rw [hQ]
   clear hw hQ b S10 HBB_10 HBQ_10 HKa_10 HNx_10
   obtain⟨Xo0,Xo1,Xo2,Xo3,Xo4,Xo5,Xo6,Xo7,Xo8,Xo9⟩:=row_cell10 (uZ HBX_11)
   have Kc8:=(row_cell10 (uZ HBQ_11)).2.2.2.2.2.2.2.2.1
   obtain⟨w12,hwr⟩:∃zz,w11.alloc (.cells #[.int .i64 (kx:Int),.string (bA tx),.int .i64 (vkx:Int),.int .i64 (vnx:Int),.string (bA vsx),.slice none 0 0,.slice none 0 0,.bool fx,.slice akx nx ckx,.int .i64 (px:Int)] 29)=zz:=⟨_,rfl⟩
   have b:Below w11.heap.size w11 w12:=by rw [←hwr];exact(Below.refl _ _).alloc (Nat.le_refl _) _
   obtain⟨hx,hhx⟩:∃zz,w11.heap.size=zz:=⟨_,rfl⟩
   have at4:Hid (w12.heap[hx]?=some (.cells #[.int .i64 (kx:Int),.string (bA tx),.int .i64 (vkx:Int),.int .i64 (vnx:Int),.string (bA vsx),.slice none 0 0,.slice none 0 0,.bool fx,.slice akx nx ckx,.int .i64 (px:Int)] 29 (0,0))):=hZ (by rw [←hwr,←hhx];exact heap_alloc_new _ _)
   have S12:=hZ ((uZ S11).below b)
   have HBB_12:=bx_be HBB_11 b
   have HBQ_12:=bx_be HBQ_11 b
   have HBX_12:=bx_be HBX_11 b
   have HKa_12:=hZ ((uZ HKa_11).beside (Beside.of_below (gr:=c.g) b) (by omega))
   have HNx_12:=hZ ((uZ HNx_11).beside (Beside.of_below (gr:=c.g) b) (by omega))
   clear b S11 HBB_11 HBQ_11 HBX_11 HKa_11 HNx_11
   have hkl:=(uZ HKa_12).own
   rw [hlna] at hkl
   have HKL:=hZ hkl
   have HKE:=hZ ((uZ HKa_12).ok.le)
   clear hkl
   have tokA:True:=trivial
   go_wp2_with (first|(at_builtin;have _t:=tokA;refine wpl_appM 1 rfl (.tmp 40) (.tmp 42) rfl (Q+1) (.slice none 0 0) 0 _ rfl (uZ HKL) hx #[.int .i64 (kx:Int),.string (bA tx),.int .i64 (vkx:Int),.int .i64 (vnx:Int),.string (bA vsx),.slice none 0 0,.slice none 0 0,.bool fx,.slice akx nx ckx,.int .i64 (px:Int)] rfl (uZ at4) rfl (ndC_one _ _ _ _ _ _ _ _ _ _) (by decide) (by omega) (uZ HKE) ?_;clear tokA;intro gq12 cp12 w13 H5;have HB5:=push_box (uZ HBQ_12) (uZ HKa_12) (by omega) (uZ H5).2.1;have f8:=frozen_of_row w13 Q 8 _ _ HB5;have c8:=(row_cell10 HB5).2.2.2.2.2.2.2.2.1;clear HB5))
   have P:=push_all (uZ S12) ltQ (uZ HBQ_12) (uZ HKa_12) (uZ HNx_12) (by omega) (by omega) (uZ HWa_x) H5 (by rw [List.length_append,hlx,hlna])
   obtain⟨w14,hw⟩:∃zz,w13.setCell ⟨Q,8,none⟩ (.slice (some ⟨gq12,0,none⟩) (0+1) cp12)=zz:=⟨_,rfl⟩
   rw [hw] at P ⊢
   obtain⟨S14,HBQ_14,HKn_14⟩:=P
   have hlnn:([]++(nsx)).length=0+1:=by rw [List.length_append,hlx,hlna]
   clear hw H5 HKL HKE at4 hwr hhx f8 c8 Kc8 S12 HBB_12 HBQ_12 HBX_12 HKa_12 HNx_12 Xo0 Xo1 Xo2 Xo3 Xo4 Xo5 Xo6 Xo7 Xo8 Xo9
   go_meet
   exact⟨6,t,[]++nsx,sx,_,(some ⟨gq12,0,none⟩),cp12,_,_,hlnn,hZ (uZ HJ4),hZ ⟨uZ S14,uZ HBQ_14,uZ HKn_14⟩⟩
  ·subst hv
   have HJ3:=hZ ((by have:=(uZ HJ2);rw [if_neg (by decide)] at this;exact this))
   clear HJ2
   obtain⟨Bc0,Bc1,Bc2,Bc3⟩:=row_cell4 (uZ HBB_5)
   by_cases hk2:k=2
   ·subst hk2
    by_cases hT0:t=[108,101,116]
    ·subst hT0
     have f0:((bA [108,101,116]).toList == [108,101,116])=true:=by kernel_rfl
     have g0:kyQ c.ts [108,101,116] σ=true:=by unfold kyQ;rw [uZ HT];rfl
     have HJ4:=hZ ((by have:=(uZ HJ3);rw [if_pos g0] at this;exact this))
     clear HJ3
     clear g0
     obtain⟨⟨nsx,sx⟩,hrx⟩:∃zz,r=zz:=⟨_,rfl⟩
     have CR:=hZ (ihl (uZ HJ4) (uZ S5).rd)
     have HR1:=hZ hrx
     rw [hrx] at CR
     clear hrx
     go_wp2_with fail
     refine(uZ CR).mono ?_
     rintro e wz ⟨kx,tx,vkx,vnx,vsx,fx,nx,akx,ckx,px,Zx,rfl,hlx,hn,r2,b⟩
     simp only [] at hlx hn r2
     have S90:=hZ ((uZ S5).go (d':=0) b r2)
     have HNx_90:=hZ (hn.low (lo':=w.heap.size+1) (uZ S5).lt)
     clear b r2 hn CR S5
     have HR:=hZ (uZ HR1)
     have BX:=(uZ S90).bx
     rw [hG] at BX
     obtain⟨g0,g1,g2,g3,g4,g5,g6,g7,g8,g9⟩:=row_cell10 BX
     obtain⟨z0,z1,z2,z3,z4,z5,z6,z7,z8,z9⟩:=frozen10 BX
     clear BX
     have FF:=hZ (Sq.done (uZ S90) (uZ HNx_90) hlx hG)
     go_wp2_with fail
     refine bodyPost_ret (ret_c1 (p:=2) (T:=29) rfl _ _ G _ _ _ rfl (uZ FF).1 Tryz.underlying29 rfl size_nd) rfl ?_
     rw [uZ HR]
     exact(uZ FF).2
    ·by_cases hT1:t=[105,102]
     ·subst hT1
      have f0:((bA [105,102]).toList == [108,101,116])=false:=by kernel_rfl
      have g0:kyQ c.ts [108,101,116] σ=false:=by unfold kyQ;rw [uZ HT];rfl
      have f1:((bA [105,102]).toList == [105,102])=true:=by kernel_rfl
      have g1:kyQ c.ts [105,102] σ=true:=by unfold kyQ;rw [uZ HT];rfl
      have HJ4:=hZ ((by have:=(uZ HJ3);rw [if_neg (by rw [g0];decide),if_pos g1] at this;exact this))
      clear HJ3
      clear g0 g1 hT0
      obtain⟨⟨nsx,sx⟩,hrx⟩:∃zz,r=zz:=⟨_,rfl⟩
      have CR:=hZ (ihi (uZ HJ4) (uZ S5).rd)
      have HR1:=hZ hrx
      rw [hrx] at CR
      clear hrx
      go_wp2_with fail
      refine(uZ CR).mono ?_
      rintro e wz ⟨kx,tx,vkx,vnx,vsx,fx,nx,akx,ckx,px,Zx,rfl,hlx,hn,r2,b⟩
      simp only [] at hlx hn r2
      have S90:=hZ ((uZ S5).go (d':=0) b r2)
      have HNx_90:=hZ (hn.low (lo':=w.heap.size+1) (uZ S5).lt)
      clear b r2 hn CR S5
      have HR:=hZ (uZ HR1)
      have BX:=(uZ S90).bx
      rw [hG] at BX
      obtain⟨g0,g1,g2,g3,g4,g5,g6,g7,g8,g9⟩:=row_cell10 BX
      obtain⟨z0,z1,z2,z3,z4,z5,z6,z7,z8,z9⟩:=frozen10 BX
      clear BX
      have FF:=hZ (Sq.done (uZ S90) (uZ HNx_90) hlx hG)
      go_wp2_with fail
      refine bodyPost_ret (ret_c1 (p:=2) (T:=29) rfl _ _ G _ _ _ rfl (uZ FF).1 Tryz.underlying29 rfl size_nd) rfl ?_
      rw [uZ HR]
      exact(uZ FF).2
     ·by_cases hT2:t=[119,104,105,108,101]
      ·subst hT2
       have f0:((bA [119,104,105,108,101]).toList == [108,101,116])=false:=by kernel_rfl
       have g0:kyQ c.ts [108,101,116] σ=false:=by unfold kyQ;rw [uZ HT];rfl
       have f1:((bA [119,104,105,108,101]).toList == [105,102])=false:=by kernel_rfl
       have g1:kyQ c.ts [105,102] σ=false:=by unfold kyQ;rw [uZ HT];rfl
       have f2:((bA [119,104,105,108,101]).toList == [119,104,105,108,101])=true:=by kernel_rfl
       have g2:kyQ c.ts [119,104,105,108,101] σ=true:=by unfold kyQ;rw [uZ HT];rfl
       have HJ4:=hZ ((by have:=(uZ HJ3);rw [if_neg (by rw [g0];decide),if_neg (by rw [g1];decide),if_pos g2] at this;exact this))
       clear HJ3
       clear g0 g1 g2 hT0 hT1
       obtain⟨Qc0,-,-,-,-,-,-,-,-,-⟩:=row_cell10 (uZ HBQ_5)
       have Qf0:=frozen_of_row w5 Q 0 _ _ (uZ HBQ_5)
       go_upto_region 19 with fail
       clear Qc0 Qf0
       obtain⟨w6,hw⟩:∃zz,w5.setCell ⟨Q,0,none⟩ (.int .i64 8)=zz:=⟨_,rfl⟩
       have HBQ_6:Hid (w6.heap[Q]?=some (.cells #[.int .i64 8,.string ⟨#[]⟩,.int .i64 0,.int .i64 0,.string ⟨#[]⟩,.slice none 0 0,.slice none 0 0,.bool false,.slice none 0 0,.int .i64 (p:Int)] 29 (0,0))):=hZ (by rw [←hw,heap_setCell_same w5 Q 0 _ _ _ (uZ HBQ_5)];rfl)
       have S6:Hid (Sq w c 29 #[.int .i64 0,.string ⟨#[]⟩,.int .i64 0,.int .i64 0,.string ⟨#[]⟩,.slice none 0 0,.slice none 0 0,.bool false,.slice none 0 0,.int .i64 0] w6 σ 0):=hZ (by rw [←hw];exact(uZ S5).own Q 0 _ ltQ)
       have HBB_6:=(bx_ne (q:=Q) (f:=0) (v:=.int .i64 8) HBB_5 (by omega))
       rw [hw] at HBB_6
       rw [hw]
       clear hw S5 HBB_5 HBQ_5
       clear Bc0 Bc1 Bc2 Bc3
       have CC:=hZ (next_any (uZ S6).rd)
       go_wp2_with fail
       refine(uZ CC).mono ?_
       rintro e w7 ⟨rfl,r2,b⟩
       have S7:=hZ ((uZ S6).go (d':=0) b r2)
       have HBB_7:=bx_go HBB_6 b (by omega)
       have HBQ_7:=bx_go HBQ_6 b (by omega)
       clear b r2 CC S6 HBB_6 HBQ_6
       have HKa_7:Hid (Kr (Q+1) w7 [] (.slice none 0 0) [] []):=hZ (Kr.nil (Array.getElem?_eq_some_iff.1 (uZ HBQ_7)).1)
       have hlna:([]:List Nd).length=0:=rfl
       obtain⟨nsx,sx,hy,hth⟩:=bq_some (uZ HJ4)
       have HJ5:=hZ (hth)
       clear HJ4
       clear hth
       have CR:=hZ (ihc hy (uZ S7).rd)
       clear hy
       go_wp2_with fail
       refine(uZ CR).mono ?_
       rintro e w8 ⟨kx,tx,vkx,vnx,vsx,fx,nx,akx,ckx,px,Zx,rfl,hlx,hn,r2,b⟩
       simp only [] at hlx hn r2
       have S8:=hZ ((uZ S7).go (d':=0) b r2)
       have HBB_8:=bx_go HBB_7 b (by omega)
       have HBQ_8:=bx_go HBQ_7 b (by omega)
       have HKa_8:=hZ ((uZ HKa_7).beside b (by omega))
       obtain⟨lox,hlo⟩:∃zz,w7.heap.size=zz:=⟨_,rfl⟩
       have ltlox:w.heap.size<lox:=by rw [←hlo];exact(uZ S7).lt
       have lqB_x:B<lox:=by rw [←hlo];exact(Array.getElem?_eq_some_iff.1 (uZ HBB_7)).1
       have lqQ_x:Q<lox:=by rw [←hlo];exact(Array.getElem?_eq_some_iff.1 (uZ HBQ_7)).1
       have HWa_x:=hZ ((uZ HKa_7).vlt hlo)
       have lea_x:=(uZ HKa_7).ok.le
       rw [hlo] at lea_x
       rw [hlo] at hn
       have HNx_8:=hZ hn
       clear hlo b r2 hn CR S7 HBB_7 HBQ_7 HKa_7
       go_upto_region 21 with fail
       obtain⟨w9,hw⟩:∃zz,w8.alloc (.cells #[.int .i64 (kx:Int),.string (bA tx),.int .i64 (vkx:Int),.int .i64 (vnx:Int),.string (bA vsx),.slice none 0 0,.slice none 0 0,.bool fx,.slice akx nx ckx,.int .i64 (px:Int)] 29)=zz:=⟨_,rfl⟩
       have b:Below w8.heap.size w8 w9:=by rw [←hw];exact(Below.refl _ _).alloc (Nat.le_refl _) _
       obtain⟨X,hQ⟩:∃zz,w8.heap.size=zz:=⟨_,rfl⟩
       have HBX_9:Hid (w9.heap[X]?=some (.cells #[.int .i64 (kx:Int),.string (bA tx),.int .i64 (vkx:Int),.int .i64 (vnx:Int),.string (bA vsx),.slice none 0 0,.slice none 0 0,.bool fx,.slice akx nx ckx,.int .i64 (px:Int)] 29 (0,0))):=hZ (by rw [←hw,←hQ];exact heap_alloc_new _ _)
       have S9:=hZ ((uZ S8).below b)
       have HBB_9:=bx_be HBB_8 b
       have HBQ_9:=bx_be HBQ_8 b
       have HKa_9:=hZ ((uZ HKa_8).beside (Beside.of_below (gr:=c.g) b) (by omega))
       have HNx_9:=hZ ((uZ HNx_8).beside (Beside.of_below (gr:=c.g) b) (by omega))
       have lB_X:B<X:=by rw [←hQ];exact(Array.getElem?_eq_some_iff.1 (uZ HBB_8)).1
       have lQ_X:Q<X:=by rw [←hQ];exact(Array.getElem?_eq_some_iff.1 (uZ HBQ_8)).1
       have APa_X:=hZ ((uZ HKa_8).fresh hQ)
       have ANx_X:=hZ ((uZ HNx_8).fresh hQ)
       have ltX:w.heap.size<X:=by rw [←hQ];exact(uZ S8).lt
       rw [hw]
       try rw [hQ]
       clear hw hQ b S8 HBB_8 HBQ_8 HKa_8 HNx_8
       obtain⟨nsy,sy,hy,hth⟩:=bq_some (uZ HJ5)
       have HJ6:=hZ (hth)
       clear HJ5
       clear hth
       have CR:=hZ (ihb hy (uZ S9).rd)
       clear hy
       go_wp2_with fail
       refine(uZ CR).mono ?_
       rintro e w10 ⟨ky,ty,vky,vny,vsy,fy,ny,aky,cky,py,Zy,rfl,hly,hn,r2,b⟩
       simp only [] at hly hn r2
       have S10:=hZ ((uZ S9).go (d':=0) b r2)
       have HBB_10:=bx_go HBB_9 b (by omega)
       have HBQ_10:=bx_go HBQ_9 b (by omega)
       have HBX_10:=bx_go HBX_9 b (by omega)
       have HKa_10:=hZ ((uZ HKa_9).beside b (by omega))
       have HNx_10:=hZ ((uZ HNx_9).beside b (by omega))
       obtain⟨loy,hlo⟩:∃zz,w9.heap.size=zz:=⟨_,rfl⟩
       have ltloy:w.heap.size<loy:=by rw [←hlo];exact(uZ S9).lt
       have lqB_y:B<loy:=by rw [←hlo];exact(Array.getElem?_eq_some_iff.1 (uZ HBB_9)).1
       have lqQ_y:Q<loy:=by rw [←hlo];exact(Array.getElem?_eq_some_iff.1 (uZ HBQ_9)).1
       have lqX_y:X<loy:=by rw [←hlo];exact(Array.getElem?_eq_some_iff.1 (uZ HBX_9)).1
       have HMx_y:Hid (∀b∈Zx,b<loy):=hZ (fun b hb=>by rw [←hlo];exact((uZ HNx_9).rg b hb).2)
       have lex_y:lox≤loy:=by rw [←hlo];exact(uZ HNx_9).le
       have HWa_y:=hZ ((uZ HKa_9).vlt hlo)
       have lea_y:=(uZ HKa_9).ok.le
       rw [hlo] at lea_y
       rw [hlo] at hn
       have HNy_10:=hZ hn
       clear hlo b r2 hn CR S9 HBB_9 HBQ_9 HBX_9 HKa_9 HNx_9
       go_upto_region 22 with fail
       obtain⟨w11,hw⟩:∃zz,w10.alloc (.cells #[.int .i64 (ky:Int),.string (bA ty),.int .i64 (vky:Int),.int .i64 (vny:Int),.string (bA vsy),.slice none 0 0,.slice none 0 0,.bool fy,.slice aky ny cky,.int .i64 (py:Int)] 29)=zz:=⟨_,rfl⟩
       have b:Below w10.heap.size w10 w11:=by rw [←hw];exact(Below.refl _ _).alloc (Nat.le_refl _) _
       obtain⟨Y,hQ⟩:∃zz,w10.heap.size=zz:=⟨_,rfl⟩
       have HBY_11:Hid (w11.heap[Y]?=some (.cells #[.int .i64 (ky:Int),.string (bA ty),.int .i64 (vky:Int),.int .i64 (vny:Int),.string (bA vsy),.slice none 0 0,.slice none 0 0,.bool fy,.slice aky ny cky,.int .i64 (py:Int)] 29 (0,0))):=hZ (by rw [←hw,←hQ];exact heap_alloc_new _ _)
       have S11:=hZ ((uZ S10).below b)
       have HBB_11:=bx_be HBB_10 b
       have HBQ_11:=bx_be HBQ_10 b
       have HBX_11:=bx_be HBX_10 b
       have HKa_11:=hZ ((uZ HKa_10).beside (Beside.of_below (gr:=c.g) b) (by omega))
       have HNx_11:=hZ ((uZ HNx_10).beside (Beside.of_below (gr:=c.g) b) (by omega))
       have HNy_11:=hZ ((uZ HNy_10).beside (Beside.of_below (gr:=c.g) b) (by omega))
       have lB_Y:B<Y:=by rw [←hQ];exact(Array.getElem?_eq_some_iff.1 (uZ HBB_10)).1
       have lQ_Y:Q<Y:=by rw [←hQ];exact(Array.getElem?_eq_some_iff.1 (uZ HBQ_10)).1
       have lX_Y:X<Y:=by rw [←hQ];exact(Array.getElem?_eq_some_iff.1 (uZ HBX_10)).1
       have APa_Y:=hZ ((uZ HKa_10).fresh hQ)
       have ANx_Y:=hZ ((uZ HNx_10).fresh hQ)
       have ANy_Y:=hZ ((uZ HNy_10).fresh hQ)
       have ltY:w.heap.size<Y:=by rw [←hQ];exact(uZ S10).lt
       rw [hw]
       try rw [hQ]
       clear hw hQ b S10 HBB_10 HBQ_10 HBX_10 HKa_10 HNx_10 HNy_10
       obtain⟨Xo0,Xo1,Xo2,Xo3,Xo4,Xo5,Xo6,Xo7,Xo8,Xo9⟩:=row_cell10 (uZ HBX_11)
       obtain⟨Yo0,Yo1,Yo2,Yo3,Yo4,Yo5,Yo6,Yo7,Yo8,Yo9⟩:=row_cell10 (uZ HBY_11)
       have Kc8:=(row_cell10 (uZ HBQ_11)).2.2.2.2.2.2.2.2.1
       obtain⟨w12,hwr⟩:∃zz,w11.alloc (.cells #[.int .i64 (kx:Int),.string (bA tx),.int .i64 (vkx:Int),.int .i64 (vnx:Int),.string (bA vsx),.slice none 0 0,.slice none 0 0,.bool fx,.slice akx nx ckx,.int .i64 (px:Int),.int .i64 (ky:Int),.string (bA ty),.int .i64 (vky:Int),.int .i64 (vny:Int),.string (bA vsy),.slice none 0 0,.slice none 0 0,.bool fy,.slice aky ny cky,.int .i64 (py:Int)] 29)=zz:=⟨_,rfl⟩
       have b:Below w11.heap.size w11 w12:=by rw [←hwr];exact(Below.refl _ _).alloc (Nat.le_refl _) _
       obtain⟨hx,hhx⟩:∃zz,w11.heap.size=zz:=⟨_,rfl⟩
       have at4:Hid (w12.heap[hx]?=some (.cells #[.int .i64 (kx:Int),.string (bA tx),.int .i64 (vkx:Int),.int .i64 (vnx:Int),.string (bA vsx),.slice none 0 0,.slice none 0 0,.bool fx,.slice akx nx ckx,.int .i64 (px:Int),.int .i64 (ky:Int),.string (bA ty),.int .i64 (vky:Int),.int .i64 (vny:Int),.string (bA vsy),.slice none 0 0,.slice none 0 0,.bool fy,.slice aky ny cky,.int .i64 (py:Int)] 29 (0,0))):=hZ (by rw [←hwr,←hhx];exact heap_alloc_new _ _)
       have S12:=hZ ((uZ S11).below b)
       have HBB_12:=bx_be HBB_11 b
       have HBQ_12:=bx_be HBQ_11 b
       have HBX_12:=bx_be HBX_11 b
       have HBY_12:=bx_be HBY_11 b
       have HKa_12:=hZ ((uZ HKa_11).beside (Beside.of_below (gr:=c.g) b) (by omega))
       have HNx_12:=hZ ((uZ HNx_11).beside (Beside.of_below (gr:=c.g) b) (by omega))
       have HNy_12:=hZ ((uZ HNy_11).beside (Beside.of_below (gr:=c.g) b) (by omega))
       clear b S11 HBB_11 HBQ_11 HBX_11 HBY_11 HKa_11 HNx_11 HNy_11
       have hkl:=(uZ HKa_12).own
       rw [hlna] at hkl
       have HKL:=hZ hkl
       have HKE:=hZ ((uZ HKa_12).ok.le)
       clear hkl
       have tokA:True:=trivial
       go_upto_region 23 with (first|(at_builtin;have _t:=tokA;refine wpl_appM 2 rfl (.tmp 84) (.tmp 87) rfl (Q+1) (.slice none 0 0) 0 _ rfl (uZ HKL) hx #[.int .i64 (kx:Int),.string (bA tx),.int .i64 (vkx:Int),.int .i64 (vnx:Int),.string (bA vsx),.slice none 0 0,.slice none 0 0,.bool fx,.slice akx nx ckx,.int .i64 (px:Int),.int .i64 (ky:Int),.string (bA ty),.int .i64 (vky:Int),.int .i64 (vny:Int),.string (bA vsy),.slice none 0 0,.slice none 0 0,.bool fy,.slice aky ny cky,.int .i64 (py:Int)] rfl (uZ at4) rfl (ndC_two) (by decide) (by omega) (uZ HKE) ?_;clear tokA;intro gq12 cp12 w13 H5;have HB5:=push_box (uZ HBQ_12) (uZ HKa_12) (by omega) (uZ H5).2.1;have f8:=frozen_of_row w13 Q 8 _ _ HB5;have c8:=(row_cell10 HB5).2.2.2.2.2.2.2.2.1;clear HB5))
       have P:=push_all (uZ S12) ltQ (uZ HBQ_12) (uZ HKa_12) ((uZ HNx_12).app (uZ HMx_y) (uZ HNy_12) (by omega)) (by omega) (by omega) (uZ HWa_x) H5 (by rw [List.length_append,List.length_append,hlx,hly,hlna])
       obtain⟨w14,hw⟩:∃zz,w13.setCell ⟨Q,8,none⟩ (.slice (some ⟨gq12,0,none⟩) (0+2) cp12)=zz:=⟨_,rfl⟩
       rw [hw] at P ⊢
       obtain⟨S14,HBQ_14,HKn_14⟩:=P
       have hlnn:([]++(nsx++nsy)).length=0+2:=by rw [List.length_append,List.length_append,hlx,hly,hlna]
       clear hw H5 HKL HKE at4 hwr hhx f8 c8 Kc8 S12 HBB_12 HBQ_12 HBX_12 HBY_12 HKa_12 HNx_12 HNy_12 Xo0 Xo1 Xo2 Xo3 Xo4 Xo5 Xo6 Xo7 Xo8 Xo9 Yo0 Yo1 Yo2 Yo3 Yo4 Yo5 Yo6 Yo7 Yo8 Yo9
       have hr1:=okq_some (uZ HJ6)
       have hnn:=(uZ HKn_14).node' hlnn 8 [] 0 0 [] false p
       have HR:=hZ (hr1)
       have BX:=(uZ S14).bx
       rw [hG] at BX
       obtain⟨g0,g1,g2,g3,g4,g5,g6,g7,g8,g9⟩:=row_cell10 BX
       obtain⟨z0,z1,z2,z3,z4,z5,z6,z7,z8,z9⟩:=frozen10 BX
       clear BX
       obtain⟨Qc0,Qc1,Qc2,Qc3,Qc4,Qc5,Qc6,Qc7,Qc8,Qc9⟩:=row_cell10 (uZ HBQ_14)
       have FF:=hZ (Sq.done (uZ S14) (hnn.low (by omega)) rfl hG)
       go_wp2_with fail
       refine bodyPost_ret (ret_c1 (p:=2) (T:=29) rfl _ _ G _ _ _ rfl (uZ FF).1 Tryz.underlying29 rfl size_nd) rfl ?_
       rw [uZ HR]
       exact(uZ FF).2
      ·by_cases hT3:t=[114,101,116,117,114,110]
       ·subst hT3
        have f0:((bA [114,101,116,117,114,110]).toList == [108,101,116])=false:=by kernel_rfl
        have g0:kyQ c.ts [108,101,116] σ=false:=by unfold kyQ;rw [uZ HT];rfl
        have f1:((bA [114,101,116,117,114,110]).toList == [105,102])=false:=by kernel_rfl
        have g1:kyQ c.ts [105,102] σ=false:=by unfold kyQ;rw [uZ HT];rfl
        have f2:((bA [114,101,116,117,114,110]).toList == [119,104,105,108,101])=false:=by kernel_rfl
        have g2:kyQ c.ts [119,104,105,108,101] σ=false:=by unfold kyQ;rw [uZ HT];rfl
        have f3:((bA [114,101,116,117,114,110]).toList == [114,101,116,117,114,110])=true:=by kernel_rfl
        have g3:kyQ c.ts [114,101,116,117,114,110] σ=true:=by unfold kyQ;rw [uZ HT];rfl
        have HJ4:=hZ ((by have:=(uZ HJ3);rw [if_neg (by rw [g0];decide),if_neg (by rw [g1];decide),if_neg (by rw [g2];decide),if_pos g3] at this;exact this))
        clear HJ3
        clear g0 g1 g2 g3 hT0 hT1 hT2
        obtain⟨Qc0,-,-,-,-,-,-,-,-,-⟩:=row_cell10 (uZ HBQ_5)
        have Qf0:=frozen_of_row w5 Q 0 _ _ (uZ HBQ_5)
        go_upto_region 26 with fail
        clear Qc0 Qf0
        obtain⟨w6,hw⟩:∃zz,w5.setCell ⟨Q,0,none⟩ (.int .i64 9)=zz:=⟨_,rfl⟩
        have HBQ_6:Hid (w6.heap[Q]?=some (.cells #[.int .i64 9,.string ⟨#[]⟩,.int .i64 0,.int .i64 0,.string ⟨#[]⟩,.slice none 0 0,.slice none 0 0,.bool false,.slice none 0 0,.int .i64 (p:Int)] 29 (0,0))):=hZ (by rw [←hw,heap_setCell_same w5 Q 0 _ _ _ (uZ HBQ_5)];rfl)
        have S6:Hid (Sq w c 29 #[.int .i64 0,.string ⟨#[]⟩,.int .i64 0,.int .i64 0,.string ⟨#[]⟩,.slice none 0 0,.slice none 0 0,.bool false,.slice none 0 0,.int .i64 0] w6 σ 0):=hZ (by rw [←hw];exact(uZ S5).own Q 0 _ ltQ)
        have HBB_6:=(bx_ne (q:=Q) (f:=0) (v:=.int .i64 9) HBB_5 (by omega))
        rw [hw] at HBB_6
        rw [hw]
        clear hw S5 HBB_5 HBQ_5
        clear Bc0 Bc1 Bc2 Bc3
        have CC:=hZ (next_any (uZ S6).rd)
        go_wp2_with fail
        refine(uZ CC).mono ?_
        rintro e w7 ⟨rfl,r2,b⟩
        have S7:=hZ ((uZ S6).go (d':=0) b r2)
        have HBB_7:=bx_go HBB_6 b (by omega)
        have HBQ_7:=bx_go HBQ_6 b (by omega)
        clear b r2 CC S6 HBB_6 HBQ_6
        rcases Bool.eq_false_or_eq_true (isQ c.ts 5 [59] (nxQ c.ts σ)) with hq|hq
        ·have HJ5:=hZ ((by have:=(uZ HJ4);rw [if_pos hq] at this;exact this))
         clear HJ4
         have CC:=hZ ((by have:=signq_any (uZ S7).rd [59];rw [hq] at this;exact this))
         go_wp2_with fail
         refine(uZ CC).mono ?_
         rintro e w8 ⟨rfl,b⟩
         have S8:=hZ ((uZ S7).below b)
         have HBB_8:=bx_be HBB_7 b
         have HBQ_8:=bx_be HBQ_7 b
         clear b CC S7 HBB_7 HBQ_7
         have HKa_8:Hid (Kr (Q+1) w8 [] (.slice none 0 0) [] []):=hZ (Kr.nil (Array.getElem?_eq_some_iff.1 (uZ HBQ_8)).1)
         have hlna:([]:List Nd).length=0:=rfl
         go_wp2_with fail
         go_meet
         exact⟨9,[],[],(nxQ c.ts σ),_,none,0,_,_,hlna,hZ (uZ HJ5),hZ ⟨uZ S8,uZ HBQ_8,uZ HKa_8⟩⟩
        ·have HJ5:=hZ ((by have:=(uZ HJ4);rw [if_neg (by rw [hq];decide)] at this;exact this))
         clear HJ4
         have CC:=hZ ((by have:=signq_any (uZ S7).rd [59];rw [hq] at this;exact this))
         go_wp2_with fail
         refine(uZ CC).mono ?_
         rintro e w8 ⟨rfl,b⟩
         have S8:=hZ ((uZ S7).below b)
         have HBB_8:=bx_be HBB_7 b
         have HBQ_8:=bx_be HBQ_7 b
         clear b CC S7 HBB_7 HBQ_7
         have HKa_8:Hid (Kr (Q+1) w8 [] (.slice none 0 0) [] []):=hZ (Kr.nil (Array.getElem?_eq_some_iff.1 (uZ HBQ_8)).1)
         have hlna:([]:List Nd).length=0:=rfl
         obtain⟨nsx,sx,hy,hth⟩:=bq_some (uZ HJ5)
         have HJ6:=hZ (hth)
         clear HJ5
         clear hth
         have CR:=hZ (ihe hy (uZ S8).rd)
         clear hy
         go_wp2_with fail
         refine(uZ CR).mono ?_
         rintro e w9 ⟨kx,tx,vkx,vnx,vsx,fx,nx,akx,ckx,px,Zx,rfl,hlx,hn,r2,b⟩
         simp only [] at hlx hn r2
         have S9:=hZ ((uZ S8).go (d':=0) b r2)
         have HBB_9:=bx_go HBB_8 b (by omega)
         have HBQ_9:=bx_go HBQ_8 b (by omega)
         have HKa_9:=hZ ((uZ HKa_8).beside b (by omega))
         obtain⟨lox,hlo⟩:∃zz,w8.heap.size=zz:=⟨_,rfl⟩
         have ltlox:w.heap.size<lox:=by rw [←hlo];exact(uZ S8).lt
         have lqB_x:B<lox:=by rw [←hlo];exact(Array.getElem?_eq_some_iff.1 (uZ HBB_8)).1
         have lqQ_x:Q<lox:=by rw [←hlo];exact(Array.getElem?_eq_some_iff.1 (uZ HBQ_8)).1
         have HWa_x:=hZ ((uZ HKa_8).vlt hlo)
         have lea_x:=(uZ HKa_8).ok.le
         rw [hlo] at lea_x
         rw [hlo] at hn
         have HNx_9:=hZ hn
         clear hlo b r2 hn CR S8 HBB_8 HBQ_8 HKa_8
         go_upto_region 30 with fail
         obtain⟨w10,hw⟩:∃zz,w9.alloc (.cells #[.int .i64 (kx:Int),.string (bA tx),.int .i64 (vkx:Int),.int .i64 (vnx:Int),.string (bA vsx),.slice none 0 0,.slice none 0 0,.bool fx,.slice akx nx ckx,.int .i64 (px:Int)] 29)=zz:=⟨_,rfl⟩
         have b:Below w9.heap.size w9 w10:=by rw [←hw];exact(Below.refl _ _).alloc (Nat.le_refl _) _
         obtain⟨X,hQ⟩:∃zz,w9.heap.size=zz:=⟨_,rfl⟩
         have HBX_10:Hid (w10.heap[X]?=some (.cells #[.int .i64 (kx:Int),.string (bA tx),.int .i64 (vkx:Int),.int .i64 (vnx:Int),.string (bA vsx),.slice none 0 0,.slice none 0 0,.bool fx,.slice akx nx ckx,.int .i64 (px:Int)] 29 (0,0))):=hZ (by rw [←hw,←hQ];exact heap_alloc_new _ _)
         have S10:=hZ ((uZ S9).below b)
         have HBB_10:=bx_be HBB_9 b
         have HBQ_10:=bx_be HBQ_9 b
         have HKa_10:=hZ ((uZ HKa_9).beside (Beside.of_below (gr:=c.g) b) (by omega))
         have HNx_10:=hZ ((uZ HNx_9).beside (Beside.of_below (gr:=c.g) b) (by omega))
         have lB_X:B<X:=by rw [←hQ];exact(Array.getElem?_eq_some_iff.1 (uZ HBB_9)).1
         have lQ_X:Q<X:=by rw [←hQ];exact(Array.getElem?_eq_some_iff.1 (uZ HBQ_9)).1
         have APa_X:=hZ ((uZ HKa_9).fresh hQ)
         have ANx_X:=hZ ((uZ HNx_9).fresh hQ)
         have ltX:w.heap.size<X:=by rw [←hQ];exact(uZ S9).lt
         rw [hw]
         try rw [hQ]
         clear hw hQ b S9 HBB_9 HBQ_9 HKa_9 HNx_9
         obtain⟨Xo0,Xo1,Xo2,Xo3,Xo4,Xo5,Xo6,Xo7,Xo8,Xo9⟩:=row_cell10 (uZ HBX_10)
         have Kc8:=(row_cell10 (uZ HBQ_10)).2.2.2.2.2.2.2.2.1
         obtain⟨w11,hwr⟩:∃zz,w10.alloc (.cells #[.int .i64 (kx:Int),.string (bA tx),.int .i64 (vkx:Int),.int .i64 (vnx:Int),.string (bA vsx),.slice none 0 0,.slice none 0 0,.bool fx,.slice akx nx ckx,.int .i64 (px:Int)] 29)=zz:=⟨_,rfl⟩
         have b:Below w10.heap.size w10 w11:=by rw [←hwr];exact(Below.refl _ _).alloc (Nat.le_refl _) _
         obtain⟨hx,hhx⟩:∃zz,w10.heap.size=zz:=⟨_,rfl⟩
         have at4:Hid (w11.heap[hx]?=some (.cells #[.int .i64 (kx:Int),.string (bA tx),.int .i64 (vkx:Int),.int .i64 (vnx:Int),.string (bA vsx),.slice none 0 0,.slice none 0 0,.bool fx,.slice akx nx ckx,.int .i64 (px:Int)] 29 (0,0))):=hZ (by rw [←hwr,←hhx];exact heap_alloc_new _ _)
         have S11:=hZ ((uZ S10).below b)
         have HBB_11:=bx_be HBB_10 b
         have HBQ_11:=bx_be HBQ_10 b
         have HBX_11:=bx_be HBX_10 b
         have HKa_11:=hZ ((uZ HKa_10).beside (Beside.of_below (gr:=c.g) b) (by omega))
         have HNx_11:=hZ ((uZ HNx_10).beside (Beside.of_below (gr:=c.g) b) (by omega))
         clear b S10 HBB_10 HBQ_10 HBX_10 HKa_10 HNx_10
         have hkl:=(uZ HKa_11).own
         rw [hlna] at hkl
         have HKL:=hZ hkl
         have HKE:=hZ ((uZ HKa_11).ok.le)
         clear hkl
         have tokA:True:=trivial
         go_wp2_with (first|(at_builtin;have _t:=tokA;refine wpl_appM 1 rfl (.tmp 110) (.tmp 112) rfl (Q+1) (.slice none 0 0) 0 _ rfl (uZ HKL) hx #[.int .i64 (kx:Int),.string (bA tx),.int .i64 (vkx:Int),.int .i64 (vnx:Int),.string (bA vsx),.slice none 0 0,.slice none 0 0,.bool fx,.slice akx nx ckx,.int .i64 (px:Int)] rfl (uZ at4) rfl (ndC_one _ _ _ _ _ _ _ _ _ _) (by decide) (by omega) (uZ HKE) ?_;clear tokA;intro gq11 cp11 w12 H5;have HB5:=push_box (uZ HBQ_11) (uZ HKa_11) (by omega) (uZ H5).2.1;have f8:=frozen_of_row w12 Q 8 _ _ HB5;have c8:=(row_cell10 HB5).2.2.2.2.2.2.2.2.1;clear HB5))
         have P:=push_all (uZ S11) ltQ (uZ HBQ_11) (uZ HKa_11) (uZ HNx_11) (by omega) (by omega) (uZ HWa_x) H5 (by rw [List.length_append,hlx,hlna])
         obtain⟨w13,hw⟩:∃zz,w12.setCell ⟨Q,8,none⟩ (.slice (some ⟨gq11,0,none⟩) (0+1) cp11)=zz:=⟨_,rfl⟩
         rw [hw] at P ⊢
         obtain⟨S13,HBQ_13,HKn_13⟩:=P
         have hlnn:([]++(nsx)).length=0+1:=by rw [List.length_append,hlx,hlna]
         clear hw H5 HKL HKE at4 hwr hhx f8 c8 Kc8 S11 HBB_11 HBQ_11 HBX_11 HKa_11 HNx_11 Xo0 Xo1 Xo2 Xo3 Xo4 Xo5 Xo6 Xo7 Xo8 Xo9
         go_meet
         exact⟨9,[],[]++nsx,sx,_,(some ⟨gq11,0,none⟩),cp11,_,_,hlnn,hZ (uZ HJ6),hZ ⟨uZ S13,uZ HBQ_13,uZ HKn_13⟩⟩
       ·by_cases hT4:t=[98,114,101,97,107]
        ·subst hT4
         have f0:((bA [98,114,101,97,107]).toList == [108,101,116])=false:=by kernel_rfl
         have g0:kyQ c.ts [108,101,116] σ=false:=by unfold kyQ;rw [uZ HT];rfl
         have f1:((bA [98,114,101,97,107]).toList == [105,102])=false:=by kernel_rfl
         have g1:kyQ c.ts [105,102] σ=false:=by unfold kyQ;rw [uZ HT];rfl
         have f2:((bA [98,114,101,97,107]).toList == [119,104,105,108,101])=false:=by kernel_rfl
         have g2:kyQ c.ts [119,104,105,108,101] σ=false:=by unfold kyQ;rw [uZ HT];rfl
         have f3:((bA [98,114,101,97,107]).toList == [114,101,116,117,114,110])=false:=by kernel_rfl
         have g3:kyQ c.ts [114,101,116,117,114,110] σ=false:=by unfold kyQ;rw [uZ HT];rfl
         have f4:((bA [98,114,101,97,107]).toList == [98,114,101,97,107])=true:=by kernel_rfl
         have g4:kyQ c.ts [98,114,101,97,107] σ=true:=by unfold kyQ;rw [uZ HT];rfl
         have HJ4:=hZ ((by have:=(uZ HJ3);rw [if_neg (by rw [g0];decide),if_neg (by rw [g1];decide),if_neg (by rw [g2];decide),if_neg (by rw [g3];decide),if_pos g4] at this;exact this))
         clear HJ3
         clear g0 g1 g2 g3 g4 hT0 hT1 hT2 hT3
         obtain⟨Qc0,-,-,-,-,-,-,-,-,-⟩:=row_cell10 (uZ HBQ_5)
         have Qf0:=frozen_of_row w5 Q 0 _ _ (uZ HBQ_5)
         go_upto_region 33 with fail
         clear Qc0 Qf0
         obtain⟨w6,hw⟩:∃zz,w5.setCell ⟨Q,0,none⟩ (.int .i64 10)=zz:=⟨_,rfl⟩
         have HBQ_6:Hid (w6.heap[Q]?=some (.cells #[.int .i64 10,.string ⟨#[]⟩,.int .i64 0,.int .i64 0,.string ⟨#[]⟩,.slice none 0 0,.slice none 0 0,.bool false,.slice none 0 0,.int .i64 (p:Int)] 29 (0,0))):=hZ (by rw [←hw,heap_setCell_same w5 Q 0 _ _ _ (uZ HBQ_5)];rfl)
         have S6:Hid (Sq w c 29 #[.int .i64 0,.string ⟨#[]⟩,.int .i64 0,.int .i64 0,.string ⟨#[]⟩,.slice none 0 0,.slice none 0 0,.bool false,.slice none 0 0,.int .i64 0] w6 σ 0):=hZ (by rw [←hw];exact(uZ S5).own Q 0 _ ltQ)
         have HBB_6:=(bx_ne (q:=Q) (f:=0) (v:=.int .i64 10) HBB_5 (by omega))
         rw [hw] at HBB_6
         rw [hw]
         clear hw S5 HBB_5 HBQ_5
         clear Bc0 Bc1 Bc2 Bc3
         have CC:=hZ (next_any (uZ S6).rd)
         go_wp2_with fail
         refine(uZ CC).mono ?_
         rintro e w7 ⟨rfl,r2,b⟩
         have S7:=hZ ((uZ S6).go (d':=0) b r2)
         have HBB_7:=bx_go HBB_6 b (by omega)
         have HBQ_7:=bx_go HBQ_6 b (by omega)
         clear b r2 CC S6 HBB_6 HBQ_6
         have HKa_7:Hid (Kr (Q+1) w7 [] (.slice none 0 0) [] []):=hZ (Kr.nil (Array.getElem?_eq_some_iff.1 (uZ HBQ_7)).1)
         have hlna:([]:List Nd).length=0:=rfl
         go_wp2_with fail
         go_meet
         exact⟨10,[],[],(nxQ c.ts σ),_,none,0,_,_,hlna,hZ (uZ HJ4),hZ ⟨uZ S7,uZ HBQ_7,uZ HKa_7⟩⟩
        ·by_cases hT5:t=[99,111,110,116,105,110,117,101]
         ·subst hT5
          have f0:((bA [99,111,110,116,105,110,117,101]).toList == [108,101,116])=false:=by kernel_rfl
          have g0:kyQ c.ts [108,101,116] σ=false:=by unfold kyQ;rw [uZ HT];rfl
          have f1:((bA [99,111,110,116,105,110,117,101]).toList == [105,102])=false:=by kernel_rfl
          have g1:kyQ c.ts [105,102] σ=false:=by unfold kyQ;rw [uZ HT];rfl
          have f2:((bA [99,111,110,116,105,110,117,101]).toList == [119,104,105,108,101])=false:=by kernel_rfl
          have g2:kyQ c.ts [119,104,105,108,101] σ=false:=by unfold kyQ;rw [uZ HT];rfl
          have f3:((bA [99,111,110,116,105,110,117,101]).toList == [114,101,116,117,114,110])=false:=by kernel_rfl
          have g3:kyQ c.ts [114,101,116,117,114,110] σ=false:=by unfold kyQ;rw [uZ HT];rfl
          have f4:((bA [99,111,110,116,105,110,117,101]).toList == [98,114,101,97,107])=false:=by kernel_rfl
          have g4:kyQ c.ts [98,114,101,97,107] σ=false:=by unfold kyQ;rw [uZ HT];rfl
          have f5:((bA [99,111,110,116,105,110,117,101]).toList == [99,111,110,116,105,110,117,101])=true:=by kernel_rfl
          have g5:kyQ c.ts [99,111,110,116,105,110,117,101] σ=true:=by unfold kyQ;rw [uZ HT];rfl
          have HJ4:=hZ ((by have:=(uZ HJ3);rw [if_neg (by rw [g0];decide),if_neg (by rw [g1];decide),if_neg (by rw [g2];decide),if_neg (by rw [g3];decide),if_neg (by rw [g4];decide),if_pos g5] at this;exact this))
          clear HJ3
          clear g0 g1 g2 g3 g4 g5 hT0 hT1 hT2 hT3 hT4
          obtain⟨Qc0,-,-,-,-,-,-,-,-,-⟩:=row_cell10 (uZ HBQ_5)
          have Qf0:=frozen_of_row w5 Q 0 _ _ (uZ HBQ_5)
          go_upto_region 36 with fail
          clear Qc0 Qf0
          obtain⟨w6,hw⟩:∃zz,w5.setCell ⟨Q,0,none⟩ (.int .i64 11)=zz:=⟨_,rfl⟩
          have HBQ_6:Hid (w6.heap[Q]?=some (.cells #[.int .i64 11,.string ⟨#[]⟩,.int .i64 0,.int .i64 0,.string ⟨#[]⟩,.slice none 0 0,.slice none 0 0,.bool false,.slice none 0 0,.int .i64 (p:Int)] 29 (0,0))):=hZ (by rw [←hw,heap_setCell_same w5 Q 0 _ _ _ (uZ HBQ_5)];rfl)
          have S6:Hid (Sq w c 29 #[.int .i64 0,.string ⟨#[]⟩,.int .i64 0,.int .i64 0,.string ⟨#[]⟩,.slice none 0 0,.slice none 0 0,.bool false,.slice none 0 0,.int .i64 0] w6 σ 0):=hZ (by rw [←hw];exact(uZ S5).own Q 0 _ ltQ)
          have HBB_6:=(bx_ne (q:=Q) (f:=0) (v:=.int .i64 11) HBB_5 (by omega))
          rw [hw] at HBB_6
          rw [hw]
          clear hw S5 HBB_5 HBQ_5
          clear Bc0 Bc1 Bc2 Bc3
          have CC:=hZ (next_any (uZ S6).rd)
          go_wp2_with fail
          refine(uZ CC).mono ?_
          rintro e w7 ⟨rfl,r2,b⟩
          have S7:=hZ ((uZ S6).go (d':=0) b r2)
          have HBB_7:=bx_go HBB_6 b (by omega)
          have HBQ_7:=bx_go HBQ_6 b (by omega)
          clear b r2 CC S6 HBB_6 HBQ_6
          have HKa_7:Hid (Kr (Q+1) w7 [] (.slice none 0 0) [] []):=hZ (Kr.nil (Array.getElem?_eq_some_iff.1 (uZ HBQ_7)).1)
          have hlna:([]:List Nd).length=0:=rfl
          go_wp2_with fail
          go_meet
          exact⟨11,[],[],(nxQ c.ts σ),_,none,0,_,_,hlna,hZ (uZ HJ4),hZ ⟨uZ S7,uZ HBQ_7,uZ HKa_7⟩⟩
         ·have f0:((bA t).toList == [108,101,116])=false:=beq_eq_false_iff_ne.2 (fun e=>hT0 (by rw [bA_list] at e;exact e))
          have g0:kyQ c.ts [108,101,116] σ=false:=by unfold kyQ;rw [uZ HT];exact decide_eq_false (fun e=>hT0 e.2)
          have f1:((bA t).toList == [105,102])=false:=beq_eq_false_iff_ne.2 (fun e=>hT1 (by rw [bA_list] at e;exact e))
          have g1:kyQ c.ts [105,102] σ=false:=by unfold kyQ;rw [uZ HT];exact decide_eq_false (fun e=>hT1 e.2)
          have f2:((bA t).toList == [119,104,105,108,101])=false:=beq_eq_false_iff_ne.2 (fun e=>hT2 (by rw [bA_list] at e;exact e))
          have g2:kyQ c.ts [119,104,105,108,101] σ=false:=by unfold kyQ;rw [uZ HT];exact decide_eq_false (fun e=>hT2 e.2)
          have f3:((bA t).toList == [114,101,116,117,114,110])=false:=beq_eq_false_iff_ne.2 (fun e=>hT3 (by rw [bA_list] at e;exact e))
          have g3:kyQ c.ts [114,101,116,117,114,110] σ=false:=by unfold kyQ;rw [uZ HT];exact decide_eq_false (fun e=>hT3 e.2)
          have f4:((bA t).toList == [98,114,101,97,107])=false:=beq_eq_false_iff_ne.2 (fun e=>hT4 (by rw [bA_list] at e;exact e))
          have g4:kyQ c.ts [98,114,101,97,107] σ=false:=by unfold kyQ;rw [uZ HT];exact decide_eq_false (fun e=>hT4 e.2)
          have f5:((bA t).toList == [99,111,110,116,105,110,117,101])=false:=beq_eq_false_iff_ne.2 (fun e=>hT5 (by rw [bA_list] at e;exact e))
          have g5:kyQ c.ts [99,111,110,116,105,110,117,101] σ=false:=by unfold kyQ;rw [uZ HT];exact decide_eq_false (fun e=>hT5 e.2)
          have HJ4:=hZ ((by have:=(uZ HJ3);rw [if_neg (by rw [g0];decide),if_neg (by rw [g1];decide),if_neg (by rw [g2];decide),if_neg (by rw [g3];decide),if_neg (by rw [g4];decide),if_neg (by rw [g5];decide)] at this;exact this))
          clear HJ3
          clear g0 g1 g2 g3 g4 g5
          have HKa_5:Hid (Kr (Q+1) w5 [] (.slice none 0 0) [] []):=hZ (Kr.nil (Array.getElem?_eq_some_iff.1 (uZ HBQ_5)).1)
          have hlna:([]:List Nd).length=0:=rfl
          obtain⟨nsx,sx,hy,hth⟩:=bq_some (uZ HJ4)
          have HJ5:=hZ (hth)
          clear HJ4
          clear hth
          have CR:=hZ (ihe hy (uZ S5).rd)
          clear hy
          go_wp2_with fail
          refine(uZ CR).mono ?_
          rintro e w6 ⟨kx,tx,vkx,vnx,vsx,fx,nx,akx,ckx,px,Zx,rfl,hlx,hn,r2,b⟩
          simp only [] at hlx hn r2
          have S6:=hZ ((uZ S5).go (d':=0) b r2)
          have HBB_6:=bx_go HBB_5 b (by omega)
          have HBQ_6:=bx_go HBQ_5 b (by omega)
          have HKa_6:=hZ ((uZ HKa_5).beside b (by omega))
          obtain⟨lox,hlo⟩:∃zz,w5.heap.size=zz:=⟨_,rfl⟩
          have ltlox:w.heap.size<lox:=by rw [←hlo];exact(uZ S5).lt
          have lqB_x:B<lox:=by rw [←hlo];exact(Array.getElem?_eq_some_iff.1 (uZ HBB_5)).1
          have lqQ_x:Q<lox:=by rw [←hlo];exact(Array.getElem?_eq_some_iff.1 (uZ HBQ_5)).1
          have HWa_x:=hZ ((uZ HKa_5).vlt hlo)
          have lea_x:=(uZ HKa_5).ok.le
          rw [hlo] at lea_x
          rw [hlo] at hn
          have HNx_6:=hZ hn
          clear hlo b r2 hn CR S5 HBB_5 HBQ_5 HKa_5
          go_upto_region 5 with fail
          obtain⟨w7,hw⟩:∃zz,w6.alloc (.cells #[.int .i64 (kx:Int),.string (bA tx),.int .i64 (vkx:Int),.int .i64 (vnx:Int),.string (bA vsx),.slice none 0 0,.slice none 0 0,.bool fx,.slice akx nx ckx,.int .i64 (px:Int)] 29)=zz:=⟨_,rfl⟩
          have b:Below w6.heap.size w6 w7:=by rw [←hw];exact(Below.refl _ _).alloc (Nat.le_refl _) _
          obtain⟨X,hQ⟩:∃zz,w6.heap.size=zz:=⟨_,rfl⟩
          have HBX_7:Hid (w7.heap[X]?=some (.cells #[.int .i64 (kx:Int),.string (bA tx),.int .i64 (vkx:Int),.int .i64 (vnx:Int),.string (bA vsx),.slice none 0 0,.slice none 0 0,.bool fx,.slice akx nx ckx,.int .i64 (px:Int)] 29 (0,0))):=hZ (by rw [←hw,←hQ];exact heap_alloc_new _ _)
          have S7:=hZ ((uZ S6).below b)
          have HBB_7:=bx_be HBB_6 b
          have HBQ_7:=bx_be HBQ_6 b
          have HKa_7:=hZ ((uZ HKa_6).beside (Beside.of_below (gr:=c.g) b) (by omega))
          have HNx_7:=hZ ((uZ HNx_6).beside (Beside.of_below (gr:=c.g) b) (by omega))
          have lB_X:B<X:=by rw [←hQ];exact(Array.getElem?_eq_some_iff.1 (uZ HBB_6)).1
          have lQ_X:Q<X:=by rw [←hQ];exact(Array.getElem?_eq_some_iff.1 (uZ HBQ_6)).1
          have APa_X:=hZ ((uZ HKa_6).fresh hQ)
          have ANx_X:=hZ ((uZ HNx_6).fresh hQ)
          have ltX:w.heap.size<X:=by rw [←hQ];exact(uZ S6).lt
          rw [hw]
          try rw [hQ]
          clear hw hQ b S6 HBB_6 HBQ_6 HKa_6 HNx_6
          obtain⟨Xo0,Xo1,Xo2,Xo3,Xo4,Xo5,Xo6,Xo7,Xo8,Xo9⟩:=row_cell10 (uZ HBX_7)
          have Kc8:=(row_cell10 (uZ HBQ_7)).2.2.2.2.2.2.2.2.1
          obtain⟨w8,hwr⟩:∃zz,w7.alloc (.cells #[.int .i64 (kx:Int),.string (bA tx),.int .i64 (vkx:Int),.int .i64 (vnx:Int),.string (bA vsx),.slice none 0 0,.slice none 0 0,.bool fx,.slice akx nx ckx,.int .i64 (px:Int)] 29)=zz:=⟨_,rfl⟩
          have b:Below w7.heap.size w7 w8:=by rw [←hwr];exact(Below.refl _ _).alloc (Nat.le_refl _) _
          obtain⟨hx,hhx⟩:∃zz,w7.heap.size=zz:=⟨_,rfl⟩
          have at4:Hid (w8.heap[hx]?=some (.cells #[.int .i64 (kx:Int),.string (bA tx),.int .i64 (vkx:Int),.int .i64 (vnx:Int),.string (bA vsx),.slice none 0 0,.slice none 0 0,.bool fx,.slice akx nx ckx,.int .i64 (px:Int)] 29 (0,0))):=hZ (by rw [←hwr,←hhx];exact heap_alloc_new _ _)
          have S8:=hZ ((uZ S7).below b)
          have HBB_8:=bx_be HBB_7 b
          have HBQ_8:=bx_be HBQ_7 b
          have HBX_8:=bx_be HBX_7 b
          have HKa_8:=hZ ((uZ HKa_7).beside (Beside.of_below (gr:=c.g) b) (by omega))
          have HNx_8:=hZ ((uZ HNx_7).beside (Beside.of_below (gr:=c.g) b) (by omega))
          clear b S7 HBB_7 HBQ_7 HBX_7 HKa_7 HNx_7
          have hkl:=(uZ HKa_8).own
          rw [hlna] at hkl
          have HKL:=hZ hkl
          have HKE:=hZ ((uZ HKa_8).ok.le)
          clear hkl
          have tokA:True:=trivial
          go_wp2_with (first|(at_builtin;have _t:=tokA;refine wpl_appM 1 rfl (.tmp 22) (.tmp 24) rfl (Q+1) (.slice none 0 0) 0 _ rfl (uZ HKL) hx #[.int .i64 (kx:Int),.string (bA tx),.int .i64 (vkx:Int),.int .i64 (vnx:Int),.string (bA vsx),.slice none 0 0,.slice none 0 0,.bool fx,.slice akx nx ckx,.int .i64 (px:Int)] rfl (uZ at4) rfl (ndC_one _ _ _ _ _ _ _ _ _ _) (by decide) (by omega) (uZ HKE) ?_;clear tokA;intro gq8 cp8 w9 H5;have HB5:=push_box (uZ HBQ_8) (uZ HKa_8) (by omega) (uZ H5).2.1;have f8:=frozen_of_row w9 Q 8 _ _ HB5;have c8:=(row_cell10 HB5).2.2.2.2.2.2.2.2.1;clear HB5))
          have P:=push_all (uZ S8) ltQ (uZ HBQ_8) (uZ HKa_8) (uZ HNx_8) (by omega) (by omega) (uZ HWa_x) H5 (by rw [List.length_append,hlx,hlna])
          obtain⟨w10,hw⟩:∃zz,w9.setCell ⟨Q,8,none⟩ (.slice (some ⟨gq8,0,none⟩) (0+1) cp8)=zz:=⟨_,rfl⟩
          rw [hw] at P ⊢
          obtain⟨S10,HBQ_10,HKn_10⟩:=P
          have hlnn:([]++(nsx)).length=0+1:=by rw [List.length_append,hlx,hlna]
          clear hw H5 HKL HKE at4 hwr hhx f8 c8 Kc8 S8 HBB_8 HBQ_8 HBX_8 HKa_8 HNx_8 Xo0 Xo1 Xo2 Xo3 Xo4 Xo5 Xo6 Xo7 Xo8 Xo9
          go_meet
          exact⟨12,[],[]++nsx,sx,_,(some ⟨gq8,0,none⟩),cp8,_,_,hlnn,hZ (uZ HJ5),hZ ⟨uZ S10,uZ HBQ_10,uZ HKn_10⟩⟩
   ·have n2:¬(k:Int)=2:=by omega
    have m2:((k:Int) == 2)=false:=beq_eq_false_iff_ne.2 n2
    have g0:kyQ c.ts [108,101,116] σ=false:=by unfold kyQ;rw [uZ HT];exact decide_eq_false (fun e=>hk2 e.1)
    have g1:kyQ c.ts [105,102] σ=false:=by unfold kyQ;rw [uZ HT];exact decide_eq_false (fun e=>hk2 e.1)
    have g2:kyQ c.ts [119,104,105,108,101] σ=false:=by unfold kyQ;rw [uZ HT];exact decide_eq_false (fun e=>hk2 e.1)
    have g3:kyQ c.ts [114,101,116,117,114,110] σ=false:=by unfold kyQ;rw [uZ HT];exact decide_eq_false (fun e=>hk2 e.1)
    have g4:kyQ c.ts [98,114,101,97,107] σ=false:=by unfold kyQ;rw [uZ HT];exact decide_eq_false (fun e=>hk2 e.1)
    have g5:kyQ c.ts [99,111,110,116,105,110,117,101] σ=false:=by unfold kyQ;rw [uZ HT];exact decide_eq_false (fun e=>hk2 e.1)
    have HJ4:=hZ ((by have:=(uZ HJ3);rw [if_neg (by rw [g0];decide),if_neg (by rw [g1];decide),if_neg (by rw [g2];decide),if_neg (by rw [g3];decide),if_neg (by rw [g4];decide),if_neg (by rw [g5];decide)] at this;exact this))
    clear HJ3
    clear g0 g1 g2 g3 g4 g5
    have HKa_5:Hid (Kr (Q+1) w5 [] (.slice none 0 0) [] []):=hZ (Kr.nil (Array.getElem?_eq_some_iff.1 (uZ HBQ_5)).1)
    have hlna:([]:List Nd).length=0:=rfl
    obtain⟨nsx,sx,hy,hth⟩:=bq_some (uZ HJ4)
    have HJ5:=hZ (hth)
    clear HJ4
    clear hth
    have CR:=hZ (ihe hy (uZ S5).rd)
    clear hy
    go_wp2_with fail
    refine(uZ CR).mono ?_
    rintro e w6 ⟨kx,tx,vkx,vnx,vsx,fx,nx,akx,ckx,px,Zx,rfl,hlx,hn,r2,b⟩
    simp only [] at hlx hn r2
    have S6:=hZ ((uZ S5).go (d':=0) b r2)
    have HBB_6:=bx_go HBB_5 b (by omega)
    have HBQ_6:=bx_go HBQ_5 b (by omega)
    have HKa_6:=hZ ((uZ HKa_5).beside b (by omega))
    obtain⟨lox,hlo⟩:∃zz,w5.heap.size=zz:=⟨_,rfl⟩
    have ltlox:w.heap.size<lox:=by rw [←hlo];exact(uZ S5).lt
    have lqB_x:B<lox:=by rw [←hlo];exact(Array.getElem?_eq_some_iff.1 (uZ HBB_5)).1
    have lqQ_x:Q<lox:=by rw [←hlo];exact(Array.getElem?_eq_some_iff.1 (uZ HBQ_5)).1
    have HWa_x:=hZ ((uZ HKa_5).vlt hlo)
    have lea_x:=(uZ HKa_5).ok.le
    rw [hlo] at lea_x
    rw [hlo] at hn
    have HNx_6:=hZ hn
    clear hlo b r2 hn CR S5 HBB_5 HBQ_5 HKa_5
    go_upto_region 5 with fail
    obtain⟨w7,hw⟩:∃zz,w6.alloc (.cells #[.int .i64 (kx:Int),.string (bA tx),.int .i64 (vkx:Int),.int .i64 (vnx:Int),.string (bA vsx),.slice none 0 0,.slice none 0 0,.bool fx,.slice akx nx ckx,.int .i64 (px:Int)] 29)=zz:=⟨_,rfl⟩
    have b:Below w6.heap.size w6 w7:=by rw [←hw];exact(Below.refl _ _).alloc (Nat.le_refl _) _
    obtain⟨X,hQ⟩:∃zz,w6.heap.size=zz:=⟨_,rfl⟩
    have HBX_7:Hid (w7.heap[X]?=some (.cells #[.int .i64 (kx:Int),.string (bA tx),.int .i64 (vkx:Int),.int .i64 (vnx:Int),.string (bA vsx),.slice none 0 0,.slice none 0 0,.bool fx,.slice akx nx ckx,.int .i64 (px:Int)] 29 (0,0))):=hZ (by rw [←hw,←hQ];exact heap_alloc_new _ _)
    have S7:=hZ ((uZ S6).below b)
    have HBB_7:=bx_be HBB_6 b
    have HBQ_7:=bx_be HBQ_6 b
    have HKa_7:=hZ ((uZ HKa_6).beside (Beside.of_below (gr:=c.g) b) (by omega))
    have HNx_7:=hZ ((uZ HNx_6).beside (Beside.of_below (gr:=c.g) b) (by omega))
    have lB_X:B<X:=by rw [←hQ];exact(Array.getElem?_eq_some_iff.1 (uZ HBB_6)).1
    have lQ_X:Q<X:=by rw [←hQ];exact(Array.getElem?_eq_some_iff.1 (uZ HBQ_6)).1
    have APa_X:=hZ ((uZ HKa_6).fresh hQ)
    have ANx_X:=hZ ((uZ HNx_6).fresh hQ)
    have ltX:w.heap.size<X:=by rw [←hQ];exact(uZ S6).lt
    rw [hw]
    try rw [hQ]
    clear hw hQ b S6 HBB_6 HBQ_6 HKa_6 HNx_6
    obtain⟨Xo0,Xo1,Xo2,Xo3,Xo4,Xo5,Xo6,Xo7,Xo8,Xo9⟩:=row_cell10 (uZ HBX_7)
    have Kc8:=(row_cell10 (uZ HBQ_7)).2.2.2.2.2.2.2.2.1
    obtain⟨w8,hwr⟩:∃zz,w7.alloc (.cells #[.int .i64 (kx:Int),.string (bA tx),.int .i64 (vkx:Int),.int .i64 (vnx:Int),.string (bA vsx),.slice none 0 0,.slice none 0 0,.bool fx,.slice akx nx ckx,.int .i64 (px:Int)] 29)=zz:=⟨_,rfl⟩
    have b:Below w7.heap.size w7 w8:=by rw [←hwr];exact(Below.refl _ _).alloc (Nat.le_refl _) _
    obtain⟨hx,hhx⟩:∃zz,w7.heap.size=zz:=⟨_,rfl⟩
    have at4:Hid (w8.heap[hx]?=some (.cells #[.int .i64 (kx:Int),.string (bA tx),.int .i64 (vkx:Int),.int .i64 (vnx:Int),.string (bA vsx),.slice none 0 0,.slice none 0 0,.bool fx,.slice akx nx ckx,.int .i64 (px:Int)] 29 (0,0))):=hZ (by rw [←hwr,←hhx];exact heap_alloc_new _ _)
    have S8:=hZ ((uZ S7).below b)
    have HBB_8:=bx_be HBB_7 b
    have HBQ_8:=bx_be HBQ_7 b
    have HBX_8:=bx_be HBX_7 b
    have HKa_8:=hZ ((uZ HKa_7).beside (Beside.of_below (gr:=c.g) b) (by omega))
    have HNx_8:=hZ ((uZ HNx_7).beside (Beside.of_below (gr:=c.g) b) (by omega))
    clear b S7 HBB_7 HBQ_7 HBX_7 HKa_7 HNx_7
    have hkl:=(uZ HKa_8).own
    rw [hlna] at hkl
    have HKL:=hZ hkl
    have HKE:=hZ ((uZ HKa_8).ok.le)
    clear hkl
    have tokA:True:=trivial
    go_wp2_with (first|(at_builtin;have _t:=tokA;refine wpl_appM 1 rfl (.tmp 22) (.tmp 24) rfl (Q+1) (.slice none 0 0) 0 _ rfl (uZ HKL) hx #[.int .i64 (kx:Int),.string (bA tx),.int .i64 (vkx:Int),.int .i64 (vnx:Int),.string (bA vsx),.slice none 0 0,.slice none 0 0,.bool fx,.slice akx nx ckx,.int .i64 (px:Int)] rfl (uZ at4) rfl (ndC_one _ _ _ _ _ _ _ _ _ _) (by decide) (by omega) (uZ HKE) ?_;clear tokA;intro gq8 cp8 w9 H5;have HB5:=push_box (uZ HBQ_8) (uZ HKa_8) (by omega) (uZ H5).2.1;have f8:=frozen_of_row w9 Q 8 _ _ HB5;have c8:=(row_cell10 HB5).2.2.2.2.2.2.2.2.1;clear HB5))
    have P:=push_all (uZ S8) ltQ (uZ HBQ_8) (uZ HKa_8) (uZ HNx_8) (by omega) (by omega) (uZ HWa_x) H5 (by rw [List.length_append,hlx,hlna])
    obtain⟨w10,hw⟩:∃zz,w9.setCell ⟨Q,8,none⟩ (.slice (some ⟨gq8,0,none⟩) (0+1) cp8)=zz:=⟨_,rfl⟩
    rw [hw] at P ⊢
    obtain⟨S10,HBQ_10,HKn_10⟩:=P
    have hlnn:([]++(nsx)).length=0+1:=by rw [List.length_append,hlx,hlna]
    clear hw H5 HKL HKE at4 hwr hhx f8 c8 Kc8 S8 HBB_8 HBQ_8 HBX_8 HKa_8 HNx_8 Xo0 Xo1 Xo2 Xo3 Xo4 Xo5 Xo6 Xo7 Xo8 Xo9
    go_meet
    exact⟨12,[],[]++nsx,sx,_,(some ⟨gq8,0,none⟩),cp8,_,_,hlnn,hZ (uZ HJ5),hZ ⟨uZ S10,uZ HBQ_10,uZ HKn_10⟩⟩
 case rest=>
  clear S5 HBQ_5 HBB_5 HJ2
  obtain⟨kd,tx,ks,s5,na,ak,ck,Ca,Sa,hlna,HJ95,HI⟩:=hcut
  obtain⟨w40,hw40⟩:∃zz,zz=wc:=⟨_,rfl⟩
  subst hw40
  have S40:=hZ (uZ HI).1
  have HBQ_40:=hZ (uZ HI).2.1
  have HKa_40:=hZ (uZ HI).2.2
  clear HI
  obtain⟨⟨ke,te,ne,pe⟩,ht⟩:∃zz,(muQ c.ts 5 [59] s5).1=zz:=⟨_,rfl⟩
  have HTe:=hZ ht
  clear ht
  have CC:=hZ ((by have:=must_any (uZ S40).rd 5 [59];rw [uZ HTe] at this;simp only [tkA] at this;exact this))
  go_wp2_with fail
  refine(uZ CC).mono ?_
  rintro e w41 ⟨rfl,r2,b⟩
  have S41:=hZ ((uZ S40).go (d':=0) b r2)
  have HBQ_41:=bx_go HBQ_40 b (by omega)
  have HKa_41:=hZ ((uZ HKa_40).beside b (by omega))
  clear b r2 CC S40 HBQ_40 HKa_40
  have hr1:=okq_some (uZ HJ95)
  have hnn:=(uZ HKa_41).node' hlna kd tx 0 0 [] false p
  have HR:=hZ (hr1)
  have BX:=(uZ S41).bx
  rw [hG] at BX
  obtain⟨g0,g1,g2,g3,g4,g5,g6,g7,g8,g9⟩:=row_cell10 BX
  obtain⟨z0,z1,z2,z3,z4,z5,z6,z7,z8,z9⟩:=frozen10 BX
  clear BX
  obtain⟨Qc0,Qc1,Qc2,Qc3,Qc4,Qc5,Qc6,Qc7,Qc8,Qc9⟩:=row_cell10 (uZ HBQ_41)
  have FF:=hZ (Sq.done (uZ S41) (hnn.low (by omega)) rfl hG)
  go_wp2_with fail
  refine bodyPost_ret (ret_c1 (p:=2) (T:=29) rfl _ _ G _ _ _ rfl (uZ FF).1 Tryz.underlying29 rfl size_nd) rfl ?_
  rw [uZ HR]
  exact(uZ FF).2
end Go.Proofs.YtilhlmmcdfoaoaaGreatDoor
