/-
  Layer 17 (parse): the document's reader: choices; conditions: the reader's state.
-/
import Derived.Test.YtilhlmmcdfoaoaaGreatDoorE19
set_option linter.unusedVariables false
set_option linter.unusedSimpArgs false
namespace Go.Proofs.YtilhlmmcdfoaoaaGreatDoor
open Go.RowKit
set_option linter.unusedVariables false
set_option linter.unusedSimpArgs false
set_option maxRecDepth 100000 in
set_option maxHeartbeats 4000000 in
theorem choiceq_step {c:Cx} {σ:Sg} {w:World} {r:List Nd × Sg} {F f:Nat} (ihc:∀{c:Cx} {σ:Sg} {w:World} {r:List Nd × Sg},RS c.ts F f 8 0 [] σ=some r→Rq w c σ→Calls Tryz.prog 94 #[.pointer (some ⟨c.g,0,none⟩)] w fun e w'=>NqP c w r e w') (ihb:∀{c:Cx} {σ:Sg} {w:World} {r:List Nd × Sg},RS c.ts F f 4 0 [] σ=some r→Rq w c σ→Calls Tryz.prog 48 #[.pointer (some ⟨c.g,0,none⟩)] w fun e w'=>NqP c w r e w') (ihi:∀{c:Cx} {σ:Sg} {w:World} {r:List Nd × Sg},RS c.ts F f 9 0 [] σ=some r→Rq w c σ→Calls Tryz.prog 93 #[.pointer (some ⟨c.g,0,none⟩)] w fun e w'=>NqP c w r e w') (hJ:RS c.ts F (f+1) 9 0 [] σ=some r) (h:Rq w c σ) :
  Calls Tryz.prog 93 #[.pointer (some ⟨c.g,0,none⟩)] w fun e w'=>NqP c w r e w':=by
 have S1:=hZ (Sq.start (d:=0) h 29 #[.int .i64 0,.string ⟨#[]⟩,.int .i64 0,.int .i64 0,.string ⟨#[]⟩,.slice none 0 0,.slice none 0 0,.bool false,.slice none 0 0,.int .i64 0])
 obtain⟨w1,hw1⟩:∃w1,w.alloc (.cells #[.int .i64 0,.string ⟨#[]⟩,.int .i64 0,.int .i64 0,.string ⟨#[]⟩,.slice none 0 0,.slice none 0 0,.bool false,.slice none 0 0,.int .i64 0] 29)=w1:=⟨_,rfl⟩
 rw [hw1] at S1
 obtain⟨G,hG⟩:∃G,w.heap.size=G:=⟨_,rfl⟩
 have hgw:c.g<w.heap.size:=h.frz.2.2.2.2
 clear h
 go_enter Tryz.func93,Tryz.ntmps93
 have HJ0:=hZ (show sChoice c.ts (RS c.ts F f) σ=some r from hJ)
 clear hJ
 have HJ1:=hZ ((by have:=uZ HJ0;unfold sChoice at this;exact this))
 clear HJ0
 obtain⟨⟨k,t,n,p⟩,ht⟩:∃zz,tkQ c.ts σ=zz:=⟨_,rfl⟩
 have HT:=hZ ht
 clear ht
 have HJ2:=hZ ((by have:=(uZ HJ1);rw [uZ HT] at this;simp only [] at this;exact this))
 clear HJ1
 have CC:=hZ ((by have:=next_any (uZ S1).rd;rw [uZ HT] at this;simp only [tkA] at this;exact this))
 go_wp2_with fail
 refine(uZ CC).mono ?_
 rintro e w2 ⟨rfl,r2,b⟩
 have S2:=hZ ((uZ S1).go (d':=0) b r2)
 clear b r2 CC S1
 go_upto_region 2 with (first|(refine wpl_tk3 rfl _ rfl _ _ _ _ rfl ?_)|(refine wpl_tk1 rfl _ rfl _ _ _ _ rfl ?_)|(refine wpl_tk0 rfl _ rfl _ _ _ _ rfl ?_))
 obtain⟨w3,hw⟩:∃zz,w2.alloc (.cells #[.int .i64 7,.string ⟨#[]⟩,.int .i64 0,.int .i64 0,.string ⟨#[]⟩,.slice none 0 0,.slice none 0 0,.bool false,.slice none 0 0,.int .i64 (p:Int)] 29)=zz:=⟨_,rfl⟩
 have b:Below w2.heap.size w2 w3:=by rw [←hw];exact(Below.refl _ _).alloc (Nat.le_refl _) _
 obtain⟨Q,hQ⟩:∃zz,w2.heap.size=zz:=⟨_,rfl⟩
 have HBQ_3:Hid (w3.heap[Q]?=some (.cells #[.int .i64 7,.string ⟨#[]⟩,.int .i64 0,.int .i64 0,.string ⟨#[]⟩,.slice none 0 0,.slice none 0 0,.bool false,.slice none 0 0,.int .i64 (p:Int)] 29 (0,0))):=hZ (by rw [←hw,←hQ];exact heap_alloc_new _ _)
 have S3:=hZ ((uZ S2).below b)
 have ltQ:w.heap.size<Q:=by rw [←hQ];exact(uZ S2).lt
 rw [hw]
 try rw [hQ]
 clear hw hQ b S2
 have HKa_3:Hid (Kr (Q+1) w3 [] (.slice none 0 0) [] []):=hZ (Kr.nil (Array.getElem?_eq_some_iff.1 (uZ HBQ_3)).1)
 have hlna:([]:List Nd).length=0:=rfl
 obtain⟨nsx,sx,hy,hth⟩:=bq_some (uZ HJ2)
 have HJ3:=hZ (hth)
 clear HJ2
 clear hth
 have CR:=hZ (ihc hy (uZ S3).rd)
 clear hy
 go_wp2_with fail
 refine(uZ CR).mono ?_
 rintro e w4 ⟨kx,tx,vkx,vnx,vsx,fx,nx,akx,ckx,px,Zx,rfl,hlx,hn,r2,b⟩
 simp only [] at hlx hn r2
 have S4:=hZ ((uZ S3).go (d':=0) b r2)
 have HBQ_4:=bx_go HBQ_3 b (by omega)
 have HKa_4:=hZ ((uZ HKa_3).beside b (by omega))
 obtain⟨lox,hlo⟩:∃zz,w3.heap.size=zz:=⟨_,rfl⟩
 have ltlox:w.heap.size<lox:=by rw [←hlo];exact(uZ S3).lt
 have lqQ_x:Q<lox:=by rw [←hlo];exact(Array.getElem?_eq_some_iff.1 (uZ HBQ_3)).1
 have HWa_x:=hZ ((uZ HKa_3).vlt hlo)
 have lea_x:=(uZ HKa_3).ok.le
 rw [hlo] at lea_x
 rw [hlo] at hn
 have HNx_4:=hZ hn
 clear hlo b r2 hn CR S3 HBQ_3 HKa_3
 go_upto_region 3 with fail
 obtain⟨w5,hw⟩:∃zz,w4.alloc (.cells #[.int .i64 (kx:Int),.string (bA tx),.int .i64 (vkx:Int),.int .i64 (vnx:Int),.string (bA vsx),.slice none 0 0,.slice none 0 0,.bool fx,.slice akx nx ckx,.int .i64 (px:Int)] 29)=zz:=⟨_,rfl⟩
 have b:Below w4.heap.size w4 w5:=by rw [←hw];exact(Below.refl _ _).alloc (Nat.le_refl _) _
 obtain⟨X,hQ⟩:∃zz,w4.heap.size=zz:=⟨_,rfl⟩
 have HBX_5:Hid (w5.heap[X]?=some (.cells #[.int .i64 (kx:Int),.string (bA tx),.int .i64 (vkx:Int),.int .i64 (vnx:Int),.string (bA vsx),.slice none 0 0,.slice none 0 0,.bool fx,.slice akx nx ckx,.int .i64 (px:Int)] 29 (0,0))):=hZ (by rw [←hw,←hQ];exact heap_alloc_new _ _)
 have S5:=hZ ((uZ S4).below b)
 have HBQ_5:=bx_be HBQ_4 b
 have HKa_5:=hZ ((uZ HKa_4).beside (Beside.of_below (gr:=c.g) b) (by omega))
 have HNx_5:=hZ ((uZ HNx_4).beside (Beside.of_below (gr:=c.g) b) (by omega))
 have lQ_X:Q<X:=by rw [←hQ];exact(Array.getElem?_eq_some_iff.1 (uZ HBQ_4)).1
 have APa_X:=hZ ((uZ HKa_4).fresh hQ)
 have ANx_X:=hZ ((uZ HNx_4).fresh hQ)
 have ltX:w.heap.size<X:=by rw [←hQ];exact(uZ S4).lt
 rw [hw]
 try rw [hQ]
 clear hw hQ b S4 HBQ_4 HKa_4 HNx_4
 obtain⟨nsy,sy,hy,hth⟩:=bq_some (uZ HJ3)
 have HJ4:=hZ (hth)
 clear HJ3
 clear hth
 have CR:=hZ (ihb hy (uZ S5).rd)
 clear hy
 go_wp2_with fail
 refine(uZ CR).mono ?_
 rintro e w6 ⟨ky,ty,vky,vny,vsy,fy,ny,aky,cky,py,Zy,rfl,hly,hn,r2,b⟩
 simp only [] at hly hn r2
 have S6:=hZ ((uZ S5).go (d':=0) b r2)
 have HBQ_6:=bx_go HBQ_5 b (by omega)
 have HBX_6:=bx_go HBX_5 b (by omega)
 have HKa_6:=hZ ((uZ HKa_5).beside b (by omega))
 have HNx_6:=hZ ((uZ HNx_5).beside b (by omega))
 obtain⟨loy,hlo⟩:∃zz,w5.heap.size=zz:=⟨_,rfl⟩
 have ltloy:w.heap.size<loy:=by rw [←hlo];exact(uZ S5).lt
 have lqQ_y:Q<loy:=by rw [←hlo];exact(Array.getElem?_eq_some_iff.1 (uZ HBQ_5)).1
 have lqX_y:X<loy:=by rw [←hlo];exact(Array.getElem?_eq_some_iff.1 (uZ HBX_5)).1
 have HMx_y:Hid (∀b∈Zx,b<loy):=hZ (fun b hb=>by rw [←hlo];exact((uZ HNx_5).rg b hb).2)
 have lex_y:lox≤loy:=by rw [←hlo];exact(uZ HNx_5).le
 have HWa_y:=hZ ((uZ HKa_5).vlt hlo)
 have lea_y:=(uZ HKa_5).ok.le
 rw [hlo] at lea_y
 rw [hlo] at hn
 have HNy_6:=hZ hn
 clear hlo b r2 hn CR S5 HBQ_5 HBX_5 HKa_5 HNx_5
 go_upto_region 4 with fail
 obtain⟨w7,hw⟩:∃zz,w6.alloc (.cells #[.int .i64 (ky:Int),.string (bA ty),.int .i64 (vky:Int),.int .i64 (vny:Int),.string (bA vsy),.slice none 0 0,.slice none 0 0,.bool fy,.slice aky ny cky,.int .i64 (py:Int)] 29)=zz:=⟨_,rfl⟩
 have b:Below w6.heap.size w6 w7:=by rw [←hw];exact(Below.refl _ _).alloc (Nat.le_refl _) _
 obtain⟨Y,hQ⟩:∃zz,w6.heap.size=zz:=⟨_,rfl⟩
 have HBY_7:Hid (w7.heap[Y]?=some (.cells #[.int .i64 (ky:Int),.string (bA ty),.int .i64 (vky:Int),.int .i64 (vny:Int),.string (bA vsy),.slice none 0 0,.slice none 0 0,.bool fy,.slice aky ny cky,.int .i64 (py:Int)] 29 (0,0))):=hZ (by rw [←hw,←hQ];exact heap_alloc_new _ _)
 have S7:=hZ ((uZ S6).below b)
 have HBQ_7:=bx_be HBQ_6 b
 have HBX_7:=bx_be HBX_6 b
 have HKa_7:=hZ ((uZ HKa_6).beside (Beside.of_below (gr:=c.g) b) (by omega))
 have HNx_7:=hZ ((uZ HNx_6).beside (Beside.of_below (gr:=c.g) b) (by omega))
 have HNy_7:=hZ ((uZ HNy_6).beside (Beside.of_below (gr:=c.g) b) (by omega))
 have lQ_Y:Q<Y:=by rw [←hQ];exact(Array.getElem?_eq_some_iff.1 (uZ HBQ_6)).1
 have lX_Y:X<Y:=by rw [←hQ];exact(Array.getElem?_eq_some_iff.1 (uZ HBX_6)).1
 have APa_Y:=hZ ((uZ HKa_6).fresh hQ)
 have ANx_Y:=hZ ((uZ HNx_6).fresh hQ)
 have ANy_Y:=hZ ((uZ HNy_6).fresh hQ)
 have ltY:w.heap.size<Y:=by rw [←hQ];exact(uZ S6).lt
 rw [hw]
 try rw [hQ]
 clear hw hQ b S6 HBQ_6 HBX_6 HKa_6 HNx_6 HNy_6
 obtain⟨Xo0,Xo1,Xo2,Xo3,Xo4,Xo5,Xo6,Xo7,Xo8,Xo9⟩:=row_cell10 (uZ HBX_7)
 obtain⟨Yo0,Yo1,Yo2,Yo3,Yo4,Yo5,Yo6,Yo7,Yo8,Yo9⟩:=row_cell10 (uZ HBY_7)
 have Kc8:=(row_cell10 (uZ HBQ_7)).2.2.2.2.2.2.2.2.1
 obtain⟨w8,hwr⟩:∃zz,w7.alloc (.cells #[.int .i64 (kx:Int),.string (bA tx),.int .i64 (vkx:Int),.int .i64 (vnx:Int),.string (bA vsx),.slice none 0 0,.slice none 0 0,.bool fx,.slice akx nx ckx,.int .i64 (px:Int),.int .i64 (ky:Int),.string (bA ty),.int .i64 (vky:Int),.int .i64 (vny:Int),.string (bA vsy),.slice none 0 0,.slice none 0 0,.bool fy,.slice aky ny cky,.int .i64 (py:Int)] 29)=zz:=⟨_,rfl⟩
 have b:Below w7.heap.size w7 w8:=by rw [←hwr];exact(Below.refl _ _).alloc (Nat.le_refl _) _
 obtain⟨hx,hhx⟩:∃zz,w7.heap.size=zz:=⟨_,rfl⟩
 have at4:Hid (w8.heap[hx]?=some (.cells #[.int .i64 (kx:Int),.string (bA tx),.int .i64 (vkx:Int),.int .i64 (vnx:Int),.string (bA vsx),.slice none 0 0,.slice none 0 0,.bool fx,.slice akx nx ckx,.int .i64 (px:Int),.int .i64 (ky:Int),.string (bA ty),.int .i64 (vky:Int),.int .i64 (vny:Int),.string (bA vsy),.slice none 0 0,.slice none 0 0,.bool fy,.slice aky ny cky,.int .i64 (py:Int)] 29 (0,0))):=hZ (by rw [←hwr,←hhx];exact heap_alloc_new _ _)
 have S8:=hZ ((uZ S7).below b)
 have HBQ_8:=bx_be HBQ_7 b
 have HBX_8:=bx_be HBX_7 b
 have HBY_8:=bx_be HBY_7 b
 have HKa_8:=hZ ((uZ HKa_7).beside (Beside.of_below (gr:=c.g) b) (by omega))
 have HNx_8:=hZ ((uZ HNx_7).beside (Beside.of_below (gr:=c.g) b) (by omega))
 have HNy_8:=hZ ((uZ HNy_7).beside (Beside.of_below (gr:=c.g) b) (by omega))
 clear b S7 HBQ_7 HBX_7 HBY_7 HKa_7 HNx_7 HNy_7
 have hkl:=(uZ HKa_8).own
 rw [hlna] at hkl
 have HKL:=hZ hkl
 have HKE:=hZ ((uZ HKa_8).ok.le)
 clear hkl
 have tokA:True:=trivial
 go_upto_region 5 with (first|(at_builtin;have _t:=tokA;refine wpl_appM 2 rfl (.tmp 19) (.tmp 22) rfl (Q+1) (.slice none 0 0) 0 _ rfl (uZ HKL) hx #[.int .i64 (kx:Int),.string (bA tx),.int .i64 (vkx:Int),.int .i64 (vnx:Int),.string (bA vsx),.slice none 0 0,.slice none 0 0,.bool fx,.slice akx nx ckx,.int .i64 (px:Int),.int .i64 (ky:Int),.string (bA ty),.int .i64 (vky:Int),.int .i64 (vny:Int),.string (bA vsy),.slice none 0 0,.slice none 0 0,.bool fy,.slice aky ny cky,.int .i64 (py:Int)] rfl (uZ at4) rfl (ndC_two) (by decide) (by omega) (uZ HKE) ?_;clear tokA;intro gq8 cp8 w9 H5;have HB5:=push_box (uZ HBQ_8) (uZ HKa_8) (by omega) (uZ H5).2.1;have f8:=frozen_of_row w9 Q 8 _ _ HB5;have c8:=(row_cell10 HB5).2.2.2.2.2.2.2.2.1;clear HB5))
 have P:=push_all (uZ S8) ltQ (uZ HBQ_8) (uZ HKa_8) ((uZ HNx_8).app (uZ HMx_y) (uZ HNy_8) (by omega)) (by omega) (by omega) (uZ HWa_x) H5 (by rw [List.length_append,List.length_append,hlx,hly,hlna])
 obtain⟨w10,hw⟩:∃zz,w9.setCell ⟨Q,8,none⟩ (.slice (some ⟨gq8,0,none⟩) (0+2) cp8)=zz:=⟨_,rfl⟩
 rw [hw] at P ⊢
 obtain⟨S10,HBQ_10,HKn_10⟩:=P
 have hlnn:([]++(nsx++nsy)).length=0+2:=by rw [List.length_append,List.length_append,hlx,hly,hlna]
 clear hw H5 HKL HKE at4 hwr hhx f8 c8 Kc8 S8 HBQ_8 HBX_8 HBY_8 HKa_8 HNx_8 HNy_8 Xo0 Xo1 Xo2 Xo3 Xo4 Xo5 Xo6 Xo7 Xo8 Xo9 Yo0 Yo1 Yo2 Yo3 Yo4 Yo5 Yo6 Yo7 Yo8 Yo9
 rcases Bool.eq_false_or_eq_true (isQ c.ts 2 [101,108,115,101] sy) with hq|hq
 ·have HJ5:=hZ ((by have:=(uZ HJ4);rw [if_pos hq] at this;exact this))
  clear HJ4
  have CC:=hZ ((by have:=keyq_any (uZ S10).rd [101,108,115,101];rw [hq] at this;exact this))
  go_wp2_with fail
  refine(uZ CC).mono ?_
  rintro e w11 ⟨rfl,b⟩
  have S11:=hZ ((uZ S10).below b)
  have HBQ_11:=bx_be HBQ_10 b
  have HKn_11:=hZ ((uZ HKn_10).beside (Beside.of_below (gr:=c.g) b) (by omega))
  clear b CC S10 HBQ_10 HKn_10
  have CC:=hZ (next_any (uZ S11).rd)
  go_wp2_with fail
  refine(uZ CC).mono ?_
  rintro e w12 ⟨rfl,r2,b⟩
  have S12:=hZ ((uZ S11).go (d':=0) b r2)
  have HBQ_12:=bx_go HBQ_11 b (by omega)
  have HKn_12:=hZ ((uZ HKn_11).beside b (by omega))
  clear b r2 CC S11 HBQ_11 HKn_11
  rcases Bool.eq_false_or_eq_true (isQ c.ts 2 [105,102] (nxQ c.ts sy)) with hq2|hq2
  ·have HJ6:=hZ ((by have:=(uZ HJ5);rw [if_pos hq2] at this;exact this))
   clear HJ5
   have CC:=hZ ((by have:=keyq_any (uZ S12).rd [105,102];rw [hq2] at this;exact this))
   go_wp2_with fail
   refine(uZ CC).mono ?_
   rintro e w13 ⟨rfl,b⟩
   have S13:=hZ ((uZ S12).below b)
   have HBQ_13:=bx_be HBQ_12 b
   have HKn_13:=hZ ((uZ HKn_12).beside (Beside.of_below (gr:=c.g) b) (by omega))
   clear b CC S12 HBQ_12 HKn_12
   obtain⟨nsz,sz,hy,hth⟩:=bq_some (uZ HJ6)
   have HJ7:=hZ (hth)
   clear HJ6
   clear hth
   have CR:=hZ (ihi hy (uZ S13).rd)
   clear hy
   go_wp2_with fail
   refine(uZ CR).mono ?_
   rintro e w14 ⟨kz,tz,vkz,vnz,vsz,fz,nz,akz,ckz,pz,Zz,rfl,hlz,hn,r2,b⟩
   simp only [] at hlz hn r2
   have S14:=hZ ((uZ S13).go (d':=0) b r2)
   have HBQ_14:=bx_go HBQ_13 b (by omega)
   have HKn_14:=hZ ((uZ HKn_13).beside b (by omega))
   obtain⟨loz,hlo⟩:∃zz,w13.heap.size=zz:=⟨_,rfl⟩
   have ltloz:w.heap.size<loz:=by rw [←hlo];exact(uZ S13).lt
   have lqQ_z:Q<loz:=by rw [←hlo];exact(Array.getElem?_eq_some_iff.1 (uZ HBQ_13)).1
   have HWn_z:=hZ ((uZ HKn_13).vlt hlo)
   have len_z:=(uZ HKn_13).ok.le
   rw [hlo] at len_z
   rw [hlo] at hn
   have HNz_14:=hZ hn
   clear hlo b r2 hn CR S13 HBQ_13 HKn_13
   go_upto_region 12 with fail
   obtain⟨w15,hw⟩:∃zz,w14.alloc (.cells #[.int .i64 (kz:Int),.string (bA tz),.int .i64 (vkz:Int),.int .i64 (vnz:Int),.string (bA vsz),.slice none 0 0,.slice none 0 0,.bool fz,.slice akz nz ckz,.int .i64 (pz:Int)] 29)=zz:=⟨_,rfl⟩
   have b:Below w14.heap.size w14 w15:=by rw [←hw];exact(Below.refl _ _).alloc (Nat.le_refl _) _
   obtain⟨Z,hQ⟩:∃zz,w14.heap.size=zz:=⟨_,rfl⟩
   have HBZ_15:Hid (w15.heap[Z]?=some (.cells #[.int .i64 (kz:Int),.string (bA tz),.int .i64 (vkz:Int),.int .i64 (vnz:Int),.string (bA vsz),.slice none 0 0,.slice none 0 0,.bool fz,.slice akz nz ckz,.int .i64 (pz:Int)] 29 (0,0))):=hZ (by rw [←hw,←hQ];exact heap_alloc_new _ _)
   have S15:=hZ ((uZ S14).below b)
   have HBQ_15:=bx_be HBQ_14 b
   have HKn_15:=hZ ((uZ HKn_14).beside (Beside.of_below (gr:=c.g) b) (by omega))
   have HNz_15:=hZ ((uZ HNz_14).beside (Beside.of_below (gr:=c.g) b) (by omega))
   have lQ_Z:Q<Z:=by rw [←hQ];exact(Array.getElem?_eq_some_iff.1 (uZ HBQ_14)).1
   have APn_Z:=hZ ((uZ HKn_14).fresh hQ)
   have ANz_Z:=hZ ((uZ HNz_14).fresh hQ)
   have ltZ:w.heap.size<Z:=by rw [←hQ];exact(uZ S14).lt
   rw [hw]
   try rw [hQ]
   clear hw hQ b S14 HBQ_14 HKn_14 HNz_14
   obtain⟨Zo0,Zo1,Zo2,Zo3,Zo4,Zo5,Zo6,Zo7,Zo8,Zo9⟩:=row_cell10 (uZ HBZ_15)
   have Kc8:=(row_cell10 (uZ HBQ_15)).2.2.2.2.2.2.2.2.1
   obtain⟨w16,hwr⟩:∃zz,w15.alloc (.cells #[.int .i64 (kz:Int),.string (bA tz),.int .i64 (vkz:Int),.int .i64 (vnz:Int),.string (bA vsz),.slice none 0 0,.slice none 0 0,.bool fz,.slice akz nz ckz,.int .i64 (pz:Int)] 29)=zz:=⟨_,rfl⟩
   have b:Below w15.heap.size w15 w16:=by rw [←hwr];exact(Below.refl _ _).alloc (Nat.le_refl _) _
   obtain⟨hx,hhx⟩:∃zz,w15.heap.size=zz:=⟨_,rfl⟩
   have at4:Hid (w16.heap[hx]?=some (.cells #[.int .i64 (kz:Int),.string (bA tz),.int .i64 (vkz:Int),.int .i64 (vnz:Int),.string (bA vsz),.slice none 0 0,.slice none 0 0,.bool fz,.slice akz nz ckz,.int .i64 (pz:Int)] 29 (0,0))):=hZ (by rw [←hwr,←hhx];exact heap_alloc_new _ _)
   have S16:=hZ ((uZ S15).below b)
   have HBQ_16:=bx_be HBQ_15 b
   have HBZ_16:=bx_be HBZ_15 b
   have HKn_16:=hZ ((uZ HKn_15).beside (Beside.of_below (gr:=c.g) b) (by omega))
   have HNz_16:=hZ ((uZ HNz_15).beside (Beside.of_below (gr:=c.g) b) (by omega))
   clear b S15 HBQ_15 HBZ_15 HKn_15 HNz_15
   have hkl:=(uZ HKn_16).own
   rw [hlnn] at hkl
   have HKL:=hZ hkl
   have HKE:=hZ ((uZ HKn_16).ok.le)
   clear hkl
   have tokA:True:=trivial
   go_upto_region 13 with (first|(at_builtin;have _t:=tokA;refine wpl_appM 1 rfl (.tmp 38) (.tmp 40) rfl (Q+1) (.slice (some ⟨gq8,0,none⟩) (0+2) cp8) (0+2) _ rfl (uZ HKL) hx #[.int .i64 (kz:Int),.string (bA tz),.int .i64 (vkz:Int),.int .i64 (vnz:Int),.string (bA vsz),.slice none 0 0,.slice none 0 0,.bool fz,.slice akz nz ckz,.int .i64 (pz:Int)] rfl (uZ at4) rfl (ndC_one _ _ _ _ _ _ _ _ _ _) (by decide) (by omega) (uZ HKE) ?_;clear tokA;intro gq16 cp16 w17 H5;have HB5:=push_box (uZ HBQ_16) (uZ HKn_16) (by omega) (uZ H5).2.1;have f8:=frozen_of_row w17 Q 8 _ _ HB5;have c8:=(row_cell10 HB5).2.2.2.2.2.2.2.2.1;clear HB5))
   have P:=push_all (uZ S16) ltQ (uZ HBQ_16) (uZ HKn_16) (uZ HNz_16) (by omega) (by omega) (uZ HWn_z) H5 (by rw [List.length_append,hlz,hlnn])
   obtain⟨w18,hw⟩:∃zz,w17.setCell ⟨Q,8,none⟩ (.slice (some ⟨gq16,0,none⟩) ((0+2)+1) cp16)=zz:=⟨_,rfl⟩
   rw [hw] at P ⊢
   obtain⟨S18,HBQ_18,HKm_18⟩:=P
   have hlnm:([]++(nsx++nsy)++(nsz)).length=(0+2)+1:=by rw [List.length_append,hlz,hlnn]
   clear hw H5 HKL HKE at4 hwr hhx f8 c8 Kc8 S16 HBQ_16 HBZ_16 HKn_16 HNz_16 Zo0 Zo1 Zo2 Zo3 Zo4 Zo5 Zo6 Zo7 Zo8 Zo9
   have hr1:=okq_some (uZ HJ7)
   have hnn:=(uZ HKm_18).node' hlnm 7 [] 0 0 [] false p
   have HR:=hZ (hr1)
   have BX:=(uZ S18).bx
   rw [hG] at BX
   obtain⟨g0,g1,g2,g3,g4,g5,g6,g7,g8,g9⟩:=row_cell10 BX
   obtain⟨z0,z1,z2,z3,z4,z5,z6,z7,z8,z9⟩:=frozen10 BX
   clear BX
   obtain⟨Qc0,Qc1,Qc2,Qc3,Qc4,Qc5,Qc6,Qc7,Qc8,Qc9⟩:=row_cell10 (uZ HBQ_18)
   have FF:=hZ (Sq.done (uZ S18) (hnn.low (by omega)) rfl hG)
   go_wp2_with fail
   refine bodyPost_ret (ret_c1 (p:=2) (T:=29) rfl _ _ G _ _ _ rfl (uZ FF).1 Tryz.underlying29 rfl size_nd) rfl ?_
   rw [uZ HR]
   exact(uZ FF).2
  ·have HJ6:=hZ ((by have:=(uZ HJ5);rw [if_neg (by rw [hq2];decide)] at this;exact this))
   clear HJ5
   have CC:=hZ ((by have:=keyq_any (uZ S12).rd [105,102];rw [hq2] at this;exact this))
   go_wp2_with fail
   refine(uZ CC).mono ?_
   rintro e w13 ⟨rfl,b⟩
   have S13:=hZ ((uZ S12).below b)
   have HBQ_13:=bx_be HBQ_12 b
   have HKn_13:=hZ ((uZ HKn_12).beside (Beside.of_below (gr:=c.g) b) (by omega))
   clear b CC S12 HBQ_12 HKn_12
   obtain⟨nsz,sz,hy,hth⟩:=bq_some (uZ HJ6)
   have HJ7:=hZ (hth)
   clear HJ6
   clear hth
   have CR:=hZ (ihb hy (uZ S13).rd)
   clear hy
   go_wp2_with fail
   refine(uZ CR).mono ?_
   rintro e w14 ⟨kz,tz,vkz,vnz,vsz,fz,nz,akz,ckz,pz,Zz,rfl,hlz,hn,r2,b⟩
   simp only [] at hlz hn r2
   have S14:=hZ ((uZ S13).go (d':=0) b r2)
   have HBQ_14:=bx_go HBQ_13 b (by omega)
   have HKn_14:=hZ ((uZ HKn_13).beside b (by omega))
   obtain⟨loz,hlo⟩:∃zz,w13.heap.size=zz:=⟨_,rfl⟩
   have ltloz:w.heap.size<loz:=by rw [←hlo];exact(uZ S13).lt
   have lqQ_z:Q<loz:=by rw [←hlo];exact(Array.getElem?_eq_some_iff.1 (uZ HBQ_13)).1
   have HWn_z:=hZ ((uZ HKn_13).vlt hlo)
   have len_z:=(uZ HKn_13).ok.le
   rw [hlo] at len_z
   rw [hlo] at hn
   have HNz_14:=hZ hn
   clear hlo b r2 hn CR S13 HBQ_13 HKn_13
   go_upto_region 15 with fail
   obtain⟨w15,hw⟩:∃zz,w14.alloc (.cells #[.int .i64 (kz:Int),.string (bA tz),.int .i64 (vkz:Int),.int .i64 (vnz:Int),.string (bA vsz),.slice none 0 0,.slice none 0 0,.bool fz,.slice akz nz ckz,.int .i64 (pz:Int)] 29)=zz:=⟨_,rfl⟩
   have b:Below w14.heap.size w14 w15:=by rw [←hw];exact(Below.refl _ _).alloc (Nat.le_refl _) _
   obtain⟨Z,hQ⟩:∃zz,w14.heap.size=zz:=⟨_,rfl⟩
   have HBZ_15:Hid (w15.heap[Z]?=some (.cells #[.int .i64 (kz:Int),.string (bA tz),.int .i64 (vkz:Int),.int .i64 (vnz:Int),.string (bA vsz),.slice none 0 0,.slice none 0 0,.bool fz,.slice akz nz ckz,.int .i64 (pz:Int)] 29 (0,0))):=hZ (by rw [←hw,←hQ];exact heap_alloc_new _ _)
   have S15:=hZ ((uZ S14).below b)
   have HBQ_15:=bx_be HBQ_14 b
   have HKn_15:=hZ ((uZ HKn_14).beside (Beside.of_below (gr:=c.g) b) (by omega))
   have HNz_15:=hZ ((uZ HNz_14).beside (Beside.of_below (gr:=c.g) b) (by omega))
   have lQ_Z:Q<Z:=by rw [←hQ];exact(Array.getElem?_eq_some_iff.1 (uZ HBQ_14)).1
   have APn_Z:=hZ ((uZ HKn_14).fresh hQ)
   have ANz_Z:=hZ ((uZ HNz_14).fresh hQ)
   have ltZ:w.heap.size<Z:=by rw [←hQ];exact(uZ S14).lt
   rw [hw]
   try rw [hQ]
   clear hw hQ b S14 HBQ_14 HKn_14 HNz_14
   obtain⟨Zo0,Zo1,Zo2,Zo3,Zo4,Zo5,Zo6,Zo7,Zo8,Zo9⟩:=row_cell10 (uZ HBZ_15)
   have Kc8:=(row_cell10 (uZ HBQ_15)).2.2.2.2.2.2.2.2.1
   obtain⟨w16,hwr⟩:∃zz,w15.alloc (.cells #[.int .i64 (kz:Int),.string (bA tz),.int .i64 (vkz:Int),.int .i64 (vnz:Int),.string (bA vsz),.slice none 0 0,.slice none 0 0,.bool fz,.slice akz nz ckz,.int .i64 (pz:Int)] 29)=zz:=⟨_,rfl⟩
   have b:Below w15.heap.size w15 w16:=by rw [←hwr];exact(Below.refl _ _).alloc (Nat.le_refl _) _
   obtain⟨hx,hhx⟩:∃zz,w15.heap.size=zz:=⟨_,rfl⟩
   have at4:Hid (w16.heap[hx]?=some (.cells #[.int .i64 (kz:Int),.string (bA tz),.int .i64 (vkz:Int),.int .i64 (vnz:Int),.string (bA vsz),.slice none 0 0,.slice none 0 0,.bool fz,.slice akz nz ckz,.int .i64 (pz:Int)] 29 (0,0))):=hZ (by rw [←hwr,←hhx];exact heap_alloc_new _ _)
   have S16:=hZ ((uZ S15).below b)
   have HBQ_16:=bx_be HBQ_15 b
   have HBZ_16:=bx_be HBZ_15 b
   have HKn_16:=hZ ((uZ HKn_15).beside (Beside.of_below (gr:=c.g) b) (by omega))
   have HNz_16:=hZ ((uZ HNz_15).beside (Beside.of_below (gr:=c.g) b) (by omega))
   clear b S15 HBQ_15 HBZ_15 HKn_15 HNz_15
   have hkl:=(uZ HKn_16).own
   rw [hlnn] at hkl
   have HKL:=hZ hkl
   have HKE:=hZ ((uZ HKn_16).ok.le)
   clear hkl
   have tokA:True:=trivial
   go_upto_region 16 with (first|(at_builtin;have _t:=tokA;refine wpl_appM 1 rfl (.tmp 47) (.tmp 49) rfl (Q+1) (.slice (some ⟨gq8,0,none⟩) (0+2) cp8) (0+2) _ rfl (uZ HKL) hx #[.int .i64 (kz:Int),.string (bA tz),.int .i64 (vkz:Int),.int .i64 (vnz:Int),.string (bA vsz),.slice none 0 0,.slice none 0 0,.bool fz,.slice akz nz ckz,.int .i64 (pz:Int)] rfl (uZ at4) rfl (ndC_one _ _ _ _ _ _ _ _ _ _) (by decide) (by omega) (uZ HKE) ?_;clear tokA;intro gq16 cp16 w17 H5;have HB5:=push_box (uZ HBQ_16) (uZ HKn_16) (by omega) (uZ H5).2.1;have f8:=frozen_of_row w17 Q 8 _ _ HB5;have c8:=(row_cell10 HB5).2.2.2.2.2.2.2.2.1;clear HB5))
   have P:=push_all (uZ S16) ltQ (uZ HBQ_16) (uZ HKn_16) (uZ HNz_16) (by omega) (by omega) (uZ HWn_z) H5 (by rw [List.length_append,hlz,hlnn])
   obtain⟨w18,hw⟩:∃zz,w17.setCell ⟨Q,8,none⟩ (.slice (some ⟨gq16,0,none⟩) ((0+2)+1) cp16)=zz:=⟨_,rfl⟩
   rw [hw] at P ⊢
   obtain⟨S18,HBQ_18,HKm_18⟩:=P
   have hlnm:([]++(nsx++nsy)++(nsz)).length=(0+2)+1:=by rw [List.length_append,hlz,hlnn]
   clear hw H5 HKL HKE at4 hwr hhx f8 c8 Kc8 S16 HBQ_16 HBZ_16 HKn_16 HNz_16 Zo0 Zo1 Zo2 Zo3 Zo4 Zo5 Zo6 Zo7 Zo8 Zo9
   have hr1:=okq_some (uZ HJ7)
   have hnn:=(uZ HKm_18).node' hlnm 7 [] 0 0 [] false p
   have HR:=hZ (hr1)
   have BX:=(uZ S18).bx
   rw [hG] at BX
   obtain⟨g0,g1,g2,g3,g4,g5,g6,g7,g8,g9⟩:=row_cell10 BX
   obtain⟨z0,z1,z2,z3,z4,z5,z6,z7,z8,z9⟩:=frozen10 BX
   clear BX
   obtain⟨Qc0,Qc1,Qc2,Qc3,Qc4,Qc5,Qc6,Qc7,Qc8,Qc9⟩:=row_cell10 (uZ HBQ_18)
   have FF:=hZ (Sq.done (uZ S18) (hnn.low (by omega)) rfl hG)
   go_wp2_with fail
   refine bodyPost_ret (ret_c1 (p:=2) (T:=29) rfl _ _ G _ _ _ rfl (uZ FF).1 Tryz.underlying29 rfl size_nd) rfl ?_
   rw [uZ HR]
   exact(uZ FF).2
 ·have HJ5:=hZ ((by have:=(uZ HJ4);rw [if_neg (by rw [hq];decide)] at this;exact this))
  clear HJ4
  have CC:=hZ ((by have:=keyq_any (uZ S10).rd [101,108,115,101];rw [hq] at this;exact this))
  go_wp2_with fail
  refine(uZ CC).mono ?_
  rintro e w11 ⟨rfl,b⟩
  have S11:=hZ ((uZ S10).below b)
  have HBQ_11:=bx_be HBQ_10 b
  have HKn_11:=hZ ((uZ HKn_10).beside (Beside.of_below (gr:=c.g) b) (by omega))
  clear b CC S10 HBQ_10 HKn_10
  have hr1:=okq_some (uZ HJ5)
  have hnn:=(uZ HKn_11).node' hlnn 7 [] 0 0 [] false p
  have HR:=hZ (hr1)
  have BX:=(uZ S11).bx
  rw [hG] at BX
  obtain⟨g0,g1,g2,g3,g4,g5,g6,g7,g8,g9⟩:=row_cell10 BX
  obtain⟨z0,z1,z2,z3,z4,z5,z6,z7,z8,z9⟩:=frozen10 BX
  clear BX
  obtain⟨Qc0,Qc1,Qc2,Qc3,Qc4,Qc5,Qc6,Qc7,Qc8,Qc9⟩:=row_cell10 (uZ HBQ_11)
  have FF:=hZ (Sq.done (uZ S11) (hnn.low (by omega)) rfl hG)
  go_wp2_with fail
  refine bodyPost_ret (ret_c1 (p:=2) (T:=29) rfl _ _ G _ _ _ rfl (uZ FF).1 Tryz.underlying29 rfl size_nd) rfl ?_
  rw [uZ HR]
  exact(uZ FF).2
end Go.Proofs.YtilhlmmcdfoaoaaGreatDoor
