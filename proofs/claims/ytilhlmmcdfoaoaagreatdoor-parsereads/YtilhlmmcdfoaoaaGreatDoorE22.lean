/-
  Layer 17 (parse): the document's reader: functions; conditions: the reader's state.
  Layer 17 (parse): the document's reader: whether the next statement is a Set; conditions: the reader's state.
-/
import Derived.Test.YtilhlmmcdfoaoaaGreatDoorE19
import Derived.Deep.LoopGhost
import Derived.Deep.CutBlock
import Derived.BigQuiet
import Derived.Deep.QuietTactic
set_option linter.unusedVariables false
set_option linter.unusedSimpArgs false
namespace Go.Proofs.YtilhlmmcdfoaoaaGreatDoor
open Go.RowKit
set_option linter.unusedVariables false
set_option linter.unusedSimpArgs false
set_option maxRecDepth 100000 in
set_option maxHeartbeats 4000000 in
theorem fnq_step {c:Cx} {σ:Sg} {w:World} {r:List Nd × Sg} {F f:Nat} (hf:f≤500000) (ihb:∀{c:Cx} {σ:Sg} {w:World} {r:List Nd × Sg},RS c.ts F f 4 0 [] σ=some r→Rq w c σ→Calls Tryz.prog 48 #[.pointer (some ⟨c.g,0,none⟩)] w fun e w'=>NqP c w r e w') (hJ:RS c.ts F (f+1) 2 0 [] σ=some r) (h:Rq w c σ) :
  Calls Tryz.prog 24 #[.pointer (some ⟨c.g,0,none⟩)] w fun e w'=>NqP c w r e w':=by
 have S1:=hZ (Sq.start (d:=0) h 29 #[.int .i64 0,.string ⟨#[]⟩,.int .i64 0,.int .i64 0,.string ⟨#[]⟩,.slice none 0 0,.slice none 0 0,.bool false,.slice none 0 0,.int .i64 0])
 obtain⟨w1,hw1⟩:∃w1,w.alloc (.cells #[.int .i64 0,.string ⟨#[]⟩,.int .i64 0,.int .i64 0,.string ⟨#[]⟩,.slice none 0 0,.slice none 0 0,.bool false,.slice none 0 0,.int .i64 0] 29)=w1:=⟨_,rfl⟩
 rw [hw1] at S1
 obtain⟨G,hG⟩:∃G,w.heap.size=G:=⟨_,rfl⟩
 have hgw:c.g<w.heap.size:=h.frz.2.2.2.2
 clear h
 go_enter Tryz.func24,Tryz.ntmps24
 have HJ0:=hZ (show sFn c.ts (RS c.ts F f) σ=some r from hJ)
 clear hJ
 have HJ1:=hZ ((by have:=uZ HJ0;unfold sFn at this;exact this))
 clear HJ0
 obtain⟨⟨k,t,n,p⟩,ht⟩:∃zz,tkQ c.ts σ=zz:=⟨_,rfl⟩
 have HT:=hZ ht
 clear ht
 have HJ2:=hZ ((by have:=(uZ HJ1);rw [uZ HT] at this;simp only [] at this;exact this))
 clear HJ1
 have CC:=hZ ((by have:=peek_any (uZ S1).rd;rw [uZ HT] at this;simp only [tkA] at this;exact this))
 go_wp2_with fail
 refine(uZ CC).mono ?_
 rintro e w2 ⟨rfl,b⟩
 have S2:=hZ ((uZ S1).below b)
 clear b CC S1
 go_upto_region 2 with (first|(refine wpl_tk3 rfl _ rfl _ _ _ _ rfl ?_)|(refine wpl_tk1 rfl _ rfl _ _ _ _ rfl ?_)|(refine wpl_tk0 rfl _ rfl _ _ _ _ rfl ?_))
 obtain⟨w3,hw⟩:∃zz,w2.alloc (.cells #[.int .i64 2,.string ⟨#[]⟩,.int .i64 0,.int .i64 0,.string ⟨#[]⟩,.slice none 0 0,.slice none 0 0,.bool false,.slice none 0 0,.int .i64 (p:Int)] 29)=zz:=⟨_,rfl⟩
 have b:Below w2.heap.size w2 w3:=by rw [←hw];exact(Below.refl _ _).alloc (Nat.le_refl _) _
 obtain⟨Q,hQ⟩:∃zz,w2.heap.size=zz:=⟨_,rfl⟩
 have HBQ_3:Hid (w3.heap[Q]?=some (.cells #[.int .i64 2,.string ⟨#[]⟩,.int .i64 0,.int .i64 0,.string ⟨#[]⟩,.slice none 0 0,.slice none 0 0,.bool false,.slice none 0 0,.int .i64 (p:Int)] 29 (0,0))):=hZ (by rw [←hw,←hQ];exact heap_alloc_new _ _)
 have S3:=hZ ((uZ S2).below b)
 have ltQ:w.heap.size<Q:=by rw [←hQ];exact(uZ S2).lt
 rw [hw]
 try rw [hQ]
 clear hw hQ b S2
 obtain⟨bf,hbf⟩:∃zz,isQ c.ts 2 [101,120,112,111,114,116] σ=zz:=⟨_,rfl⟩
 have HJ3:=hZ ((by have:=(uZ HJ2);rw [hbf] at this;exact this))
 clear HJ2
 have CC:=hZ ((by have:=keyq_any (uZ S3).rd [101,120,112,111,114,116];rw [hbf] at this;exact this))
 go_wp2_with fail
 refine(uZ CC).mono ?_
 rintro e w4 ⟨rfl,b⟩
 have S4:=hZ ((uZ S3).below b)
 have HBQ_4:=bx_be HBQ_3 b
 clear b CC S3 HBQ_3
 obtain⟨-,-,-,-,-,-,-,Qc7,-,-⟩:=row_cell10 (uZ HBQ_4)
 have Qf7:=frozen_of_row w4 Q 7 _ _ (uZ HBQ_4)
 go_upto_region 3 with fail
 clear Qc7 Qf7
 obtain⟨w5,hw⟩:∃zz,w4.setCell ⟨Q,7,none⟩ (.bool bf)=zz:=⟨_,rfl⟩
 have HBQ_5:Hid (w5.heap[Q]?=some (.cells #[.int .i64 2,.string ⟨#[]⟩,.int .i64 0,.int .i64 0,.string ⟨#[]⟩,.slice none 0 0,.slice none 0 0,.bool bf,.slice none 0 0,.int .i64 (p:Int)] 29 (0,0))):=hZ (by rw [←hw,heap_setCell_same w4 Q 7 _ _ _ (uZ HBQ_4)];rfl)
 have S5:Hid (Sq w c 29 #[.int .i64 0,.string ⟨#[]⟩,.int .i64 0,.int .i64 0,.string ⟨#[]⟩,.slice none 0 0,.slice none 0 0,.bool false,.slice none 0 0,.int .i64 0] w5 σ 0):=hZ (by rw [←hw];exact(uZ S4).own Q 7 _ ltQ)
 rw [hw]
 clear hw S4 HBQ_4
 obtain⟨-,-,-,-,-,-,-,Qc7,-,-⟩:=row_cell10 (uZ HBQ_5)
 go_upto_if 16 with fail
 clear Qc7
 go_cut [] from 17 to 18 (fun wx=>Hid (Sq w c 29 #[.int .i64 0,.string ⟨#[]⟩,.int .i64 0,.int .i64 0,.string ⟨#[]⟩,.slice none 0 0,.slice none 0 0,.bool false,.slice none 0 0,.int .i64 0] wx (xpQ c.ts σ) 0∧wx.heap[Q]?=some (.cells #[.int .i64 2,.string ⟨#[]⟩,.int .i64 0,.int .i64 0,.string ⟨#[]⟩,.slice none 0 0,.slice none 0 0,.bool bf,.slice none 0 0,.int .i64 (p:Int)] 29 (0,0))))
 case first=>
  cases bf with
  |true=>
   have e1:xpQ c.ts σ=nxQ c.ts σ:=by unfold xpQ;rw [hbf];rfl
   have CC:=hZ (next_any (uZ S5).rd)
   go_wp2_with fail
   refine(uZ CC).mono ?_
   rintro e w6 ⟨rfl,r2,b⟩
   have S6:=hZ ((uZ S5).go (d':=0) b r2)
   have HBQ_6:=bx_go HBQ_5 b (by omega)
   clear b r2 CC S5 HBQ_5
   go_wp2_with fail
   go_meet
   exact hZ ⟨by rw [e1];exact uZ S6,uZ HBQ_6⟩
  |false=>
   have e1:xpQ c.ts σ=σ:=by unfold xpQ;rw [hbf];rfl
   go_wp2_with fail
   go_meet
   exact hZ ⟨by rw [e1];exact uZ S5,uZ HBQ_5⟩
 case rest=>
  clear S5 HBQ_5
  obtain⟨w30,hw30⟩:∃zz,zz=wc:=⟨_,rfl⟩
  subst hw30
  have S30:=hZ (uZ hcut).1
  have HBQ_30:=hZ (uZ hcut).2
  clear hcut
  have HJ4:=hZ ((by have:=(uZ HJ3);unfold paQ nmQ at this;exact this))
  clear HJ3
  obtain⟨s1,hs1⟩:∃zz,xpQ c.ts σ=zz:=⟨_,rfl⟩
  rw [hs1] at S30 HJ4
  clear hs1 hbf
  obtain⟨⟨ka,ta,na,pa⟩,ht⟩:∃zz,(muQ c.ts 2 [102,110] s1).1=zz:=⟨_,rfl⟩
  have HTa:=hZ ht
  clear ht
  have CC:=hZ ((by have:=must_any (uZ S30).rd 2 [102,110];rw [uZ HTa] at this;simp only [tkA] at this;exact this))
  go_wp2_with fail
  refine(uZ CC).mono ?_
  rintro e w31 ⟨rfl,r2,b⟩
  have S31:=hZ ((uZ S30).go (d':=0) b r2)
  have HBQ_31:=bx_go HBQ_30 b (by omega)
  clear b r2 CC S30 HBQ_30
  obtain⟨s2,hs⟩:∃zz,(muQ c.ts 2 [102,110] s1).2=zz:=⟨_,rfl⟩
  rw [hs] at S31 HJ4
  clear hs
  obtain⟨⟨kb,tb,nb,pb⟩,ht⟩:∃zz,(muQ c.ts 1 [] s2).1=zz:=⟨_,rfl⟩
  have HTb:=hZ ht
  clear ht
  have HJ5:=hZ ((by have:=(uZ HJ4);rw [uZ HTb] at this;simp only [] at this;exact this))
  clear HJ4
  have CC:=hZ ((by have:=must_any (uZ S31).rd 1 [];rw [uZ HTb] at this;simp only [tkA] at this;exact this))
  go_wp2_with fail
  refine(uZ CC).mono ?_
  rintro e w32 ⟨rfl,r2,b⟩
  have S32:=hZ ((uZ S31).go (d':=0) b r2)
  have HBQ_32:=bx_go HBQ_31 b (by omega)
  clear b r2 CC S31 HBQ_31
  obtain⟨s3,hs⟩:∃zz,(muQ c.ts 1 [] s2).2=zz:=⟨_,rfl⟩
  rw [hs] at S32 HJ5
  clear hs
  obtain⟨-,Qc1,-,-,-,-,-,-,-,-⟩:=row_cell10 (uZ HBQ_32)
  have Qf1:=frozen_of_row w32 Q 1 _ _ (uZ HBQ_32)
  go_upto_region 7 with (first|(refine wpl_tk3 rfl _ rfl _ _ _ _ rfl ?_)|(refine wpl_tk1 rfl _ rfl _ _ _ _ rfl ?_)|(refine wpl_tk0 rfl _ rfl _ _ _ _ rfl ?_))
  clear Qc1 Qf1
  obtain⟨w33,hw⟩:∃zz,w32.setCell ⟨Q,1,none⟩ (.string (bA tb))=zz:=⟨_,rfl⟩
  have HBQ_33:Hid (w33.heap[Q]?=some (.cells #[.int .i64 2,.string (bA tb),.int .i64 0,.int .i64 0,.string ⟨#[]⟩,.slice none 0 0,.slice none 0 0,.bool bf,.slice none 0 0,.int .i64 (p:Int)] 29 (0,0))):=hZ (by rw [←hw,heap_setCell_same w32 Q 1 _ _ _ (uZ HBQ_32)];rfl)
  have S33:Hid (Sq w c 29 #[.int .i64 0,.string ⟨#[]⟩,.int .i64 0,.int .i64 0,.string ⟨#[]⟩,.slice none 0 0,.slice none 0 0,.bool false,.slice none 0 0,.int .i64 0] w33 s3 0):=hZ (by rw [←hw];exact(uZ S32).own Q 1 _ ltQ)
  rw [hw]
  clear hw S32 HBQ_32
  obtain⟨⟨kd,td,nd,pd⟩,ht⟩:∃zz,(muQ c.ts 5 [40] s3).1=zz:=⟨_,rfl⟩
  have HTd:=hZ ht
  clear ht
  have CC:=hZ ((by have:=must_any (uZ S33).rd 5 [40];rw [uZ HTd] at this;simp only [tkA] at this;exact this))
  go_wp2_with fail
  refine(uZ CC).mono ?_
  rintro e w34 ⟨rfl,r2,b⟩
  have S34:=hZ ((uZ S33).go (d':=0) b r2)
  have HBQ_34:=bx_go HBQ_33 b (by omega)
  clear b r2 CC S33 HBQ_33
  obtain⟨s4,hs⟩:∃zz,(muQ c.ts 5 [40] s3).2=zz:=⟨_,rfl⟩
  rw [hs] at S34 HJ5
  clear hs
  obtain⟨ps9,s9,hY,hth⟩:=bq_some (uZ HJ5)
  have HJ6:=hZ (hth)
  clear HJ5
  clear hth
  have HY:=hZ hY
  clear hY
  have HKa_34:Hid (Kr (Q+1) w34 [] (.slice none 0 0) [] []):=hZ (Kr.nil (Array.getElem?_eq_some_iff.1 (uZ HBQ_34)).1)
  have hlna:([]:List Nd).length=0:=rfl
  rcases Bool.eq_false_or_eq_true (isQ c.ts 5 [41] s4) with hq|hq
  ·have HY1:=hZ (by have:=uZ HY;rw [if_pos hq] at this;exact okq_some this)
   clear HY
   have CC:=hZ ((by have:=signq_any (uZ S34).rd [41];rw [hq] at this;exact this))
   go_wp2_with fail
   refine(uZ CC).mono ?_
   rintro e w35 ⟨rfl,b⟩
   have S35:=hZ ((uZ S34).below b)
   have HBQ_35:=bx_be HBQ_34 b
   have HKa_35:=hZ ((uZ HKa_34).beside (Beside.of_below (gr:=c.g) b) (by omega))
   clear b CC S34 HBQ_34 HKa_34
   go_upto_block 0 with fail
   go_cut [] from 29 to 55 (fun wx=>∃(na:Nat) (ak:Option Addr) (ck:Nat) (C:List Value) (Sa:List Nat),ps9.length=na∧na≤f∧Hid (Sq w c 29 #[.int .i64 0,.string ⟨#[]⟩,.int .i64 0,.int .i64 0,.string ⟨#[]⟩,.slice none 0 0,.slice none 0 0,.bool false,.slice none 0 0,.int .i64 0] wx s9 0∧wx.heap[Q]?=some (.cells #[.int .i64 2,.string (bA tb),.int .i64 0,.int .i64 0,.string ⟨#[]⟩,.slice none 0 0,.slice none 0 0,.bool bf,.slice ak na ck,.int .i64 (p:Int)] 29 (0,0))∧Kr (Q+1) wx ps9 (.slice ak na ck) C Sa))
   case first=>
    go_wp2_with fail
    go_loopg [] 0 (fun gk wr=>Hid (Sq w c 29 #[.int .i64 0,.string ⟨#[]⟩,.int .i64 0,.int .i64 0,.string ⟨#[]⟩,.slice none 0 0,.slice none 0 0,.bool false,.slice none 0 0,.int .i64 0] wr s4 0∧wr.heap[Q]?=some (.cells #[.int .i64 2,.string (bA tb),.int .i64 0,.int .i64 0,.string ⟨#[]⟩,.slice none 0 0,.slice none 0 0,.bool bf,.slice none 0 0,.int .i64 (p:Int)] 29 (0,0))∧Kr (Q+1) wr [] (.slice none 0 0) [] []))
    case atStart=>exact hZ ⟨uZ S35,uZ HBQ_35,uZ HKa_35⟩
    case round=>
     have HI:=hrel
     obtain⟨ha,hb⟩:=Prod.mk.inj (uZ HY1)
     subst ha hb
     go_wp2_with fail
     go_meet
     exact⟨0,none,0,_,_,rfl,by omega,HI⟩
   case rest=>
    clear S35 HBQ_35 HKa_35 hlna HY1
    obtain⟨na,ak,ck,Ca,Sa,hlna,hbna,HI⟩:=hcut
    obtain⟨w40,hw40⟩:∃zz,zz=wc:=⟨_,rfl⟩
    subst hw40
    have S40:=hZ (uZ HI).1
    have HBQ_40:=hZ (uZ HI).2.1
    have HKa_40:=hZ (uZ HI).2.2
    clear HI
    obtain⟨⟨ke,te,ne,pe⟩,ht⟩:∃zz,(muQ c.ts 5 [41] s9).1=zz:=⟨_,rfl⟩
    have HTe:=hZ ht
    clear ht
    have CC:=hZ ((by have:=must_any (uZ S40).rd 5 [41];rw [uZ HTe] at this;simp only [tkA] at this;exact this))
    go_wp2_with fail
    refine(uZ CC).mono ?_
    rintro e w41 ⟨rfl,r2,b⟩
    have S41:=hZ ((uZ S40).go (d':=0) b r2)
    have HBQ_41:=bx_go HBQ_40 b (by omega)
    have HKa_41:=hZ ((uZ HKa_40).beside b (by omega))
    clear b r2 CC S40 HBQ_40 HKa_40
    obtain⟨s6,hs⟩:∃zz,(muQ c.ts 5 [41] s9).2=zz:=⟨_,rfl⟩
    rw [hs] at S41 HJ6
    clear hs
    obtain⟨nsx,sx,hy,hth⟩:=bq_some (uZ HJ6)
    have HJ7:=hZ (hth)
    clear HJ6
    clear hth
    have CR:=hZ (ihb hy (uZ S41).rd)
    clear hy
    go_wp2_with fail
    refine(uZ CR).mono ?_
    rintro e w42 ⟨kx,tx,vkx,vnx,vsx,fx,nx,akx,ckx,px,Zx,rfl,hlx,hn,r2,b⟩
    simp only [] at hlx hn r2
    have S42:=hZ ((uZ S41).go (d':=0) b r2)
    have HBQ_42:=bx_go HBQ_41 b (by omega)
    have HKa_42:=hZ ((uZ HKa_41).beside b (by omega))
    obtain⟨lox,hlo⟩:∃zz,w41.heap.size=zz:=⟨_,rfl⟩
    have ltlox:w.heap.size<lox:=by rw [←hlo];exact(uZ S41).lt
    have lqQ_x:Q<lox:=by rw [←hlo];exact(Array.getElem?_eq_some_iff.1 (uZ HBQ_41)).1
    have HWa_x:=hZ ((uZ HKa_41).vlt hlo)
    have lea_x:=(uZ HKa_41).ok.le
    rw [hlo] at lea_x
    rw [hlo] at hn
    have HNx_42:=hZ hn
    clear hlo b r2 hn CR S41 HBQ_41 HKa_41
    go_upto_region 17 with fail
    obtain⟨w43,hw⟩:∃zz,w42.alloc (.cells #[.int .i64 (kx:Int),.string (bA tx),.int .i64 (vkx:Int),.int .i64 (vnx:Int),.string (bA vsx),.slice none 0 0,.slice none 0 0,.bool fx,.slice akx nx ckx,.int .i64 (px:Int)] 29)=zz:=⟨_,rfl⟩
    have b:Below w42.heap.size w42 w43:=by rw [←hw];exact(Below.refl _ _).alloc (Nat.le_refl _) _
    obtain⟨X,hQ⟩:∃zz,w42.heap.size=zz:=⟨_,rfl⟩
    have HBX_43:Hid (w43.heap[X]?=some (.cells #[.int .i64 (kx:Int),.string (bA tx),.int .i64 (vkx:Int),.int .i64 (vnx:Int),.string (bA vsx),.slice none 0 0,.slice none 0 0,.bool fx,.slice akx nx ckx,.int .i64 (px:Int)] 29 (0,0))):=hZ (by rw [←hw,←hQ];exact heap_alloc_new _ _)
    have S43:=hZ ((uZ S42).below b)
    have HBQ_43:=bx_be HBQ_42 b
    have HKa_43:=hZ ((uZ HKa_42).beside (Beside.of_below (gr:=c.g) b) (by omega))
    have HNx_43:=hZ ((uZ HNx_42).beside (Beside.of_below (gr:=c.g) b) (by omega))
    have lQ_X:Q<X:=by rw [←hQ];exact(Array.getElem?_eq_some_iff.1 (uZ HBQ_42)).1
    have APa_X:=hZ ((uZ HKa_42).fresh hQ)
    have ANx_X:=hZ ((uZ HNx_42).fresh hQ)
    have ltX:w.heap.size<X:=by rw [←hQ];exact(uZ S42).lt
    rw [hw]
    try rw [hQ]
    clear hw hQ b S42 HBQ_42 HKa_42 HNx_42
    obtain⟨Xo0,Xo1,Xo2,Xo3,Xo4,Xo5,Xo6,Xo7,Xo8,Xo9⟩:=row_cell10 (uZ HBX_43)
    have Kc8:=(row_cell10 (uZ HBQ_43)).2.2.2.2.2.2.2.2.1
    obtain⟨w44,hwr⟩:∃zz,w43.alloc (.cells #[.int .i64 (kx:Int),.string (bA tx),.int .i64 (vkx:Int),.int .i64 (vnx:Int),.string (bA vsx),.slice none 0 0,.slice none 0 0,.bool fx,.slice akx nx ckx,.int .i64 (px:Int)] 29)=zz:=⟨_,rfl⟩
    have b:Below w43.heap.size w43 w44:=by rw [←hwr];exact(Below.refl _ _).alloc (Nat.le_refl _) _
    obtain⟨hx,hhx⟩:∃zz,w43.heap.size=zz:=⟨_,rfl⟩
    have at4:Hid (w44.heap[hx]?=some (.cells #[.int .i64 (kx:Int),.string (bA tx),.int .i64 (vkx:Int),.int .i64 (vnx:Int),.string (bA vsx),.slice none 0 0,.slice none 0 0,.bool fx,.slice akx nx ckx,.int .i64 (px:Int)] 29 (0,0))):=hZ (by rw [←hwr,←hhx];exact heap_alloc_new _ _)
    have S44:=hZ ((uZ S43).below b)
    have HBQ_44:=bx_be HBQ_43 b
    have HBX_44:=bx_be HBX_43 b
    have HKa_44:=hZ ((uZ HKa_43).beside (Beside.of_below (gr:=c.g) b) (by omega))
    have HNx_44:=hZ ((uZ HNx_43).beside (Beside.of_below (gr:=c.g) b) (by omega))
    clear b S43 HBQ_43 HBX_43 HKa_43 HNx_43
    have hkl:=(uZ HKa_44).own
    rw [hlna] at hkl
    have HKL:=hZ hkl
    have HKE:=hZ ((uZ HKa_44).ok.le)
    clear hkl
    have tokA:True:=trivial
    go_upto_region 18 with (first|(at_builtin;have _t:=tokA;refine wpl_appM 1 rfl (.tmp 61) (.tmp 63) rfl (Q+1) (.slice ak na ck) na _ rfl (uZ HKL) hx #[.int .i64 (kx:Int),.string (bA tx),.int .i64 (vkx:Int),.int .i64 (vnx:Int),.string (bA vsx),.slice none 0 0,.slice none 0 0,.bool fx,.slice akx nx ckx,.int .i64 (px:Int)] rfl (uZ at4) rfl (ndC_one _ _ _ _ _ _ _ _ _ _) (by decide) (by omega) (uZ HKE) ?_;clear tokA;intro gq44 cp44 w45 H5;have HB5:=push_box (uZ HBQ_44) (uZ HKa_44) (by omega) (uZ H5).2.1;have f8:=frozen_of_row w45 Q 8 _ _ HB5;have c8:=(row_cell10 HB5).2.2.2.2.2.2.2.2.1;clear HB5))
    have P:=push_all (uZ S44) ltQ (uZ HBQ_44) (uZ HKa_44) (uZ HNx_44) (by omega) (by omega) (uZ HWa_x) H5 (by rw [List.length_append,hlx,hlna])
    obtain⟨w46,hw⟩:∃zz,w45.setCell ⟨Q,8,none⟩ (.slice (some ⟨gq44,0,none⟩) (na+1) cp44)=zz:=⟨_,rfl⟩
    rw [hw] at P ⊢
    obtain⟨S46,HBQ_46,HKn_46⟩:=P
    have hlnn:(ps9++(nsx)).length=na+1:=by rw [List.length_append,hlx,hlna]
    clear hw H5 HKL HKE at4 hwr hhx f8 c8 Kc8 S44 HBQ_44 HBX_44 HKa_44 HNx_44 Xo0 Xo1 Xo2 Xo3 Xo4 Xo5 Xo6 Xo7 Xo8 Xo9
    have hr1:=okq_some (uZ HJ7)
    have hnn:=(uZ HKn_46).node' hlnn 2 tb 0 0 [] bf p
    have HR:=hZ (hr1)
    have BX:=(uZ S46).bx
    rw [hG] at BX
    obtain⟨g0,g1,g2,g3,g4,g5,g6,g7,g8,g9⟩:=row_cell10 BX
    obtain⟨z0,z1,z2,z3,z4,z5,z6,z7,z8,z9⟩:=frozen10 BX
    clear BX
    obtain⟨Qc0,Qc1,Qc2,Qc3,Qc4,Qc5,Qc6,Qc7,Qc8,Qc9⟩:=row_cell10 (uZ HBQ_46)
    have FF:=hZ (Sq.done (uZ S46) (hnn.low (by omega)) rfl hG)
    go_wp2_with fail
    refine bodyPost_ret (ret_c1 (p:=2) (T:=29) rfl _ _ G _ _ _ rfl (uZ FF).1 Tryz.underlying29 rfl size_nd) rfl ?_
    rw [uZ HR]
    exact(uZ FF).2
  ·have HY0:=hZ (by have:=uZ HY;rw [if_neg (by rw [hq];decide)] at this;exact this)
   clear HY
   have HY:=HY0
   clear HY0
   have CC:=hZ ((by have:=signq_any (uZ S34).rd [41];rw [hq] at this;exact this))
   go_wp2_with fail
   refine(uZ CC).mono ?_
   rintro e w35 ⟨rfl,b⟩
   have S35:=hZ ((uZ S34).below b)
   have HBQ_35:=bx_be HBQ_34 b
   have HKa_35:=hZ ((uZ HKa_34).beside (Beside.of_below (gr:=c.g) b) (by omega))
   clear b CC S34 HBQ_34 HKa_34
   go_upto_block 0 with fail
   go_cut [] from 29 to 55 (fun wx=>∃(na:Nat) (ak:Option Addr) (ck:Nat) (C:List Value) (Sa:List Nat),ps9.length=na∧na≤f∧Hid (Sq w c 29 #[.int .i64 0,.string ⟨#[]⟩,.int .i64 0,.int .i64 0,.string ⟨#[]⟩,.slice none 0 0,.slice none 0 0,.bool false,.slice none 0 0,.int .i64 0] wx s9 0∧wx.heap[Q]?=some (.cells #[.int .i64 2,.string (bA tb),.int .i64 0,.int .i64 0,.string ⟨#[]⟩,.slice none 0 0,.slice none 0 0,.bool bf,.slice ak na ck,.int .i64 (p:Int)] 29 (0,0))∧Kr (Q+1) wx ps9 (.slice ak na ck) C Sa))
   case first=>
    go_wp2_with fail
    go_loopg [] f (fun gk wr=>∃(acc:List Nd) (sa:Sg) (na:Nat) (ak:Option Addr) (ck:Nat) (C:List Value) (Sa:List Nat),Hid (gk≤f∧RS c.ts F gk 3 0 acc sa=some (ps9,s9)∧acc.length=na∧na+gk≤f)∧Hid (Sq w c 29 #[.int .i64 0,.string ⟨#[]⟩,.int .i64 0,.int .i64 0,.string ⟨#[]⟩,.slice none 0 0,.slice none 0 0,.bool false,.slice none 0 0,.int .i64 0] wr sa 0∧wr.heap[Q]?=some (.cells #[.int .i64 2,.string (bA tb),.int .i64 0,.int .i64 0,.string ⟨#[]⟩,.slice none 0 0,.slice none 0 0,.bool bf,.slice ak na ck,.int .i64 (p:Int)] 29 (0,0))∧Kr (Q+1) wr acc (.slice ak na ck) C Sa))
    case atStart=>exact⟨[],s4,0,none,0,[],[],hZ ⟨Nat.le_refl _,uZ HY,rfl,by omega⟩,hZ ⟨uZ S35,uZ HBQ_35,uZ HKa_35⟩⟩
    case round=>
     clear HY HKa_35 S35 HBQ_35 hlna
     obtain⟨acc,sa,na,ak,ck,Ca,Sa,HA,HI⟩:=hrel
     obtain⟨w50,hw50⟩:∃zz,zz=wr:=⟨_,rfl⟩
     subst hw50
     have S50:=hZ (uZ HI).1
     have HBQ_50:=hZ (uZ HI).2.1
     have HKa_50:=hZ (uZ HI).2.2
     obtain⟨g1,hg1⟩:=RS_fuel (uZ HA).2.1
     subst hg1
     have HJ60:=hZ (show sPaL c.ts (RS c.ts F g1) acc sa=some (ps9,s9) from (uZ HA).2.1)
     have hlna:=(uZ HA).2.2.1
     have hbnb:=(uZ HA).2.2.2
     have hgf:=(uZ HA).1
     clear HI HA
     have HJ61:=hZ ((by have:=uZ HJ60;unfold sPaL at this;exact this))
     clear HJ60
     by_cases he:sa.e=0
     ·have HJ62:=hZ ((by have:=(uZ HJ61);rw [if_pos he] at this;exact this))
      clear HJ61
      have he0:((sa.e:Nat):Int)=0:=by omega
      have ec:=(uZ S50).rd.cells.2.2.2.1
      rw [he0] at ec
      obtain⟨⟨kt,tt,nt,pt⟩,ht⟩:∃zz,(muQ c.ts 1 [] sa).1=zz:=⟨_,rfl⟩
      have HTt:=hZ ht
      clear ht
      have HJ63:=hZ ((by have:=(uZ HJ62);rw [uZ HTt] at this;simp only [] at this;exact this))
      clear HJ62
      have CC:=hZ ((by have:=must_any (uZ S50).rd 1 [];rw [uZ HTt] at this;simp only [tkA] at this;exact this))
      go_wp2_with fail
      refine(uZ CC).mono ?_
      rintro e w51 ⟨rfl,r2,b⟩
      have S51:=hZ ((uZ S50).go (d':=0) b r2)
      have HBQ_51:=bx_go HBQ_50 b (by omega)
      have HKa_51:=hZ ((uZ HKa_50).beside b (by omega))
      clear b r2 CC S50 HBQ_50 HKa_50
      obtain⟨sm,hs⟩:∃zz,(muQ c.ts 1 [] sa).2=zz:=⟨_,rfl⟩
      rw [hs] at S51 HJ63
      clear hs
      clear ec
      go_upto_region 11 with fail
      obtain⟨w52,hw⟩:∃zz,w51.alloc (.cells #[.int .i64 (kt:Int),.string (bA tt),.int .i64 (nt:Int),.int .i64 (pt:Int)] 52)=zz:=⟨_,rfl⟩
      have b:Below w51.heap.size w51 w52:=by rw [←hw];exact(Below.refl _ _).alloc (Nat.le_refl _) _
      obtain⟨B,hQ⟩:∃zz,w51.heap.size=zz:=⟨_,rfl⟩
      have HBB_52:Hid (w52.heap[B]?=some (.cells #[.int .i64 (kt:Int),.string (bA tt),.int .i64 (nt:Int),.int .i64 (pt:Int)] 52 (0,0))):=hZ (by rw [←hw,←hQ];exact heap_alloc_new _ _)
      have S52:=hZ ((uZ S51).below b)
      have HBQ_52:=bx_be HBQ_51 b
      have HKa_52:=hZ ((uZ HKa_51).beside (Beside.of_below (gr:=c.g) b) (by omega))
      have lQ_B:Q<B:=by rw [←hQ];exact(Array.getElem?_eq_some_iff.1 (uZ HBQ_51)).1
      have APa_B:=hZ ((uZ HKa_51).fresh hQ)
      have ltB:w.heap.size<B:=by rw [←hQ];exact(uZ S51).lt
      rw [hw]
      try rw [hQ]
      clear hw hQ b S51 HBQ_51 HKa_51
      obtain⟨Bc0,Bc1,Bc2,Bc3⟩:=row_cell4 (uZ HBB_52)
      have Kc8:=(row_cell10 (uZ HBQ_52)).2.2.2.2.2.2.2.2.1
      obtain⟨w53,hwr⟩:∃zz,w52.alloc (.cells #[.int .i64 3,.string (bA tt),.int .i64 0,.int .i64 0,.string ⟨#[]⟩,.slice none 0 0,.slice none 0 0,.bool false,.slice none 0 0,.int .i64 (pt:Int)] 29)=zz:=⟨_,rfl⟩
      have b:Below w52.heap.size w52 w53:=by rw [←hwr];exact(Below.refl _ _).alloc (Nat.le_refl _) _
      obtain⟨hx,hhx⟩:∃zz,w52.heap.size=zz:=⟨_,rfl⟩
      have at4:Hid (w53.heap[hx]?=some (.cells #[.int .i64 3,.string (bA tt),.int .i64 0,.int .i64 0,.string ⟨#[]⟩,.slice none 0 0,.slice none 0 0,.bool false,.slice none 0 0,.int .i64 (pt:Int)] 29 (0,0))):=hZ (by rw [←hwr,←hhx];exact heap_alloc_new _ _)
      have S53:=hZ ((uZ S52).below b)
      have HBQ_53:=bx_be HBQ_52 b
      have HBB_53:=bx_be HBB_52 b
      have HKa_53:=hZ ((uZ HKa_52).beside (Beside.of_below (gr:=c.g) b) (by omega))
      clear b S52 HBQ_52 HBB_52 HKa_52
      have hkl:=(uZ HKa_53).own
      rw [hlna] at hkl
      have HKL:=hZ hkl
      have HKE:=hZ ((uZ HKa_53).ok.le)
      clear hkl
      have tokA:True:=trivial
      go_upto_region 12 with (first|(at_builtin;have _t:=tokA;refine wpl_appM 1 rfl (.tmp 41) (.tmp 47) rfl (Q+1) (.slice ak na ck) na _ rfl (uZ HKL) hx #[.int .i64 3,.string (bA tt),.int .i64 0,.int .i64 0,.string ⟨#[]⟩,.slice none 0 0,.slice none 0 0,.bool false,.slice none 0 0,.int .i64 (pt:Int)] rfl (uZ at4) rfl (ndC_one 3 tt 0 0 [] false 0 none 0 pt) (by decide) (by omega) (uZ HKE) ?_;clear tokA;intro gq53 cp53 w54 H5;have HB5:=push_box (uZ HBQ_53) (uZ HKa_53) (by omega) (uZ H5).2.1;have f8:=frozen_of_row w54 Q 8 _ _ HB5;have c8:=(row_cell10 HB5).2.2.2.2.2.2.2.2.1;clear HB5))
      have P:=push_all (uZ S53) ltQ (uZ HBQ_53) (uZ HKa_53) (NdOk.leaf (w:=w53) (Nat.le_refl _) 3 tt 0 0 [] false pt) (by omega) ((uZ HKa_53).ok.le) ((uZ HKa_53).vlt rfl) H5 (by rw [List.length_append,hlna];rfl)
      obtain⟨w55,hw⟩:∃zz,w54.setCell ⟨Q,8,none⟩ (.slice (some ⟨gq53,0,none⟩) (na+1) cp53)=zz:=⟨_,rfl⟩
      rw [hw] at P ⊢
      obtain⟨S55,HBQ_55,HKn_55⟩:=P
      have hlnn:(acc++([nd0 3 tt [] pt])).length=na+1:=by rw [List.length_append,hlna];rfl
      clear hw H5 HKL HKE at4 hwr hhx f8 c8 Kc8 S53 HBQ_53 HBB_53 HKa_53
      clear Bc0 Bc1 Bc2 Bc3
      rcases Bool.eq_false_or_eq_true (isQ c.ts 5 [44] sm) with hq2|hq2
      ·have HJ64:=hZ ((by have:=(uZ HJ63);rw [if_pos hq2] at this;exact this))
       clear HJ63
       have CC:=hZ ((by have:=signq_any (uZ S55).rd [44];rw [hq2] at this;exact this))
       go_wp2_with fail
       refine(uZ CC).mono ?_
       rintro e w56 ⟨rfl,b⟩
       have S56:=hZ ((uZ S55).below b)
       have HBQ_56:=bx_be HBQ_55 b
       have HKn_56:=hZ ((uZ HKn_55).beside (Beside.of_below (gr:=c.g) b) (by omega))
       clear b CC S55 HBQ_55 HKn_55
       have CC:=hZ (next_any (uZ S56).rd)
       go_wp2_with fail
       refine(uZ CC).mono ?_
       rintro e w57 ⟨rfl,r2,b⟩
       have S57:=hZ ((uZ S56).go (d':=0) b r2)
       have HBQ_57:=bx_go HBQ_56 b (by omega)
       have HKn_57:=hZ ((uZ HKn_56).beside b (by omega))
       clear b r2 CC S56 HBQ_56 HKn_56
       go_wp2_with fail
       go_roundg g1
       case measure=>omega
       case rel=>exact⟨acc++[nd0 3 tt [] pt],nxQ c.ts sm,na+1,some ⟨gq53,0,none⟩,cp53,_,_,hZ ⟨by omega,(uZ HJ64),hlnn,by omega⟩,hZ ⟨uZ S57,uZ HBQ_57,uZ HKn_57⟩⟩
      ·have HJ64:=hZ ((by have:=(uZ HJ63);rw [if_neg (by rw [hq2];decide)] at this;exact this))
       clear HJ63
       have CC:=hZ ((by have:=signq_any (uZ S55).rd [44];rw [hq2] at this;exact this))
       go_wp2_with fail
       refine(uZ CC).mono ?_
       rintro e w56 ⟨rfl,b⟩
       have S56:=hZ ((uZ S55).below b)
       have HBQ_56:=bx_be HBQ_55 b
       have HKn_56:=hZ ((uZ HKn_55).beside (Beside.of_below (gr:=c.g) b) (by omega))
       clear b CC S55 HBQ_55 HKn_55
       have HY2:=okq_some (uZ HJ64)
       injection HY2 with hy1 hy2
       subst hy1 hy2
       go_wp2_with fail
       go_meet
       exact⟨na+1,some ⟨gq53,0,none⟩,cp53,_,_,hlnn,by omega,hZ ⟨uZ S56,uZ HBQ_56,uZ HKn_56⟩⟩
     ·have HJ62:=hZ ((by have:=(uZ HJ61);rw [if_neg he] at this;exact this))
      clear HJ61
      have he0:¬((sa.e:Nat):Int)=0:=by omega
      have he1:(((sa.e:Nat):Int) == 0)=false:=beq_eq_false_iff_ne.2 he0
      have ec:=(uZ S50).rd.cells.2.2.2.1
      have HY2:=okq_some (uZ HJ62)
      injection HY2 with hy1 hy2
      subst hy1 hy2
      go_wp2_with fail
      go_meet
      exact⟨na,ak,ck,_,_,hlna,by omega,hZ ⟨uZ S50,uZ HBQ_50,uZ HKa_50⟩⟩
   case rest=>
    clear S35 HBQ_35 HKa_35 hlna HY
    obtain⟨na,ak,ck,Ca,Sa,hlna,hbna,HI⟩:=hcut
    obtain⟨w40,hw40⟩:∃zz,zz=wc:=⟨_,rfl⟩
    subst hw40
    have S40:=hZ (uZ HI).1
    have HBQ_40:=hZ (uZ HI).2.1
    have HKa_40:=hZ (uZ HI).2.2
    clear HI
    obtain⟨⟨ke,te,ne,pe⟩,ht⟩:∃zz,(muQ c.ts 5 [41] s9).1=zz:=⟨_,rfl⟩
    have HTe:=hZ ht
    clear ht
    have CC:=hZ ((by have:=must_any (uZ S40).rd 5 [41];rw [uZ HTe] at this;simp only [tkA] at this;exact this))
    go_wp2_with fail
    refine(uZ CC).mono ?_
    rintro e w41 ⟨rfl,r2,b⟩
    have S41:=hZ ((uZ S40).go (d':=0) b r2)
    have HBQ_41:=bx_go HBQ_40 b (by omega)
    have HKa_41:=hZ ((uZ HKa_40).beside b (by omega))
    clear b r2 CC S40 HBQ_40 HKa_40
    obtain⟨s6,hs⟩:∃zz,(muQ c.ts 5 [41] s9).2=zz:=⟨_,rfl⟩
    rw [hs] at S41 HJ6
    clear hs
    obtain⟨nsx,sx,hy,hth⟩:=bq_some (uZ HJ6)
    have HJ7:=hZ (hth)
    clear HJ6
    clear hth
    have CR:=hZ (ihb hy (uZ S41).rd)
    clear hy
    go_wp2_with fail
    refine(uZ CR).mono ?_
    rintro e w42 ⟨kx,tx,vkx,vnx,vsx,fx,nx,akx,ckx,px,Zx,rfl,hlx,hn,r2,b⟩
    simp only [] at hlx hn r2
    have S42:=hZ ((uZ S41).go (d':=0) b r2)
    have HBQ_42:=bx_go HBQ_41 b (by omega)
    have HKa_42:=hZ ((uZ HKa_41).beside b (by omega))
    obtain⟨lox,hlo⟩:∃zz,w41.heap.size=zz:=⟨_,rfl⟩
    have ltlox:w.heap.size<lox:=by rw [←hlo];exact(uZ S41).lt
    have lqQ_x:Q<lox:=by rw [←hlo];exact(Array.getElem?_eq_some_iff.1 (uZ HBQ_41)).1
    have HWa_x:=hZ ((uZ HKa_41).vlt hlo)
    have lea_x:=(uZ HKa_41).ok.le
    rw [hlo] at lea_x
    rw [hlo] at hn
    have HNx_42:=hZ hn
    clear hlo b r2 hn CR S41 HBQ_41 HKa_41
    go_upto_region 17 with fail
    obtain⟨w43,hw⟩:∃zz,w42.alloc (.cells #[.int .i64 (kx:Int),.string (bA tx),.int .i64 (vkx:Int),.int .i64 (vnx:Int),.string (bA vsx),.slice none 0 0,.slice none 0 0,.bool fx,.slice akx nx ckx,.int .i64 (px:Int)] 29)=zz:=⟨_,rfl⟩
    have b:Below w42.heap.size w42 w43:=by rw [←hw];exact(Below.refl _ _).alloc (Nat.le_refl _) _
    obtain⟨X,hQ⟩:∃zz,w42.heap.size=zz:=⟨_,rfl⟩
    have HBX_43:Hid (w43.heap[X]?=some (.cells #[.int .i64 (kx:Int),.string (bA tx),.int .i64 (vkx:Int),.int .i64 (vnx:Int),.string (bA vsx),.slice none 0 0,.slice none 0 0,.bool fx,.slice akx nx ckx,.int .i64 (px:Int)] 29 (0,0))):=hZ (by rw [←hw,←hQ];exact heap_alloc_new _ _)
    have S43:=hZ ((uZ S42).below b)
    have HBQ_43:=bx_be HBQ_42 b
    have HKa_43:=hZ ((uZ HKa_42).beside (Beside.of_below (gr:=c.g) b) (by omega))
    have HNx_43:=hZ ((uZ HNx_42).beside (Beside.of_below (gr:=c.g) b) (by omega))
    have lQ_X:Q<X:=by rw [←hQ];exact(Array.getElem?_eq_some_iff.1 (uZ HBQ_42)).1
    have APa_X:=hZ ((uZ HKa_42).fresh hQ)
    have ANx_X:=hZ ((uZ HNx_42).fresh hQ)
    have ltX:w.heap.size<X:=by rw [←hQ];exact(uZ S42).lt
    rw [hw]
    try rw [hQ]
    clear hw hQ b S42 HBQ_42 HKa_42 HNx_42
    obtain⟨Xo0,Xo1,Xo2,Xo3,Xo4,Xo5,Xo6,Xo7,Xo8,Xo9⟩:=row_cell10 (uZ HBX_43)
    have Kc8:=(row_cell10 (uZ HBQ_43)).2.2.2.2.2.2.2.2.1
    obtain⟨w44,hwr⟩:∃zz,w43.alloc (.cells #[.int .i64 (kx:Int),.string (bA tx),.int .i64 (vkx:Int),.int .i64 (vnx:Int),.string (bA vsx),.slice none 0 0,.slice none 0 0,.bool fx,.slice akx nx ckx,.int .i64 (px:Int)] 29)=zz:=⟨_,rfl⟩
    have b:Below w43.heap.size w43 w44:=by rw [←hwr];exact(Below.refl _ _).alloc (Nat.le_refl _) _
    obtain⟨hx,hhx⟩:∃zz,w43.heap.size=zz:=⟨_,rfl⟩
    have at4:Hid (w44.heap[hx]?=some (.cells #[.int .i64 (kx:Int),.string (bA tx),.int .i64 (vkx:Int),.int .i64 (vnx:Int),.string (bA vsx),.slice none 0 0,.slice none 0 0,.bool fx,.slice akx nx ckx,.int .i64 (px:Int)] 29 (0,0))):=hZ (by rw [←hwr,←hhx];exact heap_alloc_new _ _)
    have S44:=hZ ((uZ S43).below b)
    have HBQ_44:=bx_be HBQ_43 b
    have HBX_44:=bx_be HBX_43 b
    have HKa_44:=hZ ((uZ HKa_43).beside (Beside.of_below (gr:=c.g) b) (by omega))
    have HNx_44:=hZ ((uZ HNx_43).beside (Beside.of_below (gr:=c.g) b) (by omega))
    clear b S43 HBQ_43 HBX_43 HKa_43 HNx_43
    have hkl:=(uZ HKa_44).own
    rw [hlna] at hkl
    have HKL:=hZ hkl
    have HKE:=hZ ((uZ HKa_44).ok.le)
    clear hkl
    have tokA:True:=trivial
    go_upto_region 18 with (first|(at_builtin;have _t:=tokA;refine wpl_appM 1 rfl (.tmp 61) (.tmp 63) rfl (Q+1) (.slice ak na ck) na _ rfl (uZ HKL) hx #[.int .i64 (kx:Int),.string (bA tx),.int .i64 (vkx:Int),.int .i64 (vnx:Int),.string (bA vsx),.slice none 0 0,.slice none 0 0,.bool fx,.slice akx nx ckx,.int .i64 (px:Int)] rfl (uZ at4) rfl (ndC_one _ _ _ _ _ _ _ _ _ _) (by decide) (by omega) (uZ HKE) ?_;clear tokA;intro gq44 cp44 w45 H5;have HB5:=push_box (uZ HBQ_44) (uZ HKa_44) (by omega) (uZ H5).2.1;have f8:=frozen_of_row w45 Q 8 _ _ HB5;have c8:=(row_cell10 HB5).2.2.2.2.2.2.2.2.1;clear HB5))
    have P:=push_all (uZ S44) ltQ (uZ HBQ_44) (uZ HKa_44) (uZ HNx_44) (by omega) (by omega) (uZ HWa_x) H5 (by rw [List.length_append,hlx,hlna])
    obtain⟨w46,hw⟩:∃zz,w45.setCell ⟨Q,8,none⟩ (.slice (some ⟨gq44,0,none⟩) (na+1) cp44)=zz:=⟨_,rfl⟩
    rw [hw] at P ⊢
    obtain⟨S46,HBQ_46,HKn_46⟩:=P
    have hlnn:(ps9++(nsx)).length=na+1:=by rw [List.length_append,hlx,hlna]
    clear hw H5 HKL HKE at4 hwr hhx f8 c8 Kc8 S44 HBQ_44 HBX_44 HKa_44 HNx_44 Xo0 Xo1 Xo2 Xo3 Xo4 Xo5 Xo6 Xo7 Xo8 Xo9
    have hr1:=okq_some (uZ HJ7)
    have hnn:=(uZ HKn_46).node' hlnn 2 tb 0 0 [] bf p
    have HR:=hZ (hr1)
    have BX:=(uZ S46).bx
    rw [hG] at BX
    obtain⟨g0,g1,g2,g3,g4,g5,g6,g7,g8,g9⟩:=row_cell10 BX
    obtain⟨z0,z1,z2,z3,z4,z5,z6,z7,z8,z9⟩:=frozen10 BX
    clear BX
    obtain⟨Qc0,Qc1,Qc2,Qc3,Qc4,Qc5,Qc6,Qc7,Qc8,Qc9⟩:=row_cell10 (uZ HBQ_46)
    have FF:=hZ (Sq.done (uZ S46) (hnn.low (by omega)) rfl hG)
    go_wp2_with fail
    refine bodyPost_ret (ret_c1 (p:=2) (T:=29) rfl _ _ G _ _ _ rfl (uZ FF).1 Tryz.underlying29 rfl size_nd) rfl ?_
    rw [uZ HR]
    exact(uZ FF).2
theorem below_drewQ {B:Nat} {a w:World} (h:Below B a w) (q:Nat):Below B a (w.drewN q):=⟨h.os,h.tape,h.output,h.size,h.block⟩
theorem tk1_at {T:List Tk} {σ:Sg} (h:σ.i+1<T.length):T[σ.i+1]?=some (tk1 T σ):=tkQ_at (σ:=⟨σ.i+1,σ.o,σ.e,σ.a⟩) h
set_option maxRecDepth 100000 in
set_option maxHeartbeats 4000000 in
theorem setsq_any {c:Cx} {σ:Sg} {w:World} (h:Rq w c σ) :
  Calls Tryz.prog 90 #[.pointer (some ⟨c.g,0,none⟩)] w fun e w'=>e=.returned (.bool (setQ c.ts σ))∧Below w.heap.size w w':=by
 have CP:=hZ (isq_any h 1 [])
 have HQ:=hZ h
 obtain⟨R,hR⟩:∃R,setQ c.ts σ=R:=⟨_,rfl⟩
 rw [hR]
 have HR:=hZ hR
 clear h hR
 rcases Bool.eq_false_or_eq_true (isQ c.ts 1 [] σ) with hn|hn
 ·rw [hn] at CP
  go_enter Tryz.func90,Tryz.ntmps90
  go_wp2_with fail
  refine(uZ CP).mono ?_
  rintro e w1 ⟨rfl,b1⟩
  have H1:=hZ ((uZ HQ).below b1)
  have HB:=hZ b1
  clear b1 CP
  have c0:=(uZ H1).cells.1
  have c1:=(uZ H1).cells.2.1
  have hln:=(uZ H1).len
  have hcp:=(uZ H1).cap
  have hix:=(uZ H1).ix
  obtain⟨i,hi0⟩:∃i,σ.i=i:=⟨_,rfl⟩
  obtain⟨N,hN⟩:∃N,c.ts.length=N:=⟨_,rfl⟩
  rw [hi0] at c1 hix
  rw [hN] at c0 hln hcp hix
  have j2:IntKind.i64.wrap ((i:Int)+1)=(i:Int)+1:=by rw [IntKind.wrap_i64];omega
  by_cases hi:i+1<N
  ·have hnx:=tk1_at (T:=c.ts) (σ:=σ) (by rw [hN,hi0];exact hi)
   obtain⟨bb,eb,hb1,u0,u1,u2,u3⟩:=(uZ H1).row _ _ hnx
   injection eb with eb
   injection eb with eb
   subst eb
   obtain⟨⟨k2,t2,n2,p2⟩,ht2⟩:∃t,tk1 c.ts σ=t:=⟨_,rfl⟩
   rw [ht2,hi0] at u0 u1 u2 u3
   simp only [] at u0 u1 u2 u3
   have hRR:R=decide (k2=5∧t2=[61]):=by
    rw [←uZ HR]
    unfold setQ
    rw [ht2,hi0,hN,hn]
    exact decide_eq_decide.2 ⟨fun e=>e.2.2,fun e=>⟨rfl,hi,e⟩⟩
   have j1:(i:Int)+1<(N:Int):=by omega
   have j0:(0:Int)≤(i:Int)+1:=by omega
   have j3:¬(N:Int)≤(i:Int)+1:=by omega
   obtain⟨o,ho⟩:∃zz,(i+1) * 4=zz:=⟨_,rfl⟩
   have ra1:=add_row c.tb ((i+1) * 4)
   rw [ho] at ra1 u0 u1 u2 u3
   have jt:((i:Int)+1).toNat=i+1:=by omega
   have HRR:=hZ hRR
   clear hRR HR hnx ht2 hn hi0 hN hb1 H1 HQ
   go_wp2_with fail
   go_quiet (fail)
   go_upto_region 4 with fail
   obtain⟨w2,hw2⟩:∃zz,(w1.drewN (nq+1)).alloc (.cells #[.int .i64 0,.string ⟨#[]⟩,.int .i64 0,.int .i64 0] 52)=zz:=⟨_,rfl⟩
   obtain⟨P,hP⟩:∃zz,w1.heap.size=zz:=⟨_,rfl⟩
   have A1:w2.heap[P]?=some (.cells #[.int .i64 0,.string ⟨#[]⟩,.int .i64 0,.int .i64 0] 52 (0,0)):=by rw [←hw2,←hP];exact heap_alloc_new (w1.drewN (nq+1)) _
   have B1:Below w1.heap.size w1 w2:=by rw [←hw2];exact(below_drewQ (Below.refl _ _) _).alloc (Nat.le_refl _) _
   have HB2:=hZ ((uZ HB).trans (B1.mono (uZ HB).size))
   have d0:=cell_later B1 c0
   have d1:=cell_later B1 c1
   have v0:=cell_later B1 u0
   have v1:=cell_later B1 u1
   have v2:=cell_later B1 u2
   have v3:=cell_later B1 u3
   obtain⟨a0,a1,a2,a3⟩:=row_cell4 A1
   have y0:=frozen_of_row w2 P 0 _ _ A1
   have y1:=frozen_of_row w2 P 1 _ _ A1
   have y2:=frozen_of_row w2 P 2 _ _ A1
   have y3:=frozen_of_row w2 P 3 _ _ A1
   have D:=set4 A1 (.int .i64 (k2:Int)) (.string (bA t2)) (.int .i64 (n2:Int)) (.string ⟨#[]⟩)
   have hPw:w.heap.size≤P:=by rw [←hP];exact(uZ HB).size
   have HA:=hZ A1
   clear D A1 B1
   go_region
   go_upto_region 5 with fail
   try rw [hw2]
   try rw [hP]
   have D:=set4 (uZ HA) (.int .i64 (k2:Int)) (.string (bA t2)) (.int .i64 (n2:Int)) (.int .i64 (p2:Int))
   have HB3:=hZ (set4_below (uZ HB2) hPw (.int .i64 (k2:Int)) (.string (bA t2)) (.int .i64 (n2:Int)) (.int .i64 (p2:Int)))
   obtain⟨w3,hw3⟩:∃zz,((((w2.setCell ⟨P,0,none⟩ (.int .i64 (k2:Int))).setCell ⟨P,1,none⟩ (.string (bA t2))).setCell ⟨P,2,none⟩ (.int .i64 (n2:Int))).setCell ⟨P,3,none⟩ (.int .i64 (p2:Int)))=zz:=⟨_,rfl⟩
   rw [hw3] at D HB3 ⊢
   obtain⟨q0,q1,q2,q3⟩:=row_cell4 D
   clear d0 d1 v0 v1 v2 v3 a0 a1 a2 a3 y0 y1 y2 y3 hw2 hw3 D HA HB2 u0 u1 u2 u3 c0 c1
   by_cases hk:k2=5
   ·subst hk
    by_cases ht:t2=[61]
    ·subst ht
     have pe:(bA [61]).toList=[61]:=bA_list _
     go_wp2_with fail
     go_ret
     exact⟨by rw [uZ HRR];rfl,uZ HB3⟩
    ·have ne:((bA t2).toList == [61])=false:=beq_eq_false_iff_ne.2 (fun e=>ht (by rw [bA_list] at e;exact e))
     have hz:decide (5=5∧t2=[61])=false:=decide_eq_false (fun e=>ht e.2)
     go_wp2_with fail
     go_ret
     exact⟨by rw [uZ HRR,hz];rfl,uZ HB3⟩
   ·have n1:¬(k2:Int)=5:=by omega
    have n2':((k2:Int) == 5)=false:=beq_eq_false_iff_ne.2 n1
    have hz:decide (k2=5∧t2=[61])=false:=decide_eq_false (fun e=>hk e.1)
    go_wp2_with fail
    go_ret
    exact⟨by rw [uZ HRR,hz];rfl,uZ HB3⟩
  ·have e1:R=false:=by
    rw [←uZ HR]
    unfold setQ
    exact decide_eq_false (fun e=>by have:=e.2.1;rw [hN,hi0] at this;exact hi this)
   have j3:(N:Int)≤(i:Int)+1:=by omega
   subst e1
   clear HR hn hi0 hN H1 HQ
   go_wp2_with fail
   go_quiet (fail)
   go_wp2_with fail
   go_ret
   exact⟨rfl,below_drewQ (uZ HB) _⟩
 ·have e1:R=false:=by
   rw [←uZ HR]
   unfold setQ
   rw [hn]
   exact decide_eq_false (fun e=>by cases e.1)
  rw [hn] at CP
  subst e1
  clear HR
  go_enter Tryz.func90,Tryz.ntmps90
  go_wp2_with fail
  refine(uZ CP).mono ?_
  rintro e w1 ⟨rfl,b1⟩
  have HB:=hZ b1
  clear b1 CP
  go_wp2_with fail
  go_quiet (fail)
  go_wp2_with fail
  go_ret
  exact⟨rfl,below_drewQ (uZ HB) _⟩
end Go.Proofs.YtilhlmmcdfoaoaaGreatDoor
