/-
  Layer 17 (parse): the document's reader: blocks, programs; conditions: the reader's state.
-/
import Derived.Test.YtilhlmmcdfoaoaaGreatDoorE19
import Derived.Deep.LoopGhost
set_option linter.unusedVariables false
set_option linter.unusedSimpArgs false
namespace Go.Proofs.YtilhlmmcdfoaoaaGreatDoor
open Go.RowKit
set_option linter.unusedVariables false
set_option linter.unusedSimpArgs false
set_option maxRecDepth 100000 in
set_option maxHeartbeats 4000000 in
theorem blockq_step {c:Cx} {σ:Sg} {w:World} {r:List Nd × Sg} {F f:Nat} (hf:f≤500000) (ihs:∀{f1:Nat},f1≤f→∀{c:Cx} {σ:Sg} {w:World} {r:List Nd × Sg},RS c.ts F f1 6 0 [] σ=some r→Rq w c σ→Calls Tryz.prog 68 #[.pointer (some ⟨c.g,0,none⟩)] w fun e w'=>NqP c w r e w') (hJ:RS c.ts F (f+1) 4 0 [] σ=some r) (h:Rq w c σ) :
  Calls Tryz.prog 48 #[.pointer (some ⟨c.g,0,none⟩)] w fun e w'=>NqP c w r e w':=by
 have S1:=hZ (Sq.start (d:=0) h 29 #[.int .i64 0,.string ⟨#[]⟩,.int .i64 0,.int .i64 0,.string ⟨#[]⟩,.slice none 0 0,.slice none 0 0,.bool false,.slice none 0 0,.int .i64 0])
 obtain⟨w1,hw1⟩:∃w1,w.alloc (.cells #[.int .i64 0,.string ⟨#[]⟩,.int .i64 0,.int .i64 0,.string ⟨#[]⟩,.slice none 0 0,.slice none 0 0,.bool false,.slice none 0 0,.int .i64 0] 29)=w1:=⟨_,rfl⟩
 rw [hw1] at S1
 obtain⟨G,hG⟩:∃G,w.heap.size=G:=⟨_,rfl⟩
 have hgw:c.g<w.heap.size:=h.frz.2.2.2.2
 clear h
 go_enter Tryz.func48,Tryz.ntmps48
 have HJ0:=hZ (show sBlock c.ts (RS c.ts F f) σ=some r from hJ)
 clear hJ
 have HJ1:=hZ ((by have:=uZ HJ0;unfold sBlock at this;exact this))
 clear HJ0
 obtain⟨⟨k,t,n,p⟩,ht⟩:∃zz,tkQ c.ts σ=zz:=⟨_,rfl⟩
 have HT:=hZ ht
 clear ht
 have HJ2:=hZ ((by have:=(uZ HJ1);rw [uZ HT] at this;simp only [] at this;exact this))
 clear HJ1
 have CC:=hZ ((by have:=peek_any (uZ S1).rd;rw [uZ HT] at this;simp only [tkA] at this;exact this))
 go_wp2_with fail
 refine(uZ CC).mono ?_
 rintro e w2 ⟨rfl,b⟩
 have S2:=hZ ((uZ S1).below b)
 clear b CC S1
 go_upto_region 2 with (first|(refine wpl_tk3 rfl _ rfl _ _ _ _ rfl ?_)|(refine wpl_tk1 rfl _ rfl _ _ _ _ rfl ?_)|(refine wpl_tk0 rfl _ rfl _ _ _ _ rfl ?_))
 obtain⟨w3,hw⟩:∃zz,w2.alloc (.cells #[.int .i64 4,.string ⟨#[]⟩,.int .i64 0,.int .i64 0,.string ⟨#[]⟩,.slice none 0 0,.slice none 0 0,.bool false,.slice none 0 0,.int .i64 (p:Int)] 29)=zz:=⟨_,rfl⟩
 have b:Below w2.heap.size w2 w3:=by rw [←hw];exact(Below.refl _ _).alloc (Nat.le_refl _) _
 obtain⟨Q,hQ⟩:∃zz,w2.heap.size=zz:=⟨_,rfl⟩
 have HBQ_3:Hid (w3.heap[Q]?=some (.cells #[.int .i64 4,.string ⟨#[]⟩,.int .i64 0,.int .i64 0,.string ⟨#[]⟩,.slice none 0 0,.slice none 0 0,.bool false,.slice none 0 0,.int .i64 (p:Int)] 29 (0,0))):=hZ (by rw [←hw,←hQ];exact heap_alloc_new _ _)
 have S3:=hZ ((uZ S2).below b)
 have ltQ:w.heap.size<Q:=by rw [←hQ];exact(uZ S2).lt
 rw [hw]
 try rw [hQ]
 clear hw hQ b S2
 rcases Bool.eq_false_or_eq_true (isQ c.ts 5 [123] σ) with hq|hq
 ·have HJ3:=hZ ((by have:=(uZ HJ2);rw [if_pos hq] at this;exact this))
  clear HJ2
  have CC:=hZ ((by have:=signq_any (uZ S3).rd [123];rw [hq] at this;exact this))
  go_wp2_with fail
  refine(uZ CC).mono ?_
  rintro e w4 ⟨rfl,b⟩
  have S4:=hZ ((uZ S3).below b)
  have HBQ_4:=bx_be HBQ_3 b
  clear b CC S3 HBQ_3
  obtain⟨⟨kz,tz,nz,pz⟩,ht⟩:∃zz,(opQ c.ts σ).1=zz:=⟨_,rfl⟩
  have HTz:=hZ ht
  clear ht
  have CC:=hZ ((by have:=opens_any (uZ S4).rd;rw [uZ HTz] at this;simp only [tkA] at this;exact this))
  go_wp2_with fail
  refine(uZ CC).mono ?_
  rintro e w5 ⟨rfl,r2,b⟩
  have S5:=hZ ((uZ S4).go (d':=0) b r2)
  have HBQ_5:=bx_go HBQ_4 b (by omega)
  clear b r2 CC S4 HBQ_4
  obtain⟨ks9,s9,hY,hth⟩:=bq_some (uZ HJ3)
  have HJ4:=hZ (hth)
  clear HJ3
  clear hth
  have HY:=hZ hY
  clear hY
  have HKa_5:Hid (Kr (Q+1) w5 [] (.slice none 0 0) [] []):=hZ (Kr.nil (Array.getElem?_eq_some_iff.1 (uZ HBQ_5)).1)
  have hlna:([]:List Nd).length=0:=rfl
  go_wp2_with fail
  go_loopg [] f (fun gk wr=>∃(acc:List Nd) (sa:Sg) (na:Nat) (ak:Option Addr) (ck:Nat) (C:List Value) (Sa:List Nat),Hid (gk≤f∧RS c.ts F gk 5 0 acc sa=some (ks9,s9)∧acc.length=na∧na+gk≤f)∧Hid (Sq w c 29 #[.int .i64 0,.string ⟨#[]⟩,.int .i64 0,.int .i64 0,.string ⟨#[]⟩,.slice none 0 0,.slice none 0 0,.bool false,.slice none 0 0,.int .i64 0] wr sa 0∧wr.heap[Q]?=some (.cells #[.int .i64 4,.string ⟨#[]⟩,.int .i64 0,.int .i64 0,.string ⟨#[]⟩,.slice none 0 0,.slice none 0 0,.bool false,.slice ak na ck,.int .i64 (p:Int)] 29 (0,0))∧Kr (Q+1) wr acc (.slice ak na ck) C Sa))
  case atStart=>exact⟨[],(opQ c.ts σ).2,0,none,0,[],[],hZ ⟨Nat.le_refl _,uZ HY,rfl,by omega⟩,hZ ⟨uZ S5,uZ HBQ_5,uZ HKa_5⟩⟩
  case round=>
   clear HY HKa_5 S5 HBQ_5 hlna
   obtain⟨acc,sa,na,ak,ck,Ca,Sa,HA,HI⟩:=hrel
   obtain⟨w50,hw50⟩:∃zz,zz=wr:=⟨_,rfl⟩
   subst hw50
   have S50:=hZ (uZ HI).1
   have HBQ_50:=hZ (uZ HI).2.1
   have HKa_50:=hZ (uZ HI).2.2
   obtain⟨g1,hg1⟩:=RS_fuel (uZ HA).2.1
   subst hg1
   have HJ60:=hZ (show sBlL c.ts (RS c.ts F g1) acc sa=some (ks9,s9) from (uZ HA).2.1)
   have hlna:=(uZ HA).2.2.1
   have hbnb:=(uZ HA).2.2.2
   have hgf:=(uZ HA).1
   clear HI HA
   have HJ61:=hZ ((by have:=uZ HJ60;unfold sBlL at this;exact this))
   clear HJ60
   rcases Bool.eq_false_or_eq_true (isQ c.ts 5 [125] sa) with hq2|hq2
   ·have HJ62:=hZ ((by have:=(uZ HJ61);rw [if_pos (Or.inl hq2)] at this;exact this))
    clear HJ61
    have CC:=hZ ((by have:=signq_any (uZ S50).rd [125];rw [hq2] at this;exact this))
    go_wp2_with fail
    refine(uZ CC).mono ?_
    rintro e w51 ⟨rfl,b⟩
    have S51:=hZ ((uZ S50).below b)
    have HBQ_51:=bx_be HBQ_50 b
    have HKa_51:=hZ ((uZ HKa_50).beside (Beside.of_below (gr:=c.g) b) (by omega))
    clear b CC S50 HBQ_50 HKa_50
    have HY2:=okq_some (uZ HJ62)
    injection HY2 with hy1 hy2
    have HJ90:=hZ (by have:=uZ HJ4;rw [hy1,hy2] at this;exact this)
    clear HJ62 hy1 hy2
    have CC:=hZ (closes_any (uZ S51).rd [125])
    go_wp2_with fail
    refine(uZ CC).mono ?_
    rintro e w52 ⟨rfl,r2,b⟩
    have S52:=hZ ((uZ S51).go (d':=0) b r2)
    have HBQ_52:=bx_go HBQ_51 b (by omega)
    have HKa_52:=hZ ((uZ HKa_51).beside b (by omega))
    clear b r2 CC S51 HBQ_51 HKa_51
    have hr1:=okq_some (uZ HJ90)
    have hnn:=(uZ HKa_52).node' hlna 4 [] 0 0 [] false p
    have HR:=hZ (hr1)
    have BX:=(uZ S52).bx
    rw [hG] at BX
    obtain⟨g0,g1,g2,g3,g4,g5,g6,g7,g8,g9⟩:=row_cell10 BX
    obtain⟨z0,z1,z2,z3,z4,z5,z6,z7,z8,z9⟩:=frozen10 BX
    clear BX
    obtain⟨Qc0,Qc1,Qc2,Qc3,Qc4,Qc5,Qc6,Qc7,Qc8,Qc9⟩:=row_cell10 (uZ HBQ_52)
    have FF:=hZ (Sq.done (uZ S52) (hnn.low (by omega)) rfl hG)
    go_wp2_with fail
    refine bodyPost_ret (ret_c1 (p:=2) (T:=29) rfl _ _ G _ _ _ rfl (uZ FF).1 Tryz.underlying29 rfl size_nd) rfl ?_
    rw [uZ HR]
    exact(uZ FF).2
   ·have CC:=hZ ((by have:=signq_any (uZ S50).rd [125];rw [hq2] at this;exact this))
    go_wp2_with fail
    refine(uZ CC).mono ?_
    rintro e w51 ⟨rfl,b⟩
    have S51:=hZ ((uZ S50).below b)
    have HBQ_51:=bx_be HBQ_50 b
    have HKa_51:=hZ ((uZ HKa_50).beside (Beside.of_below (gr:=c.g) b) (by omega))
    clear b CC S50 HBQ_50 HKa_50
    by_cases he:sa.e=0
    ·have HJ62:=hZ ((by have:=(uZ HJ61);rw [if_neg (fun e=>e.elim (fun e=>by rw [hq2] at e;exact absurd e (by decide)) (fun e=>e he))] at this;exact this))
     clear HJ61
     have he0:((sa.e:Nat):Int)=0:=by omega
     have ec:=(uZ S51).rd.cells.2.2.2.1
     rw [he0] at ec
     obtain⟨nsx,sx,hy,hth⟩:=bq_some (uZ HJ62)
     have HJ63:=hZ (hth)
     clear HJ62
     clear hth
     have CR:=hZ (ihs (f1:=g1) (by omega) hy (uZ S51).rd)
     clear hy
     go_wp2_with fail
     refine(uZ CR).mono ?_
     rintro e w52 ⟨kx,tx,vkx,vnx,vsx,fx,nx,akx,ckx,px,Zx,rfl,hlx,hn,r2,b⟩
     simp only [] at hlx hn r2
     have S52:=hZ ((uZ S51).go (d':=0) b r2)
     have HBQ_52:=bx_go HBQ_51 b (by omega)
     have HKa_52:=hZ ((uZ HKa_51).beside b (by omega))
     obtain⟨lox,hlo⟩:∃zz,w51.heap.size=zz:=⟨_,rfl⟩
     have ltlox:w.heap.size<lox:=by rw [←hlo];exact(uZ S51).lt
     have lqQ_x:Q<lox:=by rw [←hlo];exact(Array.getElem?_eq_some_iff.1 (uZ HBQ_51)).1
     have HWa_x:=hZ ((uZ HKa_51).vlt hlo)
     have lea_x:=(uZ HKa_51).ok.le
     rw [hlo] at lea_x
     rw [hlo] at hn
     have HNx_52:=hZ hn
     clear hlo b r2 hn CR S51 HBQ_51 HKa_51
     go_upto_region 10 with fail
     obtain⟨w53,hw⟩:∃zz,w52.alloc (.cells #[.int .i64 (kx:Int),.string (bA tx),.int .i64 (vkx:Int),.int .i64 (vnx:Int),.string (bA vsx),.slice none 0 0,.slice none 0 0,.bool fx,.slice akx nx ckx,.int .i64 (px:Int)] 29)=zz:=⟨_,rfl⟩
     have b:Below w52.heap.size w52 w53:=by rw [←hw];exact(Below.refl _ _).alloc (Nat.le_refl _) _
     obtain⟨X,hQ⟩:∃zz,w52.heap.size=zz:=⟨_,rfl⟩
     have HBX_53:Hid (w53.heap[X]?=some (.cells #[.int .i64 (kx:Int),.string (bA tx),.int .i64 (vkx:Int),.int .i64 (vnx:Int),.string (bA vsx),.slice none 0 0,.slice none 0 0,.bool fx,.slice akx nx ckx,.int .i64 (px:Int)] 29 (0,0))):=hZ (by rw [←hw,←hQ];exact heap_alloc_new _ _)
     have S53:=hZ ((uZ S52).below b)
     have HBQ_53:=bx_be HBQ_52 b
     have HKa_53:=hZ ((uZ HKa_52).beside (Beside.of_below (gr:=c.g) b) (by omega))
     have HNx_53:=hZ ((uZ HNx_52).beside (Beside.of_below (gr:=c.g) b) (by omega))
     have lQ_X:Q<X:=by rw [←hQ];exact(Array.getElem?_eq_some_iff.1 (uZ HBQ_52)).1
     have APa_X:=hZ ((uZ HKa_52).fresh hQ)
     have ANx_X:=hZ ((uZ HNx_52).fresh hQ)
     have ltX:w.heap.size<X:=by rw [←hQ];exact(uZ S52).lt
     rw [hw]
     try rw [hQ]
     clear hw hQ b S52 HBQ_52 HKa_52 HNx_52
     obtain⟨Xo0,Xo1,Xo2,Xo3,Xo4,Xo5,Xo6,Xo7,Xo8,Xo9⟩:=row_cell10 (uZ HBX_53)
     have Kc8:=(row_cell10 (uZ HBQ_53)).2.2.2.2.2.2.2.2.1
     obtain⟨w54,hwr⟩:∃zz,w53.alloc (.cells #[.int .i64 (kx:Int),.string (bA tx),.int .i64 (vkx:Int),.int .i64 (vnx:Int),.string (bA vsx),.slice none 0 0,.slice none 0 0,.bool fx,.slice akx nx ckx,.int .i64 (px:Int)] 29)=zz:=⟨_,rfl⟩
     have b:Below w53.heap.size w53 w54:=by rw [←hwr];exact(Below.refl _ _).alloc (Nat.le_refl _) _
     obtain⟨hx,hhx⟩:∃zz,w53.heap.size=zz:=⟨_,rfl⟩
     have at4:Hid (w54.heap[hx]?=some (.cells #[.int .i64 (kx:Int),.string (bA tx),.int .i64 (vkx:Int),.int .i64 (vnx:Int),.string (bA vsx),.slice none 0 0,.slice none 0 0,.bool fx,.slice akx nx ckx,.int .i64 (px:Int)] 29 (0,0))):=hZ (by rw [←hwr,←hhx];exact heap_alloc_new _ _)
     have S54:=hZ ((uZ S53).below b)
     have HBQ_54:=bx_be HBQ_53 b
     have HBX_54:=bx_be HBX_53 b
     have HKa_54:=hZ ((uZ HKa_53).beside (Beside.of_below (gr:=c.g) b) (by omega))
     have HNx_54:=hZ ((uZ HNx_53).beside (Beside.of_below (gr:=c.g) b) (by omega))
     clear b S53 HBQ_53 HBX_53 HKa_53 HNx_53
     have hkl:=(uZ HKa_54).own
     rw [hlna] at hkl
     have HKL:=hZ hkl
     have HKE:=hZ ((uZ HKa_54).ok.le)
     clear hkl
     have tokA:True:=trivial
     go_wp2_with (first|(at_builtin;have _t:=tokA;refine wpl_appM 1 rfl (.tmp 33) (.tmp 35) rfl (Q+1) (.slice ak na ck) na _ rfl (uZ HKL) hx #[.int .i64 (kx:Int),.string (bA tx),.int .i64 (vkx:Int),.int .i64 (vnx:Int),.string (bA vsx),.slice none 0 0,.slice none 0 0,.bool fx,.slice akx nx ckx,.int .i64 (px:Int)] rfl (uZ at4) rfl (ndC_one _ _ _ _ _ _ _ _ _ _) (by decide) (by omega) (uZ HKE) ?_;clear tokA;intro gq54 cp54 w55 H5;have HB5:=push_box (uZ HBQ_54) (uZ HKa_54) (by omega) (uZ H5).2.1;have f8:=frozen_of_row w55 Q 8 _ _ HB5;have c8:=(row_cell10 HB5).2.2.2.2.2.2.2.2.1;clear HB5))
     have P:=push_all (uZ S54) ltQ (uZ HBQ_54) (uZ HKa_54) (uZ HNx_54) (by omega) (by omega) (uZ HWa_x) H5 (by rw [List.length_append,hlx,hlna])
     obtain⟨w56,hw⟩:∃zz,w55.setCell ⟨Q,8,none⟩ (.slice (some ⟨gq54,0,none⟩) (na+1) cp54)=zz:=⟨_,rfl⟩
     rw [hw] at P ⊢
     obtain⟨S56,HBQ_56,HKn_56⟩:=P
     have hlnn:(acc++(nsx)).length=na+1:=by rw [List.length_append,hlx,hlna]
     clear hw H5 HKL HKE at4 hwr hhx f8 c8 Kc8 S54 HBQ_54 HBX_54 HKa_54 HNx_54 Xo0 Xo1 Xo2 Xo3 Xo4 Xo5 Xo6 Xo7 Xo8 Xo9
     go_roundg g1
     case measure=>omega
     case rel=>exact⟨acc++nsx,sx,na+1,some ⟨gq54,0,none⟩,cp54,_,_,hZ ⟨by omega,(uZ HJ63),hlnn,by omega⟩,hZ ⟨uZ S56,uZ HBQ_56,uZ HKn_56⟩⟩
    ·have HJ62:=hZ ((by have:=(uZ HJ61);rw [if_pos (Or.inr he)] at this;exact this))
     clear HJ61
     have he0:¬((sa.e:Nat):Int)=0:=by omega
     have he1:(((sa.e:Nat):Int) == 0)=false:=beq_eq_false_iff_ne.2 he0
     have he2:(((sa.e:Nat):Int) != 0)=true:=by simp;omega
     have ec:=(uZ S51).rd.cells.2.2.2.1
     have HY2:=okq_some (uZ HJ62)
     injection HY2 with hy1 hy2
     have HJ90:=hZ (by have:=uZ HJ4;rw [hy1,hy2] at this;exact this)
     clear HJ62 hy1 hy2
     have CC:=hZ (closes_any (uZ S51).rd [125])
     go_wp2_with fail
     refine(uZ CC).mono ?_
     rintro e w52 ⟨rfl,r2,b⟩
     have S52:=hZ ((uZ S51).go (d':=0) b r2)
     have HBQ_52:=bx_go HBQ_51 b (by omega)
     have HKa_52:=hZ ((uZ HKa_51).beside b (by omega))
     clear b r2 CC S51 HBQ_51 HKa_51
     have hr1:=okq_some (uZ HJ90)
     have hnn:=(uZ HKa_52).node' hlna 4 [] 0 0 [] false p
     have HR:=hZ (hr1)
     have BX:=(uZ S52).bx
     rw [hG] at BX
     obtain⟨g0,g1,g2,g3,g4,g5,g6,g7,g8,g9⟩:=row_cell10 BX
     obtain⟨z0,z1,z2,z3,z4,z5,z6,z7,z8,z9⟩:=frozen10 BX
     clear BX
     obtain⟨Qc0,Qc1,Qc2,Qc3,Qc4,Qc5,Qc6,Qc7,Qc8,Qc9⟩:=row_cell10 (uZ HBQ_52)
     have FF:=hZ (Sq.done (uZ S52) (hnn.low (by omega)) rfl hG)
     go_wp2_with fail
     refine bodyPost_ret (ret_c1 (p:=2) (T:=29) rfl _ _ G _ _ _ rfl (uZ FF).1 Tryz.underlying29 rfl size_nd) rfl ?_
     rw [uZ HR]
     exact(uZ FF).2
 ·have HJ3:=hZ ((by have:=(uZ HJ2);rw [if_neg (by rw [hq];decide)] at this;exact this))
  clear HJ2
  have CC:=hZ ((by have:=signq_any (uZ S3).rd [123];rw [hq] at this;exact this))
  go_wp2_with fail
  refine(uZ CC).mono ?_
  rintro e w4 ⟨rfl,b⟩
  have S4:=hZ ((uZ S3).below b)
  have HBQ_4:=bx_be HBQ_3 b
  clear b CC S3 HBQ_3
  have CC:=hZ (wrong_any (uZ S4).rd 170)
  go_wp2_with fail
  refine(uZ CC).mono ?_
  rintro e w5 ⟨rfl,r2,b⟩
  have S5:=hZ ((uZ S4).go (d':=0) b r2)
  have HBQ_5:=bx_go HBQ_4 b (by omega)
  clear b r2 CC S4 HBQ_4
  have HKa_5:Hid (Kr (Q+1) w5 [] (.slice none 0 0) [] []):=hZ (Kr.nil (Array.getElem?_eq_some_iff.1 (uZ HBQ_5)).1)
  have hlna:([]:List Nd).length=0:=rfl
  have hr1:=okq_some (uZ HJ3)
  have hnn:=(uZ HKa_5).node' hlna 4 [] 0 0 [] false p
  have HR:=hZ (hr1)
  have BX:=(uZ S5).bx
  rw [hG] at BX
  obtain⟨g0,g1,g2,g3,g4,g5,g6,g7,g8,g9⟩:=row_cell10 BX
  obtain⟨z0,z1,z2,z3,z4,z5,z6,z7,z8,z9⟩:=frozen10 BX
  clear BX
  obtain⟨Qc0,Qc1,Qc2,Qc3,Qc4,Qc5,Qc6,Qc7,Qc8,Qc9⟩:=row_cell10 (uZ HBQ_5)
  have FF:=hZ (Sq.done (uZ S5) (hnn.low (by omega)) rfl hG)
  go_wp2_with fail
  refine bodyPost_ret (ret_c1 (p:=2) (T:=29) rfl _ _ G _ _ _ rfl (uZ FF).1 Tryz.underlying29 rfl size_nd) rfl ?_
  rw [uZ HR]
  exact(uZ FF).2
set_option maxRecDepth 100000 in
set_option maxHeartbeats 4000000 in
theorem progq_step {c:Cx} {σ:Sg} {w:World} {r:List Nd × Sg} {F f:Nat} (hf:f≤500000) (ihf:∀{f1:Nat},f1≤f→∀{c:Cx} {σ:Sg} {w:World} {r:List Nd × Sg},RS c.ts F f1 2 0 [] σ=some r→Rq w c σ→Calls Tryz.prog 24 #[.pointer (some ⟨c.g,0,none⟩)] w fun e w'=>NqP c w r e w') (hJ:RS c.ts F (f+1) 0 0 [] σ=some r) (h:Rq w c σ) :
  Calls Tryz.prog 13 #[.pointer (some ⟨c.g,0,none⟩)] w fun e w'=>NqP c w r e w':=by
 have S1:=hZ (Sq.start (d:=0) h 29 #[.int .i64 0,.string ⟨#[]⟩,.int .i64 0,.int .i64 0,.string ⟨#[]⟩,.slice none 0 0,.slice none 0 0,.bool false,.slice none 0 0,.int .i64 0])
 obtain⟨w1,hw1⟩:∃w1,w.alloc (.cells #[.int .i64 0,.string ⟨#[]⟩,.int .i64 0,.int .i64 0,.string ⟨#[]⟩,.slice none 0 0,.slice none 0 0,.bool false,.slice none 0 0,.int .i64 0] 29)=w1:=⟨_,rfl⟩
 rw [hw1] at S1
 obtain⟨G,hG⟩:∃G,w.heap.size=G:=⟨_,rfl⟩
 have hgw:c.g<w.heap.size:=h.frz.2.2.2.2
 clear h
 go_enter Tryz.func13,Tryz.ntmps13
 have HJ0:=hZ (show bq (RS c.ts F f 1 0 [] σ) (fun ks s1=>okq [nd0 1 [] ks 0] s1)=some r from hJ)
 clear hJ
 go_upto_region 2 with fail
 obtain⟨w2,hw⟩:∃zz,w1.alloc (.cells #[.int .i64 1,.string ⟨#[]⟩,.int .i64 0,.int .i64 0,.string ⟨#[]⟩,.slice none 0 0,.slice none 0 0,.bool false,.slice none 0 0,.int .i64 0] 29)=zz:=⟨_,rfl⟩
 have b:Below w1.heap.size w1 w2:=by rw [←hw];exact(Below.refl _ _).alloc (Nat.le_refl _) _
 obtain⟨Q,hQ⟩:∃zz,w1.heap.size=zz:=⟨_,rfl⟩
 have HBQ_2:Hid (w2.heap[Q]?=some (.cells #[.int .i64 1,.string ⟨#[]⟩,.int .i64 0,.int .i64 0,.string ⟨#[]⟩,.slice none 0 0,.slice none 0 0,.bool false,.slice none 0 0,.int .i64 0] 29 (0,0))):=hZ (by rw [←hw,←hQ];exact heap_alloc_new _ _)
 have S2:=hZ ((uZ S1).below b)
 have ltQ:w.heap.size<Q:=by rw [←hQ];exact(uZ S1).lt
 rw [hw]
 try rw [hQ]
 clear hw hQ b S1
 obtain⟨ks9,s9,hY,hth⟩:=bq_some (uZ HJ0)
 have HJ1:=hZ (hth)
 clear HJ0
 clear hth
 have HY:=hZ hY
 clear hY
 have HKa_2:Hid (Kr (Q+1) w2 [] (.slice none 0 0) [] []):=hZ (Kr.nil (Array.getElem?_eq_some_iff.1 (uZ HBQ_2)).1)
 have hlna:([]:List Nd).length=0:=rfl
 go_wp2_with fail
 go_loopg [] f (fun gk wr=>∃(acc:List Nd) (sa:Sg) (na:Nat) (ak:Option Addr) (ck:Nat) (C:List Value) (Sa:List Nat),Hid (gk≤f∧RS c.ts F gk 1 0 acc sa=some (ks9,s9)∧acc.length=na∧na+gk≤f)∧Hid (Sq w c 29 #[.int .i64 0,.string ⟨#[]⟩,.int .i64 0,.int .i64 0,.string ⟨#[]⟩,.slice none 0 0,.slice none 0 0,.bool false,.slice none 0 0,.int .i64 0] wr sa 0∧wr.heap[Q]?=some (.cells #[.int .i64 1,.string ⟨#[]⟩,.int .i64 0,.int .i64 0,.string ⟨#[]⟩,.slice none 0 0,.slice none 0 0,.bool false,.slice ak na ck,.int .i64 0] 29 (0,0))∧Kr (Q+1) wr acc (.slice ak na ck) C Sa))
 case atStart=>exact⟨[],σ,0,none,0,[],[],hZ ⟨Nat.le_refl _,uZ HY,rfl,by omega⟩,hZ ⟨uZ S2,uZ HBQ_2,uZ HKa_2⟩⟩
 case round=>
  clear HY HKa_2 S2 HBQ_2 hlna
  obtain⟨acc,sa,na,ak,ck,Ca,Sa,HA,HI⟩:=hrel
  obtain⟨w50,hw50⟩:∃zz,zz=wr:=⟨_,rfl⟩
  subst hw50
  have S50:=hZ (uZ HI).1
  have HBQ_50:=hZ (uZ HI).2.1
  have HKa_50:=hZ (uZ HI).2.2
  obtain⟨g1,hg1⟩:=RS_fuel (uZ HA).2.1
  subst hg1
  have HJ60:=hZ (show sPrL c.ts (RS c.ts F g1) acc sa=some (ks9,s9) from (uZ HA).2.1)
  have hlna:=(uZ HA).2.2.1
  have hbnb:=(uZ HA).2.2.2
  have hgf:=(uZ HA).1
  clear HI HA
  have HJ61:=hZ ((by have:=uZ HJ60;unfold sPrL at this;exact this))
  clear HJ60
  by_cases he:sa.e=0
  ·have he0:((sa.e:Nat):Int)=0:=by omega
   have ec:=(uZ S50).rd.cells.2.2.2.1
   rw [he0] at ec
   obtain⟨⟨kt,tt,nt,pt⟩,ht⟩:∃zz,tkQ c.ts sa=zz:=⟨_,rfl⟩
   have HTt:=hZ ht
   clear ht
   have HJ62:=hZ ((by have:=(uZ HJ61);rw [uZ HTt] at this;simp only [] at this;exact this))
   clear HJ61
   have CC:=hZ ((by have:=peek_any (uZ S50).rd;rw [uZ HTt] at this;simp only [tkA] at this;exact this))
   go_wp2_with fail
   refine(uZ CC).mono ?_
   rintro e w51 ⟨rfl,b⟩
   have S51:=hZ ((uZ S50).below b)
   have HBQ_51:=bx_be HBQ_50 b
   have HKa_51:=hZ ((uZ HKa_50).beside (Beside.of_below (gr:=c.g) b) (by omega))
   clear b CC S50 HBQ_50 HKa_50
   by_cases hk:kt=0
   ·have HJ63:=hZ ((by have:=(uZ HJ62);rw [if_neg (fun e=>e.2 hk)] at this;exact this))
    clear HJ62
    subst hk
    have HY2:=okq_some (uZ HJ63)
    injection HY2 with hy1 hy2
    have HJ90:=hZ (by have:=uZ HJ1;rw [hy1,hy2] at this;exact this)
    clear HJ63 hy1 hy2
    have hr1:=okq_some (uZ HJ90)
    have hnn:=(uZ HKa_51).node' hlna 1 [] 0 0 [] false 0
    have HR:=hZ (hr1)
    have BX:=(uZ S51).bx
    rw [hG] at BX
    obtain⟨g0,g1,g2,g3,g4,g5,g6,g7,g8,g9⟩:=row_cell10 BX
    obtain⟨z0,z1,z2,z3,z4,z5,z6,z7,z8,z9⟩:=frozen10 BX
    clear BX
    obtain⟨Qc0,Qc1,Qc2,Qc3,Qc4,Qc5,Qc6,Qc7,Qc8,Qc9⟩:=row_cell10 (uZ HBQ_51)
    have FF:=hZ (Sq.done (uZ S51) (hnn.low (by omega)) rfl hG)
    go_wp2_with (rw [run_tk0])
    refine bodyPost_ret (ret_c1 (p:=2) (T:=29) rfl _ _ G _ _ _ rfl (uZ FF).1 Tryz.underlying29 rfl size_nd) rfl ?_
    rw [uZ HR]
    exact(uZ FF).2
   ·have HJ63:=hZ ((by have:=(uZ HJ62);rw [if_pos ⟨he,hk⟩] at this;exact this))
    clear HJ62
    have n0:¬(kt:Int)=0:=by omega
    have m0:((kt:Int) == 0)=false:=beq_eq_false_iff_ne.2 n0
    have m1:((kt:Int) != 0)=true:=by simp;omega
    obtain⟨nsx,sx,hy,hth⟩:=bq_some (uZ HJ63)
    have HJ64:=hZ (hth)
    clear HJ63
    clear hth
    have CR:=hZ (ihf (f1:=g1) (by omega) hy (uZ S51).rd)
    clear hy
    go_wp2_with (rw [run_tk0])
    refine(uZ CR).mono ?_
    rintro e w52 ⟨kx,tx,vkx,vnx,vsx,fx,nx,akx,ckx,px,Zx,rfl,hlx,hn,r2,b⟩
    simp only [] at hlx hn r2
    have S52:=hZ ((uZ S51).go (d':=0) b r2)
    have HBQ_52:=bx_go HBQ_51 b (by omega)
    have HKa_52:=hZ ((uZ HKa_51).beside b (by omega))
    obtain⟨lox,hlo⟩:∃zz,w51.heap.size=zz:=⟨_,rfl⟩
    have ltlox:w.heap.size<lox:=by rw [←hlo];exact(uZ S51).lt
    have lqQ_x:Q<lox:=by rw [←hlo];exact(Array.getElem?_eq_some_iff.1 (uZ HBQ_51)).1
    have HWa_x:=hZ ((uZ HKa_51).vlt hlo)
    have lea_x:=(uZ HKa_51).ok.le
    rw [hlo] at lea_x
    rw [hlo] at hn
    have HNx_52:=hZ hn
    clear hlo b r2 hn CR S51 HBQ_51 HKa_51
    go_upto_region 4 with fail
    obtain⟨w53,hw⟩:∃zz,w52.alloc (.cells #[.int .i64 (kx:Int),.string (bA tx),.int .i64 (vkx:Int),.int .i64 (vnx:Int),.string (bA vsx),.slice none 0 0,.slice none 0 0,.bool fx,.slice akx nx ckx,.int .i64 (px:Int)] 29)=zz:=⟨_,rfl⟩
    have b:Below w52.heap.size w52 w53:=by rw [←hw];exact(Below.refl _ _).alloc (Nat.le_refl _) _
    obtain⟨X,hQ⟩:∃zz,w52.heap.size=zz:=⟨_,rfl⟩
    have HBX_53:Hid (w53.heap[X]?=some (.cells #[.int .i64 (kx:Int),.string (bA tx),.int .i64 (vkx:Int),.int .i64 (vnx:Int),.string (bA vsx),.slice none 0 0,.slice none 0 0,.bool fx,.slice akx nx ckx,.int .i64 (px:Int)] 29 (0,0))):=hZ (by rw [←hw,←hQ];exact heap_alloc_new _ _)
    have S53:=hZ ((uZ S52).below b)
    have HBQ_53:=bx_be HBQ_52 b
    have HKa_53:=hZ ((uZ HKa_52).beside (Beside.of_below (gr:=c.g) b) (by omega))
    have HNx_53:=hZ ((uZ HNx_52).beside (Beside.of_below (gr:=c.g) b) (by omega))
    have lQ_X:Q<X:=by rw [←hQ];exact(Array.getElem?_eq_some_iff.1 (uZ HBQ_52)).1
    have APa_X:=hZ ((uZ HKa_52).fresh hQ)
    have ANx_X:=hZ ((uZ HNx_52).fresh hQ)
    have ltX:w.heap.size<X:=by rw [←hQ];exact(uZ S52).lt
    rw [hw]
    try rw [hQ]
    clear hw hQ b S52 HBQ_52 HKa_52 HNx_52
    obtain⟨Xo0,Xo1,Xo2,Xo3,Xo4,Xo5,Xo6,Xo7,Xo8,Xo9⟩:=row_cell10 (uZ HBX_53)
    have Kc8:=(row_cell10 (uZ HBQ_53)).2.2.2.2.2.2.2.2.1
    obtain⟨w54,hwr⟩:∃zz,w53.alloc (.cells #[.int .i64 (kx:Int),.string (bA tx),.int .i64 (vkx:Int),.int .i64 (vnx:Int),.string (bA vsx),.slice none 0 0,.slice none 0 0,.bool fx,.slice akx nx ckx,.int .i64 (px:Int)] 29)=zz:=⟨_,rfl⟩
    have b:Below w53.heap.size w53 w54:=by rw [←hwr];exact(Below.refl _ _).alloc (Nat.le_refl _) _
    obtain⟨hx,hhx⟩:∃zz,w53.heap.size=zz:=⟨_,rfl⟩
    have at4:Hid (w54.heap[hx]?=some (.cells #[.int .i64 (kx:Int),.string (bA tx),.int .i64 (vkx:Int),.int .i64 (vnx:Int),.string (bA vsx),.slice none 0 0,.slice none 0 0,.bool fx,.slice akx nx ckx,.int .i64 (px:Int)] 29 (0,0))):=hZ (by rw [←hwr,←hhx];exact heap_alloc_new _ _)
    have S54:=hZ ((uZ S53).below b)
    have HBQ_54:=bx_be HBQ_53 b
    have HBX_54:=bx_be HBX_53 b
    have HKa_54:=hZ ((uZ HKa_53).beside (Beside.of_below (gr:=c.g) b) (by omega))
    have HNx_54:=hZ ((uZ HNx_53).beside (Beside.of_below (gr:=c.g) b) (by omega))
    clear b S53 HBQ_53 HBX_53 HKa_53 HNx_53
    have hkl:=(uZ HKa_54).own
    rw [hlna] at hkl
    have HKL:=hZ hkl
    have HKE:=hZ ((uZ HKa_54).ok.le)
    clear hkl
    have tokA:True:=trivial
    go_wp2_with (first|(at_builtin;have _t:=tokA;refine wpl_appM 1 rfl (.tmp 20) (.tmp 22) rfl (Q+1) (.slice ak na ck) na _ rfl (uZ HKL) hx #[.int .i64 (kx:Int),.string (bA tx),.int .i64 (vkx:Int),.int .i64 (vnx:Int),.string (bA vsx),.slice none 0 0,.slice none 0 0,.bool fx,.slice akx nx ckx,.int .i64 (px:Int)] rfl (uZ at4) rfl (ndC_one _ _ _ _ _ _ _ _ _ _) (by decide) (by omega) (uZ HKE) ?_;clear tokA;intro gq54 cp54 w55 H5;have HB5:=push_box (uZ HBQ_54) (uZ HKa_54) (by omega) (uZ H5).2.1;have f8:=frozen_of_row w55 Q 8 _ _ HB5;have c8:=(row_cell10 HB5).2.2.2.2.2.2.2.2.1;clear HB5))
    have P:=push_all (uZ S54) ltQ (uZ HBQ_54) (uZ HKa_54) (uZ HNx_54) (by omega) (by omega) (uZ HWa_x) H5 (by rw [List.length_append,hlx,hlna])
    obtain⟨w56,hw⟩:∃zz,w55.setCell ⟨Q,8,none⟩ (.slice (some ⟨gq54,0,none⟩) (na+1) cp54)=zz:=⟨_,rfl⟩
    rw [hw] at P ⊢
    obtain⟨S56,HBQ_56,HKn_56⟩:=P
    have hlnn:(acc++(nsx)).length=na+1:=by rw [List.length_append,hlx,hlna]
    clear hw H5 HKL HKE at4 hwr hhx f8 c8 Kc8 S54 HBQ_54 HBX_54 HKa_54 HNx_54 Xo0 Xo1 Xo2 Xo3 Xo4 Xo5 Xo6 Xo7 Xo8 Xo9
    go_roundg g1
    case measure=>omega
    case rel=>exact⟨acc++nsx,sx,na+1,some ⟨gq54,0,none⟩,cp54,_,_,hZ ⟨by omega,(uZ HJ64),hlnn,by omega⟩,hZ ⟨uZ S56,uZ HBQ_56,uZ HKn_56⟩⟩
  ·have HJ62:=hZ ((by have:=(uZ HJ61);rw [if_neg (fun e=>he e.1)] at this;exact this))
   clear HJ61
   have he0:¬((sa.e:Nat):Int)=0:=by omega
   have he1:(((sa.e:Nat):Int) == 0)=false:=beq_eq_false_iff_ne.2 he0
   have ec:=(uZ S50).rd.cells.2.2.2.1
   have HY2:=okq_some (uZ HJ62)
   injection HY2 with hy1 hy2
   have HJ90:=hZ (by have:=uZ HJ1;rw [hy1,hy2] at this;exact this)
   clear HJ62 hy1 hy2
   have hr1:=okq_some (uZ HJ90)
   have hnn:=(uZ HKa_50).node' hlna 1 [] 0 0 [] false 0
   have HR:=hZ (hr1)
   have BX:=(uZ S50).bx
   rw [hG] at BX
   obtain⟨g0,g1,g2,g3,g4,g5,g6,g7,g8,g9⟩:=row_cell10 BX
   obtain⟨z0,z1,z2,z3,z4,z5,z6,z7,z8,z9⟩:=frozen10 BX
   clear BX
   obtain⟨Qc0,Qc1,Qc2,Qc3,Qc4,Qc5,Qc6,Qc7,Qc8,Qc9⟩:=row_cell10 (uZ HBQ_50)
   have FF:=hZ (Sq.done (uZ S50) (hnn.low (by omega)) rfl hG)
   go_wp2_with fail
   refine bodyPost_ret (ret_c1 (p:=2) (T:=29) rfl _ _ G _ _ _ rfl (uZ FF).1 Tryz.underlying29 rfl size_nd) rfl ?_
   rw [uZ HR]
   exact(uZ FF).2
end Go.Proofs.YtilhlmmcdfoaoaaGreatDoor
