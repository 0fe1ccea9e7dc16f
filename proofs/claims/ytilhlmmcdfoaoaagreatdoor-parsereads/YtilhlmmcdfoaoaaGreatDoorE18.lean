/-
  Layer 17 (parse): the document's reader: an operand, and each At and Dot behind it; conditions: the reader's state.
-/
import Derived.Test.YtilhlmmcdfoaoaaGreatDoorE15
set_option linter.unusedVariables false
set_option linter.unusedSimpArgs false
namespace Go.Proofs.YtilhlmmcdfoaoaaGreatDoor
open Go.RowKit
set_option linter.unusedVariables false
set_option linter.unusedSimpArgs false
set_option maxRecDepth 100000 in
set_option maxHeartbeats 2000000 in
theorem postq_step {c:Cx} {σ:Sg} {w:World} {r:List Nd × Sg} {f:Nat} (ihe:∀{f1:Nat},f1≤f→∀{c:Cx} {σ:Sg} {w:World} {r:List Nd × Sg},RJ c.ts f1 0 0 [] σ=some r→Rq w c σ→Calls Tryz.prog 91 #[.pointer (some ⟨c.g,0,none⟩)] w fun e w'=>NqP c w r e w') (ihp:∀{c:Cx} {σ:Sg} {w:World} {r:List Nd × Sg},RJ c.ts f 5 0 [] σ=some r→Rq w c σ→Calls Tryz.prog 136 #[.pointer (some ⟨c.g,0,none⟩)] w fun e w'=>NqP c w r e w') (hJ:RJ c.ts (f+1) 24 0 [] σ=some r) (h:Rq w c σ) :
  Calls Tryz.prog 132 #[.pointer (some ⟨c.g,0,none⟩)] w fun e w'=>NqP c w r e w':=by
 have S1:=hZ (Sq.start (d:=0) h 29 #[.int .i64 0,.string ⟨#[]⟩,.int .i64 0,.int .i64 0,.string ⟨#[]⟩,.slice none 0 0,.slice none 0 0,.bool false,.slice none 0 0,.int .i64 0])
 obtain⟨w1,hw1⟩:∃w1,w.alloc (.cells #[.int .i64 0,.string ⟨#[]⟩,.int .i64 0,.int .i64 0,.string ⟨#[]⟩,.slice none 0 0,.slice none 0 0,.bool false,.slice none 0 0,.int .i64 0] 29)=w1:=⟨_,rfl⟩
 rw [hw1] at S1
 obtain⟨G,hG⟩:∃G,w.heap.size=G:=⟨_,rfl⟩
 have hgw:c.g<w.heap.size:=h.frz.2.2.2.2
 clear h
 go_enter Tryz.func132,Tryz.ntmps132
 have HJ0:=hZ (show qPost c.ts (RJ c.ts f) σ=some r from hJ)
 clear hJ
 have HJ1:=hZ ((by have:=uZ HJ0;unfold qPost at this;exact this))
 clear HJ0
 obtain⟨nsx,sx,hy,hth⟩:=bq_some (uZ HJ1)
 have HJ2:=hZ (hth)
 clear HJ1
 clear hth
 have CR:=hZ (ihp hy (uZ S1).rd)
 clear hy
 go_wp2_with fail
 refine(uZ CR).mono ?_
 rintro e w2 ⟨kx,tx,vkx,vnx,vsx,fx,nx,akx,ckx,px,Zx,rfl,hlx,hn,r2,b⟩
 simp only [] at hlx hn r2
 have S2:=hZ ((uZ S1).go (d':=0) b r2)
 obtain⟨lox,hlo⟩:∃zz,w1.heap.size=zz:=⟨_,rfl⟩
 have ltlox:w.heap.size<lox:=by rw [←hlo];exact(uZ S1).lt
 rw [hlo] at hn
 have HNx_2:=hZ hn
 clear hlo b r2 hn CR S1
 obtain⟨loa,hloa⟩:∃zz,w.heap.size+1=zz:=⟨_,rfl⟩
 have ANx:=hZ ((uZ HNx_2).fresh rfl)
 obtain⟨w3,hw⟩:∃zz,w2.alloc (.cells #[.int .i64 (kx:Int),.string (bA tx),.int .i64 (vkx:Int),.int .i64 (vnx:Int),.string (bA vsx),.slice none 0 0,.slice none 0 0,.bool fx,.slice akx nx ckx,.int .i64 (px:Int)] 29)=zz:=⟨_,rfl⟩
 have b:Below w2.heap.size w2 w3:=by rw [←hw];exact(Below.refl _ _).alloc (Nat.le_refl _) _
 obtain⟨Q,hQ⟩:∃zz,w2.heap.size=zz:=⟨_,rfl⟩
 rw [hQ] at ANx
 have HBQ_3:Hid (w3.heap[Q]?=some (.cells #[.int .i64 (kx:Int),.string (bA tx),.int .i64 (vkx:Int),.int .i64 (vnx:Int),.string (bA vsx),.slice none 0 0,.slice none 0 0,.bool fx,.slice akx nx ckx,.int .i64 (px:Int)] 29 (0,0))):=hZ (by rw [←hw,←hQ];exact heap_alloc_new _ _)
 have S3:=hZ ((uZ S2).below b)
 have HNx_3:=hZ ((uZ HNx_2).beside (Beside.of_below (gr:=c.g) b) (by omega))
 have ltQ:w.heap.size<Q:=by rw [←hQ];exact(uZ S2).lt
 clear b S2 HNx_2
 go_wp2_with fail
 clear hw hQ
 go_loopg [] f (fun gk wr=>∃(acc:List Nd) (sa:Sg) (ka:Nat) (ta:List UInt8) (vka vna:Nat) (vsa:List UInt8) (fa:Bool) (na:Nat) (aka:Option Addr) (cka pa:Nat) (Za:List Nat),Hid (gk≤f∧RJ c.ts gk 4 0 acc sa=some r∧acc.length=1)∧Hid (Sq w c 29 #[.int .i64 0,.string ⟨#[]⟩,.int .i64 0,.int .i64 0,.string ⟨#[]⟩,.slice none 0 0,.slice none 0 0,.bool false,.slice none 0 0,.int .i64 0] wr sa 0∧wr.heap[Q]?=some (.cells #[.int .i64 (ka:Int),.string (bA ta),.int .i64 (vka:Int),.int .i64 (vna:Int),.string (bA vsa),.slice none 0 0,.slice none 0 0,.bool fa,.slice aka na cka,.int .i64 (pa:Int)] 29 (0,0))∧NdOk loa wr acc (ndC ka ta vka vna vsa fa na aka cka pa) Za∧Q∉Za))
 case atStart=>exact⟨nsx,sx,kx,tx,vkx,vnx,vsx,fx,nx,akx,ckx,px,Zx,hZ ⟨Nat.le_refl _,(uZ HJ2),hlx⟩,hZ ⟨uZ S3,uZ HBQ_3,(uZ HNx_3).low (by omega),uZ ANx⟩⟩
 case round=>
  clear HJ2 HNx_3 S3 HBQ_3 ANx
  obtain⟨acc,sa,ka,ta,vka,vna,vsa,fa,na,aka,cka,pa,Za,HA,HI⟩:=hrel
  obtain⟨w50,hw50⟩:∃zz,zz=wr:=⟨_,rfl⟩
  subst hw50
  have S50:=hZ (uZ HI).1
  have HBQ_50:=hZ (uZ HI).2.1
  have HNa_50:=hZ (uZ HI).2.2.1
  have HZQ:=hZ (uZ HI).2.2.2
  obtain⟨g1,hg1⟩:=RJ_fuel (uZ HA).2.1
  subst hg1
  have HJ60:=hZ (show qPostL c.ts (RJ c.ts g1) acc sa=some r from (uZ HA).2.1)
  have hla:=(uZ HA).2.2
  have hgf:=(uZ HA).1
  clear HI HA
  obtain⟨⟨k,t,n,p⟩,ht⟩:∃zz,tkQ c.ts sa=zz:=⟨_,rfl⟩
  have HT:=hZ ht
  clear ht
  have HJ61:=hZ ((by have:=uZ HJ60;unfold qPostL at this;rw [uZ HT] at this;try simp only [] at this;exact this))
  clear HJ60
  by_cases he:sa.e=0
  ·have HJ62:=hZ ((by have:=(uZ HJ61);rw [if_pos he] at this;exact this))
   clear HJ61
   have he0:((sa.e:Nat):Int)=0:=by omega
   have ec:=(uZ S50).rd.cells.2.2.2.1
   rw [he0] at ec
   rcases Bool.eq_false_or_eq_true (isQ c.ts 5 [91] sa) with hq|hq
   ·have HJ63:=hZ ((by have:=(uZ HJ62);rw [if_pos hq] at this;exact this))
    clear HJ62
    have CC:=hZ ((by have:=signq_any (uZ S50).rd [91];rw [hq] at this;exact this))
    go_wp2_with fail
    refine(uZ CC).mono ?_
    rintro e w51 ⟨rfl,b⟩
    have S51:=hZ ((uZ S50).below b)
    have HBQ_51:=bx_be HBQ_50 b
    have HNa_51:=hZ ((uZ HNa_50).beside (Beside.of_below (gr:=c.g) b) (by omega))
    clear b CC S50 HBQ_50 HNa_50
    clear ec
    rcases Bool.eq_false_or_eq_true (isQ c.ts 5 [46] sa) with hq2|hq2
    ·have CC:=hZ ((by have:=signq_any (uZ S51).rd [46];rw [hq2] at this;exact this))
     go_wp2_with fail
     refine(uZ CC).mono ?_
     rintro e w52 ⟨rfl,b⟩
     have S52:=hZ ((uZ S51).below b)
     have HBQ_52:=bx_be HBQ_51 b
     have HNa_52:=hZ ((uZ HNa_51).beside (Beside.of_below (gr:=c.g) b) (by omega))
     clear b CC S51 HBQ_51 HNa_51
     clear HT
     obtain⟨⟨kz,tz,nz,pz⟩,htz⟩:∃zz,(opQ c.ts sa).1=zz:=⟨_,rfl⟩
     have HTz:=hZ htz
     clear htz
     have CC:=hZ ((by have:=opens_any (uZ S52).rd;rw [uZ HTz] at this;simp only [tkA] at this;exact this))
     go_wp2_with fail
     refine(uZ CC).mono ?_
     rintro e w53 ⟨rfl,r2,b⟩
     have S53:=hZ ((uZ S52).go (d':=0) b r2)
     have HBQ_53:=bx_go HBQ_52 b (by omega)
     have HNa_53:=hZ ((uZ HNa_52).beside b (by omega))
     clear b r2 CC S52 HBQ_52 HNa_52
     go_upto_region 8 with fail
     obtain⟨w54,hw⟩:∃zz,w53.alloc (.cells #[.int .i64 (kz:Int),.string (bA tz),.int .i64 (nz:Int),.int .i64 (pz:Int)] 52)=zz:=⟨_,rfl⟩
     have b:Below w53.heap.size w53 w54:=by rw [←hw];exact(Below.refl _ _).alloc (Nat.le_refl _) _
     obtain⟨B,hQ⟩:∃zz,w53.heap.size=zz:=⟨_,rfl⟩
     have HBB_54:Hid (w54.heap[B]?=some (.cells #[.int .i64 (kz:Int),.string (bA tz),.int .i64 (nz:Int),.int .i64 (pz:Int)] 52 (0,0))):=hZ (by rw [←hw,←hQ];exact heap_alloc_new _ _)
     have S54:=hZ ((uZ S53).below b)
     have HBQ_54:=bx_be HBQ_53 b
     have HNa_54:=hZ ((uZ HNa_53).beside (Beside.of_below (gr:=c.g) b) (by omega))
     have lQ_B:Q<B:=by rw [←hQ];exact(Array.getElem?_eq_some_iff.1 (uZ HBQ_53)).1
     have ANa_B:=hZ ((uZ HNa_53).fresh hQ)
     have ltB:w.heap.size<B:=by rw [←hQ];exact(uZ S53).lt
     rw [hw]
     try rw [hQ]
     clear hw hQ b S53 HBQ_53 HNa_53
     by_cases he2:(opQ c.ts sa).2.e=0
     ·have HJ64:=hZ ((by have:=(uZ HJ63);rw [if_pos he2,uZ HTz] at this;exact this))
      clear HJ63
      have ha0:(((opQ c.ts sa).2.e:Nat):Int)=0:=by omega
      have ec:=(uZ S54).rd.cells.2.2.2.1
      rw [ha0] at ec
      obtain⟨nsy,sy,hy,hth⟩:=bq_some (uZ HJ64)
      have HJ65:=hZ (hth)
      clear HJ64
      clear hth
      have CR:=hZ (ihe (f1:=g1) (by omega) hy (uZ S54).rd)
      clear hy
      go_wp2_with fail
      refine(uZ CR).mono ?_
      rintro e w55 ⟨ky,ty,vky,vny,vsy,fy,ny,aky,cky,py,Zy,rfl,hly,hn,r2,b⟩
      simp only [] at hly hn r2
      have S55:=hZ ((uZ S54).go (d':=0) b r2)
      have HBQ_55:=bx_go HBQ_54 b (by omega)
      have HBB_55:=bx_go HBB_54 b (by omega)
      have HNa_55:=hZ ((uZ HNa_54).beside b (by omega))
      obtain⟨loy,hlo⟩:∃zz,w54.heap.size=zz:=⟨_,rfl⟩
      have ltloy:w.heap.size<loy:=by rw [←hlo];exact(uZ S54).lt
      have lqQ_y:Q<loy:=by rw [←hlo];exact(Array.getElem?_eq_some_iff.1 (uZ HBQ_54)).1
      have lqB_y:B<loy:=by rw [←hlo];exact(Array.getElem?_eq_some_iff.1 (uZ HBB_54)).1
      have HMa_y:Hid (∀b∈Za,b<loy):=hZ (fun b hb=>by rw [←hlo];exact((uZ HNa_54).rg b hb).2)
      have lea_y:loa≤loy:=by rw [←hlo];exact(uZ HNa_54).le
      rw [hlo] at hn
      have HNy_55:=hZ hn
      clear hlo b r2 hn CR S54 HBQ_54 HBB_54 HNa_54
      clear ec
      go_upto_region 11 with fail
      obtain⟨w56,hw⟩:∃zz,w55.alloc (.cells #[.int .i64 (ky:Int),.string (bA ty),.int .i64 (vky:Int),.int .i64 (vny:Int),.string (bA vsy),.slice none 0 0,.slice none 0 0,.bool fy,.slice aky ny cky,.int .i64 (py:Int)] 29)=zz:=⟨_,rfl⟩
      have b:Below w55.heap.size w55 w56:=by rw [←hw];exact(Below.refl _ _).alloc (Nat.le_refl _) _
      obtain⟨Y,hQ⟩:∃zz,w55.heap.size=zz:=⟨_,rfl⟩
      have HBY_56:Hid (w56.heap[Y]?=some (.cells #[.int .i64 (ky:Int),.string (bA ty),.int .i64 (vky:Int),.int .i64 (vny:Int),.string (bA vsy),.slice none 0 0,.slice none 0 0,.bool fy,.slice aky ny cky,.int .i64 (py:Int)] 29 (0,0))):=hZ (by rw [←hw,←hQ];exact heap_alloc_new _ _)
      have S56:=hZ ((uZ S55).below b)
      have HBQ_56:=bx_be HBQ_55 b
      have HBB_56:=bx_be HBB_55 b
      have HNa_56:=hZ ((uZ HNa_55).beside (Beside.of_below (gr:=c.g) b) (by omega))
      have HNy_56:=hZ ((uZ HNy_55).beside (Beside.of_below (gr:=c.g) b) (by omega))
      have lQ_Y:Q<Y:=by rw [←hQ];exact(Array.getElem?_eq_some_iff.1 (uZ HBQ_55)).1
      have lB_Y:B<Y:=by rw [←hQ];exact(Array.getElem?_eq_some_iff.1 (uZ HBB_55)).1
      have ANa_Y:=hZ ((uZ HNa_55).fresh hQ)
      have ANy_Y:=hZ ((uZ HNy_55).fresh hQ)
      have ltY:w.heap.size<Y:=by rw [←hQ];exact(uZ S55).lt
      rw [hw]
      try rw [hQ]
      clear hw hQ b S55 HBQ_55 HBB_55 HNa_55 HNy_55
      have CC:=hZ (closes_any (uZ S56).rd [93])
      go_wp2_with fail
      refine(uZ CC).mono ?_
      rintro e w57 ⟨rfl,r2,b⟩
      have S57:=hZ ((uZ S56).go (d':=0) b r2)
      have HBQ_57:=bx_go HBQ_56 b (by omega)
      have HBB_57:=bx_go HBB_56 b (by omega)
      have HBY_57:=bx_go HBY_56 b (by omega)
      have HNa_57:=hZ ((uZ HNa_56).beside b (by omega))
      have HNy_57:=hZ ((uZ HNy_56).beside b (by omega))
      clear b r2 CC S56 HBQ_56 HBB_56 HBY_56 HNa_56 HNy_56
      obtain⟨Qo0,Qo1,Qo2,Qo3,Qo4,Qo5,Qo6,Qo7,Qo8,Qo9⟩:=row_cell10 (uZ HBQ_57)
      obtain⟨Yo0,Yo1,Yo2,Yo3,Yo4,Yo5,Yo6,Yo7,Yo8,Yo9⟩:=row_cell10 (uZ HBY_57)
      obtain⟨Bo0,Bo1,Bo2,Bo3⟩:=row_cell4 (uZ HBB_57)
      go_upto_region 12 with fail
      have hQl:=(Array.getElem?_eq_some_iff.1 (uZ HBQ_57)).1
      have hkn:=hZ ((uZ HNa_57).app (uZ HMa_y) (uZ HNy_57) (by omega))
      obtain⟨w58,hwr⟩:∃zz,w57.alloc (.cells #[.int .i64 (ka:Int),.string (bA ta),.int .i64 (vka:Int),.int .i64 (vna:Int),.string (bA vsa),.slice none 0 0,.slice none 0 0,.bool fa,.slice aka na cka,.int .i64 (pa:Int),.int .i64 (ky:Int),.string (bA ty),.int .i64 (vky:Int),.int .i64 (vny:Int),.string (bA vsy),.slice none 0 0,.slice none 0 0,.bool fy,.slice aky ny cky,.int .i64 (py:Int)] 29)=zz:=⟨_,rfl⟩
      have b:Below w57.heap.size w57 w58:=by rw [←hwr];exact(Below.refl _ _).alloc (Nat.le_refl _) _
      obtain⟨qr,hqr⟩:∃zz,w57.heap.size=zz:=⟨_,rfl⟩
      have hl2:(acc++nsy).length=2:=by rw [List.length_append,hla,hly]
      have HKr_58:Hid (Kr loa w58 (acc++nsy) (.slice (some ⟨qr,0,none⟩) 2 2) [.int .i64 (ka:Int),.string (bA ta),.int .i64 (vka:Int),.int .i64 (vna:Int),.string (bA vsa),.slice none 0 0,.slice none 0 0,.bool fa,.slice aka na cka,.int .i64 (pa:Int),.int .i64 (ky:Int),.string (bA ty),.int .i64 (vky:Int),.int .i64 (vny:Int),.string (bA vsy),.slice none 0 0,.slice none 0 0,.bool fy,.slice aky ny cky,.int .i64 (py:Int)] (Za++Zy)):=hZ (by have h9:=Kr.mk' (uZ hkn) (by rw [hl2];decide);rw [hl2,hqr] at h9;rw [←hwr];exact h9)
      have hQr:Q<qr:=by rw [←hqr];exact hQl
      have APr_Q:=hZ (And.intro (show Q∉Za++Zy from fun hm=>by rcases List.mem_append.1 hm with h|h;exact(uZ HZQ) h;have:=((uZ HNy_57).rg Q h).1;omega) (own_ne (n:=2) (m:=2) hQr))
      have S58:=hZ ((uZ S57).below b)
      have HBQ_58:=bx_be HBQ_57 b
      have HBB_58:=bx_be HBB_57 b
      have HBY_58:=bx_be HBY_57 b
      clear b hkn hQl S57 HBQ_57 HBB_57 HBY_57 HNa_57 HNy_57
      obtain⟨Bp0,Bp1,Bp2,Bp3⟩:=row_cell4 (uZ HBB_58)
      obtain⟨g0,g1,g2,g3,g4,g5,g6,g7,g8,g9⟩:=row_cell10 (uZ HBQ_58)
      obtain⟨z0,z1,z2,z3,z4,z5,z6,z7,z8,z9⟩:=frozen10 (uZ HBQ_58)
      have O:=(uZ S58).own10 ltQ (.int .i64 21) (.string ⟨#[]⟩) (.int .i64 0) (.int .i64 0) (.string ⟨#[]⟩) (.slice none 0 0) (.slice none 0 0) (.bool false) (.slice (some ⟨qr,0,none⟩) 2 2) (.int .i64 (pz:Int))
      have D:=set10 (uZ HBQ_58) (.int .i64 21) (.string ⟨#[]⟩) (.int .i64 0) (.int .i64 0) (.string ⟨#[]⟩) (.slice none 0 0) (.slice none 0 0) (.bool false) (.slice (some ⟨qr,0,none⟩) 2 2) (.int .i64 (pz:Int))
      obtain⟨w59,hw⟩:∃zz,((((((((((w58.setCell ⟨Q,0,none⟩ (.int .i64 21)).setCell ⟨Q,1,none⟩ (.string ⟨#[]⟩)).setCell ⟨Q,2,none⟩ (.int .i64 0)).setCell ⟨Q,3,none⟩ (.int .i64 0)).setCell ⟨Q,4,none⟩ (.string ⟨#[]⟩)).setCell ⟨Q,5,none⟩ (.slice none 0 0)).setCell ⟨Q,6,none⟩ (.slice none 0 0)).setCell ⟨Q,7,none⟩ (.bool false)).setCell ⟨Q,8,none⟩ (.slice (some ⟨qr,0,none⟩) 2 2)).setCell ⟨Q,9,none⟩ (.int .i64 (pz:Int)))=zz:=⟨_,rfl⟩
      rw [hw] at O D
      have S59:=hZ O.1
      have HBQ_59:=hZ D
      have HKr_59:=hZ ((uZ HKr_58).but2 (q:=Q) (fun b _ hb=>O.2.1 b hb) (Nat.le_of_eq O.2.2.symm) (uZ APr_Q).1 (uZ APr_Q).2)
      have HWQ:=hZ hw
      clear hw O D S58 HBQ_58 HBB_58 HBY_58 HKr_58
      go_wp2_with fail
      rw [uZ HWQ]
      clear HWQ hwr hqr g0 z0 g1 z1 g2 z2 g3 z3 g4 z4 g5 z5 g6 z6 g7 z7 g8 z8 g9 z9
      clear Qo0 Yo0 Qo1 Yo1 Qo2 Yo2 Qo3 Yo3 Qo4 Yo4 Qo5 Yo5 Qo6 Yo6 Qo7 Yo7 Qo8 Yo8 Qo9 Yo9 Bo0 Bo1 Bo2 Bo3 Bp0 Bp1 Bp2 Bp3
      go_roundg g1
      case measure=>omega
      case rel=>exact⟨[nd0 21 [] (acc++nsy) pz],_,21,[],0,0,[],false,2,some ⟨qr,0,none⟩,2,pz,_,hZ ⟨by omega,(uZ HJ65),rfl⟩,hZ ⟨uZ S59,uZ HBQ_59,(uZ HKr_59).node' hl2 21 [] 0 0 [] false pz,fun hm=>by rcases List.mem_append.1 hm with h|h;exact absurd (List.mem_singleton.1 h) (show ¬Q=qr by omega);exact(uZ APr_Q).1 h⟩⟩
     ·have HJ64:=hZ ((by have:=(uZ HJ63);rw [if_neg he2] at this;exact this))
      clear HJ63
      have ha0:¬(((opQ c.ts sa).2.e:Nat):Int)=0:=by omega
      have ha1:((((opQ c.ts sa).2.e:Nat):Int) == 0)=false:=beq_eq_false_iff_ne.2 ha0
      have ha2:((((opQ c.ts sa).2.e:Nat):Int) != 0)=true:=by simp;omega
      have ec:=(uZ S54).rd.cells.2.2.2.1
      generalize (opQ c.ts sa).2=s9 at *
      have hr1:=okq_some (uZ HJ64)
      have HR:=hZ (hr1)
      have BX:=(uZ S54).bx
      rw [hG] at BX
      obtain⟨g0,g1,g2,g3,g4,g5,g6,g7,g8,g9⟩:=row_cell10 BX
      obtain⟨z0,z1,z2,z3,z4,z5,z6,z7,z8,z9⟩:=frozen10 BX
      clear BX
      obtain⟨Qc0,Qc1,Qc2,Qc3,Qc4,Qc5,Qc6,Qc7,Qc8,Qc9⟩:=row_cell10 (uZ HBQ_54)
      have FF:=hZ (Sq.done (uZ S54) ((uZ HNa_54).low (lo':=w.heap.size+1) (by omega)) hla hG)
      go_wp2_with fail
      refine bodyPost_ret (ret_c1 (p:=2) (T:=29) rfl _ _ G _ _ _ rfl (uZ FF).1 Tryz.underlying29 rfl size_nd) rfl ?_
      rw [uZ HR]
      exact(uZ FF).2
    ·have CC:=hZ ((by have:=signq_any (uZ S51).rd [46];rw [hq2] at this;exact this))
     go_wp2_with fail
     refine(uZ CC).mono ?_
     rintro e w52 ⟨rfl,b⟩
     have S52:=hZ ((uZ S51).below b)
     have HBQ_52:=bx_be HBQ_51 b
     have HNa_52:=hZ ((uZ HNa_51).beside (Beside.of_below (gr:=c.g) b) (by omega))
     clear b CC S51 HBQ_51 HNa_51
     clear HT
     obtain⟨⟨kz,tz,nz,pz⟩,htz⟩:∃zz,(opQ c.ts sa).1=zz:=⟨_,rfl⟩
     have HTz:=hZ htz
     clear htz
     have CC:=hZ ((by have:=opens_any (uZ S52).rd;rw [uZ HTz] at this;simp only [tkA] at this;exact this))
     go_wp2_with fail
     refine(uZ CC).mono ?_
     rintro e w53 ⟨rfl,r2,b⟩
     have S53:=hZ ((uZ S52).go (d':=0) b r2)
     have HBQ_53:=bx_go HBQ_52 b (by omega)
     have HNa_53:=hZ ((uZ HNa_52).beside b (by omega))
     clear b r2 CC S52 HBQ_52 HNa_52
     go_upto_region 8 with fail
     obtain⟨w54,hw⟩:∃zz,w53.alloc (.cells #[.int .i64 (kz:Int),.string (bA tz),.int .i64 (nz:Int),.int .i64 (pz:Int)] 52)=zz:=⟨_,rfl⟩
     have b:Below w53.heap.size w53 w54:=by rw [←hw];exact(Below.refl _ _).alloc (Nat.le_refl _) _
     obtain⟨B,hQ⟩:∃zz,w53.heap.size=zz:=⟨_,rfl⟩
     have HBB_54:Hid (w54.heap[B]?=some (.cells #[.int .i64 (kz:Int),.string (bA tz),.int .i64 (nz:Int),.int .i64 (pz:Int)] 52 (0,0))):=hZ (by rw [←hw,←hQ];exact heap_alloc_new _ _)
     have S54:=hZ ((uZ S53).below b)
     have HBQ_54:=bx_be HBQ_53 b
     have HNa_54:=hZ ((uZ HNa_53).beside (Beside.of_below (gr:=c.g) b) (by omega))
     have lQ_B:Q<B:=by rw [←hQ];exact(Array.getElem?_eq_some_iff.1 (uZ HBQ_53)).1
     have ANa_B:=hZ ((uZ HNa_53).fresh hQ)
     have ltB:w.heap.size<B:=by rw [←hQ];exact(uZ S53).lt
     rw [hw]
     try rw [hQ]
     clear hw hQ b S53 HBQ_53 HNa_53
     by_cases he2:(opQ c.ts sa).2.e=0
     ·have HJ64:=hZ ((by have:=(uZ HJ63);rw [if_pos he2,uZ HTz] at this;exact this))
      clear HJ63
      have ha0:(((opQ c.ts sa).2.e:Nat):Int)=0:=by omega
      have ec:=(uZ S54).rd.cells.2.2.2.1
      rw [ha0] at ec
      obtain⟨nsy,sy,hy,hth⟩:=bq_some (uZ HJ64)
      have HJ65:=hZ (hth)
      clear HJ64
      clear hth
      have CR:=hZ (ihe (f1:=g1) (by omega) hy (uZ S54).rd)
      clear hy
      go_wp2_with fail
      refine(uZ CR).mono ?_
      rintro e w55 ⟨ky,ty,vky,vny,vsy,fy,ny,aky,cky,py,Zy,rfl,hly,hn,r2,b⟩
      simp only [] at hly hn r2
      have S55:=hZ ((uZ S54).go (d':=0) b r2)
      have HBQ_55:=bx_go HBQ_54 b (by omega)
      have HBB_55:=bx_go HBB_54 b (by omega)
      have HNa_55:=hZ ((uZ HNa_54).beside b (by omega))
      obtain⟨loy,hlo⟩:∃zz,w54.heap.size=zz:=⟨_,rfl⟩
      have ltloy:w.heap.size<loy:=by rw [←hlo];exact(uZ S54).lt
      have lqQ_y:Q<loy:=by rw [←hlo];exact(Array.getElem?_eq_some_iff.1 (uZ HBQ_54)).1
      have lqB_y:B<loy:=by rw [←hlo];exact(Array.getElem?_eq_some_iff.1 (uZ HBB_54)).1
      have HMa_y:Hid (∀b∈Za,b<loy):=hZ (fun b hb=>by rw [←hlo];exact((uZ HNa_54).rg b hb).2)
      have lea_y:loa≤loy:=by rw [←hlo];exact(uZ HNa_54).le
      rw [hlo] at hn
      have HNy_55:=hZ hn
      clear hlo b r2 hn CR S54 HBQ_54 HBB_54 HNa_54
      clear ec
      go_upto_region 11 with fail
      obtain⟨w56,hw⟩:∃zz,w55.alloc (.cells #[.int .i64 (ky:Int),.string (bA ty),.int .i64 (vky:Int),.int .i64 (vny:Int),.string (bA vsy),.slice none 0 0,.slice none 0 0,.bool fy,.slice aky ny cky,.int .i64 (py:Int)] 29)=zz:=⟨_,rfl⟩
      have b:Below w55.heap.size w55 w56:=by rw [←hw];exact(Below.refl _ _).alloc (Nat.le_refl _) _
      obtain⟨Y,hQ⟩:∃zz,w55.heap.size=zz:=⟨_,rfl⟩
      have HBY_56:Hid (w56.heap[Y]?=some (.cells #[.int .i64 (ky:Int),.string (bA ty),.int .i64 (vky:Int),.int .i64 (vny:Int),.string (bA vsy),.slice none 0 0,.slice none 0 0,.bool fy,.slice aky ny cky,.int .i64 (py:Int)] 29 (0,0))):=hZ (by rw [←hw,←hQ];exact heap_alloc_new _ _)
      have S56:=hZ ((uZ S55).below b)
      have HBQ_56:=bx_be HBQ_55 b
      have HBB_56:=bx_be HBB_55 b
      have HNa_56:=hZ ((uZ HNa_55).beside (Beside.of_below (gr:=c.g) b) (by omega))
      have HNy_56:=hZ ((uZ HNy_55).beside (Beside.of_below (gr:=c.g) b) (by omega))
      have lQ_Y:Q<Y:=by rw [←hQ];exact(Array.getElem?_eq_some_iff.1 (uZ HBQ_55)).1
      have lB_Y:B<Y:=by rw [←hQ];exact(Array.getElem?_eq_some_iff.1 (uZ HBB_55)).1
      have ANa_Y:=hZ ((uZ HNa_55).fresh hQ)
      have ANy_Y:=hZ ((uZ HNy_55).fresh hQ)
      have ltY:w.heap.size<Y:=by rw [←hQ];exact(uZ S55).lt
      rw [hw]
      try rw [hQ]
      clear hw hQ b S55 HBQ_55 HBB_55 HNa_55 HNy_55
      have CC:=hZ (closes_any (uZ S56).rd [93])
      go_wp2_with fail
      refine(uZ CC).mono ?_
      rintro e w57 ⟨rfl,r2,b⟩
      have S57:=hZ ((uZ S56).go (d':=0) b r2)
      have HBQ_57:=bx_go HBQ_56 b (by omega)
      have HBB_57:=bx_go HBB_56 b (by omega)
      have HBY_57:=bx_go HBY_56 b (by omega)
      have HNa_57:=hZ ((uZ HNa_56).beside b (by omega))
      have HNy_57:=hZ ((uZ HNy_56).beside b (by omega))
      clear b r2 CC S56 HBQ_56 HBB_56 HBY_56 HNa_56 HNy_56
      obtain⟨Qo0,Qo1,Qo2,Qo3,Qo4,Qo5,Qo6,Qo7,Qo8,Qo9⟩:=row_cell10 (uZ HBQ_57)
      obtain⟨Yo0,Yo1,Yo2,Yo3,Yo4,Yo5,Yo6,Yo7,Yo8,Yo9⟩:=row_cell10 (uZ HBY_57)
      obtain⟨Bo0,Bo1,Bo2,Bo3⟩:=row_cell4 (uZ HBB_57)
      go_upto_region 12 with fail
      have hQl:=(Array.getElem?_eq_some_iff.1 (uZ HBQ_57)).1
      have hkn:=hZ ((uZ HNa_57).app (uZ HMa_y) (uZ HNy_57) (by omega))
      obtain⟨w58,hwr⟩:∃zz,w57.alloc (.cells #[.int .i64 (ka:Int),.string (bA ta),.int .i64 (vka:Int),.int .i64 (vna:Int),.string (bA vsa),.slice none 0 0,.slice none 0 0,.bool fa,.slice aka na cka,.int .i64 (pa:Int),.int .i64 (ky:Int),.string (bA ty),.int .i64 (vky:Int),.int .i64 (vny:Int),.string (bA vsy),.slice none 0 0,.slice none 0 0,.bool fy,.slice aky ny cky,.int .i64 (py:Int)] 29)=zz:=⟨_,rfl⟩
      have b:Below w57.heap.size w57 w58:=by rw [←hwr];exact(Below.refl _ _).alloc (Nat.le_refl _) _
      obtain⟨qr,hqr⟩:∃zz,w57.heap.size=zz:=⟨_,rfl⟩
      have hl2:(acc++nsy).length=2:=by rw [List.length_append,hla,hly]
      have HKr_58:Hid (Kr loa w58 (acc++nsy) (.slice (some ⟨qr,0,none⟩) 2 2) [.int .i64 (ka:Int),.string (bA ta),.int .i64 (vka:Int),.int .i64 (vna:Int),.string (bA vsa),.slice none 0 0,.slice none 0 0,.bool fa,.slice aka na cka,.int .i64 (pa:Int),.int .i64 (ky:Int),.string (bA ty),.int .i64 (vky:Int),.int .i64 (vny:Int),.string (bA vsy),.slice none 0 0,.slice none 0 0,.bool fy,.slice aky ny cky,.int .i64 (py:Int)] (Za++Zy)):=hZ (by have h9:=Kr.mk' (uZ hkn) (by rw [hl2];decide);rw [hl2,hqr] at h9;rw [←hwr];exact h9)
      have hQr:Q<qr:=by rw [←hqr];exact hQl
      have APr_Q:=hZ (And.intro (show Q∉Za++Zy from fun hm=>by rcases List.mem_append.1 hm with h|h;exact(uZ HZQ) h;have:=((uZ HNy_57).rg Q h).1;omega) (own_ne (n:=2) (m:=2) hQr))
      have S58:=hZ ((uZ S57).below b)
      have HBQ_58:=bx_be HBQ_57 b
      have HBB_58:=bx_be HBB_57 b
      have HBY_58:=bx_be HBY_57 b
      clear b hkn hQl S57 HBQ_57 HBB_57 HBY_57 HNa_57 HNy_57
      obtain⟨Bp0,Bp1,Bp2,Bp3⟩:=row_cell4 (uZ HBB_58)
      obtain⟨g0,g1,g2,g3,g4,g5,g6,g7,g8,g9⟩:=row_cell10 (uZ HBQ_58)
      obtain⟨z0,z1,z2,z3,z4,z5,z6,z7,z8,z9⟩:=frozen10 (uZ HBQ_58)
      have O:=(uZ S58).own10 ltQ (.int .i64 21) (.string ⟨#[]⟩) (.int .i64 0) (.int .i64 0) (.string ⟨#[]⟩) (.slice none 0 0) (.slice none 0 0) (.bool false) (.slice (some ⟨qr,0,none⟩) 2 2) (.int .i64 (pz:Int))
      have D:=set10 (uZ HBQ_58) (.int .i64 21) (.string ⟨#[]⟩) (.int .i64 0) (.int .i64 0) (.string ⟨#[]⟩) (.slice none 0 0) (.slice none 0 0) (.bool false) (.slice (some ⟨qr,0,none⟩) 2 2) (.int .i64 (pz:Int))
      obtain⟨w59,hw⟩:∃zz,((((((((((w58.setCell ⟨Q,0,none⟩ (.int .i64 21)).setCell ⟨Q,1,none⟩ (.string ⟨#[]⟩)).setCell ⟨Q,2,none⟩ (.int .i64 0)).setCell ⟨Q,3,none⟩ (.int .i64 0)).setCell ⟨Q,4,none⟩ (.string ⟨#[]⟩)).setCell ⟨Q,5,none⟩ (.slice none 0 0)).setCell ⟨Q,6,none⟩ (.slice none 0 0)).setCell ⟨Q,7,none⟩ (.bool false)).setCell ⟨Q,8,none⟩ (.slice (some ⟨qr,0,none⟩) 2 2)).setCell ⟨Q,9,none⟩ (.int .i64 (pz:Int)))=zz:=⟨_,rfl⟩
      rw [hw] at O D
      have S59:=hZ O.1
      have HBQ_59:=hZ D
      have HKr_59:=hZ ((uZ HKr_58).but2 (q:=Q) (fun b _ hb=>O.2.1 b hb) (Nat.le_of_eq O.2.2.symm) (uZ APr_Q).1 (uZ APr_Q).2)
      have HWQ:=hZ hw
      clear hw O D S58 HBQ_58 HBB_58 HBY_58 HKr_58
      go_wp2_with fail
      rw [uZ HWQ]
      clear HWQ hwr hqr g0 z0 g1 z1 g2 z2 g3 z3 g4 z4 g5 z5 g6 z6 g7 z7 g8 z8 g9 z9
      clear Qo0 Yo0 Qo1 Yo1 Qo2 Yo2 Qo3 Yo3 Qo4 Yo4 Qo5 Yo5 Qo6 Yo6 Qo7 Yo7 Qo8 Yo8 Qo9 Yo9 Bo0 Bo1 Bo2 Bo3 Bp0 Bp1 Bp2 Bp3
      go_roundg g1
      case measure=>omega
      case rel=>exact⟨[nd0 21 [] (acc++nsy) pz],_,21,[],0,0,[],false,2,some ⟨qr,0,none⟩,2,pz,_,hZ ⟨by omega,(uZ HJ65),rfl⟩,hZ ⟨uZ S59,uZ HBQ_59,(uZ HKr_59).node' hl2 21 [] 0 0 [] false pz,fun hm=>by rcases List.mem_append.1 hm with h|h;exact absurd (List.mem_singleton.1 h) (show ¬Q=qr by omega);exact(uZ APr_Q).1 h⟩⟩
     ·have HJ64:=hZ ((by have:=(uZ HJ63);rw [if_neg he2] at this;exact this))
      clear HJ63
      have ha0:¬(((opQ c.ts sa).2.e:Nat):Int)=0:=by omega
      have ha1:((((opQ c.ts sa).2.e:Nat):Int) == 0)=false:=beq_eq_false_iff_ne.2 ha0
      have ha2:((((opQ c.ts sa).2.e:Nat):Int) != 0)=true:=by simp;omega
      have ec:=(uZ S54).rd.cells.2.2.2.1
      generalize (opQ c.ts sa).2=s9 at *
      have hr1:=okq_some (uZ HJ64)
      have HR:=hZ (hr1)
      have BX:=(uZ S54).bx
      rw [hG] at BX
      obtain⟨g0,g1,g2,g3,g4,g5,g6,g7,g8,g9⟩:=row_cell10 BX
      obtain⟨z0,z1,z2,z3,z4,z5,z6,z7,z8,z9⟩:=frozen10 BX
      clear BX
      obtain⟨Qc0,Qc1,Qc2,Qc3,Qc4,Qc5,Qc6,Qc7,Qc8,Qc9⟩:=row_cell10 (uZ HBQ_54)
      have FF:=hZ (Sq.done (uZ S54) ((uZ HNa_54).low (lo':=w.heap.size+1) (by omega)) hla hG)
      go_wp2_with fail
      refine bodyPost_ret (ret_c1 (p:=2) (T:=29) rfl _ _ G _ _ _ rfl (uZ FF).1 Tryz.underlying29 rfl size_nd) rfl ?_
      rw [uZ HR]
      exact(uZ FF).2
   ·have HJ63:=hZ ((by have:=(uZ HJ62);rw [if_neg (by rw [hq];decide)] at this;exact this))
    clear HJ62
    have CC:=hZ ((by have:=signq_any (uZ S50).rd [91];rw [hq] at this;exact this))
    go_wp2_with fail
    refine(uZ CC).mono ?_
    rintro e w51 ⟨rfl,b⟩
    have S51:=hZ ((uZ S50).below b)
    have HBQ_51:=bx_be HBQ_50 b
    have HNa_51:=hZ ((uZ HNa_50).beside (Beside.of_below (gr:=c.g) b) (by omega))
    clear b CC S50 HBQ_50 HNa_50
    clear ec
    rcases Bool.eq_false_or_eq_true (isQ c.ts 5 [46] sa) with hq2|hq2
    ·have HJ64:=hZ ((by have:=(uZ HJ63);rw [if_pos hq2] at this;exact this))
     clear HJ63
     have CC:=hZ ((by have:=signq_any (uZ S51).rd [46];rw [hq2] at this;exact this))
     go_wp2_with fail
     refine(uZ CC).mono ?_
     rintro e w52 ⟨rfl,b⟩
     have S52:=hZ ((uZ S51).below b)
     have HBQ_52:=bx_be HBQ_51 b
     have HNa_52:=hZ ((uZ HNa_51).beside (Beside.of_below (gr:=c.g) b) (by omega))
     clear b CC S51 HBQ_51 HNa_51
     have CC:=hZ ((by have:=next_any (uZ S52).rd;rw [uZ HT] at this;simp only [tkA] at this;exact this))
     go_wp2_with fail
     refine(uZ CC).mono ?_
     rintro e w53 ⟨rfl,r2,b⟩
     have S53:=hZ ((uZ S52).go (d':=0) b r2)
     have HBQ_53:=bx_go HBQ_52 b (by omega)
     have HNa_53:=hZ ((uZ HNa_52).beside b (by omega))
     clear b r2 CC S52 HBQ_52 HNa_52
     go_upto_region 15 with fail
     obtain⟨w54,hw⟩:∃zz,w53.alloc (.cells #[.int .i64 (k:Int),.string (bA t),.int .i64 (n:Int),.int .i64 (p:Int)] 52)=zz:=⟨_,rfl⟩
     have b:Below w53.heap.size w53 w54:=by rw [←hw];exact(Below.refl _ _).alloc (Nat.le_refl _) _
     obtain⟨B,hQ⟩:∃zz,w53.heap.size=zz:=⟨_,rfl⟩
     have HBB_54:Hid (w54.heap[B]?=some (.cells #[.int .i64 (k:Int),.string (bA t),.int .i64 (n:Int),.int .i64 (p:Int)] 52 (0,0))):=hZ (by rw [←hw,←hQ];exact heap_alloc_new _ _)
     have S54:=hZ ((uZ S53).below b)
     have HBQ_54:=bx_be HBQ_53 b
     have HNa_54:=hZ ((uZ HNa_53).beside (Beside.of_below (gr:=c.g) b) (by omega))
     have lQ_B:Q<B:=by rw [←hQ];exact(Array.getElem?_eq_some_iff.1 (uZ HBQ_53)).1
     have ANa_B:=hZ ((uZ HNa_53).fresh hQ)
     have ltB:w.heap.size<B:=by rw [←hQ];exact(uZ S53).lt
     rw [hw]
     try rw [hQ]
     clear hw hQ b S53 HBQ_53 HNa_53
     obtain⟨⟨kz,tz,nz,pz⟩,ht⟩:∃zz,(muQ c.ts 1 [] (nxQ c.ts sa)).1=zz:=⟨_,rfl⟩
     have HTz:=hZ ht
     clear ht
     have HJ65:=hZ ((by have:=(uZ HJ64);rw [uZ HTz] at this;simp only [] at this;exact this))
     clear HJ64
     have CC:=hZ ((by have:=must_any (uZ S54).rd 1 [];rw [uZ HTz] at this;simp only [tkA] at this;exact this))
     go_wp2_with fail
     refine(uZ CC).mono ?_
     rintro e w55 ⟨rfl,r2,b⟩
     have S55:=hZ ((uZ S54).go (d':=0) b r2)
     have HBQ_55:=bx_go HBQ_54 b (by omega)
     have HBB_55:=bx_go HBB_54 b (by omega)
     have HNa_55:=hZ ((uZ HNa_54).beside b (by omega))
     clear b r2 CC S54 HBQ_54 HBB_54 HNa_54
     go_upto_region 16 with fail
     obtain⟨w56,hw⟩:∃zz,w55.alloc (.cells #[.int .i64 (kz:Int),.string (bA tz),.int .i64 (nz:Int),.int .i64 (pz:Int)] 52)=zz:=⟨_,rfl⟩
     have b:Below w55.heap.size w55 w56:=by rw [←hw];exact(Below.refl _ _).alloc (Nat.le_refl _) _
     obtain⟨K,hQ⟩:∃zz,w55.heap.size=zz:=⟨_,rfl⟩
     have HBK_56:Hid (w56.heap[K]?=some (.cells #[.int .i64 (kz:Int),.string (bA tz),.int .i64 (nz:Int),.int .i64 (pz:Int)] 52 (0,0))):=hZ (by rw [←hw,←hQ];exact heap_alloc_new _ _)
     have S56:=hZ ((uZ S55).below b)
     have HBQ_56:=bx_be HBQ_55 b
     have HBB_56:=bx_be HBB_55 b
     have HNa_56:=hZ ((uZ HNa_55).beside (Beside.of_below (gr:=c.g) b) (by omega))
     have lQ_K:Q<K:=by rw [←hQ];exact(Array.getElem?_eq_some_iff.1 (uZ HBQ_55)).1
     have lB_K:B<K:=by rw [←hQ];exact(Array.getElem?_eq_some_iff.1 (uZ HBB_55)).1
     have ANa_K:=hZ ((uZ HNa_55).fresh hQ)
     have ltK:w.heap.size<K:=by rw [←hQ];exact(uZ S55).lt
     rw [hw]
     try rw [hQ]
     clear hw hQ b S55 HBQ_55 HBB_55 HNa_55
     obtain⟨Qo0,Qo1,Qo2,Qo3,Qo4,Qo5,Qo6,Qo7,Qo8,Qo9⟩:=row_cell10 (uZ HBQ_56)
     obtain⟨Bo0,Bo1,Bo2,Bo3⟩:=row_cell4 (uZ HBB_56)
     obtain⟨Ko0,Ko1,Ko2,Ko3⟩:=row_cell4 (uZ HBK_56)
     have hQl:=(Array.getElem?_eq_some_iff.1 (uZ HBQ_56)).1
     have hkn:=hZ (uZ HNa_56)
     obtain⟨w57,hwr⟩:∃zz,w56.alloc (.cells #[.int .i64 (ka:Int),.string (bA ta),.int .i64 (vka:Int),.int .i64 (vna:Int),.string (bA vsa),.slice none 0 0,.slice none 0 0,.bool fa,.slice aka na cka,.int .i64 (pa:Int)] 29)=zz:=⟨_,rfl⟩
     have b:Below w56.heap.size w56 w57:=by rw [←hwr];exact(Below.refl _ _).alloc (Nat.le_refl _) _
     obtain⟨qr,hqr⟩:∃zz,w56.heap.size=zz:=⟨_,rfl⟩
     have HKr_57:Hid (Kr loa w57 _ (.slice (some ⟨qr,0,none⟩) _ _) [.int .i64 (ka:Int),.string (bA ta),.int .i64 (vka:Int),.int .i64 (vna:Int),.string (bA vsa),.slice none 0 0,.slice none 0 0,.bool fa,.slice aka na cka,.int .i64 (pa:Int)] _):=hZ (by rw [←hwr,←hqr];exact Kr.mk' (uZ hkn) (by rw [hla];decide))
     rw [hla] at HKr_57
     have ltr:w.heap.size<qr:=by rw [←hqr];exact(uZ S56).lt
     have S57:=hZ ((uZ S56).below b)
     have HBQ_57:=bx_be HBQ_56 b
     have HBB_57:=bx_be HBB_56 b
     have HBK_57:=bx_be HBK_56 b
     clear b hkn S56 HBQ_56 HBB_56 HBK_56 HNa_56
     have hQr:Q<qr:=by rw [←hqr];exact hQl
     have APr_Q:=hZ (And.intro (uZ HZQ) (own_ne (n:=1) (m:=1) hQr))
     clear hQl
     obtain⟨Bp0,Bp1,Bp2,Bp3⟩:=row_cell4 (uZ HBB_57)
     obtain⟨g0,g1,g2,g3,g4,g5,g6,g7,g8,g9⟩:=row_cell10 (uZ HBQ_57)
     obtain⟨z0,z1,z2,z3,z4,z5,z6,z7,z8,z9⟩:=frozen10 (uZ HBQ_57)
     have O:=(uZ S57).own10 ltQ (.int .i64 22) (.string (bA tz)) (.int .i64 0) (.int .i64 0) (.string ⟨#[]⟩) (.slice none 0 0) (.slice none 0 0) (.bool false) (.slice (some ⟨qr,0,none⟩) 1 1) (.int .i64 (p:Int))
     have D:=set10 (uZ HBQ_57) (.int .i64 22) (.string (bA tz)) (.int .i64 0) (.int .i64 0) (.string ⟨#[]⟩) (.slice none 0 0) (.slice none 0 0) (.bool false) (.slice (some ⟨qr,0,none⟩) 1 1) (.int .i64 (p:Int))
     obtain⟨w58,hw⟩:∃zz,((((((((((w57.setCell ⟨Q,0,none⟩ (.int .i64 22)).setCell ⟨Q,1,none⟩ (.string (bA tz))).setCell ⟨Q,2,none⟩ (.int .i64 0)).setCell ⟨Q,3,none⟩ (.int .i64 0)).setCell ⟨Q,4,none⟩ (.string ⟨#[]⟩)).setCell ⟨Q,5,none⟩ (.slice none 0 0)).setCell ⟨Q,6,none⟩ (.slice none 0 0)).setCell ⟨Q,7,none⟩ (.bool false)).setCell ⟨Q,8,none⟩ (.slice (some ⟨qr,0,none⟩) 1 1)).setCell ⟨Q,9,none⟩ (.int .i64 (p:Int)))=zz:=⟨_,rfl⟩
     rw [hw] at O D
     have S58:=hZ O.1
     have HBQ_58:=hZ D
     have HKr_58:=hZ ((uZ HKr_57).but2 (q:=Q) (fun b _ hb=>O.2.1 b hb) (Nat.le_of_eq O.2.2.symm) (uZ APr_Q).1 (uZ APr_Q).2)
     have HWQ:=hZ hw
     clear hw O D S57 HBQ_57 HBB_57 HBK_57 HKr_57
     go_wp2_with fail
     rw [uZ HWQ]
     clear HWQ hwr hqr g0 z0 g1 z1 g2 z2 g3 z3 g4 z4 g5 z5 g6 z6 g7 z7 g8 z8 g9 z9
     clear Qo0 Qo1 Qo2 Qo3 Qo4 Qo5 Qo6 Qo7 Qo8 Qo9 Bo0 Bo1 Bo2 Bo3 Bp0 Bp1 Bp2 Bp3 Ko0 Ko1 Ko2 Ko3
     go_roundg g1
     case measure=>omega
     case rel=>exact⟨[nd0 22 tz acc p],_,22,tz,0,0,[],false,1,some ⟨qr,0,none⟩,1,p,_,hZ ⟨by omega,(uZ HJ65),rfl⟩,hZ ⟨uZ S58,uZ HBQ_58,(uZ HKr_58).node' hla 22 tz 0 0 [] false p,fun hm=>by rcases List.mem_append.1 hm with h|h;exact absurd (List.mem_singleton.1 h) (show ¬Q=qr by omega);exact(uZ APr_Q).1 h⟩⟩
    ·have HJ64:=hZ ((by have:=(uZ HJ63);rw [if_neg (by rw [hq2];decide)] at this;exact this))
     clear HJ63
     have CC:=hZ ((by have:=signq_any (uZ S51).rd [46];rw [hq2] at this;exact this))
     go_wp2_with fail
     refine(uZ CC).mono ?_
     rintro e w52 ⟨rfl,b⟩
     have S52:=hZ ((uZ S51).below b)
     have HBQ_52:=bx_be HBQ_51 b
     have HNa_52:=hZ ((uZ HNa_51).beside (Beside.of_below (gr:=c.g) b) (by omega))
     clear b CC S51 HBQ_51 HNa_51
     have hr1:=okq_some (uZ HJ64)
     have HR:=hZ (hr1)
     have BX:=(uZ S52).bx
     rw [hG] at BX
     obtain⟨g0,g1,g2,g3,g4,g5,g6,g7,g8,g9⟩:=row_cell10 BX
     obtain⟨z0,z1,z2,z3,z4,z5,z6,z7,z8,z9⟩:=frozen10 BX
     clear BX
     obtain⟨Qc0,Qc1,Qc2,Qc3,Qc4,Qc5,Qc6,Qc7,Qc8,Qc9⟩:=row_cell10 (uZ HBQ_52)
     have FF:=hZ (Sq.done (uZ S52) ((uZ HNa_52).low (lo':=w.heap.size+1) (by omega)) hla hG)
     go_wp2_with fail
     refine bodyPost_ret (ret_c1 (p:=2) (T:=29) rfl _ _ G _ _ _ rfl (uZ FF).1 Tryz.underlying29 rfl size_nd) rfl ?_
     rw [uZ HR]
     exact(uZ FF).2
  ·have HJ62:=hZ ((by have:=(uZ HJ61);rw [if_neg he] at this;exact this))
   clear HJ61
   have he0:¬((sa.e:Nat):Int)=0:=by omega
   have he1:(((sa.e:Nat):Int) == 0)=false:=beq_eq_false_iff_ne.2 he0
   have ec:=(uZ S50).rd.cells.2.2.2.1
   have hr1:=okq_some (uZ HJ62)
   have HR:=hZ (hr1)
   have BX:=(uZ S50).bx
   rw [hG] at BX
   obtain⟨g0,g1,g2,g3,g4,g5,g6,g7,g8,g9⟩:=row_cell10 BX
   obtain⟨z0,z1,z2,z3,z4,z5,z6,z7,z8,z9⟩:=frozen10 BX
   clear BX
   obtain⟨Qc0,Qc1,Qc2,Qc3,Qc4,Qc5,Qc6,Qc7,Qc8,Qc9⟩:=row_cell10 (uZ HBQ_50)
   have FF:=hZ (Sq.done (uZ S50) ((uZ HNa_50).low (lo':=w.heap.size+1) (by omega)) hla hG)
   go_wp2_with fail
   refine bodyPost_ret (ret_c1 (p:=2) (T:=29) rfl _ _ G _ _ _ rfl (uZ FF).1 Tryz.underlying29 rfl size_nd) rfl ?_
   rw [uZ HR]
   exact(uZ FF).2
end Go.Proofs.YtilhlmmcdfoaoaaGreatDoor
