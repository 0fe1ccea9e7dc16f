/-
  Layer 17 (parse): an operand, and each At and Dot behind it; conditions: the reader's state.
-/
import Derived.Test.YtjdpaihhhjdgmaaGreatDoorA39
import Derived.Deep.LoopGhost
set_option linter.unusedVariables false
set_option linter.unusedSimpArgs false
set_option maxRecDepth 100000
set_option maxHeartbeats 8000000
namespace Go.Proofs.YtjdpaihhhjdgmaaGreatDoor
open Go.RowKit
set_option linter.unusedVariables false
set_option linter.unusedSimpArgs false
theorem reached_step {c:Cx} {l:List Tk} {d:Nat} {w:World} {r:Rs (List Nd)} {f:Nat} (iho:∀{c:Cx} {l:List Tk} {d:Nat} {w:World} {r:Rs (List Nd)},PJ f 5 0 [] l d=some r→Rd w c l d→Calls Tryz.prog 195 #[.pointer (some ⟨c.g,0,none⟩)] w fun e w'=>NdP c w d r e w') (ihe:∀{f1:Nat},f1≤f→∀{c:Cx} {l:List Tk} {d:Nat} {w:World} {r:Rs (List Nd)},PJ f1 0 0 [] l d=some r→Rd w c l d→Calls Tryz.prog 161 #[.pointer (some ⟨c.g,0,none⟩)] w fun e w'=>NdP c w d r e w') (hJ:PJ (f+1) 24 0 [] l d=some r) (h:Rd w c l d) :
  Calls Tryz.prog 194 #[.pointer (some ⟨c.g,0,none⟩)] w fun e w'=>NdP c w d r e w':=by
 have S1:=hZ (St.start h 28 #[.int .i64 0,.string ⟨#[]⟩,.int .i64 0,.int .i64 0,.string ⟨#[]⟩,.slice none 0 0,.slice none 0 0,.bool false,.slice none 0 0,.int .i64 0])
 obtain⟨w1,hw1⟩:=eX (w.alloc (.cells #[.int .i64 0,.string ⟨#[]⟩,.int .i64 0,.int .i64 0,.string ⟨#[]⟩,.slice none 0 0,.slice none 0 0,.bool false,.slice none 0 0,.int .i64 0] 28))
 rw [hw1] at S1
 obtain⟨G,hG⟩:=eX (w.heap.size)
 have hgw:c.g<w.heap.size:=h.cells.2.2.2.2.2
 clear h
 go_enter Tryz.func194,Tryz.ntmps194
 have HJ0:=hZ (show jReached (PJ f) l d=some r from hJ)
 clear hJ
 have HJ1:=hZ ((by have:=uZ HJ0;unfold jReached at this;exact this))
 clear HJ0
 obtain⟨loa,hloa⟩:=eX (w.heap.size+1)
 obtain⟨yx,hy,hth⟩:=bnd_some (uZ HJ1)
 have HJ2:=hZ (hth)
 clear HJ1
 clear hth
 have CR:=hZ (iho hy (uZ S1).rd)
 have HYX:=hZ hy
 clear hy
 rcases yx with ⟨ea,ep⟩|⟨nsx,lx⟩
 ·have HR:=hZ (thn_err (uZ HJ2))
  go_wp2_with fail
  refine(uZ CR).mono ?_
  rintro e wx ⟨rfl,b⟩
  have HX:=hZ ((uZ S1).bad b)
  clear b CR
  unfold fltP
  go_wp2_with fail
  exact⟨rfl,by rw [uZ HR];exact⟨rfl,uZ HX⟩⟩
 ·have HJ3:=hZ (thn_ok (uZ HJ2))
  clear HJ2
  go_wp2_with fail
  refine(uZ CR).mono ?_
  rintro e w2 ⟨kx,tx,vkx,vnx,vsx,fx,nx,akx,ckx,px,Zx,rfl,hlx,hn,r2,b⟩
  have S2:=hZ ((uZ S1).go b r2)
  obtain⟨lox,hlo⟩:=eX (w1.heap.size)
  have ltlox:w.heap.size<lox:=by rw [←hlo];exact(uZ S1).lt
  rw [hlo] at hn
  have HNx_2:=hZ hn
  clear hlo b r2 hn CR S1
  have ANx:=hZ ((uZ HNx_2).fresh rfl)
  obtain⟨w3,hw⟩:=eX (w2.alloc (.cells #[.int .i64 (kx:Int),.string (bA tx),.int .i64 (vkx:Int),.int .i64 (vnx:Int),.string (bA vsx),.slice none 0 0,.slice none 0 0,.bool fx,.slice akx nx ckx,.int .i64 (px:Int)] 28))
  have b:=alB hw
  obtain⟨Q,hQ⟩:=eX (w2.heap.size)
  rw [hQ] at ANx
  have HBQ_3:Hid (w3.heap[Q]?=some (.cells #[.int .i64 (kx:Int),.string (bA tx),.int .i64 (vkx:Int),.int .i64 (vnx:Int),.string (bA vsx),.slice none 0 0,.slice none 0 0,.bool fx,.slice akx nx ckx,.int .i64 (px:Int)] 28 (0,0))):=hZ (by rw [←hw,←hQ];exact heap_alloc_new _ _)
  have S3:=hZ ((uZ S2).below b)
  have HNx_3:=hZ ((uZ HNx_2).beside (Beside.of_below (gr:=c.g) b) (by omega))
  have ltQ:w.heap.size<Q:=by rw [←hQ];exact(uZ S2).lt
  clear b S2 HNx_2
  go_wp2_with fail
  clear hw hQ
  go_loopg [] f (fun gk wr=>∃(acc:List Nd) (la:List Tk) (ka:Nat) (ta:List UInt8) (vka vna:Nat) (vsa:List UInt8) (fa:Bool) (na:Nat) (aka:Option Addr) (cka pa:Nat) (Za:List Nat),Hid (gk≤f∧PJ gk 4 0 acc la d=some r∧acc.length=1)∧Hid (St w c 28 #[.int .i64 0,.string ⟨#[]⟩,.int .i64 0,.int .i64 0,.string ⟨#[]⟩,.slice none 0 0,.slice none 0 0,.bool false,.slice none 0 0,.int .i64 0] wr la d∧wr.heap[Q]?=some (.cells #[.int .i64 (ka:Int),.string (bA ta),.int .i64 (vka:Int),.int .i64 (vna:Int),.string (bA vsa),.slice none 0 0,.slice none 0 0,.bool fa,.slice aka na cka,.int .i64 (pa:Int)] 28 (0,0))∧NdOk loa wr acc (ndC ka ta vka vna vsa fa na aka cka pa) Za∧Q∉Za))
  case atStart=>exact⟨nsx,lx,kx,tx,vkx,vnx,vsx,fx,nx,akx,ckx,px,Zx,hZ ⟨Nat.le_refl _,(uZ HJ3),hlx⟩,hZ ⟨uZ S3,uZ HBQ_3,(uZ HNx_3).low (by omega),uZ ANx⟩⟩
  case round=>
   clear HJ3 HNx_3 S3 HBQ_3 ANx
   obtain⟨acc,la,ka,ta,vka,vna,vsa,fa,na,aka,cka,pa,Za,HA,HI⟩:=hrel
   obtain⟨w50,hw50⟩:∃zz,zz=wr:=⟨_,rfl⟩
   subst hw50
   have S50:=hZ (uZ HI).1
   have HBQ_50:=hZ (uZ HI).2.1
   have HNa_50:=hZ (uZ HI).2.2.1
   have HZQ:=hZ (uZ HI).2.2.2
   obtain⟨g1,hg1⟩:=PJ_fuel (uZ HA).2.1
   subst hg1
   have HJ60:=hZ (show jReL (PJ g1) acc la d=some r from (uZ HA).2.1)
   have hla:=(uZ HA).2.2
   have hgf:=(uZ HA).1
   clear HI HA
   have HJ61:=hZ ((by have:=uZ HJ60;unfold jReL at this;exact this))
   clear HJ60
   by_cases hb:isS [91] la=true
   ·have hq:isS [91] la=true:=by simpa using hb
    have CC:=hZ ((by have:=seesSign_any (uZ S50).rd [91];rw [hq] at this;exact this))
    go_wp2_with fail
    refine(uZ CC).mono ?_
    rintro e w51 ⟨rfl,b⟩
    have S51:=hZ ((uZ S50).below b)
    have HBQ_51:=bx_be HBQ_50 b
    have HNa_51:=hZ ((uZ HNa_50).beside (Beside.of_below (gr:=c.g) b) (by omega))
    clear b CC S50 HBQ_50 HNa_50
    have HJ62:=hZ ((by have:=(uZ HJ61);rw [if_pos hq] at this;exact this))
    clear HJ61
    obtain⟨⟨k,t,n,p⟩,ht⟩:∃t,hdT la=t:=⟨_,rfl⟩
    have HT:=hZ ht
    clear ht
    have hlw:=(uZ S51).rd.low
    have hqq:=hZ hq
    by_cases hd:d<24
    ·have HJ63:=hZ ((by have:=thn_en (uZ hqq) hd (uZ HJ62);rw [uZ HT] at this;exact this))
     clear HJ62
     have CC:=hZ ((by have:=ent_ok (uZ S51).rd [91] (uZ hqq) hd;rw [uZ HT] at this;simp only [tkA] at this;exact this))
     go_wp2_with fail
     refine(uZ CC).mono ?_
     rintro e w52 ⟨rfl,r2,b⟩
     have S52:=hZ ((uZ S51).go b r2)
     have HBQ_52:=bx_go HBQ_51 b (by omega)
     have HNa_52:=hZ ((uZ HNa_51).beside b (by omega))
     clear b r2 CC S51 HBQ_51 HNa_51
     go_upto_region 5 with (first|(refine wpl_tk3 rfl _ rfl _ _ _ _ rfl ?_)|(refine wpl_tk1 rfl _ rfl _ _ _ _ rfl ?_)|(refine wpl_tk0 rfl _ rfl _ _ _ _ rfl ?_))
     obtain⟨Qc0,Qc1,Qc2,Qc3,Qc4,Qc5,Qc6,Qc7,Qc8,Qc9⟩:=row_cell10 (uZ HBQ_52)
     have HS0:Hid (w52.drew.cell? ⟨Q,0,none⟩=some (.int .i64 (ka:Int))∧w52.drew.cell? ⟨Q,1,none⟩=some (.string (bA ta))∧w52.drew.cell? ⟨Q,2,none⟩=some (.int .i64 (vka:Int))∧w52.drew.cell? ⟨Q,3,none⟩=some (.int .i64 (vna:Int))∧w52.drew.cell? ⟨Q,4,none⟩=some (.string (bA vsa))∧w52.drew.cell? ⟨Q,5,none⟩=some (.slice none 0 0)∧w52.drew.cell? ⟨Q,6,none⟩=some (.slice none 0 0)∧w52.drew.cell? ⟨Q,7,none⟩=some (.bool fa)∧w52.drew.cell? ⟨Q,8,none⟩=some (.slice aka na cka)∧w52.drew.cell? ⟨Q,9,none⟩=some (.int .i64 (pa:Int))):=hZ (⟨Qc0,Qc1,Qc2,Qc3,Qc4,Qc5,Qc6,Qc7,Qc8,Qc9⟩)
     refine till_begin (S:=fun w'=>w'.cell? ⟨Q,0,none⟩=some (.int .i64 (ka:Int))∧w'.cell? ⟨Q,1,none⟩=some (.string (bA ta))∧w'.cell? ⟨Q,2,none⟩=some (.int .i64 (vka:Int))∧w'.cell? ⟨Q,3,none⟩=some (.int .i64 (vna:Int))∧w'.cell? ⟨Q,4,none⟩=some (.string (bA vsa))∧w'.cell? ⟨Q,5,none⟩=some (.slice none 0 0)∧w'.cell? ⟨Q,6,none⟩=some (.slice none 0 0)∧w'.cell? ⟨Q,7,none⟩=some (.bool fa)∧w'.cell? ⟨Q,8,none⟩=some (.slice aka na cka)∧w'.cell? ⟨Q,9,none⟩=some (.int .i64 (pa:Int))) 6 (by kernel_rfl) ?_
     obtain⟨w53,hWD⟩:=eX (w52.drew)
     have bD:Below w52.heap.size w52 w53:=by rw [←hWD];exact(Below.refl _ _).drew
     rw [hWD] at HS0
     rw [hWD]
     have S53:=hZ ((uZ S52).below bD)
     have HBQ_53:=bx_be HBQ_52 bD
     have HNa_53:=hZ ((uZ HNa_52).beside (Beside.of_below (gr:=c.g) bD) (by omega))
     clear hWD bD S52 HBQ_52 HNa_52
     clear Qc0 Qc1 Qc2 Qc3 Qc4 Qc5 Qc6 Qc7 Qc8 Qc9
     refine tK 0 (v:=.agg #[.int .i64 (ka:Int),.string (bA ta),.int .i64 (vka:Int),.int .i64 (vna:Int),.string (bA vsa),.slice none 0 0,.slice none 0 0,.bool fa,.slice aka na cka,.int .i64 (pa:Int)]) (some 15) rfl rfl rfl (by kernel_rfl) (fun _ _ _ h=>h) (Or.inl ⟨by rfl,fun u hu=>by obtain⟨b0,b1,b2,b3,b4,b5,b6,b7,b8,b9⟩:=hu;go_simp⟩) (uZ HS0) ?_
     try simp only [Act.put,sA,sB,sC]
     refine tK 1 (v:=.pointer (some ⟨c.g,0,none⟩)) (some 16) rfl rfl rfl (by kernel_rfl) (fun _ _ _ h=>h) (Or.inl ⟨by rfl,fun u hu=>by obtain⟨b0,b1,b2,b3,b4,b5,b6,b7,b8,b9⟩:=hu;go_simp⟩) (uZ HS0) ?_
     try simp only [Act.put,sA,sB,sC]
     refine tK 4 (v:=.int .i64 (p:Int)) (some 19) rfl rfl rfl (by kernel_rfl) (fun _ _ _ h=>h) (Or.inl ⟨by rfl,fun u hu=>by obtain⟨b0,b1,b2,b3,b4,b5,b6,b7,b8,b9⟩:=hu;go_simp⟩) (uZ HS0) ?_
     try simp only [Act.put,sA,sB,sC]
     obtain⟨yy,hy,hth⟩:=bnd_some (uZ HJ63)
     have HJ64:=hZ (hth)
     clear HJ63
     clear hth
     have CR:=hZ (ihe (f1:=g1) (by omega) hy (uZ S53).rd)
     have HYX:=hZ hy
     clear hy
     rcases yy with ⟨ea,ep⟩|⟨nsy,ly⟩
     ·have HR:=hZ (thn_err (uZ HJ64))
      refine till_one 2 (by kernel_rfl) rfl (fun K hK=>?_)
      go_simp
      refine(uZ CR).mono ?_
      rintro e wx ⟨rfl,b⟩
      have HX:=hZ ((uZ S53).bad b)
      clear b CR
      unfold fltP
      go_wp2_with fail
      exact⟨rfl,by rw [uZ HR];exact⟨rfl,uZ HX⟩⟩
     ·have HJ65:=hZ (thn_ok (uZ HJ64))
      clear HJ64
      refine till_one 2 (by kernel_rfl) rfl (fun K hK=>?_)
      go_simp
      refine(uZ CR).mono ?_
      rintro e w54 ⟨ky,ty,vky,vny,vsy,fy,ny,aky,cky,py,Zy,rfl,hly,hn,r2,b⟩
      have S54:=hZ ((uZ S53).go b r2)
      have HBQ_54:=bx_go HBQ_53 b (by omega)
      have HNa_54:=hZ ((uZ HNa_53).beside b (by omega))
      obtain⟨loy,hlo⟩:=eX (w53.heap.size)
      have ltloy:w.heap.size<loy:=by rw [←hlo];exact(uZ S53).lt
      have lqQ_y:Q<loy:=by rw [←hlo];exact(Array.getElem?_eq_some_iff.1 (uZ HBQ_53)).1
      have HMa_y:Hid (∀b∈Za,b<loy):=hZ (fun b hb=>by rw [←hlo];exact((uZ HNa_53).rg b hb).2)
      have lea_y:loa≤loy:=by rw [←hlo];exact(uZ HNa_53).le
      rw [hlo] at hn
      have HNy_54:=hZ hn
      clear hlo b r2 hn CR S53 HBQ_53 HNa_53
      clear HS0
      have HS0:Hid (w54.cell? ⟨Q,0,none⟩=some (.int .i64 (ka:Int))∧w54.cell? ⟨Q,1,none⟩=some (.string (bA ta))∧w54.cell? ⟨Q,2,none⟩=some (.int .i64 (vka:Int))∧w54.cell? ⟨Q,3,none⟩=some (.int .i64 (vna:Int))∧w54.cell? ⟨Q,4,none⟩=some (.string (bA vsa))∧w54.cell? ⟨Q,5,none⟩=some (.slice none 0 0)∧w54.cell? ⟨Q,6,none⟩=some (.slice none 0 0)∧w54.cell? ⟨Q,7,none⟩=some (.bool fa)∧w54.cell? ⟨Q,8,none⟩=some (.slice aka na cka)∧w54.cell? ⟨Q,9,none⟩=some (.int .i64 (pa:Int))):=hZ (by exact row_cell10 (uZ HBQ_54))
      go_wp2_with fail
      refine hK.out _ _ (Or.inr (uZ HS0)) ?_
      clear hK K
      try simp only [Act.put,sA,sB,sC]
      have hQl:=(Array.getElem?_eq_some_iff.1 (uZ HBQ_54)).1
      have hkn:=hZ ((uZ HNa_54).app (uZ HMa_y) (uZ HNy_54) (by omega))
      obtain⟨w55,hwr⟩:=eX (w54.alloc (.cells #[.int .i64 (ka:Int),.string (bA ta),.int .i64 (vka:Int),.int .i64 (vna:Int),.string (bA vsa),.slice none 0 0,.slice none 0 0,.bool fa,.slice aka na cka,.int .i64 (pa:Int),.int .i64 (ky:Int),.string (bA ty),.int .i64 (vky:Int),.int .i64 (vny:Int),.string (bA vsy),.slice none 0 0,.slice none 0 0,.bool fy,.slice aky ny cky,.int .i64 (py:Int)] 28))
      have b:=alB hwr
      obtain⟨qr,hqr⟩:=eX (w54.heap.size)
      have hl2:(acc++nsy).length=2:=by rw [List.length_append,hla,hly]
      have HKr_55:Hid (Kr loa w55 (acc++nsy) (.slice (some ⟨qr,0,none⟩) 2 2) [.int .i64 (ka:Int),.string (bA ta),.int .i64 (vka:Int),.int .i64 (vna:Int),.string (bA vsa),.slice none 0 0,.slice none 0 0,.bool fa,.slice aka na cka,.int .i64 (pa:Int),.int .i64 (ky:Int),.string (bA ty),.int .i64 (vky:Int),.int .i64 (vny:Int),.string (bA vsy),.slice none 0 0,.slice none 0 0,.bool fy,.slice aky ny cky,.int .i64 (py:Int)] (Za++Zy)):=hZ (by have h9:=Kr.mk' (uZ hkn) (by rw [hl2];decide);rw [hl2,hqr] at h9;rw [←hwr];exact h9)
      have hQr:Q<qr:=by rw [←hqr];exact hQl
      have APr_Q:=hZ (And.intro (show Q∉Za++Zy from fun hm=>by rcases List.mem_append.1 hm with h|h;exact(uZ HZQ) h;have:=((uZ HNy_54).rg Q h).1;omega) (own_ne (n:=2) (m:=2) hQr))
      have S55:=hZ ((uZ S54).below b)
      have HBQ_55:=bx_be HBQ_54 b
      clear b hkn S54 HBQ_54 HNa_54 HNy_54
      refine till_one 3 (by kernel_rfl) rfl (fun K hK=>?_)
      go_simp
      try rw [hwr]
      try rw [hqr]
      clear HS0
      have HS0:Hid (w55.cell? ⟨Q,0,none⟩=some (.int .i64 (ka:Int))∧w55.cell? ⟨Q,1,none⟩=some (.string (bA ta))∧w55.cell? ⟨Q,2,none⟩=some (.int .i64 (vka:Int))∧w55.cell? ⟨Q,3,none⟩=some (.int .i64 (vna:Int))∧w55.cell? ⟨Q,4,none⟩=some (.string (bA vsa))∧w55.cell? ⟨Q,5,none⟩=some (.slice none 0 0)∧w55.cell? ⟨Q,6,none⟩=some (.slice none 0 0)∧w55.cell? ⟨Q,7,none⟩=some (.bool fa)∧w55.cell? ⟨Q,8,none⟩=some (.slice aka na cka)∧w55.cell? ⟨Q,9,none⟩=some (.int .i64 (pa:Int))):=hZ (by exact row_cell10 (uZ HBQ_55))
      refine hK.out _ _ (Or.inr (uZ HS0)) ?_
      clear hK K hwr hqr
      try simp only [Act.put,sA,sB,sC]
      refine tK 5 (v:=.agg #[.int .i64 21,.string ⟨#[]⟩,.int .i64 0,.int .i64 0,.string ⟨#[]⟩,.slice none 0 0,.slice none 0 0,.bool false,.slice (some ⟨qr,0,none⟩) 2 2,.int .i64 (p:Int)]) (some 20) rfl rfl rfl (by kernel_rfl) (fun _ _ _ h=>h) (Or.inl ⟨by rfl,fun u hu=>by obtain⟨b0,b1,b2,b3,b4,b5,b6,b7,b8,b9⟩:=hu;go_simp⟩) (uZ HS0) ?_
      try simp only [Act.put,sA,sB,sC]
      obtain⟨g0,g1,g2,g3,g4,g5,g6,g7,g8,g9⟩:=row_cell10 (uZ HBQ_55)
      obtain⟨z0,z1,z2,z3,z4,z5,z6,z7,z8,z9⟩:=frozen10 (uZ HBQ_55)
      refine till_one 6 (by kernel_rfl) rfl (fun K hK=>?_)
      go_simp
      refine hK.out _ _ (Or.inl (by first|rfl|trivial)) ?_
      clear hK K HS0 g0 z0 g1 z1 g2 z2 g3 z3 g4 z4 g5 z5 g6 z6 g7 z7 g8 z8 g9 z9
      try simp only [Act.put,sA,sB,sC]
      refine till_done (by kernel_rfl) ?_ _
      have O:=(uZ S55).own10 ltQ (.int .i64 21) (.string ⟨#[]⟩) (.int .i64 0) (.int .i64 0) (.string ⟨#[]⟩) (.slice none 0 0) (.slice none 0 0) (.bool false) (.slice (some ⟨qr,0,none⟩) 2 2) (.int .i64 (p:Int))
      have D:=set10 (uZ HBQ_55) (.int .i64 21) (.string ⟨#[]⟩) (.int .i64 0) (.int .i64 0) (.string ⟨#[]⟩) (.slice none 0 0) (.slice none 0 0) (.bool false) (.slice (some ⟨qr,0,none⟩) 2 2) (.int .i64 (p:Int))
      obtain⟨w56,hw⟩:=eX (((((((((((w55.setCell ⟨Q,0,none⟩ (.int .i64 21)).setCell ⟨Q,1,none⟩ (.string ⟨#[]⟩)).setCell ⟨Q,2,none⟩ (.int .i64 0)).setCell ⟨Q,3,none⟩ (.int .i64 0)).setCell ⟨Q,4,none⟩ (.string ⟨#[]⟩)).setCell ⟨Q,5,none⟩ (.slice none 0 0)).setCell ⟨Q,6,none⟩ (.slice none 0 0)).setCell ⟨Q,7,none⟩ (.bool false)).setCell ⟨Q,8,none⟩ (.slice (some ⟨qr,0,none⟩) 2 2)).setCell ⟨Q,9,none⟩ (.int .i64 (p:Int))))
      rw [hw] at O D
      have S56:=hZ O.1
      have HBQ_56:=hZ D
      have HKr_56:=hZ ((uZ HKr_55).but2 (q:=Q) (fun b _ hb=>O.2.1 b hb) (Nat.le_of_eq O.2.2.symm) (uZ APr_Q).1 (uZ APr_Q).2)
      rw [hw]
      clear hw O D S55 HBQ_55 HKr_55
      by_cases hb:isS [93] ly=true
      ·have hq:isS [93] ly=true:=by simpa using hb
       have HJ66:=hZ (thn_sg hq (uZ HJ65))
       clear HJ65
       have CC:=hZ (leave_ok (uZ S56).rd [93] hq)
       go_wp2_with fail
       refine(uZ CC).mono ?_
       rintro e w57 ⟨rfl,r2,b⟩
       have S57:=hZ ((uZ S56).go b r2)
       have HBQ_57:=bx_go HBQ_56 b (by omega)
       have HKr_57:=hZ ((uZ HKr_56).beside b (by omega))
       clear b r2 CC S56 HBQ_56 HKr_56
       go_wp2_with fail
       go_roundg g1
       case measure=>omega
       case rel=>exact⟨[nd0 21 [] (acc++nsy) p],_,21,[],0,0,[],false,2,some ⟨qr,0,none⟩,2,p,_,hZ ⟨by omega,(uZ HJ66),rfl⟩,hZ ⟨uZ S57,uZ HBQ_57,(uZ HKr_57).node' hl2 21 [] 0 0 [] false p,fun hm=>by rcases List.mem_append.1 hm with h|h;exact absurd (List.mem_singleton.1 h) (show ¬Q=qr by omega);exact(uZ APr_Q).1 h⟩⟩
      ·have hq:isS [93] ly=false:=by simpa using hb
       have CC:=hZ (leave_bad (uZ S56).rd [93] hq)
       have HR:=hZ (thn_sgb hq (uZ HJ65))
       go_wp2_with fail
       refine(uZ CC).mono ?_
       rintro e wx ⟨rfl,b⟩
       have HX:=hZ ((uZ S56).bad b)
       clear b CC
       unfold fltP
       go_wp2_with fail
       exact⟨rfl,by rw [uZ HR];exact⟨rfl,uZ HX⟩⟩
    ·have hdd:d=24:=by omega
     have CC:=hZ (ent_deep (uZ S51).rd [91] (uZ hqq) hdd)
     have HR:=hZ (thn_end (uZ hqq) hdd (uZ HJ62))
     go_wp2_with fail
     refine(uZ CC).mono ?_
     rintro e wx ⟨rfl,b⟩
     have HX:=hZ ((uZ S51).bad b)
     clear b CC
     unfold fltP
     go_wp2_with fail
     exact⟨rfl,by rw [uZ HR];exact⟨rfl,uZ HX⟩⟩
   ·have hq:isS [91] la=false:=by simpa using hb
    have CC:=hZ ((by have:=seesSign_any (uZ S50).rd [91];rw [hq] at this;exact this))
    go_wp2_with fail
    refine(uZ CC).mono ?_
    rintro e w51 ⟨rfl,b⟩
    have S51:=hZ ((uZ S50).below b)
    have HBQ_51:=bx_be HBQ_50 b
    have HNa_51:=hZ ((uZ HNa_50).beside (Beside.of_below (gr:=c.g) b) (by omega))
    clear b CC S50 HBQ_50 HNa_50
    have HJ62:=hZ ((by have:=(uZ HJ61);rw [if_neg (by rw [hq];decide)] at this;exact this))
    clear HJ61
    by_cases hb:isS [46] la=true
    ·have hq:isS [46] la=true:=by simpa using hb
     have CC:=hZ ((by have:=seesSign_any (uZ S51).rd [46];rw [hq] at this;exact this))
     go_wp2_with fail
     refine(uZ CC).mono ?_
     rintro e w52 ⟨rfl,b⟩
     have S52:=hZ ((uZ S51).below b)
     have HBQ_52:=bx_be HBQ_51 b
     have HNa_52:=hZ ((uZ HNa_51).beside (Beside.of_below (gr:=c.g) b) (by omega))
     clear b CC S51 HBQ_51 HNa_51
     have HJ63:=hZ ((by have:=(uZ HJ62);rw [if_pos hq] at this;exact this))
     clear HJ62
     have hkk:=isS_k hq
     have HK0:=hZ hkk
     clear hkk
     obtain⟨⟨k,t,n,p⟩,ht⟩:∃t,hdT la=t:=⟨_,rfl⟩
     have HT:=hZ ht
     clear ht
     have HJ64:=hZ ((by have:=(uZ HJ63);rw [uZ HT] at this;exact this))
     clear HJ63
     have CC:=hZ ((by have:=pass_any (uZ S52).rd (uZ HK0);rw [uZ HT] at this;simp only [tkA] at this;exact this))
     go_wp2_with fail
     refine(uZ CC).mono ?_
     rintro e w53 ⟨rfl,r2,b⟩
     have S53:=hZ ((uZ S52).go b r2)
     have HBQ_53:=bx_go HBQ_52 b (by omega)
     have HNa_53:=hZ ((uZ HNa_52).beside b (by omega))
     clear b r2 CC S52 HBQ_52 HNa_52
     go_upto_region 9 with (first|(refine wpl_tk3 rfl _ rfl _ _ _ _ rfl ?_)|(refine wpl_tk1 rfl _ rfl _ _ _ _ rfl ?_)|(refine wpl_tk0 rfl _ rfl _ _ _ _ rfl ?_))
     obtain⟨Qc0,Qc1,Qc2,Qc3,Qc4,Qc5,Qc6,Qc7,Qc8,Qc9⟩:=row_cell10 (uZ HBQ_53)
     have HS0:Hid (w53.drew.cell? ⟨Q,0,none⟩=some (.int .i64 (ka:Int))∧w53.drew.cell? ⟨Q,1,none⟩=some (.string (bA ta))∧w53.drew.cell? ⟨Q,2,none⟩=some (.int .i64 (vka:Int))∧w53.drew.cell? ⟨Q,3,none⟩=some (.int .i64 (vna:Int))∧w53.drew.cell? ⟨Q,4,none⟩=some (.string (bA vsa))∧w53.drew.cell? ⟨Q,5,none⟩=some (.slice none 0 0)∧w53.drew.cell? ⟨Q,6,none⟩=some (.slice none 0 0)∧w53.drew.cell? ⟨Q,7,none⟩=some (.bool fa)∧w53.drew.cell? ⟨Q,8,none⟩=some (.slice aka na cka)∧w53.drew.cell? ⟨Q,9,none⟩=some (.int .i64 (pa:Int))):=hZ (⟨Qc0,Qc1,Qc2,Qc3,Qc4,Qc5,Qc6,Qc7,Qc8,Qc9⟩)
     refine till_begin (S:=fun w'=>w'.cell? ⟨Q,0,none⟩=some (.int .i64 (ka:Int))∧w'.cell? ⟨Q,1,none⟩=some (.string (bA ta))∧w'.cell? ⟨Q,2,none⟩=some (.int .i64 (vka:Int))∧w'.cell? ⟨Q,3,none⟩=some (.int .i64 (vna:Int))∧w'.cell? ⟨Q,4,none⟩=some (.string (bA vsa))∧w'.cell? ⟨Q,5,none⟩=some (.slice none 0 0)∧w'.cell? ⟨Q,6,none⟩=some (.slice none 0 0)∧w'.cell? ⟨Q,7,none⟩=some (.bool fa)∧w'.cell? ⟨Q,8,none⟩=some (.slice aka na cka)∧w'.cell? ⟨Q,9,none⟩=some (.int .i64 (pa:Int))) 7 (by kernel_rfl) ?_
     obtain⟨w54,hWD⟩:=eX (w53.drew)
     have bD:Below w53.heap.size w53 w54:=by rw [←hWD];exact(Below.refl _ _).drew
     rw [hWD] at HS0
     rw [hWD]
     have S54:=hZ ((uZ S53).below bD)
     have HBQ_54:=bx_be HBQ_53 bD
     have HNa_54:=hZ ((uZ HNa_53).beside (Beside.of_below (gr:=c.g) bD) (by omega))
     clear hWD bD S53 HBQ_53 HNa_53
     clear Qc0 Qc1 Qc2 Qc3 Qc4 Qc5 Qc6 Qc7 Qc8 Qc9
     refine tK 0 (v:=.pointer (some ⟨c.g,0,none⟩)) (some 29) rfl rfl rfl (by kernel_rfl) (fun _ _ _ h=>h) (Or.inl ⟨by rfl,fun u hu=>by obtain⟨b0,b1,b2,b3,b4,b5,b6,b7,b8,b9⟩:=hu;go_simp⟩) (uZ HS0) ?_
     try simp only [Act.put,sA,sB,sC]
     refine tK 3 (v:=.agg #[.int .i64 (ka:Int),.string (bA ta),.int .i64 (vka:Int),.int .i64 (vna:Int),.string (bA vsa),.slice none 0 0,.slice none 0 0,.bool fa,.slice aka na cka,.int .i64 (pa:Int)]) (some 32) rfl rfl rfl (by kernel_rfl) (fun _ _ _ h=>h) (Or.inl ⟨by rfl,fun u hu=>by obtain⟨b0,b1,b2,b3,b4,b5,b6,b7,b8,b9⟩:=hu;go_simp⟩) (uZ HS0) ?_
     try simp only [Act.put,sA,sB,sC]
     refine tK 5 (v:=.int .i64 (p:Int)) (some 34) rfl rfl rfl (by kernel_rfl) (fun _ _ _ h=>h) (Or.inl ⟨by rfl,fun u hu=>by obtain⟨b0,b1,b2,b3,b4,b5,b6,b7,b8,b9⟩:=hu;go_simp⟩) (uZ HS0) ?_
     try simp only [Act.put,sA,sB,sC]
     by_cases hnk:(hdT la.tail).k=1
     ·obtain⟨⟨k2,t2,n2,p2⟩,ht⟩:∃t,hdT la.tail=t:=⟨_,rfl⟩
      have HT2:=hZ ht
      clear ht
      have HJ65:=hZ ((by have:=thn_nm hnk (uZ HJ64);rw [uZ HT2] at this;exact this))
      clear HJ64
      refine till_two 1 4 (by kernel_rfl) rfl rfl (fun K hK=>?_) (fun K hK=>?_)
      ·have CC:=hZ (by have:=pnm_ok (uZ S54).rd hnk;rw [uZ HT2] at this;simp only [tkA] at this;exact this)
       go_simp
       refine(uZ CC).mono ?_
       rintro e w55 ⟨rfl,r2,b⟩
       have S55:=hZ ((uZ S54).go b r2)
       have HBQ_55:=bx_go HBQ_54 b (by omega)
       have HNa_55:=hZ ((uZ HNa_54).beside b (by omega))
       clear b r2 CC HS0 S54 HBQ_54 HNa_54
       have HS0:Hid (w55.cell? ⟨Q,0,none⟩=some (.int .i64 (ka:Int))∧w55.cell? ⟨Q,1,none⟩=some (.string (bA ta))∧w55.cell? ⟨Q,2,none⟩=some (.int .i64 (vka:Int))∧w55.cell? ⟨Q,3,none⟩=some (.int .i64 (vna:Int))∧w55.cell? ⟨Q,4,none⟩=some (.string (bA vsa))∧w55.cell? ⟨Q,5,none⟩=some (.slice none 0 0)∧w55.cell? ⟨Q,6,none⟩=some (.slice none 0 0)∧w55.cell? ⟨Q,7,none⟩=some (.bool fa)∧w55.cell? ⟨Q,8,none⟩=some (.slice aka na cka)∧w55.cell? ⟨Q,9,none⟩=some (.int .i64 (pa:Int))):=hZ (by exact row_cell10 (uZ HBQ_55))
       go_wp2_with fail
       refine hK.out _ _ (Or.inr (uZ HS0)) ?_
       clear hK K
       try simp only [Act.put,sA,sB,sC]
       refine till_two 2 4 (by kernel_rfl) rfl rfl (fun K hK=>?_) (fun K hK=>?_)
       ·refine step_tk1 rfl _ rfl _ _ _ _ rfl ?_
        refine hK.out _ _ (Or.inr (uZ HS0)) ?_
        clear hK K
        try simp only [Act.put,sA,sB,sC]
        refine till_one 4 (by kernel_rfl) rfl (fun K hK=>?_)
        have hQl:=(Array.getElem?_eq_some_iff.1 (uZ HBQ_55)).1
        obtain⟨w56,hwr⟩:=eX (w55.alloc (.cells #[.int .i64 (ka:Int),.string (bA ta),.int .i64 (vka:Int),.int .i64 (vna:Int),.string (bA vsa),.slice none 0 0,.slice none 0 0,.bool fa,.slice aka na cka,.int .i64 (pa:Int)] 28))
        have b:=alB hwr
        obtain⟨qr,hqr⟩:=eX (w55.heap.size)
        have HKr_56:Hid (Kr loa w56 acc (.slice (some ⟨qr,0,none⟩) 1 1) [.int .i64 (ka:Int),.string (bA ta),.int .i64 (vka:Int),.int .i64 (vna:Int),.string (bA vsa),.slice none 0 0,.slice none 0 0,.bool fa,.slice aka na cka,.int .i64 (pa:Int)] Za):=hZ (by have h9:=Kr.mk' (uZ HNa_55) (by rw [hla];decide);rw [hla,hqr] at h9;rw [←hwr];exact h9)
        have hQr:Q<qr:=by rw [←hqr];exact hQl
        have APr_Q:=hZ (And.intro (uZ HZQ) (own_ne (n:=1) (m:=1) hQr))
        have S56:=hZ ((uZ S55).below b)
        have HBQ_56:=bx_be HBQ_55 b
        clear b S55 HBQ_55 HNa_55
        go_simp
        try rw [hwr]
        try rw [hqr]
        clear HS0
        have HS0:Hid (w56.cell? ⟨Q,0,none⟩=some (.int .i64 (ka:Int))∧w56.cell? ⟨Q,1,none⟩=some (.string (bA ta))∧w56.cell? ⟨Q,2,none⟩=some (.int .i64 (vka:Int))∧w56.cell? ⟨Q,3,none⟩=some (.int .i64 (vna:Int))∧w56.cell? ⟨Q,4,none⟩=some (.string (bA vsa))∧w56.cell? ⟨Q,5,none⟩=some (.slice none 0 0)∧w56.cell? ⟨Q,6,none⟩=some (.slice none 0 0)∧w56.cell? ⟨Q,7,none⟩=some (.bool fa)∧w56.cell? ⟨Q,8,none⟩=some (.slice aka na cka)∧w56.cell? ⟨Q,9,none⟩=some (.int .i64 (pa:Int))):=hZ (by exact row_cell10 (uZ HBQ_56))
        refine hK.out _ _ (Or.inr (uZ HS0)) ?_
        clear hK K hwr hqr
        try simp only [Act.put,sA,sB,sC]
        refine tK 6 (v:=.agg #[.int .i64 22,.string (bA t2),.int .i64 0,.int .i64 0,.string ⟨#[]⟩,.slice none 0 0,.slice none 0 0,.bool false,.slice (some ⟨qr,0,none⟩) 1 1,.int .i64 (p:Int)]) (some 35) rfl rfl rfl (by kernel_rfl) (fun _ _ _ h=>h) (Or.inl ⟨by rfl,fun u hu=>by obtain⟨b0,b1,b2,b3,b4,b5,b6,b7,b8,b9⟩:=hu;go_simp⟩) (uZ HS0) ?_
        try simp only [Act.put,sA,sB,sC]
        obtain⟨g0,g1,g2,g3,g4,g5,g6,g7,g8,g9⟩:=row_cell10 (uZ HBQ_56)
        obtain⟨z0,z1,z2,z3,z4,z5,z6,z7,z8,z9⟩:=frozen10 (uZ HBQ_56)
        refine till_one 7 (by kernel_rfl) rfl (fun K hK=>?_)
        go_simp
        refine hK.out _ _ (Or.inl (by first|rfl|trivial)) ?_
        clear hK K HS0 g0 z0 g1 z1 g2 z2 g3 z3 g4 z4 g5 z5 g6 z6 g7 z7 g8 z8 g9 z9
        try simp only [Act.put,sA,sB,sC]
        refine till_done (by kernel_rfl) ?_ _
        have O:=(uZ S56).own10 ltQ (.int .i64 22) (.string (bA t2)) (.int .i64 0) (.int .i64 0) (.string ⟨#[]⟩) (.slice none 0 0) (.slice none 0 0) (.bool false) (.slice (some ⟨qr,0,none⟩) 1 1) (.int .i64 (p:Int))
        have D:=set10 (uZ HBQ_56) (.int .i64 22) (.string (bA t2)) (.int .i64 0) (.int .i64 0) (.string ⟨#[]⟩) (.slice none 0 0) (.slice none 0 0) (.bool false) (.slice (some ⟨qr,0,none⟩) 1 1) (.int .i64 (p:Int))
        obtain⟨w57,hw⟩:=eX (((((((((((w56.setCell ⟨Q,0,none⟩ (.int .i64 22)).setCell ⟨Q,1,none⟩ (.string (bA t2))).setCell ⟨Q,2,none⟩ (.int .i64 0)).setCell ⟨Q,3,none⟩ (.int .i64 0)).setCell ⟨Q,4,none⟩ (.string ⟨#[]⟩)).setCell ⟨Q,5,none⟩ (.slice none 0 0)).setCell ⟨Q,6,none⟩ (.slice none 0 0)).setCell ⟨Q,7,none⟩ (.bool false)).setCell ⟨Q,8,none⟩ (.slice (some ⟨qr,0,none⟩) 1 1)).setCell ⟨Q,9,none⟩ (.int .i64 (p:Int))))
        rw [hw] at O D
        have S57:=hZ O.1
        have HBQ_57:=hZ D
        have HKr_57:=hZ ((uZ HKr_56).but2 (q:=Q) (fun b _ hb=>O.2.1 b hb) (Nat.le_of_eq O.2.2.symm) (uZ APr_Q).1 (uZ APr_Q).2)
        rw [hw]
        clear hw O D S56 HBQ_56 HKr_56
        go_wp2_with fail
        go_roundg g1
        case measure=>omega
        case rel=>exact⟨[nd0 22 t2 acc p],_,22,t2,0,0,[],false,1,some ⟨qr,0,none⟩,1,p,_,hZ ⟨by omega,(uZ HJ65),rfl⟩,hZ ⟨uZ S57,uZ HBQ_57,(uZ HKr_57).node' hla 22 t2 0 0 [] false p,fun hm=>by rcases List.mem_append.1 hm with h|h;exact absurd (List.mem_singleton.1 h) (show ¬Q=qr by omega);exact(uZ APr_Q).1 h⟩⟩
       ·have hQl:=(Array.getElem?_eq_some_iff.1 (uZ HBQ_55)).1
        obtain⟨w56,hwr⟩:=eX (w55.alloc (.cells #[.int .i64 (ka:Int),.string (bA ta),.int .i64 (vka:Int),.int .i64 (vna:Int),.string (bA vsa),.slice none 0 0,.slice none 0 0,.bool fa,.slice aka na cka,.int .i64 (pa:Int)] 28))
        have b:=alB hwr
        obtain⟨qr,hqr⟩:=eX (w55.heap.size)
        have HKr_56:Hid (Kr loa w56 acc (.slice (some ⟨qr,0,none⟩) 1 1) [.int .i64 (ka:Int),.string (bA ta),.int .i64 (vka:Int),.int .i64 (vna:Int),.string (bA vsa),.slice none 0 0,.slice none 0 0,.bool fa,.slice aka na cka,.int .i64 (pa:Int)] Za):=hZ (by have h9:=Kr.mk' (uZ HNa_55) (by rw [hla];decide);rw [hla,hqr] at h9;rw [←hwr];exact h9)
        have hQr:Q<qr:=by rw [←hqr];exact hQl
        have APr_Q:=hZ (And.intro (uZ HZQ) (own_ne (n:=1) (m:=1) hQr))
        have S56:=hZ ((uZ S55).below b)
        have HBQ_56:=bx_be HBQ_55 b
        clear b S55 HBQ_55 HNa_55
        go_simp
        try rw [hwr]
        try rw [hqr]
        clear HS0
        have HS0:Hid (w56.cell? ⟨Q,0,none⟩=some (.int .i64 (ka:Int))∧w56.cell? ⟨Q,1,none⟩=some (.string (bA ta))∧w56.cell? ⟨Q,2,none⟩=some (.int .i64 (vka:Int))∧w56.cell? ⟨Q,3,none⟩=some (.int .i64 (vna:Int))∧w56.cell? ⟨Q,4,none⟩=some (.string (bA vsa))∧w56.cell? ⟨Q,5,none⟩=some (.slice none 0 0)∧w56.cell? ⟨Q,6,none⟩=some (.slice none 0 0)∧w56.cell? ⟨Q,7,none⟩=some (.bool fa)∧w56.cell? ⟨Q,8,none⟩=some (.slice aka na cka)∧w56.cell? ⟨Q,9,none⟩=some (.int .i64 (pa:Int))):=hZ (by exact row_cell10 (uZ HBQ_56))
        refine hK.out _ _ (Or.inr (uZ HS0)) ?_
        clear hK K hwr hqr
        try simp only [Act.put,sA,sB,sC]
        refine till_one 2 (by kernel_rfl) rfl (fun K hK=>?_)
        refine step_tk1 rfl _ rfl _ _ _ _ rfl ?_
        refine hK.out _ _ (Or.inr (uZ HS0)) ?_
        clear hK K
        try simp only [Act.put,sA,sB,sC]
        refine tK 6 (v:=.agg #[.int .i64 22,.string (bA t2),.int .i64 0,.int .i64 0,.string ⟨#[]⟩,.slice none 0 0,.slice none 0 0,.bool false,.slice (some ⟨qr,0,none⟩) 1 1,.int .i64 (p:Int)]) (some 35) rfl rfl rfl (by kernel_rfl) (fun _ _ _ h=>h) (Or.inl ⟨by rfl,fun u hu=>by obtain⟨b0,b1,b2,b3,b4,b5,b6,b7,b8,b9⟩:=hu;go_simp⟩) (uZ HS0) ?_
        try simp only [Act.put,sA,sB,sC]
        obtain⟨g0,g1,g2,g3,g4,g5,g6,g7,g8,g9⟩:=row_cell10 (uZ HBQ_56)
        obtain⟨z0,z1,z2,z3,z4,z5,z6,z7,z8,z9⟩:=frozen10 (uZ HBQ_56)
        refine till_one 7 (by kernel_rfl) rfl (fun K hK=>?_)
        go_simp
        refine hK.out _ _ (Or.inl (by first|rfl|trivial)) ?_
        clear hK K HS0 g0 z0 g1 z1 g2 z2 g3 z3 g4 z4 g5 z5 g6 z6 g7 z7 g8 z8 g9 z9
        try simp only [Act.put,sA,sB,sC]
        refine till_done (by kernel_rfl) ?_ _
        have O:=(uZ S56).own10 ltQ (.int .i64 22) (.string (bA t2)) (.int .i64 0) (.int .i64 0) (.string ⟨#[]⟩) (.slice none 0 0) (.slice none 0 0) (.bool false) (.slice (some ⟨qr,0,none⟩) 1 1) (.int .i64 (p:Int))
        have D:=set10 (uZ HBQ_56) (.int .i64 22) (.string (bA t2)) (.int .i64 0) (.int .i64 0) (.string ⟨#[]⟩) (.slice none 0 0) (.slice none 0 0) (.bool false) (.slice (some ⟨qr,0,none⟩) 1 1) (.int .i64 (p:Int))
        obtain⟨w57,hw⟩:=eX (((((((((((w56.setCell ⟨Q,0,none⟩ (.int .i64 22)).setCell ⟨Q,1,none⟩ (.string (bA t2))).setCell ⟨Q,2,none⟩ (.int .i64 0)).setCell ⟨Q,3,none⟩ (.int .i64 0)).setCell ⟨Q,4,none⟩ (.string ⟨#[]⟩)).setCell ⟨Q,5,none⟩ (.slice none 0 0)).setCell ⟨Q,6,none⟩ (.slice none 0 0)).setCell ⟨Q,7,none⟩ (.bool false)).setCell ⟨Q,8,none⟩ (.slice (some ⟨qr,0,none⟩) 1 1)).setCell ⟨Q,9,none⟩ (.int .i64 (p:Int))))
        rw [hw] at O D
        have S57:=hZ O.1
        have HBQ_57:=hZ D
        have HKr_57:=hZ ((uZ HKr_56).but2 (q:=Q) (fun b _ hb=>O.2.1 b hb) (Nat.le_of_eq O.2.2.symm) (uZ APr_Q).1 (uZ APr_Q).2)
        rw [hw]
        clear hw O D S56 HBQ_56 HKr_56
        go_wp2_with fail
        go_roundg g1
        case measure=>omega
        case rel=>exact⟨[nd0 22 t2 acc p],_,22,t2,0,0,[],false,1,some ⟨qr,0,none⟩,1,p,_,hZ ⟨by omega,(uZ HJ65),rfl⟩,hZ ⟨uZ S57,uZ HBQ_57,(uZ HKr_57).node' hla 22 t2 0 0 [] false p,fun hm=>by rcases List.mem_append.1 hm with h|h;exact absurd (List.mem_singleton.1 h) (show ¬Q=qr by omega);exact(uZ APr_Q).1 h⟩⟩
      ·have hQl:=(Array.getElem?_eq_some_iff.1 (uZ HBQ_54)).1
       obtain⟨w55,hwr⟩:=eX (w54.alloc (.cells #[.int .i64 (ka:Int),.string (bA ta),.int .i64 (vka:Int),.int .i64 (vna:Int),.string (bA vsa),.slice none 0 0,.slice none 0 0,.bool fa,.slice aka na cka,.int .i64 (pa:Int)] 28))
       have b:=alB hwr
       obtain⟨qr,hqr⟩:=eX (w54.heap.size)
       have HKr_55:Hid (Kr loa w55 acc (.slice (some ⟨qr,0,none⟩) 1 1) [.int .i64 (ka:Int),.string (bA ta),.int .i64 (vka:Int),.int .i64 (vna:Int),.string (bA vsa),.slice none 0 0,.slice none 0 0,.bool fa,.slice aka na cka,.int .i64 (pa:Int)] Za):=hZ (by have h9:=Kr.mk' (uZ HNa_54) (by rw [hla];decide);rw [hla,hqr] at h9;rw [←hwr];exact h9)
       have hQr:Q<qr:=by rw [←hqr];exact hQl
       have APr_Q:=hZ (And.intro (uZ HZQ) (own_ne (n:=1) (m:=1) hQr))
       have S55:=hZ ((uZ S54).below b)
       have HBQ_55:=bx_be HBQ_54 b
       clear b S54 HBQ_54 HNa_54
       go_simp
       try rw [hwr]
       try rw [hqr]
       clear HS0
       have HS0:Hid (w55.cell? ⟨Q,0,none⟩=some (.int .i64 (ka:Int))∧w55.cell? ⟨Q,1,none⟩=some (.string (bA ta))∧w55.cell? ⟨Q,2,none⟩=some (.int .i64 (vka:Int))∧w55.cell? ⟨Q,3,none⟩=some (.int .i64 (vna:Int))∧w55.cell? ⟨Q,4,none⟩=some (.string (bA vsa))∧w55.cell? ⟨Q,5,none⟩=some (.slice none 0 0)∧w55.cell? ⟨Q,6,none⟩=some (.slice none 0 0)∧w55.cell? ⟨Q,7,none⟩=some (.bool fa)∧w55.cell? ⟨Q,8,none⟩=some (.slice aka na cka)∧w55.cell? ⟨Q,9,none⟩=some (.int .i64 (pa:Int))):=hZ (by exact row_cell10 (uZ HBQ_55))
       refine hK.out _ _ (Or.inr (uZ HS0)) ?_
       clear hK K hwr hqr
       try simp only [Act.put,sA,sB,sC]
       refine till_one 1 (by kernel_rfl) rfl (fun K hK=>?_)
       have CC:=hZ (by have:=pnm_ok (uZ S55).rd hnk;rw [uZ HT2] at this;simp only [tkA] at this;exact this)
       go_simp
       refine(uZ CC).mono ?_
       rintro e w56 ⟨rfl,r2,b⟩
       have S56:=hZ ((uZ S55).go b r2)
       have HBQ_56:=bx_go HBQ_55 b (by omega)
       have HKr_56:=hZ ((uZ HKr_55).beside b (by omega))
       clear b r2 CC HS0 S55 HBQ_55 HKr_55
       have HS0:Hid (w56.cell? ⟨Q,0,none⟩=some (.int .i64 (ka:Int))∧w56.cell? ⟨Q,1,none⟩=some (.string (bA ta))∧w56.cell? ⟨Q,2,none⟩=some (.int .i64 (vka:Int))∧w56.cell? ⟨Q,3,none⟩=some (.int .i64 (vna:Int))∧w56.cell? ⟨Q,4,none⟩=some (.string (bA vsa))∧w56.cell? ⟨Q,5,none⟩=some (.slice none 0 0)∧w56.cell? ⟨Q,6,none⟩=some (.slice none 0 0)∧w56.cell? ⟨Q,7,none⟩=some (.bool fa)∧w56.cell? ⟨Q,8,none⟩=some (.slice aka na cka)∧w56.cell? ⟨Q,9,none⟩=some (.int .i64 (pa:Int))):=hZ (by exact row_cell10 (uZ HBQ_56))
       go_wp2_with fail
       refine hK.out _ _ (Or.inr (uZ HS0)) ?_
       clear hK K
       try simp only [Act.put,sA,sB,sC]
       refine till_one 2 (by kernel_rfl) rfl (fun K hK=>?_)
       refine step_tk1 rfl _ rfl _ _ _ _ rfl ?_
       refine hK.out _ _ (Or.inr (uZ HS0)) ?_
       clear hK K
       try simp only [Act.put,sA,sB,sC]
       refine tK 6 (v:=.agg #[.int .i64 22,.string (bA t2),.int .i64 0,.int .i64 0,.string ⟨#[]⟩,.slice none 0 0,.slice none 0 0,.bool false,.slice (some ⟨qr,0,none⟩) 1 1,.int .i64 (p:Int)]) (some 35) rfl rfl rfl (by kernel_rfl) (fun _ _ _ h=>h) (Or.inl ⟨by rfl,fun u hu=>by obtain⟨b0,b1,b2,b3,b4,b5,b6,b7,b8,b9⟩:=hu;go_simp⟩) (uZ HS0) ?_
       try simp only [Act.put,sA,sB,sC]
       obtain⟨g0,g1,g2,g3,g4,g5,g6,g7,g8,g9⟩:=row_cell10 (uZ HBQ_56)
       obtain⟨z0,z1,z2,z3,z4,z5,z6,z7,z8,z9⟩:=frozen10 (uZ HBQ_56)
       refine till_one 7 (by kernel_rfl) rfl (fun K hK=>?_)
       go_simp
       refine hK.out _ _ (Or.inl (by first|rfl|trivial)) ?_
       clear hK K HS0 g0 z0 g1 z1 g2 z2 g3 z3 g4 z4 g5 z5 g6 z6 g7 z7 g8 z8 g9 z9
       try simp only [Act.put,sA,sB,sC]
       refine till_done (by kernel_rfl) ?_ _
       have O:=(uZ S56).own10 ltQ (.int .i64 22) (.string (bA t2)) (.int .i64 0) (.int .i64 0) (.string ⟨#[]⟩) (.slice none 0 0) (.slice none 0 0) (.bool false) (.slice (some ⟨qr,0,none⟩) 1 1) (.int .i64 (p:Int))
       have D:=set10 (uZ HBQ_56) (.int .i64 22) (.string (bA t2)) (.int .i64 0) (.int .i64 0) (.string ⟨#[]⟩) (.slice none 0 0) (.slice none 0 0) (.bool false) (.slice (some ⟨qr,0,none⟩) 1 1) (.int .i64 (p:Int))
       obtain⟨w57,hw⟩:=eX (((((((((((w56.setCell ⟨Q,0,none⟩ (.int .i64 22)).setCell ⟨Q,1,none⟩ (.string (bA t2))).setCell ⟨Q,2,none⟩ (.int .i64 0)).setCell ⟨Q,3,none⟩ (.int .i64 0)).setCell ⟨Q,4,none⟩ (.string ⟨#[]⟩)).setCell ⟨Q,5,none⟩ (.slice none 0 0)).setCell ⟨Q,6,none⟩ (.slice none 0 0)).setCell ⟨Q,7,none⟩ (.bool false)).setCell ⟨Q,8,none⟩ (.slice (some ⟨qr,0,none⟩) 1 1)).setCell ⟨Q,9,none⟩ (.int .i64 (p:Int))))
       rw [hw] at O D
       have S57:=hZ O.1
       have HBQ_57:=hZ D
       have HKr_57:=hZ ((uZ HKr_56).but2 (q:=Q) (fun b _ hb=>O.2.1 b hb) (Nat.le_of_eq O.2.2.symm) (uZ APr_Q).1 (uZ APr_Q).2)
       rw [hw]
       clear hw O D S56 HBQ_56 HKr_56
       go_wp2_with fail
       go_roundg g1
       case measure=>omega
       case rel=>exact⟨[nd0 22 t2 acc p],_,22,t2,0,0,[],false,1,some ⟨qr,0,none⟩,1,p,_,hZ ⟨by omega,(uZ HJ65),rfl⟩,hZ ⟨uZ S57,uZ HBQ_57,(uZ HKr_57).node' hla 22 t2 0 0 [] false p,fun hm=>by rcases List.mem_append.1 hm with h|h;exact absurd (List.mem_singleton.1 h) (show ¬Q=qr by omega);exact(uZ APr_Q).1 h⟩⟩
     ·have HR:=hZ (thn_nmb hnk (uZ HJ64))
      refine till_two 1 4 (by kernel_rfl) rfl rfl (fun K hK=>?_) (fun K hK=>?_)
      ·have CC:=hZ (pnm_bad (uZ S54).rd hnk)
       go_simp
       refine(uZ CC).mono ?_
       rintro e wx ⟨rfl,b⟩
       have HX:=hZ ((uZ S54).bad b)
       clear b CC
       unfold fltP
       go_wp2_with fail
       exact⟨rfl,by rw [uZ HR];exact⟨rfl,uZ HX⟩⟩
      ·have hQl:=(Array.getElem?_eq_some_iff.1 (uZ HBQ_54)).1
       obtain⟨w55,hwr⟩:=eX (w54.alloc (.cells #[.int .i64 (ka:Int),.string (bA ta),.int .i64 (vka:Int),.int .i64 (vna:Int),.string (bA vsa),.slice none 0 0,.slice none 0 0,.bool fa,.slice aka na cka,.int .i64 (pa:Int)] 28))
       have b:=alB hwr
       obtain⟨qr,hqr⟩:=eX (w54.heap.size)
       have HKr_55:Hid (Kr loa w55 acc (.slice (some ⟨qr,0,none⟩) 1 1) [.int .i64 (ka:Int),.string (bA ta),.int .i64 (vka:Int),.int .i64 (vna:Int),.string (bA vsa),.slice none 0 0,.slice none 0 0,.bool fa,.slice aka na cka,.int .i64 (pa:Int)] Za):=hZ (by have h9:=Kr.mk' (uZ HNa_54) (by rw [hla];decide);rw [hla,hqr] at h9;rw [←hwr];exact h9)
       have hQr:Q<qr:=by rw [←hqr];exact hQl
       have APr_Q:=hZ (And.intro (uZ HZQ) (own_ne (n:=1) (m:=1) hQr))
       have S55:=hZ ((uZ S54).below b)
       have HBQ_55:=bx_be HBQ_54 b
       clear b S54 HBQ_54 HNa_54
       go_simp
       try rw [hwr]
       try rw [hqr]
       clear HS0
       have HS0:Hid (w55.cell? ⟨Q,0,none⟩=some (.int .i64 (ka:Int))∧w55.cell? ⟨Q,1,none⟩=some (.string (bA ta))∧w55.cell? ⟨Q,2,none⟩=some (.int .i64 (vka:Int))∧w55.cell? ⟨Q,3,none⟩=some (.int .i64 (vna:Int))∧w55.cell? ⟨Q,4,none⟩=some (.string (bA vsa))∧w55.cell? ⟨Q,5,none⟩=some (.slice none 0 0)∧w55.cell? ⟨Q,6,none⟩=some (.slice none 0 0)∧w55.cell? ⟨Q,7,none⟩=some (.bool fa)∧w55.cell? ⟨Q,8,none⟩=some (.slice aka na cka)∧w55.cell? ⟨Q,9,none⟩=some (.int .i64 (pa:Int))):=hZ (by exact row_cell10 (uZ HBQ_55))
       refine hK.out _ _ (Or.inr (uZ HS0)) ?_
       clear hK K hwr hqr
       try simp only [Act.put,sA,sB,sC]
       refine till_one 1 (by kernel_rfl) rfl (fun K hK=>?_)
       have CC:=hZ (pnm_bad (uZ S55).rd hnk)
       go_simp
       refine(uZ CC).mono ?_
       rintro e wx ⟨rfl,b⟩
       have HX:=hZ ((uZ S55).bad b)
       clear b CC
       unfold fltP
       go_wp2_with fail
       exact⟨rfl,by rw [uZ HR];exact⟨rfl,uZ HX⟩⟩
    ·have hq:isS [46] la=false:=by simpa using hb
     have CC:=hZ ((by have:=seesSign_any (uZ S51).rd [46];rw [hq] at this;exact this))
     go_wp2_with fail
     refine(uZ CC).mono ?_
     rintro e w52 ⟨rfl,b⟩
     have S52:=hZ ((uZ S51).below b)
     have HBQ_52:=bx_be HBQ_51 b
     have HNa_52:=hZ ((uZ HNa_51).beside (Beside.of_below (gr:=c.g) b) (by omega))
     clear b CC S51 HBQ_51 HNa_51
     have HJ63:=hZ ((by have:=(uZ HJ62);rw [if_neg (by rw [hq];decide)] at this;exact this))
     clear HJ62
     have hr1:=okN_some (uZ HJ63)
     have HR:=hZ (hr1)
     have BX:=(uZ S52).bx
     rw [hG] at BX
     obtain⟨g0,g1,g2,g3,g4,g5,g6,g7,g8,g9⟩:=row_cell10 BX
     obtain⟨z0,z1,z2,z3,z4,z5,z6,z7,z8,z9⟩:=frozen10 BX
     clear BX
     obtain⟨Qc0,Qc1,Qc2,Qc3,Qc4,Qc5,Qc6,Qc7,Qc8,Qc9⟩:=row_cell10 (uZ HBQ_52)
     have FF:=hZ (St.done (uZ S52) ((uZ HNa_52).low (by omega)) hla hG)
     go_wp2_with fail
     refine rtN (p:=2) rfl rfl (uZ FF).1 rfl rfl ?_
     rw [uZ HR]
     exact(uZ FF).2
end Go.Proofs.YtjdpaihhhjdgmaaGreatDoor
