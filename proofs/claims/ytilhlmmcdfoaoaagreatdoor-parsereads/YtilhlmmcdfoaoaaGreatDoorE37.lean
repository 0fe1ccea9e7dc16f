/-
  Layer 17 (parse): blocks; conditions: the reader's state.
  Layer 17 (parse): the condition and the block behind it; conditions: the reader's state.
-/
import Derived.Test.YtilhlmmcdfoaoaaGreatDoorE11
import Derived.Deep.LoopGhost
set_option linter.unusedVariables false
set_option linter.unusedSimpArgs false
namespace Go.Proofs.YtilhlmmcdfoaoaaGreatDoor
open Go.RowKit
set_option linter.unusedVariables false
set_option linter.unusedSimpArgs false
set_option maxRecDepth 100000 in
set_option maxHeartbeats 8000000 in
theorem block_step {c:Cx} {l:List Tk} {d:Nat} {w:World} {r:Rs (List Nd)} {f:Nat} (ihs:∀{f1:Nat},f1≤f→∀{c:Cx} {l:List Tk} {d:Nat} {w:World} {r:Rs (List Nd)},PJ f1 9 0 [] l d=some r→Rd w c l d→Calls Tryz.prog 61 #[.pointer (some ⟨c.g,0,none⟩)] w fun e w'=>NdP c w d r e w') (hJ:PJ (f+1) 10 0 [] l d=some r) (h:Rd w c l d) :
  Calls Tryz.prog 35 #[.pointer (some ⟨c.g,0,none⟩)] w fun e w'=>NdP c w d r e w':=by
 have S1:=hZ (St.start h 29 #[.int .i64 0,.string ⟨#[]⟩,.int .i64 0,.int .i64 0,.string ⟨#[]⟩,.slice none 0 0,.slice none 0 0,.bool false,.slice none 0 0,.int .i64 0])
 obtain⟨w1,hw1⟩:∃w1,w.alloc (.cells #[.int .i64 0,.string ⟨#[]⟩,.int .i64 0,.int .i64 0,.string ⟨#[]⟩,.slice none 0 0,.slice none 0 0,.bool false,.slice none 0 0,.int .i64 0] 29)=w1:=⟨_,rfl⟩
 rw [hw1] at S1
 obtain⟨G,hG⟩:∃G,w.heap.size=G:=⟨_,rfl⟩
 have hgw:c.g<w.heap.size:=h.cells.2.2.2.2.2
 clear h
 go_enter Tryz.func35,Tryz.ntmps35
 have HJ0:=hZ (show jBlock (PJ f) l d=some r from hJ)
 clear hJ
 have HJ1:=hZ ((by have:=uZ HJ0;unfold jBlock at this;exact this))
 clear HJ0
 by_cases hb:isS [123] l=true
 ·have hq:isS [123] l=true:=by simpa using hb
  have hlw:=(uZ S1).rd.low
  by_cases hd:d<24
  ·have HJ2:=hZ (thn_en hq hd (uZ HJ1))
   clear HJ1
   have CC:=hZ (ent_ok (uZ S1).rd [123] hq hd)
   go_wp2_with fail
   refine(uZ CC).mono ?_
   rintro e w2 ⟨rfl,r2,b⟩
   have S2:=hZ ((uZ S1).go b r2)
   clear b r2 CC S1
   go_upto_region 2 with (first|(refine wpl_tk3 rfl _ rfl _ _ _ _ rfl ?_)|(refine wpl_tk1 rfl _ rfl _ _ _ _ rfl ?_)|(refine wpl_tk0 rfl _ rfl _ _ _ _ rfl ?_))
   obtain⟨w3,hw⟩:∃zz,w2.alloc (.cells #[.int .i64 4,.string ⟨#[]⟩,.int .i64 0,.int .i64 0,.string ⟨#[]⟩,.slice none 0 0,.slice none 0 0,.bool false,.slice none 0 0,.int .i64 ((hdT l).p:Int)] 29)=zz:=⟨_,rfl⟩
   have b:Below w2.heap.size w2 w3:=by rw [←hw];exact(Below.refl _ _).alloc (Nat.le_refl _) _
   obtain⟨Q,hQ⟩:∃zz,w2.heap.size=zz:=⟨_,rfl⟩
   have HBQ_3:Hid (w3.heap[Q]?=some (.cells #[.int .i64 4,.string ⟨#[]⟩,.int .i64 0,.int .i64 0,.string ⟨#[]⟩,.slice none 0 0,.slice none 0 0,.bool false,.slice none 0 0,.int .i64 ((hdT l).p:Int)] 29 (0,0))):=hZ (by rw [←hw,←hQ];exact heap_alloc_new _ _)
   have S3:=hZ ((uZ S2).below b)
   have ltQ:w.heap.size<Q:=by rw [←hQ];exact(uZ S2).lt
   rw [hw]
   try rw [hQ]
   clear hw hQ b S2
   obtain⟨Y,hY,hth⟩:=bnd_some (uZ HJ2)
   have HJ3:=hZ (hth)
   clear HJ2
   clear hth
   have HKa_3:Hid (Kr (Q+1) w3 [] (.slice none 0 0) [] []):=hZ (Kr.nil (Array.getElem?_eq_some_iff.1 (uZ HBQ_3)).1)
   have HY:=hZ hY
   clear hY
   have hlt:=((uZ S3).rd).head
   have hln:=((uZ S3).rd).len
   have hnl:l.tail.length≤10000:=by have:=hlt.2.2;omega
   clear hlt hln
   go_wp2_with fail
   go_loopg [] f (fun gk wr=>∃(acc:List Nd) (la:List Tk) (na:Nat) (ak:Option Addr) (ck:Nat) (C:List Value) (Sa:List Nat),Hid (gk≤f∧PJ gk 11 0 acc la (d+1)=some Y∧acc.length=na∧na+la.length≤10000)∧Hid (St w c 29 #[.int .i64 0,.string ⟨#[]⟩,.int .i64 0,.int .i64 0,.string ⟨#[]⟩,.slice none 0 0,.slice none 0 0,.bool false,.slice none 0 0,.int .i64 0] wr la (d+1)∧wr.heap[Q]?=some (.cells #[.int .i64 4,.string ⟨#[]⟩,.int .i64 0,.int .i64 0,.string ⟨#[]⟩,.slice none 0 0,.slice none 0 0,.bool false,.slice ak na ck,.int .i64 ((hdT l).p:Int)] 29 (0,0))∧Kr (Q+1) wr acc (.slice ak na ck) C Sa))
   case atStart=>exact⟨[],l.tail,0,none,0,[],[],hZ ⟨Nat.le_refl _,uZ HY,rfl,by omega⟩,hZ ⟨uZ S3,uZ HBQ_3,uZ HKa_3⟩⟩
   case round=>
    clear HY HKa_3 S3 HBQ_3
    obtain⟨acc,la,na,ak,ck,Ca,Sa,HA,HI⟩:=hrel
    obtain⟨w50,hw50⟩:∃zz,zz=wr:=⟨_,rfl⟩
    subst hw50
    have S50:=hZ (uZ HI).1
    have HBQ_50:=hZ (uZ HI).2.1
    have HKa_50:=hZ (uZ HI).2.2
    obtain⟨g1,hg1⟩:=PJ_fuel (uZ HA).2.1
    subst hg1
    have HJ60:=hZ (show jBlL (PJ g1) acc la (d+1)=some Y from (uZ HA).2.1)
    have hlna:=(uZ HA).2.2.1
    have hbna:=(uZ HA).2.2.2
    have hgf:=(uZ HA).1
    clear HI HA
    have HJ61:=hZ ((by have:=uZ HJ60;unfold jBlL at this;exact this))
    clear HJ60
    by_cases hb:isS [125] la=true
    ·have hq:isS [125] la=true:=by simpa using hb
     have CC:=hZ ((by have:=seesSign_any (uZ S50).rd [125];rw [hq] at this;exact this))
     go_wp2_with fail
     refine(uZ CC).mono ?_
     rintro e w51 ⟨rfl,b⟩
     have S51:=hZ ((uZ S50).below b)
     have HBQ_51:=bx_be HBQ_50 b
     have HKa_51:=hZ ((uZ HKa_50).beside (Beside.of_below (gr:=c.g) b) (by omega))
     clear b CC S50 HBQ_50 HKa_50
     have HJ62:=hZ ((by have:=(uZ HJ61);rw [if_pos hq] at this;exact this))
     clear HJ61
     have HY2:=hZ (okN_some (uZ HJ62))
     have HJ90:=hZ (by have:=uZ HJ3;rw [uZ HY2] at this;exact this)
     by_cases hb:isS [125] la=true
     ·have hq:isS [125] la=true:=by simpa using hb
      have HJ91:=hZ (thn_sg hq (uZ HJ90))
      clear HJ90
      have CC:=hZ (leave_ok (uZ S51).rd [125] hq)
      go_wp2_with fail
      refine(uZ CC).mono ?_
      rintro e w52 ⟨rfl,r2,b⟩
      have S52:=hZ ((uZ S51).go b r2)
      have HBQ_52:=bx_go HBQ_51 b (by omega)
      have HKa_52:=hZ ((uZ HKa_51).beside b (by omega))
      clear b r2 CC S51 HBQ_51 HKa_51
      have hr1:=okN_some (uZ HJ91)
      have hnn:=(uZ HKa_52).node' hlna 4 [] 0 0 [] false (hdT l).p
      have HR:=hZ (hr1)
      have BX:=(uZ S52).bx
      rw [hG] at BX
      obtain⟨g0,g1,g2,g3,g4,g5,g6,g7,g8,g9⟩:=row_cell10 BX
      obtain⟨z0,z1,z2,z3,z4,z5,z6,z7,z8,z9⟩:=frozen10 BX
      clear BX
      obtain⟨Qc0,Qc1,Qc2,Qc3,Qc4,Qc5,Qc6,Qc7,Qc8,Qc9⟩:=row_cell10 (uZ HBQ_52)
      have FF:=hZ (St.done (uZ S52) (hnn.low (by omega)) rfl hG)
      go_wp2_with fail
      refine bodyPost_ret (ret_c1 (p:=2) (T:=29) rfl _ _ G _ _ _ rfl (uZ FF).1 Tryz.underlying29 rfl size_nd) rfl ?_
      rw [uZ HR]
      exact(uZ FF).2
     ·have hq:isS [125] la=false:=by simpa using hb
      have CC:=hZ (leave_bad (uZ S51).rd [125] hq)
      have HR:=hZ (thn_sgb hq (uZ HJ90))
      go_wp2_with fail
      refine(uZ CC).mono ?_
      rintro e wx ⟨rfl,b⟩
      have HX:=hZ ((uZ S51).bad b)
      clear b CC
      unfold fltP
      go_wp2_with fail
      exact⟨rfl,by rw [uZ HR];exact⟨rfl,uZ HX⟩⟩
    ·have hq:isS [125] la=false:=by simpa using hb
     have CC:=hZ ((by have:=seesSign_any (uZ S50).rd [125];rw [hq] at this;exact this))
     go_wp2_with fail
     refine(uZ CC).mono ?_
     rintro e w51 ⟨rfl,b⟩
     have S51:=hZ ((uZ S50).below b)
     have HBQ_51:=bx_be HBQ_50 b
     have HKa_51:=hZ ((uZ HKa_50).beside (Beside.of_below (gr:=c.g) b) (by omega))
     clear b CC S50 HBQ_50 HKa_50
     have HJ62:=hZ ((by have:=(uZ HJ61);rw [if_neg (by rw [hq];decide)] at this;exact this))
     clear HJ61
     go_upto_region 3 with fail
     obtain⟨-,-,-,-,-,-,-,-,Qc8,-⟩:=row_cell10 (uZ HBQ_51)
     have HS0:Hid (w51.drew.cell? ⟨Q,8,none⟩=some (.slice ak na ck)):=hZ (Qc8)
     refine till_begin (S:=fun w'=>w'.cell? ⟨Q,8,none⟩=some (.slice ak na ck)) 7 (by kernel_rfl) ?_
     obtain⟨w52,hWD⟩:∃zz,w51.drew=zz:=⟨_,rfl⟩
     have bD:Below w51.heap.size w51 w52:=by rw [←hWD];exact(Below.refl _ _).drew
     rw [hWD] at HS0
     rw [hWD]
     have S52:=hZ ((uZ S51).below bD)
     have HBQ_52:=bx_be HBQ_51 bD
     have HKa_52:=hZ ((uZ HKa_51).beside (Beside.of_below (gr:=c.g) bD) (by omega))
     clear hWD bD S51 HBQ_51 HKa_51
     clear Qc8
     refine till_take 0 (v:=.pointer (some ⟨Q,8,none⟩)) (some 11) rfl rfl rfl (by kernel_rfl) (by kernel_rfl) (by kernel_rfl) (by kernel_rfl) (fun _ _ _ h=>h) (Or.inl ⟨by rfl,fun u hu=>by obtain b0:=hu;go_simp⟩) (uZ HS0) ?_
     try simp only [Act.put,sA,sB,sC]
     refine till_take 1 (v:=.slice ak na ck) (some 12) rfl rfl rfl (by kernel_rfl) (by kernel_rfl) (by kernel_rfl) (by kernel_rfl) (fun _ _ _ h=>h) (Or.inl ⟨by rfl,fun u hu=>by obtain b0:=hu;go_simp⟩) (uZ HS0) ?_
     try simp only [Act.put,sA,sB,sC]
     refine till_take 2 (v:=.pointer (some ⟨c.g,0,none⟩)) (some 13) rfl rfl rfl (by kernel_rfl) (by kernel_rfl) (by kernel_rfl) (by kernel_rfl) (fun _ _ _ h=>h) (Or.inl ⟨by rfl,fun u hu=>by obtain b0:=hu;go_simp⟩) (uZ HS0) ?_
     try simp only [Act.put,sA,sB,sC]
     obtain⟨yx,hy,hth⟩:=bnd_some (uZ HJ62)
     have HJ63:=hZ (hth)
     clear HJ62
     clear hth
     have CR:=hZ (ihs (f1:=g1) (by omega) hy (uZ S52).rd)
     have HYX:=hZ hy
     clear hy
     rcases yx with ⟨ea,ep⟩|⟨nsx,lx⟩
     ·have HR:=hZ ((by have hy:=thn_err (uZ HJ63);have ho:=uZ HJ3;rw [hy] at ho;exact thn_err ho))
      refine till_one 3 (by kernel_rfl) rfl (fun K hK=>?_)
      go_simp
      refine(uZ CR).mono ?_
      rintro e wx ⟨rfl,b⟩
      have HX:=hZ ((uZ S52).bad b)
      clear b CR
      unfold fltP
      go_wp2_with fail
      exact⟨rfl,by rw [uZ HR];exact⟨rfl,uZ HX⟩⟩
     ·have HJ64:=hZ (thn_ok (uZ HJ63))
      clear HJ63
      refine till_one 3 (by kernel_rfl) rfl (fun K hK=>?_)
      go_simp
      refine(uZ CR).mono ?_
      rintro e w53 ⟨kx,tx,vkx,vnx,vsx,fx,nx,akx,ckx,px,Zx,rfl,hlx,hn,r2,b⟩
      have S53:=hZ ((uZ S52).go b r2)
      have HBQ_53:=bx_go HBQ_52 b (by omega)
      have HKa_53:=hZ ((uZ HKa_52).beside b (by omega))
      obtain⟨lox,hlo⟩:∃zz,w52.heap.size=zz:=⟨_,rfl⟩
      have ltlox:w.heap.size<lox:=by rw [←hlo];exact(uZ S52).lt
      have lqQ_x:Q<lox:=by rw [←hlo];exact(Array.getElem?_eq_some_iff.1 (uZ HBQ_52)).1
      have HWa_x:=hZ ((uZ HKa_52).vlt hlo)
      have lea_x:=(uZ HKa_52).ok.le
      rw [hlo] at lea_x
      rw [hlo] at hn
      have HNx_53:=hZ hn
      clear hlo b r2 hn CR S52 HBQ_52 HKa_52
      clear HS0
      have HS0:Hid (w53.cell? ⟨Q,8,none⟩=some (.slice ak na ck)):=hZ (by exact(row_cell10 (uZ HBQ_53)).2.2.2.2.2.2.2.2.1)
      go_wp2_with fail
      refine hK.out _ _ (Or.inr (uZ HS0)) ?_
      clear hK K
      try simp only [Act.put,sA,sB,sC]
      obtain⟨w54,hwr⟩:∃zz,w53.alloc (.cells #[.int .i64 (kx:Int),.string (bA tx),.int .i64 (vkx:Int),.int .i64 (vnx:Int),.string (bA vsx),.slice none 0 0,.slice none 0 0,.bool fx,.slice akx nx ckx,.int .i64 (px:Int)] 29)=zz:=⟨_,rfl⟩
      have b:Below w53.heap.size w53 w54:=by rw [←hwr];exact(Below.refl _ _).alloc (Nat.le_refl _) _
      obtain⟨hx,hhx⟩:∃zz,w53.heap.size=zz:=⟨_,rfl⟩
      have at4:Hid (w54.heap[hx]?=some (.cells #[.int .i64 (kx:Int),.string (bA tx),.int .i64 (vkx:Int),.int .i64 (vnx:Int),.string (bA vsx),.slice none 0 0,.slice none 0 0,.bool fx,.slice akx nx ckx,.int .i64 (px:Int)] 29 (0,0))):=hZ (by rw [←hwr,←hhx];exact heap_alloc_new _ _)
      have S54:=hZ ((uZ S53).below b)
      have HBQ_54:=bx_be HBQ_53 b
      have HKa_54:=hZ ((uZ HKa_53).beside (Beside.of_below (gr:=c.g) b) (by omega))
      have HNx_54:=hZ ((uZ HNx_53).beside (Beside.of_below (gr:=c.g) b) (by omega))
      clear b S53 HBQ_53 HKa_53 HNx_53
      refine till_one 4 (by kernel_rfl) rfl (fun K hK=>?_)
      go_simp
      try rw [hwr]
      try rw [hhx]
      clear HS0
      have HS0:Hid (w54.cell? ⟨Q,8,none⟩=some (.slice ak na ck)):=hZ (by exact(row_cell10 (uZ HBQ_54)).2.2.2.2.2.2.2.2.1)
      refine hK.out _ _ (Or.inr (uZ HS0)) ?_
      clear hK K hwr hhx
      try simp only [Act.put,sA,sB,sC]
      obtain⟨ind,hi0,hi1,hi2,hi3⟩:=info_nd
      have hkl:=(uZ HKa_54).own
      rw [hlna] at hkl
      have HKL:=hZ hkl
      clear hkl
      refine till_one 5 (by kernel_rfl) rfl (fun K hK=>?_)
      refine step_append_lies _ (by rfl) _ _ 27 (by rfl) (Q+1) 29 ind _ 10 144 Tryz.underlying27 hi0 hi1 hi2 hi3 rfl (by omega) (.slice ak na ck) (na) _ (by rfl) (uZ HKL) ⟨hx,0,none⟩ 1 1 [.int .i64 (kx:Int),.string (bA tx),.int .i64 (vkx:Int),.int .i64 (vnx:Int),.string (bA vsx),.slice none 0 0,.slice none 0 0,.bool fx,.slice akx nx ckx,.int .i64 (px:Int)] (by rfl) (by rfl) (World.news_of_block (uZ at4)) (ndC_one _ _ _ _ _ _ _ _ _ _) (by omega) (by unfold maxLen;have:=hbna;omega) (by have:=hbna;omega) (uZ HKa_54).ok.le _ rfl ?_
      intro g5 cap5 w55 hown5 hgrow5 hat5 hlt5
      change K (Act.put _ (some 16) _) w55
      clear hi0 hi1 hi2 hi3 HKL ind at4
      have hne:∀x,x<(Q+1)→some x≠(.slice ak na ck:Value).ownBlock:=fun x hx e=>by have:=((uZ HKa_54).own.lt x e.symm).1;omega
      have bb:Below (Q+1) w54 w55:=(Below.refl _ _).grown hgrow5 (uZ HKa_54).ok.le (fun x hx=>((uZ HKa_54).own.lt x hx).1)
      have S55:=hZ ((uZ S54).below2 bb (by omega))
      have HBQ_55:Hid (w55.heap[Q]?=some (.cells #[.int .i64 4,.string ⟨#[]⟩,.int .i64 0,.int .i64 0,.string ⟨#[]⟩,.slice none 0 0,.slice none 0 0,.bool false,.slice ak na ck,.int .i64 ((hdT l).p:Int)] 29 (0,0))):=hZ ((bb.block Q (by omega)).trans (uZ HBQ_54))
      have HKn_55:=hZ (Kr.push (uZ HKa_54) (uZ HNx_54) (by omega) (uZ HWa_x).2 (uZ HWa_x).1 hown5 (by rw [List.length_append,hlx,hlna]) hgrow5 hat5)
      clear bb hne hown5 hgrow5 hat5 hlt5 HS0 S54 HBQ_54 HKa_54 HNx_54
      have HS0:Hid (w55.cell? ⟨Q,8,none⟩=some (.slice ak na ck)):=hZ (by exact(row_cell10 (uZ HBQ_55)).2.2.2.2.2.2.2.2.1)
      refine hK.out _ _ (Or.inr (uZ HS0)) ?_
      clear hK K
      try simp only [Act.put,sA,sB,sC]
      refine till_take 6 (v:=.pointer (some ⟨Q,8,none⟩)) (some 17) rfl rfl rfl (by kernel_rfl) (by kernel_rfl) (by kernel_rfl) (by kernel_rfl) (fun _ _ _ h=>h) (Or.inl ⟨by rfl,fun u hu=>by obtain b0:=hu;go_simp⟩) (uZ HS0) ?_
      try simp only [Act.put,sA,sB,sC]
      obtain⟨-,-,-,-,-,-,-,-,g8,-⟩:=row_cell10 (uZ HBQ_55)
      have z8:=frozen_of_row w55 Q 8 _ _ (uZ HBQ_55)
      refine till_one 7 (by kernel_rfl) rfl (fun K hK=>?_)
      go_simp
      refine hK.out _ _ (Or.inl (by first|rfl|trivial)) ?_
      clear hK K HS0 g8 z8
      try simp only [Act.put,sA,sB,sC]
      refine till_done (by kernel_rfl) ?_ _
      obtain⟨w56,hw⟩:∃zz,w55.setCell ⟨Q,8,none⟩ (.slice (some ⟨g5,0,none⟩) (na+1) cap5)=zz:=⟨_,rfl⟩
      have HBQ_56:Hid (w56.heap[Q]?=some (.cells #[.int .i64 4,.string ⟨#[]⟩,.int .i64 0,.int .i64 0,.string ⟨#[]⟩,.slice none 0 0,.slice none 0 0,.bool false,.slice (some ⟨g5,0,none⟩) (na+1) cap5,.int .i64 ((hdT l).p:Int)] 29 (0,0))):=hZ (by rw [←hw,heap_setCell_same w55 Q 8 _ _ _ (uZ HBQ_55)];rfl)
      have S56:Hid (St w c 29 #[.int .i64 0,.string ⟨#[]⟩,.int .i64 0,.int .i64 0,.string ⟨#[]⟩,.slice none 0 0,.slice none 0 0,.bool false,.slice none 0 0,.int .i64 0] w56 lx (d+1)):=hZ (by rw [←hw];exact(uZ S55).own Q 8 _ ltQ)
      have HKn_56:=hZ ((uZ HKn_55).but (q:=Q) (w':=w56) (fun b _ hb=>by rw [←hw];exact heap_setCell_other _ _ _ _ hb) (by rw [←hw];simp) (by omega))
      rw [hw]
      clear hw S55 HBQ_55 HKn_55
      have hpl:=PJ_len g1 9 0 [] la (d+1) nsx lx ⟨by decide,by omega⟩ (uZ HYX)
      simp only [twoJ,List.length_nil,reduceIte,Nat.reduceEqDiff] at hpl
      go_wp2_with fail
      go_roundg g1
      case measure=>omega
      case rel=>exact⟨acc++nsx,lx,na+1,some ⟨g5,0,none⟩,cap5,_,_,hZ ⟨by omega,(uZ HJ64),by rw [List.length_append,hlx,hlna],by omega⟩,hZ ⟨uZ S56,uZ HBQ_56,uZ HKn_56⟩⟩
  ·have CC:=hZ (ent_deep (uZ S1).rd [123] hq (show d=24 by omega))
   have HR:=hZ (thn_end hq (show d=24 by omega) (uZ HJ1))
   go_wp2_with fail
   refine(uZ CC).mono ?_
   rintro e wx ⟨rfl,b⟩
   have HX:=hZ ((uZ S1).bad b)
   clear b CC
   unfold fltP
   go_wp2_with fail
   exact⟨rfl,by rw [uZ HR];exact⟨rfl,uZ HX⟩⟩
 ·have hq:isS [123] l=false:=by simpa using hb
  have CC:=hZ (ent_bad (uZ S1).rd [123] hq)
  have HR:=hZ (thn_enb hq (uZ HJ1))
  go_wp2_with fail
  refine(uZ CC).mono ?_
  rintro e wx ⟨rfl,b⟩
  have HX:=hZ ((uZ S1).bad b)
  clear b CC
  unfold fltP
  go_wp2_with fail
  exact⟨rfl,by rw [uZ HR];exact⟨rfl,uZ HX⟩⟩
set_option maxRecDepth 100000 in
set_option maxHeartbeats 8000000 in
theorem guard_step0 {c:Cx} {l:List Tk} {d:Nat} {w w1:World} {r:Rs (List Nd)} {f:Nat} (ihe:∀{c:Cx} {l:List Tk} {d:Nat} {w:World} {r:Rs (List Nd)},PJ f 0 0 [] l d=some r→Rd w c l d→Calls Tryz.prog 15 #[.pointer (some ⟨c.g,0,none⟩)] w fun e w'=>NdP c w d r e w') (ihb:∀{c:Cx} {l:List Tk} {d:Nat} {w:World} {r:Rs (List Nd)},PJ f 10 0 [] l d=some r→Rd w c l d→Calls Tryz.prog 35 #[.pointer (some ⟨c.g,0,none⟩)] w fun e w'=>NdP c w d r e w') (hJ:PJ (f+1) 20 0 [] l d=some r) (hws:w=w1) (h:Rd w1 c l d) :
  Calls Tryz.prog 102 #[.pointer (some ⟨c.g,0,none⟩)] w1 fun e w'=>KsP c w d r e w':=by
 have S1:=hZ (St0.start hws h)
 have hgw:c.g<w.heap.size:=by rw [hws];exact h.cells.2.2.2.2.2
 clear h hws
 go_enter Tryz.func102,Tryz.ntmps102
 have HJ0:=hZ (show jGuard (PJ f) l d=some r from hJ)
 clear hJ
 have HJ1:=hZ ((by have:=uZ HJ0;unfold jGuard at this;exact this))
 clear HJ0
 by_cases hb:isS [40] l=true
 ·have hq:isS [40] l=true:=by simpa using hb
  have HJ2:=hZ (thn_sg hq (uZ HJ1))
  clear HJ1
  have CC:=hZ (psg_ok (uZ S1).rd [40] hq)
  go_wp2_with fail
  refine(uZ CC).mono ?_
  rintro e w2 ⟨rfl,r2,b⟩
  have S2:=hZ ((uZ S1).go b r2)
  clear b r2 CC S1
  obtain⟨yx,hy,hth⟩:=bnd_some (uZ HJ2)
  have HJ3:=hZ (hth)
  clear HJ2
  clear hth
  have CR:=hZ (ihe hy (uZ S2).rd)
  have HYX:=hZ hy
  clear hy
  rcases yx with ⟨ea,ep⟩|⟨nsx,lx⟩
  ·have HR:=hZ (thn_err (uZ HJ3))
   go_wp2_with fail
   refine(uZ CR).mono ?_
   rintro e wx ⟨rfl,b⟩
   have HX:=hZ ((uZ S2).bad b)
   clear b CR
   unfold fltP
   go_wp2_with fail
   exact⟨rfl,by rw [uZ HR];exact⟨rfl,uZ HX⟩⟩
  ·have HJ4:=hZ (thn_ok (uZ HJ3))
   clear HJ3
   go_wp2_with fail
   refine(uZ CR).mono ?_
   rintro e w3 ⟨kx,tx,vkx,vnx,vsx,fx,nx,akx,ckx,px,Zx,rfl,hlx,hn,r2,b⟩
   have S3:=hZ ((uZ S2).go b r2)
   obtain⟨lox,hlo⟩:∃zz,w2.heap.size=zz:=⟨_,rfl⟩
   have ltlox:w.heap.size≤lox:=by rw [←hlo];exact(uZ S2).lt
   rw [hlo] at hn
   have HNx_3:=hZ hn
   clear hlo b r2 hn CR S2
   go_upto_region 3 with fail
   obtain⟨w4,hw⟩:∃zz,w3.alloc (.cells #[.int .i64 (kx:Int),.string (bA tx),.int .i64 (vkx:Int),.int .i64 (vnx:Int),.string (bA vsx),.slice none 0 0,.slice none 0 0,.bool fx,.slice akx nx ckx,.int .i64 (px:Int)] 29)=zz:=⟨_,rfl⟩
   have b:Below w3.heap.size w3 w4:=by rw [←hw];exact(Below.refl _ _).alloc (Nat.le_refl _) _
   obtain⟨Q,hQ⟩:∃zz,w3.heap.size=zz:=⟨_,rfl⟩
   have HBQ_4:Hid (w4.heap[Q]?=some (.cells #[.int .i64 (kx:Int),.string (bA tx),.int .i64 (vkx:Int),.int .i64 (vnx:Int),.string (bA vsx),.slice none 0 0,.slice none 0 0,.bool fx,.slice akx nx ckx,.int .i64 (px:Int)] 29 (0,0))):=hZ (by rw [←hw,←hQ];exact heap_alloc_new _ _)
   have S4:=hZ ((uZ S3).below b)
   have HNx_4:=hZ ((uZ HNx_3).beside (Beside.of_below (gr:=c.g) b) (by omega))
   have ANx_Q:=hZ ((uZ HNx_3).fresh hQ)
   have ltQ:w.heap.size≤Q:=by rw [←hQ];exact(uZ S3).lt
   rw [hw]
   try rw [hQ]
   clear hw hQ b S3 HNx_3
   by_cases hb:isS [41] lx=true
   ·have hq:isS [41] lx=true:=by simpa using hb
    have HJ5:=hZ (thn_sg hq (uZ HJ4))
    clear HJ4
    have CC:=hZ (psg_ok (uZ S4).rd [41] hq)
    go_wp2_with fail
    refine(uZ CC).mono ?_
    rintro e w5 ⟨rfl,r2,b⟩
    have S5:=hZ ((uZ S4).go b r2)
    have HBQ_5:=bx_go HBQ_4 b (by omega)
    have HNx_5:=hZ ((uZ HNx_4).beside b (by omega))
    clear b r2 CC S4 HBQ_4 HNx_4
    go_upto_region 4 with fail
    obtain⟨Qc0,Qc1,Qc2,Qc3,Qc4,Qc5,Qc6,Qc7,Qc8,Qc9⟩:=row_cell10 (uZ HBQ_5)
    have HS0:Hid (w5.drew.cell? ⟨Q,0,none⟩=some (.int .i64 (kx:Int))∧w5.drew.cell? ⟨Q,1,none⟩=some (.string (bA tx))∧w5.drew.cell? ⟨Q,2,none⟩=some (.int .i64 (vkx:Int))∧w5.drew.cell? ⟨Q,3,none⟩=some (.int .i64 (vnx:Int))∧w5.drew.cell? ⟨Q,4,none⟩=some (.string (bA vsx))∧w5.drew.cell? ⟨Q,5,none⟩=some (.slice none 0 0)∧w5.drew.cell? ⟨Q,6,none⟩=some (.slice none 0 0)∧w5.drew.cell? ⟨Q,7,none⟩=some (.bool fx)∧w5.drew.cell? ⟨Q,8,none⟩=some (.slice akx nx ckx)∧w5.drew.cell? ⟨Q,9,none⟩=some (.int .i64 (px:Int))):=hZ (⟨Qc0,Qc1,Qc2,Qc3,Qc4,Qc5,Qc6,Qc7,Qc8,Qc9⟩)
    refine till_begin (S:=fun w'=>w'.cell? ⟨Q,0,none⟩=some (.int .i64 (kx:Int))∧w'.cell? ⟨Q,1,none⟩=some (.string (bA tx))∧w'.cell? ⟨Q,2,none⟩=some (.int .i64 (vkx:Int))∧w'.cell? ⟨Q,3,none⟩=some (.int .i64 (vnx:Int))∧w'.cell? ⟨Q,4,none⟩=some (.string (bA vsx))∧w'.cell? ⟨Q,5,none⟩=some (.slice none 0 0)∧w'.cell? ⟨Q,6,none⟩=some (.slice none 0 0)∧w'.cell? ⟨Q,7,none⟩=some (.bool fx)∧w'.cell? ⟨Q,8,none⟩=some (.slice akx nx ckx)∧w'.cell? ⟨Q,9,none⟩=some (.int .i64 (px:Int))) 4 (by kernel_rfl) ?_
    obtain⟨w6,hWD⟩:∃zz,w5.drew=zz:=⟨_,rfl⟩
    have bD:Below w5.heap.size w5 w6:=by rw [←hWD];exact(Below.refl _ _).drew
    rw [hWD] at HS0
    rw [hWD]
    have S6:=hZ ((uZ S5).below bD)
    have HBQ_6:=bx_be HBQ_5 bD
    have HNx_6:=hZ ((uZ HNx_5).beside (Beside.of_below (gr:=c.g) bD) (by omega))
    clear hWD bD S5 HBQ_5 HNx_5
    clear Qc0 Qc1 Qc2 Qc3 Qc4 Qc5 Qc6 Qc7 Qc8 Qc9
    refine till_take 0 (v:=.agg #[.int .i64 (kx:Int),.string (bA tx),.int .i64 (vkx:Int),.int .i64 (vnx:Int),.string (bA vsx),.slice none 0 0,.slice none 0 0,.bool fx,.slice akx nx ckx,.int .i64 (px:Int)]) (some 10) rfl rfl rfl (by kernel_rfl) (by kernel_rfl) (by kernel_rfl) (by kernel_rfl) (fun _ _ _ h=>h) (Or.inl ⟨by rfl,fun u hu=>by obtain⟨b0,b1,b2,b3,b4,b5,b6,b7,b8,b9⟩:=hu;go_simp⟩) (uZ HS0) ?_
    try simp only [Act.put,sA,sB,sC]
    refine till_take 1 (v:=.pointer (some ⟨c.g,0,none⟩)) (some 11) rfl rfl rfl (by kernel_rfl) (by kernel_rfl) (by kernel_rfl) (by kernel_rfl) (fun _ _ _ h=>h) (Or.inl ⟨by rfl,fun u hu=>by obtain⟨b0,b1,b2,b3,b4,b5,b6,b7,b8,b9⟩:=hu;go_simp⟩) (uZ HS0) ?_
    try simp only [Act.put,sA,sB,sC]
    obtain⟨yy,hy,hth⟩:=bnd_some (uZ HJ5)
    have HJ6:=hZ (hth)
    clear HJ5
    clear hth
    have CR:=hZ (ihb hy (uZ S6).rd)
    have HYX:=hZ hy
    clear hy
    rcases yy with ⟨ea,ep⟩|⟨nsy,ly⟩
    ·have HR:=hZ (thn_err (uZ HJ6))
     refine till_one 2 (by kernel_rfl) rfl (fun K hK=>?_)
     go_simp
     refine(uZ CR).mono ?_
     rintro e wx ⟨rfl,b⟩
     have HX:=hZ ((uZ S6).bad b)
     clear b CR
     unfold fltP
     go_wp2_with fail
     exact⟨rfl,by rw [uZ HR];exact⟨rfl,uZ HX⟩⟩
    ·have HJ7:=hZ (thn_ok (uZ HJ6))
     clear HJ6
     refine till_one 2 (by kernel_rfl) rfl (fun K hK=>?_)
     go_simp
     refine(uZ CR).mono ?_
     rintro e w7 ⟨ky,ty,vky,vny,vsy,fy,ny,aky,cky,py,Zy,rfl,hly,hn,r2,b⟩
     have S7:=hZ ((uZ S6).go b r2)
     have HBQ_7:=bx_go HBQ_6 b (by omega)
     have HNx_7:=hZ ((uZ HNx_6).beside b (by omega))
     obtain⟨loy,hlo⟩:∃zz,w6.heap.size=zz:=⟨_,rfl⟩
     have ltloy:w.heap.size≤loy:=by rw [←hlo];exact(uZ S6).lt
     have lqQ_y:Q<loy:=by rw [←hlo];exact(Array.getElem?_eq_some_iff.1 (uZ HBQ_6)).1
     have HMx_y:Hid (∀b∈Zx,b<loy):=hZ (fun b hb=>by rw [←hlo];exact((uZ HNx_6).rg b hb).2)
     have lex_y:lox≤loy:=by rw [←hlo];exact(uZ HNx_6).le
     rw [hlo] at hn
     have HNy_7:=hZ hn
     clear hlo b r2 hn CR S6 HBQ_6 HNx_6
     clear HS0
     have HS0:Hid (w7.cell? ⟨Q,0,none⟩=some (.int .i64 (kx:Int))∧w7.cell? ⟨Q,1,none⟩=some (.string (bA tx))∧w7.cell? ⟨Q,2,none⟩=some (.int .i64 (vkx:Int))∧w7.cell? ⟨Q,3,none⟩=some (.int .i64 (vnx:Int))∧w7.cell? ⟨Q,4,none⟩=some (.string (bA vsx))∧w7.cell? ⟨Q,5,none⟩=some (.slice none 0 0)∧w7.cell? ⟨Q,6,none⟩=some (.slice none 0 0)∧w7.cell? ⟨Q,7,none⟩=some (.bool fx)∧w7.cell? ⟨Q,8,none⟩=some (.slice akx nx ckx)∧w7.cell? ⟨Q,9,none⟩=some (.int .i64 (px:Int))):=hZ (by exact row_cell10 (uZ HBQ_7))
     go_wp2_with fail
     refine hK.out _ _ (Or.inr (uZ HS0)) ?_
     clear hK K
     try simp only [Act.put,sA,sB,sC]
     have hr1:=okN_some (uZ HJ7)
     have HR:=hZ hr1
     clear hr1
     have hkn:=hZ ((uZ HNx_7).app (uZ HMx_y) (uZ HNy_7) (by omega))
     obtain⟨w8,hwr⟩:∃zz,w7.alloc (.cells #[.int .i64 (kx:Int),.string (bA tx),.int .i64 (vkx:Int),.int .i64 (vnx:Int),.string (bA vsx),.slice none 0 0,.slice none 0 0,.bool fx,.slice akx nx ckx,.int .i64 (px:Int),.int .i64 (ky:Int),.string (bA ty),.int .i64 (vky:Int),.int .i64 (vny:Int),.string (bA vsy),.slice none 0 0,.slice none 0 0,.bool fy,.slice aky ny cky,.int .i64 (py:Int)] 29)=zz:=⟨_,rfl⟩
     have b:Below w7.heap.size w7 w8:=by rw [←hwr];exact(Below.refl _ _).alloc (Nat.le_refl _) _
     obtain⟨qr,hqr⟩:∃zz,w7.heap.size=zz:=⟨_,rfl⟩
     have HKr_8:Hid (Kr lox w8 _ (.slice (some ⟨qr,0,none⟩) _ _) [.int .i64 (kx:Int),.string (bA tx),.int .i64 (vkx:Int),.int .i64 (vnx:Int),.string (bA vsx),.slice none 0 0,.slice none 0 0,.bool fx,.slice akx nx ckx,.int .i64 (px:Int),.int .i64 (ky:Int),.string (bA ty),.int .i64 (vky:Int),.int .i64 (vny:Int),.string (bA vsy),.slice none 0 0,.slice none 0 0,.bool fy,.slice aky ny cky,.int .i64 (py:Int)] _):=hZ (by rw [←hwr,←hqr];exact Kr.mk' (uZ hkn) (by rw [show (nsx++nsy).length=2 by rw [List.length_append,hlx,hly]];decide))
     rw [show (nsx++nsy).length=2 by rw [List.length_append,hlx,hly]] at HKr_8
     have ltr:w.heap.size≤qr:=by rw [←hqr];exact(uZ S7).lt
     have S8:=hZ ((uZ S7).below b)
     have HBQ_8:=bx_be HBQ_7 b
     clear b hkn S7 HBQ_7 HNx_7 HNy_7
     refine till_one 3 (by kernel_rfl) rfl (fun K hK=>?_)
     go_simp
     try rw [hwr]
     try rw [hqr]
     clear HS0
     have HS0:Hid (w8.cell? ⟨Q,0,none⟩=some (.int .i64 (kx:Int))∧w8.cell? ⟨Q,1,none⟩=some (.string (bA tx))∧w8.cell? ⟨Q,2,none⟩=some (.int .i64 (vkx:Int))∧w8.cell? ⟨Q,3,none⟩=some (.int .i64 (vnx:Int))∧w8.cell? ⟨Q,4,none⟩=some (.string (bA vsx))∧w8.cell? ⟨Q,5,none⟩=some (.slice none 0 0)∧w8.cell? ⟨Q,6,none⟩=some (.slice none 0 0)∧w8.cell? ⟨Q,7,none⟩=some (.bool fx)∧w8.cell? ⟨Q,8,none⟩=some (.slice akx nx ckx)∧w8.cell? ⟨Q,9,none⟩=some (.int .i64 (px:Int))):=hZ (by exact row_cell10 (uZ HBQ_8))
     refine hK.out _ _ (Or.inr (uZ HS0)) ?_
     clear hK K hwr hqr
     try simp only [Act.put,sA,sB,sC]
     refine till_one 4 (by kernel_rfl) rfl (fun K hK=>?_)
     go_simp
     refine hK.out _ _ (Or.inl (by first|rfl|trivial)) ?_
     clear hK K HS0
     try simp only [Act.put,sA,sB,sC]
     refine till_done (by kernel_rfl) ?_ _
     go_wp2_with fail
     go_ret
     rw [uZ HR]
     exact⟨some ⟨qr,0,none⟩,2,_,_,by rw [show (nsx++nsy).length=2 by rw [List.length_append,hlx,hly]];rfl,by rw [show (nsx++nsy).length=2 by rw [List.length_append,hlx,hly]];exact(uZ HKr_8).low (by omega),(uZ S8).rd,(uZ S8).bs⟩
   ·have hq:isS [41] lx=false:=by simpa using hb
    have CC:=hZ (psg_bad (uZ S4).rd [41] hq)
    have HR:=hZ (thn_sgb hq (uZ HJ4))
    go_wp2_with fail
    refine(uZ CC).mono ?_
    rintro e wx ⟨rfl,b⟩
    have HX:=hZ ((uZ S4).bad b)
    clear b CC
    unfold fltP
    go_wp2_with fail
    exact⟨rfl,by rw [uZ HR];exact⟨rfl,uZ HX⟩⟩
 ·have hq:isS [40] l=false:=by simpa using hb
  have CC:=hZ (psg_bad (uZ S1).rd [40] hq)
  have HR:=hZ (thn_sgb hq (uZ HJ1))
  go_wp2_with fail
  refine(uZ CC).mono ?_
  rintro e wx ⟨rfl,b⟩
  have HX:=hZ ((uZ S1).bad b)
  clear b CC
  unfold fltP
  go_wp2_with fail
  exact⟨rfl,by rw [uZ HR];exact⟨rfl,uZ HX⟩⟩
set_option maxRecDepth 100000 in
set_option maxHeartbeats 4000000 in
theorem loop_step {c:Cx} {l:List Tk} {d:Nat} {w:World} {r:Rs (List Nd)} {f:Nat} (ihg:∀{c:Cx} {l:List Tk} {d:Nat} {w:World} {r:Rs (List Nd)},PJ f 20 0 [] l d=some r→Rd w c l d→Calls Tryz.prog 102 #[.pointer (some ⟨c.g,0,none⟩)] w fun e w'=>KsP c w d r e w') (hk0:¬(hdT l).k=0) (hJ:PJ (f+1) 17 0 [] l d=some r) (h:Rd w c l d) :
  Calls Tryz.prog 85 #[.pointer (some ⟨c.g,0,none⟩)] w fun e w'=>NdP c w d r e w':=by
 have S1:=hZ (St.start h 29 #[.int .i64 0,.string ⟨#[]⟩,.int .i64 0,.int .i64 0,.string ⟨#[]⟩,.slice none 0 0,.slice none 0 0,.bool false,.slice none 0 0,.int .i64 0])
 obtain⟨w1,hw1⟩:∃w1,w.alloc (.cells #[.int .i64 0,.string ⟨#[]⟩,.int .i64 0,.int .i64 0,.string ⟨#[]⟩,.slice none 0 0,.slice none 0 0,.bool false,.slice none 0 0,.int .i64 0] 29)=w1:=⟨_,rfl⟩
 rw [hw1] at S1
 obtain⟨G,hG⟩:∃G,w.heap.size=G:=⟨_,rfl⟩
 have hgw:c.g<w.heap.size:=h.cells.2.2.2.2.2
 have HK0:=hZ hk0
 clear h
 go_enter Tryz.func85,Tryz.ntmps85
 have HJ0:=hZ (show jLoop (PJ f) l d=some r from hJ)
 clear hJ
 obtain⟨⟨k,t,n,p⟩,ht⟩:∃t,hdT l=t:=⟨_,rfl⟩
 have HT:=hZ ht
 clear ht
 have HJ1:=hZ ((by have:=uZ HJ0;unfold jLoop at this;rw [uZ HT] at this;exact this))
 clear HJ0
 have CC:=hZ ((by have:=pass_any (uZ S1).rd (uZ HK0);rw [uZ HT] at this;simp only [tkA] at this;exact this))
 go_wp2_with fail
 refine(uZ CC).mono ?_
 rintro e w2 ⟨rfl,r2,b⟩
 have S2:=hZ ((uZ S1).go b r2)
 clear b r2 CC S1
 go_upto_region 2 with (first|(refine wpl_tk3 rfl _ rfl _ _ _ _ rfl ?_)|(refine wpl_tk1 rfl _ rfl _ _ _ _ rfl ?_)|(refine wpl_tk0 rfl _ rfl _ _ _ _ rfl ?_))
 obtain⟨w3,hw⟩:∃zz,w2.alloc (.cells #[.int .i64 8,.string ⟨#[]⟩,.int .i64 0,.int .i64 0,.string ⟨#[]⟩,.slice none 0 0,.slice none 0 0,.bool false,.slice none 0 0,.int .i64 (p:Int)] 29)=zz:=⟨_,rfl⟩
 have b:Below w2.heap.size w2 w3:=by rw [←hw];exact(Below.refl _ _).alloc (Nat.le_refl _) _
 obtain⟨Q,hQ⟩:∃zz,w2.heap.size=zz:=⟨_,rfl⟩
 have HBQ_3:Hid (w3.heap[Q]?=some (.cells #[.int .i64 8,.string ⟨#[]⟩,.int .i64 0,.int .i64 0,.string ⟨#[]⟩,.slice none 0 0,.slice none 0 0,.bool false,.slice none 0 0,.int .i64 (p:Int)] 29 (0,0))):=hZ (by rw [←hw,←hQ];exact heap_alloc_new _ _)
 have S3:=hZ ((uZ S2).below b)
 have ltQ:w.heap.size<Q:=by rw [←hQ];exact(uZ S2).lt
 rw [hw]
 try rw [hQ]
 clear hw hQ b S2
 obtain⟨yx,hy,hth⟩:=bnd_some (uZ HJ1)
 have HJ2:=hZ (hth)
 clear HJ1
 clear hth
 have CR:=hZ (ihg hy (uZ S3).rd)
 have HYX:=hZ hy
 clear hy
 rcases yx with ⟨ea,ep⟩|⟨nsx,lx⟩
 ·have HR:=hZ (thn_err (uZ HJ2))
  go_wp2_with fail
  refine(uZ CR).mono ?_
  rintro e wx ⟨rfl,b⟩
  have HX:=hZ ((uZ S3).bad b)
  clear b CR
  unfold fltP
  go_wp2_with fail
  exact⟨rfl,by rw [uZ HR];exact⟨rfl,uZ HX⟩⟩
 ·have HJ3:=hZ (thn_ok (uZ HJ2))
  clear HJ2
  go_wp2_with fail
  refine(uZ CR).mono ?_
  rintro e w4 ⟨ax,qx,Cx,Zx,rfl,hk,r2,b⟩
  have S4:=hZ ((uZ S3).go b r2)
  have HBQ_4:=bx_go HBQ_3 b (by omega)
  obtain⟨lox,hlo⟩:∃zz,w3.heap.size=zz:=⟨_,rfl⟩
  have ltlox:w.heap.size<lox:=by rw [←hlo];exact(uZ S3).lt
  have lqQ_x:Q<lox:=by rw [←hlo];exact(Array.getElem?_eq_some_iff.1 (uZ HBQ_3)).1
  rw [hlo] at hk
  have HKx_4:=hZ hk
  clear hlo b r2 hk CR S3 HBQ_3
  obtain⟨na,hlnx⟩:∃zz,nsx.length=zz:=⟨_,rfl⟩
  rw [hlnx] at HKx_4
  try rw [hlnx]
  obtain⟨-,-,-,-,-,-,-,-,Qc8,-⟩:=row_cell10 (uZ HBQ_4)
  have Qf8:=frozen_of_row w4 Q 8 _ _ (uZ HBQ_4)
  go_upto_region 3 with fail
  clear Qc8 Qf8
  try rw [hlnx]
  obtain⟨w5,hw⟩:∃zz,w4.setCell ⟨Q,8,none⟩ (.slice ax na qx)=zz:=⟨_,rfl⟩
  have HBQ_5:Hid (w5.heap[Q]?=some (.cells #[.int .i64 8,.string ⟨#[]⟩,.int .i64 0,.int .i64 0,.string ⟨#[]⟩,.slice none 0 0,.slice none 0 0,.bool false,.slice ax na qx,.int .i64 (p:Int)] 29 (0,0))):=hZ (by rw [←hw,heap_setCell_same w4 Q 8 _ _ _ (uZ HBQ_4)];rfl)
  have S5:Hid (St w c 29 #[.int .i64 0,.string ⟨#[]⟩,.int .i64 0,.int .i64 0,.string ⟨#[]⟩,.slice none 0 0,.slice none 0 0,.bool false,.slice none 0 0,.int .i64 0] w5 lx d):=hZ (by rw [←hw];exact(uZ S4).own Q 8 _ ltQ)
  have HKx_5:=hZ ((uZ HKx_4).but (q:=Q) (w':=w5) (fun b _ hb=>by rw [←hw];exact heap_setCell_other _ _ _ _ hb) (by rw [←hw];simp) (by omega))
  rw [hw]
  clear hw S4 HBQ_4 HKx_4
  have hr1:=okN_some (uZ HJ3)
  have hnn:=(uZ HKx_5).node' hlnx 8 [] 0 0 [] false p
  have HR:=hZ (hr1)
  have BX:=(uZ S5).bx
  rw [hG] at BX
  obtain⟨g0,g1,g2,g3,g4,g5,g6,g7,g8,g9⟩:=row_cell10 BX
  obtain⟨z0,z1,z2,z3,z4,z5,z6,z7,z8,z9⟩:=frozen10 BX
  clear BX
  obtain⟨Qc0,Qc1,Qc2,Qc3,Qc4,Qc5,Qc6,Qc7,Qc8,Qc9⟩:=row_cell10 (uZ HBQ_5)
  have FF:=hZ (St.done (uZ S5) (hnn.low (by omega)) rfl hG)
  go_wp2_with fail
  refine bodyPost_ret (ret_c1 (p:=2) (T:=29) rfl _ _ G _ _ _ rfl (uZ FF).1 Tryz.underlying29 rfl size_nd) rfl ?_
  rw [uZ HR]
  exact(uZ FF).2
end Go.Proofs.YtilhlmmcdfoaoaaGreatDoor
