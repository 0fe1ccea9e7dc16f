/-
  Layer 17 (parse): programs; conditions: the reader's state.
-/
import Derived.Test.YtjdpaihhhjdgmaaGreatDoorA39
import Derived.Deep.LoopGhost
set_option linter.unusedVariables false
set_option linter.unusedSimpArgs false
set_option maxRecDepth 100000
set_option maxHeartbeats 8000000
namespace Go.Proofs.YtjdpaihhhjdgmaaGreatDoor
open Go.RowKit
set_option linter.unusedVariables false
set_option linter.unusedSimpArgs false
theorem prog_step {c:Cx} {l:List Tk} {d:Nat} {w:World} {r:Rs (List Nd)} {f:Nat} (ihf:∀{f1:Nat},f1≤f→∀{c:Cx} {l:List Tk} {d:Nat} {w:World} {r:Rs (List Nd)},PJ f1 13 0 [] l d=some r→Rd w c l d→Calls Tryz.prog 38 #[.pointer (some ⟨c.g,0,none⟩)] w fun e w'=>NdP c w d r e w') (hJ:PJ (f+1) 27 0 [] l d=some r) (h:Rd w c l d) :
  Calls Tryz.prog 20 #[.pointer (some ⟨c.g,0,none⟩)] w fun e w'=>NdP c w d r e w':=by
 have S1:=hZ (St.start h 28 #[.int .i64 0,.string ⟨#[]⟩,.int .i64 0,.int .i64 0,.string ⟨#[]⟩,.slice none 0 0,.slice none 0 0,.bool false,.slice none 0 0,.int .i64 0])
 obtain⟨w1,hw1⟩:=eX (w.alloc (.cells #[.int .i64 0,.string ⟨#[]⟩,.int .i64 0,.int .i64 0,.string ⟨#[]⟩,.slice none 0 0,.slice none 0 0,.bool false,.slice none 0 0,.int .i64 0] 28))
 rw [hw1] at S1
 obtain⟨G,hG⟩:=eX (w.heap.size)
 have hgw:c.g<w.heap.size:=h.cells.2.2.2.2.2
 clear h
 go_enter Tryz.func20,Tryz.ntmps20
 have HJ0:=hZ (show bnd (PJ f 14 0 [] l d) (fun ks l1=>okN [nd0 1 [] ks 0] l1)=some r from hJ)
 clear hJ
 go_upto_region 2 with fail
 obtain⟨w2,hw⟩:=eX (w1.alloc (.cells #[.int .i64 1,.string ⟨#[]⟩,.int .i64 0,.int .i64 0,.string ⟨#[]⟩,.slice none 0 0,.slice none 0 0,.bool false,.slice none 0 0,.int .i64 0] 28))
 have b:=alB hw
 obtain⟨Q,hQ⟩:=eX (w1.heap.size)
 have HBQ_2:Hid (w2.heap[Q]?=some (.cells #[.int .i64 1,.string ⟨#[]⟩,.int .i64 0,.int .i64 0,.string ⟨#[]⟩,.slice none 0 0,.slice none 0 0,.bool false,.slice none 0 0,.int .i64 0] 28 (0,0))):=hZ (by rw [←hw,←hQ];exact heap_alloc_new _ _)
 have S2:=hZ ((uZ S1).below b)
 have ltQ:w.heap.size<Q:=by rw [←hQ];exact(uZ S1).lt
 rw [hw]
 try rw [hQ]
 clear hw hQ b S1
 obtain⟨Y,hY,hth⟩:=bnd_some (uZ HJ0)
 have HJ1:=hZ (hth)
 clear HJ0
 clear hth
 have HKa_2:Hid (Kr (Q+1) w2 [] (.slice none 0 0) [] []):=hZ (Kr.nil (Array.getElem?_eq_some_iff.1 (uZ HBQ_2)).1)
 have HY:=hZ hY
 clear hY
 have hnl:l.length≤10000:=by have h1:=(uZ S2).rd.head;have h2:=(uZ S2).rd.len;omega
 go_wp2_with fail
 go_loopg [] f (fun gk wr=>∃(acc:List Nd) (la:List Tk) (na:Nat) (ak:Option Addr) (ck:Nat) (C:List Value) (Sa:List Nat),Hid (gk≤f∧PJ gk 14 0 acc la d=some Y∧acc.length=na∧na+la.length≤10000)∧Hid (St w c 28 #[.int .i64 0,.string ⟨#[]⟩,.int .i64 0,.int .i64 0,.string ⟨#[]⟩,.slice none 0 0,.slice none 0 0,.bool false,.slice none 0 0,.int .i64 0] wr la d∧wr.heap[Q]?=some (.cells #[.int .i64 1,.string ⟨#[]⟩,.int .i64 0,.int .i64 0,.string ⟨#[]⟩,.slice none 0 0,.slice none 0 0,.bool false,.slice ak na ck,.int .i64 0] 28 (0,0))∧Kr (Q+1) wr acc (.slice ak na ck) C Sa))
 case atStart=>exact⟨[],l,0,none,0,[],[],hZ ⟨Nat.le_refl _,uZ HY,rfl,by omega⟩,hZ ⟨uZ S2,uZ HBQ_2,uZ HKa_2⟩⟩
 case round=>
  clear HY HKa_2 S2 HBQ_2
  obtain⟨acc,la,na,ak,ck,Ca,Sa,HA,HI⟩:=hrel
  obtain⟨w50,hw50⟩:∃zz,zz=wr:=⟨_,rfl⟩
  subst hw50
  have S50:=hZ (uZ HI).1
  have HBQ_50:=hZ (uZ HI).2.1
  have HKa_50:=hZ (uZ HI).2.2
  obtain⟨g1,hg1⟩:=PJ_fuel (uZ HA).2.1
  subst hg1
  have HJ60:=hZ (show jPrL (PJ g1) acc la d=some Y from (uZ HA).2.1)
  have hlna:=(uZ HA).2.2.1
  have hbna:=(uZ HA).2.2.2
  have hgf:=(uZ HA).1
  clear HI HA
  obtain⟨⟨k,t,n,p⟩,ht⟩:∃t,hdT la=t:=⟨_,rfl⟩
  have HT:=hZ ht
  clear ht
  have HJ61:=hZ ((by have:=uZ HJ60;unfold jPrL at this;rw [uZ HT] at this;exact this))
  clear HJ60
  have CC:=hZ ((by have:=token_any (uZ S50).rd;rw [uZ HT] at this;simp only [tkA] at this;exact this))
  go_wp2_with fail
  refine(uZ CC).mono ?_
  rintro e w51 ⟨rfl,b⟩
  have S51:=hZ ((uZ S50).below b)
  have HBQ_51:=bx_be HBQ_50 b
  have HKa_51:=hZ ((uZ HKa_50).beside (Beside.of_below (gr:=c.g) b) (by omega))
  clear b CC S50 HBQ_50 HKa_50
  by_cases hk:(⟨k,t,n,p⟩:Tk).k=0
  ·have HJ62:=hZ ((by have:=(uZ HJ61);rw [if_pos hk] at this;exact this))
   clear HJ61
   have hk:k=0:=hk
   subst hk
   have HY2:=hZ (okN_some (uZ HJ62))
   have HJ90:=hZ (thn_ok (by have:=uZ HJ1;rw [uZ HY2] at this;exact this))
   have hr1:=okN_some (uZ HJ90)
   have hnn:=(uZ HKa_51).node' hlna 1 [] 0 0 [] false 0
   have HR:=hZ (hr1)
   have BX:=(uZ S51).bx
   rw [hG] at BX
   obtain⟨g0,g1,g2,g3,g4,g5,g6,g7,g8,g9⟩:=row_cell10 BX
   obtain⟨z0,z1,z2,z3,z4,z5,z6,z7,z8,z9⟩:=frozen10 BX
   clear BX
   obtain⟨Qc0,Qc1,Qc2,Qc3,Qc4,Qc5,Qc6,Qc7,Qc8,Qc9⟩:=row_cell10 (uZ HBQ_51)
   have FF:=hZ (St.done (uZ S51) (hnn.low (by omega)) rfl hG)
   go_wp2_with (first|(refine wpl_tk3 rfl _ rfl _ _ _ _ rfl ?_)|(refine wpl_tk1 rfl _ rfl _ _ _ _ rfl ?_)|(refine wpl_tk0 rfl _ rfl _ _ _ _ rfl ?_))
   refine rtN (p:=2) rfl rfl (uZ FF).1 rfl rfl ?_
   rw [uZ HR]
   exact(uZ FF).2
  ·have hk0:¬k=0:=hk
   have hk1:¬(k:Int)=0:=by omega
   have hk2:((k:Int) == 0)=false:=by simpa using hk1
   have HJ62:=hZ ((by have:=(uZ HJ61);rw [if_neg hk] at this;exact this))
   clear HJ61
   go_upto_region 3 with (first|(refine wpl_tk3 rfl _ rfl _ _ _ _ rfl ?_)|(refine wpl_tk1 rfl _ rfl _ _ _ _ rfl ?_)|(refine wpl_tk0 rfl _ rfl _ _ _ _ rfl ?_))
   obtain⟨-,-,-,-,-,-,-,-,Qc8,-⟩:=row_cell10 (uZ HBQ_51)
   have HS0:Hid (w51.drew.cell? ⟨Q,8,none⟩=some (.slice ak na ck)):=hZ (Qc8)
   refine till_begin (S:=fun w'=>w'.cell? ⟨Q,8,none⟩=some (.slice ak na ck)) 7 (by kernel_rfl) ?_
   obtain⟨w52,hWD⟩:=eX (w51.drew)
   have bD:Below w51.heap.size w51 w52:=by rw [←hWD];exact(Below.refl _ _).drew
   rw [hWD] at HS0
   rw [hWD]
   have S52:=hZ ((uZ S51).below bD)
   have HBQ_52:=bx_be HBQ_51 bD
   have HKa_52:=hZ ((uZ HKa_51).beside (Beside.of_below (gr:=c.g) bD) (by omega))
   clear hWD bD S51 HBQ_51 HKa_51
   clear Qc8
   refine tK 0 (v:=.pointer (some ⟨Q,8,none⟩)) (some 9) rfl rfl rfl (by kernel_rfl) (fun _ _ _ h=>h) (Or.inl ⟨by rfl,fun u hu=>by obtain b0:=hu;go_simp⟩) (uZ HS0) ?_
   try simp only [Act.put,sA,sB,sC]
   refine tK 1 (v:=.slice ak na ck) (some 10) rfl rfl rfl (by kernel_rfl) (fun _ _ _ h=>h) (Or.inl ⟨by rfl,fun u hu=>by obtain b0:=hu;go_simp⟩) (uZ HS0) ?_
   try simp only [Act.put,sA,sB,sC]
   refine tK 2 (v:=.pointer (some ⟨c.g,0,none⟩)) (some 11) rfl rfl rfl (by kernel_rfl) (fun _ _ _ h=>h) (Or.inl ⟨by rfl,fun u hu=>by obtain b0:=hu;go_simp⟩) (uZ HS0) ?_
   try simp only [Act.put,sA,sB,sC]
   obtain⟨yx,hy,hth⟩:=bnd_some (uZ HJ62)
   have HJ63:=hZ (hth)
   clear HJ62
   clear hth
   have CR:=hZ (ihf (f1:=g1) (by omega) hy (uZ S52).rd)
   have HYX:=hZ hy
   clear hy
   rcases yx with ⟨ea,ep⟩|⟨nsx,lx⟩
   ·have HR:=hZ ((by have hy:=thn_err (uZ HJ63);have ho:=uZ HJ1;rw [hy] at ho;exact thn_err ho))
    refine till_one 3 (by kernel_rfl) rfl (fun K hK=>?_)
    go_simp
    refine(uZ CR).mono ?_
    rintro e wx ⟨rfl,b⟩
    have HX:=hZ ((uZ S52).bad b)
    clear b CR
    unfold fltP
    go_wp2_with fail
    exact⟨rfl,by rw [uZ HR];exact⟨rfl,uZ HX⟩⟩
   ·have HJ64:=hZ (thn_ok (uZ HJ63))
    clear HJ63
    refine till_one 3 (by kernel_rfl) rfl (fun K hK=>?_)
    go_simp
    refine(uZ CR).mono ?_
    rintro e w53 ⟨kx,tx,vkx,vnx,vsx,fx,nx,akx,ckx,px,Zx,rfl,hlx,hn,r2,b⟩
    have S53:=hZ ((uZ S52).go b r2)
    have HBQ_53:=bx_go HBQ_52 b (by omega)
    have HKa_53:=hZ ((uZ HKa_52).beside b (by omega))
    obtain⟨lox,hlo⟩:=eX (w52.heap.size)
    have ltlox:w.heap.size<lox:=by rw [←hlo];exact(uZ S52).lt
    have lqQ_x:Q<lox:=by rw [←hlo];exact(Array.getElem?_eq_some_iff.1 (uZ HBQ_52)).1
    have HWa_x:=hZ ((uZ HKa_52).vlt hlo)
    have lea_x:=(uZ HKa_52).ok.le
    rw [hlo] at lea_x
    rw [hlo] at hn
    have HNx_53:=hZ hn
    clear hlo b r2 hn CR S52 HBQ_52 HKa_52
    clear HS0
    have HS0:Hid (w53.cell? ⟨Q,8,none⟩=some (.slice ak na ck)):=hZ (by exact(row_cell10 (uZ HBQ_53)).2.2.2.2.2.2.2.2.1)
    go_wp2_with fail
    refine hK.out _ _ (Or.inr (uZ HS0)) ?_
    clear hK K
    try simp only [Act.put,sA,sB,sC]
    obtain⟨w54,hwr⟩:=eX (w53.alloc (.cells #[.int .i64 (kx:Int),.string (bA tx),.int .i64 (vkx:Int),.int .i64 (vnx:Int),.string (bA vsx),.slice none 0 0,.slice none 0 0,.bool fx,.slice akx nx ckx,.int .i64 (px:Int)] 28))
    have b:=alB hwr
    obtain⟨hx,hhx⟩:=eX (w53.heap.size)
    have at4:Hid (w54.heap[hx]?=some (.cells #[.int .i64 (kx:Int),.string (bA tx),.int .i64 (vkx:Int),.int .i64 (vnx:Int),.string (bA vsx),.slice none 0 0,.slice none 0 0,.bool fx,.slice akx nx ckx,.int .i64 (px:Int)] 28 (0,0))):=hZ (by rw [←hwr,←hhx];exact heap_alloc_new _ _)
    have S54:=hZ ((uZ S53).below b)
    have HBQ_54:=bx_be HBQ_53 b
    have HKa_54:=hZ ((uZ HKa_53).beside (Beside.of_below (gr:=c.g) b) (by omega))
    have HNx_54:=hZ ((uZ HNx_53).beside (Beside.of_below (gr:=c.g) b) (by omega))
    clear b S53 HBQ_53 HKa_53 HNx_53
    refine till_one 4 (by kernel_rfl) rfl (fun K hK=>?_)
    go_simp
    try rw [hwr]
    try rw [hhx]
    clear HS0
    have HS0:Hid (w54.cell? ⟨Q,8,none⟩=some (.slice ak na ck)):=hZ (by exact(row_cell10 (uZ HBQ_54)).2.2.2.2.2.2.2.2.1)
    refine hK.out _ _ (Or.inr (uZ HS0)) ?_
    clear hK K hwr hhx
    try simp only [Act.put,sA,sB,sC]
    obtain⟨ind,hi0,hi1,hi2,hi3⟩:=info_nd
    have hkl:=(uZ HKa_54).own
    rw [hlna] at hkl
    have HKL:=hZ hkl
    clear hkl
    refine till_one 5 (by kernel_rfl) rfl (fun K hK=>?_)
    refine step_append_lies _ (by rfl) _ _ 26 (by rfl) (Q+1) 28 ind _ 10 144 Tryz.underlying26 hi0 hi1 hi2 hi3 rfl (by omega) (.slice ak na ck) (na) _ (by rfl) (uZ HKL) ⟨hx,0,none⟩ 1 1 [.int .i64 (kx:Int),.string (bA tx),.int .i64 (vkx:Int),.int .i64 (vnx:Int),.string (bA vsx),.slice none 0 0,.slice none 0 0,.bool fx,.slice akx nx ckx,.int .i64 (px:Int)] (by rfl) (by rfl) (World.news_of_block (uZ at4)) (ndC_one _ _ _ _ _ _ _ _ _ _) (by omega) (by unfold maxLen;have:=hbna;omega) (by have:=hbna;omega) (uZ HKa_54).ok.le _ rfl ?_
    intro g5 cap5 w55 hown5 hgrow5 hat5 hlt5
    change K (Act.put _ (some 14) _) w55
    clear hi0 hi1 hi2 hi3 HKL ind at4
    have hne:∀x,x<(Q+1)→some x≠(.slice ak na ck:Value).ownBlock:=fun x hx e=>by have:=((uZ HKa_54).own.lt x e.symm).1;omega
    have bb:Below (Q+1) w54 w55:=(Below.refl _ _).grown hgrow5 (uZ HKa_54).ok.le (fun x hx=>((uZ HKa_54).own.lt x hx).1)
    have S55:=hZ ((uZ S54).below2 bb (by omega))
    have HBQ_55:Hid (w55.heap[Q]?=some (.cells #[.int .i64 1,.string ⟨#[]⟩,.int .i64 0,.int .i64 0,.string ⟨#[]⟩,.slice none 0 0,.slice none 0 0,.bool false,.slice ak na ck,.int .i64 0] 28 (0,0))):=hZ ((bb.block Q (by omega)).trans (uZ HBQ_54))
    have HKn_55:=hZ (Kr.push (uZ HKa_54) (uZ HNx_54) (by omega) (uZ HWa_x).2 (uZ HWa_x).1 hown5 (by rw [List.length_append,hlx,hlna]) hgrow5 hat5)
    clear bb hne hown5 hgrow5 hat5 hlt5 HS0 S54 HBQ_54 HKa_54 HNx_54
    have HS0:Hid (w55.cell? ⟨Q,8,none⟩=some (.slice ak na ck)):=hZ (by exact(row_cell10 (uZ HBQ_55)).2.2.2.2.2.2.2.2.1)
    refine hK.out _ _ (Or.inr (uZ HS0)) ?_
    clear hK K
    try simp only [Act.put,sA,sB,sC]
    refine tK 6 (v:=.pointer (some ⟨Q,8,none⟩)) (some 15) rfl rfl rfl (by kernel_rfl) (fun _ _ _ h=>h) (Or.inl ⟨by rfl,fun u hu=>by obtain b0:=hu;go_simp⟩) (uZ HS0) ?_
    try simp only [Act.put,sA,sB,sC]
    obtain⟨-,-,-,-,-,-,-,-,g8,-⟩:=row_cell10 (uZ HBQ_55)
    have z8:=frozen_of_row w55 Q 8 _ _ (uZ HBQ_55)
    refine till_one 7 (by kernel_rfl) rfl (fun K hK=>?_)
    go_simp
    refine hK.out _ _ (Or.inl (by first|rfl|trivial)) ?_
    clear hK K HS0 g8 z8
    try simp only [Act.put,sA,sB,sC]
    refine till_done (by kernel_rfl) ?_ _
    obtain⟨w56,hw⟩:=eX (w55.setCell ⟨Q,8,none⟩ (.slice (some ⟨g5,0,none⟩) (na+1) cap5))
    have HBQ_56:Hid (w56.heap[Q]?=some (.cells #[.int .i64 1,.string ⟨#[]⟩,.int .i64 0,.int .i64 0,.string ⟨#[]⟩,.slice none 0 0,.slice none 0 0,.bool false,.slice (some ⟨g5,0,none⟩) (na+1) cap5,.int .i64 0] 28 (0,0))):=hZ (by rw [←hw,heap_setCell_same w55 Q 8 _ _ _ (uZ HBQ_55)];rfl)
    have S56:Hid (St w c 28 #[.int .i64 0,.string ⟨#[]⟩,.int .i64 0,.int .i64 0,.string ⟨#[]⟩,.slice none 0 0,.slice none 0 0,.bool false,.slice none 0 0,.int .i64 0] w56 lx d):=hZ (by rw [←hw];exact(uZ S55).own Q 8 _ ltQ)
    have HKn_56:=hZ ((uZ HKn_55).but (q:=Q) (w':=w56) (fun b _ hb=>by rw [←hw];exact heap_setCell_other _ _ _ _ hb) (by rw [←hw];simp) (by omega))
    rw [hw]
    clear hw S55 HBQ_55 HKn_55
    have hpl:=PJ_len g1 13 0 [] la d nsx lx ⟨by decide,by omega⟩ (uZ HYX)
    simp only [twoJ,List.length_nil,reduceIte,Nat.reduceEqDiff] at hpl
    go_wp2_with fail
    go_roundg g1
    case measure=>omega
    case rel=>exact⟨acc++nsx,lx,na+1,some ⟨g5,0,none⟩,cap5,_,_,hZ ⟨by omega,(uZ HJ64),by rw [List.length_append,hlx,hlna],by omega⟩,hZ ⟨uZ S56,uZ HBQ_56,uZ HKn_56⟩⟩
end Go.Proofs.YtjdpaihhhjdgmaaGreatDoor
