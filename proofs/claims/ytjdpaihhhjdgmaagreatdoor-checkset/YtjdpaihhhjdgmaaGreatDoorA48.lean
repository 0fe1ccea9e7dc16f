/-
  Layer 17 (parse): statements; conditions: the reader's state.
-/
import Derived.Test.YtjdpaihhhjdgmaaGreatDoorA39
set_option linter.unusedVariables false
set_option linter.unusedSimpArgs false
set_option maxRecDepth 100000
set_option maxHeartbeats 8000000
namespace Go.Proofs.YtjdpaihhhjdgmaaGreatDoor
open Go.RowKit
set_option linter.unusedVariables false
set_option linter.unusedSimpArgs false
theorem stat_step {c:Cx} {l:List Tk} {d:Nat} {w:World} {r:Rs (List Nd)} {f:Nat} (ihs:∀{c:Cx} {l:List Tk} {d:Nat} {w:World} {r:Rs (List Nd)},PJ f 16 0 [] l d=some r→Rd w c l d→Calls Tryz.prog 145 #[.pointer (some ⟨c.g,0,none⟩)] w fun e w'=>NdP c w d r e w') (ihl:∀{c:Cx} {l:List Tk} {d:Nat} {w:World} {r:Rs (List Nd)},¬(hdT l).k=0→PJ f 15 0 [] l d=some r→Rd w c l d→Calls Tryz.prog 146 #[.pointer (some ⟨c.g,0,none⟩)] w fun e w'=>NdP c w d r e w') (ihc:∀{c:Cx} {l:List Tk} {d:Nat} {w:World} {r:Rs (List Nd)},¬(hdT l).k=0→PJ f 12 0 [] l d=some r→Rd w c l d→Calls Tryz.prog 147 #[.pointer (some ⟨c.g,0,none⟩)] w fun e w'=>NdP c w d r e w') (ihw:∀{c:Cx} {l:List Tk} {d:Nat} {w:World} {r:Rs (List Nd)},¬(hdT l).k=0→PJ f 17 0 [] l d=some r→Rd w c l d→Calls Tryz.prog 148 #[.pointer (some ⟨c.g,0,none⟩)] w fun e w'=>NdP c w d r e w') (ihr:∀{c:Cx} {l:List Tk} {d:Nat} {w:World} {r:Rs (List Nd)},¬(hdT l).k=0→PJ f 18 0 [] l d=some r→Rd w c l d→Calls Tryz.prog 149 #[.pointer (some ⟨c.g,0,none⟩)] w fun e w'=>NdP c w d r e w') (ihb:∀{c:Cx} {l:List Tk} {d:Nat} {w:World} {r:Rs (List Nd)},¬(hdT l).k=0→PJ f 26 10 [] l d=some r→Rd w c l d→Calls Tryz.prog 150 #[.pointer (some ⟨c.g,0,none⟩),.int .i64 10] w fun e w'=>NdP c w d r e w') (ihk:∀{c:Cx} {l:List Tk} {d:Nat} {w:World} {r:Rs (List Nd)},¬(hdT l).k=0→PJ f 26 11 [] l d=some r→Rd w c l d→Calls Tryz.prog 150 #[.pointer (some ⟨c.g,0,none⟩),.int .i64 11] w fun e w'=>NdP c w d r e w') (ihd:∀{c:Cx} {l:List Tk} {d:Nat} {w:World} {r:Rs (List Nd)},PJ f 19 0 [] l d=some r→Rd w c l d→Calls Tryz.prog 151 #[.pointer (some ⟨c.g,0,none⟩)] w fun e w'=>NdP c w d r e w') (hJ:PJ (f+1) 9 0 [] l d=some r) (h:Rd w c l d) :
  Calls Tryz.prog 113 #[.pointer (some ⟨c.g,0,none⟩)] w fun e w'=>NdP c w d r e w':=by
 have S1:=hZ (St.start h 28 #[.int .i64 0,.string ⟨#[]⟩,.int .i64 0,.int .i64 0,.string ⟨#[]⟩,.slice none 0 0,.slice none 0 0,.bool false,.slice none 0 0,.int .i64 0])
 obtain⟨w1,hw1⟩:=eX (w.alloc (.cells #[.int .i64 0,.string ⟨#[]⟩,.int .i64 0,.int .i64 0,.string ⟨#[]⟩,.slice none 0 0,.slice none 0 0,.bool false,.slice none 0 0,.int .i64 0] 28))
 rw [hw1] at S1
 obtain⟨G,hG⟩:=eX (w.heap.size)
 have hgw:c.g<w.heap.size:=h.cells.2.2.2.2.2
 clear h
 go_enter Tryz.func113,Tryz.ntmps113
 have HJ0:=hZ (show jStat (PJ f) l d=some r from hJ)
 clear hJ
 obtain⟨⟨k,t,n,p⟩,ht⟩:∃t,hdT l=t:=⟨_,rfl⟩
 have HT:=hZ ht
 clear ht
 have HJ1:=hZ ((by have:=uZ HJ0;unfold jStat at this;rw [uZ HT] at this;exact this))
 clear HJ0
 have CC:=hZ ((by have:=token_any (uZ S1).rd;rw [uZ HT] at this;simp only [tkA] at this;exact this))
 go_wp2_with fail
 refine(uZ CC).mono ?_
 rintro e w2 ⟨rfl,b⟩
 have S2:=hZ ((uZ S1).below b)
 clear b CC S1
 go_upto_region 2 with fail
 obtain⟨w3,hw⟩:=eX (w2.alloc (.cells #[.int .i64 (k:Int),.string (bA t),.int .i64 (n:Int),.int .i64 (p:Int)] 85))
 have b:=alB hw
 obtain⟨Q,hQ⟩:=eX (w2.heap.size)
 have HBQ_3:Hid (w3.heap[Q]?=some (.cells #[.int .i64 (k:Int),.string (bA t),.int .i64 (n:Int),.int .i64 (p:Int)] 85 (0,0))):=hZ (by rw [←hw,←hQ];exact heap_alloc_new _ _)
 have S3:=hZ ((uZ S2).below b)
 have ltQ:w.heap.size<Q:=by rw [←hQ];exact(uZ S2).lt
 rw [hw]
 try rw [hQ]
 clear hw hQ b S2
 by_cases h1:k=1
 ·subst h1
  have R0:=(uZ S3).rd
  have hmo:=R0.more (by rw [uZ HT];show ¬(1:Nat)=0;decide)
  obtain⟨hm1,hm2,hm3⟩:=hmo
  obtain⟨⟨k2,t2,n2,p2⟩,ht2⟩:∃t,hdT l.tail=t:=⟨_,rfl⟩
  have HT2:=hZ ht2
  obtain⟨hh1,hh2,hh3⟩:=R0.head
  have hln:=R0.len
  have hcp:=R0.cap
  have hnx:c.ts[c.ts.length - l.tail.length]?=some (hdT l.tail):=by
   have h9:(c.ts.drop (c.ts.length - l.tail.length))[0]?=l.tail[0]?:=by rw [←hm3]
   rw [List.getElem?_drop,Nat.add_zero] at h9
   rw [h9]
   cases hlt:l.tail with
   |nil=>exact absurd hlt hm1
   |cons a0 r0=>rfl
  obtain⟨bb,eb,hb1,u0,u1,u2,u3⟩:=R0.row _ _ hnx
  injection eb with eb
  injection eb with eb
  subst eb
  rw [ht2] at u0 u1 u2 u3
  simp only [] at u0 u1 u2 u3
  obtain⟨cg0,cg1,cg2,cf1,cf2,cgl⟩:=R0.cells
  obtain⟨i,hi⟩:=eX (c.ts.length - l.length)
  have hpos:0<l.tail.length:=List.length_pos_iff.2 hm1
  have hi2:c.ts.length - l.tail.length=i+1:=by omega
  have hj1:i+1<c.ts.length:=by omega
  rw [hi] at cg1
  rw [hi2] at u0 u1 u2 u3
  obtain⟨N,hN⟩:=eX (c.ts.length)
  rw [hN] at cg0 hln hcp hj1
  have j0:(0:Int)≤(i:Int)+1:=by omega
  have j1:(i:Int)+1<(N:Int):=by omega
  have j2:IntKind.i64.wrap ((i:Int)+1)=(i:Int)+1:=by rw [IntKind.wrap_i64];omega
  obtain⟨o,ho⟩:=eX ((i+1) * 4)
  have ra1:=add_row c.tb ((i+1) * 4)
  rw [ho] at ra1 u0 u1 u2 u3
  have jt:((i:Int)+1).toNat=i+1:=by omega
  clear R0 hm1 hm2 hm3 hh1 hh2 hh3 hnx ht2 hi hi2 hN cg2 cf1 cf2 cgl
  obtain⟨Qc0,-,-,-⟩:=row_cell4 (uZ HBQ_3)
  go_upto_region 4 with fail
  clear Qc0
  have HS0:Hid (w3.drew.cell? ⟨c.g,0,none⟩=some (.slice (some ⟨c.tb,0,none⟩) N c.ct)∧w3.drew.cell? ⟨c.g,1,none⟩=some (.int .i64 (i:Int))∧w3.drew.cell? ⟨c.tb,o,none⟩=some (.int .i64 (k2:Int))∧w3.drew.cell? ⟨c.tb,o+1,none⟩=some (.string (bA t2))∧w3.drew.cell? ⟨c.tb,o+2,none⟩=some (.int .i64 (n2:Int))∧w3.drew.cell? ⟨c.tb,o+3,none⟩=some (.int .i64 (p2:Int))):=hZ (⟨cg0,cg1,u0,u1,u2,u3⟩)
  refine till_begin (S:=fun w'=>w'.cell? ⟨c.g,0,none⟩=some (.slice (some ⟨c.tb,0,none⟩) N c.ct)∧w'.cell? ⟨c.g,1,none⟩=some (.int .i64 (i:Int))∧w'.cell? ⟨c.tb,o,none⟩=some (.int .i64 (k2:Int))∧w'.cell? ⟨c.tb,o+1,none⟩=some (.string (bA t2))∧w'.cell? ⟨c.tb,o+2,none⟩=some (.int .i64 (n2:Int))∧w'.cell? ⟨c.tb,o+3,none⟩=some (.int .i64 (p2:Int))) 12 (by kernel_rfl) ?_
  obtain⟨w4,hWD⟩:=eX (w3.drew)
  have bD:Below w3.heap.size w3 w4:=by rw [←hWD];exact(Below.refl _ _).drew
  rw [hWD] at HS0
  rw [hWD]
  have S4:=hZ ((uZ S3).below bD)
  have HBQ_4:=bx_be HBQ_3 bD
  clear hWD bD S3 HBQ_3
  clear cg0 cg1 u0 u1 u2 u3
  refine tK 0 (v:=.pointer (some ⟨c.g,0,none⟩)) (some 11) rfl rfl rfl (by kernel_rfl) (fun _ _ _ h=>h) (Or.inl ⟨by rfl,fun u hu=>by obtain⟨b0,b1,b2,b3,b4,b5⟩:=hu;go_simp⟩) (uZ HS0) ?_
  try simp only [Act.put,sA,sB,sC]
  refine tK 1 (v:=.pointer (some ⟨c.g,0,none⟩)) (some 12) rfl rfl rfl (by kernel_rfl) (fun _ _ _ h=>h) (Or.inl ⟨by rfl,fun u hu=>by obtain⟨b0,b1,b2,b3,b4,b5⟩:=hu;go_simp⟩) (uZ HS0) ?_
  try simp only [Act.put,sA,sB,sC]
  refine tK 2 (v:=.pointer (some ⟨c.g,0,none⟩)) (some 13) rfl rfl rfl (by kernel_rfl) (fun _ _ _ h=>h) (Or.inl ⟨by rfl,fun u hu=>by obtain⟨b0,b1,b2,b3,b4,b5⟩:=hu;go_simp⟩) (uZ HS0) ?_
  try simp only [Act.put,sA,sB,sC]
  refine tK 3 (v:=.slice (some ⟨c.tb,0,none⟩) N c.ct) (some 14) rfl rfl rfl (by kernel_rfl) (fun _ _ _ h=>h) (Or.inl ⟨by rfl,fun u hu=>by obtain⟨b0,b1,b2,b3,b4,b5⟩:=hu;go_simp⟩) (uZ HS0) ?_
  try simp only [Act.put,sA,sB,sC]
  refine tK 4 (v:=.pointer (some ⟨c.g,0,none⟩)) (some 15) rfl rfl rfl (by kernel_rfl) (fun _ _ _ h=>h) (Or.inl ⟨by rfl,fun u hu=>by obtain⟨b0,b1,b2,b3,b4,b5⟩:=hu;go_simp⟩) (uZ HS0) ?_
  try simp only [Act.put,sA,sB,sC]
  refine tK 5 (v:=.pointer (some ⟨c.g,0,none⟩)) (some 16) rfl rfl rfl (by kernel_rfl) (fun _ _ _ h=>h) (Or.inl ⟨by rfl,fun u hu=>by obtain⟨b0,b1,b2,b3,b4,b5⟩:=hu;go_simp⟩) (uZ HS0) ?_
  try simp only [Act.put,sA,sB,sC]
  refine tK 6 (v:=.pointer (some ⟨c.g,1,none⟩)) (some 17) rfl rfl rfl (by kernel_rfl) (fun _ _ _ h=>h) (Or.inl ⟨by rfl,fun u hu=>by obtain⟨b0,b1,b2,b3,b4,b5⟩:=hu;go_simp⟩) (uZ HS0) ?_
  try simp only [Act.put,sA,sB,sC]
  refine tK 7 (v:=.int .i64 (i:Int)) (some 18) rfl rfl rfl (by kernel_rfl) (fun _ _ _ h=>h) (Or.inl ⟨by rfl,fun u hu=>by obtain⟨b0,b1,b2,b3,b4,b5⟩:=hu;go_simp⟩) (uZ HS0) ?_
  try simp only [Act.put,sA,sB,sC]
  refine tK 8 (v:=.int .i64 ((i:Int)+1)) (some 19) rfl rfl rfl (by kernel_rfl) (fun _ _ _ h=>h) (Or.inl ⟨by rfl,fun u hu=>by obtain⟨b0,b1,b2,b3,b4,b5⟩:=hu;go_simp⟩) (uZ HS0) ?_
  try simp only [Act.put,sA,sB,sC]
  refine tK 9 (v:=.pointer (some ⟨c.tb,o,none⟩)) (some 20) rfl rfl rfl (by kernel_rfl) (fun _ _ _ h=>h) (Or.inl ⟨by rfl,fun u hu=>by obtain⟨b0,b1,b2,b3,b4,b5⟩:=hu;go_simp⟩) (uZ HS0) ?_
  try simp only [Act.put,sA,sB,sC]
  refine tK 10 (v:=.agg #[.int .i64 (k2:Int),.string (bA t2),.int .i64 (n2:Int),.int .i64 (p2:Int)]) (some 21) rfl rfl rfl (by kernel_rfl) (fun _ _ _ h=>h) (Or.inl ⟨by rfl,fun u hu=>by obtain⟨b0,b1,b2,b3,b4,b5⟩:=hu;go_simp⟩) (uZ HS0) ?_
  try simp only [Act.put,sA,sB,sC]
  refine till_one 11 (by kernel_rfl) rfl (fun K hK=>?_)
  go_simp
  obtain⟨w5,hw⟩:=eX (w4.alloc (.cells #[.int .i64 0,.string ⟨#[]⟩,.int .i64 0,.int .i64 0] 85))
  have b:=alB hw
  obtain⟨P,hP⟩:=eX (w4.heap.size)
  have HBP_5:Hid (w5.heap[P]?=some (.cells #[.int .i64 0,.string ⟨#[]⟩,.int .i64 0,.int .i64 0] 85 (0,0))):=hZ (by rw [←hw,←hP];exact heap_alloc_new _ _)
  have S5:=hZ ((uZ S4).below b)
  have HS1:Hid (w5.cell? ⟨c.g,0,none⟩=some (.slice (some ⟨c.tb,0,none⟩) N c.ct)∧w5.cell? ⟨c.g,1,none⟩=some (.int .i64 (i:Int))∧w5.cell? ⟨c.tb,o,none⟩=some (.int .i64 (k2:Int))∧w5.cell? ⟨c.tb,o+1,none⟩=some (.string (bA t2))∧w5.cell? ⟨c.tb,o+2,none⟩=some (.int .i64 (n2:Int))∧w5.cell? ⟨c.tb,o+3,none⟩=some (.int .i64 (p2:Int))):=hZ (by obtain⟨b0,b1,b2,b3,b4,b5⟩:=uZ HS0;exact⟨cell_later b b0,cell_later b b1,cell_later b b2,cell_later b b3,cell_later b b4,cell_later b b5⟩)
  have lQ_P:Q<P:=by rw [←hP];exact(Array.getElem?_eq_some_iff.1 (uZ HBQ_4)).1
  have ltP:w.heap.size<P:=by rw [←hP];exact(uZ S4).lt
  have HBQ_5:=bx_be HBQ_4 b
  rw [hw]
  try rw [hP]
  clear hw hP b HS0 S4 HBQ_4
  refine hK.out _ _ (Or.inr (uZ HS1)) ?_
  clear hK K
  try simp only [Act.put,sA,sB,sC]
  obtain⟨a0,a1,a2,a3⟩:=row_cell4 (uZ HBP_5)
  have y0:=frozen_of_row w5 P 0 _ _ (uZ HBP_5)
  have y1:=frozen_of_row w5 P 1 _ _ (uZ HBP_5)
  have y2:=frozen_of_row w5 P 2 _ _ (uZ HBP_5)
  have y3:=frozen_of_row w5 P 3 _ _ (uZ HBP_5)
  refine till_one 12 (by kernel_rfl) rfl (fun K hK=>?_)
  go_simp
  refine hK.out _ _ (Or.inl (by first|rfl|trivial)) ?_
  clear hK K HS1 a0 a1 a2 a3 y0 y1 y2 y3
  try simp only [Act.put,sA,sB,sC]
  refine till_done (by kernel_rfl) ?_ _
  have D:=set4 (uZ HBP_5) (.int .i64 (k2:Int)) (.string (bA t2)) (.int .i64 (n2:Int)) (.int .i64 (p2:Int))
  obtain⟨w6,hw⟩:=eX (((((w5.setCell ⟨P,0,none⟩ (.int .i64 (k2:Int))).setCell ⟨P,1,none⟩ (.string (bA t2))).setCell ⟨P,2,none⟩ (.int .i64 (n2:Int))).setCell ⟨P,3,none⟩ (.int .i64 (p2:Int))))
  rw [hw] at D
  have HBP_6:=hZ D
  have S6:Hid (St w c 28 #[.int .i64 0,.string ⟨#[]⟩,.int .i64 0,.int .i64 0,.string ⟨#[]⟩,.slice none 0 0,.slice none 0 0,.bool false,.slice none 0 0,.int .i64 0] w6 l d):=hZ (by rw [←hw];exact((((uZ S5).own P 0 _ ltP).own P 1 _ ltP).own P 2 _ ltP).own P 3 _ ltP)
  have HBQ_6:Hid (w6.heap[Q]?=some (.cells #[.int .i64 ((1:Nat):Int),.string (bA t),.int .i64 (n:Int),.int .i64 (p:Int)] 85 (0,0))):=hZ (by rw [←hw,heap_setCell_other _ _ _ _ (Nat.ne_of_lt lQ_P),heap_setCell_other _ _ _ _ (Nat.ne_of_lt lQ_P),heap_setCell_other _ _ _ _ (Nat.ne_of_lt lQ_P),heap_setCell_other _ _ _ _ (Nat.ne_of_lt lQ_P)];exact uZ HBQ_5)
  rw [hw]
  clear hw D S5 HBP_5 HBQ_5
  by_cases hset:k2=5∧t2=[61]
  ·obtain⟨hk5,hte⟩:=hset
   subst hk5 hte
   have pe:(bA [61]).toList=[61]:=bA_list _
   have HJ2:=hZ ((by have:=(uZ HJ1);rw [if_pos (show (1:Nat)=1∧isS [61] l.tail=true from ⟨rfl,by unfold isS isT;rw [uZ HT2];rfl⟩)] at this;exact this))
   clear HJ1
   obtain⟨Pc0,Pc1,Pc2,Pc3⟩:=row_cell4 (uZ HBP_6)
   have CR:=hZ (ihs (uZ HJ2) (uZ S6).rd)
   obtain⟨y,hyr⟩:=eX r
   have HR:=hZ hyr
   rw [hyr] at CR
   clear hyr
   rcases y with ⟨ea,ep⟩|⟨nsx,lx⟩
   ·go_wp2_with fail
    refine(uZ CR).mono ?_
    rintro e wx ⟨rfl,b⟩
    have HX:=hZ ((uZ S6).bad b)
    clear b CR
    unfold fltP
    go_wp2_with fail
    exact⟨rfl,by rw [uZ HR];exact⟨rfl,uZ HX⟩⟩
   ·go_wp2_with fail
    refine(uZ CR).mono ?_
    rintro e w7 ⟨kx,tx,vkx,vnx,vsx,fx,nx,akx,ckx,px,Zx,rfl,hlx,hn,r2,b⟩
    have S7:=hZ ((uZ S6).go b r2)
    have HNx_7:=hZ (hn.low (lo':=w.heap.size+1) (uZ S6).lt)
    clear b r2 hn CR S6
    have HR:=hZ (uZ HR)
    have BX:=(uZ S7).bx
    rw [hG] at BX
    obtain⟨g0,g1,g2,g3,g4,g5,g6,g7,g8,g9⟩:=row_cell10 BX
    obtain⟨z0,z1,z2,z3,z4,z5,z6,z7,z8,z9⟩:=frozen10 BX
    clear BX
    have FF:=hZ (St.done (uZ S7) (uZ HNx_7) hlx hG)
    go_wp2_with fail
    refine rtN (p:=2) rfl rfl (uZ FF).1 rfl rfl ?_
    rw [uZ HR]
    exact(uZ FF).2
  ·have HJ2:=hZ ((by have:=(uZ HJ1);rw [if_neg (fun e=>hset (by have h9:=e.2;unfold isS isT at h9;rw [uZ HT2] at h9;exact of_decide_eq_true h9))] at this;exact this))
   clear HJ1
   by_cases h5:k2=5
   ·subst h5
    have hte:¬t2=[61]:=fun e=>hset ⟨rfl,e⟩
    have ne1:((bA t2).toList == [61])=false:=by rw [beq_eq_false_iff_ne];exact fun e=>hte (by rw [←bA_list t2];exact e)
    clear hte hset
    obtain⟨Pc0,Pc1,Pc2,Pc3⟩:=row_cell4 (uZ HBP_6)
    have hi0:isK [108,101,116] l=false:=by unfold isK isT;rw [uZ HT];exact decide_eq_false (fun e=>absurd e.1 (show ¬(1:Nat)=2 by decide))
    have HJ3:=hZ ((by have:=(uZ HJ2);rw [if_neg (by rw [hi0];decide)] at this;exact this))
    clear HJ2
    clear hi0
    have hi1:isK [105,102] l=false:=by unfold isK isT;rw [uZ HT];exact decide_eq_false (fun e=>absurd e.1 (show ¬(1:Nat)=2 by decide))
    have HJ4:=hZ ((by have:=(uZ HJ3);rw [if_neg (by rw [hi1];decide)] at this;exact this))
    clear HJ3
    clear hi1
    have hi2:isK [119,104,105,108,101] l=false:=by unfold isK isT;rw [uZ HT];exact decide_eq_false (fun e=>absurd e.1 (show ¬(1:Nat)=2 by decide))
    have HJ5:=hZ ((by have:=(uZ HJ4);rw [if_neg (by rw [hi2];decide)] at this;exact this))
    clear HJ4
    clear hi2
    have hi3:isK [114,101,116,117,114,110] l=false:=by unfold isK isT;rw [uZ HT];exact decide_eq_false (fun e=>absurd e.1 (show ¬(1:Nat)=2 by decide))
    have HJ6:=hZ ((by have:=(uZ HJ5);rw [if_neg (by rw [hi3];decide)] at this;exact this))
    clear HJ5
    clear hi3
    have hi4:isK [98,114,101,97,107] l=false:=by unfold isK isT;rw [uZ HT];exact decide_eq_false (fun e=>absurd e.1 (show ¬(1:Nat)=2 by decide))
    have HJ7:=hZ ((by have:=(uZ HJ6);rw [if_neg (by rw [hi4];decide)] at this;exact this))
    clear HJ6
    clear hi4
    have hi5:isK [99,111,110,116,105,110,117,101] l=false:=by unfold isK isT;rw [uZ HT];exact decide_eq_false (fun e=>absurd e.1 (show ¬(1:Nat)=2 by decide))
    have HJ8:=hZ ((by have:=(uZ HJ7);rw [if_neg (by rw [hi5];decide)] at this;exact this))
    clear HJ7
    clear hi5
    have CR:=hZ (ihd (uZ HJ8) (uZ S6).rd)
    obtain⟨y,hyr⟩:=eX r
    have HR:=hZ hyr
    rw [hyr] at CR
    clear hyr
    rcases y with ⟨ea,ep⟩|⟨nsx,lx⟩
    ·go_wp2_with fail
     refine(uZ CR).mono ?_
     rintro e wx ⟨rfl,b⟩
     have HX:=hZ ((uZ S6).bad b)
     clear b CR
     unfold fltP
     go_wp2_with fail
     exact⟨rfl,by rw [uZ HR];exact⟨rfl,uZ HX⟩⟩
    ·go_wp2_with fail
     refine(uZ CR).mono ?_
     rintro e w7 ⟨kx,tx,vkx,vnx,vsx,fx,nx,akx,ckx,px,Zx,rfl,hlx,hn,r2,b⟩
     have S7:=hZ ((uZ S6).go b r2)
     have HNx_7:=hZ (hn.low (lo':=w.heap.size+1) (uZ S6).lt)
     clear b r2 hn CR S6
     have HR:=hZ (uZ HR)
     have BX:=(uZ S7).bx
     rw [hG] at BX
     obtain⟨g0,g1,g2,g3,g4,g5,g6,g7,g8,g9⟩:=row_cell10 BX
     obtain⟨z0,z1,z2,z3,z4,z5,z6,z7,z8,z9⟩:=frozen10 BX
     clear BX
     have FF:=hZ (St.done (uZ S7) (uZ HNx_7) hlx hG)
     go_wp2_with fail
     refine rtN (p:=2) rfl rfl (uZ FF).1 rfl rfl ?_
     rw [uZ HR]
     exact(uZ FF).2
   ·have h51:¬(k2:Int)=5:=by omega
    have h52:((k2:Int) == 5)=false:=by simpa using h51
    clear hset
    obtain⟨Pc0,Pc1,Pc2,Pc3⟩:=row_cell4 (uZ HBP_6)
    have hi0:isK [108,101,116] l=false:=by unfold isK isT;rw [uZ HT];exact decide_eq_false (fun e=>absurd e.1 (show ¬(1:Nat)=2 by decide))
    have HJ3:=hZ ((by have:=(uZ HJ2);rw [if_neg (by rw [hi0];decide)] at this;exact this))
    clear HJ2
    clear hi0
    have hi1:isK [105,102] l=false:=by unfold isK isT;rw [uZ HT];exact decide_eq_false (fun e=>absurd e.1 (show ¬(1:Nat)=2 by decide))
    have HJ4:=hZ ((by have:=(uZ HJ3);rw [if_neg (by rw [hi1];decide)] at this;exact this))
    clear HJ3
    clear hi1
    have hi2:isK [119,104,105,108,101] l=false:=by unfold isK isT;rw [uZ HT];exact decide_eq_false (fun e=>absurd e.1 (show ¬(1:Nat)=2 by decide))
    have HJ5:=hZ ((by have:=(uZ HJ4);rw [if_neg (by rw [hi2];decide)] at this;exact this))
    clear HJ4
    clear hi2
    have hi3:isK [114,101,116,117,114,110] l=false:=by unfold isK isT;rw [uZ HT];exact decide_eq_false (fun e=>absurd e.1 (show ¬(1:Nat)=2 by decide))
    have HJ6:=hZ ((by have:=(uZ HJ5);rw [if_neg (by rw [hi3];decide)] at this;exact this))
    clear HJ5
    clear hi3
    have hi4:isK [98,114,101,97,107] l=false:=by unfold isK isT;rw [uZ HT];exact decide_eq_false (fun e=>absurd e.1 (show ¬(1:Nat)=2 by decide))
    have HJ7:=hZ ((by have:=(uZ HJ6);rw [if_neg (by rw [hi4];decide)] at this;exact this))
    clear HJ6
    clear hi4
    have hi5:isK [99,111,110,116,105,110,117,101] l=false:=by unfold isK isT;rw [uZ HT];exact decide_eq_false (fun e=>absurd e.1 (show ¬(1:Nat)=2 by decide))
    have HJ8:=hZ ((by have:=(uZ HJ7);rw [if_neg (by rw [hi5];decide)] at this;exact this))
    clear HJ7
    clear hi5
    have CR:=hZ (ihd (uZ HJ8) (uZ S6).rd)
    obtain⟨y,hyr⟩:=eX r
    have HR:=hZ hyr
    rw [hyr] at CR
    clear hyr
    rcases y with ⟨ea,ep⟩|⟨nsx,lx⟩
    ·go_wp2_with fail
     refine(uZ CR).mono ?_
     rintro e wx ⟨rfl,b⟩
     have HX:=hZ ((uZ S6).bad b)
     clear b CR
     unfold fltP
     go_wp2_with fail
     exact⟨rfl,by rw [uZ HR];exact⟨rfl,uZ HX⟩⟩
    ·go_wp2_with fail
     refine(uZ CR).mono ?_
     rintro e w7 ⟨kx,tx,vkx,vnx,vsx,fx,nx,akx,ckx,px,Zx,rfl,hlx,hn,r2,b⟩
     have S7:=hZ ((uZ S6).go b r2)
     have HNx_7:=hZ (hn.low (lo':=w.heap.size+1) (uZ S6).lt)
     clear b r2 hn CR S6
     have HR:=hZ (uZ HR)
     have BX:=(uZ S7).bx
     rw [hG] at BX
     obtain⟨g0,g1,g2,g3,g4,g5,g6,g7,g8,g9⟩:=row_cell10 BX
     obtain⟨z0,z1,z2,z3,z4,z5,z6,z7,z8,z9⟩:=frozen10 BX
     clear BX
     have FF:=hZ (St.done (uZ S7) (uZ HNx_7) hlx hG)
     go_wp2_with fail
     refine rtN (p:=2) rfl rfl (uZ FF).1 rfl rfl ?_
     rw [uZ HR]
     exact(uZ FF).2
 ·have h11:¬(k:Int)=1:=by omega
  have h12:((k:Int) == 1)=false:=by simpa using h11
  have HJ2:=hZ ((by have:=(uZ HJ1);rw [if_neg (fun e=>h1 e.1)] at this;exact this))
  clear HJ1
  by_cases h2:k=2
  ·subst h2
   by_cases hp:t=[108,101,116]
   ·have hi:isK [108,101,116] l=true:=by unfold isK isT;rw [uZ HT];exact decide_eq_true ⟨rfl,hp⟩
    have HJ3:=hZ ((by have:=(uZ HJ2);rw [if_pos hi] at this;exact this))
    clear HJ2
    clear hi
    have pp:(bA t).toList=[108,101,116]:=by rw [hp];exact bA_list _
    clear hp
    obtain⟨Qc0,Qc1,Qc2,Qc3⟩:=row_cell4 (uZ HBQ_3)
    have CR:=hZ (ihl (by rw [uZ HT];show ¬(2:Nat)=0;decide) (uZ HJ3) (uZ S3).rd)
    obtain⟨y,hyr⟩:=eX r
    have HR:=hZ hyr
    rw [hyr] at CR
    clear hyr
    rcases y with ⟨ea,ep⟩|⟨nsx,lx⟩
    ·go_wp2_with fail
     refine(uZ CR).mono ?_
     rintro e wx ⟨rfl,b⟩
     have HX:=hZ ((uZ S3).bad b)
     clear b CR
     unfold fltP
     go_wp2_with fail
     exact⟨rfl,by rw [uZ HR];exact⟨rfl,uZ HX⟩⟩
    ·go_wp2_with fail
     refine(uZ CR).mono ?_
     rintro e w4 ⟨kx,tx,vkx,vnx,vsx,fx,nx,akx,ckx,px,Zx,rfl,hlx,hn,r2,b⟩
     have S4:=hZ ((uZ S3).go b r2)
     have HNx_4:=hZ (hn.low (lo':=w.heap.size+1) (uZ S3).lt)
     clear b r2 hn CR S3
     have HR:=hZ (uZ HR)
     have BX:=(uZ S4).bx
     rw [hG] at BX
     obtain⟨g0,g1,g2,g3,g4,g5,g6,g7,g8,g9⟩:=row_cell10 BX
     obtain⟨z0,z1,z2,z3,z4,z5,z6,z7,z8,z9⟩:=frozen10 BX
     clear BX
     have FF:=hZ (St.done (uZ S4) (uZ HNx_4) hlx hG)
     go_wp2_with fail
     refine rtN (p:=2) rfl rfl (uZ FF).1 rfl rfl ?_
     rw [uZ HR]
     exact(uZ FF).2
   ·have hi:isK [108,101,116] l=false:=by unfold isK isT;rw [uZ HT];exact decide_eq_false (fun e=>hp e.2)
    have HJ3:=hZ ((by have:=(uZ HJ2);rw [if_neg (by rw [hi];decide)] at this;exact this))
    clear HJ2
    clear hi
    have nn0:((bA t).toList == [108,101,116])=false:=by rw [beq_eq_false_iff_ne];exact fun e=>hp (by rw [←bA_list t];exact e)
    clear hp
    by_cases hp:t=[105,102]
    ·have hi:isK [105,102] l=true:=by unfold isK isT;rw [uZ HT];exact decide_eq_true ⟨rfl,hp⟩
     have HJ4:=hZ ((by have:=(uZ HJ3);rw [if_pos hi] at this;exact this))
     clear HJ3
     clear hi
     have pp:(bA t).toList=[105,102]:=by rw [hp];exact bA_list _
     clear hp nn0
     obtain⟨Qc0,Qc1,Qc2,Qc3⟩:=row_cell4 (uZ HBQ_3)
     have CR:=hZ (ihc (by rw [uZ HT];show ¬(2:Nat)=0;decide) (uZ HJ4) (uZ S3).rd)
     obtain⟨y,hyr⟩:=eX r
     have HR:=hZ hyr
     rw [hyr] at CR
     clear hyr
     rcases y with ⟨ea,ep⟩|⟨nsx,lx⟩
     ·go_wp2_with fail
      refine(uZ CR).mono ?_
      rintro e wx ⟨rfl,b⟩
      have HX:=hZ ((uZ S3).bad b)
      clear b CR
      unfold fltP
      go_wp2_with fail
      exact⟨rfl,by rw [uZ HR];exact⟨rfl,uZ HX⟩⟩
     ·go_wp2_with fail
      refine(uZ CR).mono ?_
      rintro e w4 ⟨kx,tx,vkx,vnx,vsx,fx,nx,akx,ckx,px,Zx,rfl,hlx,hn,r2,b⟩
      have S4:=hZ ((uZ S3).go b r2)
      have HNx_4:=hZ (hn.low (lo':=w.heap.size+1) (uZ S3).lt)
      clear b r2 hn CR S3
      have HR:=hZ (uZ HR)
      have BX:=(uZ S4).bx
      rw [hG] at BX
      obtain⟨g0,g1,g2,g3,g4,g5,g6,g7,g8,g9⟩:=row_cell10 BX
      obtain⟨z0,z1,z2,z3,z4,z5,z6,z7,z8,z9⟩:=frozen10 BX
      clear BX
      have FF:=hZ (St.done (uZ S4) (uZ HNx_4) hlx hG)
      go_wp2_with fail
      refine rtN (p:=2) rfl rfl (uZ FF).1 rfl rfl ?_
      rw [uZ HR]
      exact(uZ FF).2
    ·have hi:isK [105,102] l=false:=by unfold isK isT;rw [uZ HT];exact decide_eq_false (fun e=>hp e.2)
     have HJ4:=hZ ((by have:=(uZ HJ3);rw [if_neg (by rw [hi];decide)] at this;exact this))
     clear HJ3
     clear hi
     have nn1:((bA t).toList == [105,102])=false:=by rw [beq_eq_false_iff_ne];exact fun e=>hp (by rw [←bA_list t];exact e)
     clear hp
     by_cases hp:t=[119,104,105,108,101]
     ·have hi:isK [119,104,105,108,101] l=true:=by unfold isK isT;rw [uZ HT];exact decide_eq_true ⟨rfl,hp⟩
      have HJ5:=hZ ((by have:=(uZ HJ4);rw [if_pos hi] at this;exact this))
      clear HJ4
      clear hi
      have pp:(bA t).toList=[119,104,105,108,101]:=by rw [hp];exact bA_list _
      clear hp nn0 nn1
      obtain⟨Qc0,Qc1,Qc2,Qc3⟩:=row_cell4 (uZ HBQ_3)
      have CR:=hZ (ihw (by rw [uZ HT];show ¬(2:Nat)=0;decide) (uZ HJ5) (uZ S3).rd)
      obtain⟨y,hyr⟩:=eX r
      have HR:=hZ hyr
      rw [hyr] at CR
      clear hyr
      rcases y with ⟨ea,ep⟩|⟨nsx,lx⟩
      ·go_wp2_with fail
       refine(uZ CR).mono ?_
       rintro e wx ⟨rfl,b⟩
       have HX:=hZ ((uZ S3).bad b)
       clear b CR
       unfold fltP
       go_wp2_with fail
       exact⟨rfl,by rw [uZ HR];exact⟨rfl,uZ HX⟩⟩
      ·go_wp2_with fail
       refine(uZ CR).mono ?_
       rintro e w4 ⟨kx,tx,vkx,vnx,vsx,fx,nx,akx,ckx,px,Zx,rfl,hlx,hn,r2,b⟩
       have S4:=hZ ((uZ S3).go b r2)
       have HNx_4:=hZ (hn.low (lo':=w.heap.size+1) (uZ S3).lt)
       clear b r2 hn CR S3
       have HR:=hZ (uZ HR)
       have BX:=(uZ S4).bx
       rw [hG] at BX
       obtain⟨g0,g1,g2,g3,g4,g5,g6,g7,g8,g9⟩:=row_cell10 BX
       obtain⟨z0,z1,z2,z3,z4,z5,z6,z7,z8,z9⟩:=frozen10 BX
       clear BX
       have FF:=hZ (St.done (uZ S4) (uZ HNx_4) hlx hG)
       go_wp2_with fail
       refine rtN (p:=2) rfl rfl (uZ FF).1 rfl rfl ?_
       rw [uZ HR]
       exact(uZ FF).2
     ·have hi:isK [119,104,105,108,101] l=false:=by unfold isK isT;rw [uZ HT];exact decide_eq_false (fun e=>hp e.2)
      have HJ5:=hZ ((by have:=(uZ HJ4);rw [if_neg (by rw [hi];decide)] at this;exact this))
      clear HJ4
      clear hi
      have nn2:((bA t).toList == [119,104,105,108,101])=false:=by rw [beq_eq_false_iff_ne];exact fun e=>hp (by rw [←bA_list t];exact e)
      clear hp
      by_cases hp:t=[114,101,116,117,114,110]
      ·have hi:isK [114,101,116,117,114,110] l=true:=by unfold isK isT;rw [uZ HT];exact decide_eq_true ⟨rfl,hp⟩
       have HJ6:=hZ ((by have:=(uZ HJ5);rw [if_pos hi] at this;exact this))
       clear HJ5
       clear hi
       have pp:(bA t).toList=[114,101,116,117,114,110]:=by rw [hp];exact bA_list _
       clear hp nn0 nn1 nn2
       obtain⟨Qc0,Qc1,Qc2,Qc3⟩:=row_cell4 (uZ HBQ_3)
       have CR:=hZ (ihr (by rw [uZ HT];show ¬(2:Nat)=0;decide) (uZ HJ6) (uZ S3).rd)
       obtain⟨y,hyr⟩:=eX r
       have HR:=hZ hyr
       rw [hyr] at CR
       clear hyr
       rcases y with ⟨ea,ep⟩|⟨nsx,lx⟩
       ·go_wp2_with fail
        refine(uZ CR).mono ?_
        rintro e wx ⟨rfl,b⟩
        have HX:=hZ ((uZ S3).bad b)
        clear b CR
        unfold fltP
        go_wp2_with fail
        exact⟨rfl,by rw [uZ HR];exact⟨rfl,uZ HX⟩⟩
       ·go_wp2_with fail
        refine(uZ CR).mono ?_
        rintro e w4 ⟨kx,tx,vkx,vnx,vsx,fx,nx,akx,ckx,px,Zx,rfl,hlx,hn,r2,b⟩
        have S4:=hZ ((uZ S3).go b r2)
        have HNx_4:=hZ (hn.low (lo':=w.heap.size+1) (uZ S3).lt)
        clear b r2 hn CR S3
        have HR:=hZ (uZ HR)
        have BX:=(uZ S4).bx
        rw [hG] at BX
        obtain⟨g0,g1,g2,g3,g4,g5,g6,g7,g8,g9⟩:=row_cell10 BX
        obtain⟨z0,z1,z2,z3,z4,z5,z6,z7,z8,z9⟩:=frozen10 BX
        clear BX
        have FF:=hZ (St.done (uZ S4) (uZ HNx_4) hlx hG)
        go_wp2_with fail
        refine rtN (p:=2) rfl rfl (uZ FF).1 rfl rfl ?_
        rw [uZ HR]
        exact(uZ FF).2
      ·have hi:isK [114,101,116,117,114,110] l=false:=by unfold isK isT;rw [uZ HT];exact decide_eq_false (fun e=>hp e.2)
       have HJ6:=hZ ((by have:=(uZ HJ5);rw [if_neg (by rw [hi];decide)] at this;exact this))
       clear HJ5
       clear hi
       have nn3:((bA t).toList == [114,101,116,117,114,110])=false:=by rw [beq_eq_false_iff_ne];exact fun e=>hp (by rw [←bA_list t];exact e)
       clear hp
       by_cases hp:t=[98,114,101,97,107]
       ·have hi:isK [98,114,101,97,107] l=true:=by unfold isK isT;rw [uZ HT];exact decide_eq_true ⟨rfl,hp⟩
        have HJ7:=hZ ((by have:=(uZ HJ6);rw [if_pos hi] at this;exact this))
        clear HJ6
        clear hi
        have pp:(bA t).toList=[98,114,101,97,107]:=by rw [hp];exact bA_list _
        clear hp nn0 nn1 nn2 nn3
        obtain⟨Qc0,Qc1,Qc2,Qc3⟩:=row_cell4 (uZ HBQ_3)
        have CR:=hZ (ihb (by rw [uZ HT];show ¬(2:Nat)=0;decide) (uZ HJ7) (uZ S3).rd)
        obtain⟨y,hyr⟩:=eX r
        have HR:=hZ hyr
        rw [hyr] at CR
        clear hyr
        rcases y with ⟨ea,ep⟩|⟨nsx,lx⟩
        ·go_wp2_with fail
         refine(uZ CR).mono ?_
         rintro e wx ⟨rfl,b⟩
         have HX:=hZ ((uZ S3).bad b)
         clear b CR
         unfold fltP
         go_wp2_with fail
         exact⟨rfl,by rw [uZ HR];exact⟨rfl,uZ HX⟩⟩
        ·go_wp2_with fail
         refine(uZ CR).mono ?_
         rintro e w4 ⟨kx,tx,vkx,vnx,vsx,fx,nx,akx,ckx,px,Zx,rfl,hlx,hn,r2,b⟩
         have S4:=hZ ((uZ S3).go b r2)
         have HNx_4:=hZ (hn.low (lo':=w.heap.size+1) (uZ S3).lt)
         clear b r2 hn CR S3
         have HR:=hZ (uZ HR)
         have BX:=(uZ S4).bx
         rw [hG] at BX
         obtain⟨g0,g1,g2,g3,g4,g5,g6,g7,g8,g9⟩:=row_cell10 BX
         obtain⟨z0,z1,z2,z3,z4,z5,z6,z7,z8,z9⟩:=frozen10 BX
         clear BX
         have FF:=hZ (St.done (uZ S4) (uZ HNx_4) hlx hG)
         go_wp2_with fail
         refine rtN (p:=2) rfl rfl (uZ FF).1 rfl rfl ?_
         rw [uZ HR]
         exact(uZ FF).2
       ·have hi:isK [98,114,101,97,107] l=false:=by unfold isK isT;rw [uZ HT];exact decide_eq_false (fun e=>hp e.2)
        have HJ7:=hZ ((by have:=(uZ HJ6);rw [if_neg (by rw [hi];decide)] at this;exact this))
        clear HJ6
        clear hi
        have nn4:((bA t).toList == [98,114,101,97,107])=false:=by rw [beq_eq_false_iff_ne];exact fun e=>hp (by rw [←bA_list t];exact e)
        clear hp
        by_cases hp:t=[99,111,110,116,105,110,117,101]
        ·have hi:isK [99,111,110,116,105,110,117,101] l=true:=by unfold isK isT;rw [uZ HT];exact decide_eq_true ⟨rfl,hp⟩
         have HJ8:=hZ ((by have:=(uZ HJ7);rw [if_pos hi] at this;exact this))
         clear HJ7
         clear hi
         have pp:(bA t).toList=[99,111,110,116,105,110,117,101]:=by rw [hp];exact bA_list _
         clear hp nn0 nn1 nn2 nn3 nn4
         obtain⟨Qc0,Qc1,Qc2,Qc3⟩:=row_cell4 (uZ HBQ_3)
         have CR:=hZ (ihk (by rw [uZ HT];show ¬(2:Nat)=0;decide) (uZ HJ8) (uZ S3).rd)
         obtain⟨y,hyr⟩:=eX r
         have HR:=hZ hyr
         rw [hyr] at CR
         clear hyr
         rcases y with ⟨ea,ep⟩|⟨nsx,lx⟩
         ·go_wp2_with fail
          refine(uZ CR).mono ?_
          rintro e wx ⟨rfl,b⟩
          have HX:=hZ ((uZ S3).bad b)
          clear b CR
          unfold fltP
          go_wp2_with fail
          exact⟨rfl,by rw [uZ HR];exact⟨rfl,uZ HX⟩⟩
         ·go_wp2_with fail
          refine(uZ CR).mono ?_
          rintro e w4 ⟨kx,tx,vkx,vnx,vsx,fx,nx,akx,ckx,px,Zx,rfl,hlx,hn,r2,b⟩
          have S4:=hZ ((uZ S3).go b r2)
          have HNx_4:=hZ (hn.low (lo':=w.heap.size+1) (uZ S3).lt)
          clear b r2 hn CR S3
          have HR:=hZ (uZ HR)
          have BX:=(uZ S4).bx
          rw [hG] at BX
          obtain⟨g0,g1,g2,g3,g4,g5,g6,g7,g8,g9⟩:=row_cell10 BX
          obtain⟨z0,z1,z2,z3,z4,z5,z6,z7,z8,z9⟩:=frozen10 BX
          clear BX
          have FF:=hZ (St.done (uZ S4) (uZ HNx_4) hlx hG)
          go_wp2_with fail
          refine rtN (p:=2) rfl rfl (uZ FF).1 rfl rfl ?_
          rw [uZ HR]
          exact(uZ FF).2
        ·have hi:isK [99,111,110,116,105,110,117,101] l=false:=by unfold isK isT;rw [uZ HT];exact decide_eq_false (fun e=>hp e.2)
         have HJ8:=hZ ((by have:=(uZ HJ7);rw [if_neg (by rw [hi];decide)] at this;exact this))
         clear HJ7
         clear hi
         have nn5:((bA t).toList == [99,111,110,116,105,110,117,101])=false:=by rw [beq_eq_false_iff_ne];exact fun e=>hp (by rw [←bA_list t];exact e)
         clear hp
         obtain⟨Qc0,Qc1,Qc2,Qc3⟩:=row_cell4 (uZ HBQ_3)
         have CR:=hZ (ihd (uZ HJ8) (uZ S3).rd)
         obtain⟨y,hyr⟩:=eX r
         have HR:=hZ hyr
         rw [hyr] at CR
         clear hyr
         rcases y with ⟨ea,ep⟩|⟨nsx,lx⟩
         ·go_wp2_with fail
          refine(uZ CR).mono ?_
          rintro e wx ⟨rfl,b⟩
          have HX:=hZ ((uZ S3).bad b)
          clear b CR
          unfold fltP
          go_wp2_with fail
          exact⟨rfl,by rw [uZ HR];exact⟨rfl,uZ HX⟩⟩
         ·go_wp2_with fail
          refine(uZ CR).mono ?_
          rintro e w4 ⟨kx,tx,vkx,vnx,vsx,fx,nx,akx,ckx,px,Zx,rfl,hlx,hn,r2,b⟩
          have S4:=hZ ((uZ S3).go b r2)
          have HNx_4:=hZ (hn.low (lo':=w.heap.size+1) (uZ S3).lt)
          clear b r2 hn CR S3
          have HR:=hZ (uZ HR)
          have BX:=(uZ S4).bx
          rw [hG] at BX
          obtain⟨g0,g1,g2,g3,g4,g5,g6,g7,g8,g9⟩:=row_cell10 BX
          obtain⟨z0,z1,z2,z3,z4,z5,z6,z7,z8,z9⟩:=frozen10 BX
          clear BX
          have FF:=hZ (St.done (uZ S4) (uZ HNx_4) hlx hG)
          go_wp2_with fail
          refine rtN (p:=2) rfl rfl (uZ FF).1 rfl rfl ?_
          rw [uZ HR]
          exact(uZ FF).2
  ·have h21:¬(k:Int)=2:=by omega
   have h22:((k:Int) == 2)=false:=by simpa using h21
   have hk2:¬(⟨k,t,n,p⟩:Tk).k=2:=h2
   have hi0:isK [108,101,116] l=false:=by unfold isK isT;rw [uZ HT];exact decide_eq_false (fun e=>absurd e.1 hk2)
   have HJ3:=hZ ((by have:=(uZ HJ2);rw [if_neg (by rw [hi0];decide)] at this;exact this))
   clear HJ2
   clear hi0
   have hi1:isK [105,102] l=false:=by unfold isK isT;rw [uZ HT];exact decide_eq_false (fun e=>absurd e.1 hk2)
   have HJ4:=hZ ((by have:=(uZ HJ3);rw [if_neg (by rw [hi1];decide)] at this;exact this))
   clear HJ3
   clear hi1
   have hi2:isK [119,104,105,108,101] l=false:=by unfold isK isT;rw [uZ HT];exact decide_eq_false (fun e=>absurd e.1 hk2)
   have HJ5:=hZ ((by have:=(uZ HJ4);rw [if_neg (by rw [hi2];decide)] at this;exact this))
   clear HJ4
   clear hi2
   have hi3:isK [114,101,116,117,114,110] l=false:=by unfold isK isT;rw [uZ HT];exact decide_eq_false (fun e=>absurd e.1 hk2)
   have HJ6:=hZ ((by have:=(uZ HJ5);rw [if_neg (by rw [hi3];decide)] at this;exact this))
   clear HJ5
   clear hi3
   have hi4:isK [98,114,101,97,107] l=false:=by unfold isK isT;rw [uZ HT];exact decide_eq_false (fun e=>absurd e.1 hk2)
   have HJ7:=hZ ((by have:=(uZ HJ6);rw [if_neg (by rw [hi4];decide)] at this;exact this))
   clear HJ6
   clear hi4
   have hi5:isK [99,111,110,116,105,110,117,101] l=false:=by unfold isK isT;rw [uZ HT];exact decide_eq_false (fun e=>absurd e.1 hk2)
   have HJ8:=hZ ((by have:=(uZ HJ7);rw [if_neg (by rw [hi5];decide)] at this;exact this))
   clear HJ7
   clear hi5
   obtain⟨Qc0,Qc1,Qc2,Qc3⟩:=row_cell4 (uZ HBQ_3)
   have CR:=hZ (ihd (uZ HJ8) (uZ S3).rd)
   obtain⟨y,hyr⟩:=eX r
   have HR:=hZ hyr
   rw [hyr] at CR
   clear hyr
   rcases y with ⟨ea,ep⟩|⟨nsx,lx⟩
   ·go_wp2_with fail
    refine(uZ CR).mono ?_
    rintro e wx ⟨rfl,b⟩
    have HX:=hZ ((uZ S3).bad b)
    clear b CR
    unfold fltP
    go_wp2_with fail
    exact⟨rfl,by rw [uZ HR];exact⟨rfl,uZ HX⟩⟩
   ·go_wp2_with fail
    refine(uZ CR).mono ?_
    rintro e w4 ⟨kx,tx,vkx,vnx,vsx,fx,nx,akx,ckx,px,Zx,rfl,hlx,hn,r2,b⟩
    have S4:=hZ ((uZ S3).go b r2)
    have HNx_4:=hZ (hn.low (lo':=w.heap.size+1) (uZ S3).lt)
    clear b r2 hn CR S3
    have HR:=hZ (uZ HR)
    have BX:=(uZ S4).bx
    rw [hG] at BX
    obtain⟨g0,g1,g2,g3,g4,g5,g6,g7,g8,g9⟩:=row_cell10 BX
    obtain⟨z0,z1,z2,z3,z4,z5,z6,z7,z8,z9⟩:=frozen10 BX
    clear BX
    have FF:=hZ (St.done (uZ S4) (uZ HNx_4) hlx hG)
    go_wp2_with fail
    refine rtN (p:=2) rfl rfl (uZ FF).1 rfl rfl ?_
    rw [uZ HR]
    exact(uZ FF).2
end Go.Proofs.YtjdpaihhhjdgmaaGreatDoor
