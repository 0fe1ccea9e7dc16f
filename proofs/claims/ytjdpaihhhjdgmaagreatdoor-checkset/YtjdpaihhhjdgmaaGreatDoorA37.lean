/-
  Layer 17 (parse): assignments, signed expressions; conditions: the reader's state.
-/
import Derived.Test.YtjdpaihhhjdgmaaGreatDoorA33
set_option linter.unusedVariables false
set_option linter.unusedSimpArgs false
set_option maxRecDepth 100000
set_option maxHeartbeats 8000000
namespace Go.Proofs.YtjdpaihhhjdgmaaGreatDoor
open Go.RowKit
set_option linter.unusedVariables false
set_option linter.unusedSimpArgs false
theorem set_step {c:Cx} {l:List Tk} {d:Nat} {w:World} {r:Rs (List Nd)} {f:Nat} (ihe:∀{c:Cx} {l:List Tk} {d:Nat} {w:World} {r:Rs (List Nd)},PJ f 0 0 [] l d=some r→Rd w c l d→Calls Tryz.prog 161 #[.pointer (some ⟨c.g,0,none⟩)] w fun e w'=>NdP c w d r e w') (hJ:PJ (f+1) 16 0 [] l d=some r) (h:Rd w c l d) :
  Calls Tryz.prog 145 #[.pointer (some ⟨c.g,0,none⟩)] w fun e w'=>NdP c w d r e w':=by
 have S1:=hZ (St.start h 28 #[.int .i64 0,.string ⟨#[]⟩,.int .i64 0,.int .i64 0,.string ⟨#[]⟩,.slice none 0 0,.slice none 0 0,.bool false,.slice none 0 0,.int .i64 0])
 obtain⟨w1,hw1⟩:=eX (w.alloc (.cells #[.int .i64 0,.string ⟨#[]⟩,.int .i64 0,.int .i64 0,.string ⟨#[]⟩,.slice none 0 0,.slice none 0 0,.bool false,.slice none 0 0,.int .i64 0] 28))
 rw [hw1] at S1
 obtain⟨G,hG⟩:=eX (w.heap.size)
 have hgw:c.g<w.heap.size:=h.cells.2.2.2.2.2
 clear h
 go_enter Tryz.func145,Tryz.ntmps145
 have HJ0:=hZ (show jSet (PJ f) l d=some r from hJ)
 clear hJ
 have HJ1:=hZ ((by have:=uZ HJ0;unfold jSet at this;exact this))
 clear HJ0
 obtain⟨⟨k2,t2,n2,p2⟩,ht⟩:∃t,hdT l=t:=⟨_,rfl⟩
 have HT2:=hZ ht
 clear ht
 by_cases hq:(hdT l).k=1
 ·have HJ2:=hZ ((by have:=thn_nm hq (uZ HJ1);rw [uZ HT2] at this;exact this))
  clear HJ1
  have CC:=hZ ((by have:=pnm_ok (uZ S1).rd hq;rw [uZ HT2] at this;simp only [tkA] at this;exact this))
  go_wp2_with fail
  refine(uZ CC).mono ?_
  rintro e w2 ⟨rfl,r2,b⟩
  have S2:=hZ ((uZ S1).go b r2)
  clear b r2 CC S1
  go_upto_region 2 with fail
  obtain⟨w3,hw⟩:=eX (w2.alloc (.cells #[.int .i64 (k2:Int),.string (bA t2),.int .i64 (n2:Int),.int .i64 (p2:Int)] 85))
  have b:=alB hw
  obtain⟨Q,hQ⟩:=eX (w2.heap.size)
  have HBQ_3:Hid (w3.heap[Q]?=some (.cells #[.int .i64 (k2:Int),.string (bA t2),.int .i64 (n2:Int),.int .i64 (p2:Int)] 85 (0,0))):=hZ (by rw [←hw,←hQ];exact heap_alloc_new _ _)
  have S3:=hZ ((uZ S2).below b)
  have ltQ:w.heap.size<Q:=by rw [←hQ];exact(uZ S2).lt
  rw [hw]
  try rw [hQ]
  clear hw hQ b S2
  by_cases hb:isS [61] l.tail=true
  ·have hq:isS [61] l.tail=true:=by simpa using hb
   have HJ3:=hZ (thn_sg hq (uZ HJ2))
   clear HJ2
   have CC:=hZ (psg_ok (uZ S3).rd [61] hq)
   go_wp2_with fail
   refine(uZ CC).mono ?_
   rintro e w4 ⟨rfl,r2,b⟩
   have S4:=hZ ((uZ S3).go b r2)
   have HBQ_4:=bx_go HBQ_3 b (by omega)
   clear b r2 CC S3 HBQ_3
   go_upto_region 3 with fail
   obtain⟨-,Qc1,-,Qc3⟩:=row_cell4 (uZ HBQ_4)
   have HS0:Hid (w4.drew.cell? ⟨Q,1,none⟩=some (.string (bA t2))∧w4.drew.cell? ⟨Q,3,none⟩=some (.int .i64 (p2:Int))):=hZ (⟨Qc1,Qc3⟩)
   refine till_begin (S:=fun w'=>w'.cell? ⟨Q,1,none⟩=some (.string (bA t2))∧w'.cell? ⟨Q,3,none⟩=some (.int .i64 (p2:Int))) 9 (by kernel_rfl) ?_
   obtain⟨w5,hWD⟩:=eX (w4.drew)
   have bD:Below w4.heap.size w4 w5:=by rw [←hWD];exact(Below.refl _ _).drew
   rw [hWD] at HS0
   rw [hWD]
   have S5:=hZ ((uZ S4).below bD)
   have HBQ_5:=bx_be HBQ_4 bD
   clear hWD bD S4 HBQ_4
   clear Qc1 Qc3
   refine tK 0 (v:=.pointer (some ⟨Q,1,none⟩)) (some 9) rfl rfl rfl (by kernel_rfl) (fun _ _ _ h=>h) (Or.inl ⟨by rfl,fun u hu=>by obtain⟨b0,b1⟩:=hu;go_simp⟩) (uZ HS0) ?_
   try simp only [Act.put,sA,sB,sC]
   refine tK 1 (v:=.string (bA t2)) (some 10) rfl rfl rfl (by kernel_rfl) (fun _ _ _ h=>h) (Or.inl ⟨by rfl,fun u hu=>by obtain⟨b0,b1⟩:=hu;go_simp⟩) (uZ HS0) ?_
   try simp only [Act.put,sA,sB,sC]
   refine tK 2 (v:=.pointer (some ⟨c.g,0,none⟩)) (some 11) rfl rfl rfl (by kernel_rfl) (fun _ _ _ h=>h) (Or.inl ⟨by rfl,fun u hu=>by obtain⟨b0,b1⟩:=hu;go_simp⟩) (uZ HS0) ?_
   try simp only [Act.put,sA,sB,sC]
   refine tK 5 (v:=.pointer (some ⟨Q,3,none⟩)) (some 14) rfl rfl rfl (by kernel_rfl) (fun _ _ _ h=>h) (Or.inl ⟨by rfl,fun u hu=>by obtain⟨b0,b1⟩:=hu;go_simp⟩) (uZ HS0) ?_
   try simp only [Act.put,sA,sB,sC]
   refine tK 6 (v:=.int .i64 (p2:Int)) (some 15) rfl rfl rfl (by kernel_rfl) (fun _ _ _ h=>h) (Or.inl ⟨by rfl,fun u hu=>by obtain⟨b0,b1⟩:=hu;go_simp⟩) (uZ HS0) ?_
   try simp only [Act.put,sA,sB,sC]
   obtain⟨yx,hy,hth⟩:=bnd_some (uZ HJ3)
   have HJ4:=hZ (hth)
   clear HJ3
   clear hth
   have CR0:=hZ (fun (u:World) (hu:Rd u c l.tail.tail d)=>ihe hy hu)
   clear hy
   rcases yx with ⟨ea,ep⟩|⟨nsx,lx⟩
   ·have HR:=hZ (thn_err (uZ HJ4))
    refine till_two 3 8 (by kernel_rfl) rfl rfl (fun K hK=>?_) (fun K hK=>?_)
    ·have CR:=hZ (uZ CR0 w5 (uZ S5).rd)
     go_simp
     refine(uZ CR).mono ?_
     rintro e wx ⟨rfl,b⟩
     have HX:=hZ ((uZ S5).bad b)
     clear b CR
     unfold fltP
     go_wp2_with fail
     exact⟨rfl,by rw [uZ HR];exact⟨rfl,uZ HX⟩⟩
    ·go_simp
     obtain⟨w6,hw⟩:=eX (w5.alloc (.cells #[.int .i64 0,.string ⟨#[]⟩,.int .i64 0,.int .i64 0,.string ⟨#[]⟩,.slice none 0 0,.slice none 0 0,.bool false,.slice none 0 0,.int .i64 0] 28))
     have b:=alB hw
     obtain⟨P,hQ⟩:=eX (w5.heap.size)
     have HBP_6:Hid (w6.heap[P]?=some (.cells #[.int .i64 0,.string ⟨#[]⟩,.int .i64 0,.int .i64 0,.string ⟨#[]⟩,.slice none 0 0,.slice none 0 0,.bool false,.slice none 0 0,.int .i64 0] 28 (0,0))):=hZ (by rw [←hw,←hQ];exact heap_alloc_new _ _)
     have S6:=hZ ((uZ S5).below b)
     have HBQ_6:=bx_be HBQ_5 b
     have ltP:w.heap.size<P:=by rw [←hQ];exact(uZ S5).lt
     have lQ_P:Q<P:=by rw [←hQ];exact(Array.getElem?_eq_some_iff.1 (uZ HBQ_5)).1
     rw [hw]
     try rw [hQ]
     clear hw hQ b HS0 S5 HBQ_5
     have HS0:Hid (w6.cell? ⟨Q,1,none⟩=some (.string (bA t2))∧w6.cell? ⟨Q,3,none⟩=some (.int .i64 (p2:Int))):=hZ (by obtain⟨c0,c1,c2,c3⟩:=row_cell4 (uZ HBQ_6);exact⟨c1,c3⟩)
     refine hK.out _ _ (Or.inr (uZ HS0)) ?_
     clear hK K
     try simp only [Act.put,sA,sB,sC]
     refine till_one 3 (by kernel_rfl) rfl (fun K hK=>?_)
     have CR:=hZ (uZ CR0 w6 (uZ S6).rd)
     go_simp
     refine(uZ CR).mono ?_
     rintro e wx ⟨rfl,b⟩
     have HX:=hZ ((uZ S6).bad b)
     clear b CR
     unfold fltP
     go_wp2_with fail
     exact⟨rfl,by rw [uZ HR];exact⟨rfl,uZ HX⟩⟩
   ·have HJ5:=hZ (thn_ok (uZ HJ4))
    clear HJ4
    refine till_two 3 8 (by kernel_rfl) rfl rfl (fun K hK=>?_) (fun K hK=>?_)
    ·have CR:=hZ (uZ CR0 w5 (uZ S5).rd)
     clear CR0
     go_simp
     refine(uZ CR).mono ?_
     rintro e w6 ⟨kx,tx,vkx,vnx,vsx,fx,nx,akx,ckx,px,Zx,rfl,hlx,hn,r2,b⟩
     have S6:=hZ ((uZ S5).go b r2)
     have HBQ_6:=bx_go HBQ_5 b (by omega)
     obtain⟨lox,hlo⟩:=eX (w5.heap.size)
     have ltlox:w.heap.size<lox:=by rw [←hlo];exact(uZ S5).lt
     have lqQ_x:Q<lox:=by rw [←hlo];exact(Array.getElem?_eq_some_iff.1 (uZ HBQ_5)).1
     rw [hlo] at hn
     have HNx_6:=hZ hn
     clear hlo b r2 hn CR S5 HBQ_5
     clear HS0
     have HS0:Hid (w6.cell? ⟨Q,1,none⟩=some (.string (bA t2))∧w6.cell? ⟨Q,3,none⟩=some (.int .i64 (p2:Int))):=hZ (by obtain⟨c0,c1,c2,c3⟩:=row_cell4 (uZ HBQ_6);exact⟨c1,c3⟩)
     go_wp2_with fail
     refine hK.out _ _ (Or.inr (uZ HS0)) ?_
     clear hK K
     try simp only [Act.put,sA,sB,sC]
     refine till_two 4 8 (by kernel_rfl) rfl rfl (fun K hK=>?_) (fun K hK=>?_)
     ·have hkn:=hZ (uZ HNx_6)
      obtain⟨w7,hwr⟩:=eX (w6.alloc (.cells #[.int .i64 (kx:Int),.string (bA tx),.int .i64 (vkx:Int),.int .i64 (vnx:Int),.string (bA vsx),.slice none 0 0,.slice none 0 0,.bool fx,.slice akx nx ckx,.int .i64 (px:Int)] 28))
      have b:=alB hwr
      obtain⟨qr,hqr⟩:=eX (w6.heap.size)
      have HKr_7:Hid (Kr lox w7 _ (.slice (some ⟨qr,0,none⟩) _ _) [.int .i64 (kx:Int),.string (bA tx),.int .i64 (vkx:Int),.int .i64 (vnx:Int),.string (bA vsx),.slice none 0 0,.slice none 0 0,.bool fx,.slice akx nx ckx,.int .i64 (px:Int)] _):=hZ (by rw [←hwr,←hqr];exact Kr.mk' (uZ hkn) (by rw [hlx];decide))
      rw [hlx] at HKr_7
      have ltr:w.heap.size<qr:=by rw [←hqr];exact(uZ S6).lt
      have S7:=hZ ((uZ S6).below b)
      have HBQ_7:=bx_be HBQ_6 b
      clear b hkn S6 HBQ_6 HNx_6
      go_simp
      try rw [hwr]
      try rw [hqr]
      clear HS0
      have HS0:Hid (w7.cell? ⟨Q,1,none⟩=some (.string (bA t2))∧w7.cell? ⟨Q,3,none⟩=some (.int .i64 (p2:Int))):=hZ (by obtain⟨c0,c1,c2,c3⟩:=row_cell4 (uZ HBQ_7);exact⟨c1,c3⟩)
      refine hK.out _ _ (Or.inr (uZ HS0)) ?_
      clear hK K hwr hqr
      try simp only [Act.put,sA,sB,sC]
      refine tK 7 (v:=.agg #[.int .i64 6,.string (bA t2),.int .i64 0,.int .i64 0,.string ⟨#[]⟩,.slice none 0 0,.slice none 0 0,.bool false,.slice (some ⟨qr,0,none⟩) 1 1,.int .i64 (p2:Int)]) (some 16) rfl rfl rfl (by kernel_rfl) (fun _ _ _ h=>h) (Or.inl ⟨by rfl,fun u hu=>by obtain⟨b0,b1⟩:=hu;go_simp⟩) (uZ HS0) ?_
      try simp only [Act.put,sA,sB,sC]
      refine till_one 8 (by kernel_rfl) rfl (fun K hK=>?_)
      go_simp
      obtain⟨w8,hw⟩:=eX (w7.alloc (.cells #[.int .i64 0,.string ⟨#[]⟩,.int .i64 0,.int .i64 0,.string ⟨#[]⟩,.slice none 0 0,.slice none 0 0,.bool false,.slice none 0 0,.int .i64 0] 28))
      have b:=alB hw
      obtain⟨P,hQ⟩:=eX (w7.heap.size)
      have HBP_8:Hid (w8.heap[P]?=some (.cells #[.int .i64 0,.string ⟨#[]⟩,.int .i64 0,.int .i64 0,.string ⟨#[]⟩,.slice none 0 0,.slice none 0 0,.bool false,.slice none 0 0,.int .i64 0] 28 (0,0))):=hZ (by rw [←hw,←hQ];exact heap_alloc_new _ _)
      have S8:=hZ ((uZ S7).below b)
      have HBQ_8:=bx_be HBQ_7 b
      have HKr_8:=hZ ((uZ HKr_7).beside (Beside.of_below (gr:=c.g) b) (by omega))
      have ltP:w.heap.size<P:=by rw [←hQ];exact(uZ S7).lt
      have lQ_P:Q<P:=by rw [←hQ];exact(Array.getElem?_eq_some_iff.1 (uZ HBQ_7)).1
      have APr_P:=hZ ((uZ HKr_7).fresh hQ)
      rw [hw]
      try rw [hQ]
      clear hw hQ b HS0 S7 HBQ_7 HKr_7
      have HS0:Hid (w8.cell? ⟨Q,1,none⟩=some (.string (bA t2))∧w8.cell? ⟨Q,3,none⟩=some (.int .i64 (p2:Int))):=hZ (by obtain⟨c0,c1,c2,c3⟩:=row_cell4 (uZ HBQ_8);exact⟨c1,c3⟩)
      refine hK.out _ _ (Or.inr (uZ HS0)) ?_
      clear hK K
      try simp only [Act.put,sA,sB,sC]
      obtain⟨g0,g1,g2,g3,g4,g5,g6,g7,g8,g9⟩:=row_cell10 (uZ HBP_8)
      obtain⟨z0,z1,z2,z3,z4,z5,z6,z7,z8,z9⟩:=frozen10 (uZ HBP_8)
      refine till_one 9 (by kernel_rfl) rfl (fun K hK=>?_)
      go_simp
      refine hK.out _ _ (Or.inl (by first|rfl|trivial)) ?_
      clear hK K HS0 g0 z0 g1 z1 g2 z2 g3 z3 g4 z4 g5 z5 g6 z6 g7 z7 g8 z8 g9 z9
      try simp only [Act.put,sA,sB,sC]
      refine till_done (by kernel_rfl) ?_ _
      have O:=(uZ S8).own10 ltP (.int .i64 6) (.string (bA t2)) (.int .i64 0) (.int .i64 0) (.string ⟨#[]⟩) (.slice none 0 0) (.slice none 0 0) (.bool false) (.slice (some ⟨qr,0,none⟩) 1 1) (.int .i64 (p2:Int))
      have D:=set10 (uZ HBP_8) (.int .i64 6) (.string (bA t2)) (.int .i64 0) (.int .i64 0) (.string ⟨#[]⟩) (.slice none 0 0) (.slice none 0 0) (.bool false) (.slice (some ⟨qr,0,none⟩) 1 1) (.int .i64 (p2:Int))
      obtain⟨w9,hw⟩:=eX (((((((((((w8.setCell ⟨P,0,none⟩ (.int .i64 6)).setCell ⟨P,1,none⟩ (.string (bA t2))).setCell ⟨P,2,none⟩ (.int .i64 0)).setCell ⟨P,3,none⟩ (.int .i64 0)).setCell ⟨P,4,none⟩ (.string ⟨#[]⟩)).setCell ⟨P,5,none⟩ (.slice none 0 0)).setCell ⟨P,6,none⟩ (.slice none 0 0)).setCell ⟨P,7,none⟩ (.bool false)).setCell ⟨P,8,none⟩ (.slice (some ⟨qr,0,none⟩) 1 1)).setCell ⟨P,9,none⟩ (.int .i64 (p2:Int))))
      rw [hw] at O D
      have S9:=hZ O.1
      have HBP_9:=hZ D
      have HBQ_9:Hid (w9.heap[Q]?=some (.cells #[.int .i64 (k2:Int),.string (bA t2),.int .i64 (n2:Int),.int .i64 (p2:Int)] 85 (0,0))):=hZ ((O.2.1 Q (by omega)).trans (uZ HBQ_8))
      have HKr_9:=hZ ((uZ HKr_8).but2 (q:=P) (fun b _ hb=>O.2.1 b hb) (Nat.le_of_eq O.2.2.symm) (uZ APr_P).1 (uZ APr_P).2)
      rw [hw]
      clear hw O D S8 HBQ_8 HBP_8 HKr_8
      by_cases hb:isS [59] lx=true
      ·have hq:isS [59] lx=true:=by simpa using hb
       have HJ6:=hZ (thn_sg hq (uZ HJ5))
       clear HJ5
       have CC:=hZ (psg_ok (uZ S9).rd [59] hq)
       go_wp2_with fail
       refine(uZ CC).mono ?_
       rintro e w10 ⟨rfl,r2,b⟩
       have S10:=hZ ((uZ S9).go b r2)
       have HBQ_10:=bx_go HBQ_9 b (by omega)
       have HBP_10:=bx_go HBP_9 b (by omega)
       have HKr_10:=hZ ((uZ HKr_9).beside b (by omega))
       clear b r2 CC S9 HBQ_9 HBP_9 HKr_9
       have hr1:=okN_some (uZ HJ6)
       have hnn:=(uZ HKr_10).node' hlx 6 t2 0 0 [] false p2
       have HR:=hZ (hr1)
       have BX:=(uZ S10).bx
       rw [hG] at BX
       obtain⟨g0,g1,g2,g3,g4,g5,g6,g7,g8,g9⟩:=row_cell10 BX
       obtain⟨z0,z1,z2,z3,z4,z5,z6,z7,z8,z9⟩:=frozen10 BX
       clear BX
       obtain⟨Pc0,Pc1,Pc2,Pc3,Pc4,Pc5,Pc6,Pc7,Pc8,Pc9⟩:=row_cell10 (uZ HBP_10)
       have FF:=hZ (St.done (uZ S10) (hnn.low (by omega)) rfl hG)
       go_wp2_with fail
       refine rtN (p:=2) rfl rfl (uZ FF).1 rfl rfl ?_
       rw [uZ HR]
       exact(uZ FF).2
      ·have hq:isS [59] lx=false:=by simpa using hb
       have CC:=hZ (psg_bad (uZ S9).rd [59] hq)
       have HR:=hZ (thn_sgb hq (uZ HJ5))
       go_wp2_with fail
       refine(uZ CC).mono ?_
       rintro e wx ⟨rfl,b⟩
       have HX:=hZ ((uZ S9).bad b)
       clear b CC
       unfold fltP
       go_wp2_with fail
       exact⟨rfl,by rw [uZ HR];exact⟨rfl,uZ HX⟩⟩
     ·go_simp
      obtain⟨w7,hw⟩:=eX (w6.alloc (.cells #[.int .i64 0,.string ⟨#[]⟩,.int .i64 0,.int .i64 0,.string ⟨#[]⟩,.slice none 0 0,.slice none 0 0,.bool false,.slice none 0 0,.int .i64 0] 28))
      have b:=alB hw
      obtain⟨P,hQ⟩:=eX (w6.heap.size)
      have HBP_7:Hid (w7.heap[P]?=some (.cells #[.int .i64 0,.string ⟨#[]⟩,.int .i64 0,.int .i64 0,.string ⟨#[]⟩,.slice none 0 0,.slice none 0 0,.bool false,.slice none 0 0,.int .i64 0] 28 (0,0))):=hZ (by rw [←hw,←hQ];exact heap_alloc_new _ _)
      have S7:=hZ ((uZ S6).below b)
      have HBQ_7:=bx_be HBQ_6 b
      have HNx_7:=hZ ((uZ HNx_6).beside (Beside.of_below (gr:=c.g) b) (by omega))
      have ltP:w.heap.size<P:=by rw [←hQ];exact(uZ S6).lt
      have lQ_P:Q<P:=by rw [←hQ];exact(Array.getElem?_eq_some_iff.1 (uZ HBQ_6)).1
      have ANx_P:=hZ ((uZ HNx_6).fresh hQ)
      rw [hw]
      try rw [hQ]
      clear hw hQ b HS0 S6 HBQ_6 HNx_6
      have HS0:Hid (w7.cell? ⟨Q,1,none⟩=some (.string (bA t2))∧w7.cell? ⟨Q,3,none⟩=some (.int .i64 (p2:Int))):=hZ (by obtain⟨c0,c1,c2,c3⟩:=row_cell4 (uZ HBQ_7);exact⟨c1,c3⟩)
      refine hK.out _ _ (Or.inr (uZ HS0)) ?_
      clear hK K
      try simp only [Act.put,sA,sB,sC]
      refine till_one 4 (by kernel_rfl) rfl (fun K hK=>?_)
      have lt3:P<w7.heap.size:=(Array.getElem?_eq_some_iff.1 (uZ HBP_7)).1
      have hkn:=hZ (uZ HNx_7)
      obtain⟨w8,hwr⟩:=eX (w7.alloc (.cells #[.int .i64 (kx:Int),.string (bA tx),.int .i64 (vkx:Int),.int .i64 (vnx:Int),.string (bA vsx),.slice none 0 0,.slice none 0 0,.bool fx,.slice akx nx ckx,.int .i64 (px:Int)] 28))
      have b:=alB hwr
      obtain⟨qr,hqr⟩:=eX (w7.heap.size)
      have HKr_8:Hid (Kr lox w8 _ (.slice (some ⟨qr,0,none⟩) _ _) [.int .i64 (kx:Int),.string (bA tx),.int .i64 (vkx:Int),.int .i64 (vnx:Int),.string (bA vsx),.slice none 0 0,.slice none 0 0,.bool fx,.slice akx nx ckx,.int .i64 (px:Int)] _):=hZ (by rw [←hwr,←hqr];exact Kr.mk' (uZ hkn) (by rw [hlx];decide))
      rw [hlx] at HKr_8
      have ltr:w.heap.size<qr:=by rw [←hqr];exact(uZ S7).lt
      have S8:=hZ ((uZ S7).below b)
      have HBQ_8:=bx_be HBQ_7 b
      have HBP_8:=bx_be HBP_7 b
      clear b hkn S7 HBQ_7 HBP_7 HNx_7
      have APr_P:=hZ (And.intro (uZ ANx_P) (own_ne (n:=1) (m:=1) (show P<qr by omega)))
      go_simp
      try rw [hwr]
      try rw [hqr]
      clear HS0
      have HS0:Hid (w8.cell? ⟨Q,1,none⟩=some (.string (bA t2))∧w8.cell? ⟨Q,3,none⟩=some (.int .i64 (p2:Int))):=hZ (by obtain⟨c0,c1,c2,c3⟩:=row_cell4 (uZ HBQ_8);exact⟨c1,c3⟩)
      refine hK.out _ _ (Or.inr (uZ HS0)) ?_
      clear hK K hwr hqr
      try simp only [Act.put,sA,sB,sC]
      refine tK 7 (v:=.agg #[.int .i64 6,.string (bA t2),.int .i64 0,.int .i64 0,.string ⟨#[]⟩,.slice none 0 0,.slice none 0 0,.bool false,.slice (some ⟨qr,0,none⟩) 1 1,.int .i64 (p2:Int)]) (some 16) rfl rfl rfl (by kernel_rfl) (fun _ _ _ h=>h) (Or.inl ⟨by rfl,fun u hu=>by obtain⟨b0,b1⟩:=hu;go_simp⟩) (uZ HS0) ?_
      try simp only [Act.put,sA,sB,sC]
      obtain⟨g0,g1,g2,g3,g4,g5,g6,g7,g8,g9⟩:=row_cell10 (uZ HBP_8)
      obtain⟨z0,z1,z2,z3,z4,z5,z6,z7,z8,z9⟩:=frozen10 (uZ HBP_8)
      refine till_one 9 (by kernel_rfl) rfl (fun K hK=>?_)
      go_simp
      refine hK.out _ _ (Or.inl (by first|rfl|trivial)) ?_
      clear hK K HS0 g0 z0 g1 z1 g2 z2 g3 z3 g4 z4 g5 z5 g6 z6 g7 z7 g8 z8 g9 z9
      try simp only [Act.put,sA,sB,sC]
      refine till_done (by kernel_rfl) ?_ _
      have O:=(uZ S8).own10 ltP (.int .i64 6) (.string (bA t2)) (.int .i64 0) (.int .i64 0) (.string ⟨#[]⟩) (.slice none 0 0) (.slice none 0 0) (.bool false) (.slice (some ⟨qr,0,none⟩) 1 1) (.int .i64 (p2:Int))
      have D:=set10 (uZ HBP_8) (.int .i64 6) (.string (bA t2)) (.int .i64 0) (.int .i64 0) (.string ⟨#[]⟩) (.slice none 0 0) (.slice none 0 0) (.bool false) (.slice (some ⟨qr,0,none⟩) 1 1) (.int .i64 (p2:Int))
      obtain⟨w9,hw⟩:=eX (((((((((((w8.setCell ⟨P,0,none⟩ (.int .i64 6)).setCell ⟨P,1,none⟩ (.string (bA t2))).setCell ⟨P,2,none⟩ (.int .i64 0)).setCell ⟨P,3,none⟩ (.int .i64 0)).setCell ⟨P,4,none⟩ (.string ⟨#[]⟩)).setCell ⟨P,5,none⟩ (.slice none 0 0)).setCell ⟨P,6,none⟩ (.slice none 0 0)).setCell ⟨P,7,none⟩ (.bool false)).setCell ⟨P,8,none⟩ (.slice (some ⟨qr,0,none⟩) 1 1)).setCell ⟨P,9,none⟩ (.int .i64 (p2:Int))))
      rw [hw] at O D
      have S9:=hZ O.1
      have HBP_9:=hZ D
      have HBQ_9:Hid (w9.heap[Q]?=some (.cells #[.int .i64 (k2:Int),.string (bA t2),.int .i64 (n2:Int),.int .i64 (p2:Int)] 85 (0,0))):=hZ ((O.2.1 Q (by omega)).trans (uZ HBQ_8))
      have HKr_9:=hZ ((uZ HKr_8).but2 (q:=P) (fun b _ hb=>O.2.1 b hb) (Nat.le_of_eq O.2.2.symm) (uZ APr_P).1 (uZ APr_P).2)
      rw [hw]
      clear hw O D S8 HBQ_8 HBP_8 HKr_8
      by_cases hb:isS [59] lx=true
      ·have hq:isS [59] lx=true:=by simpa using hb
       have HJ6:=hZ (thn_sg hq (uZ HJ5))
       clear HJ5
       have CC:=hZ (psg_ok (uZ S9).rd [59] hq)
       go_wp2_with fail
       refine(uZ CC).mono ?_
       rintro e w10 ⟨rfl,r2,b⟩
       have S10:=hZ ((uZ S9).go b r2)
       have HBQ_10:=bx_go HBQ_9 b (by omega)
       have HBP_10:=bx_go HBP_9 b (by omega)
       have HKr_10:=hZ ((uZ HKr_9).beside b (by omega))
       clear b r2 CC S9 HBQ_9 HBP_9 HKr_9
       have hr1:=okN_some (uZ HJ6)
       have hnn:=(uZ HKr_10).node' hlx 6 t2 0 0 [] false p2
       have HR:=hZ (hr1)
       have BX:=(uZ S10).bx
       rw [hG] at BX
       obtain⟨g0,g1,g2,g3,g4,g5,g6,g7,g8,g9⟩:=row_cell10 BX
       obtain⟨z0,z1,z2,z3,z4,z5,z6,z7,z8,z9⟩:=frozen10 BX
       clear BX
       obtain⟨Pc0,Pc1,Pc2,Pc3,Pc4,Pc5,Pc6,Pc7,Pc8,Pc9⟩:=row_cell10 (uZ HBP_10)
       have FF:=hZ (St.done (uZ S10) (hnn.low (by omega)) rfl hG)
       go_wp2_with fail
       refine rtN (p:=2) rfl rfl (uZ FF).1 rfl rfl ?_
       rw [uZ HR]
       exact(uZ FF).2
      ·have hq:isS [59] lx=false:=by simpa using hb
       have CC:=hZ (psg_bad (uZ S9).rd [59] hq)
       have HR:=hZ (thn_sgb hq (uZ HJ5))
       go_wp2_with fail
       refine(uZ CC).mono ?_
       rintro e wx ⟨rfl,b⟩
       have HX:=hZ ((uZ S9).bad b)
       clear b CC
       unfold fltP
       go_wp2_with fail
       exact⟨rfl,by rw [uZ HR];exact⟨rfl,uZ HX⟩⟩
    ·go_simp
     obtain⟨w6,hw⟩:=eX (w5.alloc (.cells #[.int .i64 0,.string ⟨#[]⟩,.int .i64 0,.int .i64 0,.string ⟨#[]⟩,.slice none 0 0,.slice none 0 0,.bool false,.slice none 0 0,.int .i64 0] 28))
     have b:=alB hw
     obtain⟨P,hQ⟩:=eX (w5.heap.size)
     have HBP_6:Hid (w6.heap[P]?=some (.cells #[.int .i64 0,.string ⟨#[]⟩,.int .i64 0,.int .i64 0,.string ⟨#[]⟩,.slice none 0 0,.slice none 0 0,.bool false,.slice none 0 0,.int .i64 0] 28 (0,0))):=hZ (by rw [←hw,←hQ];exact heap_alloc_new _ _)
     have S6:=hZ ((uZ S5).below b)
     have HBQ_6:=bx_be HBQ_5 b
     have ltP:w.heap.size<P:=by rw [←hQ];exact(uZ S5).lt
     have lQ_P:Q<P:=by rw [←hQ];exact(Array.getElem?_eq_some_iff.1 (uZ HBQ_5)).1
     rw [hw]
     try rw [hQ]
     clear hw hQ b HS0 S5 HBQ_5
     have HS0:Hid (w6.cell? ⟨Q,1,none⟩=some (.string (bA t2))∧w6.cell? ⟨Q,3,none⟩=some (.int .i64 (p2:Int))):=hZ (by obtain⟨c0,c1,c2,c3⟩:=row_cell4 (uZ HBQ_6);exact⟨c1,c3⟩)
     refine hK.out _ _ (Or.inr (uZ HS0)) ?_
     clear hK K
     try simp only [Act.put,sA,sB,sC]
     refine till_one 3 (by kernel_rfl) rfl (fun K hK=>?_)
     have CR:=hZ (uZ CR0 w6 (uZ S6).rd)
     clear CR0
     go_simp
     refine(uZ CR).mono ?_
     rintro e w7 ⟨kx,tx,vkx,vnx,vsx,fx,nx,akx,ckx,px,Zx,rfl,hlx,hn,r2,b⟩
     have S7:=hZ ((uZ S6).go b r2)
     have HBQ_7:=bx_go HBQ_6 b (by omega)
     have HBP_7:=bx_go HBP_6 b (by omega)
     obtain⟨lox,hlo⟩:=eX (w6.heap.size)
     have ltlox:w.heap.size<lox:=by rw [←hlo];exact(uZ S6).lt
     have lqQ_x:Q<lox:=by rw [←hlo];exact(Array.getElem?_eq_some_iff.1 (uZ HBQ_6)).1
     have lqP_x:P<lox:=by rw [←hlo];exact(Array.getElem?_eq_some_iff.1 (uZ HBP_6)).1
     rw [hlo] at hn
     have HNx_7:=hZ hn
     clear hlo b r2 hn CR S6 HBQ_6 HBP_6
     clear HS0
     have HS0:Hid (w7.cell? ⟨Q,1,none⟩=some (.string (bA t2))∧w7.cell? ⟨Q,3,none⟩=some (.int .i64 (p2:Int))):=hZ (by obtain⟨c0,c1,c2,c3⟩:=row_cell4 (uZ HBQ_7);exact⟨c1,c3⟩)
     go_wp2_with fail
     refine hK.out _ _ (Or.inr (uZ HS0)) ?_
     clear hK K
     try simp only [Act.put,sA,sB,sC]
     refine till_one 4 (by kernel_rfl) rfl (fun K hK=>?_)
     have hkn:=hZ (uZ HNx_7)
     obtain⟨w8,hwr⟩:=eX (w7.alloc (.cells #[.int .i64 (kx:Int),.string (bA tx),.int .i64 (vkx:Int),.int .i64 (vnx:Int),.string (bA vsx),.slice none 0 0,.slice none 0 0,.bool fx,.slice akx nx ckx,.int .i64 (px:Int)] 28))
     have b:=alB hwr
     obtain⟨qr,hqr⟩:=eX (w7.heap.size)
     have HKr_8:Hid (Kr lox w8 _ (.slice (some ⟨qr,0,none⟩) _ _) [.int .i64 (kx:Int),.string (bA tx),.int .i64 (vkx:Int),.int .i64 (vnx:Int),.string (bA vsx),.slice none 0 0,.slice none 0 0,.bool fx,.slice akx nx ckx,.int .i64 (px:Int)] _):=hZ (by rw [←hwr,←hqr];exact Kr.mk' (uZ hkn) (by rw [hlx];decide))
     rw [hlx] at HKr_8
     have ltr:w.heap.size<qr:=by rw [←hqr];exact(uZ S7).lt
     have S8:=hZ ((uZ S7).below b)
     have HBQ_8:=bx_be HBQ_7 b
     have HBP_8:=bx_be HBP_7 b
     clear b hkn S7 HBQ_7 HBP_7 HNx_7
     go_simp
     try rw [hwr]
     try rw [hqr]
     clear HS0
     have HS0:Hid (w8.cell? ⟨Q,1,none⟩=some (.string (bA t2))∧w8.cell? ⟨Q,3,none⟩=some (.int .i64 (p2:Int))):=hZ (by obtain⟨c0,c1,c2,c3⟩:=row_cell4 (uZ HBQ_8);exact⟨c1,c3⟩)
     refine hK.out _ _ (Or.inr (uZ HS0)) ?_
     clear hK K hwr hqr
     try simp only [Act.put,sA,sB,sC]
     refine tK 7 (v:=.agg #[.int .i64 6,.string (bA t2),.int .i64 0,.int .i64 0,.string ⟨#[]⟩,.slice none 0 0,.slice none 0 0,.bool false,.slice (some ⟨qr,0,none⟩) 1 1,.int .i64 (p2:Int)]) (some 16) rfl rfl rfl (by kernel_rfl) (fun _ _ _ h=>h) (Or.inl ⟨by rfl,fun u hu=>by obtain⟨b0,b1⟩:=hu;go_simp⟩) (uZ HS0) ?_
     try simp only [Act.put,sA,sB,sC]
     obtain⟨g0,g1,g2,g3,g4,g5,g6,g7,g8,g9⟩:=row_cell10 (uZ HBP_8)
     obtain⟨z0,z1,z2,z3,z4,z5,z6,z7,z8,z9⟩:=frozen10 (uZ HBP_8)
     refine till_one 9 (by kernel_rfl) rfl (fun K hK=>?_)
     go_simp
     refine hK.out _ _ (Or.inl (by first|rfl|trivial)) ?_
     clear hK K HS0 g0 z0 g1 z1 g2 z2 g3 z3 g4 z4 g5 z5 g6 z6 g7 z7 g8 z8 g9 z9
     try simp only [Act.put,sA,sB,sC]
     refine till_done (by kernel_rfl) ?_ _
     have O:=(uZ S8).own10 ltP (.int .i64 6) (.string (bA t2)) (.int .i64 0) (.int .i64 0) (.string ⟨#[]⟩) (.slice none 0 0) (.slice none 0 0) (.bool false) (.slice (some ⟨qr,0,none⟩) 1 1) (.int .i64 (p2:Int))
     have D:=set10 (uZ HBP_8) (.int .i64 6) (.string (bA t2)) (.int .i64 0) (.int .i64 0) (.string ⟨#[]⟩) (.slice none 0 0) (.slice none 0 0) (.bool false) (.slice (some ⟨qr,0,none⟩) 1 1) (.int .i64 (p2:Int))
     obtain⟨w9,hw⟩:=eX (((((((((((w8.setCell ⟨P,0,none⟩ (.int .i64 6)).setCell ⟨P,1,none⟩ (.string (bA t2))).setCell ⟨P,2,none⟩ (.int .i64 0)).setCell ⟨P,3,none⟩ (.int .i64 0)).setCell ⟨P,4,none⟩ (.string ⟨#[]⟩)).setCell ⟨P,5,none⟩ (.slice none 0 0)).setCell ⟨P,6,none⟩ (.slice none 0 0)).setCell ⟨P,7,none⟩ (.bool false)).setCell ⟨P,8,none⟩ (.slice (some ⟨qr,0,none⟩) 1 1)).setCell ⟨P,9,none⟩ (.int .i64 (p2:Int))))
     rw [hw] at O D
     have S9:=hZ O.1
     have HBP_9:=hZ D
     have HBQ_9:Hid (w9.heap[Q]?=some (.cells #[.int .i64 (k2:Int),.string (bA t2),.int .i64 (n2:Int),.int .i64 (p2:Int)] 85 (0,0))):=hZ ((O.2.1 Q (by omega)).trans (uZ HBQ_8))
     have HKr_9:=hZ ((uZ HKr_8).but (q:=P) (fun b _ hb=>O.2.1 b hb) (Nat.le_of_eq O.2.2.symm) (by omega))
     rw [hw]
     clear hw O D S8 HBQ_8 HBP_8 HKr_8
     by_cases hb:isS [59] lx=true
     ·have hq:isS [59] lx=true:=by simpa using hb
      have HJ6:=hZ (thn_sg hq (uZ HJ5))
      clear HJ5
      have CC:=hZ (psg_ok (uZ S9).rd [59] hq)
      go_wp2_with fail
      refine(uZ CC).mono ?_
      rintro e w10 ⟨rfl,r2,b⟩
      have S10:=hZ ((uZ S9).go b r2)
      have HBQ_10:=bx_go HBQ_9 b (by omega)
      have HBP_10:=bx_go HBP_9 b (by omega)
      have HKr_10:=hZ ((uZ HKr_9).beside b (by omega))
      clear b r2 CC S9 HBQ_9 HBP_9 HKr_9
      have hr1:=okN_some (uZ HJ6)
      have hnn:=(uZ HKr_10).node' hlx 6 t2 0 0 [] false p2
      have HR:=hZ (hr1)
      have BX:=(uZ S10).bx
      rw [hG] at BX
      obtain⟨g0,g1,g2,g3,g4,g5,g6,g7,g8,g9⟩:=row_cell10 BX
      obtain⟨z0,z1,z2,z3,z4,z5,z6,z7,z8,z9⟩:=frozen10 BX
      clear BX
      obtain⟨Pc0,Pc1,Pc2,Pc3,Pc4,Pc5,Pc6,Pc7,Pc8,Pc9⟩:=row_cell10 (uZ HBP_10)
      have FF:=hZ (St.done (uZ S10) (hnn.low (by omega)) rfl hG)
      go_wp2_with fail
      refine rtN (p:=2) rfl rfl (uZ FF).1 rfl rfl ?_
      rw [uZ HR]
      exact(uZ FF).2
     ·have hq:isS [59] lx=false:=by simpa using hb
      have CC:=hZ (psg_bad (uZ S9).rd [59] hq)
      have HR:=hZ (thn_sgb hq (uZ HJ5))
      go_wp2_with fail
      refine(uZ CC).mono ?_
      rintro e wx ⟨rfl,b⟩
      have HX:=hZ ((uZ S9).bad b)
      clear b CC
      unfold fltP
      go_wp2_with fail
      exact⟨rfl,by rw [uZ HR];exact⟨rfl,uZ HX⟩⟩
  ·have hq:isS [61] l.tail=false:=by simpa using hb
   have CC:=hZ (psg_bad (uZ S3).rd [61] hq)
   have HR:=hZ (thn_sgb hq (uZ HJ2))
   go_wp2_with fail
   refine(uZ CC).mono ?_
   rintro e wx ⟨rfl,b⟩
   have HX:=hZ ((uZ S3).bad b)
   clear b CC
   unfold fltP
   go_wp2_with fail
   exact⟨rfl,by rw [uZ HR];exact⟨rfl,uZ HX⟩⟩
 ·have CC:=hZ (pnm_bad (uZ S1).rd hq)
  have HR:=hZ (thn_nmb hq (uZ HJ1))
  go_wp2_with fail
  refine(uZ CC).mono ?_
  rintro e wx ⟨rfl,b⟩
  have HX:=hZ ((uZ S1).bad b)
  clear b CC
  unfold fltP
  go_wp2_with fail
  exact⟨rfl,by rw [uZ HR];exact⟨rfl,uZ HX⟩⟩
theorem unary_step {c:Cx} {l:List Tk} {d:Nat} {w:World} {r:Rs (List Nd)} {f:Nat} (ihu:∀{c:Cx} {l:List Tk} {d:Nat} {w:World} {r:Rs (List Nd)},PJ f 1 0 [] l d=some r→Rd w c l d→Calls Tryz.prog 189 #[.pointer (some ⟨c.g,0,none⟩)] w fun e w'=>NdP c w d r e w') (ihr:∀{c:Cx} {l:List Tk} {d:Nat} {w:World} {r:Rs (List Nd)},PJ f 24 0 [] l d=some r→Rd w c l d→Calls Tryz.prog 194 #[.pointer (some ⟨c.g,0,none⟩)] w fun e w'=>NdP c w d r e w') (hJ:PJ (f+1) 1 0 [] l d=some r) (h:Rd w c l d) :
  Calls Tryz.prog 189 #[.pointer (some ⟨c.g,0,none⟩)] w fun e w'=>NdP c w d r e w':=by
 have S1:=hZ (St.start h 28 #[.int .i64 0,.string ⟨#[]⟩,.int .i64 0,.int .i64 0,.string ⟨#[]⟩,.slice none 0 0,.slice none 0 0,.bool false,.slice none 0 0,.int .i64 0])
 obtain⟨w1,hw1⟩:=eX (w.alloc (.cells #[.int .i64 0,.string ⟨#[]⟩,.int .i64 0,.int .i64 0,.string ⟨#[]⟩,.slice none 0 0,.slice none 0 0,.bool false,.slice none 0 0,.int .i64 0] 28))
 rw [hw1] at S1
 obtain⟨G,hG⟩:=eX (w.heap.size)
 have hgw:c.g<w.heap.size:=h.cells.2.2.2.2.2
 clear h
 go_enter Tryz.func189,Tryz.ntmps189
 have HJ0:=hZ (show jUnary (PJ f) l d=some r from hJ)
 clear hJ
 obtain⟨⟨k,t,n,p⟩,ht⟩:∃t,hdT l=t:=⟨_,rfl⟩
 have HT:=hZ ht
 clear ht
 have HJ1:=hZ ((by have:=uZ HJ0;unfold jUnary at this;rw [uZ HT] at this;exact this))
 clear HJ0
 by_cases hb:isS [45] l=true
 ·have hq:isS [45] l=true:=by simpa using hb
  have CC:=hZ ((by have:=seesSign_any (uZ S1).rd [45];rw [hq] at this;exact this))
  go_wp2_with fail
  refine(uZ CC).mono ?_
  rintro e w2 ⟨rfl,b⟩
  have S2:=hZ ((uZ S1).below b)
  clear b CC S1
  have hor:isS [45] l=true∨isS [33] l=true:=Or.inl hq
  have hst0:isS t l=true:=by have h2:=(isT_k hq).2;rw [uZ HT] at h2;have h3:t=[45]:=h2;rw [h3];exact hq
  have HJ2:=hZ ((by have:=(uZ HJ1);rw [if_pos hor] at this;exact this))
  clear HJ1
  have CC:=hZ ((by have:=token_any (uZ S2).rd;rw [uZ HT] at this;simp only [tkA] at this;exact this))
  go_wp2_with fail
  refine(uZ CC).mono ?_
  rintro e w3 ⟨rfl,b⟩
  have S3:=hZ ((uZ S2).below b)
  clear b CC S2
  have hst:isS t l=true:=hst0
  have hlw:=(uZ S3).rd.low
  by_cases hd:d<24
  ·have HJ3:=hZ ((by have:=thn_en hst hd (uZ HJ2);rw [uZ HT] at this;exact this))
   clear HJ2
   have CC:=hZ ((by have:=ent_ok (uZ S3).rd t hst hd;rw [uZ HT] at this;simp only [tkA] at this;exact this))
   go_wp2_with (first|(refine wpl_tk1 rfl _ rfl _ _ _ _ rfl ?_))
   refine(uZ CC).mono ?_
   rintro e w4 ⟨rfl,r2,b⟩
   have S4:=hZ ((uZ S3).go b r2)
   clear b r2 CC S3
   go_upto_region 4 with fail
   obtain⟨w5,hw⟩:=eX (w4.alloc (.cells #[.int .i64 (k:Int),.string (bA t),.int .i64 (n:Int),.int .i64 (p:Int)] 85))
   have b:=alB hw
   obtain⟨Q,hQ⟩:=eX (w4.heap.size)
   have HBQ_5:Hid (w5.heap[Q]?=some (.cells #[.int .i64 (k:Int),.string (bA t),.int .i64 (n:Int),.int .i64 (p:Int)] 85 (0,0))):=hZ (by rw [←hw,←hQ];exact heap_alloc_new _ _)
   have S5:=hZ ((uZ S4).below b)
   have ltQ:w.heap.size<Q:=by rw [←hQ];exact(uZ S4).lt
   rw [hw]
   try rw [hQ]
   clear hw hQ b S4
   go_upto_region 4 with fail
   obtain⟨-,Qc1,-,Qc3⟩:=row_cell4 (uZ HBQ_5)
   have HS0:Hid (w5.drew.cell? ⟨Q,1,none⟩=some (.string (bA t))∧w5.drew.cell? ⟨Q,3,none⟩=some (.int .i64 (p:Int))):=hZ (⟨Qc1,Qc3⟩)
   refine till_begin (S:=fun w'=>w'.cell? ⟨Q,1,none⟩=some (.string (bA t))∧w'.cell? ⟨Q,3,none⟩=some (.int .i64 (p:Int))) 9 (by kernel_rfl) ?_
   obtain⟨w6,hWD⟩:=eX (w5.drew)
   have bD:Below w5.heap.size w5 w6:=by rw [←hWD];exact(Below.refl _ _).drew
   rw [hWD] at HS0
   rw [hWD]
   have S6:=hZ ((uZ S5).below bD)
   have HBQ_6:=bx_be HBQ_5 bD
   clear hWD bD S5 HBQ_5
   clear Qc1 Qc3
   refine tK 0 (v:=.pointer (some ⟨Q,1,none⟩)) (some 20) rfl rfl rfl (by kernel_rfl) (fun _ _ _ h=>h) (Or.inl ⟨by rfl,fun u hu=>by obtain⟨b0,b1⟩:=hu;go_simp⟩) (uZ HS0) ?_
   try simp only [Act.put,sA,sB,sC]
   refine tK 1 (v:=.string (bA t)) (some 21) rfl rfl rfl (by kernel_rfl) (fun _ _ _ h=>h) (Or.inl ⟨by rfl,fun u hu=>by obtain⟨b0,b1⟩:=hu;go_simp⟩) (uZ HS0) ?_
   try simp only [Act.put,sA,sB,sC]
   refine tK 2 (v:=.pointer (some ⟨c.g,0,none⟩)) (some 22) rfl rfl rfl (by kernel_rfl) (fun _ _ _ h=>h) (Or.inl ⟨by rfl,fun u hu=>by obtain⟨b0,b1⟩:=hu;go_simp⟩) (uZ HS0) ?_
   try simp only [Act.put,sA,sB,sC]
   refine tK 5 (v:=.pointer (some ⟨Q,3,none⟩)) (some 25) rfl rfl rfl (by kernel_rfl) (fun _ _ _ h=>h) (Or.inl ⟨by rfl,fun u hu=>by obtain⟨b0,b1⟩:=hu;go_simp⟩) (uZ HS0) ?_
   try simp only [Act.put,sA,sB,sC]
   refine tK 6 (v:=.int .i64 (p:Int)) (some 26) rfl rfl rfl (by kernel_rfl) (fun _ _ _ h=>h) (Or.inl ⟨by rfl,fun u hu=>by obtain⟨b0,b1⟩:=hu;go_simp⟩) (uZ HS0) ?_
   try simp only [Act.put,sA,sB,sC]
   obtain⟨yx,hy,hth⟩:=bnd_some (uZ HJ3)
   have HJ4:=hZ (hth)
   clear HJ3
   clear hth
   have CR0:=hZ (fun (u:World) (hu:Rd u c l.tail (d+1))=>ihu hy hu)
   clear hy
   rcases yx with ⟨ea,ep⟩|⟨nsx,lx⟩
   ·have HR:=hZ (thn_err (uZ HJ4))
    refine till_two 3 8 (by kernel_rfl) rfl rfl (fun K hK=>?_) (fun K hK=>?_)
    ·have CR:=hZ (uZ CR0 w6 (uZ S6).rd)
     go_simp
     refine(uZ CR).mono ?_
     rintro e wx ⟨rfl,b⟩
     have HX:=hZ ((uZ S6).bad b)
     clear b CR
     unfold fltP
     go_wp2_with fail
     exact⟨rfl,by rw [uZ HR];exact⟨rfl,uZ HX⟩⟩
    ·go_simp
     obtain⟨w7,hw⟩:=eX (w6.alloc (.cells #[.int .i64 0,.string ⟨#[]⟩,.int .i64 0,.int .i64 0,.string ⟨#[]⟩,.slice none 0 0,.slice none 0 0,.bool false,.slice none 0 0,.int .i64 0] 28))
     have b:=alB hw
     obtain⟨P,hQ⟩:=eX (w6.heap.size)
     have HBP_7:Hid (w7.heap[P]?=some (.cells #[.int .i64 0,.string ⟨#[]⟩,.int .i64 0,.int .i64 0,.string ⟨#[]⟩,.slice none 0 0,.slice none 0 0,.bool false,.slice none 0 0,.int .i64 0] 28 (0,0))):=hZ (by rw [←hw,←hQ];exact heap_alloc_new _ _)
     have S7:=hZ ((uZ S6).below b)
     have HBQ_7:=bx_be HBQ_6 b
     have ltP:w.heap.size<P:=by rw [←hQ];exact(uZ S6).lt
     have lQ_P:Q<P:=by rw [←hQ];exact(Array.getElem?_eq_some_iff.1 (uZ HBQ_6)).1
     rw [hw]
     try rw [hQ]
     clear hw hQ b HS0 S6 HBQ_6
     have HS0:Hid (w7.cell? ⟨Q,1,none⟩=some (.string (bA t))∧w7.cell? ⟨Q,3,none⟩=some (.int .i64 (p:Int))):=hZ (by obtain⟨c0,c1,c2,c3⟩:=row_cell4 (uZ HBQ_7);exact⟨c1,c3⟩)
     refine hK.out _ _ (Or.inr (uZ HS0)) ?_
     clear hK K
     try simp only [Act.put,sA,sB,sC]
     refine till_one 3 (by kernel_rfl) rfl (fun K hK=>?_)
     have CR:=hZ (uZ CR0 w7 (uZ S7).rd)
     go_simp
     refine(uZ CR).mono ?_
     rintro e wx ⟨rfl,b⟩
     have HX:=hZ ((uZ S7).bad b)
     clear b CR
     unfold fltP
     go_wp2_with fail
     exact⟨rfl,by rw [uZ HR];exact⟨rfl,uZ HX⟩⟩
   ·have HJ5:=hZ (thn_ok (uZ HJ4))
    clear HJ4
    refine till_two 3 8 (by kernel_rfl) rfl rfl (fun K hK=>?_) (fun K hK=>?_)
    ·have CR:=hZ (uZ CR0 w6 (uZ S6).rd)
     clear CR0
     go_simp
     refine(uZ CR).mono ?_
     rintro e w7 ⟨kx,tx,vkx,vnx,vsx,fx,nx,akx,ckx,px,Zx,rfl,hlx,hn,r2,b⟩
     have S7:=hZ ((uZ S6).go b r2)
     have HBQ_7:=bx_go HBQ_6 b (by omega)
     obtain⟨lox,hlo⟩:=eX (w6.heap.size)
     have ltlox:w.heap.size<lox:=by rw [←hlo];exact(uZ S6).lt
     have lqQ_x:Q<lox:=by rw [←hlo];exact(Array.getElem?_eq_some_iff.1 (uZ HBQ_6)).1
     rw [hlo] at hn
     have HNx_7:=hZ hn
     clear hlo b r2 hn CR S6 HBQ_6
     clear HS0
     have HS0:Hid (w7.cell? ⟨Q,1,none⟩=some (.string (bA t))∧w7.cell? ⟨Q,3,none⟩=some (.int .i64 (p:Int))):=hZ (by obtain⟨c0,c1,c2,c3⟩:=row_cell4 (uZ HBQ_7);exact⟨c1,c3⟩)
     go_wp2_with fail
     refine hK.out _ _ (Or.inr (uZ HS0)) ?_
     clear hK K
     try simp only [Act.put,sA,sB,sC]
     refine till_two 4 8 (by kernel_rfl) rfl rfl (fun K hK=>?_) (fun K hK=>?_)
     ·have hkn:=hZ (uZ HNx_7)
      obtain⟨w8,hwr⟩:=eX (w7.alloc (.cells #[.int .i64 (kx:Int),.string (bA tx),.int .i64 (vkx:Int),.int .i64 (vnx:Int),.string (bA vsx),.slice none 0 0,.slice none 0 0,.bool fx,.slice akx nx ckx,.int .i64 (px:Int)] 28))
      have b:=alB hwr
      obtain⟨qr,hqr⟩:=eX (w7.heap.size)
      have HKr_8:Hid (Kr lox w8 _ (.slice (some ⟨qr,0,none⟩) _ _) [.int .i64 (kx:Int),.string (bA tx),.int .i64 (vkx:Int),.int .i64 (vnx:Int),.string (bA vsx),.slice none 0 0,.slice none 0 0,.bool fx,.slice akx nx ckx,.int .i64 (px:Int)] _):=hZ (by rw [←hwr,←hqr];exact Kr.mk' (uZ hkn) (by rw [hlx];decide))
      rw [hlx] at HKr_8
      have ltr:w.heap.size<qr:=by rw [←hqr];exact(uZ S7).lt
      have S8:=hZ ((uZ S7).below b)
      have HBQ_8:=bx_be HBQ_7 b
      clear b hkn S7 HBQ_7 HNx_7
      go_simp
      try rw [hwr]
      try rw [hqr]
      clear HS0
      have HS0:Hid (w8.cell? ⟨Q,1,none⟩=some (.string (bA t))∧w8.cell? ⟨Q,3,none⟩=some (.int .i64 (p:Int))):=hZ (by obtain⟨c0,c1,c2,c3⟩:=row_cell4 (uZ HBQ_8);exact⟨c1,c3⟩)
      refine hK.out _ _ (Or.inr (uZ HS0)) ?_
      clear hK K hwr hqr
      try simp only [Act.put,sA,sB,sC]
      refine tK 7 (v:=.agg #[.int .i64 16,.string (bA t),.int .i64 0,.int .i64 0,.string ⟨#[]⟩,.slice none 0 0,.slice none 0 0,.bool false,.slice (some ⟨qr,0,none⟩) 1 1,.int .i64 (p:Int)]) (some 27) rfl rfl rfl (by kernel_rfl) (fun _ _ _ h=>h) (Or.inl ⟨by rfl,fun u hu=>by obtain⟨b0,b1⟩:=hu;go_simp⟩) (uZ HS0) ?_
      try simp only [Act.put,sA,sB,sC]
      refine till_one 8 (by kernel_rfl) rfl (fun K hK=>?_)
      go_simp
      obtain⟨w9,hw⟩:=eX (w8.alloc (.cells #[.int .i64 0,.string ⟨#[]⟩,.int .i64 0,.int .i64 0,.string ⟨#[]⟩,.slice none 0 0,.slice none 0 0,.bool false,.slice none 0 0,.int .i64 0] 28))
      have b:=alB hw
      obtain⟨P,hQ⟩:=eX (w8.heap.size)
      have HBP_9:Hid (w9.heap[P]?=some (.cells #[.int .i64 0,.string ⟨#[]⟩,.int .i64 0,.int .i64 0,.string ⟨#[]⟩,.slice none 0 0,.slice none 0 0,.bool false,.slice none 0 0,.int .i64 0] 28 (0,0))):=hZ (by rw [←hw,←hQ];exact heap_alloc_new _ _)
      have S9:=hZ ((uZ S8).below b)
      have HBQ_9:=bx_be HBQ_8 b
      have HKr_9:=hZ ((uZ HKr_8).beside (Beside.of_below (gr:=c.g) b) (by omega))
      have ltP:w.heap.size<P:=by rw [←hQ];exact(uZ S8).lt
      have lQ_P:Q<P:=by rw [←hQ];exact(Array.getElem?_eq_some_iff.1 (uZ HBQ_8)).1
      have APr_P:=hZ ((uZ HKr_8).fresh hQ)
      rw [hw]
      try rw [hQ]
      clear hw hQ b HS0 S8 HBQ_8 HKr_8
      have HS0:Hid (w9.cell? ⟨Q,1,none⟩=some (.string (bA t))∧w9.cell? ⟨Q,3,none⟩=some (.int .i64 (p:Int))):=hZ (by obtain⟨c0,c1,c2,c3⟩:=row_cell4 (uZ HBQ_9);exact⟨c1,c3⟩)
      refine hK.out _ _ (Or.inr (uZ HS0)) ?_
      clear hK K
      try simp only [Act.put,sA,sB,sC]
      obtain⟨g0,g1,g2,g3,g4,g5,g6,g7,g8,g9⟩:=row_cell10 (uZ HBP_9)
      obtain⟨z0,z1,z2,z3,z4,z5,z6,z7,z8,z9⟩:=frozen10 (uZ HBP_9)
      refine till_one 9 (by kernel_rfl) rfl (fun K hK=>?_)
      go_simp
      refine hK.out _ _ (Or.inl (by first|rfl|trivial)) ?_
      clear hK K HS0 g0 z0 g1 z1 g2 z2 g3 z3 g4 z4 g5 z5 g6 z6 g7 z7 g8 z8 g9 z9
      try simp only [Act.put,sA,sB,sC]
      refine till_done (by kernel_rfl) ?_ _
      have O:=(uZ S9).own10 ltP (.int .i64 16) (.string (bA t)) (.int .i64 0) (.int .i64 0) (.string ⟨#[]⟩) (.slice none 0 0) (.slice none 0 0) (.bool false) (.slice (some ⟨qr,0,none⟩) 1 1) (.int .i64 (p:Int))
      have D:=set10 (uZ HBP_9) (.int .i64 16) (.string (bA t)) (.int .i64 0) (.int .i64 0) (.string ⟨#[]⟩) (.slice none 0 0) (.slice none 0 0) (.bool false) (.slice (some ⟨qr,0,none⟩) 1 1) (.int .i64 (p:Int))
      obtain⟨w10,hw⟩:=eX (((((((((((w9.setCell ⟨P,0,none⟩ (.int .i64 16)).setCell ⟨P,1,none⟩ (.string (bA t))).setCell ⟨P,2,none⟩ (.int .i64 0)).setCell ⟨P,3,none⟩ (.int .i64 0)).setCell ⟨P,4,none⟩ (.string ⟨#[]⟩)).setCell ⟨P,5,none⟩ (.slice none 0 0)).setCell ⟨P,6,none⟩ (.slice none 0 0)).setCell ⟨P,7,none⟩ (.bool false)).setCell ⟨P,8,none⟩ (.slice (some ⟨qr,0,none⟩) 1 1)).setCell ⟨P,9,none⟩ (.int .i64 (p:Int))))
      rw [hw] at O D
      have S10:=hZ O.1
      have HBP_10:=hZ D
      have HBQ_10:Hid (w10.heap[Q]?=some (.cells #[.int .i64 (k:Int),.string (bA t),.int .i64 (n:Int),.int .i64 (p:Int)] 85 (0,0))):=hZ ((O.2.1 Q (by omega)).trans (uZ HBQ_9))
      have HKr_10:=hZ ((uZ HKr_9).but2 (q:=P) (fun b _ hb=>O.2.1 b hb) (Nat.le_of_eq O.2.2.symm) (uZ APr_P).1 (uZ APr_P).2)
      rw [hw]
      clear hw O D S9 HBQ_9 HBP_9 HKr_9
      obtain⟨cg0,cg1,cg2,cf1,cf2,cgl⟩:=(uZ S10).rd.cells
      rw [show ((d+1:Nat):Int)=(d:Int)+1 by omega] at cg2
      have j1:IntKind.i64.wrap ((d:Int)+1 - 1)=(d:Int):=by rw [IntKind.wrap_i64];omega
      clear cg0 cg1
      go_upto_region 6 with fail
      obtain⟨w11,hw⟩:=eX (w10.setCell ⟨c.g,2,none⟩ (.int .i64 (d:Int)))
      have bb:Beside c.g w10 w11:=by rw [←hw];exact(Beside.refl _ _).set
      have rr:Rd w11 c lx d:=by rw [←hw];exact(uZ S10).rd.open d (by omega)
      have S11:=hZ ((uZ S10).go bb rr)
      have HBQ_11:=bx_go HBQ_10 bb (by omega)
      have HBP_11:=bx_go HBP_10 bb (by omega)
      have HKr_11:=hZ ((uZ HKr_10).beside bb (by omega))
      rw [hw]
      clear hw bb rr cg2 cf1 cf2 cgl j1 S10 HBQ_10 HBP_10 HKr_10
      have hr1:=okN_some (uZ HJ5)
      have hnn:=(uZ HKr_11).node' hlx 16 t 0 0 [] false p
      have HR:=hZ (hr1)
      have BX:=(uZ S11).bx
      rw [hG] at BX
      obtain⟨g0,g1,g2,g3,g4,g5,g6,g7,g8,g9⟩:=row_cell10 BX
      obtain⟨z0,z1,z2,z3,z4,z5,z6,z7,z8,z9⟩:=frozen10 BX
      clear BX
      obtain⟨Pc0,Pc1,Pc2,Pc3,Pc4,Pc5,Pc6,Pc7,Pc8,Pc9⟩:=row_cell10 (uZ HBP_11)
      have FF:=hZ (St.done (uZ S11) (hnn.low (by omega)) rfl hG)
      go_wp2_with fail
      refine rtN (p:=2) rfl rfl (uZ FF).1 rfl rfl ?_
      rw [uZ HR]
      exact(uZ FF).2
     ·go_simp
      obtain⟨w8,hw⟩:=eX (w7.alloc (.cells #[.int .i64 0,.string ⟨#[]⟩,.int .i64 0,.int .i64 0,.string ⟨#[]⟩,.slice none 0 0,.slice none 0 0,.bool false,.slice none 0 0,.int .i64 0] 28))
      have b:=alB hw
      obtain⟨P,hQ⟩:=eX (w7.heap.size)
      have HBP_8:Hid (w8.heap[P]?=some (.cells #[.int .i64 0,.string ⟨#[]⟩,.int .i64 0,.int .i64 0,.string ⟨#[]⟩,.slice none 0 0,.slice none 0 0,.bool false,.slice none 0 0,.int .i64 0] 28 (0,0))):=hZ (by rw [←hw,←hQ];exact heap_alloc_new _ _)
      have S8:=hZ ((uZ S7).below b)
      have HBQ_8:=bx_be HBQ_7 b
      have HNx_8:=hZ ((uZ HNx_7).beside (Beside.of_below (gr:=c.g) b) (by omega))
      have ltP:w.heap.size<P:=by rw [←hQ];exact(uZ S7).lt
      have lQ_P:Q<P:=by rw [←hQ];exact(Array.getElem?_eq_some_iff.1 (uZ HBQ_7)).1
      have ANx_P:=hZ ((uZ HNx_7).fresh hQ)
      rw [hw]
      try rw [hQ]
      clear hw hQ b HS0 S7 HBQ_7 HNx_7
      have HS0:Hid (w8.cell? ⟨Q,1,none⟩=some (.string (bA t))∧w8.cell? ⟨Q,3,none⟩=some (.int .i64 (p:Int))):=hZ (by obtain⟨c0,c1,c2,c3⟩:=row_cell4 (uZ HBQ_8);exact⟨c1,c3⟩)
      refine hK.out _ _ (Or.inr (uZ HS0)) ?_
      clear hK K
      try simp only [Act.put,sA,sB,sC]
      refine till_one 4 (by kernel_rfl) rfl (fun K hK=>?_)
      have lt3:P<w8.heap.size:=(Array.getElem?_eq_some_iff.1 (uZ HBP_8)).1
      have hkn:=hZ (uZ HNx_8)
      obtain⟨w9,hwr⟩:=eX (w8.alloc (.cells #[.int .i64 (kx:Int),.string (bA tx),.int .i64 (vkx:Int),.int .i64 (vnx:Int),.string (bA vsx),.slice none 0 0,.slice none 0 0,.bool fx,.slice akx nx ckx,.int .i64 (px:Int)] 28))
      have b:=alB hwr
      obtain⟨qr,hqr⟩:=eX (w8.heap.size)
      have HKr_9:Hid (Kr lox w9 _ (.slice (some ⟨qr,0,none⟩) _ _) [.int .i64 (kx:Int),.string (bA tx),.int .i64 (vkx:Int),.int .i64 (vnx:Int),.string (bA vsx),.slice none 0 0,.slice none 0 0,.bool fx,.slice akx nx ckx,.int .i64 (px:Int)] _):=hZ (by rw [←hwr,←hqr];exact Kr.mk' (uZ hkn) (by rw [hlx];decide))
      rw [hlx] at HKr_9
      have ltr:w.heap.size<qr:=by rw [←hqr];exact(uZ S8).lt
      have S9:=hZ ((uZ S8).below b)
      have HBQ_9:=bx_be HBQ_8 b
      have HBP_9:=bx_be HBP_8 b
      clear b hkn S8 HBQ_8 HBP_8 HNx_8
      have APr_P:=hZ (And.intro (uZ ANx_P) (own_ne (n:=1) (m:=1) (show P<qr by omega)))
      go_simp
      try rw [hwr]
      try rw [hqr]
      clear HS0
      have HS0:Hid (w9.cell? ⟨Q,1,none⟩=some (.string (bA t))∧w9.cell? ⟨Q,3,none⟩=some (.int .i64 (p:Int))):=hZ (by obtain⟨c0,c1,c2,c3⟩:=row_cell4 (uZ HBQ_9);exact⟨c1,c3⟩)
      refine hK.out _ _ (Or.inr (uZ HS0)) ?_
      clear hK K hwr hqr
      try simp only [Act.put,sA,sB,sC]
      refine tK 7 (v:=.agg #[.int .i64 16,.string (bA t),.int .i64 0,.int .i64 0,.string ⟨#[]⟩,.slice none 0 0,.slice none 0 0,.bool false,.slice (some ⟨qr,0,none⟩) 1 1,.int .i64 (p:Int)]) (some 27) rfl rfl rfl (by kernel_rfl) (fun _ _ _ h=>h) (Or.inl ⟨by rfl,fun u hu=>by obtain⟨b0,b1⟩:=hu;go_simp⟩) (uZ HS0) ?_
      try simp only [Act.put,sA,sB,sC]
      obtain⟨g0,g1,g2,g3,g4,g5,g6,g7,g8,g9⟩:=row_cell10 (uZ HBP_9)
      obtain⟨z0,z1,z2,z3,z4,z5,z6,z7,z8,z9⟩:=frozen10 (uZ HBP_9)
      refine till_one 9 (by kernel_rfl) rfl (fun K hK=>?_)
      go_simp
      refine hK.out _ _ (Or.inl (by first|rfl|trivial)) ?_
      clear hK K HS0 g0 z0 g1 z1 g2 z2 g3 z3 g4 z4 g5 z5 g6 z6 g7 z7 g8 z8 g9 z9
      try simp only [Act.put,sA,sB,sC]
      refine till_done (by kernel_rfl) ?_ _
      have O:=(uZ S9).own10 ltP (.int .i64 16) (.string (bA t)) (.int .i64 0) (.int .i64 0) (.string ⟨#[]⟩) (.slice none 0 0) (.slice none 0 0) (.bool false) (.slice (some ⟨qr,0,none⟩) 1 1) (.int .i64 (p:Int))
      have D:=set10 (uZ HBP_9) (.int .i64 16) (.string (bA t)) (.int .i64 0) (.int .i64 0) (.string ⟨#[]⟩) (.slice none 0 0) (.slice none 0 0) (.bool false) (.slice (some ⟨qr,0,none⟩) 1 1) (.int .i64 (p:Int))
      obtain⟨w10,hw⟩:=eX (((((((((((w9.setCell ⟨P,0,none⟩ (.int .i64 16)).setCell ⟨P,1,none⟩ (.string (bA t))).setCell ⟨P,2,none⟩ (.int .i64 0)).setCell ⟨P,3,none⟩ (.int .i64 0)).setCell ⟨P,4,none⟩ (.string ⟨#[]⟩)).setCell ⟨P,5,none⟩ (.slice none 0 0)).setCell ⟨P,6,none⟩ (.slice none 0 0)).setCell ⟨P,7,none⟩ (.bool false)).setCell ⟨P,8,none⟩ (.slice (some ⟨qr,0,none⟩) 1 1)).setCell ⟨P,9,none⟩ (.int .i64 (p:Int))))
      rw [hw] at O D
      have S10:=hZ O.1
      have HBP_10:=hZ D
      have HBQ_10:Hid (w10.heap[Q]?=some (.cells #[.int .i64 (k:Int),.string (bA t),.int .i64 (n:Int),.int .i64 (p:Int)] 85 (0,0))):=hZ ((O.2.1 Q (by omega)).trans (uZ HBQ_9))
      have HKr_10:=hZ ((uZ HKr_9).but2 (q:=P) (fun b _ hb=>O.2.1 b hb) (Nat.le_of_eq O.2.2.symm) (uZ APr_P).1 (uZ APr_P).2)
      rw [hw]
      clear hw O D S9 HBQ_9 HBP_9 HKr_9
      obtain⟨cg0,cg1,cg2,cf1,cf2,cgl⟩:=(uZ S10).rd.cells
      rw [show ((d+1:Nat):Int)=(d:Int)+1 by omega] at cg2
      have j1:IntKind.i64.wrap ((d:Int)+1 - 1)=(d:Int):=by rw [IntKind.wrap_i64];omega
      clear cg0 cg1
      go_upto_region 6 with fail
      obtain⟨w11,hw⟩:=eX (w10.setCell ⟨c.g,2,none⟩ (.int .i64 (d:Int)))
      have bb:Beside c.g w10 w11:=by rw [←hw];exact(Beside.refl _ _).set
      have rr:Rd w11 c lx d:=by rw [←hw];exact(uZ S10).rd.open d (by omega)
      have S11:=hZ ((uZ S10).go bb rr)
      have HBQ_11:=bx_go HBQ_10 bb (by omega)
      have HBP_11:=bx_go HBP_10 bb (by omega)
      have HKr_11:=hZ ((uZ HKr_10).beside bb (by omega))
      rw [hw]
      clear hw bb rr cg2 cf1 cf2 cgl j1 S10 HBQ_10 HBP_10 HKr_10
      have hr1:=okN_some (uZ HJ5)
      have hnn:=(uZ HKr_11).node' hlx 16 t 0 0 [] false p
      have HR:=hZ (hr1)
      have BX:=(uZ S11).bx
      rw [hG] at BX
      obtain⟨g0,g1,g2,g3,g4,g5,g6,g7,g8,g9⟩:=row_cell10 BX
      obtain⟨z0,z1,z2,z3,z4,z5,z6,z7,z8,z9⟩:=frozen10 BX
      clear BX
      obtain⟨Pc0,Pc1,Pc2,Pc3,Pc4,Pc5,Pc6,Pc7,Pc8,Pc9⟩:=row_cell10 (uZ HBP_11)
      have FF:=hZ (St.done (uZ S11) (hnn.low (by omega)) rfl hG)
      go_wp2_with fail
      refine rtN (p:=2) rfl rfl (uZ FF).1 rfl rfl ?_
      rw [uZ HR]
      exact(uZ FF).2
    ·go_simp
     obtain⟨w7,hw⟩:=eX (w6.alloc (.cells #[.int .i64 0,.string ⟨#[]⟩,.int .i64 0,.int .i64 0,.string ⟨#[]⟩,.slice none 0 0,.slice none 0 0,.bool false,.slice none 0 0,.int .i64 0] 28))
     have b:=alB hw
     obtain⟨P,hQ⟩:=eX (w6.heap.size)
     have HBP_7:Hid (w7.heap[P]?=some (.cells #[.int .i64 0,.string ⟨#[]⟩,.int .i64 0,.int .i64 0,.string ⟨#[]⟩,.slice none 0 0,.slice none 0 0,.bool false,.slice none 0 0,.int .i64 0] 28 (0,0))):=hZ (by rw [←hw,←hQ];exact heap_alloc_new _ _)
     have S7:=hZ ((uZ S6).below b)
     have HBQ_7:=bx_be HBQ_6 b
     have ltP:w.heap.size<P:=by rw [←hQ];exact(uZ S6).lt
     have lQ_P:Q<P:=by rw [←hQ];exact(Array.getElem?_eq_some_iff.1 (uZ HBQ_6)).1
     rw [hw]
     try rw [hQ]
     clear hw hQ b HS0 S6 HBQ_6
     have HS0:Hid (w7.cell? ⟨Q,1,none⟩=some (.string (bA t))∧w7.cell? ⟨Q,3,none⟩=some (.int .i64 (p:Int))):=hZ (by obtain⟨c0,c1,c2,c3⟩:=row_cell4 (uZ HBQ_7);exact⟨c1,c3⟩)
     refine hK.out _ _ (Or.inr (uZ HS0)) ?_
     clear hK K
     try simp only [Act.put,sA,sB,sC]
     refine till_one 3 (by kernel_rfl) rfl (fun K hK=>?_)
     have CR:=hZ (uZ CR0 w7 (uZ S7).rd)
     clear CR0
     go_simp
     refine(uZ CR).mono ?_
     rintro e w8 ⟨kx,tx,vkx,vnx,vsx,fx,nx,akx,ckx,px,Zx,rfl,hlx,hn,r2,b⟩
     have S8:=hZ ((uZ S7).go b r2)
     have HBQ_8:=bx_go HBQ_7 b (by omega)
     have HBP_8:=bx_go HBP_7 b (by omega)
     obtain⟨lox,hlo⟩:=eX (w7.heap.size)
     have ltlox:w.heap.size<lox:=by rw [←hlo];exact(uZ S7).lt
     have lqQ_x:Q<lox:=by rw [←hlo];exact(Array.getElem?_eq_some_iff.1 (uZ HBQ_7)).1
     have lqP_x:P<lox:=by rw [←hlo];exact(Array.getElem?_eq_some_iff.1 (uZ HBP_7)).1
     rw [hlo] at hn
     have HNx_8:=hZ hn
     clear hlo b r2 hn CR S7 HBQ_7 HBP_7
     clear HS0
     have HS0:Hid (w8.cell? ⟨Q,1,none⟩=some (.string (bA t))∧w8.cell? ⟨Q,3,none⟩=some (.int .i64 (p:Int))):=hZ (by obtain⟨c0,c1,c2,c3⟩:=row_cell4 (uZ HBQ_8);exact⟨c1,c3⟩)
     go_wp2_with fail
     refine hK.out _ _ (Or.inr (uZ HS0)) ?_
     clear hK K
     try simp only [Act.put,sA,sB,sC]
     refine till_one 4 (by kernel_rfl) rfl (fun K hK=>?_)
     have hkn:=hZ (uZ HNx_8)
     obtain⟨w9,hwr⟩:=eX (w8.alloc (.cells #[.int .i64 (kx:Int),.string (bA tx),.int .i64 (vkx:Int),.int .i64 (vnx:Int),.string (bA vsx),.slice none 0 0,.slice none 0 0,.bool fx,.slice akx nx ckx,.int .i64 (px:Int)] 28))
     have b:=alB hwr
     obtain⟨qr,hqr⟩:=eX (w8.heap.size)
     have HKr_9:Hid (Kr lox w9 _ (.slice (some ⟨qr,0,none⟩) _ _) [.int .i64 (kx:Int),.string (bA tx),.int .i64 (vkx:Int),.int .i64 (vnx:Int),.string (bA vsx),.slice none 0 0,.slice none 0 0,.bool fx,.slice akx nx ckx,.int .i64 (px:Int)] _):=hZ (by rw [←hwr,←hqr];exact Kr.mk' (uZ hkn) (by rw [hlx];decide))
     rw [hlx] at HKr_9
     have ltr:w.heap.size<qr:=by rw [←hqr];exact(uZ S8).lt
     have S9:=hZ ((uZ S8).below b)
     have HBQ_9:=bx_be HBQ_8 b
     have HBP_9:=bx_be HBP_8 b
     clear b hkn S8 HBQ_8 HBP_8 HNx_8
     go_simp
     try rw [hwr]
     try rw [hqr]
     clear HS0
     have HS0:Hid (w9.cell? ⟨Q,1,none⟩=some (.string (bA t))∧w9.cell? ⟨Q,3,none⟩=some (.int .i64 (p:Int))):=hZ (by obtain⟨c0,c1,c2,c3⟩:=row_cell4 (uZ HBQ_9);exact⟨c1,c3⟩)
     refine hK.out _ _ (Or.inr (uZ HS0)) ?_
     clear hK K hwr hqr
     try simp only [Act.put,sA,sB,sC]
     refine tK 7 (v:=.agg #[.int .i64 16,.string (bA t),.int .i64 0,.int .i64 0,.string ⟨#[]⟩,.slice none 0 0,.slice none 0 0,.bool false,.slice (some ⟨qr,0,none⟩) 1 1,.int .i64 (p:Int)]) (some 27) rfl rfl rfl (by kernel_rfl) (fun _ _ _ h=>h) (Or.inl ⟨by rfl,fun u hu=>by obtain⟨b0,b1⟩:=hu;go_simp⟩) (uZ HS0) ?_
     try simp only [Act.put,sA,sB,sC]
     obtain⟨g0,g1,g2,g3,g4,g5,g6,g7,g8,g9⟩:=row_cell10 (uZ HBP_9)
     obtain⟨z0,z1,z2,z3,z4,z5,z6,z7,z8,z9⟩:=frozen10 (uZ HBP_9)
     refine till_one 9 (by kernel_rfl) rfl (fun K hK=>?_)
     go_simp
     refine hK.out _ _ (Or.inl (by first|rfl|trivial)) ?_
     clear hK K HS0 g0 z0 g1 z1 g2 z2 g3 z3 g4 z4 g5 z5 g6 z6 g7 z7 g8 z8 g9 z9
     try simp only [Act.put,sA,sB,sC]
     refine till_done (by kernel_rfl) ?_ _
     have O:=(uZ S9).own10 ltP (.int .i64 16) (.string (bA t)) (.int .i64 0) (.int .i64 0) (.string ⟨#[]⟩) (.slice none 0 0) (.slice none 0 0) (.bool false) (.slice (some ⟨qr,0,none⟩) 1 1) (.int .i64 (p:Int))
     have D:=set10 (uZ HBP_9) (.int .i64 16) (.string (bA t)) (.int .i64 0) (.int .i64 0) (.string ⟨#[]⟩) (.slice none 0 0) (.slice none 0 0) (.bool false) (.slice (some ⟨qr,0,none⟩) 1 1) (.int .i64 (p:Int))
     obtain⟨w10,hw⟩:=eX (((((((((((w9.setCell ⟨P,0,none⟩ (.int .i64 16)).setCell ⟨P,1,none⟩ (.string (bA t))).setCell ⟨P,2,none⟩ (.int .i64 0)).setCell ⟨P,3,none⟩ (.int .i64 0)).setCell ⟨P,4,none⟩ (.string ⟨#[]⟩)).setCell ⟨P,5,none⟩ (.slice none 0 0)).setCell ⟨P,6,none⟩ (.slice none 0 0)).setCell ⟨P,7,none⟩ (.bool false)).setCell ⟨P,8,none⟩ (.slice (some ⟨qr,0,none⟩) 1 1)).setCell ⟨P,9,none⟩ (.int .i64 (p:Int))))
     rw [hw] at O D
     have S10:=hZ O.1
     have HBP_10:=hZ D
     have HBQ_10:Hid (w10.heap[Q]?=some (.cells #[.int .i64 (k:Int),.string (bA t),.int .i64 (n:Int),.int .i64 (p:Int)] 85 (0,0))):=hZ ((O.2.1 Q (by omega)).trans (uZ HBQ_9))
     have HKr_10:=hZ ((uZ HKr_9).but (q:=P) (fun b _ hb=>O.2.1 b hb) (Nat.le_of_eq O.2.2.symm) (by omega))
     rw [hw]
     clear hw O D S9 HBQ_9 HBP_9 HKr_9
     obtain⟨cg0,cg1,cg2,cf1,cf2,cgl⟩:=(uZ S10).rd.cells
     rw [show ((d+1:Nat):Int)=(d:Int)+1 by omega] at cg2
     have j1:IntKind.i64.wrap ((d:Int)+1 - 1)=(d:Int):=by rw [IntKind.wrap_i64];omega
     clear cg0 cg1
     go_upto_region 6 with fail
     obtain⟨w11,hw⟩:=eX (w10.setCell ⟨c.g,2,none⟩ (.int .i64 (d:Int)))
     have bb:Beside c.g w10 w11:=by rw [←hw];exact(Beside.refl _ _).set
     have rr:Rd w11 c lx d:=by rw [←hw];exact(uZ S10).rd.open d (by omega)
     have S11:=hZ ((uZ S10).go bb rr)
     have HBQ_11:=bx_go HBQ_10 bb (by omega)
     have HBP_11:=bx_go HBP_10 bb (by omega)
     have HKr_11:=hZ ((uZ HKr_10).beside bb (by omega))
     rw [hw]
     clear hw bb rr cg2 cf1 cf2 cgl j1 S10 HBQ_10 HBP_10 HKr_10
     have hr1:=okN_some (uZ HJ5)
     have hnn:=(uZ HKr_11).node' hlx 16 t 0 0 [] false p
     have HR:=hZ (hr1)
     have BX:=(uZ S11).bx
     rw [hG] at BX
     obtain⟨g0,g1,g2,g3,g4,g5,g6,g7,g8,g9⟩:=row_cell10 BX
     obtain⟨z0,z1,z2,z3,z4,z5,z6,z7,z8,z9⟩:=frozen10 BX
     clear BX
     obtain⟨Pc0,Pc1,Pc2,Pc3,Pc4,Pc5,Pc6,Pc7,Pc8,Pc9⟩:=row_cell10 (uZ HBP_11)
     have FF:=hZ (St.done (uZ S11) (hnn.low (by omega)) rfl hG)
     go_wp2_with fail
     refine rtN (p:=2) rfl rfl (uZ FF).1 rfl rfl ?_
     rw [uZ HR]
     exact(uZ FF).2
  ·have hdd:d=24:=by omega
   have CC:=hZ (ent_deep (uZ S3).rd t hst hdd)
   have HR:=hZ (thn_end hst hdd (uZ HJ2))
   go_wp2_with (first|(refine wpl_tk1 rfl _ rfl _ _ _ _ rfl ?_))
   refine(uZ CC).mono ?_
   rintro e wx ⟨rfl,b⟩
   have HX:=hZ ((uZ S3).bad b)
   clear b CC
   unfold fltP
   go_wp2_with fail
   exact⟨rfl,by rw [uZ HR];exact⟨rfl,uZ HX⟩⟩
 ·have hq:isS [45] l=false:=by simpa using hb
  have CC:=hZ ((by have:=seesSign_any (uZ S1).rd [45];rw [hq] at this;exact this))
  go_wp2_with fail
  refine(uZ CC).mono ?_
  rintro e w2 ⟨rfl,b⟩
  have S2:=hZ ((uZ S1).below b)
  clear b CC S1
  have hq0:=hZ hq
  clear hq hb
  by_cases hb:isS [33] l=true
  ·have hq:isS [33] l=true:=by simpa using hb
   have CC:=hZ ((by have:=seesSign_any (uZ S2).rd [33];rw [hq] at this;exact this))
   go_wp2_with fail
   refine(uZ CC).mono ?_
   rintro e w3 ⟨rfl,b⟩
   have S3:=hZ ((uZ S2).below b)
   clear b CC S2
   have hor:isS [45] l=true∨isS [33] l=true:=Or.inr hq
   have hst0:isS t l=true:=by have h2:=(isT_k hq).2;rw [uZ HT] at h2;have h3:t=[33]:=h2;rw [h3];exact hq
   have HJ2:=hZ ((by have:=(uZ HJ1);rw [if_pos hor] at this;exact this))
   clear HJ1
   have CC:=hZ ((by have:=token_any (uZ S3).rd;rw [uZ HT] at this;simp only [tkA] at this;exact this))
   go_wp2_with fail
   refine(uZ CC).mono ?_
   rintro e w4 ⟨rfl,b⟩
   have S4:=hZ ((uZ S3).below b)
   clear b CC S3
   have hst:isS t l=true:=hst0
   have hlw:=(uZ S4).rd.low
   by_cases hd:d<24
   ·have HJ3:=hZ ((by have:=thn_en hst hd (uZ HJ2);rw [uZ HT] at this;exact this))
    clear HJ2
    have CC:=hZ ((by have:=ent_ok (uZ S4).rd t hst hd;rw [uZ HT] at this;simp only [tkA] at this;exact this))
    go_wp2_with (first|(refine wpl_tk1 rfl _ rfl _ _ _ _ rfl ?_))
    refine(uZ CC).mono ?_
    rintro e w5 ⟨rfl,r2,b⟩
    have S5:=hZ ((uZ S4).go b r2)
    clear b r2 CC S4
    go_upto_region 4 with fail
    obtain⟨w6,hw⟩:=eX (w5.alloc (.cells #[.int .i64 (k:Int),.string (bA t),.int .i64 (n:Int),.int .i64 (p:Int)] 85))
    have b:=alB hw
    obtain⟨Q,hQ⟩:=eX (w5.heap.size)
    have HBQ_6:Hid (w6.heap[Q]?=some (.cells #[.int .i64 (k:Int),.string (bA t),.int .i64 (n:Int),.int .i64 (p:Int)] 85 (0,0))):=hZ (by rw [←hw,←hQ];exact heap_alloc_new _ _)
    have S6:=hZ ((uZ S5).below b)
    have ltQ:w.heap.size<Q:=by rw [←hQ];exact(uZ S5).lt
    rw [hw]
    try rw [hQ]
    clear hw hQ b S5
    go_upto_region 4 with fail
    obtain⟨-,Qc1,-,Qc3⟩:=row_cell4 (uZ HBQ_6)
    have HS0:Hid (w6.drew.cell? ⟨Q,1,none⟩=some (.string (bA t))∧w6.drew.cell? ⟨Q,3,none⟩=some (.int .i64 (p:Int))):=hZ (⟨Qc1,Qc3⟩)
    refine till_begin (S:=fun w'=>w'.cell? ⟨Q,1,none⟩=some (.string (bA t))∧w'.cell? ⟨Q,3,none⟩=some (.int .i64 (p:Int))) 9 (by kernel_rfl) ?_
    obtain⟨w7,hWD⟩:=eX (w6.drew)
    have bD:Below w6.heap.size w6 w7:=by rw [←hWD];exact(Below.refl _ _).drew
    rw [hWD] at HS0
    rw [hWD]
    have S7:=hZ ((uZ S6).below bD)
    have HBQ_7:=bx_be HBQ_6 bD
    clear hWD bD S6 HBQ_6
    clear Qc1 Qc3
    refine tK 0 (v:=.pointer (some ⟨Q,1,none⟩)) (some 20) rfl rfl rfl (by kernel_rfl) (fun _ _ _ h=>h) (Or.inl ⟨by rfl,fun u hu=>by obtain⟨b0,b1⟩:=hu;go_simp⟩) (uZ HS0) ?_
    try simp only [Act.put,sA,sB,sC]
    refine tK 1 (v:=.string (bA t)) (some 21) rfl rfl rfl (by kernel_rfl) (fun _ _ _ h=>h) (Or.inl ⟨by rfl,fun u hu=>by obtain⟨b0,b1⟩:=hu;go_simp⟩) (uZ HS0) ?_
    try simp only [Act.put,sA,sB,sC]
    refine tK 2 (v:=.pointer (some ⟨c.g,0,none⟩)) (some 22) rfl rfl rfl (by kernel_rfl) (fun _ _ _ h=>h) (Or.inl ⟨by rfl,fun u hu=>by obtain⟨b0,b1⟩:=hu;go_simp⟩) (uZ HS0) ?_
    try simp only [Act.put,sA,sB,sC]
    refine tK 5 (v:=.pointer (some ⟨Q,3,none⟩)) (some 25) rfl rfl rfl (by kernel_rfl) (fun _ _ _ h=>h) (Or.inl ⟨by rfl,fun u hu=>by obtain⟨b0,b1⟩:=hu;go_simp⟩) (uZ HS0) ?_
    try simp only [Act.put,sA,sB,sC]
    refine tK 6 (v:=.int .i64 (p:Int)) (some 26) rfl rfl rfl (by kernel_rfl) (fun _ _ _ h=>h) (Or.inl ⟨by rfl,fun u hu=>by obtain⟨b0,b1⟩:=hu;go_simp⟩) (uZ HS0) ?_
    try simp only [Act.put,sA,sB,sC]
    obtain⟨yx,hy,hth⟩:=bnd_some (uZ HJ3)
    have HJ4:=hZ (hth)
    clear HJ3
    clear hth
    have CR0:=hZ (fun (u:World) (hu:Rd u c l.tail (d+1))=>ihu hy hu)
    clear hy
    rcases yx with ⟨ea,ep⟩|⟨nsx,lx⟩
    ·have HR:=hZ (thn_err (uZ HJ4))
     refine till_two 3 8 (by kernel_rfl) rfl rfl (fun K hK=>?_) (fun K hK=>?_)
     ·have CR:=hZ (uZ CR0 w7 (uZ S7).rd)
      go_simp
      refine(uZ CR).mono ?_
      rintro e wx ⟨rfl,b⟩
      have HX:=hZ ((uZ S7).bad b)
      clear b CR
      unfold fltP
      go_wp2_with fail
      exact⟨rfl,by rw [uZ HR];exact⟨rfl,uZ HX⟩⟩
     ·go_simp
      obtain⟨w8,hw⟩:=eX (w7.alloc (.cells #[.int .i64 0,.string ⟨#[]⟩,.int .i64 0,.int .i64 0,.string ⟨#[]⟩,.slice none 0 0,.slice none 0 0,.bool false,.slice none 0 0,.int .i64 0] 28))
      have b:=alB hw
      obtain⟨P,hQ⟩:=eX (w7.heap.size)
      have HBP_8:Hid (w8.heap[P]?=some (.cells #[.int .i64 0,.string ⟨#[]⟩,.int .i64 0,.int .i64 0,.string ⟨#[]⟩,.slice none 0 0,.slice none 0 0,.bool false,.slice none 0 0,.int .i64 0] 28 (0,0))):=hZ (by rw [←hw,←hQ];exact heap_alloc_new _ _)
      have S8:=hZ ((uZ S7).below b)
      have HBQ_8:=bx_be HBQ_7 b
      have ltP:w.heap.size<P:=by rw [←hQ];exact(uZ S7).lt
      have lQ_P:Q<P:=by rw [←hQ];exact(Array.getElem?_eq_some_iff.1 (uZ HBQ_7)).1
      rw [hw]
      try rw [hQ]
      clear hw hQ b HS0 S7 HBQ_7
      have HS0:Hid (w8.cell? ⟨Q,1,none⟩=some (.string (bA t))∧w8.cell? ⟨Q,3,none⟩=some (.int .i64 (p:Int))):=hZ (by obtain⟨c0,c1,c2,c3⟩:=row_cell4 (uZ HBQ_8);exact⟨c1,c3⟩)
      refine hK.out _ _ (Or.inr (uZ HS0)) ?_
      clear hK K
      try simp only [Act.put,sA,sB,sC]
      refine till_one 3 (by kernel_rfl) rfl (fun K hK=>?_)
      have CR:=hZ (uZ CR0 w8 (uZ S8).rd)
      go_simp
      refine(uZ CR).mono ?_
      rintro e wx ⟨rfl,b⟩
      have HX:=hZ ((uZ S8).bad b)
      clear b CR
      unfold fltP
      go_wp2_with fail
      exact⟨rfl,by rw [uZ HR];exact⟨rfl,uZ HX⟩⟩
    ·have HJ5:=hZ (thn_ok (uZ HJ4))
     clear HJ4
     refine till_two 3 8 (by kernel_rfl) rfl rfl (fun K hK=>?_) (fun K hK=>?_)
     ·have CR:=hZ (uZ CR0 w7 (uZ S7).rd)
      clear CR0
      go_simp
      refine(uZ CR).mono ?_
      rintro e w8 ⟨kx,tx,vkx,vnx,vsx,fx,nx,akx,ckx,px,Zx,rfl,hlx,hn,r2,b⟩
      have S8:=hZ ((uZ S7).go b r2)
      have HBQ_8:=bx_go HBQ_7 b (by omega)
      obtain⟨lox,hlo⟩:=eX (w7.heap.size)
      have ltlox:w.heap.size<lox:=by rw [←hlo];exact(uZ S7).lt
      have lqQ_x:Q<lox:=by rw [←hlo];exact(Array.getElem?_eq_some_iff.1 (uZ HBQ_7)).1
      rw [hlo] at hn
      have HNx_8:=hZ hn
      clear hlo b r2 hn CR S7 HBQ_7
      clear HS0
      have HS0:Hid (w8.cell? ⟨Q,1,none⟩=some (.string (bA t))∧w8.cell? ⟨Q,3,none⟩=some (.int .i64 (p:Int))):=hZ (by obtain⟨c0,c1,c2,c3⟩:=row_cell4 (uZ HBQ_8);exact⟨c1,c3⟩)
      go_wp2_with fail
      refine hK.out _ _ (Or.inr (uZ HS0)) ?_
      clear hK K
      try simp only [Act.put,sA,sB,sC]
      refine till_two 4 8 (by kernel_rfl) rfl rfl (fun K hK=>?_) (fun K hK=>?_)
      ·have hkn:=hZ (uZ HNx_8)
       obtain⟨w9,hwr⟩:=eX (w8.alloc (.cells #[.int .i64 (kx:Int),.string (bA tx),.int .i64 (vkx:Int),.int .i64 (vnx:Int),.string (bA vsx),.slice none 0 0,.slice none 0 0,.bool fx,.slice akx nx ckx,.int .i64 (px:Int)] 28))
       have b:=alB hwr
       obtain⟨qr,hqr⟩:=eX (w8.heap.size)
       have HKr_9:Hid (Kr lox w9 _ (.slice (some ⟨qr,0,none⟩) _ _) [.int .i64 (kx:Int),.string (bA tx),.int .i64 (vkx:Int),.int .i64 (vnx:Int),.string (bA vsx),.slice none 0 0,.slice none 0 0,.bool fx,.slice akx nx ckx,.int .i64 (px:Int)] _):=hZ (by rw [←hwr,←hqr];exact Kr.mk' (uZ hkn) (by rw [hlx];decide))
       rw [hlx] at HKr_9
       have ltr:w.heap.size<qr:=by rw [←hqr];exact(uZ S8).lt
       have S9:=hZ ((uZ S8).below b)
       have HBQ_9:=bx_be HBQ_8 b
       clear b hkn S8 HBQ_8 HNx_8
       go_simp
       try rw [hwr]
       try rw [hqr]
       clear HS0
       have HS0:Hid (w9.cell? ⟨Q,1,none⟩=some (.string (bA t))∧w9.cell? ⟨Q,3,none⟩=some (.int .i64 (p:Int))):=hZ (by obtain⟨c0,c1,c2,c3⟩:=row_cell4 (uZ HBQ_9);exact⟨c1,c3⟩)
       refine hK.out _ _ (Or.inr (uZ HS0)) ?_
       clear hK K hwr hqr
       try simp only [Act.put,sA,sB,sC]
       refine tK 7 (v:=.agg #[.int .i64 16,.string (bA t),.int .i64 0,.int .i64 0,.string ⟨#[]⟩,.slice none 0 0,.slice none 0 0,.bool false,.slice (some ⟨qr,0,none⟩) 1 1,.int .i64 (p:Int)]) (some 27) rfl rfl rfl (by kernel_rfl) (fun _ _ _ h=>h) (Or.inl ⟨by rfl,fun u hu=>by obtain⟨b0,b1⟩:=hu;go_simp⟩) (uZ HS0) ?_
       try simp only [Act.put,sA,sB,sC]
       refine till_one 8 (by kernel_rfl) rfl (fun K hK=>?_)
       go_simp
       obtain⟨w10,hw⟩:=eX (w9.alloc (.cells #[.int .i64 0,.string ⟨#[]⟩,.int .i64 0,.int .i64 0,.string ⟨#[]⟩,.slice none 0 0,.slice none 0 0,.bool false,.slice none 0 0,.int .i64 0] 28))
       have b:=alB hw
       obtain⟨P,hQ⟩:=eX (w9.heap.size)
       have HBP_10:Hid (w10.heap[P]?=some (.cells #[.int .i64 0,.string ⟨#[]⟩,.int .i64 0,.int .i64 0,.string ⟨#[]⟩,.slice none 0 0,.slice none 0 0,.bool false,.slice none 0 0,.int .i64 0] 28 (0,0))):=hZ (by rw [←hw,←hQ];exact heap_alloc_new _ _)
       have S10:=hZ ((uZ S9).below b)
       have HBQ_10:=bx_be HBQ_9 b
       have HKr_10:=hZ ((uZ HKr_9).beside (Beside.of_below (gr:=c.g) b) (by omega))
       have ltP:w.heap.size<P:=by rw [←hQ];exact(uZ S9).lt
       have lQ_P:Q<P:=by rw [←hQ];exact(Array.getElem?_eq_some_iff.1 (uZ HBQ_9)).1
       have APr_P:=hZ ((uZ HKr_9).fresh hQ)
       rw [hw]
       try rw [hQ]
       clear hw hQ b HS0 S9 HBQ_9 HKr_9
       have HS0:Hid (w10.cell? ⟨Q,1,none⟩=some (.string (bA t))∧w10.cell? ⟨Q,3,none⟩=some (.int .i64 (p:Int))):=hZ (by obtain⟨c0,c1,c2,c3⟩:=row_cell4 (uZ HBQ_10);exact⟨c1,c3⟩)
       refine hK.out _ _ (Or.inr (uZ HS0)) ?_
       clear hK K
       try simp only [Act.put,sA,sB,sC]
       obtain⟨g0,g1,g2,g3,g4,g5,g6,g7,g8,g9⟩:=row_cell10 (uZ HBP_10)
       obtain⟨z0,z1,z2,z3,z4,z5,z6,z7,z8,z9⟩:=frozen10 (uZ HBP_10)
       refine till_one 9 (by kernel_rfl) rfl (fun K hK=>?_)
       go_simp
       refine hK.out _ _ (Or.inl (by first|rfl|trivial)) ?_
       clear hK K HS0 g0 z0 g1 z1 g2 z2 g3 z3 g4 z4 g5 z5 g6 z6 g7 z7 g8 z8 g9 z9
       try simp only [Act.put,sA,sB,sC]
       refine till_done (by kernel_rfl) ?_ _
       have O:=(uZ S10).own10 ltP (.int .i64 16) (.string (bA t)) (.int .i64 0) (.int .i64 0) (.string ⟨#[]⟩) (.slice none 0 0) (.slice none 0 0) (.bool false) (.slice (some ⟨qr,0,none⟩) 1 1) (.int .i64 (p:Int))
       have D:=set10 (uZ HBP_10) (.int .i64 16) (.string (bA t)) (.int .i64 0) (.int .i64 0) (.string ⟨#[]⟩) (.slice none 0 0) (.slice none 0 0) (.bool false) (.slice (some ⟨qr,0,none⟩) 1 1) (.int .i64 (p:Int))
       obtain⟨w11,hw⟩:=eX (((((((((((w10.setCell ⟨P,0,none⟩ (.int .i64 16)).setCell ⟨P,1,none⟩ (.string (bA t))).setCell ⟨P,2,none⟩ (.int .i64 0)).setCell ⟨P,3,none⟩ (.int .i64 0)).setCell ⟨P,4,none⟩ (.string ⟨#[]⟩)).setCell ⟨P,5,none⟩ (.slice none 0 0)).setCell ⟨P,6,none⟩ (.slice none 0 0)).setCell ⟨P,7,none⟩ (.bool false)).setCell ⟨P,8,none⟩ (.slice (some ⟨qr,0,none⟩) 1 1)).setCell ⟨P,9,none⟩ (.int .i64 (p:Int))))
       rw [hw] at O D
       have S11:=hZ O.1
       have HBP_11:=hZ D
       have HBQ_11:Hid (w11.heap[Q]?=some (.cells #[.int .i64 (k:Int),.string (bA t),.int .i64 (n:Int),.int .i64 (p:Int)] 85 (0,0))):=hZ ((O.2.1 Q (by omega)).trans (uZ HBQ_10))
       have HKr_11:=hZ ((uZ HKr_10).but2 (q:=P) (fun b _ hb=>O.2.1 b hb) (Nat.le_of_eq O.2.2.symm) (uZ APr_P).1 (uZ APr_P).2)
       rw [hw]
       clear hw O D S10 HBQ_10 HBP_10 HKr_10
       obtain⟨cg0,cg1,cg2,cf1,cf2,cgl⟩:=(uZ S11).rd.cells
       rw [show ((d+1:Nat):Int)=(d:Int)+1 by omega] at cg2
       have j1:IntKind.i64.wrap ((d:Int)+1 - 1)=(d:Int):=by rw [IntKind.wrap_i64];omega
       clear cg0 cg1
       go_upto_region 6 with fail
       obtain⟨w12,hw⟩:=eX (w11.setCell ⟨c.g,2,none⟩ (.int .i64 (d:Int)))
       have bb:Beside c.g w11 w12:=by rw [←hw];exact(Beside.refl _ _).set
       have rr:Rd w12 c lx d:=by rw [←hw];exact(uZ S11).rd.open d (by omega)
       have S12:=hZ ((uZ S11).go bb rr)
       have HBQ_12:=bx_go HBQ_11 bb (by omega)
       have HBP_12:=bx_go HBP_11 bb (by omega)
       have HKr_12:=hZ ((uZ HKr_11).beside bb (by omega))
       rw [hw]
       clear hw bb rr cg2 cf1 cf2 cgl j1 S11 HBQ_11 HBP_11 HKr_11
       have hr1:=okN_some (uZ HJ5)
       have hnn:=(uZ HKr_12).node' hlx 16 t 0 0 [] false p
       have HR:=hZ (hr1)
       have BX:=(uZ S12).bx
       rw [hG] at BX
       obtain⟨g0,g1,g2,g3,g4,g5,g6,g7,g8,g9⟩:=row_cell10 BX
       obtain⟨z0,z1,z2,z3,z4,z5,z6,z7,z8,z9⟩:=frozen10 BX
       clear BX
       obtain⟨Pc0,Pc1,Pc2,Pc3,Pc4,Pc5,Pc6,Pc7,Pc8,Pc9⟩:=row_cell10 (uZ HBP_12)
       have FF:=hZ (St.done (uZ S12) (hnn.low (by omega)) rfl hG)
       go_wp2_with fail
       refine rtN (p:=2) rfl rfl (uZ FF).1 rfl rfl ?_
       rw [uZ HR]
       exact(uZ FF).2
      ·go_simp
       obtain⟨w9,hw⟩:=eX (w8.alloc (.cells #[.int .i64 0,.string ⟨#[]⟩,.int .i64 0,.int .i64 0,.string ⟨#[]⟩,.slice none 0 0,.slice none 0 0,.bool false,.slice none 0 0,.int .i64 0] 28))
       have b:=alB hw
       obtain⟨P,hQ⟩:=eX (w8.heap.size)
       have HBP_9:Hid (w9.heap[P]?=some (.cells #[.int .i64 0,.string ⟨#[]⟩,.int .i64 0,.int .i64 0,.string ⟨#[]⟩,.slice none 0 0,.slice none 0 0,.bool false,.slice none 0 0,.int .i64 0] 28 (0,0))):=hZ (by rw [←hw,←hQ];exact heap_alloc_new _ _)
       have S9:=hZ ((uZ S8).below b)
       have HBQ_9:=bx_be HBQ_8 b
       have HNx_9:=hZ ((uZ HNx_8).beside (Beside.of_below (gr:=c.g) b) (by omega))
       have ltP:w.heap.size<P:=by rw [←hQ];exact(uZ S8).lt
       have lQ_P:Q<P:=by rw [←hQ];exact(Array.getElem?_eq_some_iff.1 (uZ HBQ_8)).1
       have ANx_P:=hZ ((uZ HNx_8).fresh hQ)
       rw [hw]
       try rw [hQ]
       clear hw hQ b HS0 S8 HBQ_8 HNx_8
       have HS0:Hid (w9.cell? ⟨Q,1,none⟩=some (.string (bA t))∧w9.cell? ⟨Q,3,none⟩=some (.int .i64 (p:Int))):=hZ (by obtain⟨c0,c1,c2,c3⟩:=row_cell4 (uZ HBQ_9);exact⟨c1,c3⟩)
       refine hK.out _ _ (Or.inr (uZ HS0)) ?_
       clear hK K
       try simp only [Act.put,sA,sB,sC]
       refine till_one 4 (by kernel_rfl) rfl (fun K hK=>?_)
       have lt3:P<w9.heap.size:=(Array.getElem?_eq_some_iff.1 (uZ HBP_9)).1
       have hkn:=hZ (uZ HNx_9)
       obtain⟨w10,hwr⟩:=eX (w9.alloc (.cells #[.int .i64 (kx:Int),.string (bA tx),.int .i64 (vkx:Int),.int .i64 (vnx:Int),.string (bA vsx),.slice none 0 0,.slice none 0 0,.bool fx,.slice akx nx ckx,.int .i64 (px:Int)] 28))
       have b:=alB hwr
       obtain⟨qr,hqr⟩:=eX (w9.heap.size)
       have HKr_10:Hid (Kr lox w10 _ (.slice (some ⟨qr,0,none⟩) _ _) [.int .i64 (kx:Int),.string (bA tx),.int .i64 (vkx:Int),.int .i64 (vnx:Int),.string (bA vsx),.slice none 0 0,.slice none 0 0,.bool fx,.slice akx nx ckx,.int .i64 (px:Int)] _):=hZ (by rw [←hwr,←hqr];exact Kr.mk' (uZ hkn) (by rw [hlx];decide))
       rw [hlx] at HKr_10
       have ltr:w.heap.size<qr:=by rw [←hqr];exact(uZ S9).lt
       have S10:=hZ ((uZ S9).below b)
       have HBQ_10:=bx_be HBQ_9 b
       have HBP_10:=bx_be HBP_9 b
       clear b hkn S9 HBQ_9 HBP_9 HNx_9
       have APr_P:=hZ (And.intro (uZ ANx_P) (own_ne (n:=1) (m:=1) (show P<qr by omega)))
       go_simp
       try rw [hwr]
       try rw [hqr]
       clear HS0
       have HS0:Hid (w10.cell? ⟨Q,1,none⟩=some (.string (bA t))∧w10.cell? ⟨Q,3,none⟩=some (.int .i64 (p:Int))):=hZ (by obtain⟨c0,c1,c2,c3⟩:=row_cell4 (uZ HBQ_10);exact⟨c1,c3⟩)
       refine hK.out _ _ (Or.inr (uZ HS0)) ?_
       clear hK K hwr hqr
       try simp only [Act.put,sA,sB,sC]
       refine tK 7 (v:=.agg #[.int .i64 16,.string (bA t),.int .i64 0,.int .i64 0,.string ⟨#[]⟩,.slice none 0 0,.slice none 0 0,.bool false,.slice (some ⟨qr,0,none⟩) 1 1,.int .i64 (p:Int)]) (some 27) rfl rfl rfl (by kernel_rfl) (fun _ _ _ h=>h) (Or.inl ⟨by rfl,fun u hu=>by obtain⟨b0,b1⟩:=hu;go_simp⟩) (uZ HS0) ?_
       try simp only [Act.put,sA,sB,sC]
       obtain⟨g0,g1,g2,g3,g4,g5,g6,g7,g8,g9⟩:=row_cell10 (uZ HBP_10)
       obtain⟨z0,z1,z2,z3,z4,z5,z6,z7,z8,z9⟩:=frozen10 (uZ HBP_10)
       refine till_one 9 (by kernel_rfl) rfl (fun K hK=>?_)
       go_simp
       refine hK.out _ _ (Or.inl (by first|rfl|trivial)) ?_
       clear hK K HS0 g0 z0 g1 z1 g2 z2 g3 z3 g4 z4 g5 z5 g6 z6 g7 z7 g8 z8 g9 z9
       try simp only [Act.put,sA,sB,sC]
       refine till_done (by kernel_rfl) ?_ _
       have O:=(uZ S10).own10 ltP (.int .i64 16) (.string (bA t)) (.int .i64 0) (.int .i64 0) (.string ⟨#[]⟩) (.slice none 0 0) (.slice none 0 0) (.bool false) (.slice (some ⟨qr,0,none⟩) 1 1) (.int .i64 (p:Int))
       have D:=set10 (uZ HBP_10) (.int .i64 16) (.string (bA t)) (.int .i64 0) (.int .i64 0) (.string ⟨#[]⟩) (.slice none 0 0) (.slice none 0 0) (.bool false) (.slice (some ⟨qr,0,none⟩) 1 1) (.int .i64 (p:Int))
       obtain⟨w11,hw⟩:=eX (((((((((((w10.setCell ⟨P,0,none⟩ (.int .i64 16)).setCell ⟨P,1,none⟩ (.string (bA t))).setCell ⟨P,2,none⟩ (.int .i64 0)).setCell ⟨P,3,none⟩ (.int .i64 0)).setCell ⟨P,4,none⟩ (.string ⟨#[]⟩)).setCell ⟨P,5,none⟩ (.slice none 0 0)).setCell ⟨P,6,none⟩ (.slice none 0 0)).setCell ⟨P,7,none⟩ (.bool false)).setCell ⟨P,8,none⟩ (.slice (some ⟨qr,0,none⟩) 1 1)).setCell ⟨P,9,none⟩ (.int .i64 (p:Int))))
       rw [hw] at O D
       have S11:=hZ O.1
       have HBP_11:=hZ D
       have HBQ_11:Hid (w11.heap[Q]?=some (.cells #[.int .i64 (k:Int),.string (bA t),.int .i64 (n:Int),.int .i64 (p:Int)] 85 (0,0))):=hZ ((O.2.1 Q (by omega)).trans (uZ HBQ_10))
       have HKr_11:=hZ ((uZ HKr_10).but2 (q:=P) (fun b _ hb=>O.2.1 b hb) (Nat.le_of_eq O.2.2.symm) (uZ APr_P).1 (uZ APr_P).2)
       rw [hw]
       clear hw O D S10 HBQ_10 HBP_10 HKr_10
       obtain⟨cg0,cg1,cg2,cf1,cf2,cgl⟩:=(uZ S11).rd.cells
       rw [show ((d+1:Nat):Int)=(d:Int)+1 by omega] at cg2
       have j1:IntKind.i64.wrap ((d:Int)+1 - 1)=(d:Int):=by rw [IntKind.wrap_i64];omega
       clear cg0 cg1
       go_upto_region 6 with fail
       obtain⟨w12,hw⟩:=eX (w11.setCell ⟨c.g,2,none⟩ (.int .i64 (d:Int)))
       have bb:Beside c.g w11 w12:=by rw [←hw];exact(Beside.refl _ _).set
       have rr:Rd w12 c lx d:=by rw [←hw];exact(uZ S11).rd.open d (by omega)
       have S12:=hZ ((uZ S11).go bb rr)
       have HBQ_12:=bx_go HBQ_11 bb (by omega)
       have HBP_12:=bx_go HBP_11 bb (by omega)
       have HKr_12:=hZ ((uZ HKr_11).beside bb (by omega))
       rw [hw]
       clear hw bb rr cg2 cf1 cf2 cgl j1 S11 HBQ_11 HBP_11 HKr_11
       have hr1:=okN_some (uZ HJ5)
       have hnn:=(uZ HKr_12).node' hlx 16 t 0 0 [] false p
       have HR:=hZ (hr1)
       have BX:=(uZ S12).bx
       rw [hG] at BX
       obtain⟨g0,g1,g2,g3,g4,g5,g6,g7,g8,g9⟩:=row_cell10 BX
       obtain⟨z0,z1,z2,z3,z4,z5,z6,z7,z8,z9⟩:=frozen10 BX
       clear BX
       obtain⟨Pc0,Pc1,Pc2,Pc3,Pc4,Pc5,Pc6,Pc7,Pc8,Pc9⟩:=row_cell10 (uZ HBP_12)
       have FF:=hZ (St.done (uZ S12) (hnn.low (by omega)) rfl hG)
       go_wp2_with fail
       refine rtN (p:=2) rfl rfl (uZ FF).1 rfl rfl ?_
       rw [uZ HR]
       exact(uZ FF).2
     ·go_simp
      obtain⟨w8,hw⟩:=eX (w7.alloc (.cells #[.int .i64 0,.string ⟨#[]⟩,.int .i64 0,.int .i64 0,.string ⟨#[]⟩,.slice none 0 0,.slice none 0 0,.bool false,.slice none 0 0,.int .i64 0] 28))
      have b:=alB hw
      obtain⟨P,hQ⟩:=eX (w7.heap.size)
      have HBP_8:Hid (w8.heap[P]?=some (.cells #[.int .i64 0,.string ⟨#[]⟩,.int .i64 0,.int .i64 0,.string ⟨#[]⟩,.slice none 0 0,.slice none 0 0,.bool false,.slice none 0 0,.int .i64 0] 28 (0,0))):=hZ (by rw [←hw,←hQ];exact heap_alloc_new _ _)
      have S8:=hZ ((uZ S7).below b)
      have HBQ_8:=bx_be HBQ_7 b
      have ltP:w.heap.size<P:=by rw [←hQ];exact(uZ S7).lt
      have lQ_P:Q<P:=by rw [←hQ];exact(Array.getElem?_eq_some_iff.1 (uZ HBQ_7)).1
      rw [hw]
      try rw [hQ]
      clear hw hQ b HS0 S7 HBQ_7
      have HS0:Hid (w8.cell? ⟨Q,1,none⟩=some (.string (bA t))∧w8.cell? ⟨Q,3,none⟩=some (.int .i64 (p:Int))):=hZ (by obtain⟨c0,c1,c2,c3⟩:=row_cell4 (uZ HBQ_8);exact⟨c1,c3⟩)
      refine hK.out _ _ (Or.inr (uZ HS0)) ?_
      clear hK K
      try simp only [Act.put,sA,sB,sC]
      refine till_one 3 (by kernel_rfl) rfl (fun K hK=>?_)
      have CR:=hZ (uZ CR0 w8 (uZ S8).rd)
      clear CR0
      go_simp
      refine(uZ CR).mono ?_
      rintro e w9 ⟨kx,tx,vkx,vnx,vsx,fx,nx,akx,ckx,px,Zx,rfl,hlx,hn,r2,b⟩
      have S9:=hZ ((uZ S8).go b r2)
      have HBQ_9:=bx_go HBQ_8 b (by omega)
      have HBP_9:=bx_go HBP_8 b (by omega)
      obtain⟨lox,hlo⟩:=eX (w8.heap.size)
      have ltlox:w.heap.size<lox:=by rw [←hlo];exact(uZ S8).lt
      have lqQ_x:Q<lox:=by rw [←hlo];exact(Array.getElem?_eq_some_iff.1 (uZ HBQ_8)).1
      have lqP_x:P<lox:=by rw [←hlo];exact(Array.getElem?_eq_some_iff.1 (uZ HBP_8)).1
      rw [hlo] at hn
      have HNx_9:=hZ hn
      clear hlo b r2 hn CR S8 HBQ_8 HBP_8
      clear HS0
      have HS0:Hid (w9.cell? ⟨Q,1,none⟩=some (.string (bA t))∧w9.cell? ⟨Q,3,none⟩=some (.int .i64 (p:Int))):=hZ (by obtain⟨c0,c1,c2,c3⟩:=row_cell4 (uZ HBQ_9);exact⟨c1,c3⟩)
      go_wp2_with fail
      refine hK.out _ _ (Or.inr (uZ HS0)) ?_
      clear hK K
      try simp only [Act.put,sA,sB,sC]
      refine till_one 4 (by kernel_rfl) rfl (fun K hK=>?_)
      have hkn:=hZ (uZ HNx_9)
      obtain⟨w10,hwr⟩:=eX (w9.alloc (.cells #[.int .i64 (kx:Int),.string (bA tx),.int .i64 (vkx:Int),.int .i64 (vnx:Int),.string (bA vsx),.slice none 0 0,.slice none 0 0,.bool fx,.slice akx nx ckx,.int .i64 (px:Int)] 28))
      have b:=alB hwr
      obtain⟨qr,hqr⟩:=eX (w9.heap.size)
      have HKr_10:Hid (Kr lox w10 _ (.slice (some ⟨qr,0,none⟩) _ _) [.int .i64 (kx:Int),.string (bA tx),.int .i64 (vkx:Int),.int .i64 (vnx:Int),.string (bA vsx),.slice none 0 0,.slice none 0 0,.bool fx,.slice akx nx ckx,.int .i64 (px:Int)] _):=hZ (by rw [←hwr,←hqr];exact Kr.mk' (uZ hkn) (by rw [hlx];decide))
      rw [hlx] at HKr_10
      have ltr:w.heap.size<qr:=by rw [←hqr];exact(uZ S9).lt
      have S10:=hZ ((uZ S9).below b)
      have HBQ_10:=bx_be HBQ_9 b
      have HBP_10:=bx_be HBP_9 b
      clear b hkn S9 HBQ_9 HBP_9 HNx_9
      go_simp
      try rw [hwr]
      try rw [hqr]
      clear HS0
      have HS0:Hid (w10.cell? ⟨Q,1,none⟩=some (.string (bA t))∧w10.cell? ⟨Q,3,none⟩=some (.int .i64 (p:Int))):=hZ (by obtain⟨c0,c1,c2,c3⟩:=row_cell4 (uZ HBQ_10);exact⟨c1,c3⟩)
      refine hK.out _ _ (Or.inr (uZ HS0)) ?_
      clear hK K hwr hqr
      try simp only [Act.put,sA,sB,sC]
      refine tK 7 (v:=.agg #[.int .i64 16,.string (bA t),.int .i64 0,.int .i64 0,.string ⟨#[]⟩,.slice none 0 0,.slice none 0 0,.bool false,.slice (some ⟨qr,0,none⟩) 1 1,.int .i64 (p:Int)]) (some 27) rfl rfl rfl (by kernel_rfl) (fun _ _ _ h=>h) (Or.inl ⟨by rfl,fun u hu=>by obtain⟨b0,b1⟩:=hu;go_simp⟩) (uZ HS0) ?_
      try simp only [Act.put,sA,sB,sC]
      obtain⟨g0,g1,g2,g3,g4,g5,g6,g7,g8,g9⟩:=row_cell10 (uZ HBP_10)
      obtain⟨z0,z1,z2,z3,z4,z5,z6,z7,z8,z9⟩:=frozen10 (uZ HBP_10)
      refine till_one 9 (by kernel_rfl) rfl (fun K hK=>?_)
      go_simp
      refine hK.out _ _ (Or.inl (by first|rfl|trivial)) ?_
      clear hK K HS0 g0 z0 g1 z1 g2 z2 g3 z3 g4 z4 g5 z5 g6 z6 g7 z7 g8 z8 g9 z9
      try simp only [Act.put,sA,sB,sC]
      refine till_done (by kernel_rfl) ?_ _
      have O:=(uZ S10).own10 ltP (.int .i64 16) (.string (bA t)) (.int .i64 0) (.int .i64 0) (.string ⟨#[]⟩) (.slice none 0 0) (.slice none 0 0) (.bool false) (.slice (some ⟨qr,0,none⟩) 1 1) (.int .i64 (p:Int))
      have D:=set10 (uZ HBP_10) (.int .i64 16) (.string (bA t)) (.int .i64 0) (.int .i64 0) (.string ⟨#[]⟩) (.slice none 0 0) (.slice none 0 0) (.bool false) (.slice (some ⟨qr,0,none⟩) 1 1) (.int .i64 (p:Int))
      obtain⟨w11,hw⟩:=eX (((((((((((w10.setCell ⟨P,0,none⟩ (.int .i64 16)).setCell ⟨P,1,none⟩ (.string (bA t))).setCell ⟨P,2,none⟩ (.int .i64 0)).setCell ⟨P,3,none⟩ (.int .i64 0)).setCell ⟨P,4,none⟩ (.string ⟨#[]⟩)).setCell ⟨P,5,none⟩ (.slice none 0 0)).setCell ⟨P,6,none⟩ (.slice none 0 0)).setCell ⟨P,7,none⟩ (.bool false)).setCell ⟨P,8,none⟩ (.slice (some ⟨qr,0,none⟩) 1 1)).setCell ⟨P,9,none⟩ (.int .i64 (p:Int))))
      rw [hw] at O D
      have S11:=hZ O.1
      have HBP_11:=hZ D
      have HBQ_11:Hid (w11.heap[Q]?=some (.cells #[.int .i64 (k:Int),.string (bA t),.int .i64 (n:Int),.int .i64 (p:Int)] 85 (0,0))):=hZ ((O.2.1 Q (by omega)).trans (uZ HBQ_10))
      have HKr_11:=hZ ((uZ HKr_10).but (q:=P) (fun b _ hb=>O.2.1 b hb) (Nat.le_of_eq O.2.2.symm) (by omega))
      rw [hw]
      clear hw O D S10 HBQ_10 HBP_10 HKr_10
      obtain⟨cg0,cg1,cg2,cf1,cf2,cgl⟩:=(uZ S11).rd.cells
      rw [show ((d+1:Nat):Int)=(d:Int)+1 by omega] at cg2
      have j1:IntKind.i64.wrap ((d:Int)+1 - 1)=(d:Int):=by rw [IntKind.wrap_i64];omega
      clear cg0 cg1
      go_upto_region 6 with fail
      obtain⟨w12,hw⟩:=eX (w11.setCell ⟨c.g,2,none⟩ (.int .i64 (d:Int)))
      have bb:Beside c.g w11 w12:=by rw [←hw];exact(Beside.refl _ _).set
      have rr:Rd w12 c lx d:=by rw [←hw];exact(uZ S11).rd.open d (by omega)
      have S12:=hZ ((uZ S11).go bb rr)
      have HBQ_12:=bx_go HBQ_11 bb (by omega)
      have HBP_12:=bx_go HBP_11 bb (by omega)
      have HKr_12:=hZ ((uZ HKr_11).beside bb (by omega))
      rw [hw]
      clear hw bb rr cg2 cf1 cf2 cgl j1 S11 HBQ_11 HBP_11 HKr_11
      have hr1:=okN_some (uZ HJ5)
      have hnn:=(uZ HKr_12).node' hlx 16 t 0 0 [] false p
      have HR:=hZ (hr1)
      have BX:=(uZ S12).bx
      rw [hG] at BX
      obtain⟨g0,g1,g2,g3,g4,g5,g6,g7,g8,g9⟩:=row_cell10 BX
      obtain⟨z0,z1,z2,z3,z4,z5,z6,z7,z8,z9⟩:=frozen10 BX
      clear BX
      obtain⟨Pc0,Pc1,Pc2,Pc3,Pc4,Pc5,Pc6,Pc7,Pc8,Pc9⟩:=row_cell10 (uZ HBP_12)
      have FF:=hZ (St.done (uZ S12) (hnn.low (by omega)) rfl hG)
      go_wp2_with fail
      refine rtN (p:=2) rfl rfl (uZ FF).1 rfl rfl ?_
      rw [uZ HR]
      exact(uZ FF).2
   ·have hdd:d=24:=by omega
    have CC:=hZ (ent_deep (uZ S4).rd t hst hdd)
    have HR:=hZ (thn_end hst hdd (uZ HJ2))
    go_wp2_with (first|(refine wpl_tk1 rfl _ rfl _ _ _ _ rfl ?_))
    refine(uZ CC).mono ?_
    rintro e wx ⟨rfl,b⟩
    have HX:=hZ ((uZ S4).bad b)
    clear b CC
    unfold fltP
    go_wp2_with fail
    exact⟨rfl,by rw [uZ HR];exact⟨rfl,uZ HX⟩⟩
  ·have hq:isS [33] l=false:=by simpa using hb
   have CC:=hZ ((by have:=seesSign_any (uZ S2).rd [33];rw [hq] at this;exact this))
   go_wp2_with fail
   refine(uZ CC).mono ?_
   rintro e w3 ⟨rfl,b⟩
   have S3:=hZ ((uZ S2).below b)
   clear b CC S2
   have HJ2:=hZ ((by have:=(uZ HJ1);rw [if_neg (by rw [uZ hq0,hq];decide)] at this;exact this))
   clear HJ1
   have CR:=hZ (ihr (uZ HJ2) (uZ S3).rd)
   obtain⟨y,hyr⟩:=eX r
   have HR:=hZ hyr
   rw [hyr] at CR
   clear hyr
   rcases y with ⟨ea,ep⟩|⟨nsx,lx⟩
   ·go_wp2_with fail
    refine(uZ CR).mono ?_
    rintro e wx ⟨rfl,b⟩
    have HX:=hZ ((uZ S3).bad b)
    clear b CR
    unfold fltP
    go_wp2_with fail
    exact⟨rfl,by rw [uZ HR];exact⟨rfl,uZ HX⟩⟩
   ·go_wp2_with fail
    refine(uZ CR).mono ?_
    rintro e w4 ⟨kx,tx,vkx,vnx,vsx,fx,nx,akx,ckx,px,Zx,rfl,hlx,hn,r2,b⟩
    have S4:=hZ ((uZ S3).go b r2)
    have HNx_4:=hZ (hn.low (lo':=w.heap.size+1) (uZ S3).lt)
    clear b r2 hn CR S3
    have HR:=hZ (uZ HR)
    have BX:=(uZ S4).bx
    rw [hG] at BX
    obtain⟨g0,g1,g2,g3,g4,g5,g6,g7,g8,g9⟩:=row_cell10 BX
    obtain⟨z0,z1,z2,z3,z4,z5,z6,z7,z8,z9⟩:=frozen10 BX
    clear BX
    have FF:=hZ (St.done (uZ S4) (uZ HNx_4) hlx hG)
    go_wp2_with fail
    refine rtN (p:=2) rfl rfl (uZ FF).1 rfl rfl ?_
    rw [uZ HR]
    exact(uZ FF).2
end Go.Proofs.YtjdpaihhhjdgmaaGreatDoor
