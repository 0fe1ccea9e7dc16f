/-
  Layer 17 (parse): Ifs; conditions: the reader's state.
-/
import Derived.Test.YtilhlmmcdfoaoaaGreatDoorE11
set_option linter.unusedVariables false
set_option linter.unusedSimpArgs false
namespace Go.Proofs.YtilhlmmcdfoaoaaGreatDoor
open Go.RowKit
set_option linter.unusedVariables false
set_option linter.unusedSimpArgs false
set_option maxRecDepth 100000 in
set_option maxHeartbeats 8000000 in
theorem choice_step {c:Cx} {l:List Tk} {d:Nat} {w:World} {r:Rs (List Nd)} {f:Nat} (ihg:∀{c:Cx} {l:List Tk} {d:Nat} {w:World} {r:Rs (List Nd)},PJ f 20 0 [] l d=some r→Rd w c l d→Calls Tryz.prog 102 #[.pointer (some ⟨c.g,0,none⟩)] w fun e w'=>KsP c w d r e w') (ihc:∀{c:Cx} {l:List Tk} {d:Nat} {w:World} {r:Rs (List Nd)},¬(hdT l).k=0→PJ f 12 0 [] l d=some r→Rd w c l d→Calls Tryz.prog 84 #[.pointer (some ⟨c.g,0,none⟩)] w fun e w'=>NdP c w d r e w') (ihb:∀{c:Cx} {l:List Tk} {d:Nat} {w:World} {r:Rs (List Nd)},PJ f 10 0 [] l d=some r→Rd w c l d→Calls Tryz.prog 35 #[.pointer (some ⟨c.g,0,none⟩)] w fun e w'=>NdP c w d r e w') (hk0:¬(hdT l).k=0) (hJ:PJ (f+1) 12 0 [] l d=some r) (h:Rd w c l d) :
  Calls Tryz.prog 84 #[.pointer (some ⟨c.g,0,none⟩)] w fun e w'=>NdP c w d r e w':=by
 have S1:=hZ (St.start h 29 #[.int .i64 0,.string ⟨#[]⟩,.int .i64 0,.int .i64 0,.string ⟨#[]⟩,.slice none 0 0,.slice none 0 0,.bool false,.slice none 0 0,.int .i64 0])
 obtain⟨w1,hw1⟩:∃w1,w.alloc (.cells #[.int .i64 0,.string ⟨#[]⟩,.int .i64 0,.int .i64 0,.string ⟨#[]⟩,.slice none 0 0,.slice none 0 0,.bool false,.slice none 0 0,.int .i64 0] 29)=w1:=⟨_,rfl⟩
 rw [hw1] at S1
 obtain⟨G,hG⟩:∃G,w.heap.size=G:=⟨_,rfl⟩
 have hgw:c.g<w.heap.size:=h.cells.2.2.2.2.2
 have HK0:=hZ hk0
 have hnl:l.tail.length≤10000:=by have h1:=h.head;have h2:=h.len;have h3:=tail_le l;omega
 clear h
 go_enter Tryz.func84,Tryz.ntmps84
 have HJ0:=hZ (show jChoice (PJ f) l d=some r from hJ)
 clear hJ
 obtain⟨⟨k,t,n,p⟩,ht⟩:∃t,hdT l=t:=⟨_,rfl⟩
 have HT:=hZ ht
 clear ht
 have HJ1:=hZ ((by have:=uZ HJ0;unfold jChoice at this;rw [uZ HT] at this;exact this))
 clear HJ0
 have CC:=hZ ((by have:=pass_any (uZ S1).rd (uZ HK0);rw [uZ HT] at this;simp only [tkA] at this;exact this))
 go_wp2_with fail
 refine(uZ CC).mono ?_
 rintro e w2 ⟨rfl,r2,b⟩
 have S2:=hZ ((uZ S1).go b r2)
 clear b r2 CC S1
 go_upto_region 2 with (first|(refine wpl_tk3 rfl _ rfl _ _ _ _ rfl ?_)|(refine wpl_tk1 rfl _ rfl _ _ _ _ rfl ?_)|(refine wpl_tk0 rfl _ rfl _ _ _ _ rfl ?_))
 obtain⟨w3,hw⟩:∃zz,w2.alloc (.cells #[.int .i64 7,.string ⟨#[]⟩,.int .i64 0,.int .i64 0,.string ⟨#[]⟩,.slice none 0 0,.slice none 0 0,.bool false,.slice none 0 0,.int .i64 (p:Int)] 29)=zz:=⟨_,rfl⟩
 have b:Below w2.heap.size w2 w3:=by rw [←hw];exact(Below.refl _ _).alloc (Nat.le_refl _) _
 obtain⟨Q,hQ⟩:∃zz,w2.heap.size=zz:=⟨_,rfl⟩
 have HBQ_3:Hid (w3.heap[Q]?=some (.cells #[.int .i64 7,.string ⟨#[]⟩,.int .i64 0,.int .i64 0,.string ⟨#[]⟩,.slice none 0 0,.slice none 0 0,.bool false,.slice none 0 0,.int .i64 (p:Int)] 29 (0,0))):=hZ (by rw [←hw,←hQ];exact heap_alloc_new _ _)
 have S3:=hZ ((uZ S2).below b)
 have ltQ:w.heap.size<Q:=by rw [←hQ];exact(uZ S2).lt
 rw [hw]
 try rw [hQ]
 clear hw hQ b S2
 obtain⟨yx,hy,hth⟩:=bnd_some (uZ HJ1)
 have HJ2:=hZ (hth)
 clear HJ1
 clear hth
 have CR:=hZ (ihg hy (uZ S3).rd)
 have HYX:=hZ hy
 clear hy
 rcases yx with ⟨ea,ep⟩|⟨nsx,lx⟩
 ·have HR:=hZ (thn_err (uZ HJ2))
  go_wp2_with fail
  refine(uZ CR).mono ?_
  rintro e wx ⟨rfl,b⟩
  have HX:=hZ ((uZ S3).bad b)
  clear b CR
  unfold fltP
  go_wp2_with fail
  exact⟨rfl,by rw [uZ HR];exact⟨rfl,uZ HX⟩⟩
 ·have HJ3:=hZ (thn_ok (uZ HJ2))
  clear HJ2
  go_wp2_with fail
  refine(uZ CR).mono ?_
  rintro e w4 ⟨ax,qx,Cx,Zx,rfl,hk,r2,b⟩
  have S4:=hZ ((uZ S3).go b r2)
  have HBQ_4:=bx_go HBQ_3 b (by omega)
  obtain⟨lox,hlo⟩:∃zz,w3.heap.size=zz:=⟨_,rfl⟩
  have ltlox:w.heap.size<lox:=by rw [←hlo];exact(uZ S3).lt
  have lqQ_x:Q<lox:=by rw [←hlo];exact(Array.getElem?_eq_some_iff.1 (uZ HBQ_3)).1
  rw [hlo] at hk
  have HKx_4:=hZ hk
  clear hlo b r2 hk CR S3 HBQ_3
  obtain⟨na,hlnx⟩:∃zz,nsx.length=zz:=⟨_,rfl⟩
  rw [hlnx] at HKx_4
  try rw [hlnx]
  have hbna:na+lx.length≤10000:=by have h1:=PJ_len f 20 0 [] l.tail d nsx lx ⟨by decide,by omega⟩ (uZ HYX);simp only [twoJ,List.length_nil,reduceIte] at h1;have h2:=hnl;omega
  obtain⟨-,-,-,-,-,-,-,-,Qc8,-⟩:=row_cell10 (uZ HBQ_4)
  have Qf8:=frozen_of_row w4 Q 8 _ _ (uZ HBQ_4)
  go_upto_region 3 with fail
  clear Qc8 Qf8
  try rw [hlnx]
  obtain⟨w5,hw⟩:∃zz,w4.setCell ⟨Q,8,none⟩ (.slice ax na qx)=zz:=⟨_,rfl⟩
  have HBQ_5:Hid (w5.heap[Q]?=some (.cells #[.int .i64 7,.string ⟨#[]⟩,.int .i64 0,.int .i64 0,.string ⟨#[]⟩,.slice none 0 0,.slice none 0 0,.bool false,.slice ax na qx,.int .i64 (p:Int)] 29 (0,0))):=hZ (by rw [←hw,heap_setCell_same w4 Q 8 _ _ _ (uZ HBQ_4)];rfl)
  have S5:Hid (St w c 29 #[.int .i64 0,.string ⟨#[]⟩,.int .i64 0,.int .i64 0,.string ⟨#[]⟩,.slice none 0 0,.slice none 0 0,.bool false,.slice none 0 0,.int .i64 0] w5 lx d):=hZ (by rw [←hw];exact(uZ S4).own Q 8 _ ltQ)
  have HKx_5:=hZ ((uZ HKx_4).but (q:=Q) (w':=w5) (fun b _ hb=>by rw [←hw];exact heap_setCell_other _ _ _ _ hb) (by rw [←hw];simp) (by omega))
  rw [hw]
  clear hw S4 HBQ_4 HKx_4
  by_cases hb:isK [101,108,115,101] lx=true
  ·have hq:isK [101,108,115,101] lx=true:=by simpa using hb
   have CC:=hZ ((by have:=seesKey_any (uZ S5).rd [101,108,115,101];rw [hq] at this;exact this))
   go_wp2_with fail
   refine(uZ CC).mono ?_
   rintro e w6 ⟨rfl,b⟩
   have S6:=hZ ((uZ S5).below b)
   have HBQ_6:=bx_be HBQ_5 b
   have HKx_6:=hZ ((uZ HKx_5).beside (Beside.of_below (gr:=c.g) b) (by omega))
   clear b CC S5 HBQ_5 HKx_5
   have HJ4:=hZ ((by have:=(uZ HJ3);rw [if_pos hq] at this;exact this))
   clear HJ3
   have hkk:=isK_k hq
   have CC:=hZ (pass_any (uZ S6).rd hkk)
   go_wp2_with fail
   refine(uZ CC).mono ?_
   rintro e w7 ⟨rfl,r2,b⟩
   have S7:=hZ ((uZ S6).go b r2)
   have HBQ_7:=bx_go HBQ_6 b (by omega)
   have HKx_7:=hZ ((uZ HKx_6).beside b (by omega))
   clear b r2 CC S6 HBQ_6 HKx_6
   by_cases hb:isK [105,102] lx.tail=true
   ·have hq:isK [105,102] lx.tail=true:=by simpa using hb
    have CC:=hZ ((by have:=seesKey_any (uZ S7).rd [105,102];rw [hq] at this;exact this))
    go_wp2_with fail
    refine(uZ CC).mono ?_
    rintro e w8 ⟨rfl,b⟩
    have S8:=hZ ((uZ S7).below b)
    have HBQ_8:=bx_be HBQ_7 b
    have HKx_8:=hZ ((uZ HKx_7).beside (Beside.of_below (gr:=c.g) b) (by omega))
    clear b CC S7 HBQ_7 HKx_7
    have HJ5:=hZ ((by have:=(uZ HJ4);rw [if_pos hq] at this;exact this))
    clear HJ4
    have hk2:=isK_k hq
    go_upto_region 6 with fail
    obtain⟨-,-,-,-,-,-,-,-,Qc8,-⟩:=row_cell10 (uZ HBQ_8)
    have HS0:Hid (w8.drew.cell? ⟨Q,8,none⟩=some (.slice ax na qx)):=hZ (Qc8)
    refine till_begin (S:=fun w'=>w'.cell? ⟨Q,8,none⟩=some (.slice ax na qx)) 7 (by kernel_rfl) ?_
    obtain⟨w9,hWD⟩:∃zz,w8.drew=zz:=⟨_,rfl⟩
    have bD:Below w8.heap.size w8 w9:=by rw [←hWD];exact(Below.refl _ _).drew
    rw [hWD] at HS0
    rw [hWD]
    have S9:=hZ ((uZ S8).below bD)
    have HBQ_9:=bx_be HBQ_8 bD
    have HKx_9:=hZ ((uZ HKx_8).beside (Beside.of_below (gr:=c.g) bD) (by omega))
    clear hWD bD S8 HBQ_8 HKx_8
    clear Qc8
    refine till_take 0 (v:=.pointer (some ⟨Q,8,none⟩)) (some 17) rfl rfl rfl (by kernel_rfl) (by kernel_rfl) (by kernel_rfl) (by kernel_rfl) (fun _ _ _ h=>h) (Or.inl ⟨by rfl,fun u hu=>by obtain b0:=hu;go_simp⟩) (uZ HS0) ?_
    try simp only [Act.put,sA,sB,sC]
    refine till_take 1 (v:=.slice ax na qx) (some 18) rfl rfl rfl (by kernel_rfl) (by kernel_rfl) (by kernel_rfl) (by kernel_rfl) (fun _ _ _ h=>h) (Or.inl ⟨by rfl,fun u hu=>by obtain b0:=hu;go_simp⟩) (uZ HS0) ?_
    try simp only [Act.put,sA,sB,sC]
    refine till_take 2 (v:=.pointer (some ⟨c.g,0,none⟩)) (some 19) rfl rfl rfl (by kernel_rfl) (by kernel_rfl) (by kernel_rfl) (by kernel_rfl) (fun _ _ _ h=>h) (Or.inl ⟨by rfl,fun u hu=>by obtain b0:=hu;go_simp⟩) (uZ HS0) ?_
    try simp only [Act.put,sA,sB,sC]
    obtain⟨yy,hy,hth⟩:=bnd_some (uZ HJ5)
    have HJ6:=hZ (hth)
    clear HJ5
    clear hth
    have CR:=hZ (ihc hk2 hy (uZ S9).rd)
    have HYX:=hZ hy
    clear hy
    rcases yy with ⟨ea,ep⟩|⟨nsy,ly⟩
    ·have HR:=hZ (thn_err (uZ HJ6))
     refine till_one 3 (by kernel_rfl) rfl (fun K hK=>?_)
     go_simp
     refine(uZ CR).mono ?_
     rintro e wx ⟨rfl,b⟩
     have HX:=hZ ((uZ S9).bad b)
     clear b CR
     unfold fltP
     go_wp2_with fail
     exact⟨rfl,by rw [uZ HR];exact⟨rfl,uZ HX⟩⟩
    ·have HJ7:=hZ (thn_ok (uZ HJ6))
     clear HJ6
     refine till_one 3 (by kernel_rfl) rfl (fun K hK=>?_)
     go_simp
     refine(uZ CR).mono ?_
     rintro e w10 ⟨ky,ty,vky,vny,vsy,fy,ny,aky,cky,py,Zy,rfl,hly,hn,r2,b⟩
     have S10:=hZ ((uZ S9).go b r2)
     have HBQ_10:=bx_go HBQ_9 b (by omega)
     have HKx_10:=hZ ((uZ HKx_9).beside b (by omega))
     obtain⟨loy,hlo⟩:∃zz,w9.heap.size=zz:=⟨_,rfl⟩
     have ltloy:w.heap.size<loy:=by rw [←hlo];exact(uZ S9).lt
     have lqQ_y:Q<loy:=by rw [←hlo];exact(Array.getElem?_eq_some_iff.1 (uZ HBQ_9)).1
     have HWx_y:=hZ ((uZ HKx_9).vlt hlo)
     have lex_y:=(uZ HKx_9).ok.le
     rw [hlo] at lex_y
     rw [hlo] at hn
     have HNy_10:=hZ hn
     clear hlo b r2 hn CR S9 HBQ_9 HKx_9
     clear HS0
     have HS0:Hid (w10.cell? ⟨Q,8,none⟩=some (.slice ax na qx)):=hZ (by exact(row_cell10 (uZ HBQ_10)).2.2.2.2.2.2.2.2.1)
     go_wp2_with fail
     refine hK.out _ _ (Or.inr (uZ HS0)) ?_
     clear hK K
     try simp only [Act.put,sA,sB,sC]
     obtain⟨w11,hwr⟩:∃zz,w10.alloc (.cells #[.int .i64 (ky:Int),.string (bA ty),.int .i64 (vky:Int),.int .i64 (vny:Int),.string (bA vsy),.slice none 0 0,.slice none 0 0,.bool fy,.slice aky ny cky,.int .i64 (py:Int)] 29)=zz:=⟨_,rfl⟩
     have b:Below w10.heap.size w10 w11:=by rw [←hwr];exact(Below.refl _ _).alloc (Nat.le_refl _) _
     obtain⟨hx,hhx⟩:∃zz,w10.heap.size=zz:=⟨_,rfl⟩
     have at4:Hid (w11.heap[hx]?=some (.cells #[.int .i64 (ky:Int),.string (bA ty),.int .i64 (vky:Int),.int .i64 (vny:Int),.string (bA vsy),.slice none 0 0,.slice none 0 0,.bool fy,.slice aky ny cky,.int .i64 (py:Int)] 29 (0,0))):=hZ (by rw [←hwr,←hhx];exact heap_alloc_new _ _)
     have S11:=hZ ((uZ S10).below b)
     have HBQ_11:=bx_be HBQ_10 b
     have HKx_11:=hZ ((uZ HKx_10).beside (Beside.of_below (gr:=c.g) b) (by omega))
     have HNy_11:=hZ ((uZ HNy_10).beside (Beside.of_below (gr:=c.g) b) (by omega))
     clear b S10 HBQ_10 HKx_10 HNy_10
     refine till_one 4 (by kernel_rfl) rfl (fun K hK=>?_)
     go_simp
     try rw [hwr]
     try rw [hhx]
     clear HS0
     have HS0:Hid (w11.cell? ⟨Q,8,none⟩=some (.slice ax na qx)):=hZ (by exact(row_cell10 (uZ HBQ_11)).2.2.2.2.2.2.2.2.1)
     refine hK.out _ _ (Or.inr (uZ HS0)) ?_
     clear hK K hwr hhx
     try simp only [Act.put,sA,sB,sC]
     obtain⟨ind,hi0,hi1,hi2,hi3⟩:=info_nd
     have hkl:=(uZ HKx_11).own
     rw [hlnx] at hkl
     have HKL:=hZ hkl
     clear hkl
     refine till_one 5 (by kernel_rfl) rfl (fun K hK=>?_)
     refine step_append_lies _ (by rfl) _ _ 27 (by rfl) lox 29 ind _ 10 144 Tryz.underlying27 hi0 hi1 hi2 hi3 rfl (by omega) (.slice ax na qx) (na) _ (by rfl) (uZ HKL) ⟨hx,0,none⟩ 1 1 [.int .i64 (ky:Int),.string (bA ty),.int .i64 (vky:Int),.int .i64 (vny:Int),.string (bA vsy),.slice none 0 0,.slice none 0 0,.bool fy,.slice aky ny cky,.int .i64 (py:Int)] (by rfl) (by rfl) (World.news_of_block (uZ at4)) (ndC_one _ _ _ _ _ _ _ _ _ _) (by omega) (by unfold maxLen;have:=hbna;omega) (by have:=hbna;omega) (uZ HKx_11).ok.le _ rfl ?_
     intro g5 cap5 w12 hown5 hgrow5 hat5 hlt5
     change K (Act.put _ (some 22) _) w12
     clear hi0 hi1 hi2 hi3 HKL ind at4
     have hne:∀x,x<lox→some x≠(.slice ax na qx:Value).ownBlock:=fun x hx e=>by have:=((uZ HKx_11).own.lt x e.symm).1;omega
     have bb:Below lox w11 w12:=(Below.refl _ _).grown hgrow5 (uZ HKx_11).ok.le (fun x hx=>((uZ HKx_11).own.lt x hx).1)
     have S12:=hZ ((uZ S11).below2 bb (by omega))
     have HBQ_12:Hid (w12.heap[Q]?=some (.cells #[.int .i64 7,.string ⟨#[]⟩,.int .i64 0,.int .i64 0,.string ⟨#[]⟩,.slice none 0 0,.slice none 0 0,.bool false,.slice ax na qx,.int .i64 (p:Int)] 29 (0,0))):=hZ ((bb.block Q (by omega)).trans (uZ HBQ_11))
     have HKn_12:=hZ (Kr.push (uZ HKx_11) (uZ HNy_11) (by omega) (uZ HWx_y).2 (uZ HWx_y).1 hown5 (by rw [List.length_append,hly,hlnx]) hgrow5 hat5)
     clear bb hne hown5 hgrow5 hat5 hlt5 HS0 S11 HBQ_11 HKx_11 HNy_11
     have HS0:Hid (w12.cell? ⟨Q,8,none⟩=some (.slice ax na qx)):=hZ (by exact(row_cell10 (uZ HBQ_12)).2.2.2.2.2.2.2.2.1)
     refine hK.out _ _ (Or.inr (uZ HS0)) ?_
     clear hK K
     try simp only [Act.put,sA,sB,sC]
     refine till_take 6 (v:=.pointer (some ⟨Q,8,none⟩)) (some 23) rfl rfl rfl (by kernel_rfl) (by kernel_rfl) (by kernel_rfl) (by kernel_rfl) (fun _ _ _ h=>h) (Or.inl ⟨by rfl,fun u hu=>by obtain b0:=hu;go_simp⟩) (uZ HS0) ?_
     try simp only [Act.put,sA,sB,sC]
     obtain⟨-,-,-,-,-,-,-,-,g8,-⟩:=row_cell10 (uZ HBQ_12)
     have z8:=frozen_of_row w12 Q 8 _ _ (uZ HBQ_12)
     refine till_one 7 (by kernel_rfl) rfl (fun K hK=>?_)
     go_simp
     refine hK.out _ _ (Or.inl (by first|rfl|trivial)) ?_
     clear hK K HS0 g8 z8
     try simp only [Act.put,sA,sB,sC]
     refine till_done (by kernel_rfl) ?_ _
     obtain⟨w13,hw⟩:∃zz,w12.setCell ⟨Q,8,none⟩ (.slice (some ⟨g5,0,none⟩) (na+1) cap5)=zz:=⟨_,rfl⟩
     have HBQ_13:Hid (w13.heap[Q]?=some (.cells #[.int .i64 7,.string ⟨#[]⟩,.int .i64 0,.int .i64 0,.string ⟨#[]⟩,.slice none 0 0,.slice none 0 0,.bool false,.slice (some ⟨g5,0,none⟩) (na+1) cap5,.int .i64 (p:Int)] 29 (0,0))):=hZ (by rw [←hw,heap_setCell_same w12 Q 8 _ _ _ (uZ HBQ_12)];rfl)
     have S13:Hid (St w c 29 #[.int .i64 0,.string ⟨#[]⟩,.int .i64 0,.int .i64 0,.string ⟨#[]⟩,.slice none 0 0,.slice none 0 0,.bool false,.slice none 0 0,.int .i64 0] w13 ly d):=hZ (by rw [←hw];exact(uZ S12).own Q 8 _ ltQ)
     have HKn_13:=hZ ((uZ HKn_12).but (q:=Q) (w':=w13) (fun b _ hb=>by rw [←hw];exact heap_setCell_other _ _ _ _ hb) (by rw [←hw];simp) (by omega))
     rw [hw]
     clear hw S12 HBQ_12 HKn_12
     have hr1:=okN_some (uZ HJ7)
     have hnn:=(uZ HKn_13).node' (show (nsx++nsy).length=na+1 by rw [List.length_append,hly,hlnx]) 7 [] 0 0 [] false p
     have HR:=hZ (hr1)
     have BX:=(uZ S13).bx
     rw [hG] at BX
     obtain⟨g0,g1,g2,g3,g4,g5,g6,g7,g8,g9⟩:=row_cell10 BX
     obtain⟨z0,z1,z2,z3,z4,z5,z6,z7,z8,z9⟩:=frozen10 BX
     clear BX
     obtain⟨Qc0,Qc1,Qc2,Qc3,Qc4,Qc5,Qc6,Qc7,Qc8,Qc9⟩:=row_cell10 (uZ HBQ_13)
     have FF:=hZ (St.done (uZ S13) (hnn.low (by omega)) rfl hG)
     go_wp2_with fail
     refine bodyPost_ret (ret_c1 (p:=2) (T:=29) rfl _ _ G _ _ _ rfl (uZ FF).1 Tryz.underlying29 rfl size_nd) rfl ?_
     rw [uZ HR]
     exact(uZ FF).2
   ·have hq:isK [105,102] lx.tail=false:=by simpa using hb
    have CC:=hZ ((by have:=seesKey_any (uZ S7).rd [105,102];rw [hq] at this;exact this))
    go_wp2_with fail
    refine(uZ CC).mono ?_
    rintro e w8 ⟨rfl,b⟩
    have S8:=hZ ((uZ S7).below b)
    have HBQ_8:=bx_be HBQ_7 b
    have HKx_8:=hZ ((uZ HKx_7).beside (Beside.of_below (gr:=c.g) b) (by omega))
    clear b CC S7 HBQ_7 HKx_7
    have HJ5:=hZ ((by have:=(uZ HJ4);rw [if_neg (by rw [hq];decide)] at this;exact this))
    clear HJ4
    go_upto_region 7 with fail
    obtain⟨-,-,-,-,-,-,-,-,Qc8,-⟩:=row_cell10 (uZ HBQ_8)
    have HS0:Hid (w8.drew.cell? ⟨Q,8,none⟩=some (.slice ax na qx)):=hZ (Qc8)
    refine till_begin (S:=fun w'=>w'.cell? ⟨Q,8,none⟩=some (.slice ax na qx)) 7 (by kernel_rfl) ?_
    obtain⟨w9,hWD⟩:∃zz,w8.drew=zz:=⟨_,rfl⟩
    have bD:Below w8.heap.size w8 w9:=by rw [←hWD];exact(Below.refl _ _).drew
    rw [hWD] at HS0
    rw [hWD]
    have S9:=hZ ((uZ S8).below bD)
    have HBQ_9:=bx_be HBQ_8 bD
    have HKx_9:=hZ ((uZ HKx_8).beside (Beside.of_below (gr:=c.g) bD) (by omega))
    clear hWD bD S8 HBQ_8 HKx_8
    clear Qc8
    refine till_take 0 (v:=.pointer (some ⟨Q,8,none⟩)) (some 24) rfl rfl rfl (by kernel_rfl) (by kernel_rfl) (by kernel_rfl) (by kernel_rfl) (fun _ _ _ h=>h) (Or.inl ⟨by rfl,fun u hu=>by obtain b0:=hu;go_simp⟩) (uZ HS0) ?_
    try simp only [Act.put,sA,sB,sC]
    refine till_take 1 (v:=.slice ax na qx) (some 25) rfl rfl rfl (by kernel_rfl) (by kernel_rfl) (by kernel_rfl) (by kernel_rfl) (fun _ _ _ h=>h) (Or.inl ⟨by rfl,fun u hu=>by obtain b0:=hu;go_simp⟩) (uZ HS0) ?_
    try simp only [Act.put,sA,sB,sC]
    refine till_take 2 (v:=.pointer (some ⟨c.g,0,none⟩)) (some 26) rfl rfl rfl (by kernel_rfl) (by kernel_rfl) (by kernel_rfl) (by kernel_rfl) (fun _ _ _ h=>h) (Or.inl ⟨by rfl,fun u hu=>by obtain b0:=hu;go_simp⟩) (uZ HS0) ?_
    try simp only [Act.put,sA,sB,sC]
    obtain⟨yy,hy,hth⟩:=bnd_some (uZ HJ5)
    have HJ6:=hZ (hth)
    clear HJ5
    clear hth
    have CR:=hZ (ihb hy (uZ S9).rd)
    have HYX:=hZ hy
    clear hy
    rcases yy with ⟨ea,ep⟩|⟨nsy,ly⟩
    ·have HR:=hZ (thn_err (uZ HJ6))
     refine till_one 3 (by kernel_rfl) rfl (fun K hK=>?_)
     go_simp
     refine(uZ CR).mono ?_
     rintro e wx ⟨rfl,b⟩
     have HX:=hZ ((uZ S9).bad b)
     clear b CR
     unfold fltP
     go_wp2_with fail
     exact⟨rfl,by rw [uZ HR];exact⟨rfl,uZ HX⟩⟩
    ·have HJ7:=hZ (thn_ok (uZ HJ6))
     clear HJ6
     refine till_one 3 (by kernel_rfl) rfl (fun K hK=>?_)
     go_simp
     refine(uZ CR).mono ?_
     rintro e w10 ⟨ky,ty,vky,vny,vsy,fy,ny,aky,cky,py,Zy,rfl,hly,hn,r2,b⟩
     have S10:=hZ ((uZ S9).go b r2)
     have HBQ_10:=bx_go HBQ_9 b (by omega)
     have HKx_10:=hZ ((uZ HKx_9).beside b (by omega))
     obtain⟨loy,hlo⟩:∃zz,w9.heap.size=zz:=⟨_,rfl⟩
     have ltloy:w.heap.size<loy:=by rw [←hlo];exact(uZ S9).lt
     have lqQ_y:Q<loy:=by rw [←hlo];exact(Array.getElem?_eq_some_iff.1 (uZ HBQ_9)).1
     have HWx_y:=hZ ((uZ HKx_9).vlt hlo)
     have lex_y:=(uZ HKx_9).ok.le
     rw [hlo] at lex_y
     rw [hlo] at hn
     have HNy_10:=hZ hn
     clear hlo b r2 hn CR S9 HBQ_9 HKx_9
     clear HS0
     have HS0:Hid (w10.cell? ⟨Q,8,none⟩=some (.slice ax na qx)):=hZ (by exact(row_cell10 (uZ HBQ_10)).2.2.2.2.2.2.2.2.1)
     go_wp2_with fail
     refine hK.out _ _ (Or.inr (uZ HS0)) ?_
     clear hK K
     try simp only [Act.put,sA,sB,sC]
     obtain⟨w11,hwr⟩:∃zz,w10.alloc (.cells #[.int .i64 (ky:Int),.string (bA ty),.int .i64 (vky:Int),.int .i64 (vny:Int),.string (bA vsy),.slice none 0 0,.slice none 0 0,.bool fy,.slice aky ny cky,.int .i64 (py:Int)] 29)=zz:=⟨_,rfl⟩
     have b:Below w10.heap.size w10 w11:=by rw [←hwr];exact(Below.refl _ _).alloc (Nat.le_refl _) _
     obtain⟨hx,hhx⟩:∃zz,w10.heap.size=zz:=⟨_,rfl⟩
     have at4:Hid (w11.heap[hx]?=some (.cells #[.int .i64 (ky:Int),.string (bA ty),.int .i64 (vky:Int),.int .i64 (vny:Int),.string (bA vsy),.slice none 0 0,.slice none 0 0,.bool fy,.slice aky ny cky,.int .i64 (py:Int)] 29 (0,0))):=hZ (by rw [←hwr,←hhx];exact heap_alloc_new _ _)
     have S11:=hZ ((uZ S10).below b)
     have HBQ_11:=bx_be HBQ_10 b
     have HKx_11:=hZ ((uZ HKx_10).beside (Beside.of_below (gr:=c.g) b) (by omega))
     have HNy_11:=hZ ((uZ HNy_10).beside (Beside.of_below (gr:=c.g) b) (by omega))
     clear b S10 HBQ_10 HKx_10 HNy_10
     refine till_one 4 (by kernel_rfl) rfl (fun K hK=>?_)
     go_simp
     try rw [hwr]
     try rw [hhx]
     clear HS0
     have HS0:Hid (w11.cell? ⟨Q,8,none⟩=some (.slice ax na qx)):=hZ (by exact(row_cell10 (uZ HBQ_11)).2.2.2.2.2.2.2.2.1)
     refine hK.out _ _ (Or.inr (uZ HS0)) ?_
     clear hK K hwr hhx
     try simp only [Act.put,sA,sB,sC]
     obtain⟨ind,hi0,hi1,hi2,hi3⟩:=info_nd
     have hkl:=(uZ HKx_11).own
     rw [hlnx] at hkl
     have HKL:=hZ hkl
     clear hkl
     refine till_one 5 (by kernel_rfl) rfl (fun K hK=>?_)
     refine step_append_lies _ (by rfl) _ _ 27 (by rfl) lox 29 ind _ 10 144 Tryz.underlying27 hi0 hi1 hi2 hi3 rfl (by omega) (.slice ax na qx) (na) _ (by rfl) (uZ HKL) ⟨hx,0,none⟩ 1 1 [.int .i64 (ky:Int),.string (bA ty),.int .i64 (vky:Int),.int .i64 (vny:Int),.string (bA vsy),.slice none 0 0,.slice none 0 0,.bool fy,.slice aky ny cky,.int .i64 (py:Int)] (by rfl) (by rfl) (World.news_of_block (uZ at4)) (ndC_one _ _ _ _ _ _ _ _ _ _) (by omega) (by unfold maxLen;have:=hbna;omega) (by have:=hbna;omega) (uZ HKx_11).ok.le _ rfl ?_
     intro g5 cap5 w12 hown5 hgrow5 hat5 hlt5
     change K (Act.put _ (some 29) _) w12
     clear hi0 hi1 hi2 hi3 HKL ind at4
     have hne:∀x,x<lox→some x≠(.slice ax na qx:Value).ownBlock:=fun x hx e=>by have:=((uZ HKx_11).own.lt x e.symm).1;omega
     have bb:Below lox w11 w12:=(Below.refl _ _).grown hgrow5 (uZ HKx_11).ok.le (fun x hx=>((uZ HKx_11).own.lt x hx).1)
     have S12:=hZ ((uZ S11).below2 bb (by omega))
     have HBQ_12:Hid (w12.heap[Q]?=some (.cells #[.int .i64 7,.string ⟨#[]⟩,.int .i64 0,.int .i64 0,.string ⟨#[]⟩,.slice none 0 0,.slice none 0 0,.bool false,.slice ax na qx,.int .i64 (p:Int)] 29 (0,0))):=hZ ((bb.block Q (by omega)).trans (uZ HBQ_11))
     have HKn_12:=hZ (Kr.push (uZ HKx_11) (uZ HNy_11) (by omega) (uZ HWx_y).2 (uZ HWx_y).1 hown5 (by rw [List.length_append,hly,hlnx]) hgrow5 hat5)
     clear bb hne hown5 hgrow5 hat5 hlt5 HS0 S11 HBQ_11 HKx_11 HNy_11
     have HS0:Hid (w12.cell? ⟨Q,8,none⟩=some (.slice ax na qx)):=hZ (by exact(row_cell10 (uZ HBQ_12)).2.2.2.2.2.2.2.2.1)
     refine hK.out _ _ (Or.inr (uZ HS0)) ?_
     clear hK K
     try simp only [Act.put,sA,sB,sC]
     refine till_take 6 (v:=.pointer (some ⟨Q,8,none⟩)) (some 30) rfl rfl rfl (by kernel_rfl) (by kernel_rfl) (by kernel_rfl) (by kernel_rfl) (fun _ _ _ h=>h) (Or.inl ⟨by rfl,fun u hu=>by obtain b0:=hu;go_simp⟩) (uZ HS0) ?_
     try simp only [Act.put,sA,sB,sC]
     obtain⟨-,-,-,-,-,-,-,-,g8,-⟩:=row_cell10 (uZ HBQ_12)
     have z8:=frozen_of_row w12 Q 8 _ _ (uZ HBQ_12)
     refine till_one 7 (by kernel_rfl) rfl (fun K hK=>?_)
     go_simp
     refine hK.out _ _ (Or.inl (by first|rfl|trivial)) ?_
     clear hK K HS0 g8 z8
     try simp only [Act.put,sA,sB,sC]
     refine till_done (by kernel_rfl) ?_ _
     obtain⟨w13,hw⟩:∃zz,w12.setCell ⟨Q,8,none⟩ (.slice (some ⟨g5,0,none⟩) (na+1) cap5)=zz:=⟨_,rfl⟩
     have HBQ_13:Hid (w13.heap[Q]?=some (.cells #[.int .i64 7,.string ⟨#[]⟩,.int .i64 0,.int .i64 0,.string ⟨#[]⟩,.slice none 0 0,.slice none 0 0,.bool false,.slice (some ⟨g5,0,none⟩) (na+1) cap5,.int .i64 (p:Int)] 29 (0,0))):=hZ (by rw [←hw,heap_setCell_same w12 Q 8 _ _ _ (uZ HBQ_12)];rfl)
     have S13:Hid (St w c 29 #[.int .i64 0,.string ⟨#[]⟩,.int .i64 0,.int .i64 0,.string ⟨#[]⟩,.slice none 0 0,.slice none 0 0,.bool false,.slice none 0 0,.int .i64 0] w13 ly d):=hZ (by rw [←hw];exact(uZ S12).own Q 8 _ ltQ)
     have HKn_13:=hZ ((uZ HKn_12).but (q:=Q) (w':=w13) (fun b _ hb=>by rw [←hw];exact heap_setCell_other _ _ _ _ hb) (by rw [←hw];simp) (by omega))
     rw [hw]
     clear hw S12 HBQ_12 HKn_12
     have hr1:=okN_some (uZ HJ7)
     have hnn:=(uZ HKn_13).node' (show (nsx++nsy).length=na+1 by rw [List.length_append,hly,hlnx]) 7 [] 0 0 [] false p
     have HR:=hZ (hr1)
     have BX:=(uZ S13).bx
     rw [hG] at BX
     obtain⟨g0,g1,g2,g3,g4,g5,g6,g7,g8,g9⟩:=row_cell10 BX
     obtain⟨z0,z1,z2,z3,z4,z5,z6,z7,z8,z9⟩:=frozen10 BX
     clear BX
     obtain⟨Qc0,Qc1,Qc2,Qc3,Qc4,Qc5,Qc6,Qc7,Qc8,Qc9⟩:=row_cell10 (uZ HBQ_13)
     have FF:=hZ (St.done (uZ S13) (hnn.low (by omega)) rfl hG)
     go_wp2_with fail
     refine bodyPost_ret (ret_c1 (p:=2) (T:=29) rfl _ _ G _ _ _ rfl (uZ FF).1 Tryz.underlying29 rfl size_nd) rfl ?_
     rw [uZ HR]
     exact(uZ FF).2
  ·have hq:isK [101,108,115,101] lx=false:=by simpa using hb
   have CC:=hZ ((by have:=seesKey_any (uZ S5).rd [101,108,115,101];rw [hq] at this;exact this))
   go_wp2_with fail
   refine(uZ CC).mono ?_
   rintro e w6 ⟨rfl,b⟩
   have S6:=hZ ((uZ S5).below b)
   have HBQ_6:=bx_be HBQ_5 b
   have HKx_6:=hZ ((uZ HKx_5).beside (Beside.of_below (gr:=c.g) b) (by omega))
   clear b CC S5 HBQ_5 HKx_5
   have HJ4:=hZ ((by have:=(uZ HJ3);rw [if_neg (by rw [hq];decide)] at this;exact this))
   clear HJ3
   have hr1:=okN_some (uZ HJ4)
   have hnn:=(uZ HKx_6).node' hlnx 7 [] 0 0 [] false p
   have HR:=hZ (hr1)
   have BX:=(uZ S6).bx
   rw [hG] at BX
   obtain⟨g0,g1,g2,g3,g4,g5,g6,g7,g8,g9⟩:=row_cell10 BX
   obtain⟨z0,z1,z2,z3,z4,z5,z6,z7,z8,z9⟩:=frozen10 BX
   clear BX
   obtain⟨Qc0,Qc1,Qc2,Qc3,Qc4,Qc5,Qc6,Qc7,Qc8,Qc9⟩:=row_cell10 (uZ HBQ_6)
   have FF:=hZ (St.done (uZ S6) (hnn.low (by omega)) rfl hG)
   go_wp2_with fail
   refine bodyPost_ret (ret_c1 (p:=2) (T:=29) rfl _ _ G _ _ _ rfl (uZ FF).1 Tryz.underlying29 rfl size_nd) rfl ?_
   rw [uZ HR]
   exact(uZ FF).2
end Go.Proofs.YtilhlmmcdfoaoaaGreatDoor
