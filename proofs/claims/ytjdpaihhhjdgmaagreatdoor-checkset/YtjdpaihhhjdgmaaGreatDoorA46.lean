/-
  Layer 17 (parse): functions; conditions: the reader's state.
-/
import Derived.Test.YtjdpaihhhjdgmaaGreatDoorA39
import Derived.Deep.LoopGhost
set_option linter.unusedVariables false
set_option linter.unusedSimpArgs false
set_option maxRecDepth 100000
set_option maxHeartbeats 8000000
namespace Go.Proofs.YtjdpaihhhjdgmaaGreatDoor
open Go.RowKit
set_option linter.unusedVariables false
set_option linter.unusedSimpArgs false
theorem fun_step {c:Cx} {l:List Tk} {d:Nat} {w:World} {r:Rs (List Nd)} {f:Nat} (ihp:∀{c:Cx} {l:List Tk} {d:Nat} {w:World} {r:Rs (List Nd)},PJ f 6 0 [] l d=some r→Rd w c l d→Calls Tryz.prog 78 #[.pointer (some ⟨c.g,0,none⟩),.string (bA [41]),.func (Fn.func 79) #[.pointer (some ⟨c.g,0,none⟩)] #[]] w fun e w'=>KsP c w d r e w') (ihb:∀{c:Cx} {l:List Tk} {d:Nat} {w:World} {r:Rs (List Nd)},PJ f 10 0 [] l d=some r→Rd w c l d→Calls Tryz.prog 80 #[.pointer (some ⟨c.g,0,none⟩)] w fun e w'=>NdP c w d r e w') (hJ:PJ (f+1) 13 0 [] l d=some r) (h:Rd w c l d) :
  Calls Tryz.prog 38 #[.pointer (some ⟨c.g,0,none⟩)] w fun e w'=>NdP c w d r e w':=by
 have S1:=hZ (St.start h 28 #[.int .i64 0,.string ⟨#[]⟩,.int .i64 0,.int .i64 0,.string ⟨#[]⟩,.slice none 0 0,.slice none 0 0,.bool false,.slice none 0 0,.int .i64 0])
 obtain⟨w1,hw1⟩:=eX (w.alloc (.cells #[.int .i64 0,.string ⟨#[]⟩,.int .i64 0,.int .i64 0,.string ⟨#[]⟩,.slice none 0 0,.slice none 0 0,.bool false,.slice none 0 0,.int .i64 0] 28))
 rw [hw1] at S1
 obtain⟨G,hG⟩:=eX (w.heap.size)
 have hgw:c.g<w.heap.size:=h.cells.2.2.2.2.2
 clear h
 go_enter Tryz.func38,Tryz.ntmps38
 have HJ0:=hZ (show jFun (PJ f) l d=some r from hJ)
 clear hJ
 obtain⟨⟨k,t,n,p⟩,ht⟩:∃t,hdT l=t:=⟨_,rfl⟩
 have HT:=hZ ht
 clear ht
 have HJ1:=hZ ((by have:=uZ HJ0;unfold jFun at this;rw [uZ HT] at this;exact this))
 clear HJ0
 have CC:=hZ ((by have:=token_any (uZ S1).rd;rw [uZ HT] at this;simp only [tkA] at this;exact this))
 go_wp2_with fail
 refine(uZ CC).mono ?_
 rintro e w2 ⟨rfl,b⟩
 have S2:=hZ ((uZ S1).below b)
 clear b CC S1
 go_upto_region 2 with (first|(refine wpl_tk3 rfl _ rfl _ _ _ _ rfl ?_)|(refine wpl_tk1 rfl _ rfl _ _ _ _ rfl ?_)|(refine wpl_tk0 rfl _ rfl _ _ _ _ rfl ?_))
 obtain⟨w3,hw⟩:=eX (w2.alloc (.cells #[.int .i64 2,.string ⟨#[]⟩,.int .i64 0,.int .i64 0,.string ⟨#[]⟩,.slice none 0 0,.slice none 0 0,.bool false,.slice none 0 0,.int .i64 (p:Int)] 28))
 have b:=alB hw
 obtain⟨Q,hQ⟩:=eX (w2.heap.size)
 have HBQ_3:Hid (w3.heap[Q]?=some (.cells #[.int .i64 2,.string ⟨#[]⟩,.int .i64 0,.int .i64 0,.string ⟨#[]⟩,.slice none 0 0,.slice none 0 0,.bool false,.slice none 0 0,.int .i64 (p:Int)] 28 (0,0))):=hZ (by rw [←hw,←hQ];exact heap_alloc_new _ _)
 have S3:=hZ ((uZ S2).below b)
 have ltQ:w.heap.size<Q:=by rw [←hQ];exact(uZ S2).lt
 rw [hw]
 try rw [hQ]
 clear hw hQ b S2
 by_cases hb:isK [101,120,112,111,114,116] l=true
 ·have hq:isK [101,120,112,111,114,116] l=true:=by simpa using hb
  have CC:=hZ ((by have:=seesKey_any (uZ S3).rd [101,120,112,111,114,116];rw [hq] at this;exact this))
  go_wp2_with fail
  refine(uZ CC).mono ?_
  rintro e w4 ⟨rfl,b⟩
  have S4:=hZ ((uZ S3).below b)
  have HBQ_4:=bx_be HBQ_3 b
  clear b CC S3 HBQ_3
  have HJ2:=hZ ((by have:=(uZ HJ1);rw [if_pos hq] at this;exact this))
  clear HJ1
  have hkk:=isK_k hq
  have HK0:=hZ hkk
  clear hkk
  have CC:=hZ ((by have:=pass_any (uZ S4).rd (uZ HK0);rw [uZ HT] at this;simp only [tkA] at this;exact this))
  go_wp2_with fail
  refine(uZ CC).mono ?_
  rintro e w5 ⟨rfl,r2,b⟩
  have S5:=hZ ((uZ S4).go b r2)
  have HBQ_5:=bx_go HBQ_4 b (by omega)
  clear b r2 CC S4 HBQ_4
  obtain⟨-,-,-,-,-,-,-,Qc7,-,-⟩:=row_cell10 (uZ HBQ_5)
  have Qf7:=frozen_of_row w5 Q 7 _ _ (uZ HBQ_5)
  go_upto_region 5 with fail
  clear Qc7 Qf7
  obtain⟨w6,hw⟩:=eX (w5.setCell ⟨Q,7,none⟩ (.bool true))
  have HBQ_6:Hid (w6.heap[Q]?=some (.cells #[.int .i64 2,.string ⟨#[]⟩,.int .i64 0,.int .i64 0,.string ⟨#[]⟩,.slice none 0 0,.slice none 0 0,.bool true,.slice none 0 0,.int .i64 (p:Int)] 28 (0,0))):=hZ (by rw [←hw,heap_setCell_same w5 Q 7 _ _ _ (uZ HBQ_5)];rfl)
  have S6:Hid (St w c 28 #[.int .i64 0,.string ⟨#[]⟩,.int .i64 0,.int .i64 0,.string ⟨#[]⟩,.slice none 0 0,.slice none 0 0,.bool false,.slice none 0 0,.int .i64 0] w6 l.tail d):=hZ (by rw [←hw];exact(uZ S5).own Q 7 _ ltQ)
  rw [hw]
  clear hw S5 HBQ_5
  have HJ3:=hZ ((by have:=(uZ HJ2);unfold jFn at this;exact this))
  clear HJ2
  by_cases hb:isK [102,110] l.tail=true
  ·have hq:isK [102,110] l.tail=true:=by simpa using hb
   have HJ4:=hZ (thn_ky hq (uZ HJ3))
   clear HJ3
   have CC:=hZ (pky_ok (uZ S6).rd [102,110] hq)
   go_wp2_with fail
   refine(uZ CC).mono ?_
   rintro e w7 ⟨rfl,r2,b⟩
   have S7:=hZ ((uZ S6).go b r2)
   have HBQ_7:=bx_go HBQ_6 b (by omega)
   clear b r2 CC S6 HBQ_6
   obtain⟨⟨k2,t2,n2,p2⟩,ht⟩:∃t,hdT l.tail.tail=t:=⟨_,rfl⟩
   have HT2:=hZ ht
   clear ht
   by_cases hq:(hdT l.tail.tail).k=1
   ·have HJ5:=hZ ((by have:=thn_nm hq (uZ HJ4);rw [uZ HT2] at this;exact this))
    clear HJ4
    have CC:=hZ ((by have:=pnm_ok (uZ S7).rd hq;rw [uZ HT2] at this;simp only [tkA] at this;exact this))
    go_wp2_with fail
    refine(uZ CC).mono ?_
    rintro e w8 ⟨rfl,r2,b⟩
    have S8:=hZ ((uZ S7).go b r2)
    have HBQ_8:=bx_go HBQ_7 b (by omega)
    clear b r2 CC S7 HBQ_7
    obtain⟨-,Qc1,-,-,-,-,-,-,-,-⟩:=row_cell10 (uZ HBQ_8)
    have Qf1:=frozen_of_row w8 Q 1 _ _ (uZ HBQ_8)
    go_upto_region 7 with (first|(refine wpl_tk3 rfl _ rfl _ _ _ _ rfl ?_)|(refine wpl_tk1 rfl _ rfl _ _ _ _ rfl ?_)|(refine wpl_tk0 rfl _ rfl _ _ _ _ rfl ?_))
    clear Qc1 Qf1
    obtain⟨w9,hw⟩:=eX (w8.setCell ⟨Q,1,none⟩ (.string (bA t2)))
    have HBQ_9:Hid (w9.heap[Q]?=some (.cells #[.int .i64 2,.string (bA t2),.int .i64 0,.int .i64 0,.string ⟨#[]⟩,.slice none 0 0,.slice none 0 0,.bool true,.slice none 0 0,.int .i64 (p:Int)] 28 (0,0))):=hZ (by rw [←hw,heap_setCell_same w8 Q 1 _ _ _ (uZ HBQ_8)];rfl)
    have S9:Hid (St w c 28 #[.int .i64 0,.string ⟨#[]⟩,.int .i64 0,.int .i64 0,.string ⟨#[]⟩,.slice none 0 0,.slice none 0 0,.bool false,.slice none 0 0,.int .i64 0] w9 l.tail.tail.tail d):=hZ (by rw [←hw];exact(uZ S8).own Q 1 _ ltQ)
    rw [hw]
    clear hw S8 HBQ_8
    by_cases hb:isS [40] l.tail.tail.tail=true
    ·have hq:isS [40] l.tail.tail.tail=true:=by simpa using hb
     have HJ6:=hZ (thn_sg hq (uZ HJ5))
     clear HJ5
     have CC:=hZ (psg_ok (uZ S9).rd [40] hq)
     go_wp2_with fail
     refine(uZ CC).mono ?_
     rintro e w10 ⟨rfl,r2,b⟩
     have S10:=hZ ((uZ S9).go b r2)
     have HBQ_10:=bx_go HBQ_9 b (by omega)
     clear b r2 CC S9 HBQ_9
     have hn4:(l.tail.tail.tail.tail).length≤10000:=by have h1:=(uZ S10).rd.head;have h2:=(uZ S10).rd.len;omega
     obtain⟨yx,hy,hth⟩:=bnd_some (uZ HJ6)
     have HJ7:=hZ (hth)
     clear HJ6
     clear hth
     have CR:=hZ (ihp hy (uZ S10).rd)
     have HYX:=hZ hy
     clear hy
     rcases yx with ⟨ea,ep⟩|⟨nsx,lx⟩
     ·have HR:=hZ (thn_err (uZ HJ7))
      go_wp2_with fail
      refine(uZ CR).mono ?_
      rintro e wx ⟨rfl,b⟩
      have HX:=hZ ((uZ S10).bad b)
      clear b CR
      unfold fltP
      go_wp2_with fail
      exact⟨rfl,by rw [uZ HR];exact⟨rfl,uZ HX⟩⟩
     ·have HJ8:=hZ (thn_ok (uZ HJ7))
      clear HJ7
      go_wp2_with fail
      refine(uZ CR).mono ?_
      rintro e w11 ⟨ax,qx,Cx,Zx,rfl,hk,r2,b⟩
      have S11:=hZ ((uZ S10).go b r2)
      have HBQ_11:=bx_go HBQ_10 b (by omega)
      obtain⟨lox,hlo⟩:=eX (w10.heap.size)
      have ltlox:w.heap.size<lox:=by rw [←hlo];exact(uZ S10).lt
      have lqQ_x:Q<lox:=by rw [←hlo];exact(Array.getElem?_eq_some_iff.1 (uZ HBQ_10)).1
      rw [hlo] at hk
      have HKx_11:=hZ hk
      clear hlo b r2 hk CR S10 HBQ_10
      obtain⟨na,hlnx⟩:=eX (nsx.length)
      rw [hlnx] at HKx_11
      try rw [hlnx]
      have hbna:na+lx.length≤10000:=by have h1:=PJ_len f 6 0 [] _ d nsx lx ⟨by decide,by omega⟩ (uZ HYX);simp only [twoJ,List.length_nil,reduceIte,Nat.reduceEqDiff] at h1;have h2:=hn4;omega
      obtain⟨-,-,-,-,-,-,-,-,Qc8,-⟩:=row_cell10 (uZ HBQ_11)
      have Qf8:=frozen_of_row w11 Q 8 _ _ (uZ HBQ_11)
      go_upto_region 9 with fail
      clear Qc8 Qf8
      try rw [hlnx]
      obtain⟨w12,hw⟩:=eX (w11.setCell ⟨Q,8,none⟩ (.slice ax na qx))
      have HBQ_12:Hid (w12.heap[Q]?=some (.cells #[.int .i64 2,.string (bA t2),.int .i64 0,.int .i64 0,.string ⟨#[]⟩,.slice none 0 0,.slice none 0 0,.bool true,.slice ax na qx,.int .i64 (p:Int)] 28 (0,0))):=hZ (by rw [←hw,heap_setCell_same w11 Q 8 _ _ _ (uZ HBQ_11)];rfl)
      have S12:Hid (St w c 28 #[.int .i64 0,.string ⟨#[]⟩,.int .i64 0,.int .i64 0,.string ⟨#[]⟩,.slice none 0 0,.slice none 0 0,.bool false,.slice none 0 0,.int .i64 0] w12 lx d):=hZ (by rw [←hw];exact(uZ S11).own Q 8 _ ltQ)
      have HKx_12:=hZ ((uZ HKx_11).but (q:=Q) (w':=w12) (fun b _ hb=>by rw [←hw];exact heap_setCell_other _ _ _ _ hb) (by rw [←hw];simp) (by omega))
      rw [hw]
      clear hw S11 HBQ_11 HKx_11
      by_cases hb:isS [41] lx=true
      ·have hq:isS [41] lx=true:=by simpa using hb
       have HJ9:=hZ (thn_sg hq (uZ HJ8))
       clear HJ8
       have CC:=hZ (psg_ok (uZ S12).rd [41] hq)
       go_wp2_with fail
       refine(uZ CC).mono ?_
       rintro e w13 ⟨rfl,r2,b⟩
       have S13:=hZ ((uZ S12).go b r2)
       have HBQ_13:=bx_go HBQ_12 b (by omega)
       have HKx_13:=hZ ((uZ HKx_12).beside b (by omega))
       clear b r2 CC S12 HBQ_12 HKx_12
       go_upto_region 10 with fail
       obtain⟨-,-,-,-,-,-,-,-,Qc8,-⟩:=row_cell10 (uZ HBQ_13)
       have HS0:Hid (w13.drew.cell? ⟨Q,8,none⟩=some (.slice ax na qx)):=hZ (Qc8)
       refine till_begin (S:=fun w'=>w'.cell? ⟨Q,8,none⟩=some (.slice ax na qx)) 7 (by kernel_rfl) ?_
       obtain⟨w14,hWD⟩:=eX (w13.drew)
       have bD:Below w13.heap.size w13 w14:=by rw [←hWD];exact(Below.refl _ _).drew
       rw [hWD] at HS0
       rw [hWD]
       have S14:=hZ ((uZ S13).below bD)
       have HBQ_14:=bx_be HBQ_13 bD
       have HKx_14:=hZ ((uZ HKx_13).beside (Beside.of_below (gr:=c.g) bD) (by omega))
       clear hWD bD S13 HBQ_13 HKx_13
       clear Qc8
       refine tK 0 (v:=.pointer (some ⟨Q,8,none⟩)) (some 28) rfl rfl rfl (by kernel_rfl) (fun _ _ _ h=>h) (Or.inl ⟨by rfl,fun u hu=>by obtain b0:=hu;go_simp⟩) (uZ HS0) ?_
       try simp only [Act.put,sA,sB,sC]
       refine tK 1 (v:=.slice ax na qx) (some 29) rfl rfl rfl (by kernel_rfl) (fun _ _ _ h=>h) (Or.inl ⟨by rfl,fun u hu=>by obtain b0:=hu;go_simp⟩) (uZ HS0) ?_
       try simp only [Act.put,sA,sB,sC]
       refine tK 2 (v:=.pointer (some ⟨c.g,0,none⟩)) (some 30) rfl rfl rfl (by kernel_rfl) (fun _ _ _ h=>h) (Or.inl ⟨by rfl,fun u hu=>by obtain b0:=hu;go_simp⟩) (uZ HS0) ?_
       try simp only [Act.put,sA,sB,sC]
       obtain⟨yy,hy,hth⟩:=bnd_some (uZ HJ9)
       have HJ10:=hZ (hth)
       clear HJ9
       clear hth
       have CR:=hZ (ihb hy (uZ S14).rd)
       have HYX:=hZ hy
       clear hy
       rcases yy with ⟨ea,ep⟩|⟨nsy,ly⟩
       ·have HR:=hZ (thn_err (uZ HJ10))
        refine till_one 3 (by kernel_rfl) rfl (fun K hK=>?_)
        go_simp
        refine(uZ CR).mono ?_
        rintro e wx ⟨rfl,b⟩
        have HX:=hZ ((uZ S14).bad b)
        clear b CR
        unfold fltP
        go_wp2_with fail
        exact⟨rfl,by rw [uZ HR];exact⟨rfl,uZ HX⟩⟩
       ·have HJ11:=hZ (thn_ok (uZ HJ10))
        clear HJ10
        refine till_one 3 (by kernel_rfl) rfl (fun K hK=>?_)
        go_simp
        refine(uZ CR).mono ?_
        rintro e w15 ⟨ky,ty,vky,vny,vsy,fy,ny,aky,cky,py,Zy,rfl,hly,hn,r2,b⟩
        have S15:=hZ ((uZ S14).go b r2)
        have HBQ_15:=bx_go HBQ_14 b (by omega)
        have HKx_15:=hZ ((uZ HKx_14).beside b (by omega))
        obtain⟨loy,hlo⟩:=eX (w14.heap.size)
        have ltloy:w.heap.size<loy:=by rw [←hlo];exact(uZ S14).lt
        have lqQ_y:Q<loy:=by rw [←hlo];exact(Array.getElem?_eq_some_iff.1 (uZ HBQ_14)).1
        have HWx_y:=hZ ((uZ HKx_14).vlt hlo)
        have lex_y:=(uZ HKx_14).ok.le
        rw [hlo] at lex_y
        rw [hlo] at hn
        have HNy_15:=hZ hn
        clear hlo b r2 hn CR S14 HBQ_14 HKx_14
        clear HS0
        have HS0:Hid (w15.cell? ⟨Q,8,none⟩=some (.slice ax na qx)):=hZ (by exact(row_cell10 (uZ HBQ_15)).2.2.2.2.2.2.2.2.1)
        go_wp2_with fail
        refine hK.out _ _ (Or.inr (uZ HS0)) ?_
        clear hK K
        try simp only [Act.put,sA,sB,sC]
        obtain⟨w16,hwr⟩:=eX (w15.alloc (.cells #[.int .i64 (ky:Int),.string (bA ty),.int .i64 (vky:Int),.int .i64 (vny:Int),.string (bA vsy),.slice none 0 0,.slice none 0 0,.bool fy,.slice aky ny cky,.int .i64 (py:Int)] 28))
        have b:=alB hwr
        obtain⟨hx,hhx⟩:=eX (w15.heap.size)
        have at4:Hid (w16.heap[hx]?=some (.cells #[.int .i64 (ky:Int),.string (bA ty),.int .i64 (vky:Int),.int .i64 (vny:Int),.string (bA vsy),.slice none 0 0,.slice none 0 0,.bool fy,.slice aky ny cky,.int .i64 (py:Int)] 28 (0,0))):=hZ (by rw [←hwr,←hhx];exact heap_alloc_new _ _)
        have S16:=hZ ((uZ S15).below b)
        have HBQ_16:=bx_be HBQ_15 b
        have HKx_16:=hZ ((uZ HKx_15).beside (Beside.of_below (gr:=c.g) b) (by omega))
        have HNy_16:=hZ ((uZ HNy_15).beside (Beside.of_below (gr:=c.g) b) (by omega))
        clear b S15 HBQ_15 HKx_15 HNy_15
        refine till_one 4 (by kernel_rfl) rfl (fun K hK=>?_)
        go_simp
        try rw [hwr]
        try rw [hhx]
        clear HS0
        have HS0:Hid (w16.cell? ⟨Q,8,none⟩=some (.slice ax na qx)):=hZ (by exact(row_cell10 (uZ HBQ_16)).2.2.2.2.2.2.2.2.1)
        refine hK.out _ _ (Or.inr (uZ HS0)) ?_
        clear hK K hwr hhx
        try simp only [Act.put,sA,sB,sC]
        obtain⟨ind,hi0,hi1,hi2,hi3⟩:=info_nd
        have hkl:=(uZ HKx_16).own
        rw [hlnx] at hkl
        have HKL:=hZ hkl
        clear hkl
        refine till_one 5 (by kernel_rfl) rfl (fun K hK=>?_)
        refine step_append_lies _ (by rfl) _ _ 26 (by rfl) lox 28 ind _ 10 144 Tryz.underlying26 hi0 hi1 hi2 hi3 rfl (by omega) (.slice ax na qx) (na) _ (by rfl) (uZ HKL) ⟨hx,0,none⟩ 1 1 [.int .i64 (ky:Int),.string (bA ty),.int .i64 (vky:Int),.int .i64 (vny:Int),.string (bA vsy),.slice none 0 0,.slice none 0 0,.bool fy,.slice aky ny cky,.int .i64 (py:Int)] (by rfl) (by rfl) (World.news_of_block (uZ at4)) (ndC_one _ _ _ _ _ _ _ _ _ _) (by omega) (by unfold maxLen;have:=hbna;omega) (by have:=hbna;omega) (uZ HKx_16).ok.le _ rfl ?_
        intro g5 cap5 w17 hown5 hgrow5 hat5 hlt5
        change K (Act.put _ (some 33) _) w17
        clear hi0 hi1 hi2 hi3 HKL ind at4
        have hne:∀x,x<lox→some x≠(.slice ax na qx:Value).ownBlock:=fun x hx e=>by have:=((uZ HKx_16).own.lt x e.symm).1;omega
        have bb:Below lox w16 w17:=(Below.refl _ _).grown hgrow5 (uZ HKx_16).ok.le (fun x hx=>((uZ HKx_16).own.lt x hx).1)
        have S17:=hZ ((uZ S16).below2 bb (by omega))
        have HBQ_17:Hid (w17.heap[Q]?=some (.cells #[.int .i64 2,.string (bA t2),.int .i64 0,.int .i64 0,.string ⟨#[]⟩,.slice none 0 0,.slice none 0 0,.bool true,.slice ax na qx,.int .i64 (p:Int)] 28 (0,0))):=hZ ((bb.block Q (by omega)).trans (uZ HBQ_16))
        have HKn_17:=hZ (Kr.push (uZ HKx_16) (uZ HNy_16) (by omega) (uZ HWx_y).2 (uZ HWx_y).1 hown5 (by rw [List.length_append,hly,hlnx]) hgrow5 hat5)
        clear bb hne hown5 hgrow5 hat5 hlt5 HS0 S16 HBQ_16 HKx_16 HNy_16
        have HS0:Hid (w17.cell? ⟨Q,8,none⟩=some (.slice ax na qx)):=hZ (by exact(row_cell10 (uZ HBQ_17)).2.2.2.2.2.2.2.2.1)
        refine hK.out _ _ (Or.inr (uZ HS0)) ?_
        clear hK K
        try simp only [Act.put,sA,sB,sC]
        refine tK 6 (v:=.pointer (some ⟨Q,8,none⟩)) (some 34) rfl rfl rfl (by kernel_rfl) (fun _ _ _ h=>h) (Or.inl ⟨by rfl,fun u hu=>by obtain b0:=hu;go_simp⟩) (uZ HS0) ?_
        try simp only [Act.put,sA,sB,sC]
        obtain⟨-,-,-,-,-,-,-,-,g8,-⟩:=row_cell10 (uZ HBQ_17)
        have z8:=frozen_of_row w17 Q 8 _ _ (uZ HBQ_17)
        refine till_one 7 (by kernel_rfl) rfl (fun K hK=>?_)
        go_simp
        refine hK.out _ _ (Or.inl (by first|rfl|trivial)) ?_
        clear hK K HS0 g8 z8
        try simp only [Act.put,sA,sB,sC]
        refine till_done (by kernel_rfl) ?_ _
        obtain⟨w18,hw⟩:=eX (w17.setCell ⟨Q,8,none⟩ (.slice (some ⟨g5,0,none⟩) (na+1) cap5))
        have HBQ_18:Hid (w18.heap[Q]?=some (.cells #[.int .i64 2,.string (bA t2),.int .i64 0,.int .i64 0,.string ⟨#[]⟩,.slice none 0 0,.slice none 0 0,.bool true,.slice (some ⟨g5,0,none⟩) (na+1) cap5,.int .i64 (p:Int)] 28 (0,0))):=hZ (by rw [←hw,heap_setCell_same w17 Q 8 _ _ _ (uZ HBQ_17)];rfl)
        have S18:Hid (St w c 28 #[.int .i64 0,.string ⟨#[]⟩,.int .i64 0,.int .i64 0,.string ⟨#[]⟩,.slice none 0 0,.slice none 0 0,.bool false,.slice none 0 0,.int .i64 0] w18 ly d):=hZ (by rw [←hw];exact(uZ S17).own Q 8 _ ltQ)
        have HKn_18:=hZ ((uZ HKn_17).but (q:=Q) (w':=w18) (fun b _ hb=>by rw [←hw];exact heap_setCell_other _ _ _ _ hb) (by rw [←hw];simp) (by omega))
        rw [hw]
        clear hw S17 HBQ_17 HKn_17
        have hr1:=okN_some (uZ HJ11)
        have hnn:=(uZ HKn_18).node' (show (nsx++nsy).length=na+1 by rw [List.length_append,hly,hlnx]) 2 t2 0 0 [] true p
        have HR:=hZ (hr1)
        have BX:=(uZ S18).bx
        rw [hG] at BX
        obtain⟨g0,g1,g2,g3,g4,g5,g6,g7,g8,g9⟩:=row_cell10 BX
        obtain⟨z0,z1,z2,z3,z4,z5,z6,z7,z8,z9⟩:=frozen10 BX
        clear BX
        obtain⟨Qc0,Qc1,Qc2,Qc3,Qc4,Qc5,Qc6,Qc7,Qc8,Qc9⟩:=row_cell10 (uZ HBQ_18)
        have FF:=hZ (St.done (uZ S18) (hnn.low (by omega)) rfl hG)
        go_wp2_with fail
        refine rtN (p:=2) rfl rfl (uZ FF).1 rfl rfl ?_
        rw [uZ HR]
        exact(uZ FF).2
      ·have hq:isS [41] lx=false:=by simpa using hb
       have CC:=hZ (psg_bad (uZ S12).rd [41] hq)
       have HR:=hZ (thn_sgb hq (uZ HJ8))
       go_wp2_with fail
       refine(uZ CC).mono ?_
       rintro e wx ⟨rfl,b⟩
       have HX:=hZ ((uZ S12).bad b)
       clear b CC
       unfold fltP
       go_wp2_with fail
       exact⟨rfl,by rw [uZ HR];exact⟨rfl,uZ HX⟩⟩
    ·have hq:isS [40] l.tail.tail.tail=false:=by simpa using hb
     have CC:=hZ (psg_bad (uZ S9).rd [40] hq)
     have HR:=hZ (thn_sgb hq (uZ HJ5))
     go_wp2_with fail
     refine(uZ CC).mono ?_
     rintro e wx ⟨rfl,b⟩
     have HX:=hZ ((uZ S9).bad b)
     clear b CC
     unfold fltP
     go_wp2_with fail
     exact⟨rfl,by rw [uZ HR];exact⟨rfl,uZ HX⟩⟩
   ·have CC:=hZ (pnm_bad (uZ S7).rd hq)
    have HR:=hZ (thn_nmb hq (uZ HJ4))
    go_wp2_with fail
    refine(uZ CC).mono ?_
    rintro e wx ⟨rfl,b⟩
    have HX:=hZ ((uZ S7).bad b)
    clear b CC
    unfold fltP
    go_wp2_with fail
    exact⟨rfl,by rw [uZ HR];exact⟨rfl,uZ HX⟩⟩
  ·have hq:isK [102,110] l.tail=false:=by simpa using hb
   have CC:=hZ (pky_bad (uZ S6).rd [102,110] hq)
   have HR:=hZ (thn_kyb hq (uZ HJ3))
   go_wp2_with fail
   refine(uZ CC).mono ?_
   rintro e wx ⟨rfl,b⟩
   have HX:=hZ ((uZ S6).bad b)
   clear b CC
   unfold fltP
   go_wp2_with fail
   exact⟨rfl,by rw [uZ HR];exact⟨rfl,uZ HX⟩⟩
 ·have hq:isK [101,120,112,111,114,116] l=false:=by simpa using hb
  have CC:=hZ ((by have:=seesKey_any (uZ S3).rd [101,120,112,111,114,116];rw [hq] at this;exact this))
  go_wp2_with fail
  refine(uZ CC).mono ?_
  rintro e w4 ⟨rfl,b⟩
  have S4:=hZ ((uZ S3).below b)
  have HBQ_4:=bx_be HBQ_3 b
  clear b CC S3 HBQ_3
  have HJ2:=hZ ((by have:=(uZ HJ1);rw [if_neg (by rw [hq];decide)] at this;exact this))
  clear HJ1
  have HJ3:=hZ ((by have:=(uZ HJ2);unfold jFn at this;exact this))
  clear HJ2
  by_cases hb:isK [102,110] l=true
  ·have hq:isK [102,110] l=true:=by simpa using hb
   have HJ4:=hZ (thn_ky hq (uZ HJ3))
   clear HJ3
   have CC:=hZ (pky_ok (uZ S4).rd [102,110] hq)
   go_wp2_with fail
   refine(uZ CC).mono ?_
   rintro e w5 ⟨rfl,r2,b⟩
   have S5:=hZ ((uZ S4).go b r2)
   have HBQ_5:=bx_go HBQ_4 b (by omega)
   clear b r2 CC S4 HBQ_4
   obtain⟨⟨k2,t2,n2,p2⟩,ht⟩:∃t,hdT l.tail=t:=⟨_,rfl⟩
   have HT2:=hZ ht
   clear ht
   by_cases hq:(hdT l.tail).k=1
   ·have HJ5:=hZ ((by have:=thn_nm hq (uZ HJ4);rw [uZ HT2] at this;exact this))
    clear HJ4
    have CC:=hZ ((by have:=pnm_ok (uZ S5).rd hq;rw [uZ HT2] at this;simp only [tkA] at this;exact this))
    go_wp2_with fail
    refine(uZ CC).mono ?_
    rintro e w6 ⟨rfl,r2,b⟩
    have S6:=hZ ((uZ S5).go b r2)
    have HBQ_6:=bx_go HBQ_5 b (by omega)
    clear b r2 CC S5 HBQ_5
    obtain⟨-,Qc1,-,-,-,-,-,-,-,-⟩:=row_cell10 (uZ HBQ_6)
    have Qf1:=frozen_of_row w6 Q 1 _ _ (uZ HBQ_6)
    go_upto_region 7 with (first|(refine wpl_tk3 rfl _ rfl _ _ _ _ rfl ?_)|(refine wpl_tk1 rfl _ rfl _ _ _ _ rfl ?_)|(refine wpl_tk0 rfl _ rfl _ _ _ _ rfl ?_))
    clear Qc1 Qf1
    obtain⟨w7,hw⟩:=eX (w6.setCell ⟨Q,1,none⟩ (.string (bA t2)))
    have HBQ_7:Hid (w7.heap[Q]?=some (.cells #[.int .i64 2,.string (bA t2),.int .i64 0,.int .i64 0,.string ⟨#[]⟩,.slice none 0 0,.slice none 0 0,.bool false,.slice none 0 0,.int .i64 (p:Int)] 28 (0,0))):=hZ (by rw [←hw,heap_setCell_same w6 Q 1 _ _ _ (uZ HBQ_6)];rfl)
    have S7:Hid (St w c 28 #[.int .i64 0,.string ⟨#[]⟩,.int .i64 0,.int .i64 0,.string ⟨#[]⟩,.slice none 0 0,.slice none 0 0,.bool false,.slice none 0 0,.int .i64 0] w7 l.tail.tail d):=hZ (by rw [←hw];exact(uZ S6).own Q 1 _ ltQ)
    rw [hw]
    clear hw S6 HBQ_6
    by_cases hb:isS [40] l.tail.tail=true
    ·have hq:isS [40] l.tail.tail=true:=by simpa using hb
     have HJ6:=hZ (thn_sg hq (uZ HJ5))
     clear HJ5
     have CC:=hZ (psg_ok (uZ S7).rd [40] hq)
     go_wp2_with fail
     refine(uZ CC).mono ?_
     rintro e w8 ⟨rfl,r2,b⟩
     have S8:=hZ ((uZ S7).go b r2)
     have HBQ_8:=bx_go HBQ_7 b (by omega)
     clear b r2 CC S7 HBQ_7
     have hn4:(l.tail.tail.tail).length≤10000:=by have h1:=(uZ S8).rd.head;have h2:=(uZ S8).rd.len;omega
     obtain⟨yx,hy,hth⟩:=bnd_some (uZ HJ6)
     have HJ7:=hZ (hth)
     clear HJ6
     clear hth
     have CR:=hZ (ihp hy (uZ S8).rd)
     have HYX:=hZ hy
     clear hy
     rcases yx with ⟨ea,ep⟩|⟨nsx,lx⟩
     ·have HR:=hZ (thn_err (uZ HJ7))
      go_wp2_with fail
      refine(uZ CR).mono ?_
      rintro e wx ⟨rfl,b⟩
      have HX:=hZ ((uZ S8).bad b)
      clear b CR
      unfold fltP
      go_wp2_with fail
      exact⟨rfl,by rw [uZ HR];exact⟨rfl,uZ HX⟩⟩
     ·have HJ8:=hZ (thn_ok (uZ HJ7))
      clear HJ7
      go_wp2_with fail
      refine(uZ CR).mono ?_
      rintro e w9 ⟨ax,qx,Cx,Zx,rfl,hk,r2,b⟩
      have S9:=hZ ((uZ S8).go b r2)
      have HBQ_9:=bx_go HBQ_8 b (by omega)
      obtain⟨lox,hlo⟩:=eX (w8.heap.size)
      have ltlox:w.heap.size<lox:=by rw [←hlo];exact(uZ S8).lt
      have lqQ_x:Q<lox:=by rw [←hlo];exact(Array.getElem?_eq_some_iff.1 (uZ HBQ_8)).1
      rw [hlo] at hk
      have HKx_9:=hZ hk
      clear hlo b r2 hk CR S8 HBQ_8
      obtain⟨na,hlnx⟩:=eX (nsx.length)
      rw [hlnx] at HKx_9
      try rw [hlnx]
      have hbna:na+lx.length≤10000:=by have h1:=PJ_len f 6 0 [] _ d nsx lx ⟨by decide,by omega⟩ (uZ HYX);simp only [twoJ,List.length_nil,reduceIte,Nat.reduceEqDiff] at h1;have h2:=hn4;omega
      obtain⟨-,-,-,-,-,-,-,-,Qc8,-⟩:=row_cell10 (uZ HBQ_9)
      have Qf8:=frozen_of_row w9 Q 8 _ _ (uZ HBQ_9)
      go_upto_region 9 with fail
      clear Qc8 Qf8
      try rw [hlnx]
      obtain⟨w10,hw⟩:=eX (w9.setCell ⟨Q,8,none⟩ (.slice ax na qx))
      have HBQ_10:Hid (w10.heap[Q]?=some (.cells #[.int .i64 2,.string (bA t2),.int .i64 0,.int .i64 0,.string ⟨#[]⟩,.slice none 0 0,.slice none 0 0,.bool false,.slice ax na qx,.int .i64 (p:Int)] 28 (0,0))):=hZ (by rw [←hw,heap_setCell_same w9 Q 8 _ _ _ (uZ HBQ_9)];rfl)
      have S10:Hid (St w c 28 #[.int .i64 0,.string ⟨#[]⟩,.int .i64 0,.int .i64 0,.string ⟨#[]⟩,.slice none 0 0,.slice none 0 0,.bool false,.slice none 0 0,.int .i64 0] w10 lx d):=hZ (by rw [←hw];exact(uZ S9).own Q 8 _ ltQ)
      have HKx_10:=hZ ((uZ HKx_9).but (q:=Q) (w':=w10) (fun b _ hb=>by rw [←hw];exact heap_setCell_other _ _ _ _ hb) (by rw [←hw];simp) (by omega))
      rw [hw]
      clear hw S9 HBQ_9 HKx_9
      by_cases hb:isS [41] lx=true
      ·have hq:isS [41] lx=true:=by simpa using hb
       have HJ9:=hZ (thn_sg hq (uZ HJ8))
       clear HJ8
       have CC:=hZ (psg_ok (uZ S10).rd [41] hq)
       go_wp2_with fail
       refine(uZ CC).mono ?_
       rintro e w11 ⟨rfl,r2,b⟩
       have S11:=hZ ((uZ S10).go b r2)
       have HBQ_11:=bx_go HBQ_10 b (by omega)
       have HKx_11:=hZ ((uZ HKx_10).beside b (by omega))
       clear b r2 CC S10 HBQ_10 HKx_10
       go_upto_region 10 with fail
       obtain⟨-,-,-,-,-,-,-,-,Qc8,-⟩:=row_cell10 (uZ HBQ_11)
       have HS0:Hid (w11.drew.cell? ⟨Q,8,none⟩=some (.slice ax na qx)):=hZ (Qc8)
       refine till_begin (S:=fun w'=>w'.cell? ⟨Q,8,none⟩=some (.slice ax na qx)) 7 (by kernel_rfl) ?_
       obtain⟨w12,hWD⟩:=eX (w11.drew)
       have bD:Below w11.heap.size w11 w12:=by rw [←hWD];exact(Below.refl _ _).drew
       rw [hWD] at HS0
       rw [hWD]
       have S12:=hZ ((uZ S11).below bD)
       have HBQ_12:=bx_be HBQ_11 bD
       have HKx_12:=hZ ((uZ HKx_11).beside (Beside.of_below (gr:=c.g) bD) (by omega))
       clear hWD bD S11 HBQ_11 HKx_11
       clear Qc8
       refine tK 0 (v:=.pointer (some ⟨Q,8,none⟩)) (some 28) rfl rfl rfl (by kernel_rfl) (fun _ _ _ h=>h) (Or.inl ⟨by rfl,fun u hu=>by obtain b0:=hu;go_simp⟩) (uZ HS0) ?_
       try simp only [Act.put,sA,sB,sC]
       refine tK 1 (v:=.slice ax na qx) (some 29) rfl rfl rfl (by kernel_rfl) (fun _ _ _ h=>h) (Or.inl ⟨by rfl,fun u hu=>by obtain b0:=hu;go_simp⟩) (uZ HS0) ?_
       try simp only [Act.put,sA,sB,sC]
       refine tK 2 (v:=.pointer (some ⟨c.g,0,none⟩)) (some 30) rfl rfl rfl (by kernel_rfl) (fun _ _ _ h=>h) (Or.inl ⟨by rfl,fun u hu=>by obtain b0:=hu;go_simp⟩) (uZ HS0) ?_
       try simp only [Act.put,sA,sB,sC]
       obtain⟨yy,hy,hth⟩:=bnd_some (uZ HJ9)
       have HJ10:=hZ (hth)
       clear HJ9
       clear hth
       have CR:=hZ (ihb hy (uZ S12).rd)
       have HYX:=hZ hy
       clear hy
       rcases yy with ⟨ea,ep⟩|⟨nsy,ly⟩
       ·have HR:=hZ (thn_err (uZ HJ10))
        refine till_one 3 (by kernel_rfl) rfl (fun K hK=>?_)
        go_simp
        refine(uZ CR).mono ?_
        rintro e wx ⟨rfl,b⟩
        have HX:=hZ ((uZ S12).bad b)
        clear b CR
        unfold fltP
        go_wp2_with fail
        exact⟨rfl,by rw [uZ HR];exact⟨rfl,uZ HX⟩⟩
       ·have HJ11:=hZ (thn_ok (uZ HJ10))
        clear HJ10
        refine till_one 3 (by kernel_rfl) rfl (fun K hK=>?_)
        go_simp
        refine(uZ CR).mono ?_
        rintro e w13 ⟨ky,ty,vky,vny,vsy,fy,ny,aky,cky,py,Zy,rfl,hly,hn,r2,b⟩
        have S13:=hZ ((uZ S12).go b r2)
        have HBQ_13:=bx_go HBQ_12 b (by omega)
        have HKx_13:=hZ ((uZ HKx_12).beside b (by omega))
        obtain⟨loy,hlo⟩:=eX (w12.heap.size)
        have ltloy:w.heap.size<loy:=by rw [←hlo];exact(uZ S12).lt
        have lqQ_y:Q<loy:=by rw [←hlo];exact(Array.getElem?_eq_some_iff.1 (uZ HBQ_12)).1
        have HWx_y:=hZ ((uZ HKx_12).vlt hlo)
        have lex_y:=(uZ HKx_12).ok.le
        rw [hlo] at lex_y
        rw [hlo] at hn
        have HNy_13:=hZ hn
        clear hlo b r2 hn CR S12 HBQ_12 HKx_12
        clear HS0
        have HS0:Hid (w13.cell? ⟨Q,8,none⟩=some (.slice ax na qx)):=hZ (by exact(row_cell10 (uZ HBQ_13)).2.2.2.2.2.2.2.2.1)
        go_wp2_with fail
        refine hK.out _ _ (Or.inr (uZ HS0)) ?_
        clear hK K
        try simp only [Act.put,sA,sB,sC]
        obtain⟨w14,hwr⟩:=eX (w13.alloc (.cells #[.int .i64 (ky:Int),.string (bA ty),.int .i64 (vky:Int),.int .i64 (vny:Int),.string (bA vsy),.slice none 0 0,.slice none 0 0,.bool fy,.slice aky ny cky,.int .i64 (py:Int)] 28))
        have b:=alB hwr
        obtain⟨hx,hhx⟩:=eX (w13.heap.size)
        have at4:Hid (w14.heap[hx]?=some (.cells #[.int .i64 (ky:Int),.string (bA ty),.int .i64 (vky:Int),.int .i64 (vny:Int),.string (bA vsy),.slice none 0 0,.slice none 0 0,.bool fy,.slice aky ny cky,.int .i64 (py:Int)] 28 (0,0))):=hZ (by rw [←hwr,←hhx];exact heap_alloc_new _ _)
        have S14:=hZ ((uZ S13).below b)
        have HBQ_14:=bx_be HBQ_13 b
        have HKx_14:=hZ ((uZ HKx_13).beside (Beside.of_below (gr:=c.g) b) (by omega))
        have HNy_14:=hZ ((uZ HNy_13).beside (Beside.of_below (gr:=c.g) b) (by omega))
        clear b S13 HBQ_13 HKx_13 HNy_13
        refine till_one 4 (by kernel_rfl) rfl (fun K hK=>?_)
        go_simp
        try rw [hwr]
        try rw [hhx]
        clear HS0
        have HS0:Hid (w14.cell? ⟨Q,8,none⟩=some (.slice ax na qx)):=hZ (by exact(row_cell10 (uZ HBQ_14)).2.2.2.2.2.2.2.2.1)
        refine hK.out _ _ (Or.inr (uZ HS0)) ?_
        clear hK K hwr hhx
        try simp only [Act.put,sA,sB,sC]
        obtain⟨ind,hi0,hi1,hi2,hi3⟩:=info_nd
        have hkl:=(uZ HKx_14).own
        rw [hlnx] at hkl
        have HKL:=hZ hkl
        clear hkl
        refine till_one 5 (by kernel_rfl) rfl (fun K hK=>?_)
        refine step_append_lies _ (by rfl) _ _ 26 (by rfl) lox 28 ind _ 10 144 Tryz.underlying26 hi0 hi1 hi2 hi3 rfl (by omega) (.slice ax na qx) (na) _ (by rfl) (uZ HKL) ⟨hx,0,none⟩ 1 1 [.int .i64 (ky:Int),.string (bA ty),.int .i64 (vky:Int),.int .i64 (vny:Int),.string (bA vsy),.slice none 0 0,.slice none 0 0,.bool fy,.slice aky ny cky,.int .i64 (py:Int)] (by rfl) (by rfl) (World.news_of_block (uZ at4)) (ndC_one _ _ _ _ _ _ _ _ _ _) (by omega) (by unfold maxLen;have:=hbna;omega) (by have:=hbna;omega) (uZ HKx_14).ok.le _ rfl ?_
        intro g5 cap5 w15 hown5 hgrow5 hat5 hlt5
        change K (Act.put _ (some 33) _) w15
        clear hi0 hi1 hi2 hi3 HKL ind at4
        have hne:∀x,x<lox→some x≠(.slice ax na qx:Value).ownBlock:=fun x hx e=>by have:=((uZ HKx_14).own.lt x e.symm).1;omega
        have bb:Below lox w14 w15:=(Below.refl _ _).grown hgrow5 (uZ HKx_14).ok.le (fun x hx=>((uZ HKx_14).own.lt x hx).1)
        have S15:=hZ ((uZ S14).below2 bb (by omega))
        have HBQ_15:Hid (w15.heap[Q]?=some (.cells #[.int .i64 2,.string (bA t2),.int .i64 0,.int .i64 0,.string ⟨#[]⟩,.slice none 0 0,.slice none 0 0,.bool false,.slice ax na qx,.int .i64 (p:Int)] 28 (0,0))):=hZ ((bb.block Q (by omega)).trans (uZ HBQ_14))
        have HKn_15:=hZ (Kr.push (uZ HKx_14) (uZ HNy_14) (by omega) (uZ HWx_y).2 (uZ HWx_y).1 hown5 (by rw [List.length_append,hly,hlnx]) hgrow5 hat5)
        clear bb hne hown5 hgrow5 hat5 hlt5 HS0 S14 HBQ_14 HKx_14 HNy_14
        have HS0:Hid (w15.cell? ⟨Q,8,none⟩=some (.slice ax na qx)):=hZ (by exact(row_cell10 (uZ HBQ_15)).2.2.2.2.2.2.2.2.1)
        refine hK.out _ _ (Or.inr (uZ HS0)) ?_
        clear hK K
        try simp only [Act.put,sA,sB,sC]
        refine tK 6 (v:=.pointer (some ⟨Q,8,none⟩)) (some 34) rfl rfl rfl (by kernel_rfl) (fun _ _ _ h=>h) (Or.inl ⟨by rfl,fun u hu=>by obtain b0:=hu;go_simp⟩) (uZ HS0) ?_
        try simp only [Act.put,sA,sB,sC]
        obtain⟨-,-,-,-,-,-,-,-,g8,-⟩:=row_cell10 (uZ HBQ_15)
        have z8:=frozen_of_row w15 Q 8 _ _ (uZ HBQ_15)
        refine till_one 7 (by kernel_rfl) rfl (fun K hK=>?_)
        go_simp
        refine hK.out _ _ (Or.inl (by first|rfl|trivial)) ?_
        clear hK K HS0 g8 z8
        try simp only [Act.put,sA,sB,sC]
        refine till_done (by kernel_rfl) ?_ _
        obtain⟨w16,hw⟩:=eX (w15.setCell ⟨Q,8,none⟩ (.slice (some ⟨g5,0,none⟩) (na+1) cap5))
        have HBQ_16:Hid (w16.heap[Q]?=some (.cells #[.int .i64 2,.string (bA t2),.int .i64 0,.int .i64 0,.string ⟨#[]⟩,.slice none 0 0,.slice none 0 0,.bool false,.slice (some ⟨g5,0,none⟩) (na+1) cap5,.int .i64 (p:Int)] 28 (0,0))):=hZ (by rw [←hw,heap_setCell_same w15 Q 8 _ _ _ (uZ HBQ_15)];rfl)
        have S16:Hid (St w c 28 #[.int .i64 0,.string ⟨#[]⟩,.int .i64 0,.int .i64 0,.string ⟨#[]⟩,.slice none 0 0,.slice none 0 0,.bool false,.slice none 0 0,.int .i64 0] w16 ly d):=hZ (by rw [←hw];exact(uZ S15).own Q 8 _ ltQ)
        have HKn_16:=hZ ((uZ HKn_15).but (q:=Q) (w':=w16) (fun b _ hb=>by rw [←hw];exact heap_setCell_other _ _ _ _ hb) (by rw [←hw];simp) (by omega))
        rw [hw]
        clear hw S15 HBQ_15 HKn_15
        have hr1:=okN_some (uZ HJ11)
        have hnn:=(uZ HKn_16).node' (show (nsx++nsy).length=na+1 by rw [List.length_append,hly,hlnx]) 2 t2 0 0 [] false p
        have HR:=hZ (hr1)
        have BX:=(uZ S16).bx
        rw [hG] at BX
        obtain⟨g0,g1,g2,g3,g4,g5,g6,g7,g8,g9⟩:=row_cell10 BX
        obtain⟨z0,z1,z2,z3,z4,z5,z6,z7,z8,z9⟩:=frozen10 BX
        clear BX
        obtain⟨Qc0,Qc1,Qc2,Qc3,Qc4,Qc5,Qc6,Qc7,Qc8,Qc9⟩:=row_cell10 (uZ HBQ_16)
        have FF:=hZ (St.done (uZ S16) (hnn.low (by omega)) rfl hG)
        go_wp2_with fail
        refine rtN (p:=2) rfl rfl (uZ FF).1 rfl rfl ?_
        rw [uZ HR]
        exact(uZ FF).2
      ·have hq:isS [41] lx=false:=by simpa using hb
       have CC:=hZ (psg_bad (uZ S10).rd [41] hq)
       have HR:=hZ (thn_sgb hq (uZ HJ8))
       go_wp2_with fail
       refine(uZ CC).mono ?_
       rintro e wx ⟨rfl,b⟩
       have HX:=hZ ((uZ S10).bad b)
       clear b CC
       unfold fltP
       go_wp2_with fail
       exact⟨rfl,by rw [uZ HR];exact⟨rfl,uZ HX⟩⟩
    ·have hq:isS [40] l.tail.tail=false:=by simpa using hb
     have CC:=hZ (psg_bad (uZ S7).rd [40] hq)
     have HR:=hZ (thn_sgb hq (uZ HJ5))
     go_wp2_with fail
     refine(uZ CC).mono ?_
     rintro e wx ⟨rfl,b⟩
     have HX:=hZ ((uZ S7).bad b)
     clear b CC
     unfold fltP
     go_wp2_with fail
     exact⟨rfl,by rw [uZ HR];exact⟨rfl,uZ HX⟩⟩
   ·have CC:=hZ (pnm_bad (uZ S5).rd hq)
    have HR:=hZ (thn_nmb hq (uZ HJ4))
    go_wp2_with fail
    refine(uZ CC).mono ?_
    rintro e wx ⟨rfl,b⟩
    have HX:=hZ ((uZ S5).bad b)
    clear b CC
    unfold fltP
    go_wp2_with fail
    exact⟨rfl,by rw [uZ HR];exact⟨rfl,uZ HX⟩⟩
  ·have hq:isK [102,110] l=false:=by simpa using hb
   have CC:=hZ (pky_bad (uZ S4).rd [102,110] hq)
   have HR:=hZ (thn_kyb hq (uZ HJ3))
   go_wp2_with fail
   refine(uZ CC).mono ?_
   rintro e wx ⟨rfl,b⟩
   have HX:=hZ ((uZ S4).bad b)
   clear b CC
   unfold fltP
   go_wp2_with fail
   exact⟨rfl,by rw [uZ HR];exact⟨rfl,uZ HX⟩⟩
end Go.Proofs.YtjdpaihhhjdgmaaGreatDoor
