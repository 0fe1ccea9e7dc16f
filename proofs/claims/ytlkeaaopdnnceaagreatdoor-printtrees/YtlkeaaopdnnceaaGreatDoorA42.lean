/-
  Program (the document's).
  Conditions: where nodes are told of, they lie in memory.
-/
import Derived.Test.YtlkeaaopdnnceaaGreatDoorA41
set_option linter.unusedVariables false
set_option linter.unusedSimpArgs false
set_option maxRecDepth 100000
set_option maxHeartbeats 8000000
namespace Go.Proofs.YtlkeaaopdnnceaaGreatDoor
open Go.RowKit
set_option linter.unusedVariables false
set_option linter.unusedSimpArgs false
theorem rprog_ok (B0:Nat) (y:Tn) (x:List Value) (w:World) (hB:B0≤w.heap.size) (hx:IsN w (fun b=>b<B0) y x) (hk:y.k=1) (hrg:rgB y=true) :
  Calls Tryz.prog 9 #[.agg x.toArray] w fun e w'=>e=.returned (.tuple #[.string (bA (pgT y)),.int .i64 0])∧Below w.heap.size w w':=by
 have hx0:=hx
 obtain⟨vk,vn,vs,al,ak,a,ll,cl,lk,ck,cc,rfl,hvv,hr,hbk,hbp⟩:=hx.opn
 obtain⟨k,t,v,f,ks,p⟩:=y
 simp only at hk
 have hrg0:=hrg
 clear hrg
 subst hk
 obtain⟨n,hn⟩:∃n,ks.length=n:=⟨_,rfl⟩
 have hnb:n≤140737488351232:=by rw [←hn];exact hr.len
 simp only [hn] at hx0 hvv hr hbk hbp ⊢
 obtain⟨w1,hw1⟩:∃w1,w.alloc (.cells #[.int .i64 1,.string t,.int .i64 vk,.int .i64 vn,.string vs,.slice al ll cl,.slice ak lk ck,.bool f,.slice a n cc,.int .i64 p] 28)=w1:=⟨_,rfl⟩
 obtain⟨G,hG⟩:∃G,w.heap.size=G:=⟨_,rfl⟩
 obtain⟨A1,X1⟩:=al1 hw1 hG
 have hBG:B0≤G:=by rw [←hG];exact hB
 have HM:Hid (NM5 B0 G w w1 ⟨1,t,v,f,ks,p⟩ [.int .i64 1,.string t,.int .i64 vk,.int .i64 vn,.string vs,.slice al ll cl,.slice ak lk ck,.bool f,.slice a n cc,.int .i64 p] ks a cc v (.agg #[.int .i64 vk,.int .i64 vn,.string vs,.slice al ll cl,.slice ak lk ck])):=hZ (fun u hu=>by
  have h2:=X1.trans (hu.mono (Nat.le_of_lt (lt_of_row A1)))
  exact⟨hx0.laterB (h2.mono hBG),hr.later (h2.mono hBG),Nat.le_trans hBG (by rw [←hG];exact h2.size),hvv.mono (h2.mono hBG),h2⟩)
 have HF:Hid (NF10 w1 G (.int .i64 1) (.string t) (.int .i64 vk) (.int .i64 vn) (.string vs) (.slice al ll cl) (.slice ak lk ck) (.bool f) (.slice a n cc) (.int .i64 p)):=hZ (fun u hu=>row_ten (Below.cellsAt hu A1))
 have HN:=hZ hn
 have HS0:Hid (Below w1.heap.size w1 w1):=hZ (Below.refl _ _)
 have HW:=hZ hw1
 have hlen:=pg_len hx0 rfl hrg0
 have hR1:(decide ((1:Int)=1) && rgB ⟨1,t,v,f,ks,p⟩)=true:=by rw [hrg0];rfl
 have hrr:=hrg0
 unfold rgB at hrr
 simp only [Bool.and_eq_true,decide_eq_true_eq] at hrr
 have hpk:=pg_kids (y:=⟨1,t,v,f,ks,p⟩) rfl hrr.1.2
 simp only at hpk
 have hcz:∀z∈ks,cns [z]≤20000:=fun z hz=>by
  have h1:=cns_mem ks z hz
  have h2:=cns_one ⟨1,t,v,f,ks,p⟩
  simp only at h2
  omega
 have hpg:pgT ⟨1,t,v,f,ks,p⟩=jl [10] true (ks.map fnT):=rfl
 rw [hpg] at hlen ⊢
 have HLn:=hZ hlen
 have HR1:=hZ hR1
 have HPK:=hZ hpk
 have HCZ:=hZ hcz
 obtain⟨ZT,hZT⟩:∃ZT,bA (jl [10] true (ks.map fnT))=ZT:=⟨_,rfl⟩
 rw [hZT]
 have HZT:=hZ hZT
 clear hlen hR1 hrr hpk hcz hpg hZT hrg0
 clear A1 X1 hw1 hx hx0 hr hvv hB hBG hn
 go_enter Tryz.func9,Tryz.ntmps9
 go_upto_region 1 with fail
 rw [uZ HW]
 try rw [hG]
 clear HW
 obtain⟨x0,x1,x2,x3,x4,x5,x6,x7,x8,x9⟩:=uZ HF w1 (Below.refl _ _)
 have CR:=hZ (RightD_any B0 ⟨1,t,v,f,ks,p⟩ _ w1 ((uZ HM) w1 (uZ HS0)).2.2.1 ((uZ HM) w1 (uZ HS0)).1)
 have r1:=uZ HR1
 try simp only at CR r1
 rw [r1] at CR
 clear r1
 go_wp2_with fail
 refine(uZ CR).mono ?_
 rintro e w2 ⟨rfl,bb⟩
 have HS2:=hZ bb
 clear bb CR x0 x1 x2 x3 x4 x5 x6 x7 x8 x9
 obtain⟨g,hg⟩:∃g,w1.heap.size=g:=⟨_,rfl⟩
 have HG1:=hZ hg
 clear hg
 obtain⟨x0,x1,x2,x3,x4,x5,x6,x7,x8,x9⟩:=uZ HF w2 (uZ HS2)
 go_wp2_with fail
 clear x0 x1 x2 x3 x4 x5 x6 x7 x8 x9
 go_loopw [5,6] (fun ov x wr=>∃(i:Nat) (rv:Value),x=.int .i64 (i:Int)∧rv=ov∧i≤n∧Hid (OwB wr g rv (jl [10] true ((ks.take i).map fnT)))∧Hid (Below w1.heap.size w1 wr)) (fun _ x _=>n - (intOf x).toNat)
 case atStart=>exact⟨0,_,rfl,rfl,Nat.zero_le _,hZ (by simpa [jl] using OwB.nil _ _),HS2⟩
 case round=>
  obtain⟨i,rv,rfl,rfl,hi,HO,HX⟩:=hrel
  obtain⟨w8,hw8⟩:∃u,u=wr:=⟨_,rfl⟩
  subst hw8
  obtain⟨x0,x1,x2,x3,x4,x5,x6,x7,x8,x9⟩:=uZ HF w8 (uZ HX)
  have hgb:g≤w8.heap.size:=by have:=(uZ HX).size;have:=uZ HG1;omega
  by_cases hlt:i<n
  ·have i1:(i:Int)<(n:Int):=by omega
   have i0:(0:Int)≤(i:Int):=by omega
   obtain⟨z,hz⟩:∃z,ks[i]?=some z:=⟨_,List.getElem?_eq_getElem (by have:=uZ HN;omega)⟩
   have HZ:=hZ hz
   have HI1:=hZ (show i+1≤n by omega)
   have HJ:=hZ (jl_next [10] ks fnT i z hz)
   have hl0:(jl [10] true ((ks.take i).map fnT)).length≤10000000000:=by have h1:=jl_part [10] fnT ks i;have h2:=uZ HLn;omega
   obtain⟨L0,hL0⟩:∃L0,jl [10] true ((ks.take i).map fnT)=L0:=⟨_,rfl⟩
   rw [hL0] at HO HJ hl0
   have hzk:=(uZ HPK) z (List.mem_of_getElem? hz)
   have hzc:=(uZ HCZ) z (List.mem_of_getElem? hz)
   obtain⟨hzn,hz4⟩:=fn_kids hzk.1 hzk.2
   have htz:z.t.size≤1000:=by have:=tx_len (rw_kd (fm_kids hzk.2).1).1;have e:z.t.data.toList.length=z.t.size:=rfl;omega
   obtain⟨m,hm⟩:∃m,z.ks.length=m+1:=⟨z.ks.length - 1,by omega⟩
   have hm1:z.ks.length - 1=m:=by omega
   obtain⟨c,hc⟩:∃c,z.ks[m]?=some c:=⟨_,List.getElem?_eq_getElem (by omega)⟩
   rw [hm1] at hz4
   have hc4:=hz4 c hc
   have hBl:BlD B0 0 c:=by
    have hmc:=List.mem_of_getElem? hc
    have h1:=cns_mem z.ks c hmc
    have h2:=cns_one z
    exact(rst_all 25000 B0 c 1 (by omega) (by omega) ((fm_kids hzk.2).2 c hmc)).2 hc4 0 rfl
   have hlc:(stT 1 c).length≤10000000000:=by
    obtain⟨b9,zz9,_,_,hzz9,_⟩:=((uZ HM) w8 (uZ HX)).2.1.at hz
    exact(fn_len hzz9 hzk.1 hzk.2 (by omega)).2 c (by rw [hm1];exact hc)
   have hlp:∀j,(jl [44,32] true (((z.ks.take m).take j).map nmT)).length≤10000000000:=fun j=>by
    have h1:=jl_part [44,32] nmT (z.ks.take m) j
    have h2:=jl_part [44,32] nmT z.ks m
    have h3:=nm_len (fm_kids hzk.2).2
    have h4:=cns_one z
    omega
   have htp:∀(j:Nat) (q:Tn),z.ks[j]?=some q→q.t.size≤1000:=fun j q hq=>by have:=tx_len (rw_kd (fm_kids ((fm_kids hzk.2).2 q (List.mem_of_getElem? hq))).1).1;have e:q.t.data.toList.length=q.t.size:=rfl;omega
   have HFT:=hZ (show fnT z=(if z.f=true then [101,120,112,111,114,116,32,102,110,32] else [102,110,32])++(z.t.data.toList++(40 :: (jl [44,32] true ((z.ks.take m).map nmT)++(41 :: 32 :: (stT 1 c++[10]))))) by unfold fnT;rw [hm1,hc];rfl)
   have HC:=hZ hc
   have HBl:=hZ hBl
   have HLC:=hZ hlc
   have HLP:=hZ hlp
   have HTP:=hZ htp
   have HMZ:=hZ hm
   have hmb:m≤1000000:=by have h1:=cns_one z;have h2:z.ks.length≤cns z.ks:=len_cns z.ks;omega
   obtain⟨b,vky,vny,vsy,aly,aky,ay,lly,cly,lky,cky,ny,ccy,rfl,hcy,hby,hny,hzy,hcelly⟩:=((uZ HM) w1 (uZ HS0)).2.1.ten hz
   obtain rfl:ny=m+1:=by rw [←hny];exact hm
   obtain⟨bz,rfl⟩:=some_of (hzy.rowOf) (by rw [hm];omega)
   have hncc:n≤cc:=by rw [←uZ HN];exact hcy
   have hB1:=((uZ HM) w1 (uZ HS0)).2.2.1
   have HK:Hid (∀u,Below w1.heap.size w1 u→(∀j v,([.int .i64 z.k,.string z.t,.int .i64 vky,.int .i64 vny,.string vsy,.slice aly lly cly,.slice aky lky cky,.bool z.f,.slice (some bz) (m+1) ccy,.int .i64 z.p]:List Value)[j]?=some v→u.cell? ((b.add (i * 10)).add j)=some v)∧IsN u (fun b=>b<B0) z [.int .i64 z.k,.string z.t,.int .i64 vky,.int .i64 vny,.string vsy,.slice aly lly cly,.slice aky lky cky,.bool z.f,.slice (some bz) (m+1) ccy,.int .i64 z.p]):=hZ (fun u h=>⟨fun j v hj=>(World.cell?_of_block (h.block _ (by rw [block_add,block_add];omega))).trans (hcelly j v hj),hzy.laterB (h.mono hB1)⟩)
   have HRW:Hid (∀u,Below w1.heap.size w1 u→RowN u B0 z.ks (some bz) ccy):=hZ (fun u hu=>((uZ HK) u hu).2.rowOf)
   clear hz hL0 hzk hzc hzn hz4 hm hm1 hc hc4 hBl hlc hlp htp hcy hby hny hzy hcelly hB1
   have hfq:z.f=true∨z.f=false:=by cases z.f <;> simp
   by_cases h0:i=0
   ·rcases hfq with hfl|hfl
    ·have hfz:z.f=true:=hfl
     have hni:¬(0:Int)<(i:Int):=by omega
     have HI0:=hZ h0
     clear h0 hfl
     have HFZ:=hZ hfz
     clear hfz
     go_upto_region 10 with fail
     clear hni x0 x1 x2 x3 x4 x5 x6 x7 x8 x9
     obtain⟨x0,x1,x2,x3,x4,x5,x6,x7,x8,x9⟩:=uZ HF w8 (uZ HX)
     have hcl:=((uZ HK) w8 (uZ HX)).1
     rw [uZ HFZ] at hcl
     obtain⟨e0,e1,e2,e3,e4,e5,e6,e7,e8,e9⟩:=tenC hcl
     clear hcl
     go_upto_region 11 with fail
     clear e0 e1 e2 e3 e4 e5 e6 e7 e8 e9 x0 x1 x2 x3 x4 x5 x6 x7 x8 x9
     obtain⟨wq,hwq⟩:∃wq,w8.alloc (.cells #[.int .i64 z.k,.string z.t,.int .i64 vky,.int .i64 vny,.string vsy,.slice aly lly cly,.slice aky lky cky,.bool true,.slice (some bz) (m+1) ccy,.int .i64 z.p] 28)=wq:=⟨_,rfl⟩
     try rw [hwq]
     obtain⟨q,hq⟩:∃q,w8.heap.size=q:=⟨_,rfl⟩
     try rw [hq]
     have hbq:Below w8.heap.size w8 wq:=by rw [←hwq];exact(Below.refl _ _).alloc (Nat.le_refl _) _
     have hAq:wq.heap[q]?=some (.cells #[.int .i64 z.k,.string z.t,.int .i64 vky,.int .i64 vny,.string vsy,.slice aly lly cly,.slice aky lky cky,.bool true,.slice (some bz) (m+1) ccy,.int .i64 z.p] 28 (0,0)):=by rw [←hwq,←hq];exact heap_alloc_new _ _
     have HXq:=hZ ((uZ HX).trans (hbq.mono (uZ HX).size))
     have HOq:=hZ ((uZ HO).later hbq)
     have hgbq:g≤wq.heap.size:=Nat.le_trans hgb hbq.size
     have HAq:=hZ hAq
     clear hbq hAq hwq hq
     obtain⟨x0,x1,x2,x3,x4,x5,x6,x7,x8,x9⟩:=row_ten (uZ HAq)
     go_upto_region 13 with (at_builtin;refine wpl_appT rfl (.tmp 32) (.const (.string ⟨#[101,120,112,111,114,116,32]⟩)) rfl g _ L0 ⟨#[101,120,112,111,114,116,32]⟩ rfl (uZ HOq) rfl (by show L0.length+7≤_;omega) hgbq ?_;intro v21 w21 H21)
     obtain⟨L1,hL1⟩:∃L,L0++[101,120,112,111,114,116,32]=L:=⟨_,rfl⟩
     have HO1:=hZ (show OwB w21 g v21 L1 by rw [←hL1];exact(uZ H21).1)
     have hl1:L1.length≤20000000000:=by rw [←hL1,List.length_append];show L0.length+7≤_;omega
     have HL1:=hZ hL1
     have HX21:=hZ ((uZ HXq).trans ((uZ H21).2.1.mono (by have:=uZ HG1;omega)))
     have hgb1:g≤w21.heap.size:=Nat.le_trans hgbq (uZ H21).2.1.size
     have HA1:=hZ ((uZ H21).2.2 q _ _ _ (uZ HAq) (by decide))
     clear H21 hL1 HOq HAq
     clear x0 x1 x2 x3 x4 x5 x6 x7 x8 x9
     go_upto_region 14 with (at_builtin;refine wpl_appT rfl (.tmp 34) (.const (.string ⟨#[102,110,32]⟩)) rfl g _ L1 ⟨#[102,110,32]⟩ rfl (uZ HO1) rfl (by show L1.length+3≤_;omega) hgb1 ?_;intro v22 w22 H22)
     obtain⟨L2,hL2⟩:∃L,L1++[102,110,32]=L:=⟨_,rfl⟩
     have HO2:=hZ (show OwB w22 g v22 L2 by rw [←hL2];exact(uZ H22).1)
     have hl2:L2.length≤30000000000:=by rw [←hL2,List.length_append];show L1.length+3≤_;omega
     have HL2:=hZ hL2
     have HX22:=hZ ((uZ HX21).trans ((uZ H22).2.1.mono (by have:=uZ HG1;omega)))
     have hgb2:g≤w22.heap.size:=Nat.le_trans hgb1 (uZ H22).2.1.size
     have HA2:=hZ ((uZ H22).2.2 q _ _ _ (uZ HA1) (by decide))
     clear H22 hL2 HO1 HA1
     obtain⟨x0,x1,x2,x3,x4,x5,x6,x7,x8,x9⟩:=row_ten (uZ HA2)
     go_upto_region 15 with (at_builtin;refine wpl_appT rfl (.tmp 36) (.tmp 38) rfl g _ L2 z.t rfl (uZ HO2) rfl (by omega) hgb2 ?_;intro v23 w23 H23)
     obtain⟨L3,hL3⟩:∃L,L2++z.t.data.toList=L:=⟨_,rfl⟩
     have HO3:=hZ (show OwB w23 g v23 L3 by rw [←hL3];exact(uZ H23).1)
     have hl3:L3.length≤40000000000:=by rw [←hL3,List.length_append];show L2.length+z.t.size≤_;omega
     have HL3:=hZ hL3
     have HX23:=hZ ((uZ HX22).trans ((uZ H23).2.1.mono (by have:=uZ HG1;omega)))
     have hgb3:g≤w23.heap.size:=Nat.le_trans hgb2 (uZ H23).2.1.size
     have HA3:=hZ ((uZ H23).2.2 q _ _ _ (uZ HA2) (by decide))
     clear H23 hL3 HO2 HA2
     clear x0 x1 x2 x3 x4 x5 x6 x7 x8 x9
     go_upto_region 16 with (at_builtin;refine wpl_byteT (w:=w23) rfl (.tmp 40) (.tmp 41) rfl g _ L3 40 rfl (uZ HO3) rfl (by omega) hgb3 ?_;intro v24 w24 H24)
     obtain⟨L4,hL4⟩:∃L,L3++[40]=L:=⟨_,rfl⟩
     have HO4:=hZ (show OwB w24 g v24 L4 by rw [←hL4];exact(uZ H24).1)
     have hl4:L4.length≤50000000000:=by rw [←hL4,List.length_append];show L3.length+1≤_;omega
     have HL4:=hZ hL4
     have HX24:=hZ ((uZ HX23).trans ((uZ H24).2.1.mono (by have:=uZ HG1;omega)))
     have hgb4:g≤w24.heap.size:=Nat.le_trans hgb3 (uZ H24).2.1.size
     have HA4:=hZ ((uZ H24).2.2 q _ _ _ (uZ HA3) (by decide))
     clear H24 hL4 HO3 HA3
     go_wp2_with fail
     go_loopw [5,8] (fun ov x w9=>∃(j:Nat) (rw':Value),x=.int .i64 (j:Int)∧rw'=ov∧j≤m∧Hid (OwB w9 g rw' (L4++jl [44,32] true (((z.ks.take m).take j).map nmT)))∧Hid (Below w1.heap.size w1 w9)∧Hid (w9.heap[q]?=some (.cells #[.int .i64 z.k,.string z.t,.int .i64 vky,.int .i64 vny,.string vsy,.slice aly lly cly,.slice aky lky cky,.bool true,.slice (some bz) (m+1) ccy,.int .i64 z.p] 28 (0,0)))) (fun _ x _=>m - (intOf x).toNat)
     case atStart=>exact⟨0,_,rfl,rfl,Nat.zero_le _,hZ (by simpa [jl] using uZ HO4),HX24,HA4⟩
     case round=>
      obtain⟨j,rv9,rfl,rfl,hj,HOj,HXj,HAj⟩:=hrel
      obtain⟨w9,hw9⟩:∃u,u=wr:=⟨_,rfl⟩
      subst hw9
      have hgbj:g≤w9.heap.size:=by have:=(uZ HXj).size;have:=uZ HG1;omega
      have hlj:(L4++jl [44,32] true (((z.ks.take m).take j).map nmT)).length≤60000000000:=by rw [List.length_append];have:=(uZ HLP) j;omega
      obtain⟨LJ,hLJ⟩:∃L,L4++jl [44,32] true (((z.ks.take m).take j).map nmT)=L:=⟨_,rfl⟩
      rw [hLJ] at HOj hlj
      have HLJ:=hZ hLJ
      clear hLJ
      obtain⟨x0,x1,x2,x3,x4,x5,x6,x7,x8,x9⟩:=row_ten (uZ HAj)
      by_cases hjm:j<m
      ·by_cases hj0:j=0
       ·have j1:(j:Int)+1<(m:Int)+1:=by omega
        have j2:((j:Int)+1)<((m+1:Nat):Int):=by omega
        have j0:(0:Int)≤(j:Int):=by omega
        have jw:IntKind.i64.wrap ((j:Int)+1)=(j:Int)+1:=by rw [IntKind.wrap_i64];omega
        have j3:(j:Int)<(m:Int)+1:=by omega
        have HJM:=hZ hjm
        have HJ0:=hZ hj0
        clear hjm hj0
        have jn:¬(0:Int)<(j:Int):=by have:=uZ HJ0;omega
        go_upto_region 21 with fail
        clear jn x0 x1 x2 x3 x4 x5 x6 x7 x8 x9
        obtain⟨x0,x1,x2,x3,x4,x5,x6,x7,x8,x9⟩:=row_ten (uZ HAj)
        obtain⟨p9,hp9⟩:∃p,z.ks[j]?=some p:=⟨_,List.getElem?_eq_getElem (by have:=uZ HMZ;have:=uZ HJM;omega)⟩
        have hrow:=(uZ HRW) w9 (uZ HXj)
        obtain⟨b7,vk7,vn7,vs7,al7,ak7,a7,ll7,cl7,lk7,ck7,n7,cc7,e7,hc7,hb7,hn7,hz7,hcell7⟩:=hrow.ten hp9
        obtain rfl:=Option.some.inj e7
        have y1:w9.cell? ⟨(bz.add (j * 10)).block,(bz.add (j * 10)).off+1,none⟩=some (.string p9.t):=hcell7 1 _ rfl
        have hcc7:m+1≤ccy:=by rw [←uZ HMZ];exact hc7
        have htp9:=(uZ HTP) j p9 hp9
        have HP9:=hZ hp9
        clear hp9 hrow e7 hc7 hb7 hn7 hz7 hcell7
        go_wp2_with (at_builtin;refine wpl_appT rfl (.tmp 55) (.tmp 61) rfl g _ LJ p9.t rfl (uZ HOj) rfl (by omega) hgbj ?_;intro v26 w26 H26)
        obtain⟨L6,hL6⟩:∃L,LJ++p9.t.data.toList=L:=⟨_,rfl⟩
        have HO6:=hZ (show OwB w26 g v26 L6 by rw [←hL6];exact(uZ H26).1)
        have hl6:L6.length≤70000000000:=by rw [←hL6,List.length_append];show LJ.length+p9.t.size≤_;omega
        have HL6:=hZ hL6
        have HX26:=hZ ((uZ HXj).trans ((uZ H26).2.1.mono (by have:=uZ HG1;omega)))
        have hgb6:g≤w26.heap.size:=Nat.le_trans hgbj (uZ H26).2.1.size
        have HA6:=hZ ((uZ H26).2.2 q _ _ _ (uZ HAj) (by decide))
        clear H26 hL6 HOj HAj
        clear y1 x0 x1 x2 x3 x4 x5 x6 x7 x8 x9
        have hnx:=jl_next [44,32] (z.ks.take m) nmT j p9 (by rw [List.getElem?_take_of_lt (uZ HJM)];exact uZ HP9)
        have HOf:=hZ (show OwB w26 g v26 (L4++jl [44,32] true (((z.ks.take m).take (j+1)).map nmT)) by
         rw [hnx,←List.append_assoc,uZ HLJ]
         rw [if_pos (uZ HJ0)]
         unfold nmT
         rw [uZ HL6]
         exact uZ HO6)
        clear hnx
        go_roundw
        case rel=>exact⟨j+1,_,by go_num,rfl,by have:=uZ HJM;omega,HOf,HX26,HA6⟩
        case measure=>have:=uZ HJM;simp [intOf];omega
       ·have j1:(j:Int)+1<(m:Int)+1:=by omega
        have j2:((j:Int)+1)<((m+1:Nat):Int):=by omega
        have j0:(0:Int)≤(j:Int):=by omega
        have jw:IntKind.i64.wrap ((j:Int)+1)=(j:Int)+1:=by rw [IntKind.wrap_i64];omega
        have j3:(j:Int)<(m:Int)+1:=by omega
        have HJM:=hZ hjm
        have HJ0:=hZ hj0
        clear hjm hj0
        have jn:(0:Int)<(j:Int):=by have:=uZ HJ0;omega
        go_upto_region 21 with (at_builtin;refine wpl_appT rfl (.tmp 53) (.const (.string ⟨#[44,32]⟩)) rfl g _ LJ ⟨#[44,32]⟩ rfl (uZ HOj) rfl (by show LJ.length+2≤_;omega) hgbj ?_;intro v26 w26 H26)
        obtain⟨L6,hL6⟩:∃L,LJ++[44,32]=L:=⟨_,rfl⟩
        have HO6:=hZ (show OwB w26 g v26 L6 by rw [←hL6];exact(uZ H26).1)
        have hl6:L6.length≤70000000000:=by rw [←hL6,List.length_append];show LJ.length+2≤_;omega
        have HL6:=hZ hL6
        have HX26:=hZ ((uZ HXj).trans ((uZ H26).2.1.mono (by have:=uZ HG1;omega)))
        have hgb6:g≤w26.heap.size:=Nat.le_trans hgbj (uZ H26).2.1.size
        have HA6:=hZ ((uZ H26).2.2 q _ _ _ (uZ HAj) (by decide))
        clear H26 hL6 HOj HAj
        clear jn x0 x1 x2 x3 x4 x5 x6 x7 x8 x9
        obtain⟨x0,x1,x2,x3,x4,x5,x6,x7,x8,x9⟩:=row_ten (uZ HA6)
        obtain⟨p9,hp9⟩:∃p,z.ks[j]?=some p:=⟨_,List.getElem?_eq_getElem (by have:=uZ HMZ;have:=uZ HJM;omega)⟩
        have hrow:=(uZ HRW) w26 (uZ HX26)
        obtain⟨b7,vk7,vn7,vs7,al7,ak7,a7,ll7,cl7,lk7,ck7,n7,cc7,e7,hc7,hb7,hn7,hz7,hcell7⟩:=hrow.ten hp9
        obtain rfl:=Option.some.inj e7
        have y1:w26.cell? ⟨(bz.add (j * 10)).block,(bz.add (j * 10)).off+1,none⟩=some (.string p9.t):=hcell7 1 _ rfl
        have hcc7:m+1≤ccy:=by rw [←uZ HMZ];exact hc7
        have htp9:=(uZ HTP) j p9 hp9
        have HP9:=hZ hp9
        clear hp9 hrow e7 hc7 hb7 hn7 hz7 hcell7
        go_wp2_with (at_builtin;refine wpl_appT rfl (.tmp 55) (.tmp 61) rfl g _ L6 p9.t rfl (uZ HO6) rfl (by omega) hgb6 ?_;intro v27 w27 H27)
        obtain⟨L7,hL7⟩:∃L,L6++p9.t.data.toList=L:=⟨_,rfl⟩
        have HO7:=hZ (show OwB w27 g v27 L7 by rw [←hL7];exact(uZ H27).1)
        have hl7:L7.length≤80000000000:=by rw [←hL7,List.length_append];show L6.length+p9.t.size≤_;omega
        have HL7:=hZ hL7
        have HX27:=hZ ((uZ HX26).trans ((uZ H27).2.1.mono (by have:=uZ HG1;omega)))
        have hgb7:g≤w27.heap.size:=Nat.le_trans hgb6 (uZ H27).2.1.size
        have HA7:=hZ ((uZ H27).2.2 q _ _ _ (uZ HA6) (by decide))
        clear H27 hL7 HO6 HA6
        clear y1 x0 x1 x2 x3 x4 x5 x6 x7 x8 x9
        have hnx:=jl_next [44,32] (z.ks.take m) nmT j p9 (by rw [List.getElem?_take_of_lt (uZ HJM)];exact uZ HP9)
        have HOf:=hZ (show OwB w27 g v27 (L4++jl [44,32] true (((z.ks.take m).take (j+1)).map nmT)) by
         rw [hnx,←List.append_assoc,uZ HLJ]
         rw [if_neg (uZ HJ0)]
         unfold nmT
         rw [←List.append_assoc,uZ HL6,uZ HL7]
         exact uZ HO7)
        clear hnx
        go_roundw
        case rel=>exact⟨j+1,_,by go_num,rfl,by have:=uZ HJM;omega,HOf,HX27,HA7⟩
        case measure=>have:=uZ HJM;simp [intOf];omega
      ·have j1:¬(j:Int)+1<(m:Int)+1:=by omega
       have j2:¬((j:Int)+1)<((m+1:Nat):Int):=by omega
       have jw:IntKind.i64.wrap ((j:Int)+1)=(j:Int)+1:=by rw [IntKind.wrap_i64];omega
       obtain rfl:j=m:=by omega
       clear hjm
       go_upto_region 23 with (at_builtin;refine wpl_appT rfl (.tmp 63) (.const (.string ⟨#[41,32]⟩)) rfl g _ LJ ⟨#[41,32]⟩ rfl (uZ HOj) rfl (by show LJ.length+2≤_;omega) hgbj ?_;intro v26 w26 H26)
       obtain⟨L6,hL6⟩:∃L,LJ++[41,32]=L:=⟨_,rfl⟩
       have HO6:=hZ (show OwB w26 g v26 L6 by rw [←hL6];exact(uZ H26).1)
       have hl6:L6.length≤70000000000:=by rw [←hL6,List.length_append];show LJ.length+2≤_;omega
       have HL6:=hZ hL6
       have HX26:=hZ ((uZ HXj).trans ((uZ H26).2.1.mono (by have:=uZ HG1;omega)))
       have hgb6:g≤w26.heap.size:=Nat.le_trans hgbj (uZ H26).2.1.size
       have HA6:=hZ ((uZ H26).2.2 q _ _ _ (uZ HAj) (by decide))
       clear H26 hL6 HOj HAj
       clear x0 x1 x2 x3 x4 x5 x6 x7 x8 x9
       obtain⟨x0,x1,x2,x3,x4,x5,x6,x7,x8,x9⟩:=row_ten (uZ HA6)
       obtain⟨b7,vk7,vn7,vs7,al7,ak7,a7,ll7,cl7,lk7,ck7,n7,cc7,e7,hc7,hb7,hn7,hz7,hcell7⟩:=((uZ HRW) w26 (uZ HX26)).ten (uZ HC)
       obtain rfl:=Option.some.inj e7
       obtain⟨y0,y1,y2,y3,y4,y5,y6,y7,y8,y9⟩:=tenC hcell7
       have hcc7:j+1≤ccy:=by rw [←uZ HMZ];exact hc7
       have q2:((j+1:Nat):Int) - 1=(j:Int):=by omega
       have q3:(j:Int)+1 - 1=(j:Int):=by omega
       have q5:(j:Int)<(j:Int)+1:=by omega
       have q6:(0:Int)≤(j:Int):=by omega
       have q7:IntKind.i64.wrap (j:Int)=(j:Int):=by rw [IntKind.wrap_i64];omega
       have CB:=hZ ((uZ HBl) _ w26 ((uZ HM) w26 (uZ HX26)).2.2.1 hz7)
       obtain⟨S,hS⟩:∃S,bA (stT (0+1) c)=S:=⟨_,rfl⟩
       rw [hS] at CB
       have hSd:S.data.toList=stT 1 c:=by rw [←hS,bA_data]
       have hSs:S.size≤10000000000:=by
        have e:S.size=(stT 1 c).length:=by rw [←hS,bA_size]
        have:=uZ HLC
        omega
       have HSd:=hZ hSd
       clear hS hSd e7 hc7 hb7 hn7 hz7 hcell7
       go_wp2_with fail
       refine(uZ CB).mono ?_
       rintro e w5 ⟨rfl,bb⟩
       have HXc:=hZ ((uZ HX26).trans (bb.mono (uZ HX26).size))
       have HOc:=hZ ((uZ HO6).later bb)
       have hgbc:g≤w5.heap.size:=Nat.le_trans hgb6 bb.size
       have HAc:=hZ ((bb.block q (lt_of_row (uZ HA6))).trans (uZ HA6))
       clear bb CB HO6 HA6 y0 y1 y2 y3 y4 y5 y6 y7 y8 y9 x0 x1 x2 x3 x4 x5 x6 x7 x8 x9
       go_upto_region 24 with (at_builtin;refine wpl_appT rfl (.tmp 65) (.tmp 74) rfl g _ L6 S rfl (uZ HOc) rfl (by omega) hgbc ?_;intro v27 w27 H27)
       obtain⟨L7,hL7⟩:∃L,L6++S.data.toList=L:=⟨_,rfl⟩
       have HO7:=hZ (show OwB w27 g v27 L7 by rw [←hL7];exact(uZ H27).1)
       have hl7:L7.length≤80000000000:=by rw [←hL7,List.length_append];show L6.length+S.size≤_;omega
       have HL7:=hZ hL7
       have HX27:=hZ ((uZ HXc).trans ((uZ H27).2.1.mono (by have:=uZ HG1;omega)))
       have hgb7:g≤w27.heap.size:=Nat.le_trans hgbc (uZ H27).2.1.size
       have HA7:=hZ ((uZ H27).2.2 q _ _ _ (uZ HAc) (by decide))
       clear H27 hL7 HOc HAc
       go_wp2_with (at_builtin;refine wpl_byteT (w:=w27) rfl (.tmp 76) (.tmp 77) rfl g _ L7 10 rfl (uZ HO7) rfl (by omega) hgb7 ?_;intro v28 w28 H28)
       obtain⟨L8,hL8⟩:∃L,L7++[10]=L:=⟨_,rfl⟩
       have HO8:=hZ (show OwB w28 g v28 L8 by rw [←hL8];exact(uZ H28).1)
       have hl8:L8.length≤90000000000:=by rw [←hL8,List.length_append];show L7.length+1≤_;omega
       have HL8:=hZ hL8
       have HX28:=hZ ((uZ HX27).trans ((uZ H28).2.1.mono (by have:=uZ HG1;omega)))
       have hgb8:g≤w28.heap.size:=Nat.le_trans hgb7 (uZ H28).2.1.size
       have HA8:=hZ ((uZ H28).2.2 q _ _ _ (uZ HA7) (by decide))
       clear H28 hL8 HO7 HA7
       have HOf:=hZ (show OwB w28 g v28 (jl [10] true ((ks.take (i+1)).map fnT)) by
        have h:=uZ HO8
        rw [←uZ HL8,←uZ HL7,←uZ HL6,←uZ HLJ,uZ HSd,←uZ HL4,←uZ HL3,←uZ HL2,←uZ HL1] at h
        rw [uZ HJ,uZ HFT,uZ HFZ]
        rw [if_pos (uZ HI0)]
        have e:(z.ks.take j).take j=z.ks.take j:=List.take_of_length_le (by rw [List.length_take];omega)
        rw [e] at h
        simpa [List.append_assoc] using h)
       go_roundw
       case rel=>exact⟨i+1,_,by go_num,rfl,uZ HI1,HOf,HX28⟩
       case measure=>have:=uZ HI1;simp [intOf];omega
    ·have hfz:z.f=false:=hfl
     have hni:¬(0:Int)<(i:Int):=by omega
     have HI0:=hZ h0
     clear h0 hfl
     have HFZ:=hZ hfz
     clear hfz
     go_upto_region 10 with fail
     clear hni x0 x1 x2 x3 x4 x5 x6 x7 x8 x9
     obtain⟨x0,x1,x2,x3,x4,x5,x6,x7,x8,x9⟩:=uZ HF w8 (uZ HX)
     have hcl:=((uZ HK) w8 (uZ HX)).1
     rw [uZ HFZ] at hcl
     obtain⟨e0,e1,e2,e3,e4,e5,e6,e7,e8,e9⟩:=tenC hcl
     clear hcl
     go_upto_region 11 with fail
     clear e0 e1 e2 e3 e4 e5 e6 e7 e8 e9 x0 x1 x2 x3 x4 x5 x6 x7 x8 x9
     obtain⟨wq,hwq⟩:∃wq,w8.alloc (.cells #[.int .i64 z.k,.string z.t,.int .i64 vky,.int .i64 vny,.string vsy,.slice aly lly cly,.slice aky lky cky,.bool false,.slice (some bz) (m+1) ccy,.int .i64 z.p] 28)=wq:=⟨_,rfl⟩
     try rw [hwq]
     obtain⟨q,hq⟩:∃q,w8.heap.size=q:=⟨_,rfl⟩
     try rw [hq]
     have hbq:Below w8.heap.size w8 wq:=by rw [←hwq];exact(Below.refl _ _).alloc (Nat.le_refl _) _
     have hAq:wq.heap[q]?=some (.cells #[.int .i64 z.k,.string z.t,.int .i64 vky,.int .i64 vny,.string vsy,.slice aly lly cly,.slice aky lky cky,.bool false,.slice (some bz) (m+1) ccy,.int .i64 z.p] 28 (0,0)):=by rw [←hwq,←hq];exact heap_alloc_new _ _
     have HXq:=hZ ((uZ HX).trans (hbq.mono (uZ HX).size))
     have HOq:=hZ ((uZ HO).later hbq)
     have hgbq:g≤wq.heap.size:=Nat.le_trans hgb hbq.size
     have HAq:=hZ hAq
     clear hbq hAq hwq hq
     obtain⟨x0,x1,x2,x3,x4,x5,x6,x7,x8,x9⟩:=row_ten (uZ HAq)
     go_upto_region 13 with fail
     clear x0 x1 x2 x3 x4 x5 x6 x7 x8 x9
     go_upto_region 14 with (at_builtin;refine wpl_appT rfl (.tmp 34) (.const (.string ⟨#[102,110,32]⟩)) rfl g _ L0 ⟨#[102,110,32]⟩ rfl (uZ HOq) rfl (by show L0.length+3≤_;omega) hgbq ?_;intro v21 w21 H21)
     obtain⟨L1,hL1⟩:∃L,L0++[102,110,32]=L:=⟨_,rfl⟩
     have HO1:=hZ (show OwB w21 g v21 L1 by rw [←hL1];exact(uZ H21).1)
     have hl1:L1.length≤20000000000:=by rw [←hL1,List.length_append];show L0.length+3≤_;omega
     have HL1:=hZ hL1
     have HX21:=hZ ((uZ HXq).trans ((uZ H21).2.1.mono (by have:=uZ HG1;omega)))
     have hgb1:g≤w21.heap.size:=Nat.le_trans hgbq (uZ H21).2.1.size
     have HA1:=hZ ((uZ H21).2.2 q _ _ _ (uZ HAq) (by decide))
     clear H21 hL1 HOq HAq
     obtain⟨x0,x1,x2,x3,x4,x5,x6,x7,x8,x9⟩:=row_ten (uZ HA1)
     go_upto_region 15 with (at_builtin;refine wpl_appT rfl (.tmp 36) (.tmp 38) rfl g _ L1 z.t rfl (uZ HO1) rfl (by omega) hgb1 ?_;intro v22 w22 H22)
     obtain⟨L2,hL2⟩:∃L,L1++z.t.data.toList=L:=⟨_,rfl⟩
     have HO2:=hZ (show OwB w22 g v22 L2 by rw [←hL2];exact(uZ H22).1)
     have hl2:L2.length≤30000000000:=by rw [←hL2,List.length_append];show L1.length+z.t.size≤_;omega
     have HL2:=hZ hL2
     have HX22:=hZ ((uZ HX21).trans ((uZ H22).2.1.mono (by have:=uZ HG1;omega)))
     have hgb2:g≤w22.heap.size:=Nat.le_trans hgb1 (uZ H22).2.1.size
     have HA2:=hZ ((uZ H22).2.2 q _ _ _ (uZ HA1) (by decide))
     clear H22 hL2 HO1 HA1
     clear x0 x1 x2 x3 x4 x5 x6 x7 x8 x9
     go_upto_region 16 with (at_builtin;refine wpl_byteT (w:=w22) rfl (.tmp 40) (.tmp 41) rfl g _ L2 40 rfl (uZ HO2) rfl (by omega) hgb2 ?_;intro v23 w23 H23)
     obtain⟨L3,hL3⟩:∃L,L2++[40]=L:=⟨_,rfl⟩
     have HO3:=hZ (show OwB w23 g v23 L3 by rw [←hL3];exact(uZ H23).1)
     have hl3:L3.length≤40000000000:=by rw [←hL3,List.length_append];show L2.length+1≤_;omega
     have HL3:=hZ hL3
     have HX23:=hZ ((uZ HX22).trans ((uZ H23).2.1.mono (by have:=uZ HG1;omega)))
     have hgb3:g≤w23.heap.size:=Nat.le_trans hgb2 (uZ H23).2.1.size
     have HA3:=hZ ((uZ H23).2.2 q _ _ _ (uZ HA2) (by decide))
     clear H23 hL3 HO2 HA2
     go_wp2_with fail
     go_loopw [5,8] (fun ov x w9=>∃(j:Nat) (rw':Value),x=.int .i64 (j:Int)∧rw'=ov∧j≤m∧Hid (OwB w9 g rw' (L3++jl [44,32] true (((z.ks.take m).take j).map nmT)))∧Hid (Below w1.heap.size w1 w9)∧Hid (w9.heap[q]?=some (.cells #[.int .i64 z.k,.string z.t,.int .i64 vky,.int .i64 vny,.string vsy,.slice aly lly cly,.slice aky lky cky,.bool false,.slice (some bz) (m+1) ccy,.int .i64 z.p] 28 (0,0)))) (fun _ x _=>m - (intOf x).toNat)
     case atStart=>exact⟨0,_,rfl,rfl,Nat.zero_le _,hZ (by simpa [jl] using uZ HO3),HX23,HA3⟩
     case round=>
      obtain⟨j,rv9,rfl,rfl,hj,HOj,HXj,HAj⟩:=hrel
      obtain⟨w9,hw9⟩:∃u,u=wr:=⟨_,rfl⟩
      subst hw9
      have hgbj:g≤w9.heap.size:=by have:=(uZ HXj).size;have:=uZ HG1;omega
      have hlj:(L3++jl [44,32] true (((z.ks.take m).take j).map nmT)).length≤50000000000:=by rw [List.length_append];have:=(uZ HLP) j;omega
      obtain⟨LJ,hLJ⟩:∃L,L3++jl [44,32] true (((z.ks.take m).take j).map nmT)=L:=⟨_,rfl⟩
      rw [hLJ] at HOj hlj
      have HLJ:=hZ hLJ
      clear hLJ
      obtain⟨x0,x1,x2,x3,x4,x5,x6,x7,x8,x9⟩:=row_ten (uZ HAj)
      by_cases hjm:j<m
      ·by_cases hj0:j=0
       ·have j1:(j:Int)+1<(m:Int)+1:=by omega
        have j2:((j:Int)+1)<((m+1:Nat):Int):=by omega
        have j0:(0:Int)≤(j:Int):=by omega
        have jw:IntKind.i64.wrap ((j:Int)+1)=(j:Int)+1:=by rw [IntKind.wrap_i64];omega
        have j3:(j:Int)<(m:Int)+1:=by omega
        have HJM:=hZ hjm
        have HJ0:=hZ hj0
        clear hjm hj0
        have jn:¬(0:Int)<(j:Int):=by have:=uZ HJ0;omega
        go_upto_region 21 with fail
        clear jn x0 x1 x2 x3 x4 x5 x6 x7 x8 x9
        obtain⟨x0,x1,x2,x3,x4,x5,x6,x7,x8,x9⟩:=row_ten (uZ HAj)
        obtain⟨p9,hp9⟩:∃p,z.ks[j]?=some p:=⟨_,List.getElem?_eq_getElem (by have:=uZ HMZ;have:=uZ HJM;omega)⟩
        have hrow:=(uZ HRW) w9 (uZ HXj)
        obtain⟨b7,vk7,vn7,vs7,al7,ak7,a7,ll7,cl7,lk7,ck7,n7,cc7,e7,hc7,hb7,hn7,hz7,hcell7⟩:=hrow.ten hp9
        obtain rfl:=Option.some.inj e7
        have y1:w9.cell? ⟨(bz.add (j * 10)).block,(bz.add (j * 10)).off+1,none⟩=some (.string p9.t):=hcell7 1 _ rfl
        have hcc7:m+1≤ccy:=by rw [←uZ HMZ];exact hc7
        have htp9:=(uZ HTP) j p9 hp9
        have HP9:=hZ hp9
        clear hp9 hrow e7 hc7 hb7 hn7 hz7 hcell7
        go_wp2_with (at_builtin;refine wpl_appT rfl (.tmp 55) (.tmp 61) rfl g _ LJ p9.t rfl (uZ HOj) rfl (by omega) hgbj ?_;intro v25 w25 H25)
        obtain⟨L5,hL5⟩:∃L,LJ++p9.t.data.toList=L:=⟨_,rfl⟩
        have HO5:=hZ (show OwB w25 g v25 L5 by rw [←hL5];exact(uZ H25).1)
        have hl5:L5.length≤60000000000:=by rw [←hL5,List.length_append];show LJ.length+p9.t.size≤_;omega
        have HL5:=hZ hL5
        have HX25:=hZ ((uZ HXj).trans ((uZ H25).2.1.mono (by have:=uZ HG1;omega)))
        have hgb5:g≤w25.heap.size:=Nat.le_trans hgbj (uZ H25).2.1.size
        have HA5:=hZ ((uZ H25).2.2 q _ _ _ (uZ HAj) (by decide))
        clear H25 hL5 HOj HAj
        clear y1 x0 x1 x2 x3 x4 x5 x6 x7 x8 x9
        have hnx:=jl_next [44,32] (z.ks.take m) nmT j p9 (by rw [List.getElem?_take_of_lt (uZ HJM)];exact uZ HP9)
        have HOf:=hZ (show OwB w25 g v25 (L3++jl [44,32] true (((z.ks.take m).take (j+1)).map nmT)) by
         rw [hnx,←List.append_assoc,uZ HLJ]
         rw [if_pos (uZ HJ0)]
         unfold nmT
         rw [uZ HL5]
         exact uZ HO5)
        clear hnx
        go_roundw
        case rel=>exact⟨j+1,_,by go_num,rfl,by have:=uZ HJM;omega,HOf,HX25,HA5⟩
        case measure=>have:=uZ HJM;simp [intOf];omega
       ·have j1:(j:Int)+1<(m:Int)+1:=by omega
        have j2:((j:Int)+1)<((m+1:Nat):Int):=by omega
        have j0:(0:Int)≤(j:Int):=by omega
        have jw:IntKind.i64.wrap ((j:Int)+1)=(j:Int)+1:=by rw [IntKind.wrap_i64];omega
        have j3:(j:Int)<(m:Int)+1:=by omega
        have HJM:=hZ hjm
        have HJ0:=hZ hj0
        clear hjm hj0
        have jn:(0:Int)<(j:Int):=by have:=uZ HJ0;omega
        go_upto_region 21 with (at_builtin;refine wpl_appT rfl (.tmp 53) (.const (.string ⟨#[44,32]⟩)) rfl g _ LJ ⟨#[44,32]⟩ rfl (uZ HOj) rfl (by show LJ.length+2≤_;omega) hgbj ?_;intro v25 w25 H25)
        obtain⟨L5,hL5⟩:∃L,LJ++[44,32]=L:=⟨_,rfl⟩
        have HO5:=hZ (show OwB w25 g v25 L5 by rw [←hL5];exact(uZ H25).1)
        have hl5:L5.length≤60000000000:=by rw [←hL5,List.length_append];show LJ.length+2≤_;omega
        have HL5:=hZ hL5
        have HX25:=hZ ((uZ HXj).trans ((uZ H25).2.1.mono (by have:=uZ HG1;omega)))
        have hgb5:g≤w25.heap.size:=Nat.le_trans hgbj (uZ H25).2.1.size
        have HA5:=hZ ((uZ H25).2.2 q _ _ _ (uZ HAj) (by decide))
        clear H25 hL5 HOj HAj
        clear jn x0 x1 x2 x3 x4 x5 x6 x7 x8 x9
        obtain⟨x0,x1,x2,x3,x4,x5,x6,x7,x8,x9⟩:=row_ten (uZ HA5)
        obtain⟨p9,hp9⟩:∃p,z.ks[j]?=some p:=⟨_,List.getElem?_eq_getElem (by have:=uZ HMZ;have:=uZ HJM;omega)⟩
        have hrow:=(uZ HRW) w25 (uZ HX25)
        obtain⟨b7,vk7,vn7,vs7,al7,ak7,a7,ll7,cl7,lk7,ck7,n7,cc7,e7,hc7,hb7,hn7,hz7,hcell7⟩:=hrow.ten hp9
        obtain rfl:=Option.some.inj e7
        have y1:w25.cell? ⟨(bz.add (j * 10)).block,(bz.add (j * 10)).off+1,none⟩=some (.string p9.t):=hcell7 1 _ rfl
        have hcc7:m+1≤ccy:=by rw [←uZ HMZ];exact hc7
        have htp9:=(uZ HTP) j p9 hp9
        have HP9:=hZ hp9
        clear hp9 hrow e7 hc7 hb7 hn7 hz7 hcell7
        go_wp2_with (at_builtin;refine wpl_appT rfl (.tmp 55) (.tmp 61) rfl g _ L5 p9.t rfl (uZ HO5) rfl (by omega) hgb5 ?_;intro v26 w26 H26)
        obtain⟨L6,hL6⟩:∃L,L5++p9.t.data.toList=L:=⟨_,rfl⟩
        have HO6:=hZ (show OwB w26 g v26 L6 by rw [←hL6];exact(uZ H26).1)
        have hl6:L6.length≤70000000000:=by rw [←hL6,List.length_append];show L5.length+p9.t.size≤_;omega
        have HL6:=hZ hL6
        have HX26:=hZ ((uZ HX25).trans ((uZ H26).2.1.mono (by have:=uZ HG1;omega)))
        have hgb6:g≤w26.heap.size:=Nat.le_trans hgb5 (uZ H26).2.1.size
        have HA6:=hZ ((uZ H26).2.2 q _ _ _ (uZ HA5) (by decide))
        clear H26 hL6 HO5 HA5
        clear y1 x0 x1 x2 x3 x4 x5 x6 x7 x8 x9
        have hnx:=jl_next [44,32] (z.ks.take m) nmT j p9 (by rw [List.getElem?_take_of_lt (uZ HJM)];exact uZ HP9)
        have HOf:=hZ (show OwB w26 g v26 (L3++jl [44,32] true (((z.ks.take m).take (j+1)).map nmT)) by
         rw [hnx,←List.append_assoc,uZ HLJ]
         rw [if_neg (uZ HJ0)]
         unfold nmT
         rw [←List.append_assoc,uZ HL5,uZ HL6]
         exact uZ HO6)
        clear hnx
        go_roundw
        case rel=>exact⟨j+1,_,by go_num,rfl,by have:=uZ HJM;omega,HOf,HX26,HA6⟩
        case measure=>have:=uZ HJM;simp [intOf];omega
      ·have j1:¬(j:Int)+1<(m:Int)+1:=by omega
       have j2:¬((j:Int)+1)<((m+1:Nat):Int):=by omega
       have jw:IntKind.i64.wrap ((j:Int)+1)=(j:Int)+1:=by rw [IntKind.wrap_i64];omega
       obtain rfl:j=m:=by omega
       clear hjm
       go_upto_region 23 with (at_builtin;refine wpl_appT rfl (.tmp 63) (.const (.string ⟨#[41,32]⟩)) rfl g _ LJ ⟨#[41,32]⟩ rfl (uZ HOj) rfl (by show LJ.length+2≤_;omega) hgbj ?_;intro v25 w25 H25)
       obtain⟨L5,hL5⟩:∃L,LJ++[41,32]=L:=⟨_,rfl⟩
       have HO5:=hZ (show OwB w25 g v25 L5 by rw [←hL5];exact(uZ H25).1)
       have hl5:L5.length≤60000000000:=by rw [←hL5,List.length_append];show LJ.length+2≤_;omega
       have HL5:=hZ hL5
       have HX25:=hZ ((uZ HXj).trans ((uZ H25).2.1.mono (by have:=uZ HG1;omega)))
       have hgb5:g≤w25.heap.size:=Nat.le_trans hgbj (uZ H25).2.1.size
       have HA5:=hZ ((uZ H25).2.2 q _ _ _ (uZ HAj) (by decide))
       clear H25 hL5 HOj HAj
       clear x0 x1 x2 x3 x4 x5 x6 x7 x8 x9
       obtain⟨x0,x1,x2,x3,x4,x5,x6,x7,x8,x9⟩:=row_ten (uZ HA5)
       obtain⟨b7,vk7,vn7,vs7,al7,ak7,a7,ll7,cl7,lk7,ck7,n7,cc7,e7,hc7,hb7,hn7,hz7,hcell7⟩:=((uZ HRW) w25 (uZ HX25)).ten (uZ HC)
       obtain rfl:=Option.some.inj e7
       obtain⟨y0,y1,y2,y3,y4,y5,y6,y7,y8,y9⟩:=tenC hcell7
       have hcc7:j+1≤ccy:=by rw [←uZ HMZ];exact hc7
       have q2:((j+1:Nat):Int) - 1=(j:Int):=by omega
       have q3:(j:Int)+1 - 1=(j:Int):=by omega
       have q5:(j:Int)<(j:Int)+1:=by omega
       have q6:(0:Int)≤(j:Int):=by omega
       have q7:IntKind.i64.wrap (j:Int)=(j:Int):=by rw [IntKind.wrap_i64];omega
       have CB:=hZ ((uZ HBl) _ w25 ((uZ HM) w25 (uZ HX25)).2.2.1 hz7)
       obtain⟨S,hS⟩:∃S,bA (stT (0+1) c)=S:=⟨_,rfl⟩
       rw [hS] at CB
       have hSd:S.data.toList=stT 1 c:=by rw [←hS,bA_data]
       have hSs:S.size≤10000000000:=by
        have e:S.size=(stT 1 c).length:=by rw [←hS,bA_size]
        have:=uZ HLC
        omega
       have HSd:=hZ hSd
       clear hS hSd e7 hc7 hb7 hn7 hz7 hcell7
       go_wp2_with fail
       refine(uZ CB).mono ?_
       rintro e w5 ⟨rfl,bb⟩
       have HXc:=hZ ((uZ HX25).trans (bb.mono (uZ HX25).size))
       have HOc:=hZ ((uZ HO5).later bb)
       have hgbc:g≤w5.heap.size:=Nat.le_trans hgb5 bb.size
       have HAc:=hZ ((bb.block q (lt_of_row (uZ HA5))).trans (uZ HA5))
       clear bb CB HO5 HA5 y0 y1 y2 y3 y4 y5 y6 y7 y8 y9 x0 x1 x2 x3 x4 x5 x6 x7 x8 x9
       go_upto_region 24 with (at_builtin;refine wpl_appT rfl (.tmp 65) (.tmp 74) rfl g _ L5 S rfl (uZ HOc) rfl (by omega) hgbc ?_;intro v26 w26 H26)
       obtain⟨L6,hL6⟩:∃L,L5++S.data.toList=L:=⟨_,rfl⟩
       have HO6:=hZ (show OwB w26 g v26 L6 by rw [←hL6];exact(uZ H26).1)
       have hl6:L6.length≤70000000000:=by rw [←hL6,List.length_append];show L5.length+S.size≤_;omega
       have HL6:=hZ hL6
       have HX26:=hZ ((uZ HXc).trans ((uZ H26).2.1.mono (by have:=uZ HG1;omega)))
       have hgb6:g≤w26.heap.size:=Nat.le_trans hgbc (uZ H26).2.1.size
       have HA6:=hZ ((uZ H26).2.2 q _ _ _ (uZ HAc) (by decide))
       clear H26 hL6 HOc HAc
       go_wp2_with (at_builtin;refine wpl_byteT (w:=w26) rfl (.tmp 76) (.tmp 77) rfl g _ L6 10 rfl (uZ HO6) rfl (by omega) hgb6 ?_;intro v27 w27 H27)
       obtain⟨L7,hL7⟩:∃L,L6++[10]=L:=⟨_,rfl⟩
       have HO7:=hZ (show OwB w27 g v27 L7 by rw [←hL7];exact(uZ H27).1)
       have hl7:L7.length≤80000000000:=by rw [←hL7,List.length_append];show L6.length+1≤_;omega
       have HL7:=hZ hL7
       have HX27:=hZ ((uZ HX26).trans ((uZ H27).2.1.mono (by have:=uZ HG1;omega)))
       have hgb7:g≤w27.heap.size:=Nat.le_trans hgb6 (uZ H27).2.1.size
       have HA7:=hZ ((uZ H27).2.2 q _ _ _ (uZ HA6) (by decide))
       clear H27 hL7 HO6 HA6
       have HOf:=hZ (show OwB w27 g v27 (jl [10] true ((ks.take (i+1)).map fnT)) by
        have h:=uZ HO7
        rw [←uZ HL7,←uZ HL6,←uZ HL5,←uZ HLJ,uZ HSd,←uZ HL3,←uZ HL2,←uZ HL1] at h
        rw [uZ HJ,uZ HFT,uZ HFZ]
        rw [if_pos (uZ HI0)]
        have e:(z.ks.take j).take j=z.ks.take j:=List.take_of_length_le (by rw [List.length_take];omega)
        rw [e] at h
        simpa [List.append_assoc] using h)
       go_roundw
       case rel=>exact⟨i+1,_,by go_num,rfl,uZ HI1,HOf,HX27⟩
       case measure=>have:=uZ HI1;simp [intOf];omega
   ·rcases hfq with hfl|hfl
    ·have hfz:z.f=true:=hfl
     have hni:(0:Int)<(i:Int):=by omega
     have HI0:=hZ h0
     clear h0 hfl
     have HFZ:=hZ hfz
     clear hfz
     go_upto_region 10 with (at_builtin;refine wpl_byteT (w:=w8) rfl (.tmp 22) (.tmp 23) rfl g _ L0 10 rfl (uZ HO) rfl (by omega) hgb ?_;intro v21 w21 H21)
     obtain⟨L1,hL1⟩:∃L,L0++[10]=L:=⟨_,rfl⟩
     have HO1:=hZ (show OwB w21 g v21 L1 by rw [←hL1];exact(uZ H21).1)
     have hl1:L1.length≤20000000000:=by rw [←hL1,List.length_append];show L0.length+1≤_;omega
     have HL1:=hZ hL1
     have HX21:=hZ ((uZ HX).trans ((uZ H21).2.1.mono (by have:=uZ HG1;omega)))
     have hgb1:g≤w21.heap.size:=Nat.le_trans hgb (uZ H21).2.1.size
     clear H21 hL1 HO
     clear hni x0 x1 x2 x3 x4 x5 x6 x7 x8 x9
     obtain⟨x0,x1,x2,x3,x4,x5,x6,x7,x8,x9⟩:=uZ HF w21 (uZ HX21)
     have hcl:=((uZ HK) w21 (uZ HX21)).1
     rw [uZ HFZ] at hcl
     obtain⟨e0,e1,e2,e3,e4,e5,e6,e7,e8,e9⟩:=tenC hcl
     clear hcl
     go_upto_region 11 with fail
     clear e0 e1 e2 e3 e4 e5 e6 e7 e8 e9 x0 x1 x2 x3 x4 x5 x6 x7 x8 x9
     obtain⟨wq,hwq⟩:∃wq,w21.alloc (.cells #[.int .i64 z.k,.string z.t,.int .i64 vky,.int .i64 vny,.string vsy,.slice aly lly cly,.slice aky lky cky,.bool true,.slice (some bz) (m+1) ccy,.int .i64 z.p] 28)=wq:=⟨_,rfl⟩
     try rw [hwq]
     obtain⟨q,hq⟩:∃q,w21.heap.size=q:=⟨_,rfl⟩
     try rw [hq]
     have hbq:Below w21.heap.size w21 wq:=by rw [←hwq];exact(Below.refl _ _).alloc (Nat.le_refl _) _
     have hAq:wq.heap[q]?=some (.cells #[.int .i64 z.k,.string z.t,.int .i64 vky,.int .i64 vny,.string vsy,.slice aly lly cly,.slice aky lky cky,.bool true,.slice (some bz) (m+1) ccy,.int .i64 z.p] 28 (0,0)):=by rw [←hwq,←hq];exact heap_alloc_new _ _
     have HXq:=hZ ((uZ HX21).trans (hbq.mono (uZ HX21).size))
     have HOq:=hZ ((uZ HO1).later hbq)
     have hgbq:g≤wq.heap.size:=Nat.le_trans hgb1 hbq.size
     have HAq:=hZ hAq
     clear hbq hAq hwq hq
     obtain⟨x0,x1,x2,x3,x4,x5,x6,x7,x8,x9⟩:=row_ten (uZ HAq)
     go_upto_region 13 with (at_builtin;refine wpl_appT rfl (.tmp 32) (.const (.string ⟨#[101,120,112,111,114,116,32]⟩)) rfl g _ L1 ⟨#[101,120,112,111,114,116,32]⟩ rfl (uZ HOq) rfl (by show L1.length+7≤_;omega) hgbq ?_;intro v22 w22 H22)
     obtain⟨L2,hL2⟩:∃L,L1++[101,120,112,111,114,116,32]=L:=⟨_,rfl⟩
     have HO2:=hZ (show OwB w22 g v22 L2 by rw [←hL2];exact(uZ H22).1)
     have hl2:L2.length≤30000000000:=by rw [←hL2,List.length_append];show L1.length+7≤_;omega
     have HL2:=hZ hL2
     have HX22:=hZ ((uZ HXq).trans ((uZ H22).2.1.mono (by have:=uZ HG1;omega)))
     have hgb2:g≤w22.heap.size:=Nat.le_trans hgbq (uZ H22).2.1.size
     have HA2:=hZ ((uZ H22).2.2 q _ _ _ (uZ HAq) (by decide))
     clear H22 hL2 HOq HAq
     clear x0 x1 x2 x3 x4 x5 x6 x7 x8 x9
     go_upto_region 14 with (at_builtin;refine wpl_appT rfl (.tmp 34) (.const (.string ⟨#[102,110,32]⟩)) rfl g _ L2 ⟨#[102,110,32]⟩ rfl (uZ HO2) rfl (by show L2.length+3≤_;omega) hgb2 ?_;intro v23 w23 H23)
     obtain⟨L3,hL3⟩:∃L,L2++[102,110,32]=L:=⟨_,rfl⟩
     have HO3:=hZ (show OwB w23 g v23 L3 by rw [←hL3];exact(uZ H23).1)
     have hl3:L3.length≤40000000000:=by rw [←hL3,List.length_append];show L2.length+3≤_;omega
     have HL3:=hZ hL3
     have HX23:=hZ ((uZ HX22).trans ((uZ H23).2.1.mono (by have:=uZ HG1;omega)))
     have hgb3:g≤w23.heap.size:=Nat.le_trans hgb2 (uZ H23).2.1.size
     have HA3:=hZ ((uZ H23).2.2 q _ _ _ (uZ HA2) (by decide))
     clear H23 hL3 HO2 HA2
     obtain⟨x0,x1,x2,x3,x4,x5,x6,x7,x8,x9⟩:=row_ten (uZ HA3)
     go_upto_region 15 with (at_builtin;refine wpl_appT rfl (.tmp 36) (.tmp 38) rfl g _ L3 z.t rfl (uZ HO3) rfl (by omega) hgb3 ?_;intro v24 w24 H24)
     obtain⟨L4,hL4⟩:∃L,L3++z.t.data.toList=L:=⟨_,rfl⟩
     have HO4:=hZ (show OwB w24 g v24 L4 by rw [←hL4];exact(uZ H24).1)
     have hl4:L4.length≤50000000000:=by rw [←hL4,List.length_append];show L3.length+z.t.size≤_;omega
     have HL4:=hZ hL4
     have HX24:=hZ ((uZ HX23).trans ((uZ H24).2.1.mono (by have:=uZ HG1;omega)))
     have hgb4:g≤w24.heap.size:=Nat.le_trans hgb3 (uZ H24).2.1.size
     have HA4:=hZ ((uZ H24).2.2 q _ _ _ (uZ HA3) (by decide))
     clear H24 hL4 HO3 HA3
     clear x0 x1 x2 x3 x4 x5 x6 x7 x8 x9
     go_upto_region 16 with (at_builtin;refine wpl_byteT (w:=w24) rfl (.tmp 40) (.tmp 41) rfl g _ L4 40 rfl (uZ HO4) rfl (by omega) hgb4 ?_;intro v25 w25 H25)
     obtain⟨L5,hL5⟩:∃L,L4++[40]=L:=⟨_,rfl⟩
     have HO5:=hZ (show OwB w25 g v25 L5 by rw [←hL5];exact(uZ H25).1)
     have hl5:L5.length≤60000000000:=by rw [←hL5,List.length_append];show L4.length+1≤_;omega
     have HL5:=hZ hL5
     have HX25:=hZ ((uZ HX24).trans ((uZ H25).2.1.mono (by have:=uZ HG1;omega)))
     have hgb5:g≤w25.heap.size:=Nat.le_trans hgb4 (uZ H25).2.1.size
     have HA5:=hZ ((uZ H25).2.2 q _ _ _ (uZ HA4) (by decide))
     clear H25 hL5 HO4 HA4
     go_wp2_with fail
     go_loopw [5,8] (fun ov x w9=>∃(j:Nat) (rw':Value),x=.int .i64 (j:Int)∧rw'=ov∧j≤m∧Hid (OwB w9 g rw' (L5++jl [44,32] true (((z.ks.take m).take j).map nmT)))∧Hid (Below w1.heap.size w1 w9)∧Hid (w9.heap[q]?=some (.cells #[.int .i64 z.k,.string z.t,.int .i64 vky,.int .i64 vny,.string vsy,.slice aly lly cly,.slice aky lky cky,.bool true,.slice (some bz) (m+1) ccy,.int .i64 z.p] 28 (0,0)))) (fun _ x _=>m - (intOf x).toNat)
     case atStart=>exact⟨0,_,rfl,rfl,Nat.zero_le _,hZ (by simpa [jl] using uZ HO5),HX25,HA5⟩
     case round=>
      obtain⟨j,rv9,rfl,rfl,hj,HOj,HXj,HAj⟩:=hrel
      obtain⟨w9,hw9⟩:∃u,u=wr:=⟨_,rfl⟩
      subst hw9
      have hgbj:g≤w9.heap.size:=by have:=(uZ HXj).size;have:=uZ HG1;omega
      have hlj:(L5++jl [44,32] true (((z.ks.take m).take j).map nmT)).length≤70000000000:=by rw [List.length_append];have:=(uZ HLP) j;omega
      obtain⟨LJ,hLJ⟩:∃L,L5++jl [44,32] true (((z.ks.take m).take j).map nmT)=L:=⟨_,rfl⟩
      rw [hLJ] at HOj hlj
      have HLJ:=hZ hLJ
      clear hLJ
      obtain⟨x0,x1,x2,x3,x4,x5,x6,x7,x8,x9⟩:=row_ten (uZ HAj)
      by_cases hjm:j<m
      ·by_cases hj0:j=0
       ·have j1:(j:Int)+1<(m:Int)+1:=by omega
        have j2:((j:Int)+1)<((m+1:Nat):Int):=by omega
        have j0:(0:Int)≤(j:Int):=by omega
        have jw:IntKind.i64.wrap ((j:Int)+1)=(j:Int)+1:=by rw [IntKind.wrap_i64];omega
        have j3:(j:Int)<(m:Int)+1:=by omega
        have HJM:=hZ hjm
        have HJ0:=hZ hj0
        clear hjm hj0
        have jn:¬(0:Int)<(j:Int):=by have:=uZ HJ0;omega
        go_upto_region 21 with fail
        clear jn x0 x1 x2 x3 x4 x5 x6 x7 x8 x9
        obtain⟨x0,x1,x2,x3,x4,x5,x6,x7,x8,x9⟩:=row_ten (uZ HAj)
        obtain⟨p9,hp9⟩:∃p,z.ks[j]?=some p:=⟨_,List.getElem?_eq_getElem (by have:=uZ HMZ;have:=uZ HJM;omega)⟩
        have hrow:=(uZ HRW) w9 (uZ HXj)
        obtain⟨b7,vk7,vn7,vs7,al7,ak7,a7,ll7,cl7,lk7,ck7,n7,cc7,e7,hc7,hb7,hn7,hz7,hcell7⟩:=hrow.ten hp9
        obtain rfl:=Option.some.inj e7
        have y1:w9.cell? ⟨(bz.add (j * 10)).block,(bz.add (j * 10)).off+1,none⟩=some (.string p9.t):=hcell7 1 _ rfl
        have hcc7:m+1≤ccy:=by rw [←uZ HMZ];exact hc7
        have htp9:=(uZ HTP) j p9 hp9
        have HP9:=hZ hp9
        clear hp9 hrow e7 hc7 hb7 hn7 hz7 hcell7
        go_wp2_with (at_builtin;refine wpl_appT rfl (.tmp 55) (.tmp 61) rfl g _ LJ p9.t rfl (uZ HOj) rfl (by omega) hgbj ?_;intro v27 w27 H27)
        obtain⟨L7,hL7⟩:∃L,LJ++p9.t.data.toList=L:=⟨_,rfl⟩
        have HO7:=hZ (show OwB w27 g v27 L7 by rw [←hL7];exact(uZ H27).1)
        have hl7:L7.length≤80000000000:=by rw [←hL7,List.length_append];show LJ.length+p9.t.size≤_;omega
        have HL7:=hZ hL7
        have HX27:=hZ ((uZ HXj).trans ((uZ H27).2.1.mono (by have:=uZ HG1;omega)))
        have hgb7:g≤w27.heap.size:=Nat.le_trans hgbj (uZ H27).2.1.size
        have HA7:=hZ ((uZ H27).2.2 q _ _ _ (uZ HAj) (by decide))
        clear H27 hL7 HOj HAj
        clear y1 x0 x1 x2 x3 x4 x5 x6 x7 x8 x9
        have hnx:=jl_next [44,32] (z.ks.take m) nmT j p9 (by rw [List.getElem?_take_of_lt (uZ HJM)];exact uZ HP9)
        have HOf:=hZ (show OwB w27 g v27 (L5++jl [44,32] true (((z.ks.take m).take (j+1)).map nmT)) by
         rw [hnx,←List.append_assoc,uZ HLJ]
         rw [if_pos (uZ HJ0)]
         unfold nmT
         rw [uZ HL7]
         exact uZ HO7)
        clear hnx
        go_roundw
        case rel=>exact⟨j+1,_,by go_num,rfl,by have:=uZ HJM;omega,HOf,HX27,HA7⟩
        case measure=>have:=uZ HJM;simp [intOf];omega
       ·have j1:(j:Int)+1<(m:Int)+1:=by omega
        have j2:((j:Int)+1)<((m+1:Nat):Int):=by omega
        have j0:(0:Int)≤(j:Int):=by omega
        have jw:IntKind.i64.wrap ((j:Int)+1)=(j:Int)+1:=by rw [IntKind.wrap_i64];omega
        have j3:(j:Int)<(m:Int)+1:=by omega
        have HJM:=hZ hjm
        have HJ0:=hZ hj0
        clear hjm hj0
        have jn:(0:Int)<(j:Int):=by have:=uZ HJ0;omega
        go_upto_region 21 with (at_builtin;refine wpl_appT rfl (.tmp 53) (.const (.string ⟨#[44,32]⟩)) rfl g _ LJ ⟨#[44,32]⟩ rfl (uZ HOj) rfl (by show LJ.length+2≤_;omega) hgbj ?_;intro v27 w27 H27)
        obtain⟨L7,hL7⟩:∃L,LJ++[44,32]=L:=⟨_,rfl⟩
        have HO7:=hZ (show OwB w27 g v27 L7 by rw [←hL7];exact(uZ H27).1)
        have hl7:L7.length≤80000000000:=by rw [←hL7,List.length_append];show LJ.length+2≤_;omega
        have HL7:=hZ hL7
        have HX27:=hZ ((uZ HXj).trans ((uZ H27).2.1.mono (by have:=uZ HG1;omega)))
        have hgb7:g≤w27.heap.size:=Nat.le_trans hgbj (uZ H27).2.1.size
        have HA7:=hZ ((uZ H27).2.2 q _ _ _ (uZ HAj) (by decide))
        clear H27 hL7 HOj HAj
        clear jn x0 x1 x2 x3 x4 x5 x6 x7 x8 x9
        obtain⟨x0,x1,x2,x3,x4,x5,x6,x7,x8,x9⟩:=row_ten (uZ HA7)
        obtain⟨p9,hp9⟩:∃p,z.ks[j]?=some p:=⟨_,List.getElem?_eq_getElem (by have:=uZ HMZ;have:=uZ HJM;omega)⟩
        have hrow:=(uZ HRW) w27 (uZ HX27)
        obtain⟨b7,vk7,vn7,vs7,al7,ak7,a7,ll7,cl7,lk7,ck7,n7,cc7,e7,hc7,hb7,hn7,hz7,hcell7⟩:=hrow.ten hp9
        obtain rfl:=Option.some.inj e7
        have y1:w27.cell? ⟨(bz.add (j * 10)).block,(bz.add (j * 10)).off+1,none⟩=some (.string p9.t):=hcell7 1 _ rfl
        have hcc7:m+1≤ccy:=by rw [←uZ HMZ];exact hc7
        have htp9:=(uZ HTP) j p9 hp9
        have HP9:=hZ hp9
        clear hp9 hrow e7 hc7 hb7 hn7 hz7 hcell7
        go_wp2_with (at_builtin;refine wpl_appT rfl (.tmp 55) (.tmp 61) rfl g _ L7 p9.t rfl (uZ HO7) rfl (by omega) hgb7 ?_;intro v28 w28 H28)
        obtain⟨L8,hL8⟩:∃L,L7++p9.t.data.toList=L:=⟨_,rfl⟩
        have HO8:=hZ (show OwB w28 g v28 L8 by rw [←hL8];exact(uZ H28).1)
        have hl8:L8.length≤90000000000:=by rw [←hL8,List.length_append];show L7.length+p9.t.size≤_;omega
        have HL8:=hZ hL8
        have HX28:=hZ ((uZ HX27).trans ((uZ H28).2.1.mono (by have:=uZ HG1;omega)))
        have hgb8:g≤w28.heap.size:=Nat.le_trans hgb7 (uZ H28).2.1.size
        have HA8:=hZ ((uZ H28).2.2 q _ _ _ (uZ HA7) (by decide))
        clear H28 hL8 HO7 HA7
        clear y1 x0 x1 x2 x3 x4 x5 x6 x7 x8 x9
        have hnx:=jl_next [44,32] (z.ks.take m) nmT j p9 (by rw [List.getElem?_take_of_lt (uZ HJM)];exact uZ HP9)
        have HOf:=hZ (show OwB w28 g v28 (L5++jl [44,32] true (((z.ks.take m).take (j+1)).map nmT)) by
         rw [hnx,←List.append_assoc,uZ HLJ]
         rw [if_neg (uZ HJ0)]
         unfold nmT
         rw [←List.append_assoc,uZ HL7,uZ HL8]
         exact uZ HO8)
        clear hnx
        go_roundw
        case rel=>exact⟨j+1,_,by go_num,rfl,by have:=uZ HJM;omega,HOf,HX28,HA8⟩
        case measure=>have:=uZ HJM;simp [intOf];omega
      ·have j1:¬(j:Int)+1<(m:Int)+1:=by omega
       have j2:¬((j:Int)+1)<((m+1:Nat):Int):=by omega
       have jw:IntKind.i64.wrap ((j:Int)+1)=(j:Int)+1:=by rw [IntKind.wrap_i64];omega
       obtain rfl:j=m:=by omega
       clear hjm
       go_upto_region 23 with (at_builtin;refine wpl_appT rfl (.tmp 63) (.const (.string ⟨#[41,32]⟩)) rfl g _ LJ ⟨#[41,32]⟩ rfl (uZ HOj) rfl (by show LJ.length+2≤_;omega) hgbj ?_;intro v27 w27 H27)
       obtain⟨L7,hL7⟩:∃L,LJ++[41,32]=L:=⟨_,rfl⟩
       have HO7:=hZ (show OwB w27 g v27 L7 by rw [←hL7];exact(uZ H27).1)
       have hl7:L7.length≤80000000000:=by rw [←hL7,List.length_append];show LJ.length+2≤_;omega
       have HL7:=hZ hL7
       have HX27:=hZ ((uZ HXj).trans ((uZ H27).2.1.mono (by have:=uZ HG1;omega)))
       have hgb7:g≤w27.heap.size:=Nat.le_trans hgbj (uZ H27).2.1.size
       have HA7:=hZ ((uZ H27).2.2 q _ _ _ (uZ HAj) (by decide))
       clear H27 hL7 HOj HAj
       clear x0 x1 x2 x3 x4 x5 x6 x7 x8 x9
       obtain⟨x0,x1,x2,x3,x4,x5,x6,x7,x8,x9⟩:=row_ten (uZ HA7)
       obtain⟨b7,vk7,vn7,vs7,al7,ak7,a7,ll7,cl7,lk7,ck7,n7,cc7,e7,hc7,hb7,hn7,hz7,hcell7⟩:=((uZ HRW) w27 (uZ HX27)).ten (uZ HC)
       obtain rfl:=Option.some.inj e7
       obtain⟨y0,y1,y2,y3,y4,y5,y6,y7,y8,y9⟩:=tenC hcell7
       have hcc7:j+1≤ccy:=by rw [←uZ HMZ];exact hc7
       have q2:((j+1:Nat):Int) - 1=(j:Int):=by omega
       have q3:(j:Int)+1 - 1=(j:Int):=by omega
       have q5:(j:Int)<(j:Int)+1:=by omega
       have q6:(0:Int)≤(j:Int):=by omega
       have q7:IntKind.i64.wrap (j:Int)=(j:Int):=by rw [IntKind.wrap_i64];omega
       have CB:=hZ ((uZ HBl) _ w27 ((uZ HM) w27 (uZ HX27)).2.2.1 hz7)
       obtain⟨S,hS⟩:∃S,bA (stT (0+1) c)=S:=⟨_,rfl⟩
       rw [hS] at CB
       have hSd:S.data.toList=stT 1 c:=by rw [←hS,bA_data]
       have hSs:S.size≤10000000000:=by
        have e:S.size=(stT 1 c).length:=by rw [←hS,bA_size]
        have:=uZ HLC
        omega
       have HSd:=hZ hSd
       clear hS hSd e7 hc7 hb7 hn7 hz7 hcell7
       go_wp2_with fail
       refine(uZ CB).mono ?_
       rintro e w5 ⟨rfl,bb⟩
       have HXc:=hZ ((uZ HX27).trans (bb.mono (uZ HX27).size))
       have HOc:=hZ ((uZ HO7).later bb)
       have hgbc:g≤w5.heap.size:=Nat.le_trans hgb7 bb.size
       have HAc:=hZ ((bb.block q (lt_of_row (uZ HA7))).trans (uZ HA7))
       clear bb CB HO7 HA7 y0 y1 y2 y3 y4 y5 y6 y7 y8 y9 x0 x1 x2 x3 x4 x5 x6 x7 x8 x9
       go_upto_region 24 with (at_builtin;refine wpl_appT rfl (.tmp 65) (.tmp 74) rfl g _ L7 S rfl (uZ HOc) rfl (by omega) hgbc ?_;intro v28 w28 H28)
       obtain⟨L8,hL8⟩:∃L,L7++S.data.toList=L:=⟨_,rfl⟩
       have HO8:=hZ (show OwB w28 g v28 L8 by rw [←hL8];exact(uZ H28).1)
       have hl8:L8.length≤90000000000:=by rw [←hL8,List.length_append];show L7.length+S.size≤_;omega
       have HL8:=hZ hL8
       have HX28:=hZ ((uZ HXc).trans ((uZ H28).2.1.mono (by have:=uZ HG1;omega)))
       have hgb8:g≤w28.heap.size:=Nat.le_trans hgbc (uZ H28).2.1.size
       have HA8:=hZ ((uZ H28).2.2 q _ _ _ (uZ HAc) (by decide))
       clear H28 hL8 HOc HAc
       go_wp2_with (at_builtin;refine wpl_byteT (w:=w28) rfl (.tmp 76) (.tmp 77) rfl g _ L8 10 rfl (uZ HO8) rfl (by omega) hgb8 ?_;intro v29 w29 H29)
       obtain⟨L9,hL9⟩:∃L,L8++[10]=L:=⟨_,rfl⟩
       have HO9:=hZ (show OwB w29 g v29 L9 by rw [←hL9];exact(uZ H29).1)
       have hl9:L9.length≤100000000000:=by rw [←hL9,List.length_append];show L8.length+1≤_;omega
       have HL9:=hZ hL9
       have HX29:=hZ ((uZ HX28).trans ((uZ H29).2.1.mono (by have:=uZ HG1;omega)))
       have hgb9:g≤w29.heap.size:=Nat.le_trans hgb8 (uZ H29).2.1.size
       have HA9:=hZ ((uZ H29).2.2 q _ _ _ (uZ HA8) (by decide))
       clear H29 hL9 HO8 HA8
       have HOf:=hZ (show OwB w29 g v29 (jl [10] true ((ks.take (i+1)).map fnT)) by
        have h:=uZ HO9
        rw [←uZ HL9,←uZ HL8,←uZ HL7,←uZ HLJ,uZ HSd,←uZ HL5,←uZ HL4,←uZ HL3,←uZ HL2,←uZ HL1] at h
        rw [uZ HJ,uZ HFT,uZ HFZ]
        rw [if_neg (uZ HI0)]
        have e:(z.ks.take j).take j=z.ks.take j:=List.take_of_length_le (by rw [List.length_take];omega)
        rw [e] at h
        simpa [List.append_assoc] using h)
       go_roundw
       case rel=>exact⟨i+1,_,by go_num,rfl,uZ HI1,HOf,HX29⟩
       case measure=>have:=uZ HI1;simp [intOf];omega
    ·have hfz:z.f=false:=hfl
     have hni:(0:Int)<(i:Int):=by omega
     have HI0:=hZ h0
     clear h0 hfl
     have HFZ:=hZ hfz
     clear hfz
     go_upto_region 10 with (at_builtin;refine wpl_byteT (w:=w8) rfl (.tmp 22) (.tmp 23) rfl g _ L0 10 rfl (uZ HO) rfl (by omega) hgb ?_;intro v21 w21 H21)
     obtain⟨L1,hL1⟩:∃L,L0++[10]=L:=⟨_,rfl⟩
     have HO1:=hZ (show OwB w21 g v21 L1 by rw [←hL1];exact(uZ H21).1)
     have hl1:L1.length≤20000000000:=by rw [←hL1,List.length_append];show L0.length+1≤_;omega
     have HL1:=hZ hL1
     have HX21:=hZ ((uZ HX).trans ((uZ H21).2.1.mono (by have:=uZ HG1;omega)))
     have hgb1:g≤w21.heap.size:=Nat.le_trans hgb (uZ H21).2.1.size
     clear H21 hL1 HO
     clear hni x0 x1 x2 x3 x4 x5 x6 x7 x8 x9
     obtain⟨x0,x1,x2,x3,x4,x5,x6,x7,x8,x9⟩:=uZ HF w21 (uZ HX21)
     have hcl:=((uZ HK) w21 (uZ HX21)).1
     rw [uZ HFZ] at hcl
     obtain⟨e0,e1,e2,e3,e4,e5,e6,e7,e8,e9⟩:=tenC hcl
     clear hcl
     go_upto_region 11 with fail
     clear e0 e1 e2 e3 e4 e5 e6 e7 e8 e9 x0 x1 x2 x3 x4 x5 x6 x7 x8 x9
     obtain⟨wq,hwq⟩:∃wq,w21.alloc (.cells #[.int .i64 z.k,.string z.t,.int .i64 vky,.int .i64 vny,.string vsy,.slice aly lly cly,.slice aky lky cky,.bool false,.slice (some bz) (m+1) ccy,.int .i64 z.p] 28)=wq:=⟨_,rfl⟩
     try rw [hwq]
     obtain⟨q,hq⟩:∃q,w21.heap.size=q:=⟨_,rfl⟩
     try rw [hq]
     have hbq:Below w21.heap.size w21 wq:=by rw [←hwq];exact(Below.refl _ _).alloc (Nat.le_refl _) _
     have hAq:wq.heap[q]?=some (.cells #[.int .i64 z.k,.string z.t,.int .i64 vky,.int .i64 vny,.string vsy,.slice aly lly cly,.slice aky lky cky,.bool false,.slice (some bz) (m+1) ccy,.int .i64 z.p] 28 (0,0)):=by rw [←hwq,←hq];exact heap_alloc_new _ _
     have HXq:=hZ ((uZ HX21).trans (hbq.mono (uZ HX21).size))
     have HOq:=hZ ((uZ HO1).later hbq)
     have hgbq:g≤wq.heap.size:=Nat.le_trans hgb1 hbq.size
     have HAq:=hZ hAq
     clear hbq hAq hwq hq
     obtain⟨x0,x1,x2,x3,x4,x5,x6,x7,x8,x9⟩:=row_ten (uZ HAq)
     go_upto_region 13 with fail
     clear x0 x1 x2 x3 x4 x5 x6 x7 x8 x9
     go_upto_region 14 with (at_builtin;refine wpl_appT rfl (.tmp 34) (.const (.string ⟨#[102,110,32]⟩)) rfl g _ L1 ⟨#[102,110,32]⟩ rfl (uZ HOq) rfl (by show L1.length+3≤_;omega) hgbq ?_;intro v22 w22 H22)
     obtain⟨L2,hL2⟩:∃L,L1++[102,110,32]=L:=⟨_,rfl⟩
     have HO2:=hZ (show OwB w22 g v22 L2 by rw [←hL2];exact(uZ H22).1)
     have hl2:L2.length≤30000000000:=by rw [←hL2,List.length_append];show L1.length+3≤_;omega
     have HL2:=hZ hL2
     have HX22:=hZ ((uZ HXq).trans ((uZ H22).2.1.mono (by have:=uZ HG1;omega)))
     have hgb2:g≤w22.heap.size:=Nat.le_trans hgbq (uZ H22).2.1.size
     have HA2:=hZ ((uZ H22).2.2 q _ _ _ (uZ HAq) (by decide))
     clear H22 hL2 HOq HAq
     obtain⟨x0,x1,x2,x3,x4,x5,x6,x7,x8,x9⟩:=row_ten (uZ HA2)
     go_upto_region 15 with (at_builtin;refine wpl_appT rfl (.tmp 36) (.tmp 38) rfl g _ L2 z.t rfl (uZ HO2) rfl (by omega) hgb2 ?_;intro v23 w23 H23)
     obtain⟨L3,hL3⟩:∃L,L2++z.t.data.toList=L:=⟨_,rfl⟩
     have HO3:=hZ (show OwB w23 g v23 L3 by rw [←hL3];exact(uZ H23).1)
     have hl3:L3.length≤40000000000:=by rw [←hL3,List.length_append];show L2.length+z.t.size≤_;omega
     have HL3:=hZ hL3
     have HX23:=hZ ((uZ HX22).trans ((uZ H23).2.1.mono (by have:=uZ HG1;omega)))
     have hgb3:g≤w23.heap.size:=Nat.le_trans hgb2 (uZ H23).2.1.size
     have HA3:=hZ ((uZ H23).2.2 q _ _ _ (uZ HA2) (by decide))
     clear H23 hL3 HO2 HA2
     clear x0 x1 x2 x3 x4 x5 x6 x7 x8 x9
     go_upto_region 16 with (at_builtin;refine wpl_byteT (w:=w23) rfl (.tmp 40) (.tmp 41) rfl g _ L3 40 rfl (uZ HO3) rfl (by omega) hgb3 ?_;intro v24 w24 H24)
     obtain⟨L4,hL4⟩:∃L,L3++[40]=L:=⟨_,rfl⟩
     have HO4:=hZ (show OwB w24 g v24 L4 by rw [←hL4];exact(uZ H24).1)
     have hl4:L4.length≤50000000000:=by rw [←hL4,List.length_append];show L3.length+1≤_;omega
     have HL4:=hZ hL4
     have HX24:=hZ ((uZ HX23).trans ((uZ H24).2.1.mono (by have:=uZ HG1;omega)))
     have hgb4:g≤w24.heap.size:=Nat.le_trans hgb3 (uZ H24).2.1.size
     have HA4:=hZ ((uZ H24).2.2 q _ _ _ (uZ HA3) (by decide))
     clear H24 hL4 HO3 HA3
     go_wp2_with fail
     go_loopw [5,8] (fun ov x w9=>∃(j:Nat) (rw':Value),x=.int .i64 (j:Int)∧rw'=ov∧j≤m∧Hid (OwB w9 g rw' (L4++jl [44,32] true (((z.ks.take m).take j).map nmT)))∧Hid (Below w1.heap.size w1 w9)∧Hid (w9.heap[q]?=some (.cells #[.int .i64 z.k,.string z.t,.int .i64 vky,.int .i64 vny,.string vsy,.slice aly lly cly,.slice aky lky cky,.bool false,.slice (some bz) (m+1) ccy,.int .i64 z.p] 28 (0,0)))) (fun _ x _=>m - (intOf x).toNat)
     case atStart=>exact⟨0,_,rfl,rfl,Nat.zero_le _,hZ (by simpa [jl] using uZ HO4),HX24,HA4⟩
     case round=>
      obtain⟨j,rv9,rfl,rfl,hj,HOj,HXj,HAj⟩:=hrel
      obtain⟨w9,hw9⟩:∃u,u=wr:=⟨_,rfl⟩
      subst hw9
      have hgbj:g≤w9.heap.size:=by have:=(uZ HXj).size;have:=uZ HG1;omega
      have hlj:(L4++jl [44,32] true (((z.ks.take m).take j).map nmT)).length≤60000000000:=by rw [List.length_append];have:=(uZ HLP) j;omega
      obtain⟨LJ,hLJ⟩:∃L,L4++jl [44,32] true (((z.ks.take m).take j).map nmT)=L:=⟨_,rfl⟩
      rw [hLJ] at HOj hlj
      have HLJ:=hZ hLJ
      clear hLJ
      obtain⟨x0,x1,x2,x3,x4,x5,x6,x7,x8,x9⟩:=row_ten (uZ HAj)
      by_cases hjm:j<m
      ·by_cases hj0:j=0
       ·have j1:(j:Int)+1<(m:Int)+1:=by omega
        have j2:((j:Int)+1)<((m+1:Nat):Int):=by omega
        have j0:(0:Int)≤(j:Int):=by omega
        have jw:IntKind.i64.wrap ((j:Int)+1)=(j:Int)+1:=by rw [IntKind.wrap_i64];omega
        have j3:(j:Int)<(m:Int)+1:=by omega
        have HJM:=hZ hjm
        have HJ0:=hZ hj0
        clear hjm hj0
        have jn:¬(0:Int)<(j:Int):=by have:=uZ HJ0;omega
        go_upto_region 21 with fail
        clear jn x0 x1 x2 x3 x4 x5 x6 x7 x8 x9
        obtain⟨x0,x1,x2,x3,x4,x5,x6,x7,x8,x9⟩:=row_ten (uZ HAj)
        obtain⟨p9,hp9⟩:∃p,z.ks[j]?=some p:=⟨_,List.getElem?_eq_getElem (by have:=uZ HMZ;have:=uZ HJM;omega)⟩
        have hrow:=(uZ HRW) w9 (uZ HXj)
        obtain⟨b7,vk7,vn7,vs7,al7,ak7,a7,ll7,cl7,lk7,ck7,n7,cc7,e7,hc7,hb7,hn7,hz7,hcell7⟩:=hrow.ten hp9
        obtain rfl:=Option.some.inj e7
        have y1:w9.cell? ⟨(bz.add (j * 10)).block,(bz.add (j * 10)).off+1,none⟩=some (.string p9.t):=hcell7 1 _ rfl
        have hcc7:m+1≤ccy:=by rw [←uZ HMZ];exact hc7
        have htp9:=(uZ HTP) j p9 hp9
        have HP9:=hZ hp9
        clear hp9 hrow e7 hc7 hb7 hn7 hz7 hcell7
        go_wp2_with (at_builtin;refine wpl_appT rfl (.tmp 55) (.tmp 61) rfl g _ LJ p9.t rfl (uZ HOj) rfl (by omega) hgbj ?_;intro v26 w26 H26)
        obtain⟨L6,hL6⟩:∃L,LJ++p9.t.data.toList=L:=⟨_,rfl⟩
        have HO6:=hZ (show OwB w26 g v26 L6 by rw [←hL6];exact(uZ H26).1)
        have hl6:L6.length≤70000000000:=by rw [←hL6,List.length_append];show LJ.length+p9.t.size≤_;omega
        have HL6:=hZ hL6
        have HX26:=hZ ((uZ HXj).trans ((uZ H26).2.1.mono (by have:=uZ HG1;omega)))
        have hgb6:g≤w26.heap.size:=Nat.le_trans hgbj (uZ H26).2.1.size
        have HA6:=hZ ((uZ H26).2.2 q _ _ _ (uZ HAj) (by decide))
        clear H26 hL6 HOj HAj
        clear y1 x0 x1 x2 x3 x4 x5 x6 x7 x8 x9
        have hnx:=jl_next [44,32] (z.ks.take m) nmT j p9 (by rw [List.getElem?_take_of_lt (uZ HJM)];exact uZ HP9)
        have HOf:=hZ (show OwB w26 g v26 (L4++jl [44,32] true (((z.ks.take m).take (j+1)).map nmT)) by
         rw [hnx,←List.append_assoc,uZ HLJ]
         rw [if_pos (uZ HJ0)]
         unfold nmT
         rw [uZ HL6]
         exact uZ HO6)
        clear hnx
        go_roundw
        case rel=>exact⟨j+1,_,by go_num,rfl,by have:=uZ HJM;omega,HOf,HX26,HA6⟩
        case measure=>have:=uZ HJM;simp [intOf];omega
       ·have j1:(j:Int)+1<(m:Int)+1:=by omega
        have j2:((j:Int)+1)<((m+1:Nat):Int):=by omega
        have j0:(0:Int)≤(j:Int):=by omega
        have jw:IntKind.i64.wrap ((j:Int)+1)=(j:Int)+1:=by rw [IntKind.wrap_i64];omega
        have j3:(j:Int)<(m:Int)+1:=by omega
        have HJM:=hZ hjm
        have HJ0:=hZ hj0
        clear hjm hj0
        have jn:(0:Int)<(j:Int):=by have:=uZ HJ0;omega
        go_upto_region 21 with (at_builtin;refine wpl_appT rfl (.tmp 53) (.const (.string ⟨#[44,32]⟩)) rfl g _ LJ ⟨#[44,32]⟩ rfl (uZ HOj) rfl (by show LJ.length+2≤_;omega) hgbj ?_;intro v26 w26 H26)
        obtain⟨L6,hL6⟩:∃L,LJ++[44,32]=L:=⟨_,rfl⟩
        have HO6:=hZ (show OwB w26 g v26 L6 by rw [←hL6];exact(uZ H26).1)
        have hl6:L6.length≤70000000000:=by rw [←hL6,List.length_append];show LJ.length+2≤_;omega
        have HL6:=hZ hL6
        have HX26:=hZ ((uZ HXj).trans ((uZ H26).2.1.mono (by have:=uZ HG1;omega)))
        have hgb6:g≤w26.heap.size:=Nat.le_trans hgbj (uZ H26).2.1.size
        have HA6:=hZ ((uZ H26).2.2 q _ _ _ (uZ HAj) (by decide))
        clear H26 hL6 HOj HAj
        clear jn x0 x1 x2 x3 x4 x5 x6 x7 x8 x9
        obtain⟨x0,x1,x2,x3,x4,x5,x6,x7,x8,x9⟩:=row_ten (uZ HA6)
        obtain⟨p9,hp9⟩:∃p,z.ks[j]?=some p:=⟨_,List.getElem?_eq_getElem (by have:=uZ HMZ;have:=uZ HJM;omega)⟩
        have hrow:=(uZ HRW) w26 (uZ HX26)
        obtain⟨b7,vk7,vn7,vs7,al7,ak7,a7,ll7,cl7,lk7,ck7,n7,cc7,e7,hc7,hb7,hn7,hz7,hcell7⟩:=hrow.ten hp9
        obtain rfl:=Option.some.inj e7
        have y1:w26.cell? ⟨(bz.add (j * 10)).block,(bz.add (j * 10)).off+1,none⟩=some (.string p9.t):=hcell7 1 _ rfl
        have hcc7:m+1≤ccy:=by rw [←uZ HMZ];exact hc7
        have htp9:=(uZ HTP) j p9 hp9
        have HP9:=hZ hp9
        clear hp9 hrow e7 hc7 hb7 hn7 hz7 hcell7
        go_wp2_with (at_builtin;refine wpl_appT rfl (.tmp 55) (.tmp 61) rfl g _ L6 p9.t rfl (uZ HO6) rfl (by omega) hgb6 ?_;intro v27 w27 H27)
        obtain⟨L7,hL7⟩:∃L,L6++p9.t.data.toList=L:=⟨_,rfl⟩
        have HO7:=hZ (show OwB w27 g v27 L7 by rw [←hL7];exact(uZ H27).1)
        have hl7:L7.length≤80000000000:=by rw [←hL7,List.length_append];show L6.length+p9.t.size≤_;omega
        have HL7:=hZ hL7
        have HX27:=hZ ((uZ HX26).trans ((uZ H27).2.1.mono (by have:=uZ HG1;omega)))
        have hgb7:g≤w27.heap.size:=Nat.le_trans hgb6 (uZ H27).2.1.size
        have HA7:=hZ ((uZ H27).2.2 q _ _ _ (uZ HA6) (by decide))
        clear H27 hL7 HO6 HA6
        clear y1 x0 x1 x2 x3 x4 x5 x6 x7 x8 x9
        have hnx:=jl_next [44,32] (z.ks.take m) nmT j p9 (by rw [List.getElem?_take_of_lt (uZ HJM)];exact uZ HP9)
        have HOf:=hZ (show OwB w27 g v27 (L4++jl [44,32] true (((z.ks.take m).take (j+1)).map nmT)) by
         rw [hnx,←List.append_assoc,uZ HLJ]
         rw [if_neg (uZ HJ0)]
         unfold nmT
         rw [←List.append_assoc,uZ HL6,uZ HL7]
         exact uZ HO7)
        clear hnx
        go_roundw
        case rel=>exact⟨j+1,_,by go_num,rfl,by have:=uZ HJM;omega,HOf,HX27,HA7⟩
        case measure=>have:=uZ HJM;simp [intOf];omega
      ·have j1:¬(j:Int)+1<(m:Int)+1:=by omega
       have j2:¬((j:Int)+1)<((m+1:Nat):Int):=by omega
       have jw:IntKind.i64.wrap ((j:Int)+1)=(j:Int)+1:=by rw [IntKind.wrap_i64];omega
       obtain rfl:j=m:=by omega
       clear hjm
       go_upto_region 23 with (at_builtin;refine wpl_appT rfl (.tmp 63) (.const (.string ⟨#[41,32]⟩)) rfl g _ LJ ⟨#[41,32]⟩ rfl (uZ HOj) rfl (by show LJ.length+2≤_;omega) hgbj ?_;intro v26 w26 H26)
       obtain⟨L6,hL6⟩:∃L,LJ++[41,32]=L:=⟨_,rfl⟩
       have HO6:=hZ (show OwB w26 g v26 L6 by rw [←hL6];exact(uZ H26).1)
       have hl6:L6.length≤70000000000:=by rw [←hL6,List.length_append];show LJ.length+2≤_;omega
       have HL6:=hZ hL6
       have HX26:=hZ ((uZ HXj).trans ((uZ H26).2.1.mono (by have:=uZ HG1;omega)))
       have hgb6:g≤w26.heap.size:=Nat.le_trans hgbj (uZ H26).2.1.size
       have HA6:=hZ ((uZ H26).2.2 q _ _ _ (uZ HAj) (by decide))
       clear H26 hL6 HOj HAj
       clear x0 x1 x2 x3 x4 x5 x6 x7 x8 x9
       obtain⟨x0,x1,x2,x3,x4,x5,x6,x7,x8,x9⟩:=row_ten (uZ HA6)
       obtain⟨b7,vk7,vn7,vs7,al7,ak7,a7,ll7,cl7,lk7,ck7,n7,cc7,e7,hc7,hb7,hn7,hz7,hcell7⟩:=((uZ HRW) w26 (uZ HX26)).ten (uZ HC)
       obtain rfl:=Option.some.inj e7
       obtain⟨y0,y1,y2,y3,y4,y5,y6,y7,y8,y9⟩:=tenC hcell7
       have hcc7:j+1≤ccy:=by rw [←uZ HMZ];exact hc7
       have q2:((j+1:Nat):Int) - 1=(j:Int):=by omega
       have q3:(j:Int)+1 - 1=(j:Int):=by omega
       have q5:(j:Int)<(j:Int)+1:=by omega
       have q6:(0:Int)≤(j:Int):=by omega
       have q7:IntKind.i64.wrap (j:Int)=(j:Int):=by rw [IntKind.wrap_i64];omega
       have CB:=hZ ((uZ HBl) _ w26 ((uZ HM) w26 (uZ HX26)).2.2.1 hz7)
       obtain⟨S,hS⟩:∃S,bA (stT (0+1) c)=S:=⟨_,rfl⟩
       rw [hS] at CB
       have hSd:S.data.toList=stT 1 c:=by rw [←hS,bA_data]
       have hSs:S.size≤10000000000:=by
        have e:S.size=(stT 1 c).length:=by rw [←hS,bA_size]
        have:=uZ HLC
        omega
       have HSd:=hZ hSd
       clear hS hSd e7 hc7 hb7 hn7 hz7 hcell7
       go_wp2_with fail
       refine(uZ CB).mono ?_
       rintro e w5 ⟨rfl,bb⟩
       have HXc:=hZ ((uZ HX26).trans (bb.mono (uZ HX26).size))
       have HOc:=hZ ((uZ HO6).later bb)
       have hgbc:g≤w5.heap.size:=Nat.le_trans hgb6 bb.size
       have HAc:=hZ ((bb.block q (lt_of_row (uZ HA6))).trans (uZ HA6))
       clear bb CB HO6 HA6 y0 y1 y2 y3 y4 y5 y6 y7 y8 y9 x0 x1 x2 x3 x4 x5 x6 x7 x8 x9
       go_upto_region 24 with (at_builtin;refine wpl_appT rfl (.tmp 65) (.tmp 74) rfl g _ L6 S rfl (uZ HOc) rfl (by omega) hgbc ?_;intro v27 w27 H27)
       obtain⟨L7,hL7⟩:∃L,L6++S.data.toList=L:=⟨_,rfl⟩
       have HO7:=hZ (show OwB w27 g v27 L7 by rw [←hL7];exact(uZ H27).1)
       have hl7:L7.length≤80000000000:=by rw [←hL7,List.length_append];show L6.length+S.size≤_;omega
       have HL7:=hZ hL7
       have HX27:=hZ ((uZ HXc).trans ((uZ H27).2.1.mono (by have:=uZ HG1;omega)))
       have hgb7:g≤w27.heap.size:=Nat.le_trans hgbc (uZ H27).2.1.size
       have HA7:=hZ ((uZ H27).2.2 q _ _ _ (uZ HAc) (by decide))
       clear H27 hL7 HOc HAc
       go_wp2_with (at_builtin;refine wpl_byteT (w:=w27) rfl (.tmp 76) (.tmp 77) rfl g _ L7 10 rfl (uZ HO7) rfl (by omega) hgb7 ?_;intro v28 w28 H28)
       obtain⟨L8,hL8⟩:∃L,L7++[10]=L:=⟨_,rfl⟩
       have HO8:=hZ (show OwB w28 g v28 L8 by rw [←hL8];exact(uZ H28).1)
       have hl8:L8.length≤90000000000:=by rw [←hL8,List.length_append];show L7.length+1≤_;omega
       have HL8:=hZ hL8
       have HX28:=hZ ((uZ HX27).trans ((uZ H28).2.1.mono (by have:=uZ HG1;omega)))
       have hgb8:g≤w28.heap.size:=Nat.le_trans hgb7 (uZ H28).2.1.size
       have HA8:=hZ ((uZ H28).2.2 q _ _ _ (uZ HA7) (by decide))
       clear H28 hL8 HO7 HA7
       have HOf:=hZ (show OwB w28 g v28 (jl [10] true ((ks.take (i+1)).map fnT)) by
        have h:=uZ HO8
        rw [←uZ HL8,←uZ HL7,←uZ HL6,←uZ HLJ,uZ HSd,←uZ HL4,←uZ HL3,←uZ HL2,←uZ HL1] at h
        rw [uZ HJ,uZ HFT,uZ HFZ]
        rw [if_neg (uZ HI0)]
        have e:(z.ks.take j).take j=z.ks.take j:=List.take_of_length_le (by rw [List.length_take];omega)
        rw [e] at h
        simpa [List.append_assoc] using h)
       go_roundw
       case rel=>exact⟨i+1,_,by go_num,rfl,uZ HI1,HOf,HX28⟩
       case measure=>have:=uZ HI1;simp [intOf];omega
  ·have i1:¬(i:Int)<(n:Int):=by omega
   have hin:ks.take i=ks:=List.take_of_length_le (by have:=uZ HN;omega)
   have HO2:=hZ (show OwB w8 g rv (jl [10] true (ks.map fnT)) by have:=uZ HO;rw [hin] at this;exact this)
   obtain⟨ao,cp,rfl,hcv⟩:=(uZ HO2).conv
   rw [uZ HZT] at hcv
   obtain⟨N1,hN1⟩:∃N1,(jl [10] true (ks.map fnT)).length=N1:=⟨_,rfl⟩
   rw [hN1] at hcv
   try rw [hN1]
   clear HO hin hN1
   go_wp2_with fail
   go_ret2
   have hbz:=((uZ HM) w8 (uZ HX)).2.2.2.2
   exact⟨rfl,by subst hG;exact hbz⟩
end Go.Proofs.YtlkeaaopdnnceaaGreatDoor
