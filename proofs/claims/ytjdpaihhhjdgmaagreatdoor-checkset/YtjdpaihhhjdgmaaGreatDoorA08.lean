/-
  Layer 19 (check): choice over a look that changes a scope; conditions: the nodes lie in memory, how many names there are.
-/
import Derived.Test.YtjdpaihhhjdgmaaGreatDoorA07
set_option linter.unusedVariables false
set_option linter.unusedSimpArgs false
set_option maxRecDepth 100000
set_option maxHeartbeats 8000000
namespace Go.Proofs.YtjdpaihhhjdgmaaGreatDoor
open Go.RowKit
set_option linter.unusedVariables false
set_option linter.unusedSimpArgs false
theorem choice_any {w0:World} {lo q b B0:Nat} {nv0 sv0:Value} {mz:Tn→Nat} {ok:Tn→Sco→Prop} {g:Tn→Sco→Ft × Sco} {F:FuncId} {Bd cap:Array Value} (hL:LookS w0 lo q b B0 nv0 sv0 mz ok g F Bd cap)
  (hf:∀(x:Array Value) (u:World),Sem.run Tryz.prog (callFunc F x) u=.ok (.enter F x) u) {k vk vn p:Int} {t vs:ByteArray} {al ak:Option Addr} {b1:Addr} {ll cl lk ck m cc:Nat} {f:Bool} {y0 y1:Tn} {ns rest:List Tn} {w:World} {nv sv:Value} {n:Nat} {s:Sco} (hr:RowN w B0 ns (some b1) cc) (hn:ns.length=m) (h0:ns[0]?=some y0) (h1:ns[1]?=some y1) (hrest:ns.drop 2=rest) (hm:Mvd w0 w q b nv0 sv0 nv sv) (h:ScM w lo q b n nv sv s) (hk:n+mz y0+mz y1+smM mz rest≤1099511627776) (hB:B0≤lo)
  (hok0:ok y0 s) (hok1:(g y0 s).1.2=0→ok y1 (g y0 s).2)
  (hlp:(g y0 s).1.2=0→(g y1 (g y0 s).2).2.vars.length=(g y0 s).2.vars.length∧((g y1 (g y0 s).2).1.2=0→(∀(i:Nat) (y:Tn),rest[i]?=some y→(∀j,j<i→(rL g rest { (g y1 (g y0 s).2).2 with set:=(g y0 s).2.set,all:=(g y0 s).2.all } j).2=0)→ok y (stL g rest { (g y1 (g y0 s).2).2 with set:=(g y0 s).2.set,all:=(g y0 s).2.all } i))∧(ckL g rest { (g y1 (g y0 s).2).2 with set:=(g y0 s).2.set,all:=(g y0 s).2.all }).2.vars.length=(g y0 s).2.vars.length)) :
  Calls Tryz.prog 51 #[.agg #[.int .i64 k,.string t,.int .i64 vk,.int .i64 vn,.string vs,.slice al ll cl,.slice ak lk ck,.bool f,.slice (some b1) m cc,.int .i64 p],.pointer (some ⟨q,0,none⟩),.func (.func F) Bd cap] w fun e w'=>e=.returned (fltV (choS g y0 y1 rest s).1)∧MvP w w' lo q b n (mz y0+mz y1+smM mz rest) nv sv (choS g y0 y1 rest s).2:=by
 have hqw:=ltR h.hq
 obtain⟨w2,hw2,n2,r2,b2⟩:=bxs k vk vn p t vs al ak (some b1) ll cl lk ck m cc f w
 obtain⟨G,hG⟩:=eX (w.heap.size)
 rw [hG] at n2 r2
 have H2:=hZ (h.below b2)
 have HW:=hZ h
 have HG2:=hZ (And.intro hG b2)
 have HGe:=hZ (And.intro hG (by rw [←hG];exact hqw:q<G))
 have hnb:m≤140737488351232:=by rw [←hn];exact hr.len
 have hmc:m≤cc:=by obtain⟨_,_,_,hc,_⟩:=hr.at h0;omega
 have hm2:2≤m:=by rw [←hn];have:=(List.getElem?_eq_some_iff.1 h1).1;omega
 have M02:=hZ (hm.trans (Mvd.of_below q b nv sv b2))
 have HR:=hZ hr
 have HBlo:=hZ (And.intro hB (Nat.le_trans hB h.hlo.2.2))
 obtain⟨⟨⟨f1,f2⟩,s1⟩,hR0⟩:∃R,g y0 s=R:=⟨_,rfl⟩
 obtain⟨R,hRR⟩:=eX (choS g y0 y1 rest s)
 rw [hRR]
 have HRR:=hZ hRR
 rw [hR0] at hok1 hlp
 have HQ0:=hZ hR0
 have HO:=hZ (And.intro h0 (And.intro h1 (And.intro hok0 (And.intro hok1 (And.intro hlp hrest)))))
 have HLEN:=hZ hn
 have HF:=hZ hf
 have HM0:=hZ hm
 have HL:=hZ hL
 have HK:=hZ hk
 obtain⟨vk0,vn0,vs0,al0,ak0,ya0,ll0,cl0,lk0,ck0,yc0,hz0,hc0⟩:=kid_at (hr.later (b2.mono (uZ HBlo).2)) h0
 have CP:=hZ (hL w2 nv sv n s y0 _ (uZ M02) (uZ H2) (by omega) hok0 hz0)
 rw [hR0] at CP
 obtain⟨yn0,hyn0⟩:=eX (y0.ks.length)
 rw [hyn0] at CP hc0
 have e0:w2.cell? b1=some (.int .i64 y0.k):=hc0 0 _ rfl
 have e1:w2.cell? ⟨b1.block,b1.off+1,none⟩=some (.string y0.t):=hc0 1 _ rfl
 have e2:w2.cell? ⟨b1.block,b1.off+2,none⟩=some (.int .i64 vk0):=hc0 2 _ rfl
 have e3:w2.cell? ⟨b1.block,b1.off+3,none⟩=some (.int .i64 vn0):=hc0 3 _ rfl
 have e4:w2.cell? ⟨b1.block,b1.off+4,none⟩=some (.string vs0):=hc0 4 _ rfl
 have e5:w2.cell? ⟨b1.block,b1.off+5,none⟩=some (.slice al0 ll0 cl0):=hc0 5 _ rfl
 have e6:w2.cell? ⟨b1.block,b1.off+6,none⟩=some (.slice ak0 lk0 ck0):=hc0 6 _ rfl
 have e7:w2.cell? ⟨b1.block,b1.off+7,none⟩=some (.bool y0.f):=hc0 7 _ rfl
 have e8:w2.cell? ⟨b1.block,b1.off+8,none⟩=some (.slice ya0 yn0 yc0):=hc0 8 _ rfl
 have e9:w2.cell? ⟨b1.block,b1.off+9,none⟩=some (.int .i64 y0.p):=hc0 9 _ rfl
 clear hRR hz0 hc0 hyn0 hf hL hk hR0 h0 h1 hok0 hok1 hlp hr hm hB hn
 unfold fltV
 go_enter Tryz.func51,Tryz.ntmps51
 go_upto_region 1 with fail
 try rw [hw2]
 try rw [hG]
 clear hw2 h b2 hG
 have hi0:(0:Int)<(m:Int):=by omega
 have hi1:(1:Int)<(m:Int):=by omega
 obtain⟨m0,m1,m2,m3,m4,m5,m6,m7,m8,m9⟩:=ten_at n2
 go_wp2_with (rw [uZ HF])
 refine(uZ CP).mono ?_
 rintro e w3 ⟨rfl,nv1,sv1,n1,S3,M3,hn1⟩
 have r3:=keepF_of_mvd (uZ H2) M3 (G+1) _ _ (by decide) (by decide) (by decide) r2
 have n3:=keepF_of_mvd (uZ H2) M3 G _ _ (by decide) (by decide) (by decide) n2
 obtain⟨so,scap,rfl⟩:=own_slice S3.hsv
 obtain⟨g3,hg3⟩:=eX (w3.heap.size)
 have HS3:=hZ S3
 have HM3:=hZ ((Mvd.of_below q b nv sv (uZ HG2).2).trans M3)
 have HN1:=hZ hn1
 have HX3:=hZ (And.intro r3 n3)
 clear e0 e1 e2 e3 e4 e5 e6 e7 e8 e9 m0 m1 m2 m3 m4 m5 m6 m7 m8 m9 CP S3 M3 hn1 r3 n3 r2 n2
 unfold fltV
 go_upto_region 2 with fail
 obtain⟨w4,hw4⟩:=eX (w3.alloc (.cells #[.int .i64 f1,.int .i64 f2] 42))
 have b4:=alB hw4
 have n4:w4.heap[g3]?=some (.cells #[.int .i64 f1,.int .i64 f2] 42 (0,0)):=alN hw4 hg3
 obtain⟨k0,k1⟩:=two_at n4
 have HS4:=hZ ((uZ HS3).below b4)
 have HM4:=hZ ((uZ HM3).trans (Mvd.of_below q b nv1 (.slice so s1.set.length scap) b4))
 have HX4:=hZ (And.intro ((b4.block _ (ltR (uZ HX3).1)).trans (uZ HX3).1) ((b4.block _ (ltR (uZ HX3).2)).trans (uZ HX3).2))
 try rw [hw4]
 try rw [hg3]
 clear b4 n4 hw4 hg3
 by_cases hf2:f2=0
 ·subst hf2
  have hlen1:=hZ (uZ HS4).len
  obtain⟨c0,c1,c2,c3,c4⟩:=five_at (uZ HS4).hq
  have CC:=hZ (copied_any (x:=s1.all) (by rw [uZ hlen1];exact(uZ HS4).few1) (uZ HS4).hsv)
  go_upto_region 4 with fail
  clear k0 k1
  go_wp2_with fail
  refine(uZ CC).mono ?_
  rintro e w5 ⟨v2,rfl,o5,b5⟩
  obtain⟨so2,sc2,rfl⟩:=own_slice o5
  obtain⟨g5,hg5⟩:=eX (w5.heap.size)
  have HS5:=hZ ((uZ HS4).below b5)
  have HM5:=hZ ((uZ HM4).trans (Mvd.of_below q b nv1 (.slice so s1.set.length scap) b5))
  have HX5:=hZ (And.intro ((b5.block _ (ltR (uZ HX4).1)).trans (uZ HX4).1) ((b5.block _ (ltR (uZ HX4).2)).trans (uZ HX4).2))
  have HO5:=hZ o5
  have HZ5:=hZ (And.intro b5.size hg5)
  clear c0 c1 c2 c3 c4 CC o5 b5
  go_upto_region 5 with fail
  obtain⟨w6,hw6⟩:=eX (w5.alloc (.cells #[.slice so2 s1.set.length sc2,.bool s1.all] 59))
  have b6:=alB hw6
  have n6:w6.heap[g5]?=some (.cells #[.slice so2 s1.set.length sc2,.bool s1.all] 59 (0,0)):=alN hw6 hg5
  have HS7:=hZ ((uZ HS5).below b6)
  have HM7:=hZ ((uZ HM5).trans (Mvd.of_below q b nv1 (.slice so s1.set.length scap) b6))
  have HO7:=hZ (own_bes (Besk.of_below (P:=fun _=>False) b6) (uZ HO5) (fun _ _ e=>e))
  have HX7:=hZ (And.intro ((b6.block _ (ltR (uZ HX5).1)).trans (uZ HX5).1) (And.intro ((b6.block _ (ltR (uZ HX5).2)).trans (uZ HX5).2) n6))
  have HZ6:=hZ (And.intro (uZ HZ5).1 b6.size)
  try rw [hw6]
  try rw [hg5]
  clear b6 n6 hw6 hg5
  obtain⟨vk1,vn1,vs1,al1,ak1,ya1,ll1,cl1,lk1,ck1,yc1,hz1,hc1⟩:=kid_at ((uZ HR).later ((Mvd.low (uZ HW) (uZ HM7)).mono (uZ HBlo).1)) (uZ HO).2.1
  have CP:=hZ ((uZ HL) w6 nv1 _ n1 _ y1 _ ((uZ HM0).trans (uZ HM7)) (uZ HS7) (by have h1:=uZ HN1;have h2:=uZ HK;omega) ((uZ HO).2.2.2.1 trivial) hz1)
  obtain⟨⟨⟨f3,f4⟩,s2⟩,hR1⟩:∃z,g y1 s1=z:=⟨_,rfl⟩
  rw [hR1] at CP
  have HQ1:=hZ hR1
  have HV2:=hZ (show s2.vars.length=s1.vars.length by have:=((uZ HO).2.2.2.2.1 trivial).1;rw [hR1] at this;exact this)
  obtain⟨yn1,hyn1⟩:=eX (y1.ks.length)
  rw [hyn1] at CP hc1
  have e0:w6.cell? ⟨b1.block,b1.off+10,none⟩=some (.int .i64 y1.k):=hc1 0 _ rfl
  have e1:w6.cell? ⟨b1.block,b1.off+10+1,none⟩=some (.string y1.t):=hc1 1 _ rfl
  have e2:w6.cell? ⟨b1.block,b1.off+10+2,none⟩=some (.int .i64 vk1):=hc1 2 _ rfl
  have e3:w6.cell? ⟨b1.block,b1.off+10+3,none⟩=some (.int .i64 vn1):=hc1 3 _ rfl
  have e4:w6.cell? ⟨b1.block,b1.off+10+4,none⟩=some (.string vs1):=hc1 4 _ rfl
  have e5:w6.cell? ⟨b1.block,b1.off+10+5,none⟩=some (.slice al1 ll1 cl1):=hc1 5 _ rfl
  have e6:w6.cell? ⟨b1.block,b1.off+10+6,none⟩=some (.slice ak1 lk1 ck1):=hc1 6 _ rfl
  have e7:w6.cell? ⟨b1.block,b1.off+10+7,none⟩=some (.bool y1.f):=hc1 7 _ rfl
  have e8:w6.cell? ⟨b1.block,b1.off+10+8,none⟩=some (.slice ya1 yn1 yc1):=hc1 8 _ rfl
  have e9:w6.cell? ⟨b1.block,b1.off+10+9,none⟩=some (.int .i64 y1.p):=hc1 9 _ rfl
  obtain⟨m0,m1,m2,m3,m4,m5,m6,m7,m8,m9⟩:=ten_at (uZ HX7).2.1
  clear hz1 hc1 hyn1 hR1
  go_wp2_with (rw [uZ HF])
  refine(uZ CP).mono ?_
  rintro e w8 ⟨rfl,nv2,sv2,n2,S8,M8,hn2⟩
  obtain⟨so3,sc3,rfl⟩:=own_slice S8.hsv
  obtain⟨g8,hg8⟩:=eX (w8.heap.size)
  have KF:=keepF_of_mvd (uZ HS7) M8
  have HX8:=hZ (And.intro (KF (G+1) _ _ (by decide) (by decide) (by decide) (uZ HX7).1) (And.intro (KF G _ _ (by decide) (by decide) (by decide) (uZ HX7).2.1) (KF g5 _ _ (by decide) (by decide) (by decide) (uZ HX7).2.2)))
  have HO8:=hZ (own_bes M8.bes (uZ HO7) (fun z hz hp=>by
   have h1:=own_from (uZ HO7) hz
   have h2:=(uZ HS4).lt z hp
   omega))
  have HS8:=hZ S8
  have HM8:=hZ ((uZ HM7).trans M8)
  have HN2:=hZ hn2
  have HOS:=hZ M8.os
  clear e0 e1 e2 e3 e4 e5 e6 e7 e8 e9 m0 m1 m2 m3 m4 m5 m6 m7 m8 m9 CP S8 M8 hn2 KF
  unfold fltV
  go_upto_region 6 with fail
  obtain⟨w9,hw9⟩:=eX (w8.alloc (.cells #[.int .i64 f3,.int .i64 f4] 42))
  have b9:=alB hw9
  have n9:w9.heap[g8]?=some (.cells #[.int .i64 f3,.int .i64 f4] 42 (0,0)):=alN hw9 hg8
  have HS9:=hZ ((uZ HS8).below b9)
  have HM9:=hZ ((uZ HM8).trans (Mvd.of_below q b nv2 (.slice so3 s2.set.length sc3) b9))
  have HO9:=hZ (own_bes (Besk.of_below (P:=fun _=>False) b9) (uZ HO8) (fun _ _ e=>e))
  have HX9:=hZ (And.intro ((b9.block _ (ltR (uZ HX8).1)).trans (uZ HX8).1) (And.intro ((b9.block _ (ltR (uZ HX8).2.1)).trans (uZ HX8).2.1) ((b9.block _ (ltR (uZ HX8).2.2)).trans (uZ HX8).2.2)))
  obtain⟨k0,k1⟩:=two_at n9
  try rw [hw9]
  try rw [hg8]
  clear b9 n9 hw9 hg8
  by_cases hf4:f4=0
  ·subst hf4
   obtain⟨c0,c1,c2,c3,c4⟩:=five_at (uZ HS9).hq
   obtain⟨ga,hga⟩:=eX (w9.heap.size)
   go_upto_region 9 with fail
   obtain⟨wa,hwa⟩:=eX (w9.alloc (.cells #[.slice so3 s2.set.length sc3,.bool s2.all] 59))
   have ba:=alB hwa
   have na:wa.heap[ga]?=some (.cells #[.slice so3 s2.set.length sc3,.bool s2.all] 59 (0,0)):=alN hwa hga
   have HSa:=hZ ((uZ HS9).below ba)
   have HMa:=hZ ((uZ HM9).trans (Mvd.of_below q b nv2 (.slice so3 s2.set.length sc3) ba))
   have HOa:=hZ (own_bes (Besk.of_below (P:=fun _=>False) ba) (uZ HO9) (fun _ _ e=>e))
   have HXa:=hZ (And.intro ((ba.block _ (ltR (uZ HX9).1)).trans (uZ HX9).1) (And.intro ((ba.block _ (ltR (uZ HX9).2.1)).trans (uZ HX9).2.1) (And.intro ((ba.block _ (ltR (uZ HX9).2.2)).trans (uZ HX9).2.2) na)))
   have hqa:q<ga:=by rw [←hga];exact ltR (uZ HS9).hq
   have HQA:=hZ hqa
   try rw [hwa]
   try rw [hga]
   clear ba na hwa hga hqa c0 c1 c2 c3 c4 k0 k1
   obtain⟨k0,k1⟩:=two_at (uZ HXa).2.2.1
   obtain⟨c0,c1,c2,c3,c4⟩:=five_at (uZ HSa).hq
   have y2':=frozen_of_row wa q 2 _ _ (uZ HSa).hq
   have y3':=frozen_of_row wa q 3 _ _ (uZ HSa).hq
   go_upto_region 10 with fail
   have hbase:=(uZ HS4).hlo.2.2
   have hwz:w.heap.size≤w4.heap.size:=(uZ HM4).bes.size
   have SW:=(uZ HSa).setW (own_base (uZ HOa) hbase) (by rw [uZ hlen1];exact(uZ HV2).symm) s1.all
   have MW:Mvd w ((wa.setCell ⟨q,2,none⟩ (.slice so2 s1.set.length sc2)).setCell ⟨q,3,none⟩ (.bool s1.all)) q b nv sv nv2 (.slice so2 s1.set.length sc2):=⟨(((uZ HMa).setQ 2 (.slice so2 s1.set.length sc2)).setQ 3 (.bool s1.all)).bes,(uZ HMa).on,fun z hz=>Or.inr (Nat.le_trans hwz (own_from (uZ HOa) hz))⟩
   have hqG:=(uZ HGe).2
   have ne1:G+1≠q:=by omega
   have ne0:G≠q:=by omega
   have nea:ga≠q:=by have:=uZ HQA;omega
   have HXb:=hZ (And.intro ((heap_setCell_other _ ⟨q,3,none⟩ (G+1) (.bool s1.all) ne1).trans ((heap_setCell_other wa ⟨q,2,none⟩ (G+1) (.slice so2 s1.set.length sc2) ne1).trans (uZ HXa).1)) (And.intro ((heap_setCell_other _ ⟨q,3,none⟩ G (.bool s1.all) ne0).trans ((heap_setCell_other wa ⟨q,2,none⟩ G (.slice so2 s1.set.length sc2) ne0).trans (uZ HXa).2.1)) ((heap_setCell_other _ ⟨q,3,none⟩ ga (.bool s1.all) nea).trans ((heap_setCell_other wa ⟨q,2,none⟩ ga (.slice so2 s1.set.length sc2) nea).trans (uZ HXa).2.2.2))))
   have o1:=(uZ HSa).hsv.kept (grown_set wa ⟨q,2,none⟩ (.slice so2 s1.set.length sc2)) (own_neK (uZ HSa).hsv (uZ HSa).hq (by rfl))
   have q1:=heap_setCell_same wa q 2 _ _ (.slice so2 s1.set.length sc2) (uZ HSa).hq
   have HO1:=hZ (o1.kept (grown_set _ ⟨q,3,none⟩ (.bool s1.all)) (own_neK o1 q1 (by rfl)))
   have HSW:=hZ SW
   have HMW:=hZ MW
   obtain⟨wb,hwb⟩:=eX ((wa.setCell ⟨q,2,none⟩ (.slice so2 s1.set.length sc2)).setCell ⟨q,3,none⟩ (.bool s1.all))
   rw [hwb] at HXb HSW HMW HO1 ⊢
   clear SW MW ne1 ne0 nea hbase hwz o1 q1 hwb k0 k1 c0 c1 c2 c3 c4 y2' y3' hqG
   obtain⟨m0,m1,m2,m3,m4,m5,m6,m7,m8,m9⟩:=ten_at (uZ HXb).2.1
   have hi2:(2:Int)≤(m:Int):=by omega
   have hi3:(m:Int)≤(cc:Int):=by omega
   by_cases hcc2:cc=2
   ·have hcz:(cc:Int)=2:=by omega
    subst hcc2
    have hm2':m=2:=by omega
    have HRE:Hid (rest=[]):=hZ (by rw [←(uZ HO).2.2.2.2.2];exact List.drop_eq_nil_of_le (by have:=uZ HLEN;omega))
    obtain⟨⟨⟨f5,f6⟩,s4⟩,hR2⟩:∃z,ckL g rest { s2 with set:=s1.set,all:=s1.all }=z:=⟨_,rfl⟩
    have HQ2:=hZ hR2
    have HV4:=hZ (show s4.vars.length=s1.vars.length by have h:=((uZ HO).2.2.2.2.1 trivial).2;rw [uZ HQ1] at h;have h2:=(h rfl).2;rw [hR2] at h2;exact h2)
    have CF:=hZ (first_look (s:={ s2 with set:=s1.set,all:=s1.all }) (uZ HL) (uZ HF) (show RowN wb B0 rest (some b1) 0 from by rw [uZ HRE];exact RowN.none _ _ _ _) (show rest.length=0 from by rw [uZ HRE];rfl) ((uZ HM0).trans (uZ HMW)) (uZ HSW) (by have h1:=uZ HN1;have h2:=uZ HN2;have h3:=uZ HK;omega) (uZ HBlo).1 (by have h:=((uZ HO).2.2.2.2.1 trivial).2;rw [uZ HQ1] at h;exact(h rfl).1))
    rw [hR2] at CF
    clear hR2
    go_wp2_with fail
    refine(uZ CF).mono ?_
    rintro e wc ⟨rfl,nv3,sv3,n3,S3,M3,hn3⟩
    obtain⟨so4,sc4,rfl⟩:=own_slice S3.hsv
    have KF:=keepF_of_mvd (uZ HSW) M3
    have HXc:=hZ (And.intro (KF (G+1) _ _ (by decide) (by decide) (by decide) (uZ HXb).1) (KF ga _ _ (by decide) (by decide) (by decide) (uZ HXb).2.2))
    have HOc:=hZ (own_bes M3.bes (uZ HO1) (fun z hz hp=>by
     rcases hp with hp|hp|hp|hp
     ·rcases own_neK (uZ HO1) (uZ HSW).hq (by rfl) with h1|h1
      ·rw [h1] at hz;cases hz
      ·exact h1 (by rw [hz,hp])
     ·rcases own_nb (uZ HO1) (uZ HSW).hm with h1|h1
      ·rw [h1] at hz;cases hz
      ·exact h1 (by rw [hz,hp])
     ·exact own_two (uZ HO1) (uZ HSW).hnv (by rfl) z hz hp
     ·have h1:=own_from (uZ HO5) (k:=z) (by simpa [Value.ownBlock] using hp)
      have h2:z<w5.heap.size:=by
       rcases own_form (uZ HO5) with ⟨e1,_⟩|⟨g',cap',cur,e1,_,_,hg⟩
       ·rw [e1] at hp;cases hp
       ·rw [e1] at hp
        have e3:g'=z:=by simpa [Value.ownBlock] using hp
        exact e3 ▸ ltR hg
      rcases uZ HOS z hz with h3|h3
      ·have:=(uZ HS4).lt z (Or.inr (Or.inr (Or.inr h3)))
       omega
      ·have:=(uZ HZ6).2
       omega))
    have HSc:=hZ S3
    have HMc:=hZ ((uZ HMW).trans M3)
    have HOSc:=hZ M3.os
    have HN3:=hZ hn3
    obtain⟨gd,hgd⟩:=eX (wc.heap.size)
    clear S3 M3 hn3 KF CF m0 m1 m2 m3 m4 m5 m6 m7 m8 m9
    unfold fltV
    go_upto_region 11 with fail
    obtain⟨wd,hwd⟩:=eX (wc.alloc (.cells #[.int .i64 f5,.int .i64 f6] 42))
    have bd:=alB hwd
    have nd:wd.heap[gd]?=some (.cells #[.int .i64 f5,.int .i64 f6] 42 (0,0)):=alN hwd hgd
    have HSd:=hZ ((uZ HSc).below bd)
    have HMd:=hZ ((uZ HMc).trans (Mvd.of_below q b nv3 (.slice so4 s4.set.length sc4) bd))
    have HOd:=hZ (own_bes (Besk.of_below (P:=fun _=>False) bd) (uZ HOc) (fun _ _ e=>e))
    have HXd:=hZ (And.intro ((bd.block _ (ltR (uZ HXc).1)).trans (uZ HXc).1) (And.intro ((bd.block _ (ltR (uZ HXc).2)).trans (uZ HXc).2) nd))
    try rw [hwd]
    try rw [hgd]
    clear bd nd hwd hgd
    have hN4:s4.set.length=s2.set.length:=by rw [(uZ HSd).len,(uZ HS9).len,uZ HV4,uZ HV2]
    rw [hN4] at HSd HMd HOSc
    try rw [hN4]
    obtain⟨J,hJ⟩:=eX (joinS (s2.set,s2.all) (s4.set,s4.all))
    have HJ:=hZ hJ
    have HJl:=hZ (show J.1.length=s2.set.length by rw [←hJ];exact joinS_len _ _ _ _ hN4.symm)
    have HN4:=hZ hN4
    have HFw:=hZ (show s2.set.length≤1099511627776 by rw [(uZ HS9).len];exact(uZ HS9).few1)
    clear hJ hN4
    have HFd:Hid (∀u,Below wd.heap.size wd u→(u.cell? ⟨ga,0,none⟩=some (.slice so3 s2.set.length sc3)∧u.cell? ⟨ga,1,none⟩=some (.bool s2.all))∧u.cell? ⟨q,2,none⟩=some (.slice so4 s2.set.length sc4)∧u.cell? ⟨q,3,none⟩=some (.bool s4.all)):=hZ fun u hu=>⟨two_at ((hu.block ga (ltR (uZ HXd).2.1)).trans (uZ HXd).2.1),(five_at ((uZ HSd).below hu).hq).2.2.1,(five_at ((uZ HSd).below hu).hq).2.2.2.1⟩
    have HS0:Hid (Below wd.heap.size wd wd.drew):=hZ ((Below.refl _ _).drew)
    refine till_begin (S:=fun w'=>Below wd.heap.size wd w') 9 (by kernel_rfl) ?_
    obtain⟨W0,hW0⟩:=eX (wd.drew)
    try rw [hW0]
    rw [hW0] at HS0
    clear hW0
    refine tK 0 (v:=.pointer (some ⟨q,0,none⟩)) (some 50) rfl rfl rfl (by kernel_rfl) (fun _ _ _ h=>h) (Or.inl ⟨by rfl,fun u hu=>by obtain⟨⟨d0,d1⟩,d2,d3⟩:=uZ HFd u hu;go_simp⟩) (uZ HS0) ?_
    try simp only [Act.put,sA,sB,sC]
    refine tK 1 (v:=.agg #[.slice so3 s2.set.length sc3,.bool s2.all]) (some 51) rfl rfl rfl (by kernel_rfl) (fun _ _ _ h=>h) (Or.inl ⟨by rfl,fun u hu=>by obtain⟨⟨d0,d1⟩,d2,d3⟩:=uZ HFd u hu;go_simp⟩) (uZ HS0) ?_
    try simp only [Act.put,sA,sB,sC]
    refine tK 2 (v:=.pointer (some ⟨q,0,none⟩)) (some 52) rfl rfl rfl (by kernel_rfl) (fun _ _ _ h=>h) (Or.inl ⟨by rfl,fun u hu=>by obtain⟨⟨d0,d1⟩,d2,d3⟩:=uZ HFd u hu;go_simp⟩) (uZ HS0) ?_
    try simp only [Act.put,sA,sB,sC]
    refine tK 3 (v:=.pointer (some ⟨q,0,none⟩)) (some 53) rfl rfl rfl (by kernel_rfl) (fun _ _ _ h=>h) (Or.inl ⟨by rfl,fun u hu=>by obtain⟨⟨d0,d1⟩,d2,d3⟩:=uZ HFd u hu;go_simp⟩) (uZ HS0) ?_
    try simp only [Act.put,sA,sB,sC]
    refine tK 4 (v:=.pointer (some ⟨q,2,none⟩)) (some 54) rfl rfl rfl (by kernel_rfl) (fun _ _ _ h=>h) (Or.inl ⟨by rfl,fun u hu=>by obtain⟨⟨d0,d1⟩,d2,d3⟩:=uZ HFd u hu;go_simp⟩) (uZ HS0) ?_
    try simp only [Act.put,sA,sB,sC]
    refine tK 5 (v:=.agg #[.slice so4 s2.set.length sc4,.bool s4.all]) (some 55) rfl rfl rfl (by kernel_rfl) (fun _ _ _ h=>h) (Or.inl ⟨by rfl,fun u hu=>by obtain⟨⟨d0,d1⟩,d2,d3⟩:=uZ HFd u hu;go_simp⟩) (uZ HS0) ?_
    try simp only [Act.put,sA,sB,sC]
    have CJ:=hZ (joined_any (x1:=s2.all) (x2:=s4.all) (uZ HFw) (Nat.le_trans (uZ HSd).hlo.2.2 (uZ HS0).size) (own_bes (Besk.of_below (P:=fun _=>False) (uZ HS0)) (uZ HOd) (fun _ _ e=>e)) (l2:=s4.set) (by have h:=((uZ HSd).below (uZ HS0)).hsv;rw [uZ HN4] at h;exact h))
    rw [uZ HJ] at CJ
    refine till_one 6 (by kernel_rfl) rfl (fun K hK=>?_)
    go_simp
    refine(uZ CJ).mono ?_
    rintro e W1 ⟨v5,rfl,o5,bb,hv⟩
    obtain⟨so5,sc5,rfl⟩:=own_slice o5
    have HS1:Hid (Below wd.heap.size wd W1):=hZ ((uZ HS0).trans (bb.mono (uZ HS0).size))
    have HO5n:=hZ o5
    have HV5:=hZ hv
    have HW0z:=hZ (uZ HS0).size
    clear CJ bb o5 hv
    go_wp2_with fail
    refine hK.out _ _ (Or.inr (uZ HS1)) ?_
    clear hK K HS0
    try simp only [Act.put,sA,sB,sC]
    obtain⟨⟨d0,d1⟩,d2,d3⟩:=uZ HFd W1 (uZ HS1)
    refine till_one 7 (by kernel_rfl) rfl (fun K hK=>?_)
    go_simp
    refine hK.out _ _ (Or.inr (uZ HS1)) ?_
    clear hK K
    try simp only [Act.put,sA,sB,sC]
    clear d0 d1 d2 d3
    obtain⟨⟨d0,d1⟩,d2,d3⟩:=uZ HFd W1 (uZ HS1)
    refine till_one 8 (by kernel_rfl) rfl (fun K hK=>?_)
    go_simp
    refine hK.out _ _ (Or.inr (uZ HS1)) ?_
    clear hK K
    try simp only [Act.put,sA,sB,sC]
    clear d0 d1 d2 d3
    have SE:=(uZ HSd).below (uZ HS1)
    have q1:=SE.hq
    obtain⟨c0,c1,c2,c3,c4⟩:=five_at q1
    have y2':=frozen_of_row W1 q 2 _ _ q1
    have y3':=frozen_of_row W1 q 3 _ _ q1
    refine till_one 9 (by kernel_rfl) rfl (fun K hK=>?_)
    go_simp
    have o5:=uZ HO5n
    rw [←uZ HJl] at o5
    have SW2:=SE.setW o5 (by rw [uZ HJl,(uZ HS9).len,uZ HV2,uZ HV4]) J.2
    rw [uZ HJl] at SW2
    have hqG:=(uZ HGe).2
    have ne1:G+1≠q:=by omega
    have ned:gd≠q:=by
     intro e9
     have h9:=(uZ HXd).2.2
     rw [e9,(uZ HSd).hq] at h9
     simp only [Option.some.injEq,Obj.cells.injEq] at h9
     exact absurd h9.2.1 (by decide)
    have x1:=((uZ HS1).block _ (ltR (uZ HXd).1)).trans (uZ HXd).1
    have xd:=((uZ HS1).block _ (ltR (uZ HXd).2.2)).trans (uZ HXd).2.2
    have HXe:=hZ (And.intro ((heap_setCell_other _ ⟨q,3,none⟩ (G+1) (.bool J.2) ne1).trans ((heap_setCell_other W1 ⟨q,2,none⟩ (G+1) (.slice so5 s2.set.length sc5) ne1).trans x1)) ((heap_setCell_other _ ⟨q,3,none⟩ gd (.bool J.2) ned).trans ((heap_setCell_other W1 ⟨q,2,none⟩ gd (.slice so5 s2.set.length sc5) ned).trans xd)))
    have M1:=(uZ HMd).trans (Mvd.of_below q b nv3 (.slice so4 s2.set.length sc4) (uZ HS1))
    have MW2:Mvd w ((W1.setCell ⟨q,2,none⟩ (.slice so5 s2.set.length sc5)).setCell ⟨q,3,none⟩ (.bool J.2)) q b nv sv nv3 (.slice so5 s2.set.length sc5):=⟨((M1.setQ 2 (.slice so5 s2.set.length sc5)).setQ 3 (.bool J.2)).bes,M1.on,fun z hz=>by
     rcases uZ HV5 with h|h|h
     ·rw [h] at hz
      exact(uZ HM9).os z hz
     ·rw [h] at hz
      exact M1.os z hz
     ·have h5:=h z hz
      have h6:=(uZ HMd).bes.size
      have h7:=uZ HW0z
      exact Or.inr (by omega)⟩
    have HSE:=hZ SW2
    have HME:=hZ MW2
    obtain⟨we,hwe⟩:=eX ((W1.setCell ⟨q,2,none⟩ (.slice so5 s2.set.length sc5)).setCell ⟨q,3,none⟩ (.bool J.2))
    rw [hwe] at HXe HSE HME ⊢
    clear hwe SW2 MW2 M1 SE q1 c0 c1 c2 c3 c4 y2' y3' x1 xd ne1 ned hqG o5
    refine hK.out _ _ (Or.inl (by first|rfl|trivial)) ?_
    clear hK K
    try simp only [Act.put,sA,sB,sC]
    refine till_done (by kernel_rfl) ?_ _
    obtain⟨k0,k1⟩:=two_at (uZ HXe).2
    obtain⟨j0,j1⟩:=two_at (uZ HXe).1
    have y0':=frozen_of_row we (G+1) 0 _ _ (uZ HXe).1
    have y1':=frozen_of_row we (G+1) 1 _ _ (uZ HXe).1
    have HE:=hZ (And.intro (put2 (uZ HXe).1 (.int .i64 f5) (.int .i64 f6)) (scm_fin (uZ HSE) (uZ HME) (uZ HGe) (uZ HXe).1 (.int .i64 f5) (.int .i64 f6)))
    have hRR:R=((f5,f6),{ s4 with set:=J.1,all:=J.2 }):=by
     rw [←uZ HRR]
     unfold choS
     rw [uZ HQ0,if_pos rfl]
     simp only [uZ HQ1,if_true,uZ HQ2,uZ HJ]
    subst hRR
    go_wp2_with fail
    exact rtF (p:=6) rfl rfl (uZ HE).1 rfl ⟨rfl,_,_,_,(uZ HE).2.1,(uZ HE).2.2,by have h1:=uZ HN1;have h2:=uZ HN2;have h3:=uZ HN3;omega⟩
   ·have hcz:¬(cc:Int)=2:=by omega
    have hre:rest.length=m - 2:=by rw [←(uZ HO).2.2.2.2.2,List.length_drop,uZ HLEN]
    have HRD:Hid (RowN wb B0 rest (some ⟨b1.block,b1.off+20,none⟩) (cc - 2)):=hZ (by have h:=RowN.drop ((uZ HR).later ((Mvd.low (uZ HW) (uZ HMW)).mono (uZ HBlo).1)) 2 (by have:=uZ HLEN;omega);rw [(uZ HO).2.2.2.2.2] at h;exact h)
    obtain⟨⟨⟨f5,f6⟩,s4⟩,hR2⟩:∃z,ckL g rest { s2 with set:=s1.set,all:=s1.all }=z:=⟨_,rfl⟩
    have HQ2:=hZ hR2
    have HV4:=hZ (show s4.vars.length=s1.vars.length by have h:=((uZ HO).2.2.2.2.1 trivial).2;rw [uZ HQ1] at h;have h2:=(h rfl).2;rw [hR2] at h2;exact h2)
    have CF:=hZ (first_look (s:={ s2 with set:=s1.set,all:=s1.all }) (uZ HL) (uZ HF) (uZ HRD) hre ((uZ HM0).trans (uZ HMW)) (uZ HSW) (by have h1:=uZ HN1;have h2:=uZ HN2;have h3:=uZ HK;omega) (uZ HBlo).1 (by have h:=((uZ HO).2.2.2.2.1 trivial).2;rw [uZ HQ1] at h;exact(h rfl).1))
    rw [hR2] at CF
    clear hR2
    go_wp2_with fail
    refine(uZ CF).mono ?_
    rintro e wc ⟨rfl,nv3,sv3,n3,S3,M3,hn3⟩
    obtain⟨so4,sc4,rfl⟩:=own_slice S3.hsv
    have KF:=keepF_of_mvd (uZ HSW) M3
    have HXc:=hZ (And.intro (KF (G+1) _ _ (by decide) (by decide) (by decide) (uZ HXb).1) (KF ga _ _ (by decide) (by decide) (by decide) (uZ HXb).2.2))
    have HOc:=hZ (own_bes M3.bes (uZ HO1) (fun z hz hp=>by
     rcases hp with hp|hp|hp|hp
     ·rcases own_neK (uZ HO1) (uZ HSW).hq (by rfl) with h1|h1
      ·rw [h1] at hz;cases hz
      ·exact h1 (by rw [hz,hp])
     ·rcases own_nb (uZ HO1) (uZ HSW).hm with h1|h1
      ·rw [h1] at hz;cases hz
      ·exact h1 (by rw [hz,hp])
     ·exact own_two (uZ HO1) (uZ HSW).hnv (by rfl) z hz hp
     ·have h1:=own_from (uZ HO5) (k:=z) (by simpa [Value.ownBlock] using hp)
      have h2:z<w5.heap.size:=by
       rcases own_form (uZ HO5) with ⟨e1,_⟩|⟨g',cap',cur,e1,_,_,hg⟩
       ·rw [e1] at hp;cases hp
       ·rw [e1] at hp
        have e3:g'=z:=by simpa [Value.ownBlock] using hp
        exact e3 ▸ ltR hg
      rcases uZ HOS z hz with h3|h3
      ·have:=(uZ HS4).lt z (Or.inr (Or.inr (Or.inr h3)))
       omega
      ·have:=(uZ HZ6).2
       omega))
    have HSc:=hZ S3
    have HMc:=hZ ((uZ HMW).trans M3)
    have HOSc:=hZ M3.os
    have HN3:=hZ hn3
    obtain⟨gd,hgd⟩:=eX (wc.heap.size)
    clear S3 M3 hn3 KF CF m0 m1 m2 m3 m4 m5 m6 m7 m8 m9
    unfold fltV
    go_upto_region 11 with fail
    obtain⟨wd,hwd⟩:=eX (wc.alloc (.cells #[.int .i64 f5,.int .i64 f6] 42))
    have bd:=alB hwd
    have nd:wd.heap[gd]?=some (.cells #[.int .i64 f5,.int .i64 f6] 42 (0,0)):=alN hwd hgd
    have HSd:=hZ ((uZ HSc).below bd)
    have HMd:=hZ ((uZ HMc).trans (Mvd.of_below q b nv3 (.slice so4 s4.set.length sc4) bd))
    have HOd:=hZ (own_bes (Besk.of_below (P:=fun _=>False) bd) (uZ HOc) (fun _ _ e=>e))
    have HXd:=hZ (And.intro ((bd.block _ (ltR (uZ HXc).1)).trans (uZ HXc).1) (And.intro ((bd.block _ (ltR (uZ HXc).2)).trans (uZ HXc).2) nd))
    try rw [hwd]
    try rw [hgd]
    clear bd nd hwd hgd
    have hN4:s4.set.length=s2.set.length:=by rw [(uZ HSd).len,(uZ HS9).len,uZ HV4,uZ HV2]
    rw [hN4] at HSd HMd HOSc
    try rw [hN4]
    obtain⟨J,hJ⟩:=eX (joinS (s2.set,s2.all) (s4.set,s4.all))
    have HJ:=hZ hJ
    have HJl:=hZ (show J.1.length=s2.set.length by rw [←hJ];exact joinS_len _ _ _ _ hN4.symm)
    have HN4:=hZ hN4
    have HFw:=hZ (show s2.set.length≤1099511627776 by rw [(uZ HS9).len];exact(uZ HS9).few1)
    clear hJ hN4
    have HFd:Hid (∀u,Below wd.heap.size wd u→(u.cell? ⟨ga,0,none⟩=some (.slice so3 s2.set.length sc3)∧u.cell? ⟨ga,1,none⟩=some (.bool s2.all))∧u.cell? ⟨q,2,none⟩=some (.slice so4 s2.set.length sc4)∧u.cell? ⟨q,3,none⟩=some (.bool s4.all)):=hZ fun u hu=>⟨two_at ((hu.block ga (ltR (uZ HXd).2.1)).trans (uZ HXd).2.1),(five_at ((uZ HSd).below hu).hq).2.2.1,(five_at ((uZ HSd).below hu).hq).2.2.2.1⟩
    have HS0:Hid (Below wd.heap.size wd wd.drew):=hZ ((Below.refl _ _).drew)
    refine till_begin (S:=fun w'=>Below wd.heap.size wd w') 9 (by kernel_rfl) ?_
    obtain⟨W0,hW0⟩:=eX (wd.drew)
    try rw [hW0]
    rw [hW0] at HS0
    clear hW0
    refine tK 0 (v:=.pointer (some ⟨q,0,none⟩)) (some 50) rfl rfl rfl (by kernel_rfl) (fun _ _ _ h=>h) (Or.inl ⟨by rfl,fun u hu=>by obtain⟨⟨d0,d1⟩,d2,d3⟩:=uZ HFd u hu;go_simp⟩) (uZ HS0) ?_
    try simp only [Act.put,sA,sB,sC]
    refine tK 1 (v:=.agg #[.slice so3 s2.set.length sc3,.bool s2.all]) (some 51) rfl rfl rfl (by kernel_rfl) (fun _ _ _ h=>h) (Or.inl ⟨by rfl,fun u hu=>by obtain⟨⟨d0,d1⟩,d2,d3⟩:=uZ HFd u hu;go_simp⟩) (uZ HS0) ?_
    try simp only [Act.put,sA,sB,sC]
    refine tK 2 (v:=.pointer (some ⟨q,0,none⟩)) (some 52) rfl rfl rfl (by kernel_rfl) (fun _ _ _ h=>h) (Or.inl ⟨by rfl,fun u hu=>by obtain⟨⟨d0,d1⟩,d2,d3⟩:=uZ HFd u hu;go_simp⟩) (uZ HS0) ?_
    try simp only [Act.put,sA,sB,sC]
    refine tK 3 (v:=.pointer (some ⟨q,0,none⟩)) (some 53) rfl rfl rfl (by kernel_rfl) (fun _ _ _ h=>h) (Or.inl ⟨by rfl,fun u hu=>by obtain⟨⟨d0,d1⟩,d2,d3⟩:=uZ HFd u hu;go_simp⟩) (uZ HS0) ?_
    try simp only [Act.put,sA,sB,sC]
    refine tK 4 (v:=.pointer (some ⟨q,2,none⟩)) (some 54) rfl rfl rfl (by kernel_rfl) (fun _ _ _ h=>h) (Or.inl ⟨by rfl,fun u hu=>by obtain⟨⟨d0,d1⟩,d2,d3⟩:=uZ HFd u hu;go_simp⟩) (uZ HS0) ?_
    try simp only [Act.put,sA,sB,sC]
    refine tK 5 (v:=.agg #[.slice so4 s2.set.length sc4,.bool s4.all]) (some 55) rfl rfl rfl (by kernel_rfl) (fun _ _ _ h=>h) (Or.inl ⟨by rfl,fun u hu=>by obtain⟨⟨d0,d1⟩,d2,d3⟩:=uZ HFd u hu;go_simp⟩) (uZ HS0) ?_
    try simp only [Act.put,sA,sB,sC]
    have CJ:=hZ (joined_any (x1:=s2.all) (x2:=s4.all) (uZ HFw) (Nat.le_trans (uZ HSd).hlo.2.2 (uZ HS0).size) (own_bes (Besk.of_below (P:=fun _=>False) (uZ HS0)) (uZ HOd) (fun _ _ e=>e)) (l2:=s4.set) (by have h:=((uZ HSd).below (uZ HS0)).hsv;rw [uZ HN4] at h;exact h))
    rw [uZ HJ] at CJ
    refine till_one 6 (by kernel_rfl) rfl (fun K hK=>?_)
    go_simp
    refine(uZ CJ).mono ?_
    rintro e W1 ⟨v5,rfl,o5,bb,hv⟩
    obtain⟨so5,sc5,rfl⟩:=own_slice o5
    have HS1:Hid (Below wd.heap.size wd W1):=hZ ((uZ HS0).trans (bb.mono (uZ HS0).size))
    have HO5n:=hZ o5
    have HV5:=hZ hv
    have HW0z:=hZ (uZ HS0).size
    clear CJ bb o5 hv
    go_wp2_with fail
    refine hK.out _ _ (Or.inr (uZ HS1)) ?_
    clear hK K HS0
    try simp only [Act.put,sA,sB,sC]
    obtain⟨⟨d0,d1⟩,d2,d3⟩:=uZ HFd W1 (uZ HS1)
    refine till_one 7 (by kernel_rfl) rfl (fun K hK=>?_)
    go_simp
    refine hK.out _ _ (Or.inr (uZ HS1)) ?_
    clear hK K
    try simp only [Act.put,sA,sB,sC]
    clear d0 d1 d2 d3
    obtain⟨⟨d0,d1⟩,d2,d3⟩:=uZ HFd W1 (uZ HS1)
    refine till_one 8 (by kernel_rfl) rfl (fun K hK=>?_)
    go_simp
    refine hK.out _ _ (Or.inr (uZ HS1)) ?_
    clear hK K
    try simp only [Act.put,sA,sB,sC]
    clear d0 d1 d2 d3
    have SE:=(uZ HSd).below (uZ HS1)
    have q1:=SE.hq
    obtain⟨c0,c1,c2,c3,c4⟩:=five_at q1
    have y2':=frozen_of_row W1 q 2 _ _ q1
    have y3':=frozen_of_row W1 q 3 _ _ q1
    refine till_one 9 (by kernel_rfl) rfl (fun K hK=>?_)
    go_simp
    have o5:=uZ HO5n
    rw [←uZ HJl] at o5
    have SW2:=SE.setW o5 (by rw [uZ HJl,(uZ HS9).len,uZ HV2,uZ HV4]) J.2
    rw [uZ HJl] at SW2
    have hqG:=(uZ HGe).2
    have ne1:G+1≠q:=by omega
    have ned:gd≠q:=by
     intro e9
     have h9:=(uZ HXd).2.2
     rw [e9,(uZ HSd).hq] at h9
     simp only [Option.some.injEq,Obj.cells.injEq] at h9
     exact absurd h9.2.1 (by decide)
    have x1:=((uZ HS1).block _ (ltR (uZ HXd).1)).trans (uZ HXd).1
    have xd:=((uZ HS1).block _ (ltR (uZ HXd).2.2)).trans (uZ HXd).2.2
    have HXe:=hZ (And.intro ((heap_setCell_other _ ⟨q,3,none⟩ (G+1) (.bool J.2) ne1).trans ((heap_setCell_other W1 ⟨q,2,none⟩ (G+1) (.slice so5 s2.set.length sc5) ne1).trans x1)) ((heap_setCell_other _ ⟨q,3,none⟩ gd (.bool J.2) ned).trans ((heap_setCell_other W1 ⟨q,2,none⟩ gd (.slice so5 s2.set.length sc5) ned).trans xd)))
    have M1:=(uZ HMd).trans (Mvd.of_below q b nv3 (.slice so4 s2.set.length sc4) (uZ HS1))
    have MW2:Mvd w ((W1.setCell ⟨q,2,none⟩ (.slice so5 s2.set.length sc5)).setCell ⟨q,3,none⟩ (.bool J.2)) q b nv sv nv3 (.slice so5 s2.set.length sc5):=⟨((M1.setQ 2 (.slice so5 s2.set.length sc5)).setQ 3 (.bool J.2)).bes,M1.on,fun z hz=>by
     rcases uZ HV5 with h|h|h
     ·rw [h] at hz
      exact(uZ HM9).os z hz
     ·rw [h] at hz
      exact M1.os z hz
     ·have h5:=h z hz
      have h6:=(uZ HMd).bes.size
      have h7:=uZ HW0z
      exact Or.inr (by omega)⟩
    have HSE:=hZ SW2
    have HME:=hZ MW2
    obtain⟨we,hwe⟩:=eX ((W1.setCell ⟨q,2,none⟩ (.slice so5 s2.set.length sc5)).setCell ⟨q,3,none⟩ (.bool J.2))
    rw [hwe] at HXe HSE HME ⊢
    clear hwe SW2 MW2 M1 SE q1 c0 c1 c2 c3 c4 y2' y3' x1 xd ne1 ned hqG o5
    refine hK.out _ _ (Or.inl (by first|rfl|trivial)) ?_
    clear hK K
    try simp only [Act.put,sA,sB,sC]
    refine till_done (by kernel_rfl) ?_ _
    obtain⟨k0,k1⟩:=two_at (uZ HXe).2
    obtain⟨j0,j1⟩:=two_at (uZ HXe).1
    have y0':=frozen_of_row we (G+1) 0 _ _ (uZ HXe).1
    have y1':=frozen_of_row we (G+1) 1 _ _ (uZ HXe).1
    have HE:=hZ (And.intro (put2 (uZ HXe).1 (.int .i64 f5) (.int .i64 f6)) (scm_fin (uZ HSE) (uZ HME) (uZ HGe) (uZ HXe).1 (.int .i64 f5) (.int .i64 f6)))
    have hRR:R=((f5,f6),{ s4 with set:=J.1,all:=J.2 }):=by
     rw [←uZ HRR]
     unfold choS
     rw [uZ HQ0,if_pos rfl]
     simp only [uZ HQ1,if_true,uZ HQ2,uZ HJ]
    subst hRR
    go_wp2_with fail
    exact rtF (p:=6) rfl rfl (uZ HE).1 rfl ⟨rfl,_,_,_,(uZ HE).2.1,(uZ HE).2.2,by have h1:=uZ HN1;have h2:=uZ HN2;have h3:=uZ HN3;omega⟩
  ·have HRe:R=((f3,f4),s2):=by
    rw [←uZ HRR]
    unfold choS
    rw [uZ HQ0,if_pos rfl]
    show (if (g y1 s1).1.2=0 then _ else g y1 s1)=_
    rw [uZ HQ1,if_neg hf4]
   subst HRe
   have hne:(f4 == 0)=false:=by simpa using hf4
   obtain⟨j0,j1⟩:=two_at (uZ HX9).1
   have y0':=frozen_of_row w9 (G+1) 0 _ _ (uZ HX9).1
   have y1':=frozen_of_row w9 (G+1) 1 _ _ (uZ HX9).1
   have HE:=hZ (And.intro (put2 (uZ HX9).1 (.int .i64 f3) (.int .i64 f4)) (scm_fin (uZ HS9) (uZ HM9) (uZ HGe) (uZ HX9).1 (.int .i64 f3) (.int .i64 f4)))
   go_wp2_with fail
   exact rtF (p:=6) rfl rfl (uZ HE).1 rfl ⟨rfl,_,_,_,(uZ HE).2.1,(uZ HE).2.2,by have h1:=uZ HN1;have h2:=uZ HN2;omega⟩
 ·have HRe:R=((f1,f2),s1):=by
   rw [←uZ HRR]
   unfold choS
   rw [uZ HQ0,if_neg hf2]
  subst HRe
  have hne:(f2 == 0)=false:=by simpa using hf2
  obtain⟨j0,j1⟩:=two_at (uZ HX4).1
  have y0':=frozen_of_row w4 (G+1) 0 _ _ (uZ HX4).1
  have y1':=frozen_of_row w4 (G+1) 1 _ _ (uZ HX4).1
  have HE:=hZ (And.intro (put2 (uZ HX4).1 (.int .i64 f1) (.int .i64 f2)) (scm_fin (uZ HS4) (uZ HM4) (uZ HGe) (uZ HX4).1 (.int .i64 f1) (.int .i64 f2)))
  clear hne
  have hne:(f2 == 0)=false:=by simpa using hf2
  go_wp2_with fail
  exact rtF (p:=6) rfl rfl (uZ HE).1 rfl ⟨rfl,_,_,_,(uZ HE).2.1,(uZ HE).2.2,by have:=uZ HN1;omega⟩
end Go.Proofs.YtjdpaihhhjdgmaaGreatDoor
