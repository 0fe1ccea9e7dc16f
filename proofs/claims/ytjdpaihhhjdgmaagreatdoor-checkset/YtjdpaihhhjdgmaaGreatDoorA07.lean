/-
  Layer 19 (check): loop over a look that changes a scope; conditions: the nodes lie in memory, how many names there are.
  Layer 19 (check): the kids of a node (nodes$1), over a look that changes a scope; conditions: the nodes lie in memory, how many names there are.
  Layer 19 (check): what is wrong with a node, as a function of the tree; pure.
  Layer 19 (check): what a look leaves of a scope: names, loops, sizes; pure.
  Layer 19 (check): a row of nodes from one on; no conditions.
-/
import Derived.Test.YtjdpaihhhjdgmaaGreatDoorA06
set_option linter.unusedVariables false
set_option linter.unusedSimpArgs false
set_option maxRecDepth 100000
set_option maxHeartbeats 8000000
namespace Go.Proofs.YtjdpaihhhjdgmaaGreatDoor
open Go.RowKit
set_option linter.unusedVariables false
set_option linter.unusedSimpArgs false
theorem kid_at {u:World} {B0:Nat} {ns:List Tn} {b:Addr} {cc i:Nat} {y:Tn} (hr:RowN u B0 ns (some b) cc) (hy:ns[i]?=some y):∃(vk vn:Int) (vs:ByteArray) (al ak ya:Option Addr) (ll cl lk ck yc:Nat),IsN u (fun b=>b<B0) y [.int .i64 y.k,.string y.t,.int .i64 vk,.int .i64 vn,.string vs,.slice al ll cl,.slice ak lk ck,.bool y.f,.slice ya y.ks.length yc,.int .i64 y.p]∧∀j v,([.int .i64 y.k,.string y.t,.int .i64 vk,.int .i64 vn,.string vs,.slice al ll cl,.slice ak lk ck,.bool y.f,.slice ya y.ks.length yc,.int .i64 y.p]:List Value)[j]?=some v→u.cell? ((b.add (i * 10)).add j)=some v:=by
 obtain⟨b',z,e,hcc,hz,hcell⟩:=hr.at hy
 cases e
 obtain⟨vk,vn,vs,al,ak,ya,ll,cl,lk,ck,yc,hzs,_⟩:=hz.shape
 subst hzs
 exact⟨vk,vn,vs,al,ak,ya,ll,cl,lk,ck,yc,hz,hcell⟩
theorem ScM.setL {w:World} {lo q b n:Nat} {nv sv:Value} {s:Sco} (h:ScM w lo q b n nv sv s) (l:Int):ScM (w.setCell ⟨q,4,none⟩ (.int .i64 l)) lo q b n nv sv { s with loops:=l } where
 hq:=heap_setCell_same w q 4 _ _ _ h.hq
 hm:=h.hm.later (heap_setCell_other w ⟨q,4,none⟩ b _ (map_ne h.hm h.hq))
 hnv:=h.hnv.kept (grown_set w ⟨q,4,none⟩ _) (own_neK h.hnv h.hq (by rfl))
 hsv:=h.hsv.kept (grown_set w ⟨q,4,none⟩ _) (own_neK h.hsv h.hq (by rfl))
 len:=h.len
 few:=h.few
 hlo:=⟨h.hlo.1,h.hlo.2.1,by simpa using h.hlo.2.2⟩
theorem ScM.setW {w:World} {lo q b n:Nat} {nv sv v:Value} {s:Sco} {l:List Bool} (h:ScM w lo q b n nv sv s) (hv:w.ownsRow lo 4 1 v l.length (l.map Value.bool)) (hl:l.length=s.vars.length) (x:Bool):ScM ((w.setCell ⟨q,2,none⟩ v).setCell ⟨q,3,none⟩ (.bool x)) lo q b n nv v { s with set:=l,all:=x }:=by
 have q1:=heap_setCell_same w q 2 _ 61 v h.hq
 have m1:=h.hm.later (heap_setCell_other w ⟨q,2,none⟩ b v (map_ne h.hm h.hq))
 have n1:=h.hnv.kept (grown_set w ⟨q,2,none⟩ v) (own_neK h.hnv h.hq (by rfl))
 have v1:=hv.kept (grown_set w ⟨q,2,none⟩ v) (own_neK hv h.hq (by rfl))
 exact⟨heap_setCell_same _ q 3 _ _ _ q1,m1.later (heap_setCell_other _ ⟨q,3,none⟩ b _ (map_ne m1 q1)),n1.kept (grown_set _ ⟨q,3,none⟩ _) (own_neK n1 q1 (by rfl)),v1.kept (grown_set _ ⟨q,3,none⟩ _) (own_neK v1 q1 (by rfl)),hl,h.few,⟨h.hlo.1,h.hlo.2.1,by simpa using h.hlo.2.2⟩⟩
theorem Mvd.setQ {w u:World} {q b:Nat} {nv sv nv' sv':Value} (h:Mvd w u q b nv sv nv' sv') (j:Nat) (v:Value):Mvd w (u.setCell ⟨q,j,none⟩ v) q b nv sv nv' sv':=⟨h.bes.set (p:=⟨q,j,none⟩) (Or.inl (Or.inl rfl)) v,h.on,h.os⟩
theorem ScM.lt {w:World} {lo q b n:Nat} {nv sv:Value} {s:Sco} (h:ScM w lo q b n nv sv s):∀k,ScP q b nv sv k→k<w.heap.size:=fun k hp=>by
 rcases hp with rfl|rfl|e|e
 ·exact ltR h.hq
 ·exact h.hm.lt
 ·rcases own_form h.hnv with ⟨e1,_⟩|⟨g,cap,cur,e1,_,_,hg⟩
  ·rw [e1] at e;cases e
  ·rw [e1] at e
   have e3:g=k:=by simpa [Value.ownBlock] using e
   exact e3 ▸ ltR hg
 ·rcases own_form h.hsv with ⟨e1,_⟩|⟨g,cap,cur,e1,_,_,hg⟩
  ·rw [e1] at e;cases e
  ·rw [e1] at e
   have e3:g=k:=by simpa [Value.ownBlock] using e
   exact e3 ▸ ltR hg
theorem own_from {w:World} {base size n k:Nat} {e:TypeId} {v:Value} {xs:List Value} (h:w.ownsRow base e size v n xs) (hk:v.ownBlock=some k):base≤k:=by
 rcases own_form h with ⟨e1,_⟩|⟨g,cap,cur,e1,hb,_,_⟩
 ·rw [e1] at hk;cases hk
 ·rw [e1] at hk
  have e3:g=k:=by simpa [Value.ownBlock] using hk
  omega
def lopS (g:Tn→Sco→Ft × Sco) (y0 y1:Tn) (s:Sco):Ft × Sco:=
 if (g y0 s).1.2=0 then ((g y1 { (g y0 s).2 with loops:=(g y0 s).2.loops+1 }).1,{ (g y1 { (g y0 s).2 with loops:=(g y0 s).2.loops+1 }).2 with loops:=(g y1 { (g y0 s).2 with loops:=(g y0 s).2.loops+1 }).2.loops - 1,set:=(g y0 s).2.set,all:=(g y0 s).2.all })
 else g y0 s
theorem loop_any {w0:World} {lo q b B0:Nat} {nv0 sv0:Value} {mz:Tn→Nat} {ok:Tn→Sco→Prop} {g:Tn→Sco→Ft × Sco} {F:FuncId} {Bd cap:Array Value} (hL:LookS w0 lo q b B0 nv0 sv0 mz ok g F Bd cap)
  (hf:∀(x:Array Value) (u:World),Sem.run Tryz.prog (callFunc F x) u=.ok (.enter F x) u) {k vk vn p:Int} {t vs:ByteArray} {al ak:Option Addr} {b1:Addr} {ll cl lk ck m cc:Nat} {f:Bool} {y0 y1:Tn} {ns:List Tn} {w:World} {nv sv:Value} {n:Nat} {s:Sco} (hr:RowN w B0 ns (some b1) cc) (hn:ns.length=m) (h0:ns[0]?=some y0) (h1:ns[1]?=some y1) (hm:Mvd w0 w q b nv0 sv0 nv sv) (h:ScM w lo q b n nv sv s) (hk:n+mz y0+mz y1≤1099511627776) (hB:B0≤lo)
  (hok0:ok y0 s) (hok1:(g y0 s).1.2=0→ok y1 { (g y0 s).2 with loops:=(g y0 s).2.loops+1 })
  (hlp:(g y0 s).1.2=0→0≤(g y0 s).2.loops∧(g y0 s).2.loops<1099511627776∧(g y1 { (g y0 s).2 with loops:=(g y0 s).2.loops+1 }).2.loops=(g y0 s).2.loops+1∧(g y1 { (g y0 s).2 with loops:=(g y0 s).2.loops+1 }).2.vars.length=(g y0 s).2.vars.length) :
  Calls Tryz.prog 52 #[.agg #[.int .i64 k,.string t,.int .i64 vk,.int .i64 vn,.string vs,.slice al ll cl,.slice ak lk ck,.bool f,.slice (some b1) m cc,.int .i64 p],.pointer (some ⟨q,0,none⟩),.func (.func F) Bd cap] w fun e w'=>e=.returned (fltV (lopS g y0 y1 s).1)∧MvP w w' lo q b n (mz y0+mz y1) nv sv (lopS g y0 y1 s).2:=by
 have hqw:=ltR h.hq
 obtain⟨w2,hw2,n2,r2,b2⟩:=bxs k vk vn p t vs al ak (some b1) ll cl lk ck m cc f w
 obtain⟨G,hG⟩:=eX (w.heap.size)
 rw [hG] at n2 r2
 have H2:=hZ (h.below b2)
 have HW:=hZ h
 have HG2:=hZ (And.intro hG b2)
 have HGe:=hZ (And.intro hG (by rw [←hG];exact hqw:q<G))
 have hnb:m≤140737488351232:=by rw [←hn];exact hr.len
 have hmc:m≤cc:=by obtain⟨_,_,_,hc,_⟩:=hr.at h0;omega
 have hm2:2≤m:=by rw [←hn];have:=(List.getElem?_eq_some_iff.1 h1).1;omega
 have M02:=hZ (hm.trans (Mvd.of_below q b nv sv b2))
 have HR:=hZ hr
 have HBlo:=hZ (And.intro hB (Nat.le_trans hB h.hlo.2.2))
 obtain⟨⟨⟨f1,f2⟩,s1⟩,hR0⟩:∃R,g y0 s=R:=⟨_,rfl⟩
 obtain⟨R,hRR⟩:=eX (lopS g y0 y1 s)
 rw [hRR]
 have HRR:=hZ hRR
 rw [hR0] at hok1 hlp
 have HQ0:=hZ hR0
 have HO:=hZ (And.intro h0 (And.intro h1 (And.intro hok0 (And.intro hok1 hlp))))
 have HF:=hZ hf
 have HM0:=hZ hm
 have HL:=hZ hL
 have HK:=hZ hk
 obtain⟨vk0,vn0,vs0,al0,ak0,ya0,ll0,cl0,lk0,ck0,yc0,hz0,hc0⟩:=kid_at (hr.later (b2.mono (uZ HBlo).2)) h0
 have CP:=hZ (hL w2 nv sv n s y0 _ (uZ M02) (uZ H2) (by omega) hok0 hz0)
 rw [hR0] at CP
 obtain⟨yn0,hyn0⟩:=eX (y0.ks.length)
 rw [hyn0] at CP hc0
 have e0:w2.cell? b1=some (.int .i64 y0.k):=hc0 0 _ rfl
 have e1:w2.cell? ⟨b1.block,b1.off+1,none⟩=some (.string y0.t):=hc0 1 _ rfl
 have e2:w2.cell? ⟨b1.block,b1.off+2,none⟩=some (.int .i64 vk0):=hc0 2 _ rfl
 have e3:w2.cell? ⟨b1.block,b1.off+3,none⟩=some (.int .i64 vn0):=hc0 3 _ rfl
 have e4:w2.cell? ⟨b1.block,b1.off+4,none⟩=some (.string vs0):=hc0 4 _ rfl
 have e5:w2.cell? ⟨b1.block,b1.off+5,none⟩=some (.slice al0 ll0 cl0):=hc0 5 _ rfl
 have e6:w2.cell? ⟨b1.block,b1.off+6,none⟩=some (.slice ak0 lk0 ck0):=hc0 6 _ rfl
 have e7:w2.cell? ⟨b1.block,b1.off+7,none⟩=some (.bool y0.f):=hc0 7 _ rfl
 have e8:w2.cell? ⟨b1.block,b1.off+8,none⟩=some (.slice ya0 yn0 yc0):=hc0 8 _ rfl
 have e9:w2.cell? ⟨b1.block,b1.off+9,none⟩=some (.int .i64 y0.p):=hc0 9 _ rfl
 clear hRR hz0 hc0 hyn0 hf hL hk hR0 h0 h1 hok0 hok1 hlp hr hm hB hn
 unfold fltV
 go_enter Tryz.func52,Tryz.ntmps52
 go_upto_region 1 with fail
 try rw [hw2]
 try rw [hG]
 clear hw2 h b2 hG
 have hi0:(0:Int)<(m:Int):=by omega
 have hi1:(1:Int)<(m:Int):=by omega
 obtain⟨m0,m1,m2,m3,m4,m5,m6,m7,m8,m9⟩:=ten_at n2
 go_wp2_with (rw [uZ HF])
 refine(uZ CP).mono ?_
 rintro e w3 ⟨rfl,nv1,sv1,n1,S3,M3,hn1⟩
 have r3:=keepF_of_mvd (uZ H2) M3 (G+1) _ _ (by decide) (by decide) (by decide) r2
 have n3:=keepF_of_mvd (uZ H2) M3 G _ _ (by decide) (by decide) (by decide) n2
 obtain⟨so,scap,rfl⟩:=own_slice S3.hsv
 obtain⟨g3,hg3⟩:=eX (w3.heap.size)
 have HS3:=hZ S3
 have HM3:=hZ ((Mvd.of_below q b nv sv (uZ HG2).2).trans M3)
 have HN1:=hZ hn1
 have HX3:=hZ (And.intro r3 n3)
 clear e0 e1 e2 e3 e4 e5 e6 e7 e8 e9 m0 m1 m2 m3 m4 m5 m6 m7 m8 m9 CP S3 M3 hn1 r3 n3 r2 n2
 unfold fltV
 go_upto_region 2 with fail
 obtain⟨w4,hw4⟩:=eX (w3.alloc (.cells #[.int .i64 f1,.int .i64 f2] 42))
 have b4:=alB hw4
 have n4:w4.heap[g3]?=some (.cells #[.int .i64 f1,.int .i64 f2] 42 (0,0)):=alN hw4 hg3
 obtain⟨k0,k1⟩:=two_at n4
 have HS4:=hZ ((uZ HS3).below b4)
 have HM4:=hZ ((uZ HM3).trans (Mvd.of_below q b nv1 (.slice so s1.set.length scap) b4))
 have HX4:=hZ (And.intro ((b4.block _ (ltR (uZ HX3).1)).trans (uZ HX3).1) ((b4.block _ (ltR (uZ HX3).2)).trans (uZ HX3).2))
 try rw [hw4]
 try rw [hg3]
 clear b4 n4 hw4 hg3
 by_cases hf2:f2=0
 ·subst hf2
  have HRe:=hZ (show R=((g y1 { s1 with loops:=s1.loops+1 }).1,{ (g y1 { s1 with loops:=s1.loops+1 }).2 with loops:=(g y1 { s1 with loops:=s1.loops+1 }).2.loops - 1,set:=s1.set,all:=s1.all }) from by
   rw [←uZ HRR]
   unfold lopS
   rw [uZ HQ0,if_pos rfl])
  obtain⟨hl0,hl1,hl2,hl3⟩:=(uZ HO).2.2.2.2 rfl
  have HL2:=hZ (And.intro hl2 hl3)
  have hlen1:=hZ (uZ HS4).len
  clear hl2 hl3
  obtain⟨c0,c1,c2,c3,c4⟩:=five_at (uZ HS4).hq
  have CC:=hZ (copied_any (x:=s1.all) (by rw [uZ hlen1];exact(uZ HS4).few1) (uZ HS4).hsv)
  go_upto_region 4 with fail
  clear k0 k1
  go_wp2_with fail
  refine(uZ CC).mono ?_
  rintro e w5 ⟨v2,rfl,o5,b5⟩
  obtain⟨so2,sc2,rfl⟩:=own_slice o5
  obtain⟨g5,hg5⟩:=eX (w5.heap.size)
  have HS5:=hZ ((uZ HS4).below b5)
  have HM5:=hZ ((uZ HM4).trans (Mvd.of_below q b nv1 (.slice so s1.set.length scap) b5))
  have HX5:=hZ (And.intro ((b5.block _ (ltR (uZ HX4).1)).trans (uZ HX4).1) ((b5.block _ (ltR (uZ HX4).2)).trans (uZ HX4).2))
  have HO5:=hZ o5
  have HZ5:=hZ (And.intro b5.size hg5)
  clear c0 c1 c2 c3 c4 CC o5 b5
  go_upto_region 5 with fail
  obtain⟨w6,hw6⟩:=eX (w5.alloc (.cells #[.slice so2 s1.set.length sc2,.bool s1.all] 59))
  have b6:=alB hw6
  have n6:w6.heap[g5]?=some (.cells #[.slice so2 s1.set.length sc2,.bool s1.all] 59 (0,0)):=alN hw6 hg5
  have S6:=(uZ HS5).below b6
  have o6:=own_bes (Besk.of_below (P:=fun _=>False) b6) (uZ HO5) (fun _ _ e=>e)
  have x6:=(b6.block _ (ltR (uZ HX5).1)).trans (uZ HX5).1
  have x6':=(b6.block _ (ltR (uZ HX5).2)).trans (uZ HX5).2
  obtain⟨c0,c1,c2,c3,c4⟩:=five_at S6.hq
  have y4:=frozen_of_row w6 q 4 _ _ S6.hq
  have hqG:=(uZ HGe).2
  have hq5:q<g5:=by rw [←hg5];exact ltR (uZ HS5).hq
  have HS7:=hZ (S6.setL (s1.loops+1))
  have HM7:=hZ (((uZ HM5).trans (Mvd.of_below q b nv1 (.slice so s1.set.length scap) b6)).setQ 4 (.int .i64 (s1.loops+1)))
  have HX7:=hZ (And.intro ((heap_setCell_other w6 ⟨q,4,none⟩ (G+1) (.int .i64 (s1.loops+1)) (by show G+1≠q;omega)).trans x6) (And.intro ((heap_setCell_other w6 ⟨q,4,none⟩ G (.int .i64 (s1.loops+1)) (by show G≠q;omega)).trans x6') ((heap_setCell_other w6 ⟨q,4,none⟩ g5 (.int .i64 (s1.loops+1)) (by show g5≠q;omega)).trans n6)))
  have HO7:=hZ (o6.kept (grown_set w6 ⟨q,4,none⟩ (.int .i64 (s1.loops+1))) (own_neK o6 S6.hq (by rfl)))
  try rw [hw6]
  try rw [hg5]
  clear b6 n6 S6 o6 x6 x6' hw6 hg5 hqG hq5
  go_upto_region 6 with fail
  obtain⟨w7,hw7⟩:=eX (w6.setCell ⟨q,4,none⟩ (.int .i64 (s1.loops+1)))
  rw [hw7] at HS7 HM7 HX7 HO7 ⊢
  clear hw7 c0 c1 c2 c3 c4 y4
  obtain⟨vk1,vn1,vs1,al1,ak1,ya1,ll1,cl1,lk1,ck1,yc1,hz1,hc1⟩:=kid_at ((uZ HR).later ((Mvd.low (uZ HW) (uZ HM7)).mono (uZ HBlo).1)) (uZ HO).2.1
  have CP:=hZ ((uZ HL) w7 nv1 _ n1 _ y1 _ ((uZ HM0).trans (uZ HM7)) (uZ HS7) (by have h1:=uZ HN1;have h2:=uZ HK;omega) ((uZ HO).2.2.2.1 trivial) hz1)
  obtain⟨⟨⟨f3,f4⟩,s2⟩,hR1⟩:∃z,g y1 { s1 with loops:=s1.loops+1 }=z:=⟨_,rfl⟩
  rw [hR1] at CP HRe HL2
  obtain⟨yn1,hyn1⟩:=eX (y1.ks.length)
  rw [hyn1] at CP hc1
  have e0:w7.cell? ⟨b1.block,b1.off+10,none⟩=some (.int .i64 y1.k):=hc1 0 _ rfl
  have e1:w7.cell? ⟨b1.block,b1.off+10+1,none⟩=some (.string y1.t):=hc1 1 _ rfl
  have e2:w7.cell? ⟨b1.block,b1.off+10+2,none⟩=some (.int .i64 vk1):=hc1 2 _ rfl
  have e3:w7.cell? ⟨b1.block,b1.off+10+3,none⟩=some (.int .i64 vn1):=hc1 3 _ rfl
  have e4:w7.cell? ⟨b1.block,b1.off+10+4,none⟩=some (.string vs1):=hc1 4 _ rfl
  have e5:w7.cell? ⟨b1.block,b1.off+10+5,none⟩=some (.slice al1 ll1 cl1):=hc1 5 _ rfl
  have e6:w7.cell? ⟨b1.block,b1.off+10+6,none⟩=some (.slice ak1 lk1 ck1):=hc1 6 _ rfl
  have e7:w7.cell? ⟨b1.block,b1.off+10+7,none⟩=some (.bool y1.f):=hc1 7 _ rfl
  have e8:w7.cell? ⟨b1.block,b1.off+10+8,none⟩=some (.slice ya1 yn1 yc1):=hc1 8 _ rfl
  have e9:w7.cell? ⟨b1.block,b1.off+10+9,none⟩=some (.int .i64 y1.p):=hc1 9 _ rfl
  obtain⟨m0,m1,m2,m3,m4,m5,m6,m7,m8,m9⟩:=ten_at (uZ HX7).2.1
  clear hz1 hc1 hyn1 hR1
  go_wp2_with (rw [uZ HF])
  refine(uZ CP).mono ?_
  rintro e w8 ⟨rfl,nv2,sv2,n2,S8,M8,hn2⟩
  obtain⟨g8,hg8⟩:=eX (w8.heap.size)
  have KF:=keepF_of_mvd (uZ HS7) M8
  have HX8:=hZ (And.intro (KF (G+1) _ _ (by decide) (by decide) (by decide) (uZ HX7).1) (KF g5 _ _ (by decide) (by decide) (by decide) (uZ HX7).2.2))
  have HO8:=hZ (own_bes M8.bes (uZ HO7) (fun z hz hp=>by
   have h1:=own_from (uZ HO7) hz
   have h2:=(uZ HS4).lt z hp
   omega))
  have HS8:=hZ S8
  have HM8:=hZ ((uZ HM7).trans M8)
  have HN2:=hZ hn2
  clear e0 e1 e2 e3 e4 e5 e6 e7 e8 e9 m0 m1 m2 m3 m4 m5 m6 m7 m8 m9 CP S8 M8 hn2 KF
  unfold fltV
  go_upto_region 7 with fail
  obtain⟨w9,hw9⟩:=eX (w8.alloc (.cells #[.int .i64 f3,.int .i64 f4] 42))
  have b9:=alB hw9
  have n9:w9.heap[g8]?=some (.cells #[.int .i64 f3,.int .i64 f4] 42 (0,0)):=alN hw9 hg8
  have S9:=(uZ HS8).below b9
  have o9:=own_bes (Besk.of_below (P:=fun _=>False) b9) (uZ HO8) (fun _ _ e=>e)
  have x9:=(b9.block _ (ltR (uZ HX8).1)).trans (uZ HX8).1
  have x9':=(b9.block _ (ltR (uZ HX8).2)).trans (uZ HX8).2
  obtain⟨c0,c1,c2,c3,c4⟩:=five_at S9.hq
  have y4:=frozen_of_row w9 q 4 _ _ S9.hq
  have hqG:=(uZ HGe).2
  have hq8:q<g8:=by rw [←hg8];exact ltR (uZ HS8).hq
  have hq5:q<g5:=by rw [←(uZ HZ5).2];exact ltR (uZ HS5).hq
  have hj0:0≤s2.loops:=by rw [(uZ HL2).1];omega
  have hj1:s2.loops≤1099511627776:=by rw [(uZ HL2).1];omega
  have HSa:=hZ (S9.setL (s2.loops - 1))
  have HMa:=hZ (((uZ HM8).trans (Mvd.of_below q b nv2 sv2 b9)).setQ 4 (.int .i64 (s2.loops - 1)))
  have HXa:=hZ (And.intro ((heap_setCell_other w9 ⟨q,4,none⟩ (G+1) (.int .i64 (s2.loops - 1)) (by show G+1≠q;omega)).trans x9) (And.intro ((heap_setCell_other w9 ⟨q,4,none⟩ g8 (.int .i64 (s2.loops - 1)) (by show g8≠q;omega)).trans n9) ((heap_setCell_other w9 ⟨q,4,none⟩ g5 (.int .i64 (s2.loops - 1)) (by show g5≠q;omega)).trans x9')))
  have HOa:=hZ (o9.kept (grown_set w9 ⟨q,4,none⟩ (.int .i64 (s2.loops - 1))) (own_neK o9 S9.hq (by rfl)))
  have HQQ:=hZ (And.intro hqG (And.intro hq8 hq5))
  try rw [hw9]
  try rw [hg8]
  clear b9 n9 S9 o9 x9 x9' hw9 hg8 hqG hq8 hq5
  go_upto_region 8 with fail
  obtain⟨wa,hwa⟩:=eX (w9.setCell ⟨q,4,none⟩ (.int .i64 (s2.loops - 1)))
  rw [hwa] at HSa HMa HXa HOa ⊢
  clear hwa c0 c1 c2 c3 c4 y4 hj0 hj1
  obtain⟨k0,k1⟩:=two_at (uZ HXa).2.2
  obtain⟨c0,c1,c2,c3,c4⟩:=five_at (uZ HSa).hq
  have y2':=frozen_of_row wa q 2 _ _ (uZ HSa).hq
  have y3':=frozen_of_row wa q 3 _ _ (uZ HSa).hq
  have hbase:=(uZ HS4).hlo.2.2
  have hwz:w.heap.size≤w4.heap.size:=(uZ HM4).bes.size
  have SW:=(uZ HSa).setW (own_base (uZ HOa) hbase) (by rw [uZ hlen1];exact(uZ HL2).2.symm) s1.all
  have MW:Mvd w ((wa.setCell ⟨q,2,none⟩ (.slice so2 s1.set.length sc2)).setCell ⟨q,3,none⟩ (.bool s1.all)) q b nv sv nv2 (.slice so2 s1.set.length sc2):=⟨(((uZ HMa).setQ 2 (.slice so2 s1.set.length sc2)).setQ 3 (.bool s1.all)).bes,(uZ HMa).on,fun z hz=>Or.inr (Nat.le_trans hwz (own_from (uZ HOa) hz))⟩
  have ne1:G+1≠q:=by have:=(uZ HQQ).1;omega
  have ne8:g8≠q:=by have:=(uZ HQQ).2.1;omega
  have HXb:=hZ (And.intro ((heap_setCell_other _ ⟨q,3,none⟩ (G+1) (.bool s1.all) ne1).trans ((heap_setCell_other wa ⟨q,2,none⟩ (G+1) (.slice so2 s1.set.length sc2) ne1).trans (uZ HXa).1)) ((heap_setCell_other _ ⟨q,3,none⟩ g8 (.bool s1.all) ne8).trans ((heap_setCell_other wa ⟨q,2,none⟩ g8 (.slice so2 s1.set.length sc2) ne8).trans (uZ HXa).2.1)))
  have HSW:=hZ SW
  have HMW:=hZ MW
  clear SW MW ne1 ne8 hbase hwz
  go_upto_region 9 with fail
  obtain⟨wb,hwb⟩:=eX ((wa.setCell ⟨q,2,none⟩ (.slice so2 s1.set.length sc2)).setCell ⟨q,3,none⟩ (.bool s1.all))
  rw [hwb] at HXb HSW HMW ⊢
  clear hwb k0 k1 y2' y3' c0 c1 c2 c3 c4
  obtain⟨k0,k1⟩:=two_at (uZ HXb).2
  obtain⟨j0,j1⟩:=two_at (uZ HXb).1
  have y0':=frozen_of_row wb (G+1) 0 _ _ (uZ HXb).1
  have y1':=frozen_of_row wb (G+1) 1 _ _ (uZ HXb).1
  have HE:=hZ (And.intro (put2 (uZ HXb).1 (.int .i64 f3) (.int .i64 f4)) (scm_fin (uZ HSW) (uZ HMW) (uZ HGe) (uZ HXb).1 (.int .i64 f3) (.int .i64 f4)))
  have hRR:=uZ HRe
  subst hRR
  go_wp2_with fail
  exact rtF (p:=6) rfl rfl (uZ HE).1 rfl ⟨rfl,_,_,_,(uZ HE).2.1,(uZ HE).2.2,by have h1:=uZ HN1;have h2:=uZ HN2;omega⟩
 ·have HRe:R=((f1,f2),s1):=by
   rw [←uZ HRR]
   unfold lopS
   rw [uZ HQ0,if_neg hf2]
  subst HRe
  have hne:(f2 == 0)=false:=by simpa using hf2
  obtain⟨j0,j1⟩:=two_at (uZ HX4).1
  have y0':=frozen_of_row w4 (G+1) 0 _ _ (uZ HX4).1
  have y1':=frozen_of_row w4 (G+1) 1 _ _ (uZ HX4).1
  have HE:=hZ (And.intro (put2 (uZ HX4).1 (.int .i64 f1) (.int .i64 f2)) (scm_fin (uZ HS4) (uZ HM4) (uZ HGe) (uZ HX4).1 (.int .i64 f1) (.int .i64 f2)))
  clear hne
  have hne:(f2 == 0)=false:=by simpa using hf2
  go_wp2_with fail
  exact rtF (p:=6) rfl rfl (uZ HE).1 rfl ⟨rfl,_,_,_,(uZ HE).2.1,(uZ HE).2.2,by have:=uZ HN1;omega⟩
theorem kids_any {w0:World} {lo q b B0 c:Nat} {nv0 sv0:Value} {mz:Tn→Nat} {ok:Tn→Sco→Prop} {g:Tn→Sco→Ft × Sco} {F:FuncId} {Bd cap:Array Value} (hL:LookS w0 lo q b B0 nv0 sv0 mz ok g F Bd cap)
  (hf:∀(x:Array Value) (u:World),Sem.run Tryz.prog (callFunc F x) u=.ok (.enter F x) u) {k vk vn p:Int} {t vs:ByteArray} {al ak a:Option Addr} {ll cl lk ck m cc:Nat} {f:Bool} {ns:List Tn} {w:World} {nv sv:Value} {n:Nat} {s:Sco} (hc:w.heap[c]?=some (.cells #[.func (.func F) Bd cap] 45 (0,0))) (hr:RowN w B0 ns a cc) (hn:ns.length=m) (hm:Mvd w0 w q b nv0 sv0 nv sv) (h:ScM w lo q b n nv sv s) (hk:n+smM mz ns≤1099511627776) (hB:B0≤lo)
  (hok:∀(i:Nat) (y:Tn),ns[i]?=some y→(∀j,j<i→(rL g ns s j).2=0)→ok y (stL g ns s i)) :
  Calls Tryz.prog 45 #[.agg #[.int .i64 k,.string t,.int .i64 vk,.int .i64 vn,.string vs,.slice al ll cl,.slice ak lk ck,.bool f,.slice a m cc,.int .i64 p],.pointer (some ⟨c,0,none⟩)] w fun e w'=>e=.returned (fltV (ckL g ns s).1)∧MvP w w' lo q b n (smM mz ns) nv sv (ckL g ns s).2:=by
 have hqw:=ltR h.hq
 obtain⟨w2,hw2,n2,r2,b2⟩:=bxs k vk vn p t vs al ak a ll cl lk ck m cc f w
 obtain⟨G,hG⟩:=eX (w.heap.size)
 have hB0:=Nat.le_trans hB h.hlo.2.2
 have CP:=hZ (first_look (s:=s) hL hf (hr.later (b2.mono hB0)) hn (hm.trans (Mvd.of_below q b nv sv b2)) (h.below b2) hk hB hok)
 have cc0:w2.cell? ⟨c,0,none⟩=some (.func (.func F) Bd cap):=by
  rw [cell_of_row w2 c 0 _ _ (0,0) ((b2.block c (ltR hc)).trans hc)]
  rfl
 rw [hG] at n2 r2
 have H2:=hZ (h.below b2)
 have HG2:=hZ (And.intro hG b2)
 have HGe:=hZ (And.intro hG (by rw [←hG];exact hqw:q<G))
 obtain⟨⟨⟨f1,f2⟩,s1⟩,hR⟩:∃R,ckL g ns s=R:=⟨_,rfl⟩
 rw [hR] at CP ⊢
 clear hR
 unfold fltV
 go_enter Tryz.func45,Tryz.ntmps45
 go_upto_region 1 with fail
 try rw [hw2]
 try rw [hG]
 clear hw2 h b2 hG hL hf hc hr hn hm hk hB hok
 obtain⟨m0,m1,m2,m3,m4,m5,m6,m7,m8,m9⟩:=ten_at n2
 go_wp2_with fail
 refine(uZ CP).mono ?_
 rintro e w3 ⟨rfl,nv1,sv1,n1,S3,M3,hn1⟩
 have r3:=keepF_of_mvd (uZ H2) M3 (G+1) _ _ (by decide) (by decide) (by decide) r2
 obtain⟨k0,k1⟩:=two_at r3
 have y0:=frozen_of_row w3 (G+1) 0 _ _ r3
 have y1:=frozen_of_row w3 (G+1) 1 _ _ r3
 have HE:=hZ (And.intro (put2 r3 (.int .i64 f1) (.int .i64 f2)) (scm_fin S3 ((Mvd.of_below q b nv sv (uZ HG2).2).trans M3) (uZ HGe) r3 (.int .i64 f1) (.int .i64 f2)))
 have HN1:=hZ hn1
 clear CP S3 M3 r3 hn1 r2 n2 cc0
 unfold fltV
 go_wp2_with fail
 exact rtF (p:=3) rfl rfl (uZ HE).1 rfl ⟨rfl,_,_,_,(uZ HE).2.1,(uZ HE).2.2,uZ HN1⟩
def thnS (a:Ft × Sco) (h:Sco→Ft × Sco):Ft × Sco:=if a.1.2=0 then h a.2 else a
def choS (g:Tn→Sco→Ft × Sco) (y0 y1:Tn) (rest:List Tn) (s:Sco):Ft × Sco:=
 if (g y0 s).1.2=0 then
  if (g y1 (g y0 s).2).1.2=0 then ((ckL g rest { (g y1 (g y0 s).2).2 with set:=(g y0 s).2.set,all:=(g y0 s).2.all }).1,
   { (ckL g rest { (g y1 (g y0 s).2).2 with set:=(g y0 s).2.set,all:=(g y0 s).2.all }).2 with
    set:=(joinS ((g y1 (g y0 s).2).2.set,(g y1 (g y0 s).2).2.all) ((ckL g rest { (g y1 (g y0 s).2).2 with set:=(g y0 s).2.set,all:=(g y0 s).2.all }).2.set,(ckL g rest { (g y1 (g y0 s).2).2 with set:=(g y0 s).2.set,all:=(g y0 s).2.all }).2.all)).1,
    all:=(joinS ((g y1 (g y0 s).2).2.set,(g y1 (g y0 s).2).2.all) ((ckL g rest { (g y1 (g y0 s).2).2 with set:=(g y0 s).2.set,all:=(g y0 s).2.all }).2.set,(ckL g rest { (g y1 (g y0 s).2).2 with set:=(g y0 s).2.set,all:=(g y0 s).2.all }).2.all)).2 })
  else g y1 (g y0 s).2
 else g y0 s
def calR (tk bi:List UInt8→Option Int) (t:List UInt8) (m:Nat) (p:Int):Ft:=match bi t with
 |some c=>if c=(m:Int) then (0,0) else (p,193)
 |none=>match tk t with
  |some c=>if c=(m:Int) then (0,0) else (p,193)
  |none=>(p,192)
def calF (tk bi:List UInt8→Option Int) (n:Tn):Ft:=calR tk bi n.t.data.toList n.ks.length n.p
def prL (g:Tn→Sco→Ft × Sco):List (List UInt8)→List Tn→Sco→Ft × Sco
 |_,[],s=>((0,0),s)
 |had,y :: r,s=>if y.t.data.toList∈had then ((y.p,191),s) else match y.ks with
  |[]=>prL g (y.t.data.toList :: had) r s
  |z :: _=>thnS (g z s) (prL g (y.t.data.toList :: had) r)
def nodS (tk bi:List UInt8→Option Int) (g:Tn→Sco→Ft × Sco) (n:Tn) (s:Sco):Ft × Sco:=
 if n.k=4 then ((ckL g n.ks s).1,leaveS (ckL g n.ks s).2 s.vars.length)
 else if n.k=5 then thnS (ckL g n.ks s) (fun s=>dclS s n.t.data.toList n.p (decide (0<n.ks.length)))
 else if n.k=6 then thnS (ckL g n.ks s) (fun s=>asgS s n.t.data.toList n.p)
 else if n.k=7 then (match n.ks with
  |y0 :: y1 :: r=>choS g y0 y1 r s
  |_=>((0,0),s))
 else if n.k=8 then (match n.ks with
  |y0 :: y1 :: _=>lopS g y0 y1 s
  |_=>((0,0),s))
 else if n.k=9 then thnS (ckL g n.ks s) (fun s=>((0,0),endS s))
 else if n.k=10∨n.k=11 then thnS (inlS s n.p,s) (fun s=>((0,0),endS s))
 else if n.k=14 then (redS s n.t.data.toList n.p,s)
 else if n.k=15 then thnS (calF tk bi n,s) (ckL g n.ks)
 else if n.k=19 then prL g [] n.ks s
 else ckL g n.ks s
def ckN (tk bi:List UInt8→Option Int):Nat→Tn→Sco→Ft × Sco
 |0,_,s=>((0,0),s)
 |d+1,n,s=>nodS tk bi (ckN tk bi d) n s
def fmK:Nat→Tn→Prop
 |0,_=>False
 |d+1,n=>n.t.size≤140737488351232∧(∀y∈n.ks,n.k≠4→y.k≠5)∧(∀y∈n.ks,fmK d y)∧(∀y∈n.ks,n.k=19→(1≤y.ks.length∧y.t.size≤140737488351232)∧∀z∈y.ks,z.k≠5∧fmK d z)∧(n.k=7∨n.k=8→2≤n.ks.length)∧n.ks.length<1099511627776
def mK:Nat→Tn→Nat
 |0,_=>0
 |d+1,n=>(if n.k=5 then 1 else 0)+(if n.k=19 then smM (fun y=>match y.ks with|[]=>0|z :: _=>mK d z) n.ks else smM (mK d) n.ks)
structure Wf (s:Sco):Prop where
 len:s.set.length=s.vars.length
 nd:s.vars.Nodup
 sz:∀l∈s.vars,l.length≤140737488351232
structure Gd (s s':Sco):Prop where
 ext:∃l,s'.vars=s.vars++l
 lps:s'.loops=s.loops
 wf:Wf s→Wf s'
structure Ge (s s':Sco):Prop where
 eq:s'.vars=s.vars
 lps:s'.loops=s.loops
 wf:Wf s→Wf s'
theorem Ge.gd {s s':Sco} (h:Ge s s'):Gd s s':=⟨⟨[],by simp [h.eq]⟩,h.lps,h.wf⟩
theorem Gd.refl (s:Sco):Gd s s:=⟨⟨[],by simp⟩,rfl,id⟩
theorem Ge.refl (s:Sco):Ge s s:=⟨rfl,rfl,id⟩
theorem Gd.trans {a b c:Sco} (h:Gd a b) (k:Gd b c):Gd a c:=⟨by
 obtain⟨l,e⟩:=h.ext
 obtain⟨l',e'⟩:=k.ext
 exact⟨l++l',by rw [e',e,List.append_assoc]⟩,k.lps.trans h.lps,fun x=>k.wf (h.wf x)⟩
theorem Ge.trans {a b c:Sco} (h:Ge a b) (k:Ge b c):Ge a c:=⟨k.eq.trans h.eq,k.lps.trans h.lps,fun x=>k.wf (h.wf x)⟩
theorem ckL_gd {g:Tn→Sco→Ft × Sco}:∀(l:List Tn) (s:Sco),(∀y∈l,∀s,Gd s (g y s).2)→Gd s (ckL g l s).2
 |[],s,_=>Gd.refl s
 |y :: r,s,h=>by
  have h0:=h y (by simp) s
  simp only [ckL]
  split
  ·exact h0.trans (ckL_gd r _ (fun z hz=>h z (by simp [hz])))
  ·exact h0
theorem ckL_ge {g:Tn→Sco→Ft × Sco}:∀(l:List Tn) (s:Sco),(∀y∈l,∀s,Ge s (g y s).2)→Ge s (ckL g l s).2
 |[],s,_=>Ge.refl s
 |y :: r,s,h=>by
  have h0:=h y (by simp) s
  simp only [ckL]
  split
  ·exact h0.trans (ckL_ge r _ (fun z hz=>h z (by simp [hz])))
  ·exact h0
theorem thnS_ge {s:Sco} {a:Ft × Sco} {h:Sco→Ft × Sco} (h1:Ge s a.2) (h2:∀s,Ge s (h s).2):Ge s (thnS a h).2:=by
 unfold thnS
 split
 ·exact h1.trans (h2 _)
 ·exact h1
theorem thnS_gd {s:Sco} {a:Ft × Sco} {h:Sco→Ft × Sco} (h1:Gd s a.2) (h2:∀s,Gd s (h s).2):Gd s (thnS a h).2:=by
 unfold thnS
 split
 ·exact h1.trans (h2 _)
 ·exact h1
theorem end_ge (s:Sco):Ge s (endS s):=⟨rfl,rfl,fun h=>⟨h.len,h.nd,h.sz⟩⟩
theorem asg_ge (s:Sco) (t:List UInt8) (p:Int):Ge s (asgS s t p).2:=by
 unfold asgS
 split
 ·exact Ge.refl s
 ·exact⟨rfl,rfl,fun h=>⟨by simpa using h.len,h.nd,h.sz⟩⟩
theorem dcl_gd (s:Sco) (t:List UInt8) (p:Int) (b:Bool) (ht:t.length≤140737488351232):Gd s (dclS s t p b).2:=by
 unfold dclS
 split
 ·exact Gd.refl s
 ·rename_i hn
  exact⟨⟨[t],rfl⟩,rfl,fun h=>⟨by simp [h.len],List.nodup_append.2 ⟨h.nd,by simp,fun x hx y hy e=>by
   simp only [List.mem_singleton] at hy
   subst hy
   subst e
   exact hn hx⟩,fun l hl=>by
   rcases List.mem_append.1 hl with hl|hl
   ·exact h.sz l hl
   ·simp only [List.mem_singleton] at hl
    subst hl
    exact ht⟩⟩
theorem leave_ge {s s':Sco} (h:Gd s s'):Ge s (leaveS s' s.vars.length):=by
 obtain⟨l,e⟩:=h.ext
 refine⟨by simp [leaveS,e],h.lps,fun x=>?_⟩
 have y:=h.wf x
 exact⟨by have h1:=y.len;simp [leaveS,h1],nodup_take _ _ y.nd,fun l hl=>y.sz l (List.mem_of_mem_take hl)⟩
theorem prL_ge {g:Tn→Sco→Ft × Sco}:∀(l:List Tn) (had:List (List UInt8)) (s:Sco),(∀y∈l,∀z∈y.ks,∀s,Ge s (g z s).2)→Ge s (prL g had l s).2
 |[],_,s,_=>Ge.refl s
 |y :: r,had,s,h=>by
  have ih:=fun s=>prL_ge r (y.t.data.toList :: had) s (fun a ha=>h a (by simp [ha]))
  simp only [prL]
  split
  ·exact Ge.refl s
  ·split
   ·exact ih s
   ·rename_i z q e
    exact thnS_ge (h y (by simp) z (by simp [e]) s) ih
theorem lop_ge {g:Tn→Sco→Ft × Sco} {y0 y1:Tn} (h0:∀s,Ge s (g y0 s).2) (h1:∀s,Ge s (g y1 s).2) (s:Sco):Ge s (lopS g y0 y1 s).2:=by
 unfold lopS
 split
 ·have a:=h0 s
  have b:=h1 { (g y0 s).2 with loops:=(g y0 s).2.loops+1 }
  refine⟨b.eq.trans a.eq,?_,fun x=>?_⟩
  ·show (g y1 { (g y0 s).2 with loops:=(g y0 s).2.loops+1 }).2.loops - 1=s.loops
   rw [b.lps,a.lps]
   show s.loops+1 - 1=s.loops
   omega
  ·have c:=a.wf x
   exact⟨by show (g y0 s).2.set.length=_;rw [c.len];exact(congrArg List.length b.eq).symm,by
    show (g y1 { (g y0 s).2 with loops:=(g y0 s).2.loops+1 }).2.vars.Nodup
    rw [b.eq]
    exact c.nd,fun l hl=>c.sz l (by
    have e:=b.eq
    simp only at hl
    rw [e] at hl
    exact hl)⟩
 ·exact h0 s
theorem cho_ge {g:Tn→Sco→Ft × Sco} {y0 y1:Tn} {rest:List Tn} (h0:∀s,Ge s (g y0 s).2) (h1:∀s,Ge s (g y1 s).2) (h2:∀y∈rest,∀s,Ge s (g y s).2) (s:Sco):Ge s (choS g y0 y1 rest s).2:=by
 unfold choS
 have a:=h0 s
 obtain⟨⟨f,s1⟩,e1⟩:∃R,g y0 s=R:=⟨_,rfl⟩
 rw [e1] at a ⊢
 have b:=h1 s1
 obtain⟨⟨f',s2⟩,e2⟩:∃R,g y1 s1=R:=⟨_,rfl⟩
 split
 ·simp only [e2] at b ⊢
  split
  ·have c:=ckL_ge rest { s2 with set:=s1.set,all:=s1.all } h2
   obtain⟨⟨f2,z⟩,e3⟩:∃R,ckL g rest { s2 with set:=s1.set,all:=s1.all }=R:=⟨_,rfl⟩
   simp only [e3] at c ⊢
   have ev:z.vars=s2.vars:=c.eq
   refine⟨ev.trans (b.eq.trans a.eq),c.lps.trans (b.lps.trans a.lps),fun x=>?_⟩
   have w1:=a.wf x
   have w2:=b.wf w1
   have w3:Wf ({ s2 with set:=s1.set,all:=s1.all }:Sco):=⟨by
    show s1.set.length=s2.vars.length
    rw [b.eq]
    exact w1.len,w2.nd,w2.sz⟩
   have wz:=c.wf w3
   have hl:s2.set.length=z.set.length:=by rw [w2.len,wz.len,ev]
   exact⟨by
    show (joinS (s2.set,s2.all) (z.set,z.all)).1.length=z.vars.length
    rw [joinS_len _ _ _ _ hl,w2.len,ev],wz.nd,wz.sz⟩
  ·exact a.trans b
 ·exact a
theorem node_gd (tk bi:List UInt8→Option Int):∀(d:Nat) (n:Tn) (s:Sco),fmK d n→Gd s (ckN tk bi d n s).2∧(n.k≠5→Ge s (ckN tk bi d n s).2)
 |0,n,s,_=>⟨Gd.refl s,fun _=>Ge.refl s⟩
 |d+1,n,s,hf=>by
  have ih:=node_gd tk bi d
  obtain⟨f0,f1,f2,f3,_⟩:=hf
  have kg:∀s,Gd s (ckL (ckN tk bi d) n.ks s).2:=fun s=>ckL_gd _ _ (fun y hy s=>(ih y s (f2 y hy)).1)
  have ke:n.k≠4→∀y∈n.ks,∀s,Ge s (ckN tk bi d y s).2:=fun h4 y hy s=>(ih y s (f2 y hy)).2 (f1 y hy h4)
  have kl:n.k≠4→∀s,Ge s (ckL (ckN tk bi d) n.ks s).2:=fun h4 s=>ckL_ge _ _ (ke h4)
  show Gd s (nodS tk bi (ckN tk bi d) n s).2∧(n.k≠5→Ge s (nodS tk bi (ckN tk bi d) n s).2)
  suffices h:(n.k=5→Gd s (nodS tk bi (ckN tk bi d) n s).2)∧(n.k≠5→Ge s (nodS tk bi (ckN tk bi d) n s).2) by
   refine⟨?_,h.2⟩
   by_cases h5:n.k=5
   ·exact h.1 h5
   ·exact(h.2 h5).gd
  unfold nodS
  by_cases c4:n.k=4
  ·rw [if_pos c4]
   exact⟨fun h=>by omega,fun _=>leave_ge (kg s)⟩
  rw [if_neg c4]
  by_cases c5:n.k=5
  ·rw [if_pos c5]
   exact⟨fun _=>thnS_gd (kg s) (fun s=>dcl_gd s _ _ _ (by simpa using f0)),fun h=>absurd c5 h⟩
  rw [if_neg c5]
  refine⟨fun h=>absurd h c5,fun _=>?_⟩
  by_cases c6:n.k=6
  ·rw [if_pos c6]
   exact thnS_ge (kl c4 s) (fun s=>asg_ge s _ _)
  rw [if_neg c6]
  by_cases c7:n.k=7
  ·rw [if_pos c7]
   split
   ·rename_i y0 y1 r e
    rw [e] at ke
    exact cho_ge (fun s=>ke c4 y0 (by simp) s) (fun s=>ke c4 y1 (by simp) s) (fun y hy s=>ke c4 y (by simp [hy]) s) s
   ·exact Ge.refl s
  rw [if_neg c7]
  by_cases c8:n.k=8
  ·rw [if_pos c8]
   split
   ·rename_i y0 y1 r e
    rw [e] at ke
    exact lop_ge (fun s=>ke c4 y0 (by simp) s) (fun s=>ke c4 y1 (by simp) s) s
   ·exact Ge.refl s
  rw [if_neg c8]
  by_cases c9:n.k=9
  ·rw [if_pos c9]
   exact thnS_ge (kl c4 s) (fun s=>end_ge s)
  rw [if_neg c9]
  by_cases ca:n.k=10∨n.k=11
  ·rw [if_pos ca]
   exact thnS_ge (Ge.refl s) (fun s=>end_ge s)
  rw [if_neg ca]
  by_cases cb:n.k=14
  ·rw [if_pos cb]
   exact Ge.refl s
  rw [if_neg cb]
  by_cases cc:n.k=15
  ·rw [if_pos cc]
   exact thnS_ge (Ge.refl s) (fun s=>kl c4 s)
  rw [if_neg cc]
  by_cases cd:n.k=19
  ·rw [if_pos cd]
   exact prL_ge _ _ s (fun y hy z hz s=>(ih z s ((f3 y hy cd).2 z hz).2).2 ((f3 y hy cd).2 z hz).1)
  rw [if_neg cd]
  exact kl c4 s
theorem add_far (b:Addr) (i k j:Nat):((b.add (k * 10)).add (i * 10)).add j=(b.add ((i+k) * 10)).add j:=by
 by_cases hk:k=0
 ·subst hk
  simp [Addr.add]
 ·by_cases hi:i=0
  ·subst hi
   simp [Addr.add]
  ·have h1:¬(i+k=0):=by omega
   have A:∀(b:Addr) (x:Nat),x≠0→b.add x=⟨b.block,b.off+x,none⟩:=fun b x hx=>by unfold Addr.add;rw [if_neg hx]
   rw [A b (k * 10) (by omega),A _ (i * 10) (by omega),A b ((i+k) * 10) (by omega)]
   show (⟨b.block,b.off+k * 10+i * 10,none⟩:Addr).add j=_
   rw [show b.off+k * 10+i * 10=b.off+(i+k) * 10 by omega]
theorem RowN.drop {w:World} {B0:Nat} {ns:List Tn} {b:Addr} {cc:Nat} (h:RowN w B0 ns (some b) cc) (k:Nat) (hk:k≤ns.length):RowN w B0 (ns.drop k) (some (b.add (k * 10))) (cc - k):=by
 obtain⟨C,hf,hn⟩:=h
 have hl:(ns.drop k).length=ns.length - k:=List.length_drop
 have hll:=hf.ll
 refine⟨fun i=>C (i+k),⟨hf.bk,hf.bp,hf.bt,fun e=>(by cases e),by omega,by have:=hf.bl;omega,fun x hx i hi=>?_,fun i hi=>hf.hv (i+k) (by omega)⟩,(IsNs_iff w _ _ _).2 (fun i y hy=>(IsNs_iff w _ _ _).1 hn (i+k) y (by rw [List.getElem?_drop] at hy;rw [Nat.add_comm];exact hy))⟩
 cases hx
 have h0:=hf.hl b rfl (i+k) (by omega)
 refine⟨?_,fun j v hj=>?_⟩
 ·have e:(b.add (k * 10)).block=b.block:=by unfold Addr.add;split <;> rfl
  rw [e]
  exact h0.1
 ·rw [add_far]
  exact h0.2 j v hj
theorem RowN.none (w:World) (B0:Nat) (b:Addr) (cc:Nat):RowN w B0 [] (some b) cc:=
 ⟨fun _=>[],⟨by decide,by decide,by decide,fun e=>(by cases e),Nat.zero_le _,Nat.zero_le _,fun x hx i hi=>absurd hi (Nat.not_lt_zero _),fun i hi=>absurd hi (Nat.not_lt_zero _)⟩,by simp [IsNs]⟩
end Go.Proofs.YtjdpaihhhjdgmaaGreatDoor
