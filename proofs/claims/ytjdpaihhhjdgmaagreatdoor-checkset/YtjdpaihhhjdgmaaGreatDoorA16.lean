/-
  Layer 19 (check): an If (nodes$2); conditions: the nodes lie in memory, how many names there are.
  Layer 19 (check): a While (nodes$2); conditions: the nodes lie in memory, how many names there are.
  Layer 19 (check): a Return (nodes$2); conditions: the nodes lie in memory, how many names there are.
  Layer 19 (check): a Break, a Continue (nodes$2); conditions: the nodes lie in memory, how many names there are.
  Layer 19 (check): a Name (nodes$2); conditions: the nodes lie in memory, how many names there are.
-/
import Derived.Test.YtjdpaihhhjdgmaaGreatDoorA15
set_option linter.unusedVariables false
set_option linter.unusedSimpArgs false
set_option maxRecDepth 100000
set_option maxHeartbeats 8000000
namespace Go.Proofs.YtjdpaihhhjdgmaaGreatDoor
open Go.RowKit
set_option linter.unusedVariables false
set_option linter.unusedSimpArgs false
theorem nd7_any {w0:World} {lo q b B0:Nat} {nv0 sv0:Value} {mz:Tn→Nat} {ok:Tn→Sco→Prop} {g:Tn→Sco→Ft × Sco} {tb tn xs xk xn xt:Nat} {tk:List UInt8→Option Int} (hL:LookS w0 lo q b B0 nv0 sv0 mz ok g 46 #[] (ndCap xs xk xn xt))
  {vk vn p:Int} {t vs:ByteArray} {al ak:Option Addr} {b1:Addr} {ll cl lk ck m cc:Nat} {f:Bool} {ns:List Tn} {w:World} {nv sv:Value} {n:Nat} {s:Sco} (hC:Cp w q tb tn xs xk xn xt tk) (hr:RowN w B0 ns (some b1) cc) (hn:ns.length=m) (hm:Mvd w0 w q b nv0 sv0 nv sv) (h:ScM w lo q b n nv sv s) (hB:B0≤lo) {y0 y1:Tn} (h0:ns[0]?=some y0) (h1:ns[1]?=some y1) {rest:List Tn} (hrest:ns.drop 2=rest) (hk:n+mz y0+mz y1+smM mz rest≤1099511627776) (hok0:ok y0 s) (hok1:(g y0 s).1.2=0→ok y1 (g y0 s).2)
  (hlp:(g y0 s).1.2=0→(g y1 (g y0 s).2).2.vars.length=(g y0 s).2.vars.length∧((g y1 (g y0 s).2).1.2=0→(∀(i:Nat) (y:Tn),rest[i]?=some y→(∀j,j<i→(rL g rest { (g y1 (g y0 s).2).2 with set:=(g y0 s).2.set,all:=(g y0 s).2.all } j).2=0)→ok y (stL g rest { (g y1 (g y0 s).2).2 with set:=(g y0 s).2.set,all:=(g y0 s).2.all } i))∧(ckL g rest { (g y1 (g y0 s).2).2 with set:=(g y0 s).2.set,all:=(g y0 s).2.all }).2.vars.length=(g y0 s).2.vars.length)) :
  Calls Tryz.prog 46 #[.agg #[.int .i64 7,.string t,.int .i64 vk,.int .i64 vn,.string vs,.slice al ll cl,.slice ak lk ck,.bool f,.slice (some b1) m cc,.int .i64 p],.pointer (some ⟨xs,0,none⟩),.pointer (some ⟨xk,0,none⟩),.pointer (some ⟨xn,0,none⟩),.pointer (some ⟨xt,0,none⟩)] w fun e w'=>e=.returned (fltV (choS g y0 y1 rest s).1)∧MvP w w' lo q b n (mz y0+mz y1+smM mz rest) nv sv (choS g y0 y1 rest s).2:=by
 obtain⟨⟨⟨f1,f2⟩,s1⟩,hR⟩:∃R,choS g y0 y1 rest s=R:=⟨_,rfl⟩
 rw [hR]
 have HRR:=hZ hR
 clear hR
 have hqw:=ltR h.hq
 obtain⟨w2,hw2,n2,r2,b2⟩:=boxes (k:=7) (vk:=vk) (vn:=vn) (p:=p) (t:=t) (vs:=vs) (al:=al) (ak:=ak) (a:=(some b1)) (ll:=ll) (cl:=cl) (lk:=lk) (ck:=ck) (m:=m) (cc:=cc) (f:=f) w
 obtain⟨G,hG⟩:=eX (w.heap.size)
 have hBw:=Nat.le_trans hB h.hlo.2.2
 have HRW:=hZ (hr.later (b2.mono hBw))
 have HC2:=hZ (hC.below b2)
 have HM0:=hZ (hm.trans (Mvd.of_below q b nv sv b2))
 have HMw:=hZ (Mvd.of_below q b nv sv b2)
 rw [hG] at n2 r2
 have H2:=hZ (h.below b2)
 have HG2:=hZ (And.intro hG b2)
 have HGe:=hZ (And.intro hG (by rw [←hG];exact hqw:q<G))
 have HN:=hZ (And.intro n2 r2)
 have HL:=hZ hL
 have HLEN:=hZ hn
 go_enter Tryz.func46,Tryz.ntmps46
 go_upto_region 1 with fail
 try rw [hw2]
 try rw [hG]
 clear hw2 h b2 hG hL hr hn hm hC
 obtain⟨m0,m1,m2,m3,m4,m5,m6,m7,m8,m9⟩:=ten_at n2
 have x0:=one_at (uZ HC2).hs
 have x1:=one_at (uZ HC2).hk
 have x2:=one_at (uZ HC2).hn
 have x3:=one_at (uZ HC2).ht
 clear n2 r2
 go_upto_region 12 with fail
 have hL0:=uZ HL
 have hBw2:B0≤w2.heap.size:=Nat.le_trans hB (uZ H2).hlo.2.2
 have CP:=hZ (choice_any hL0 (fun x u=>rfl) (k:=7) (vk:=vk) (vn:=vn) (p:=p) (t:=t) (vs:=vs) (al:=al) (ak:=ak) (ll:=ll) (cl:=cl) (lk:=lk) (ck:=ck) (f:=f) (uZ HRW) (uZ HLEN) h0 h1 hrest (uZ HM0) (uZ H2) hk hB hok0 hok1 hlp)
 rw [uZ HRR] at CP
 clear hL0
 go_wp2_with fail
 refine(uZ CP).mono ?_
 rintro e w4 ⟨rfl,nv1,sv1,n1,S4,M4,hn1⟩
 clear CP m0 m1 m2 m3 m4 m5 m6 m7 m8 m9 x0 x1 x2 x3
 have r4:=keepF_of_mvd (uZ H2) M4 (G+1) _ _ (by decide) (by decide) (by decide) (uZ HN).2
 obtain⟨k0,k1⟩:=two_at r4
 have y0:=frozen_of_row w4 (G+1) 0 _ _ r4
 have y1:=frozen_of_row w4 (G+1) 1 _ _ r4
 have HE:=hZ (And.intro (put2 r4 (.int .i64 f1) (.int .i64 f2)) (scm_fin S4 ((uZ HMw).trans M4) (uZ HGe) r4 (.int .i64 f1) (.int .i64 f2)))
 have HN1:=hZ hn1
 clear S4 M4 r4 hn1
 unfold fltV
 go_wp2_with fail
 exact rtF (p:=6) rfl rfl (uZ HE).1 rfl ⟨rfl,_,_,_,(uZ HE).2.1,(uZ HE).2.2,uZ HN1⟩
theorem nd8_any {w0:World} {lo q b B0:Nat} {nv0 sv0:Value} {mz:Tn→Nat} {ok:Tn→Sco→Prop} {g:Tn→Sco→Ft × Sco} {tb tn xs xk xn xt:Nat} {tk:List UInt8→Option Int} (hL:LookS w0 lo q b B0 nv0 sv0 mz ok g 46 #[] (ndCap xs xk xn xt))
  {vk vn p:Int} {t vs:ByteArray} {al ak:Option Addr} {b1:Addr} {ll cl lk ck m cc:Nat} {f:Bool} {ns:List Tn} {w:World} {nv sv:Value} {n:Nat} {s:Sco} (hC:Cp w q tb tn xs xk xn xt tk) (hr:RowN w B0 ns (some b1) cc) (hn:ns.length=m) (hm:Mvd w0 w q b nv0 sv0 nv sv) (h:ScM w lo q b n nv sv s) (hB:B0≤lo) {y0 y1:Tn} (h0:ns[0]?=some y0) (h1:ns[1]?=some y1) (hk:n+mz y0+mz y1≤1099511627776) (hok0:ok y0 s) (hok1:(g y0 s).1.2=0→ok y1 { (g y0 s).2 with loops:=(g y0 s).2.loops+1 })
  (hlp:(g y0 s).1.2=0→0≤(g y0 s).2.loops∧(g y0 s).2.loops<1099511627776∧(g y1 { (g y0 s).2 with loops:=(g y0 s).2.loops+1 }).2.loops=(g y0 s).2.loops+1∧(g y1 { (g y0 s).2 with loops:=(g y0 s).2.loops+1 }).2.vars.length=(g y0 s).2.vars.length) :
  Calls Tryz.prog 46 #[.agg #[.int .i64 8,.string t,.int .i64 vk,.int .i64 vn,.string vs,.slice al ll cl,.slice ak lk ck,.bool f,.slice (some b1) m cc,.int .i64 p],.pointer (some ⟨xs,0,none⟩),.pointer (some ⟨xk,0,none⟩),.pointer (some ⟨xn,0,none⟩),.pointer (some ⟨xt,0,none⟩)] w fun e w'=>e=.returned (fltV (lopS g y0 y1 s).1)∧MvP w w' lo q b n (mz y0+mz y1) nv sv (lopS g y0 y1 s).2:=by
 obtain⟨⟨⟨f1,f2⟩,s1⟩,hR⟩:∃R,lopS g y0 y1 s=R:=⟨_,rfl⟩
 rw [hR]
 have HRR:=hZ hR
 clear hR
 have hqw:=ltR h.hq
 obtain⟨w2,hw2,n2,r2,b2⟩:=boxes (k:=8) (vk:=vk) (vn:=vn) (p:=p) (t:=t) (vs:=vs) (al:=al) (ak:=ak) (a:=(some b1)) (ll:=ll) (cl:=cl) (lk:=lk) (ck:=ck) (m:=m) (cc:=cc) (f:=f) w
 obtain⟨G,hG⟩:=eX (w.heap.size)
 have hBw:=Nat.le_trans hB h.hlo.2.2
 have HRW:=hZ (hr.later (b2.mono hBw))
 have HC2:=hZ (hC.below b2)
 have HM0:=hZ (hm.trans (Mvd.of_below q b nv sv b2))
 have HMw:=hZ (Mvd.of_below q b nv sv b2)
 rw [hG] at n2 r2
 have H2:=hZ (h.below b2)
 have HG2:=hZ (And.intro hG b2)
 have HGe:=hZ (And.intro hG (by rw [←hG];exact hqw:q<G))
 have HN:=hZ (And.intro n2 r2)
 have HL:=hZ hL
 have HLEN:=hZ hn
 go_enter Tryz.func46,Tryz.ntmps46
 go_upto_region 1 with fail
 try rw [hw2]
 try rw [hG]
 clear hw2 h b2 hG hL hr hn hm hC
 obtain⟨m0,m1,m2,m3,m4,m5,m6,m7,m8,m9⟩:=ten_at n2
 have x0:=one_at (uZ HC2).hs
 have x1:=one_at (uZ HC2).hk
 have x2:=one_at (uZ HC2).hn
 have x3:=one_at (uZ HC2).ht
 clear n2 r2
 go_upto_region 14 with fail
 have hL0:=uZ HL
 have hBw2:B0≤w2.heap.size:=Nat.le_trans hB (uZ H2).hlo.2.2
 have CP:=hZ (loop_any hL0 (fun x u=>rfl) (k:=8) (vk:=vk) (vn:=vn) (p:=p) (t:=t) (vs:=vs) (al:=al) (ak:=ak) (ll:=ll) (cl:=cl) (lk:=lk) (ck:=ck) (f:=f) (uZ HRW) (uZ HLEN) h0 h1 (uZ HM0) (uZ H2) hk hB hok0 hok1 hlp)
 rw [uZ HRR] at CP
 clear hL0
 go_wp2_with fail
 refine(uZ CP).mono ?_
 rintro e w4 ⟨rfl,nv1,sv1,n1,S4,M4,hn1⟩
 clear CP m0 m1 m2 m3 m4 m5 m6 m7 m8 m9 x0 x1 x2 x3
 have r4:=keepF_of_mvd (uZ H2) M4 (G+1) _ _ (by decide) (by decide) (by decide) (uZ HN).2
 obtain⟨k0,k1⟩:=two_at r4
 have y0:=frozen_of_row w4 (G+1) 0 _ _ r4
 have y1:=frozen_of_row w4 (G+1) 1 _ _ r4
 have HE:=hZ (And.intro (put2 r4 (.int .i64 f1) (.int .i64 f2)) (scm_fin S4 ((uZ HMw).trans M4) (uZ HGe) r4 (.int .i64 f1) (.int .i64 f2)))
 have HN1:=hZ hn1
 clear S4 M4 r4 hn1
 unfold fltV
 go_wp2_with fail
 exact rtF (p:=6) rfl rfl (uZ HE).1 rfl ⟨rfl,_,_,_,(uZ HE).2.1,(uZ HE).2.2,uZ HN1⟩
theorem nd9_any {w0:World} {lo q b B0:Nat} {nv0 sv0:Value} {mz:Tn→Nat} {ok:Tn→Sco→Prop} {g:Tn→Sco→Ft × Sco} {tb tn xs xk xn xt:Nat} {tk:List UInt8→Option Int} (hL:LookS w0 lo q b B0 nv0 sv0 mz ok g 46 #[] (ndCap xs xk xn xt))
  {vk vn p:Int} {t vs:ByteArray} {al ak a:Option Addr} {ll cl lk ck m cc:Nat} {f:Bool} {ns:List Tn} {w:World} {nv sv:Value} {n:Nat} {s:Sco} (hC:Cp w q tb tn xs xk xn xt tk) (hr:RowN w B0 ns a cc) (hn:ns.length=m) (hm:Mvd w0 w q b nv0 sv0 nv sv) (h:ScM w lo q b n nv sv s) (hB:B0≤lo) (hk:n+(smM mz ns+0)≤1099511627776) (hok:∀(i:Nat) (y:Tn),ns[i]?=some y→(∀j,j<i→(rL g ns s j).2=0)→ok y (stL g ns s i)) :
  Calls Tryz.prog 46 #[.agg #[.int .i64 9,.string t,.int .i64 vk,.int .i64 vn,.string vs,.slice al ll cl,.slice ak lk ck,.bool f,.slice a m cc,.int .i64 p],.pointer (some ⟨xs,0,none⟩),.pointer (some ⟨xk,0,none⟩),.pointer (some ⟨xn,0,none⟩),.pointer (some ⟨xt,0,none⟩)] w fun e w'=>e=.returned (fltV (thnS (ckL g ns s) (fun s=>((0,0),endS s))).1)∧MvP w w' lo q b n (smM mz ns+0) nv sv (thnS (ckL g ns s) (fun s=>((0,0),endS s))).2:=by
 obtain⟨⟨⟨f1,f2⟩,s1⟩,hR⟩:∃R,thnS (ckL g ns s) (fun s=>((0,0),endS s))=R:=⟨_,rfl⟩
 rw [hR]
 have HRR:=hZ hR
 clear hR
 have hqw:=ltR h.hq
 obtain⟨w2,hw2,n2,r2,b2⟩:=bxs 9 vk vn p t vs al ak a ll cl lk ck m cc f w
 obtain⟨G,hG⟩:=eX (w.heap.size)
 have hBw:=Nat.le_trans hB h.hlo.2.2
 have HRW:=hZ (hr.later (b2.mono hBw))
 have HC2:=hZ (hC.below b2)
 have HM0:=hZ (hm.trans (Mvd.of_below q b nv sv b2))
 have HMw:=hZ (Mvd.of_below q b nv sv b2)
 rw [hG] at n2 r2
 have H2:=hZ (h.below b2)
 have HG2:=hZ (And.intro hG b2)
 have HGe:=hZ (And.intro hG (by rw [←hG];exact hqw:q<G))
 have HN:=hZ (And.intro n2 r2)
 have HL:=hZ hL
 have HLEN:=hZ hn
 go_enter Tryz.func46,Tryz.ntmps46
 go_upto_region 1 with fail
 try rw [hw2]
 try rw [hG]
 clear hw2 h b2 hG hL hr hn hm hC
 obtain⟨m0,m1,m2,m3,m4,m5,m6,m7,m8,m9⟩:=ten_at n2
 have x0:=one_at (uZ HC2).hs
 have x1:=one_at (uZ HC2).hk
 have x2:=one_at (uZ HC2).hn
 have x3:=one_at (uZ HC2).ht
 clear n2 r2
 go_upto_region 16 with fail
 go_wp2_with fail
 obtain⟨w3,hw3⟩:=eX (w2.alloc (.cells #[.func (.func 45) #[] #[.pointer (some ⟨xn,0,none⟩)],.func (.func 53) #[.pointer (some ⟨q,0,none⟩)] #[]] 45))
 obtain⟨gb,hgb⟩:=eX (w2.heap.size)
 have b3:=alB hw3
 have g3:w3.heap[gb]?=some (.cells #[.func (.func 45) #[] #[.pointer (some ⟨xn,0,none⟩)],.func (.func 53) #[.pointer (some ⟨q,0,none⟩)] #[]] 45 (0,0)):=alN hw3 hgb
 try rw [hw3]
 try rw [hgb]
 clear hw3 hgb m0 m1 m2 m3 m4 m5 m6 m7 m8 m9 x0 x1 x2 x3
 have hL0:=uZ HL
 have hBw2:B0≤w2.heap.size:=Nat.le_trans hB (uZ H2).hlo.2.2
 have CP:=row_two (k:=9) (vk:=vk) (vn:=vn) (p:=p) (t:=t) (vs:=vs) (al:=al) (ak:=ak) (a:=a) (ll:=ll) (cl:=cl) (lk:=lk) (ck:=ck) (m:=m) (cc:=cc) (f:=f) (F1:=45) (Bd1:=#[]) (cap1:=#[.pointer (some ⟨xn,0,none⟩)]) (F2:=53) (Bd2:=#[.pointer (some ⟨q,0,none⟩)]) (cap2:=#[]) (a1:=ckL g ns s) (h2:=fun s=>((0,0),endS s)) (m1:=smM mz ns) (m2:=0) (fun x u=>rfl) (fun x u=>rfl) (fun _=>rfl) (Nat.le_refl 2) g3 ((uZ H2).below b3)
  (fun u hu hS=>kids_any hL0 (fun x u=>rfl) (k:=9) (f:=f) (((uZ HC2).below ((b3.trans (hu.mono b3.size)))).hn) ((uZ HRW).later ((b3.trans (hu.mono b3.size)).mono hBw2)) (uZ HLEN) ((uZ HM0).trans (Mvd.of_below q b nv sv (b3.trans (hu.mono b3.size)))) hS (by omega) hB hok)
  (fun h0 u nv' sv' n' hn' hM hS=>(end_any (f:=f) hS).mono (fun e u' h=>⟨h.1,MvP.of_own h.2.1 h.2.2⟩))
 rw [uZ HRR] at CP
 refine CP.mono ?_
 rintro e w4 ⟨rfl,nv1,sv1,n1,S4,M4',hn1⟩
 have M4:=(Mvd.of_below q b nv sv b3).trans M4'
 clear CP M4' b3 g3 hL0
 have r4:=keepF_of_mvd (uZ H2) M4 (G+1) _ _ (by decide) (by decide) (by decide) (uZ HN).2
 obtain⟨k0,k1⟩:=two_at r4
 have y0:=frozen_of_row w4 (G+1) 0 _ _ r4
 have y1:=frozen_of_row w4 (G+1) 1 _ _ r4
 have HE:=hZ (And.intro (put2 r4 (.int .i64 f1) (.int .i64 f2)) (scm_fin S4 ((uZ HMw).trans M4) (uZ HGe) r4 (.int .i64 f1) (.int .i64 f2)))
 have HN1:=hZ hn1
 clear S4 M4 r4 hn1
 unfold fltV
 go_wp2_with fail
 exact rtF (p:=6) rfl rfl (uZ HE).1 rfl ⟨rfl,_,_,_,(uZ HE).2.1,(uZ HE).2.2,uZ HN1⟩
theorem nda_any {w0:World} {lo q b B0:Nat} {nv0 sv0:Value} {mz:Tn→Nat} {ok:Tn→Sco→Prop} {g:Tn→Sco→Ft × Sco} {tb tn xs xk xn xt:Nat} {tk:List UInt8→Option Int} (hL:LookS w0 lo q b B0 nv0 sv0 mz ok g 46 #[] (ndCap xs xk xn xt))
  {vk vn p:Int} {t vs:ByteArray} {al ak a:Option Addr} {ll cl lk ck m cc:Nat} {f:Bool} {ns:List Tn} {w:World} {nv sv:Value} {n:Nat} {s:Sco} (hC:Cp w q tb tn xs xk xn xt tk) (hr:RowN w B0 ns a cc) (hn:ns.length=m) (hm:Mvd w0 w q b nv0 sv0 nv sv) (h:ScM w lo q b n nv sv s) (hB:B0≤lo) :
  Calls Tryz.prog 46 #[.agg #[.int .i64 10,.string t,.int .i64 vk,.int .i64 vn,.string vs,.slice al ll cl,.slice ak lk ck,.bool f,.slice a m cc,.int .i64 p],.pointer (some ⟨xs,0,none⟩),.pointer (some ⟨xk,0,none⟩),.pointer (some ⟨xn,0,none⟩),.pointer (some ⟨xt,0,none⟩)] w fun e w'=>e=.returned (fltV (thnS (inlS s p,s) (fun s=>((0,0),endS s))).1)∧MvP w w' lo q b n (0+0) nv sv (thnS (inlS s p,s) (fun s=>((0,0),endS s))).2:=by
 obtain⟨⟨⟨f1,f2⟩,s1⟩,hR⟩:∃R,thnS (inlS s p,s) (fun s=>((0,0),endS s))=R:=⟨_,rfl⟩
 rw [hR]
 have HRR:=hZ hR
 clear hR
 have hqw:=ltR h.hq
 obtain⟨w2,hw2,n2,r2,b2⟩:=bxs 10 vk vn p t vs al ak a ll cl lk ck m cc f w
 obtain⟨G,hG⟩:=eX (w.heap.size)
 have hBw:=Nat.le_trans hB h.hlo.2.2
 have HRW:=hZ (hr.later (b2.mono hBw))
 have HC2:=hZ (hC.below b2)
 have HM0:=hZ (hm.trans (Mvd.of_below q b nv sv b2))
 have HMw:=hZ (Mvd.of_below q b nv sv b2)
 rw [hG] at n2 r2
 have H2:=hZ (h.below b2)
 have HG2:=hZ (And.intro hG b2)
 have HGe:=hZ (And.intro hG (by rw [←hG];exact hqw:q<G))
 have HN:=hZ (And.intro n2 r2)
 have HL:=hZ hL
 have HLEN:=hZ hn
 go_enter Tryz.func46,Tryz.ntmps46
 go_upto_region 1 with fail
 try rw [hw2]
 try rw [hG]
 clear hw2 h b2 hG hL hr hn hm hC
 obtain⟨m0,m1,m2,m3,m4,m5,m6,m7,m8,m9⟩:=ten_at n2
 have x0:=one_at (uZ HC2).hs
 have x1:=one_at (uZ HC2).hk
 have x2:=one_at (uZ HC2).hn
 have x3:=one_at (uZ HC2).ht
 clear n2 r2
 go_upto_region 19 with fail
 go_wp2_with fail
 obtain⟨w3,hw3⟩:=eX (w2.alloc (.cells #[.func (.func 54) #[.pointer (some ⟨q,0,none⟩)] #[],.func (.func 53) #[.pointer (some ⟨q,0,none⟩)] #[]] 45))
 obtain⟨gb,hgb⟩:=eX (w2.heap.size)
 have b3:=alB hw3
 have g3:w3.heap[gb]?=some (.cells #[.func (.func 54) #[.pointer (some ⟨q,0,none⟩)] #[],.func (.func 53) #[.pointer (some ⟨q,0,none⟩)] #[]] 45 (0,0)):=alN hw3 hgb
 try rw [hw3]
 try rw [hgb]
 clear hw3 hgb m0 m1 m2 m3 m4 m5 m6 m7 m8 m9 x0 x1 x2 x3
 have hL0:=uZ HL
 have hBw2:B0≤w2.heap.size:=Nat.le_trans hB (uZ H2).hlo.2.2
 have CP:=row_two (k:=10) (vk:=vk) (vn:=vn) (p:=p) (t:=t) (vs:=vs) (al:=al) (ak:=ak) (a:=a) (ll:=ll) (cl:=cl) (lk:=lk) (ck:=ck) (m:=m) (cc:=cc) (f:=f) (F1:=54) (Bd1:=#[.pointer (some ⟨q,0,none⟩)]) (cap1:=#[]) (F2:=53) (Bd2:=#[.pointer (some ⟨q,0,none⟩)]) (cap2:=#[]) (a1:=(inlS s p,s)) (h2:=fun s=>((0,0),endS s)) (m1:=0) (m2:=0) (fun x u=>rfl) (fun x u=>rfl) (fun _=>rfl) (Nat.le_refl 2) g3 ((uZ H2).below b3)
  (fun u hu hS=>(inLoop_any (f:=f) hS).mono (fun e u' h=>⟨h.1,MvP.of_below hS h.2⟩))
  (fun h0 u nv' sv' n' hn' hM hS=>(end_any (f:=f) hS).mono (fun e u' h=>⟨h.1,MvP.of_own h.2.1 h.2.2⟩))
 rw [uZ HRR] at CP
 refine CP.mono ?_
 rintro e w4 ⟨rfl,nv1,sv1,n1,S4,M4',hn1⟩
 have M4:=(Mvd.of_below q b nv sv b3).trans M4'
 clear CP M4' b3 g3 hL0
 have r4:=keepF_of_mvd (uZ H2) M4 (G+1) _ _ (by decide) (by decide) (by decide) (uZ HN).2
 obtain⟨k0,k1⟩:=two_at r4
 have y0:=frozen_of_row w4 (G+1) 0 _ _ r4
 have y1:=frozen_of_row w4 (G+1) 1 _ _ r4
 have HE:=hZ (And.intro (put2 r4 (.int .i64 f1) (.int .i64 f2)) (scm_fin S4 ((uZ HMw).trans M4) (uZ HGe) r4 (.int .i64 f1) (.int .i64 f2)))
 have HN1:=hZ hn1
 clear S4 M4 r4 hn1
 unfold fltV
 go_wp2_with fail
 exact rtF (p:=6) rfl rfl (uZ HE).1 rfl ⟨rfl,_,_,_,(uZ HE).2.1,(uZ HE).2.2,uZ HN1⟩
theorem ndb_any {w0:World} {lo q b B0:Nat} {nv0 sv0:Value} {mz:Tn→Nat} {ok:Tn→Sco→Prop} {g:Tn→Sco→Ft × Sco} {tb tn xs xk xn xt:Nat} {tk:List UInt8→Option Int} (hL:LookS w0 lo q b B0 nv0 sv0 mz ok g 46 #[] (ndCap xs xk xn xt))
  {vk vn p:Int} {t vs:ByteArray} {al ak a:Option Addr} {ll cl lk ck m cc:Nat} {f:Bool} {ns:List Tn} {w:World} {nv sv:Value} {n:Nat} {s:Sco} (hC:Cp w q tb tn xs xk xn xt tk) (hr:RowN w B0 ns a cc) (hn:ns.length=m) (hm:Mvd w0 w q b nv0 sv0 nv sv) (h:ScM w lo q b n nv sv s) (hB:B0≤lo) :
  Calls Tryz.prog 46 #[.agg #[.int .i64 11,.string t,.int .i64 vk,.int .i64 vn,.string vs,.slice al ll cl,.slice ak lk ck,.bool f,.slice a m cc,.int .i64 p],.pointer (some ⟨xs,0,none⟩),.pointer (some ⟨xk,0,none⟩),.pointer (some ⟨xn,0,none⟩),.pointer (some ⟨xt,0,none⟩)] w fun e w'=>e=.returned (fltV (thnS (inlS s p,s) (fun s=>((0,0),endS s))).1)∧MvP w w' lo q b n (0+0) nv sv (thnS (inlS s p,s) (fun s=>((0,0),endS s))).2:=by
 obtain⟨⟨⟨f1,f2⟩,s1⟩,hR⟩:∃R,thnS (inlS s p,s) (fun s=>((0,0),endS s))=R:=⟨_,rfl⟩
 rw [hR]
 have HRR:=hZ hR
 clear hR
 have hqw:=ltR h.hq
 obtain⟨w2,hw2,n2,r2,b2⟩:=bxs 11 vk vn p t vs al ak a ll cl lk ck m cc f w
 obtain⟨G,hG⟩:=eX (w.heap.size)
 have hBw:=Nat.le_trans hB h.hlo.2.2
 have HRW:=hZ (hr.later (b2.mono hBw))
 have HC2:=hZ (hC.below b2)
 have HM0:=hZ (hm.trans (Mvd.of_below q b nv sv b2))
 have HMw:=hZ (Mvd.of_below q b nv sv b2)
 rw [hG] at n2 r2
 have H2:=hZ (h.below b2)
 have HG2:=hZ (And.intro hG b2)
 have HGe:=hZ (And.intro hG (by rw [←hG];exact hqw:q<G))
 have HN:=hZ (And.intro n2 r2)
 have HL:=hZ hL
 have HLEN:=hZ hn
 go_enter Tryz.func46,Tryz.ntmps46
 go_upto_region 1 with fail
 try rw [hw2]
 try rw [hG]
 clear hw2 h b2 hG hL hr hn hm hC
 obtain⟨m0,m1,m2,m3,m4,m5,m6,m7,m8,m9⟩:=ten_at n2
 have x0:=one_at (uZ HC2).hs
 have x1:=one_at (uZ HC2).hk
 have x2:=one_at (uZ HC2).hn
 have x3:=one_at (uZ HC2).ht
 clear n2 r2
 go_upto_region 19 with fail
 go_wp2_with fail
 obtain⟨w3,hw3⟩:=eX (w2.alloc (.cells #[.func (.func 54) #[.pointer (some ⟨q,0,none⟩)] #[],.func (.func 53) #[.pointer (some ⟨q,0,none⟩)] #[]] 45))
 obtain⟨gb,hgb⟩:=eX (w2.heap.size)
 have b3:=alB hw3
 have g3:w3.heap[gb]?=some (.cells #[.func (.func 54) #[.pointer (some ⟨q,0,none⟩)] #[],.func (.func 53) #[.pointer (some ⟨q,0,none⟩)] #[]] 45 (0,0)):=alN hw3 hgb
 try rw [hw3]
 try rw [hgb]
 clear hw3 hgb m0 m1 m2 m3 m4 m5 m6 m7 m8 m9 x0 x1 x2 x3
 have hL0:=uZ HL
 have hBw2:B0≤w2.heap.size:=Nat.le_trans hB (uZ H2).hlo.2.2
 have CP:=row_two (k:=11) (vk:=vk) (vn:=vn) (p:=p) (t:=t) (vs:=vs) (al:=al) (ak:=ak) (a:=a) (ll:=ll) (cl:=cl) (lk:=lk) (ck:=ck) (m:=m) (cc:=cc) (f:=f) (F1:=54) (Bd1:=#[.pointer (some ⟨q,0,none⟩)]) (cap1:=#[]) (F2:=53) (Bd2:=#[.pointer (some ⟨q,0,none⟩)]) (cap2:=#[]) (a1:=(inlS s p,s)) (h2:=fun s=>((0,0),endS s)) (m1:=0) (m2:=0) (fun x u=>rfl) (fun x u=>rfl) (fun _=>rfl) (Nat.le_refl 2) g3 ((uZ H2).below b3)
  (fun u hu hS=>(inLoop_any (f:=f) hS).mono (fun e u' h=>⟨h.1,MvP.of_below hS h.2⟩))
  (fun h0 u nv' sv' n' hn' hM hS=>(end_any (f:=f) hS).mono (fun e u' h=>⟨h.1,MvP.of_own h.2.1 h.2.2⟩))
 rw [uZ HRR] at CP
 refine CP.mono ?_
 rintro e w4 ⟨rfl,nv1,sv1,n1,S4,M4',hn1⟩
 have M4:=(Mvd.of_below q b nv sv b3).trans M4'
 clear CP M4' b3 g3 hL0
 have r4:=keepF_of_mvd (uZ H2) M4 (G+1) _ _ (by decide) (by decide) (by decide) (uZ HN).2
 obtain⟨k0,k1⟩:=two_at r4
 have y0:=frozen_of_row w4 (G+1) 0 _ _ r4
 have y1:=frozen_of_row w4 (G+1) 1 _ _ r4
 have HE:=hZ (And.intro (put2 r4 (.int .i64 f1) (.int .i64 f2)) (scm_fin S4 ((uZ HMw).trans M4) (uZ HGe) r4 (.int .i64 f1) (.int .i64 f2)))
 have HN1:=hZ hn1
 clear S4 M4 r4 hn1
 unfold fltV
 go_wp2_with fail
 exact rtF (p:=6) rfl rfl (uZ HE).1 rfl ⟨rfl,_,_,_,(uZ HE).2.1,(uZ HE).2.2,uZ HN1⟩
theorem nde_any {w0:World} {lo q b B0:Nat} {nv0 sv0:Value} {mz:Tn→Nat} {ok:Tn→Sco→Prop} {g:Tn→Sco→Ft × Sco} {tb tn xs xk xn xt:Nat} {tk:List UInt8→Option Int} (hL:LookS w0 lo q b B0 nv0 sv0 mz ok g 46 #[] (ndCap xs xk xn xt))
  {vk vn p:Int} {t vs:ByteArray} {al ak a:Option Addr} {ll cl lk ck m cc:Nat} {f:Bool} {ns:List Tn} {w:World} {nv sv:Value} {n:Nat} {s:Sco} (hC:Cp w q tb tn xs xk xn xt tk) (hr:RowN w B0 ns a cc) (hn:ns.length=m) (hm:Mvd w0 w q b nv0 sv0 nv sv) (h:ScM w lo q b n nv sv s) (hB:B0≤lo) (ht:t.size≤maxLen) :
  Calls Tryz.prog 46 #[.agg #[.int .i64 14,.string t,.int .i64 vk,.int .i64 vn,.string vs,.slice al ll cl,.slice ak lk ck,.bool f,.slice a m cc,.int .i64 p],.pointer (some ⟨xs,0,none⟩),.pointer (some ⟨xk,0,none⟩),.pointer (some ⟨xn,0,none⟩),.pointer (some ⟨xt,0,none⟩)] w fun e w'=>e=.returned (fltV (((redS s t.data.toList p,s):Ft × Sco)).1)∧MvP w w' lo q b n (0) nv sv (((redS s t.data.toList p,s):Ft × Sco)).2:=by
 obtain⟨⟨⟨f1,f2⟩,s1⟩,hR⟩:∃R,((redS s t.data.toList p,s):Ft × Sco)=R:=⟨_,rfl⟩
 rw [hR]
 have HRR:=hZ hR
 clear hR
 have hqw:=ltR h.hq
 obtain⟨w2,hw2,n2,r2,b2⟩:=bxs 14 vk vn p t vs al ak a ll cl lk ck m cc f w
 obtain⟨G,hG⟩:=eX (w.heap.size)
 have hBw:=Nat.le_trans hB h.hlo.2.2
 have HRW:=hZ (hr.later (b2.mono hBw))
 have HC2:=hZ (hC.below b2)
 have HM0:=hZ (hm.trans (Mvd.of_below q b nv sv b2))
 have HMw:=hZ (Mvd.of_below q b nv sv b2)
 rw [hG] at n2 r2
 have H2:=hZ (h.below b2)
 have HG2:=hZ (And.intro hG b2)
 have HGe:=hZ (And.intro hG (by rw [←hG];exact hqw:q<G))
 have HN:=hZ (And.intro n2 r2)
 have HL:=hZ hL
 have HLEN:=hZ hn
 go_enter Tryz.func46,Tryz.ntmps46
 go_upto_region 1 with fail
 try rw [hw2]
 try rw [hG]
 clear hw2 h b2 hG hL hr hn hm hC
 obtain⟨m0,m1,m2,m3,m4,m5,m6,m7,m8,m9⟩:=ten_at n2
 have x0:=one_at (uZ HC2).hs
 have x1:=one_at (uZ HC2).hk
 have x2:=one_at (uZ HC2).hn
 have x3:=one_at (uZ HC2).ht
 clear n2 r2
 go_upto_region 21 with fail
 have hL0:=uZ HL
 have hBw2:B0≤w2.heap.size:=Nat.le_trans hB (uZ H2).hlo.2.2
 have CP:=hZ ((read_any (k:=14) (vk:=vk) (vn:=vn) (p:=p) (t:=t) (vs:=vs) (al:=al) (ak:=ak) (a:=a) (ll:=ll) (cl:=cl) (lk:=lk) (ck:=ck) (m:=m) (cc:=cc) (f:=f) ht (uZ H2)).mono (R':=fun e w'=>e=.returned (fltV ((redS s t.data.toList p,s):Ft × Sco).1)∧MvP w2 w' lo q b n 0 nv sv ((redS s t.data.toList p,s):Ft × Sco).2) (fun e u' h=>⟨h.1,MvP.of_below (uZ H2) h.2⟩))
 rw [uZ HRR] at CP
 clear hL0
 go_wp2_with fail
 refine(uZ CP).mono ?_
 rintro e w4 ⟨rfl,nv1,sv1,n1,S4,M4,hn1⟩
 clear CP m0 m1 m2 m3 m4 m5 m6 m7 m8 m9 x0 x1 x2 x3
 have r4:=keepF_of_mvd (uZ H2) M4 (G+1) _ _ (by decide) (by decide) (by decide) (uZ HN).2
 obtain⟨k0,k1⟩:=two_at r4
 have y0:=frozen_of_row w4 (G+1) 0 _ _ r4
 have y1:=frozen_of_row w4 (G+1) 1 _ _ r4
 have HE:=hZ (And.intro (put2 r4 (.int .i64 f1) (.int .i64 f2)) (scm_fin S4 ((uZ HMw).trans M4) (uZ HGe) r4 (.int .i64 f1) (.int .i64 f2)))
 have HN1:=hZ hn1
 clear S4 M4 r4 hn1
 unfold fltV
 go_wp2_with fail
 exact rtF (p:=6) rfl rfl (uZ HE).1 rfl ⟨rfl,_,_,_,(uZ HE).2.1,(uZ HE).2.2,uZ HN1⟩
end Go.Proofs.YtjdpaihhhjdgmaaGreatDoor
