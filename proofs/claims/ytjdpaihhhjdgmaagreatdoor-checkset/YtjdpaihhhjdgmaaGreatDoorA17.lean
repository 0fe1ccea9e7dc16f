/-
  Layer 19 (check): a Call (nodes$2); conditions: the nodes lie in memory, how many names there are.
  Layer 19 (check): a Fields (nodes$2); conditions: the nodes lie in memory, how many names there are.
-/
import Derived.Test.YtjdpaihhhjdgmaaGreatDoorA15
set_option linter.unusedVariables false
set_option linter.unusedSimpArgs false
set_option maxRecDepth 100000
set_option maxHeartbeats 8000000
namespace Go.Proofs.YtjdpaihhhjdgmaaGreatDoor
open Go.RowKit
set_option linter.unusedVariables false
set_option linter.unusedSimpArgs false
theorem calledF_any {w:World} {tb:Nat}:Calls Tryz.prog 56 #[.map (some tb)] w fun e w'=>∃xm,e=.returned (.func (.func 92) #[] #[.pointer (some ⟨xm,0,none⟩)])∧w.heap.size≤xm∧w'.heap[xm]?=some (.cells #[.map (some tb)] 40 (0,0))∧Below w.heap.size w w':=by
 obtain⟨G,hG⟩:=eX (w.heap.size)
 obtain⟨w2,hw2⟩:=eX (w.alloc (.cells #[.map (some tb)] 40))
 have n2:w2.heap[G]?=some (.cells #[.map (some tb)] 40 (0,0)):=alN hw2 hG
 have b2:=alB hw2
 rw [hG] at b2
 have H:=hZ (And.intro n2 b2)
 go_enter Tryz.func56,Tryz.ntmps56
 go_upto_region 1 with fail
 try rw [hw2]
 try rw [hG]
 clear hw2 n2 b2
 go_wp2_with fail
 go_ret
 exact⟨G,rfl,Nat.le_of_eq hG,(uZ H).1,by rw [hG];exact(uZ H).2⟩
theorem ck_zero (g:Tn→Sco→Ft × Sco):∀(l:List Tn) (s:Sco),(ckL g l s).1.2=0→(ckL g l s).1=(0,0)
 |[],_,_=>rfl
 |n :: r,s,h=>by
  simp only [ckL] at h ⊢
  by_cases h0:(g n s).1.2=0
  ·rw [if_pos h0] at h ⊢
   exact ck_zero g r _ h
  ·rw [if_neg h0] at h
   exact absurd h h0
theorem ndf_any {w0:World} {lo q b B0:Nat} {nv0 sv0:Value} {mz:Tn→Nat} {ok:Tn→Sco→Prop} {g:Tn→Sco→Ft × Sco} {tb tn xs xk xn xt:Nat} {tk:List UInt8→Option Int} (hL:LookS w0 lo q b B0 nv0 sv0 mz ok g 46 #[] (ndCap xs xk xn xt))
  {vk vn p:Int} {t vs:ByteArray} {al ak a:Option Addr} {ll cl lk ck m cc:Nat} {f:Bool} {ns:List Tn} {w:World} {nv sv:Value} {n:Nat} {s:Sco} (hC:Cp w q tb tn xs xk xn xt tk) (hr:RowN w B0 ns a cc) (hn:ns.length=m) (hm:Mvd w0 w q b nv0 sv0 nv sv) (h:ScM w lo q b n nv sv s) (hB:B0≤lo) (ht:t.size≤maxLen) (hk:n+(0+smM mz ns)≤1099511627776) (hok:∀(i:Nat) (y:Tn),ns[i]?=some y→(∀j,j<i→(rL g ns s j).2=0)→ok y (stL g ns s i)) :
  Calls Tryz.prog 46 #[.agg #[.int .i64 15,.string t,.int .i64 vk,.int .i64 vn,.string vs,.slice al ll cl,.slice ak lk ck,.bool f,.slice a m cc,.int .i64 p],.pointer (some ⟨xs,0,none⟩),.pointer (some ⟨xk,0,none⟩),.pointer (some ⟨xn,0,none⟩),.pointer (some ⟨xt,0,none⟩)] w fun e w'=>e=.returned (fltV (thnS ((calR tk biF t.data.toList m p,s):Ft × Sco) (ckL g ns)).1)∧MvP w w' lo q b n (0+smM mz ns) nv sv (thnS ((calR tk biF t.data.toList m p,s):Ft × Sco) (ckL g ns)).2:=by
 obtain⟨⟨⟨f1,f2⟩,s1⟩,hR⟩:∃R,thnS ((calR tk biF t.data.toList m p,s):Ft × Sco) (ckL g ns)=R:=⟨_,rfl⟩
 rw [hR]
 have HRR:=hZ hR
 clear hR
 have hqw:=ltR h.hq
 obtain⟨w2,hw2,n2,r2,b2⟩:=bxs 15 vk vn p t vs al ak a ll cl lk ck m cc f w
 obtain⟨G,hG⟩:=eX (w.heap.size)
 have hBw:=Nat.le_trans hB h.hlo.2.2
 have HRW:=hZ (hr.later (b2.mono hBw))
 have HC2:=hZ (hC.below b2)
 have HM0:=hZ (hm.trans (Mvd.of_below q b nv sv b2))
 have HMw:=hZ (Mvd.of_below q b nv sv b2)
 rw [hG] at n2 r2
 have H2:=hZ (h.below b2)
 have HG2:=hZ (And.intro hG b2)
 have HGe:=hZ (And.intro hG (by rw [←hG];exact hqw:q<G))
 have HN:=hZ (And.intro n2 r2)
 have HL:=hZ hL
 have HLEN:=hZ hn
 go_enter Tryz.func46,Tryz.ntmps46
 go_upto_region 1 with fail
 try rw [hw2]
 try rw [hG]
 clear hw2 h b2 hG hL hr hn hm hC
 obtain⟨m0,m1,m2,m3,m4,m5,m6,m7,m8,m9⟩:=ten_at n2
 have x0:=one_at (uZ HC2).hs
 have x1:=one_at (uZ HC2).hk
 have x2:=one_at (uZ HC2).hn
 have x3:=one_at (uZ HC2).ht
 clear n2 r2
 go_upto_region 23 with fail
 have HS0:Hid (w2.drew.heap[G]?=some (.cells #[.int .i64 15,.string t,.int .i64 vk,.int .i64 vn,.string vs,.slice al ll cl,.slice ak lk ck,.bool f,.slice a m cc,.int .i64 p] 28 (0,0))∧w2.drew.heap[xk]?=some (.cells #[.func (.func 45) #[] #[.pointer (some ⟨xn,0,none⟩)]] 44 (0,0))∧w2.drew.heap[xt]?=some (.cells #[.map (some tb)] 40 (0,0))):=hZ ⟨(uZ HN).1,(uZ HC2).hk,(uZ HC2).ht⟩
 clear m0 m1 m2 m3 m4 m5 m6 m7 m8 m9 x0 x1 x2 x3
 have HB0:Hid (Below w2.heap.size w2 w2.drew):=hZ ((Below.refl _ _).drew)
 refine till_begin (S:=fun u=>u.heap[G]?=some (.cells #[.int .i64 15,.string t,.int .i64 vk,.int .i64 vn,.string vs,.slice al ll cl,.slice ak lk ck,.bool f,.slice a m cc,.int .i64 p] 28 (0,0))∧u.heap[xk]?=some (.cells #[.func (.func 45) #[] #[.pointer (some ⟨xn,0,none⟩)]] 44 (0,0))∧u.heap[xt]?=some (.cells #[.map (some tb)] 40 (0,0))) 99 (by kernel_rfl) ?_
 obtain⟨W0,hW0⟩:=eX (w2.drew)
 try rw [hW0]
 rw [hW0] at HS0 HB0
 clear hW0
 refine till_takeN 0 (v:=.agg #[.int .i64 15,.string t,.int .i64 vk,.int .i64 vn,.string vs,.slice al ll cl,.slice ak lk ck,.bool f,.slice a m cc,.int .i64 p]) (some 78) rfl rfl rfl (by kernel_rfl) (by kernel_rfl) (by kernel_rfl) (fun _ _ _ h=>h) (Or.inl ⟨by rfl,fun u hu=>by obtain⟨hu1,hu2,hu3⟩:=hu;obtain⟨m0,m1,m2,m3,m4,m5,m6,m7,m8,m9⟩:=ten_at hu1;have x1:=one_at hu2;have x3:=one_at hu3;go_simp⟩) (uZ HS0) ?_
 try simp only [Act.put,sA,sB,sC]
 refine till_takeN 1 (v:=.map (some tb)) (some 79) rfl rfl rfl (by kernel_rfl) (by kernel_rfl) (by kernel_rfl) (fun _ _ _ h=>h) (Or.inl ⟨by rfl,fun u hu=>by obtain⟨hu1,hu2,hu3⟩:=hu;obtain⟨m0,m1,m2,m3,m4,m5,m6,m7,m8,m9⟩:=ten_at hu1;have x1:=one_at hu2;have x3:=one_at hu3;go_simp⟩) (uZ HS0) ?_
 try simp only [Act.put,sA,sB,sC]
 refine till_takeN 3 (v:=.func (.func 45) #[] #[.pointer (some ⟨xn,0,none⟩)]) (some 81) rfl rfl rfl (by kernel_rfl) (by kernel_rfl) (by kernel_rfl) (fun _ _ _ h=>h) (Or.inl ⟨by rfl,fun u hu=>by obtain⟨hu1,hu2,hu3⟩:=hu;obtain⟨m0,m1,m2,m3,m4,m5,m6,m7,m8,m9⟩:=ten_at hu1;have x1:=one_at hu2;have x3:=one_at hu3;go_simp⟩) (uZ HS0) ?_
 try simp only [Act.put,sA,sB,sC]
 have C1:=hZ (calledF_any (w:=W0) (tb:=tb))
 refine till_one 2 (by kernel_rfl) rfl (fun K hK=>?_)
 go_simp
 refine(uZ C1).mono ?_
 rintro e W1 ⟨xm,rfl,hxm,hxc,bx1⟩
 have HS1:Hid (W1.heap[G]?=some (.cells #[.int .i64 15,.string t,.int .i64 vk,.int .i64 vn,.string vs,.slice al ll cl,.slice ak lk ck,.bool f,.slice a m cc,.int .i64 p] 28 (0,0))∧W1.heap[xk]?=some (.cells #[.func (.func 45) #[] #[.pointer (some ⟨xn,0,none⟩)]] 44 (0,0))∧W1.heap[xt]?=some (.cells #[.map (some tb)] 40 (0,0))):=hZ ⟨(bx1.block _ (ltR (uZ HS0).1)).trans (uZ HS0).1,(bx1.block _ (ltR (uZ HS0).2.1)).trans (uZ HS0).2.1,(bx1.block _ (ltR (uZ HS0).2.2)).trans (uZ HS0).2.2⟩
 have HB1:=hZ ((uZ HB0).trans (bx1.mono (uZ HB0).size))
 have HXC:=hZ hxc
 clear C1 bx1 hxm hxc HS0 HB0
 go_wp2_with fail
 refine hK.out _ _ (Or.inr (uZ HS1)) ?_
 clear hK K
 try simp only [Act.put,sA,sB,sC]
 refine till_one 4 (by kernel_rfl) rfl (fun K hK=>?_)
 go_simp
 obtain⟨w3,hw3⟩:=eX (W1.alloc (.cells #[.func (.func 92) #[] #[.pointer (some ⟨xm,0,none⟩)],.func (.func 45) #[] #[.pointer (some ⟨xn,0,none⟩)]] 45))
 obtain⟨gb,hgb⟩:=eX (W1.heap.size)
 have g3:w3.heap[gb]?=some (.cells #[.func (.func 92) #[] #[.pointer (some ⟨xm,0,none⟩)],.func (.func 45) #[] #[.pointer (some ⟨xn,0,none⟩)]] 45 (0,0)):=alN hw3 hgb
 have bx3:=alB hw3
 have hxc3:=(bx3.block xm (ltR (uZ HXC))).trans (uZ HXC)
 have HS3:Hid (w3.heap[G]?=some (.cells #[.int .i64 15,.string t,.int .i64 vk,.int .i64 vn,.string vs,.slice al ll cl,.slice ak lk ck,.bool f,.slice a m cc,.int .i64 p] 28 (0,0))∧w3.heap[xk]?=some (.cells #[.func (.func 45) #[] #[.pointer (some ⟨xn,0,none⟩)]] 44 (0,0))∧w3.heap[xt]?=some (.cells #[.map (some tb)] 40 (0,0))):=hZ ⟨(bx3.block _ (ltR (uZ HS1).1)).trans (uZ HS1).1,(bx3.block _ (ltR (uZ HS1).2.1)).trans (uZ HS1).2.1,(bx3.block _ (ltR (uZ HS1).2.2)).trans (uZ HS1).2.2⟩
 have b3:=(uZ HB1).trans (bx3.mono (uZ HB1).size)
 try rw [hw3]
 try rw [hgb]
 refine hK.out _ _ (Or.inr (uZ HS3)) ?_
 clear hK K hw3 hgb bx3
 try simp only [Act.put,sA,sB,sC]
 have hL0:=uZ HL
 have hBw2:B0≤w2.heap.size:=Nat.le_trans hB (uZ H2).hlo.2.2
 have CP:=row_two (k:=15) (vk:=vk) (vn:=vn) (p:=p) (t:=t) (vs:=vs) (al:=al) (ak:=ak) (a:=a) (ll:=ll) (cl:=cl) (lk:=lk) (ck:=ck) (m:=m) (cc:=cc) (f:=f) (F1:=92) (Bd1:=#[]) (cap1:=#[.pointer (some ⟨xm,0,none⟩)]) (F2:=45) (Bd2:=#[]) (cap2:=#[.pointer (some ⟨xn,0,none⟩)]) (a1:=((calR tk biF t.data.toList m p,s):Ft × Sco)) (h2:=ckL g ns) (m1:=0) (m2:=smM mz ns) (fun x u=>rfl) (fun x u=>rfl) (ck_zero g ns _) (Nat.le_refl 2) g3 ((uZ H2).below b3)
  (fun u hu hS=>(called_any (f:=f) ht ((uZ HC2).tab.below (b3.trans (hu.mono b3.size))) ((hu.block xm (ltR hxc3)).trans hxc3) ((uZ HC2).hm.later ((b3.trans (hu.mono b3.size)).block tb (uZ HC2).hm.lt))).mono (fun e u' h=>⟨h.1,MvP.of_below hS h.2⟩))
  (fun h0 u nv' sv' n' hn' hM hS=>by
   have hMu:=(Mvd.of_below q b nv sv b3).trans hM
   exact kids_any hL0 (fun x u=>rfl) (k:=15) (f:=f) (keepF_of_mvd (uZ H2) hMu _ _ _ (by decide) (by decide) (by decide) (uZ HC2).hn) ((uZ HRW).later ((Mvd.low (uZ H2) hMu).mono hB)) (uZ HLEN) ((uZ HM0).trans hMu) hS (by omega) hB hok)
 rw [uZ HRR] at CP
 have CPh:=hZ CP
 have HB3:=hZ b3
 clear CP b3 g3 hxc3 hL0 HS1 HB1 HXC
 refine till_one 5 (by kernel_rfl) rfl (fun K hK=>?_)
 go_simp
 refine(uZ CPh).mono ?_
 rintro e w4 ⟨rfl,nv1,sv1,n1,S4,M4',hn1⟩
 have M4:=(Mvd.of_below q b nv sv (uZ HB3)).trans M4'
 have kf:=keepF_of_mvd ((uZ H2).below (uZ HB3)) M4'
 have HS4:Hid (w4.heap[G]?=some (.cells #[.int .i64 15,.string t,.int .i64 vk,.int .i64 vn,.string vs,.slice al ll cl,.slice ak lk ck,.bool f,.slice a m cc,.int .i64 p] 28 (0,0))∧w4.heap[xk]?=some (.cells #[.func (.func 45) #[] #[.pointer (some ⟨xn,0,none⟩)]] 44 (0,0))∧w4.heap[xt]?=some (.cells #[.map (some tb)] 40 (0,0))):=hZ ⟨kf _ _ _ (by decide) (by decide) (by decide) (uZ HS3).1,kf _ _ _ (by decide) (by decide) (by decide) (uZ HS3).2.1,kf _ _ _ (by decide) (by decide) (by decide) (uZ HS3).2.2⟩
 clear CPh M4' HS3 HB3 kf
 have r4:=keepF_of_mvd (uZ H2) M4 (G+1) _ _ (by decide) (by decide) (by decide) (uZ HN).2
 obtain⟨k0,k1⟩:=two_at r4
 have y0:=frozen_of_row w4 (G+1) 0 _ _ r4
 have y1:=frozen_of_row w4 (G+1) 1 _ _ r4
 have hne:∀(k:Nat) (c:Array Value) (T:TypeId),w4.heap[k]?=some (.cells c T (0,0))→T≠42→k≠G+1:=fun k c T hk hT e=>by
  rw [e,r4] at hk
  injection hk with hk
  injection hk with _ e2 _
  exact hT e2.symm
 have HNE:=hZ hne
 have HE:=hZ (And.intro (put2 r4 (.int .i64 f1) (.int .i64 f2)) (scm_fin S4 ((uZ HMw).trans M4) (uZ HGe) r4 (.int .i64 f1) (.int .i64 f2)))
 have HN1:=hZ hn1
 clear S4 M4 r4 hn1 hne
 unfold fltV
 go_wp2_with fail
 refine hK.out _ _ (Or.inr (uZ HS4)) ?_
 clear hK K
 try simp only [Act.put,sA,sB,sC]
 refine till_one 6 (by kernel_rfl) rfl (fun K hK=>?_)
 go_simp
 have hne:=uZ HNE
 refine hK.out _ _ (Or.inr ⟨by rw [heap_setCell_other _ ⟨G+1,1,none⟩ _ _ (hne _ _ _ (uZ HS4).1 (by decide)),heap_setCell_other _ ⟨G+1,0,none⟩ _ _ (hne _ _ _ (uZ HS4).1 (by decide))];exact(uZ HS4).1,by rw [heap_setCell_other _ ⟨G+1,1,none⟩ _ _ (hne _ _ _ (uZ HS4).2.1 (by decide)),heap_setCell_other _ ⟨G+1,0,none⟩ _ _ (hne _ _ _ (uZ HS4).2.1 (by decide))];exact(uZ HS4).2.1,by rw [heap_setCell_other _ ⟨G+1,1,none⟩ _ _ (hne _ _ _ (uZ HS4).2.2 (by decide)),heap_setCell_other _ ⟨G+1,0,none⟩ _ _ (hne _ _ _ (uZ HS4).2.2 (by decide))];exact(uZ HS4).2.2⟩) ?_
 clear hK K hne
 try simp only [Act.put,sA,sB,sC]
 refine till_done (by kernel_rfl) ?_ _
 go_wp2_with fail
 exact rtF (p:=6) rfl rfl (uZ HE).1 rfl ⟨rfl,_,_,_,(uZ HE).2.1,(uZ HE).2.2,uZ HN1⟩
theorem pairsF_any {w:World} {F:FuncId} {Bd cap:Array Value}:Calls Tryz.prog 57 #[.func (.func F) Bd cap] w fun e w'=>∃hb hc nc,e=.returned (.func (.func 93) #[] #[.pointer (some ⟨hc,0,none⟩),.pointer (some ⟨nc,0,none⟩)])∧w.heap.size≤hb∧Nms w' hb 0 (fun _=>none)∧w'.heap[hc]?=some (.cells #[.map (some hb)] 40 (0,0))∧w'.heap[nc]?=some (.cells #[.func (.func F) Bd cap] 45 (0,0))∧Below w.heap.size w w':=by
 obtain⟨G,hG⟩:=eX (w.heap.size)
 obtain⟨w2,hw2⟩:=eX (w.alloc (.cells #[.func (.func F) Bd cap] 45))
 have n2:w2.heap[G]?=some (.cells #[.func (.func F) Bd cap] 45 (0,0)):=alN hw2 hG
 have b2:=alB hw2
 obtain⟨g2,hg2⟩:=eX (w2.heap.size)
 obtain⟨w3,hw3⟩:=eX (w2.alloc (.map #[] 0))
 have hN:Nms w3 g2 0 (fun _=>none):=by rw [←hw3,←hg2];exact Nms.made w2
 have b3:=alB hw3
 obtain⟨g3,hg3⟩:=eX (w3.heap.size)
 obtain⟨w4,hw4⟩:=eX (w3.alloc (.cells #[.map (some g2)] 40))
 have n4:w4.heap[g3]?=some (.cells #[.map (some g2)] 40 (0,0)):=alN hw4 hg3
 have b4:=alB hw4
 have hN4:=hN.later (b4.block g2 hN.lt)
 have n24:=(b4.block G (Nat.lt_of_lt_of_le (ltR n2) b3.size)).trans ((b3.block G (ltR n2)).trans n2)
 have hb4:=(b2.trans (b3.mono b2.size)).trans (b4.mono (Nat.le_trans b2.size b3.size))
 have hg:w.heap.size≤g2:=by rw [←hg2];exact b2.size
 have H:=hZ (And.intro hN4 (And.intro n4 (And.intro n24 (And.intro hb4 hg))))
 have hmm:=@run_makeMap Tryz.prog
 go_enter Tryz.func57,Tryz.ntmps57
 go_upto_region 1 with fail
 try rw [hw2]
 try rw [hG]
 go_upto_region 2 with fail
 try rw [hg2]
 try rw [hw3]
 try rw [hg3]
 try rw [hw4]
 clear hw2 n2 b2 hG hw3 hN b3 hw4 n4 b4 hN4 n24 hb4 hg hg2 hg3
 go_wp2_with fail
 go_ret
 exact⟨g2,g3,G,rfl,(uZ H).2.2.2.2,(uZ H).1,(uZ H).2.1,(uZ H).2.2.1,(uZ H).2.2.2.1⟩
theorem ndj_any {w0:World} {lo q b B0:Nat} {nv0 sv0:Value} {mz:Tn→Nat} {ok:Tn→Sco→Prop} {g:Tn→Sco→Ft × Sco} {tb tn xs xk xn xt:Nat} {tk:List UInt8→Option Int} (hL:LookS w0 lo q b B0 nv0 sv0 mz ok g 46 #[] (ndCap xs xk xn xt))
  {vk vn p:Int} {t vs:ByteArray} {al ak a:Option Addr} {ll cl lk ck m cc:Nat} {f:Bool} {ns:List Tn} {w:World} {nv sv:Value} {n:Nat} {s:Sco} (hC:Cp w q tb tn xs xk xn xt tk) (hr:RowN w B0 ns a cc) (hn:ns.length=m) (hm:Mvd w0 w q b nv0 sv0 nv sv) (h:ScM w lo q b n nv sv s) (hB:B0≤lo) (hk:n+smM (mP mz) ns≤1099511627776) (hl:ns.length<1099511627776) (hkid:∀y∈ns,1≤y.ks.length∧y.t.size≤maxLen) (hok:∀(i:Nat) (y z:Tn),ns[i]?=some y→y.ks[0]?=some z→(∀j,j<i→(rP g [] ns s j).2=0)→ok z (stL (prO g) ns s i)) :
  Calls Tryz.prog 46 #[.agg #[.int .i64 19,.string t,.int .i64 vk,.int .i64 vn,.string vs,.slice al ll cl,.slice ak lk ck,.bool f,.slice a m cc,.int .i64 p],.pointer (some ⟨xs,0,none⟩),.pointer (some ⟨xk,0,none⟩),.pointer (some ⟨xn,0,none⟩),.pointer (some ⟨xt,0,none⟩)] w fun e w'=>e=.returned (fltV (prL g [] ns s).1)∧MvP w w' lo q b n (smM (mP mz) ns) nv sv (prL g [] ns s).2:=by
 obtain⟨⟨⟨f1,f2⟩,s1⟩,hR⟩:∃R,prL g [] ns s=R:=⟨_,rfl⟩
 rw [hR]
 have HRR:=hZ hR
 clear hR
 have hqw:=ltR h.hq
 obtain⟨w2,hw2,n2,r2,b2⟩:=bxs 19 vk vn p t vs al ak a ll cl lk ck m cc f w
 obtain⟨G,hG⟩:=eX (w.heap.size)
 have hBw:=Nat.le_trans hB h.hlo.2.2
 have HRW:=hZ (hr.later (b2.mono hBw))
 have HC2:=hZ (hC.below b2)
 have HM0:=hZ (hm.trans (Mvd.of_below q b nv sv b2))
 have HMw:=hZ (Mvd.of_below q b nv sv b2)
 rw [hG] at n2 r2
 have H2:=hZ (h.below b2)
 have HG2:=hZ (And.intro hG b2)
 have HGe:=hZ (And.intro hG (by rw [←hG];exact hqw:q<G))
 have HN:=hZ (And.intro n2 r2)
 have HL:=hZ hL
 have HLEN:=hZ hn
 go_enter Tryz.func46,Tryz.ntmps46
 go_upto_region 1 with fail
 try rw [hw2]
 try rw [hG]
 clear hw2 h b2 hG hL hr hn hm hC
 obtain⟨m0,m1,m2,m3,m4,m5,m6,m7,m8,m9⟩:=ten_at n2
 have x0:=one_at (uZ HC2).hs
 have x1:=one_at (uZ HC2).hk
 have x2:=one_at (uZ HC2).hn
 have x3:=one_at (uZ HC2).ht
 clear n2 r2
 go_upto_region 25 with fail
 have HS0:Hid (w2.drew.heap[G]?=some (.cells #[.int .i64 19,.string t,.int .i64 vk,.int .i64 vn,.string vs,.slice al ll cl,.slice ak lk ck,.bool f,.slice a m cc,.int .i64 p] 28 (0,0))∧w2.drew.heap[xn]?=some (.cells #[.func (.func 46) #[] (ndCap xs xk xn xt)] 45 (0,0))):=hZ ⟨(uZ HN).1,(uZ HC2).hn⟩
 clear m0 m1 m2 m3 m4 m5 m6 m7 m8 m9 x0 x1 x2 x3
 have HB0:Hid (Below w2.heap.size w2 w2.drew):=hZ ((Below.refl _ _).drew)
 refine till_begin (S:=fun u=>u.heap[G]?=some (.cells #[.int .i64 19,.string t,.int .i64 vk,.int .i64 vn,.string vs,.slice al ll cl,.slice ak lk ck,.bool f,.slice a m cc,.int .i64 p] 28 (0,0))∧u.heap[xn]?=some (.cells #[.func (.func 46) #[] (ndCap xs xk xn xt)] 45 (0,0))) 99 (by kernel_rfl) ?_
 obtain⟨W0,hW0⟩:=eX (w2.drew)
 try rw [hW0]
 rw [hW0] at HS0 HB0
 clear hW0
 refine till_takeN 0 (v:=.pointer (some ⟨G,8,none⟩)) (some 86) rfl rfl rfl (by kernel_rfl) (by kernel_rfl) (by kernel_rfl) (fun _ _ _ h=>h) (Or.inl ⟨by rfl,fun u hu=>by obtain⟨hu1,hu2⟩:=hu;obtain⟨m0,m1,m2,m3,m4,m5,m6,m7,m8,m9⟩:=ten_at hu1;have x2:=one_at hu2;go_simp⟩) (uZ HS0) ?_
 try simp only [Act.put,sA,sB,sC]
 refine till_takeN 1 (v:=.slice a m cc) (some 87) rfl rfl rfl (by kernel_rfl) (by kernel_rfl) (by kernel_rfl) (fun _ _ _ h=>h) (Or.inl ⟨by rfl,fun u hu=>by obtain⟨hu1,hu2⟩:=hu;obtain⟨m0,m1,m2,m3,m4,m5,m6,m7,m8,m9⟩:=ten_at hu1;have x2:=one_at hu2;go_simp⟩) (uZ HS0) ?_
 try simp only [Act.put,sA,sB,sC]
 refine till_takeN 2 (v:=.func (.func 46) #[] (ndCap xs xk xn xt)) (some 88) rfl rfl rfl (by kernel_rfl) (by kernel_rfl) (by kernel_rfl) (fun _ _ _ h=>h) (Or.inl ⟨by rfl,fun u hu=>by obtain⟨hu1,hu2⟩:=hu;obtain⟨m0,m1,m2,m3,m4,m5,m6,m7,m8,m9⟩:=ten_at hu1;have x2:=one_at hu2;go_simp⟩) (uZ HS0) ?_
 try simp only [Act.put,sA,sB,sC]
 have C1:=hZ (pairsF_any (w:=W0) (F:=46) (Bd:=#[]) (cap:=ndCap xs xk xn xt))
 refine till_one 3 (by kernel_rfl) rfl (fun K hK=>?_)
 go_simp
 refine(uZ C1).mono ?_
 rintro e W1 ⟨hb,hc,nc,rfl,hbA,hH,hcc,hcn,bx1⟩
 have hS2:=uZ HB0
 have hS1:=hS2.trans (bx1.mono hS2.size)
 have CP:=pairs_any (uZ HL) (fun x u=>rfl) (uZ HM0) (uZ H2) (uZ HRW) (uZ HLEN) hk hB hS1 hH (Nat.le_trans hS2.size hbA) hcc hcn hl hkid hok
 rw [uZ HRR] at CP
 have CPh:=hZ CP
 have HS3:Hid (W1.heap[G]?=some (.cells #[.int .i64 19,.string t,.int .i64 vk,.int .i64 vn,.string vs,.slice al ll cl,.slice ak lk ck,.bool f,.slice a m cc,.int .i64 p] 28 (0,0))∧W1.heap[xn]?=some (.cells #[.func (.func 46) #[] (ndCap xs xk xn xt)] 45 (0,0))):=hZ ⟨(bx1.block _ (ltR (uZ HS0).1)).trans (uZ HS0).1,(bx1.block _ (ltR (uZ HS0).2)).trans (uZ HS0).2⟩
 clear CP C1 bx1 hbA hH hcc hcn hS2 hS1 HS0 HB0
 go_wp2_with fail
 refine hK.out _ _ (Or.inr (uZ HS3)) ?_
 clear hK K
 try simp only [Act.put,sA,sB,sC]
 refine till_one 4 (by kernel_rfl) rfl (fun K hK=>?_)
 go_simp
 refine(uZ CPh).mono ?_
 rintro e w4 ⟨rfl,nv1,sv1,n1,S4,M4,hn1⟩
 have kf:=keepF_of_mvd (uZ H2) M4
 have HS4:Hid (w4.heap[G]?=some (.cells #[.int .i64 19,.string t,.int .i64 vk,.int .i64 vn,.string vs,.slice al ll cl,.slice ak lk ck,.bool f,.slice a m cc,.int .i64 p] 28 (0,0))∧w4.heap[xn]?=some (.cells #[.func (.func 46) #[] (ndCap xs xk xn xt)] 45 (0,0))):=hZ ⟨kf _ _ _ (by decide) (by decide) (by decide) (uZ HN).1,kf _ _ _ (by decide) (by decide) (by decide) (uZ HC2).hn⟩
 clear CPh HS3 kf
 have r4:=keepF_of_mvd (uZ H2) M4 (G+1) _ _ (by decide) (by decide) (by decide) (uZ HN).2
 obtain⟨k0,k1⟩:=two_at r4
 have y0:=frozen_of_row w4 (G+1) 0 _ _ r4
 have y1:=frozen_of_row w4 (G+1) 1 _ _ r4
 have hne:∀(k:Nat) (c:Array Value) (T:TypeId),w4.heap[k]?=some (.cells c T (0,0))→T≠42→k≠G+1:=fun k c T hk hT e=>by
  rw [e,r4] at hk
  injection hk with hk
  injection hk with _ e2 _
  exact hT e2.symm
 have HNE:=hZ hne
 have HE:=hZ (And.intro (put2 r4 (.int .i64 f1) (.int .i64 f2)) (scm_fin S4 ((uZ HMw).trans M4) (uZ HGe) r4 (.int .i64 f1) (.int .i64 f2)))
 have HN1:=hZ hn1
 clear S4 M4 r4 hn1 hne
 unfold fltV
 go_wp2_with fail
 refine hK.out _ _ (Or.inr (uZ HS4)) ?_
 clear hK K
 try simp only [Act.put,sA,sB,sC]
 refine till_one 5 (by kernel_rfl) rfl (fun K hK=>?_)
 go_simp
 have hne:=uZ HNE
 refine hK.out _ _ (Or.inr ⟨by rw [heap_setCell_other _ ⟨G+1,1,none⟩ _ _ (hne _ _ _ (uZ HS4).1 (by decide)),heap_setCell_other _ ⟨G+1,0,none⟩ _ _ (hne _ _ _ (uZ HS4).1 (by decide))];exact(uZ HS4).1,by rw [heap_setCell_other _ ⟨G+1,1,none⟩ _ _ (hne _ _ _ (uZ HS4).2 (by decide)),heap_setCell_other _ ⟨G+1,0,none⟩ _ _ (hne _ _ _ (uZ HS4).2 (by decide))];exact(uZ HS4).2⟩) ?_
 clear hK K hne
 try simp only [Act.put,sA,sB,sC]
 refine till_done (by kernel_rfl) ?_ _
 go_wp2_with fail
 exact rtF (p:=6) rfl rfl (uZ HE).1 rfl ⟨rfl,_,_,_,(uZ HE).2.1,(uZ HE).2.2,uZ HN1⟩
end Go.Proofs.YtjdpaihhhjdgmaaGreatDoor
