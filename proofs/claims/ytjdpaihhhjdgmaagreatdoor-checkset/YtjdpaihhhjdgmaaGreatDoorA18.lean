/-
  Layer 19 (check): what its kids say alone (nodes$2); conditions: the nodes lie in memory, how many names there are.
  Layer 19 (check): nodes$2 of any node that has its form; conditions: the nodes lie in memory, how deep they are, how many names there are.
  Layer 19 (check): nodes: the looks of one body; conditions: none.
  Layer 18 (print): do a condition and a Block stand first; conditions: the nodes lie in memory.
  Layer 18 (print): a node's kids are as its kind says; conditions: the nodes lie in memory.
  Layer 19 (check): one Fn from inside (bodies$1); conditions: the nodes lie in memory, how deep they are, how many names there are.
-/
import Derived.Test.YtjdpaihhhjdgmaaGreatDoorA15
import Derived.Test.YtjdpaihhhjdgmaaGreatDoorA16
import Derived.Test.YtjdpaihhhjdgmaaGreatDoorA17
import Derived.Test.YtjdpaihhhjdgmaaGreatDoorA14
set_option linter.unusedVariables false
set_option linter.unusedSimpArgs false
set_option maxRecDepth 100000
set_option maxHeartbeats 8000000
namespace Go.Proofs.YtjdpaihhhjdgmaaGreatDoor
open Go.RowKit
set_option linter.unusedVariables false
set_option linter.unusedSimpArgs false
theorem ndz_any {w0:World} {lo q b B0:Nat} {nv0 sv0:Value} {mz:Tn→Nat} {ok:Tn→Sco→Prop} {g:Tn→Sco→Ft × Sco} {tb tn xs xk xn xt:Nat} {tk:List UInt8→Option Int} (hL:LookS w0 lo q b B0 nv0 sv0 mz ok g 46 #[] (ndCap xs xk xn xt))
  {k vk vn p:Int} {t vs:ByteArray} {al ak a:Option Addr} {ll cl lk ck m cc:Nat} {f:Bool} {ns:List Tn} {w:World} {nv sv:Value} {n:Nat} {s:Sco} (hC:Cp w q tb tn xs xk xn xt tk) (hr:RowN w B0 ns a cc) (hn:ns.length=m) (hm:Mvd w0 w q b nv0 sv0 nv sv) (h:ScM w lo q b n nv sv s) (hB:B0≤lo) (hkd:¬k=4∧¬k=5∧¬k=6∧¬k=7∧¬k=8∧¬k=9∧¬k=10∧¬k=11∧¬k=14∧¬k=15∧¬k=19) (hk:n+smM mz ns≤1099511627776) (hok:∀(i:Nat) (y:Tn),ns[i]?=some y→(∀j,j<i→(rL g ns s j).2=0)→ok y (stL g ns s i)) :
  Calls Tryz.prog 46 #[.agg #[.int .i64 k,.string t,.int .i64 vk,.int .i64 vn,.string vs,.slice al ll cl,.slice ak lk ck,.bool f,.slice a m cc,.int .i64 p],.pointer (some ⟨xs,0,none⟩),.pointer (some ⟨xk,0,none⟩),.pointer (some ⟨xn,0,none⟩),.pointer (some ⟨xt,0,none⟩)] w fun e w'=>e=.returned (fltV (ckL g ns s).1)∧MvP w w' lo q b n (smM mz ns) nv sv (ckL g ns s).2:=by
 obtain⟨⟨⟨f1,f2⟩,s1⟩,hR⟩:∃R,ckL g ns s=R:=⟨_,rfl⟩
 rw [hR]
 have HRR:=hZ hR
 clear hR
 have hqw:=ltR h.hq
 obtain⟨w2,hw2,n2,r2,b2⟩:=bxs k vk vn p t vs al ak a ll cl lk ck m cc f w
 obtain⟨G,hG⟩:=eX (w.heap.size)
 have hBw:=Nat.le_trans hB h.hlo.2.2
 have HRW:=hZ (hr.later (b2.mono hBw))
 have HC2:=hZ (hC.below b2)
 have HM0:=hZ (hm.trans (Mvd.of_below q b nv sv b2))
 have HMw:=hZ (Mvd.of_below q b nv sv b2)
 rw [hG] at n2 r2
 have H2:=hZ (h.below b2)
 have HG2:=hZ (And.intro hG b2)
 have HGe:=hZ (And.intro hG (by rw [←hG];exact hqw:q<G))
 have HN:=hZ (And.intro n2 r2)
 have HL:=hZ hL
 have HF1:Hid (∀(x:Array Value) (u:World),Sem.run Tryz.prog (callFunc 45 x) u=.ok (.enter 45 x) u):=hZ (fun x u=>rfl)
 have HLEN:=hZ hn
 have j4:=hkd.1
 have i4:(k == 4)=false:=by simpa using j4
 have j5:=hkd.2.1
 have i5:(k == 5)=false:=by simpa using j5
 have j6:=hkd.2.2.1
 have i6:(k == 6)=false:=by simpa using j6
 have j7:=hkd.2.2.2.1
 have i7:(k == 7)=false:=by simpa using j7
 have j8:=hkd.2.2.2.2.1
 have i8:(k == 8)=false:=by simpa using j8
 have j9:=hkd.2.2.2.2.2.1
 have i9:(k == 9)=false:=by simpa using j9
 have j10:=hkd.2.2.2.2.2.2.1
 have i10:(k == 10)=false:=by simpa using j10
 have j11:=hkd.2.2.2.2.2.2.2.1
 have i11:(k == 11)=false:=by simpa using j11
 have j14:=hkd.2.2.2.2.2.2.2.2.1
 have i14:(k == 14)=false:=by simpa using j14
 have j15:=hkd.2.2.2.2.2.2.2.2.2.1
 have i15:(k == 15)=false:=by simpa using j15
 have j19:=hkd.2.2.2.2.2.2.2.2.2.2
 have i19:(k == 19)=false:=by simpa using j19
 go_enter Tryz.func46,Tryz.ntmps46
 go_upto_region 1 with fail
 try rw [hw2]
 try rw [hG]
 clear hw2 h b2 hG hL hr hn hm hC
 obtain⟨m0,m1,m2,m3,m4,m5,m6,m7,m8,m9⟩:=ten_at n2
 have x0:=one_at (uZ HC2).hs
 have x1:=one_at (uZ HC2).hk
 have x2:=one_at (uZ HC2).hn
 have x3:=one_at (uZ HC2).ht
 clear n2 r2
 go_upto_region 26 with fail
 have hL0:=uZ HL
 have hBw2:B0≤w2.heap.size:=Nat.le_trans hB (uZ H2).hlo.2.2
 have CP:=hZ (kids_any hL0 (fun x u=>rfl) (k:=k) (vk:=vk) (vn:=vn) (p:=p) (t:=t) (vs:=vs) (al:=al) (ak:=ak) (ll:=ll) (cl:=cl) (lk:=lk) (ck:=ck) (f:=f) ((uZ HC2).hn) (uZ HRW) (uZ HLEN) (uZ HM0) (uZ H2) hk hB hok)
 rw [uZ HRR] at CP
 clear hL0
 go_wp2_with (rw [uZ HF1])
 refine(uZ CP).mono ?_
 rintro e w4 ⟨rfl,nv1,sv1,n1,S4,M4,hn1⟩
 clear CP m0 m1 m2 m3 m4 m5 m6 m7 m8 m9 x0 x1 x2 x3
 have r4:=keepF_of_mvd (uZ H2) M4 (G+1) _ _ (by decide) (by decide) (by decide) (uZ HN).2
 obtain⟨k0,k1⟩:=two_at r4
 have y0:=frozen_of_row w4 (G+1) 0 _ _ r4
 have y1:=frozen_of_row w4 (G+1) 1 _ _ r4
 have HE:=hZ (And.intro (put2 r4 (.int .i64 f1) (.int .i64 f2)) (scm_fin S4 ((uZ HMw).trans M4) (uZ HGe) r4 (.int .i64 f1) (.int .i64 f2)))
 have HN1:=hZ hn1
 clear S4 M4 r4 hn1
 unfold fltV
 go_wp2_with fail
 exact rtF (p:=6) rfl rfl (uZ HE).1 rfl ⟨rfl,_,_,_,(uZ HE).2.1,(uZ HE).2.2,uZ HN1⟩
def okK (d:Nat) (y:Tn) (s:Sco):Prop:=fmK d y∧Wf s∧0≤s.loops∧s.loops+(d:Int)≤1099511627776
theorem stL_gd {g:Tn→Sco→Ft × Sco}:∀(l:List Tn) (s:Sco) (i:Nat),(∀y∈l,∀s,Gd s (g y s).2)→Gd s (stL g l s i)
 |[],s,0,_=>Gd.refl s
 |[],s,i+1,_=>Gd.refl s
 |y :: r,s,0,_=>Gd.refl s
 |y :: r,s,i+1,h=>(h y (by simp) s).trans (stL_gd r (g y s).2 i (fun z hz=>h z (by simp [hz])))
theorem okK.gd {d d':Nat} {y z:Tn} {s s':Sco} (h:okK (d+1) y s) (hz:fmK d z) (hg:Gd s s'):okK d z s':=⟨hz,hg.wf h.2.1,by rw [hg.lps];exact h.2.2.1,by
 rw [hg.lps]
 have:=h.2.2.2
 omega⟩
theorem smM_two (m:Tn→Nat) (y0 y1:Tn) (r:List Tn):smM m (y0 :: y1 :: r)=m y0+m y1+smM m r:=by simp [smM,Nat.add_assoc]
theorem prO_ge {g:Tn→Sco→Ft × Sco} {y:Tn} (h:∀z∈y.ks,∀s,Ge s (g z s).2) (s:Sco):Ge s (prO g y s).2:=by
 unfold prO
 cases hq:y.ks with
 |nil=>exact Ge.refl s
 |cons z r=>exact h z (by simp [hq]) s
theorem node_look {w0:World} {lo q b B0 n0:Nat} {nv0 sv0:Value} {s0:Sco} {tb tn xs xk xn xt:Nat} {tk:List UInt8→Option Int} (hC:Cp w0 q tb tn xs xk xn xt tk) (h0:ScM w0 lo q b n0 nv0 sv0 s0) (htb:tb≠b) (hg:0<lo) (hB:B0≤lo) :
  ∀d,LookS w0 lo q b B0 nv0 sv0 (mK d) (okK d) (ckN tk biF d) 46 #[] (ndCap xs xk xn xt)
 |0=>fun u nv sv n s y x hm hs hk hok hx=>hok.1.elim
 |d+1=>fun u nv sv n s y x hm hs hk hok hx=>by
  have ih:=node_look hC h0 htb hg hB d
  have hCu:=hC.mvd h0 hm htb hg
  obtain⟨vk,vn,vs,al,ak,a,ll,cl,lk,ck,cc,rfl,_,hrow,_,_⟩:=hx.opn
  have hok':=hok
  obtain⟨hf,hw,hl0,hld⟩:=hok
  obtain⟨f0,f1,f2,f3,f4,f5⟩:=hf
  have ht:y.t.size≤maxLen:=Nat.le_trans f0 (by unfold maxLen;omega)
  have gd:∀z∈y.ks,∀s,Gd s (ckN tk biF d z s).2:=fun z hz s=>(node_gd tk biF d z s (f2 z hz)).1
  have ge:y.k≠4→∀z∈y.ks,∀s,Ge s (ckN tk biF d z s).2:=fun h4 z hz s=>(node_gd tk biF d z s (f2 z hz)).2 (f1 z hz h4)
  have kok:∀(i:Nat) (z:Tn),y.ks[i]?=some z→(∀j,j<i→(rL (ckN tk biF d) y.ks s j).2=0)→okK d z (stL (ckN tk biF d) y.ks s i):=fun i z hz _=>hok'.gd (d':=d) (f2 z (List.mem_of_getElem? hz)) (stL_gd y.ks s i gd)
  have kg:Gd s (ckL (ckN tk biF d) y.ks s).2:=ckL_gd _ _ gd
  show Calls Tryz.prog 46 #[.agg #[.int .i64 y.k,.string y.t,.int .i64 vk,.int .i64 vn,.string vs,.slice al ll cl,.slice ak lk ck,.bool y.f,.slice a y.ks.length cc,.int .i64 y.p],.pointer (some ⟨xs,0,none⟩),.pointer (some ⟨xk,0,none⟩),.pointer (some ⟨xn,0,none⟩),.pointer (some ⟨xt,0,none⟩)] u fun e w'=>e=.returned (fltV (nodS tk biF (ckN tk biF d) y s).1)∧MvP u w' lo q b n (mK (d+1) y) nv sv (nodS tk biF (ckN tk biF d) y s).2
  have hmk:mK (d+1) y=(if y.k=5 then 1 else 0)+(if y.k=19 then smM (mP (mK d)) y.ks else smM (mK d) y.ks):=rfl
  have m19:y.k=19→mK (d+1) y=smM (mP (mK d)) y.ks:=fun e=>by rw [hmk,if_neg (by omega),if_pos e,Nat.zero_add]
  have m5:y.k=5→mK (d+1) y=smM (mK d) y.ks+1:=fun e=>by rw [hmk,if_pos e,if_neg (by omega),Nat.add_comm]
  have mo:y.k≠5→y.k≠19→mK (d+1) y=smM (mK d) y.ks:=fun e e'=>by rw [hmk,if_neg e,if_neg e',Nat.zero_add]
  clear hmk
  unfold nodS
  by_cases c4:y.k=4
  ·rw [mo (by omega) (by omega)] at hk ⊢
   rw [if_pos c4,c4]
   obtain⟨l,hl⟩:=kg.ext
   have hw2:=kg.wf hw
   exact nd4_any ih (f:=y.f) hCu hrow rfl hm hs hB hk (by rw [hl];simp) hw2.nd (fun l hl=>Nat.le_trans (hw2.sz l hl) (by unfold maxLen;omega)) kok
  rw [if_neg c4]
  have ke:=ge c4
  have kl:∀s,Ge s (ckL (ckN tk biF d) y.ks s).2:=fun s=>ckL_ge _ _ ke
  by_cases c5:y.k=5
  ·rw [m5 c5] at hk ⊢
   rw [if_pos c5,c5]
   exact nd5_any ih (f:=y.f) hCu hrow rfl hm hs hB ht hk kok
  rw [if_neg c5]
  by_cases c19:y.k=19
  ·rw [m19 c19] at hk ⊢
   rw [if_neg (by omega),if_neg (by omega),if_neg (by omega),if_neg (by omega),if_neg (by omega),if_neg (by omega),if_neg (by omega),if_pos c19,c19]
   refine ndj_any ih (f:=y.f) hCu hrow rfl hm hs hB hk f5 (fun z hz=>⟨(f3 z hz c19).1.1,Nat.le_trans (f3 z hz c19).1.2 (by unfold maxLen;omega)⟩) (fun i z x hz hx _=>?_)
   have hgd:Gd s (stL (prO (ckN tk biF d)) y.ks s i):=stL_gd y.ks s i (fun a ha s=>(prO_ge (fun b hb s=>(node_gd tk biF d b s ((f3 a ha c19).2 b hb).2).2 ((f3 a ha c19).2 b hb).1) s).gd)
   exact hok'.gd (d':=d) ((f3 z (List.mem_of_getElem? hz) c19).2 x (List.mem_of_getElem? hx)).2 hgd
  rw [mo c5 c19] at hk ⊢
  by_cases c6:y.k=6
  ·rw [if_pos c6,c6]
   exact nd6_any ih (f:=y.f) hCu hrow rfl hm hs hB ht (by omega) kok
  rw [if_neg c6]
  by_cases c7:y.k=7
  ·rw [if_pos c7,c7]
   have hlen:=f4 (Or.inl c7)
   obtain⟨y0,y1,r,hks⟩:∃y0 y1 r,y.ks=y0 :: y1 :: r:=by
    rcases hq:y.ks with _|⟨y0,_|⟨y1,r⟩⟩
    ·rw [hq] at hlen;simp at hlen
    ·rw [hq] at hlen;simp at hlen
    ·exact⟨_,_,_,rfl⟩
   rw [hks] at hk hrow ke ⊢
   dsimp only
   obtain⟨b1,_,rfl,_⟩:=hrow.at (i:=0) (y:=y0) rfl
   have g0:=ke y0 (by simp)
   have g1:=ke y1 (by simp)
   have gr:∀z∈r,∀s,Ge s (ckN tk biF d z s).2:=fun z hz=>ke z (by simp [hz])
   have p0:fmK d y0:=f2 y0 (by rw [hks];simp)
   have p1:fmK d y1:=f2 y1 (by rw [hks];simp)
   rw [smM_two] at hk ⊢
   refine nd7_any ih (f:=y.f) hCu hrow rfl hm hs hB (y0:=y0) (y1:=y1) rfl rfl (rest:=r) rfl (by omega) (hok'.gd (d':=d) p0 (Gd.refl s)) (fun _=>hok'.gd (d':=d) p1 (g0 s).gd) (fun _=>?_)
   have e1:=(g1 (ckN tk biF d y0 s).2).eq
   have hw1:=(g0 s).wf hw
   have hw2:=(g1 (ckN tk biF d y0 s).2).wf hw1
   have hw3:Wf ({ (ckN tk biF d y1 (ckN tk biF d y0 s).2).2 with set:=(ckN tk biF d y0 s).2.set,all:=(ckN tk biF d y0 s).2.all }:Sco):=⟨by show (ckN tk biF d y0 s).2.set.length=(ckN tk biF d y1 (ckN tk biF d y0 s).2).2.vars.length;rw [e1];exact hw1.len,hw2.nd,hw2.sz⟩
   have hlp:(ckN tk biF d y1 (ckN tk biF d y0 s).2).2.loops=s.loops:=((g1 (ckN tk biF d y0 s).2).lps).trans (g0 s).lps
   refine⟨congrArg List.length e1,fun _=>⟨fun i z hz _=>?_,?_⟩⟩
   ·have hgd:=stL_gd r ({ (ckN tk biF d y1 (ckN tk biF d y0 s).2).2 with set:=(ckN tk biF d y0 s).2.set,all:=(ckN tk biF d y0 s).2.all }:Sco) i (fun z hz s=>(gr z hz s).gd)
    exact⟨f2 z (by rw [hks];simp [List.mem_of_getElem? hz]),hgd.wf hw3,by rw [hgd.lps];show 0≤(ckN tk biF d y1 (ckN tk biF d y0 s).2).2.loops;omega,by rw [hgd.lps];show (ckN tk biF d y1 (ckN tk biF d y0 s).2).2.loops+_≤_;omega⟩
   ·have hc:=(ckL_ge r ({ (ckN tk biF d y1 (ckN tk biF d y0 s).2).2 with set:=(ckN tk biF d y0 s).2.set,all:=(ckN tk biF d y0 s).2.all }:Sco) gr).eq
    exact(congrArg List.length hc).trans (congrArg List.length e1)
  rw [if_neg c7]
  by_cases c8:y.k=8
  ·rw [if_pos c8,c8]
   have hlen:=f4 (Or.inr c8)
   obtain⟨y0,y1,r,hks⟩:∃y0 y1 r,y.ks=y0 :: y1 :: r:=by
    rcases hq:y.ks with _|⟨y0,_|⟨y1,r⟩⟩
    ·rw [hq] at hlen;simp at hlen
    ·rw [hq] at hlen;simp at hlen
    ·exact⟨_,_,_,rfl⟩
   rw [hks] at hk hrow ke ⊢
   dsimp only
   obtain⟨b1,_,rfl,_⟩:=hrow.at (i:=0) (y:=y0) rfl
   have g0:=ke y0 (by simp)
   have g1:=ke y1 (by simp)
   have p0:fmK d y0:=f2 y0 (by rw [hks];simp)
   have p1:fmK d y1:=f2 y1 (by rw [hks];simp)
   rw [smM_two] at hk ⊢
   have l0:=(g0 s).lps
   have gi:=g1 { (ckN tk biF d y0 s).2 with loops:=(ckN tk biF d y0 s).2.loops+1 }
   refine(nd8_any ih (f:=y.f) hCu hrow rfl hm hs hB (y0:=y0) (y1:=y1) rfl rfl (by omega) (hok'.gd (d':=d) p0 (Gd.refl s)) (fun _=>⟨p1,?_,?_,?_⟩) (fun _=>⟨by omega,by omega,gi.lps,congrArg List.length gi.eq⟩)).mono (fun e w' h=>⟨h.1,h.2.more (by omega)⟩)
   ·have h1:=(g0 s).wf hw
    exact⟨h1.len,h1.nd,h1.sz⟩
   ·show 0≤(ckN tk biF d y0 s).2.loops+1
    omega
   ·show (ckN tk biF d y0 s).2.loops+1+_≤_
    omega
  rw [if_neg c8]
  by_cases c9:y.k=9
  ·rw [if_pos c9,c9]
   exact nd9_any ih (f:=y.f) hCu hrow rfl hm hs hB (by omega) kok
  rw [if_neg c9]
  by_cases ca:y.k=10∨y.k=11
  ·rw [if_pos ca]
   rcases ca with ca|ca
   ·rw [ca]
    exact(nda_any ih (f:=y.f) hCu hrow rfl hm hs hB).mono (fun e w' h=>⟨h.1,h.2.more (by omega)⟩)
   ·rw [ca]
    exact(ndb_any ih (f:=y.f) hCu hrow rfl hm hs hB).mono (fun e w' h=>⟨h.1,h.2.more (by omega)⟩)
  rw [if_neg ca]
  by_cases cb:y.k=14
  ·rw [if_pos cb,cb]
   exact(nde_any ih (f:=y.f) hCu hrow rfl hm hs hB ht).mono (fun e w' h=>⟨h.1,h.2.more (by omega)⟩)
  rw [if_neg cb]
  by_cases cf:y.k=15
  ·rw [if_pos cf,cf]
   exact(ndf_any ih (f:=y.f) hCu hrow rfl hm hs hB ht (by omega) kok).mono (fun e w' h=>⟨h.1,h.2.more (by omega)⟩)
  rw [if_neg cf,if_neg c19]
  exact ndz_any ih (f:=y.f) hCu hrow rfl hm hs hB ⟨c4,c5,c6,c7,c8,c9,fun e=>ca (Or.inl e),fun e=>ca (Or.inr e),cb,cf,c19⟩ hk kok
theorem nodesF_any {w:World} {q tb tn:Nat} {tk:List UInt8→Option Int} (hT:Tab w) (hm:Nms w tb tn tk):Calls Tryz.prog 27 #[.pointer (some ⟨q,0,none⟩),.map (some tb)] w fun e w'=>∃xs xk xn xt,e=.returned (.func (.func 46) #[] (ndCap xs xk xn xt))∧Cp w' q tb tn xs xk xn xt tk∧Below w.heap.size w w':=by
 obtain⟨xs,hxs⟩:=eX (w.heap.size)
 obtain⟨w1,hw1⟩:=eX (w.alloc (.cells #[.pointer (some ⟨q,0,none⟩)] 56))
 have nxs:w1.heap[xs]?=some (.cells #[.pointer (some ⟨q,0,none⟩)] 56 (0,0)):=alN hw1 hxs
 have bxs:=alB hw1
 obtain⟨xt,hxt⟩:=eX (w1.heap.size)
 obtain⟨w2,hw2⟩:=eX (w1.alloc (.cells #[.map (some tb)] 40))
 have nxt:w2.heap[xt]?=some (.cells #[.map (some tb)] 40 (0,0)):=alN hw2 hxt
 have bxt:=alB hw2
 obtain⟨xn,hxn⟩:=eX (w2.heap.size)
 obtain⟨w3,hw3⟩:=eX (w2.alloc (.cells #[.nilFunc] 45))
 have nxn:w3.heap[xn]?=some (.cells #[.nilFunc] 45 (0,0)):=alN hw3 hxn
 have bxn:=alB hw3
 obtain⟨xk,hxk⟩:=eX (w3.heap.size)
 obtain⟨w4,hw4⟩:=eX (w3.alloc (.cells #[.func (.func 45) #[] #[.pointer (some ⟨xn,0,none⟩)]] 44))
 have nxk:w4.heap[xk]?=some (.cells #[.func (.func 45) #[] #[.pointer (some ⟨xn,0,none⟩)]] 44 (0,0)):=alN hw4 hxk
 have bxk:=alB hw4
 have s1:w1.heap.size=xs+1:=by rw [←hw1,←hxs];simp
 have s2:w2.heap.size=xt+1:=by rw [←hw2,←hxt];simp
 have s3:w3.heap.size=xn+1:=by rw [←hw3,←hxn];simp
 have s4:w4.heap.size=xk+1:=by rw [←hw4,←hxk];simp
 have m34:=(bxk.block xn (ltR nxn)).trans nxn
 have mt:=(bxk.block xt (by omega)).trans ((bxn.block xt (ltR nxt)).trans nxt)
 have ms:=(bxk.block xs (by omega)).trans ((bxn.block xs (by omega)).trans ((bxt.block xs (ltR nxs)).trans nxs))
 have b4:Below w.heap.size w w4:=((bxs.trans (bxt.mono bxs.size)).trans (bxn.mono (by omega))).trans (bxk.mono (by omega))
 have hT4:=hT.below b4
 have hm4:=hm.later (b4.block tb hm.lt)
 have y0:=frozen_of_row w4 xn 0 _ _ m34
 have x0:=one_at m34
 have hC:Hid (Cp (w4.setCell ⟨xn,0,none⟩ (.func (.func 46) #[] (ndCap xs xk xn xt))) q tb tn xs xk xn xt tk∧Below w.heap.size w (w4.setCell ⟨xn,0,none⟩ (.func (.func 46) #[] (ndCap xs xk xn xt)))):=hZ ⟨⟨(heap_setCell_other w4 ⟨xn,0,none⟩ xs _ (by show xs≠xn;omega)).trans ms,(heap_setCell_other w4 ⟨xn,0,none⟩ xk _ (by show xk≠xn;omega)).trans nxk,heap_setCell_same w4 xn 0 _ _ _ m34,(heap_setCell_other w4 ⟨xn,0,none⟩ xt _ (by show xt≠xn;omega)).trans mt,hm4.later (heap_setCell_other w4 ⟨xn,0,none⟩ tb _ (map_ne hm4 m34)),(hT.later (b4.setCell (p:=⟨xn,0,none⟩) (by show w.heap.size≤xn;omega) _) hT.big (Nat.le_trans b4.size (by simp)))⟩,b4.setCell (p:=⟨xn,0,none⟩) (by show w.heap.size≤xn;omega) _⟩
 go_enter Tryz.func27,Tryz.ntmps27
 go_upto_region 1 with fail
 try rw [hxs]
 try rw [hw1]
 try rw [hxt]
 try rw [hw2]
 go_upto_region 2 with fail
 try rw [hxn]
 try rw [hw3]
 go_upto_region 3 with fail
 try rw [hxk]
 try rw [hw4]
 clear hxs hw1 hxt hw2 hxn hw3 hxk hw4 nxs nxt nxn nxk bxs bxt bxn bxk s1 s2 s3 s4 mt ms b4 hT4 hm4 hT hm m34
 go_upto_region 4 with fail
 have hC5:=hC
 have e5:w4.setCell ⟨xn,0,none⟩ (.func (.func 46) #[] #[.pointer (some ⟨xs,0,none⟩),.pointer (some ⟨xk,0,none⟩),.pointer (some ⟨xn,0,none⟩),.pointer (some ⟨xt,0,none⟩)])=w4.setCell ⟨xn,0,none⟩ (.func (.func 46) #[] (ndCap xs xk xn xt)):=rfl
 try rw [e5]
 obtain⟨w5,hw5⟩:=eX (w4.setCell ⟨xn,0,none⟩ (.func (.func 46) #[] (ndCap xs xk xn xt)))
 try rw [hw5]
 rw [hw5] at hC5
 clear hC e5 hw5 x0 y0
 have x5:=one_at (uZ hC5).1.hn
 go_wp2_with fail
 go_ret
 exact⟨xs,xk,xn,xt,rfl,(uZ hC5).1,(uZ hC5).2⟩
theorem RowN.ten {w:World} {B0:Nat} {ns:List Tn} {a:Option Addr} {cc:Nat} (h:RowN w B0 ns a cc) {i:Nat} {y:Tn} (hi:ns[i]?=some y):∃(b:Addr) (vk vn:Int) (vs:ByteArray) (al ak ya:Option Addr) (ll cl lk ck yn yc:Nat),a=some b∧ns.length≤cc∧b.block<B0∧y.ks.length=yn∧IsN w (fun b=>b<B0) y [.int .i64 y.k,.string y.t,.int .i64 vk,.int .i64 vn,.string vs,.slice al ll cl,.slice ak lk ck,.bool y.f,.slice ya yn yc,.int .i64 y.p]∧∀j v,([.int .i64 y.k,.string y.t,.int .i64 vk,.int .i64 vn,.string vs,.slice al ll cl,.slice ak lk ck,.bool y.f,.slice ya yn yc,.int .i64 y.p]:List Value)[j]?=some v→w.cell? ((b.add (i * 10)).add j)=some v:=by
 have hB:∀b,a=some b→b.block<B0:=by
  intro b hb
  obtain⟨C,hf,_⟩:=h
  exact(hf.hl b hb i (List.getElem?_eq_some_iff.1 hi).1).1
 obtain⟨b,z,rfl,hc,hz,hcell⟩:=h.at hi
 obtain⟨vk,vn,vs,al,ak,ya,ll,cl,lk,ck,yc,rfl,_⟩:=hz.opn
 exact⟨b,vk,vn,vs,al,ak,ya,ll,cl,lk,ck,_,yc,rfl,hc,hB b rfl,rfl,hz,hcell⟩
theorem isGuarded_any (B0:Nat) (y z:Tn) (r:List Tn) (k vk vn p:Int) (t vs:ByteArray) (al ak a:Option Addr) (ll cl lk ck n cc:Nat) (f:Bool) (w:World) (hB:B0≤w.heap.size) (hr:RowN w B0 (y :: z :: r) a cc) (hn:(y :: z :: r).length=n):Calls Tryz.prog 122 #[.agg #[.int .i64 k,.string t,.int .i64 vk,.int .i64 vn,.string vs,.slice al ll cl,.slice ak lk ck,.bool f,.slice a n cc,.int .i64 p]] w fun e w'=>e=.returned (.bool (isEx y.k && decide (z.k=4)))∧Below w.heap.size w w':=by
 obtain⟨w1,hw1⟩:=eX (w.alloc (.cells #[.int .i64 k,.string t,.int .i64 vk,.int .i64 vn,.string vs,.slice al ll cl,.slice ak lk ck,.bool f,.slice a n cc,.int .i64 p] 28))
 obtain⟨G,hG⟩:=eX (w.heap.size)
 have A1:=(al1 hw1 hG).1
 have HX:=hZ (alB hw1)
 obtain⟨_,_,_,_,_,_,_,_,c8,_⟩:=row_ten A1
 have HA:=hZ A1
 obtain⟨R,hR⟩:=eX ((isEx y.k && decide (z.k=4)))
 rw [hR]
 have HR:=hZ hR
 have HW:=hZ hw1
 have hr1:=hr.later ((uZ HX).mono hB)
 have hn2:2≤n:=by rw [←hn];simp
 have hnb:n≤140737488351232:=by rw [←hn];exact hr.len
 obtain⟨b,vky,vny,vsy,aly,aky,ay,lly,cly,lky,cky,ny,ccy,rfl,hcy,hby,hny,hzy,hcelly⟩:=hr1.ten (i:=0) (y:=y) rfl
 obtain⟨b',vkz,vnz,vsz,alz,akz,az,llz,clz,lkz,ckz,nz,ccz,eb,hcz,hbz,hnz,hzz,hcellz⟩:=hr1.ten (i:=1) (y:=z) rfl
 obtain rfl:b=b':=Option.some.inj eb
 obtain⟨ky,ty,vy,fy,ksy,py⟩:=y
 obtain⟨kz,tz,vz,fz,ksz,pz⟩:=z
 simp only at hcelly hcellz HR
 have ey0:w1.cell? b=some (.int .i64 ky):=hcelly 0 _ rfl
 have ey1:w1.cell? ⟨b.block,b.off+1,none⟩=some (.string ty):=hcelly 1 _ rfl
 have ey2:w1.cell? ⟨b.block,b.off+2,none⟩=some (.int .i64 vky):=hcelly 2 _ rfl
 have ey3:w1.cell? ⟨b.block,b.off+3,none⟩=some (.int .i64 vny):=hcelly 3 _ rfl
 have ey4:w1.cell? ⟨b.block,b.off+4,none⟩=some (.string vsy):=hcelly 4 _ rfl
 have ey5:w1.cell? ⟨b.block,b.off+5,none⟩=some (.slice aly lly cly):=hcelly 5 _ rfl
 have ey6:w1.cell? ⟨b.block,b.off+6,none⟩=some (.slice aky lky cky):=hcelly 6 _ rfl
 have ey7:w1.cell? ⟨b.block,b.off+7,none⟩=some (.bool fy):=hcelly 7 _ rfl
 have ey8:w1.cell? ⟨b.block,b.off+8,none⟩=some (.slice ay ny ccy):=hcelly 8 _ rfl
 have ey9:w1.cell? ⟨b.block,b.off+9,none⟩=some (.int .i64 py):=hcelly 9 _ rfl
 have HZ:=hZ hcellz
 have HB:=hZ (And.intro hB hbz)
 have hA:=A1
 clear hcelly hcellz eb hzy hzz hr hr1 hcz hny hnz hn
 have CE:=hZ (isExpr_any ky vky vny py ty vsy aly aky ay lly cly lky cky ny ccy fy w1)
 obtain⟨q,hq⟩:=eX (isEx ky)
 rw [hq] at CE
 have HQ:=hZ hq
 clear hq
 clear A1 hw1 hR
 go_enter Tryz.func122,Tryz.ntmps122
 go_upto_region 1 with fail
 rw [uZ HW]
 try rw [hG]
 clear HW
 go_wp2_with fail
 refine(uZ CE).mono ?_
 rintro e w2 ⟨rfl,b2⟩
 have A2:=(b2.block G (lt_of_row (uZ HA))).trans (uZ HA)
 have H2:=hZ ((uZ HX).trans (b2.mono (uZ HX).size))
 cases q with
 |false=>
  have HV:=hZ (show R=false by rw [←uZ HR,uZ HQ];rfl)
  clear b2 CE A2
  go_wp2_with fail
  go_ret
  exact⟨by rw [uZ HV];rfl,by first|exact uZ H2|(rw [←hG];exact uZ H2)|(rw [hG];exact uZ H2)⟩
 |true=>
  have hlt:b.block<w1.heap.size:=Nat.lt_of_lt_of_le (uZ HB).2 (Nat.le_trans (uZ HB).1 (uZ HX).size)
  have hc2:∀j v,([.int .i64 kz,.string tz,.int .i64 vkz,.int .i64 vnz,.string vsz,.slice alz llz clz,.slice akz lkz ckz,.bool fz,.slice az nz ccz,.int .i64 pz]:List Value)[j]?=some v→w2.cell? ((b.add (1 * 10)).add j)=some v:=fun j v hj=>(World.cell?_of_block (b2.block _ (by rw [block_add,block_add];exact hlt))).trans (uZ HZ j v hj)
  have ez0:w2.cell? ⟨b.block,b.off+10,none⟩=some (.int .i64 kz):=hc2 0 _ rfl
  have ez1:w2.cell? ⟨b.block,b.off+10+1,none⟩=some (.string tz):=hc2 1 _ rfl
  have ez2:w2.cell? ⟨b.block,b.off+10+2,none⟩=some (.int .i64 vkz):=hc2 2 _ rfl
  have ez3:w2.cell? ⟨b.block,b.off+10+3,none⟩=some (.int .i64 vnz):=hc2 3 _ rfl
  have ez4:w2.cell? ⟨b.block,b.off+10+4,none⟩=some (.string vsz):=hc2 4 _ rfl
  have ez5:w2.cell? ⟨b.block,b.off+10+5,none⟩=some (.slice alz llz clz):=hc2 5 _ rfl
  have ez6:w2.cell? ⟨b.block,b.off+10+6,none⟩=some (.slice akz lkz ckz):=hc2 6 _ rfl
  have ez7:w2.cell? ⟨b.block,b.off+10+7,none⟩=some (.bool fz):=hc2 7 _ rfl
  have ez8:w2.cell? ⟨b.block,b.off+10+8,none⟩=some (.slice az nz ccz):=hc2 8 _ rfl
  have ez9:w2.cell? ⟨b.block,b.off+10+9,none⟩=some (.int .i64 pz):=hc2 9 _ rfl
  obtain⟨_,_,_,_,_,_,_,_,x8,_⟩:=row_ten A2
  have CB:=hZ (isBlock_any kz vkz vnz pz tz vsz alz akz az llz clz lkz ckz nz ccz fz w2)
  obtain⟨q,hq⟩:=eX (decide (kz=4))
  rw [hq] at CB
  have HV:=hZ (show R=q by rw [←uZ HR,uZ HQ,←hq];rfl)
  clear b2 CE A2 hlt hc2 hq ey0 ey1 ey2 ey3 ey4 ey5 ey6 ey7 ey8 ey9 c8
  go_wp2_with fail
  refine(uZ CB).mono ?_
  rintro e w3 ⟨rfl,b3⟩
  have H3:=hZ ((uZ H2).trans (b3.mono (uZ H2).size))
  clear b3 CB
  go_wp2_with fail
  go_ret
  exact⟨by rw [uZ HV];rfl,by first|exact uZ H3|(rw [←hG];exact uZ H3)|(rw [hG];exact uZ H3)⟩
theorem RowN.take {w:World} {B0:Nat} {ns:List Tn} {a:Option Addr} {cc:Nat} (h:RowN w B0 ns a cc) (m:Nat):RowN w B0 (ns.take m) a cc:=by
 obtain⟨C,hf,hk⟩:=h
 have hl:(ns.take m).length≤ns.length:=by rw [List.length_take];omega
 refine⟨C,⟨hf.bk,hf.bp,hf.bt,fun e=>⟨by have:=(hf.nl e).1;omega,(hf.nl e).2⟩,Nat.le_trans hl hf.ll,Nat.le_trans hl hf.bl,fun x hx i hi=>hf.hl x hx i (Nat.lt_of_lt_of_le hi hl),fun i hi=>hf.hv i (Nat.lt_of_lt_of_le hi hl)⟩,(IsNs_iff w _ _ _).2 (fun i y hy=>(IsNs_iff w _ _ _).1 hk i y ?_)⟩
 have hi:i<m:=by have:=(List.getElem?_eq_some_iff.1 hy).1;rw [List.length_take] at this;omega
 rw [List.getElem?_take_of_lt hi] at hy
 exact hy
theorem kd_ex {k:Int} (h:k=15∨k=18) (l:List Int):kdB k l=l.all isEx:=by rcases h with rfl|rfl <;> simp [kdB]
theorem kd_one {k:Int} (h:k=6∨k=12∨k=16∨k=22∨k=20) (l:List Int):kdB k l=(decide (l.length=1) && isEx ((l[0]?).getD 0)):=by rcases h with rfl|rfl|rfl|rfl|rfl <;> simp [kdB]
theorem kd_none {k:Int} (h:k=3∨k=10∨k=11∨k=13∨k=14) (l:List Int):kdB k l=decide (l.length=0):=by rcases h with rfl|rfl|rfl|rfl|rfl <;> simp [kdB]
theorem kd_two {k:Int} (h:k=17∨k=21) (l:List Int):kdB k l=(decide (l.length=2) && l.all isEx):=by rcases h with rfl|rfl <;> simp [kdB]
theorem kd_le {k:Int} (h:k=5∨k=9) (l:List Int):kdB k l=(decide (l.length≤1) && l.all isEx):=by rcases h with rfl|rfl <;> simp [kdB]
theorem kd_fn (l:List Int):kdB 2 l=(decide (1≤l.length) && (l.take (l.length - 1)).all (fun x=>decide (x=3)) && decide (l[l.length - 1]?=some 4)):=by simp [kdB]
theorem kd_if (l:List Int):kdB 7 l=(decide (l.length=2) && (isEx ((l[0]?).getD 0) && decide (l[1]?=some 4)) ||decide (l.length=3) && (isEx ((l[0]?).getD 0) && decide (l[1]?=some 4)) && (decide (l[2]?=some 4) ||decide (l[2]?=some 7))):=by simp [kdB]
theorem kd_wh (l:List Int):kdB 8 l=(decide (l.length=2) && (isEx ((l[0]?).getD 0) && decide (l[1]?=some 4))):=by simp [kdB]
theorem all_k (ks:List Tn) (r:Int→Bool):(ks.map (·.k)).all r=ks.all (fun y=>r y.k):=by rw [List.all_map];rfl
def parS (y:Tn) (s:Sco):Ft × Sco:=dclS s y.t.data.toList y.p true
def scoZ:Sco:=⟨[],[],false,0⟩
def bodS (tk:List UInt8→Option Int) (d:Nat) (ns:List Tn):Ft:=if (ckL parS (ns.take (ns.length - 1)) scoZ).1.2=0 then (match ns[ns.length - 1]? with
 |some z=>(ckN tk biF d z (ckL parS (ns.take (ns.length - 1)) scoZ).2).1
 |none=>(0,0)) else (ckL parS (ns.take (ns.length - 1)) scoZ).1
theorem param_look (w0:World) (lo q b B0:Nat) (nv0 sv0:Value):LookS w0 lo q b B0 nv0 sv0 (fun _=>1) (fun y s=>y.t.size≤maxLen) parS 26 #[.pointer (some ⟨q,0,none⟩)] #[]:=fun u nv sv n s y x hm hs hk hok hx=>by
 obtain⟨vk,vn,vs,al,ak,a,ll,cl,lk,ck,cc,rfl,_⟩:=hx.opn
 have hk1:n+1≤1099511627776:=hk
 exact(param_anyK (f:=y.f) hok ⟨by have:=hs.few.1;omega,by omega⟩ hs).mono (fun e w' h=>⟨h.1,h.2⟩)
theorem scoZ_wf:Wf scoZ:=⟨rfl,List.nodup_nil,fun l h=>by cases h⟩
theorem par_gd {ns:List Tn} (h:∀y∈ns,y.t.size≤140737488351232) (s:Sco):Gd s (ckL parS ns s).2:=ckL_gd ns s (fun y hy s=>dcl_gd s _ _ _ (by simpa using h y hy))
theorem ownsNil (w:World) (lo:Nat) (e:TypeId):w.ownsRow lo e 1 (.slice none 0 0) 0 []:=⟨rfl,Or.inl ⟨rfl,rfl⟩⟩
theorem smM_one:∀(l:List Tn),smM (fun _=>1) l=l.length
 |[]=>rfl
 |y :: r=>by simp only [smM,smM_one r,List.length_cons];omega
theorem bodies1_any {k vk vn p:Int} {t vs:ByteArray} {al ak:Option Addr} {b1:Addr} {ll cl lk ck m cc:Nat} {f:Bool} {w:World} {tb tn xt0 B0 d:Nat} {tk:List UInt8→Option Int} {ns:List Tn} {z:Tn} (hT:Tab w) (hm:Nms w tb tn tk) (hxt:w.heap[xt0]?=some (.cells #[.map (some tb)] 40 (0,0))) (hr:RowN w B0 ns (some b1) cc) (hn:ns.length=m) (hB:B0≤w.heap.size) {j:Nat} (hmj:m=j+1) (hz:ns[j]?=some z) (hfm:fmK d z) (hpar:∀y∈ns,y.t.size≤140737488351232) (hk:m+mK d z≤1099511627776) (hd:d≤1099511627776) :
  Calls Tryz.prog 25 #[.agg #[.int .i64 k,.string t,.int .i64 vk,.int .i64 vn,.string vs,.slice al ll cl,.slice ak lk ck,.bool f,.slice (some b1) m cc,.int .i64 p],.pointer (some ⟨xt0,0,none⟩)] w fun e w'=>e=.returned (fltV (bodS tk d ns))∧Below w.heap.size w w':=by
 obtain⟨w2,hw2,n2,r2,b2⟩:=bxs k vk vn p t vs al ak (some b1) ll cl lk ck m cc f w
 obtain⟨G,hG⟩:=eX (w.heap.size)
 obtain⟨b,hb⟩:=eX (w2.heap.size)
 obtain⟨w3,hw3⟩:=eX (w2.alloc (.map #[] 0))
 have hN:Nms w3 b 0 (fun _=>none):=by rw [←hw3,←hb];exact Nms.made w2
 have b3:=alB hw3
 obtain⟨q,hq⟩:=eX (w3.heap.size)
 obtain⟨w4,hw4⟩:=eX (w3.alloc (.cells #[.map (some b),.slice none 0 0,.slice none 0 0,.bool false,.int .i64 0] 61))
 have nq:w4.heap[q]?=some (.cells #[.map (some b),.slice none 0 0,.slice none 0 0,.bool false,.int .i64 0] 61 (0,0)):=alN hw4 hq
 have bq:=alB hw4
 have b4:Below w.heap.size w w4:=(b2.trans (b3.mono b2.size)).trans (bq.mono (Nat.le_trans b2.size b3.size))
 have sb:w.heap.size≤b:=by rw [←hb];exact b2.size
 have sq:w.heap.size≤q:=by rw [←hq];exact Nat.le_trans b2.size b3.size
 have SZ:ScM w4 w.heap.size q b 0 (.slice none 0 0) (.slice none 0 0) scoZ:=⟨nq,(hN.later (bq.block b hN.lt)).ext (fun s=>rfl),ownsNil w4 _ _,ownsNil w4 _ _,rfl,⟨Nat.le_refl _,Nat.zero_le _⟩,sq,sb,b4.size⟩
 rw [hG] at n2 r2
 have n4:=(bq.block G (Nat.lt_of_lt_of_le (ltR n2) b3.size)).trans ((b3.block G (ltR n2)).trans n2)
 have r4:=(bq.block (G+1) (Nat.lt_of_lt_of_le (ltR r2) b3.size)).trans ((b3.block (G+1) (ltR r2)).trans r2)
 have HSZ:=hZ SZ
 have HB4:=hZ b4
 have HN4:=hZ (And.intro n4 r4)
 have HT:=hZ hT
 have HM:=hZ hm
 have HXT:=hZ hxt
 have HR:=hZ hr
 have HBS:=hZ (And.intro hB (And.intro hG (And.intro sb sq)))
 have q1:(1:Int)≤(m:Int):=by omega
 have q2:(m:Int) - 1=(j:Int):=by omega
 have hmc:m≤cc:=by obtain⟨_,_,_,h,_⟩:=hr.at hz;omega
 have hnb:m≤140737488351232:=by rw [←hn];exact hr.len
 have q3:j≤cc:=by omega
 have q4:(j:Int)≤(cc:Int):=by omega
 have q5:(j:Int)<(m:Int):=by omega
 have q6:(0:Int)≤(j:Int):=by omega
 have htl:(ns.take j).length=j:=by rw [List.length_take,hn];omega
 have CF:=hZ (first_look (param_look w4 w.heap.size q b B0 (.slice none 0 0) (.slice none 0 0)) (fun x u=>rfl) (s:=scoZ) ((hr.later (b4.mono hB)).take j) htl (Mvd.of_below q b _ _ (Below.refl _ w4)) SZ (by rw [smM_one,htl];omega) hB (fun i y hy _=>Nat.le_trans (hpar y (List.mem_of_mem_take (List.mem_of_getElem? hy))) (by unfold maxLen;omega)))
 rw [smM_one,htl] at CF
 have hbo:bodS tk d ns=(if (ckL parS (ns.take j) scoZ).1.2=0 then (ckN tk biF d z (ckL parS (ns.take j) scoZ).2).1 else (ckL parS (ns.take j) scoZ).1):=by
  unfold bodS
  rw [show ns.length - 1=j by omega,hz]
 have hgd:=par_gd (ns:=ns.take j) (fun y hy=>hpar y (List.mem_of_mem_take hy)) scoZ
 rw [hbo]
 obtain⟨⟨⟨f1,f2⟩,s1⟩,hR1⟩:∃R,ckL parS (ns.take j) scoZ=R:=⟨_,rfl⟩
 rw [hR1] at CF hgd ⊢
 dsimp only at hgd ⊢
 obtain⟨R,hRR⟩:=eX ((if f2=0 then (ckN tk biF d z s1).1 else (f1,f2)))
 rw [hRR]
 have HRR:=hZ hRR
 have HGD:=hZ hgd
 have HZ:=hZ (And.intro hz (And.intro hfm (And.intro hk hd)))
 clear hbo hR1 hRR hgd hz hfm hk hd htl hpar hmj hn
 obtain⟨m0,m1,m2,m3,m4,m5,m6,m7,m8,m9⟩:=ten_at (uZ HN4).1
 have hmm:=@run_makeMap Tryz.prog
 go_enter Tryz.func25,Tryz.ntmps25
 go_upto_region 1 with fail
 try rw [hw2]
 try rw [hG]
 go_upto_region 2 with fail
 try rw [hb]
 try rw [hw3]
 try rw [hq]
 try rw [hw4]
 clear hw2 hb hw3 hq hw4 n2 r2 b2 b3 hN nq bq b4 sb sq SZ n4 r4 hT hm hxt hr hB hG hmm
 go_wp2_with fail
 refine(uZ CF).mono ?_
 rintro e w5 ⟨rfl,nv1,sv1,n1,S5,M5,hn1⟩
 have kf:=keepF_of_mvd (uZ HSZ) M5
 have n5:=kf _ _ _ (by decide) (by decide) (by decide) (uZ HN4).1
 have r5:=kf _ _ _ (by decide) (by decide) (by decide) (uZ HN4).2
 have b5:=(uZ HB4).trans (Mvd.low (uZ HSZ) M5)
 obtain⟨g5,hg5⟩:=eX (w5.heap.size)
 obtain⟨w6,hw6⟩:=eX (w5.alloc (.cells #[.int .i64 f1,.int .i64 f2] 42))
 have n6:w6.heap[g5]?=some (.cells #[.int .i64 f1,.int .i64 f2] 42 (0,0)):=alN hw6 hg5
 have b6:=alB hw6
 have HS6:=hZ (S5.below b6)
 have HB6:=hZ (b5.trans (b6.mono b5.size))
 have HN6:=hZ (And.intro ((b6.block _ (ltR n5)).trans n5) ((b6.block _ (ltR r5)).trans r5))
 have HN1:=hZ hn1
 clear CF S5 M5 hn1 kf n5 r5 b5 b6 m0 m1 m2 m3 m4 m5 m6 m7 m8 m9 HN4 HSZ HB4
 obtain⟨j0,j1⟩:=two_at n6
 obtain⟨m0,m1,m2,m3,m4,m5,m6,m7,m8,m9⟩:=ten_at (uZ HN6).1
 unfold fltV
 go_upto_region 4 with fail
 try rw [hg5]
 try rw [hw6]
 clear hg5 hw6
 by_cases hf2:f2=0
 ·subst hf2
  have hRv:=uZ HRR
  rw [if_pos rfl] at hRv
  have HRV:=hZ hRv
  clear hRv HRR n6
  go_upto_region 6 with fail
  clear j0 j1
  obtain⟨zz,hzm⟩:∃x,x=m:=⟨_,rfl⟩
  obtain⟨zvk,zvn,zvs,zal,zak,za,zll,zcl,zlk,zck,zc,hzz,hzc⟩:=kid_at (uZ HR) (uZ HZ).1
  obtain⟨zn,hzn⟩:=eX (z.ks.length)
  rw [hzn] at hzz hzc
  have hzB:b1.block<B0:=by
   obtain⟨C,hf,_⟩:=uZ HR
   exact(hf.hl b1 rfl j (List.getElem?_eq_some_iff.1 (uZ HZ).1).1).1
  have HKC:Hid (∀u,Below w.heap.size w u→u.cell? (b1.add (j * 10))=some (.int .i64 z.k)∧u.cell? ⟨(b1.add (j * 10)).block,(b1.add (j * 10)).off+1,none⟩=some (.string z.t)∧u.cell? ⟨(b1.add (j * 10)).block,(b1.add (j * 10)).off+2,none⟩=some (.int .i64 zvk)∧u.cell? ⟨(b1.add (j * 10)).block,(b1.add (j * 10)).off+3,none⟩=some (.int .i64 zvn)∧u.cell? ⟨(b1.add (j * 10)).block,(b1.add (j * 10)).off+4,none⟩=some (.string zvs)∧u.cell? ⟨(b1.add (j * 10)).block,(b1.add (j * 10)).off+5,none⟩=some (.slice zal zll zcl)∧u.cell? ⟨(b1.add (j * 10)).block,(b1.add (j * 10)).off+6,none⟩=some (.slice zak zlk zck)∧u.cell? ⟨(b1.add (j * 10)).block,(b1.add (j * 10)).off+7,none⟩=some (.bool z.f)∧u.cell? ⟨(b1.add (j * 10)).block,(b1.add (j * 10)).off+8,none⟩=some (.slice za zn zc)∧u.cell? ⟨(b1.add (j * 10)).block,(b1.add (j * 10)).off+9,none⟩=some (.int .i64 z.p)):=hZ (fun u hu=>⟨cell_kept hu (hzc 0 _ rfl),cell_kept hu (hzc 1 _ rfl),cell_kept hu (hzc 2 _ rfl),cell_kept hu (hzc 3 _ rfl),cell_kept hu (hzc 4 _ rfl),cell_kept hu (hzc 5 _ rfl),cell_kept hu (hzc 6 _ rfl),cell_kept hu (hzc 7 _ rfl),cell_kept hu (hzc 8 _ rfl),cell_kept hu (hzc 9 _ rfl)⟩)
  have HS0:Hid (w6.drew.heap[G]?=some (.cells #[.int .i64 k,.string t,.int .i64 vk,.int .i64 vn,.string vs,.slice al ll cl,.slice ak lk ck,.bool f,.slice (some b1) m cc,.int .i64 p] 28 (0,0))∧Below w.heap.size w w6.drew):=hZ ⟨(uZ HN6).1,(uZ HB6).drew⟩
  have HX0:Hid (Below w6.heap.size w6 w6.drew):=hZ ((Below.refl _ _).drew)
  clear m0 m1 m2 m3 m4 m5 m6 m7 m8 m9
  refine till_begin (S:=fun u=>u.heap[G]?=some (.cells #[.int .i64 k,.string t,.int .i64 vk,.int .i64 vn,.string vs,.slice al ll cl,.slice ak lk ck,.bool f,.slice (some b1) m cc,.int .i64 p] 28 (0,0))∧Below w.heap.size w u) 99 (by kernel_rfl) ?_
  obtain⟨W0,hW0⟩:=eX (w6.drew)
  try rw [hW0]
  rw [hW0] at HS0 HX0
  clear hW0
  refine till_takeN 0 (v:=.pointer (some ⟨q,0,none⟩)) (some 25) rfl rfl rfl (by kernel_rfl) (by kernel_rfl) (by kernel_rfl) (fun _ _ _ h=>h) (Or.inl ⟨by rfl,fun u hu=>by obtain⟨hu1,hu2⟩:=hu;obtain⟨m0,m1,m2,m3,m4,m5,m6,m7,m8,m9⟩:=ten_at hu1;obtain⟨e0,e1,e2,e3,e4,e5,e6,e7,e8,e9⟩:=uZ HKC u hu2;have xt:=one_at ((hu2.block xt0 (ltR (uZ HXT))).trans (uZ HXT));go_simp⟩) (uZ HS0) ?_
  try simp only [Act.put,sA,sB,sC]
  refine till_takeN 1 (v:=.map (some tb)) (some 26) rfl rfl rfl (by kernel_rfl) (by kernel_rfl) (by kernel_rfl) (fun _ _ _ h=>h) (Or.inl ⟨by rfl,fun u hu=>by obtain⟨hu1,hu2⟩:=hu;obtain⟨m0,m1,m2,m3,m4,m5,m6,m7,m8,m9⟩:=ten_at hu1;obtain⟨e0,e1,e2,e3,e4,e5,e6,e7,e8,e9⟩:=uZ HKC u hu2;have xt:=one_at ((hu2.block xt0 (ltR (uZ HXT))).trans (uZ HXT));go_simp⟩) (uZ HS0) ?_
  try simp only [Act.put,sA,sB,sC]
  refine till_takeN 3 (v:=.pointer (some ⟨G,8,none⟩)) (some 28) rfl rfl rfl (by kernel_rfl) (by kernel_rfl) (by kernel_rfl) (fun _ _ _ h=>h) (Or.inl ⟨by rfl,fun u hu=>by obtain⟨hu1,hu2⟩:=hu;obtain⟨m0,m1,m2,m3,m4,m5,m6,m7,m8,m9⟩:=ten_at hu1;obtain⟨e0,e1,e2,e3,e4,e5,e6,e7,e8,e9⟩:=uZ HKC u hu2;have xt:=one_at ((hu2.block xt0 (ltR (uZ HXT))).trans (uZ HXT));go_simp⟩) (uZ HS0) ?_
  try simp only [Act.put,sA,sB,sC]
  refine till_takeN 4 (v:=.slice (some b1) m cc) (some 29) rfl rfl rfl (by kernel_rfl) (by kernel_rfl) (by kernel_rfl) (fun _ _ _ h=>h) (Or.inl ⟨by rfl,fun u hu=>by obtain⟨hu1,hu2⟩:=hu;obtain⟨m0,m1,m2,m3,m4,m5,m6,m7,m8,m9⟩:=ten_at hu1;obtain⟨e0,e1,e2,e3,e4,e5,e6,e7,e8,e9⟩:=uZ HKC u hu2;have xt:=one_at ((hu2.block xt0 (ltR (uZ HXT))).trans (uZ HXT));go_simp⟩) (uZ HS0) ?_
  try simp only [Act.put,sA,sB,sC]
  refine till_takeN 5 (v:=.int .i64 (j:Int)) (some 30) rfl rfl rfl (by kernel_rfl) (by kernel_rfl) (by kernel_rfl) (fun _ _ _ h=>h) (Or.inl ⟨by rfl,fun u hu=>by obtain⟨hu1,hu2⟩:=hu;obtain⟨m0,m1,m2,m3,m4,m5,m6,m7,m8,m9⟩:=ten_at hu1;obtain⟨e0,e1,e2,e3,e4,e5,e6,e7,e8,e9⟩:=uZ HKC u hu2;have xt:=one_at ((hu2.block xt0 (ltR (uZ HXT))).trans (uZ HXT));go_simp⟩) (uZ HS0) ?_
  try simp only [Act.put,sA,sB,sC]
  refine till_takeN 6 (v:=.pointer (some (b1.add (j * 10)))) (some 31) rfl rfl rfl (by kernel_rfl) (by kernel_rfl) (by kernel_rfl) (fun _ _ _ h=>h) (Or.inl ⟨by rfl,fun u hu=>by obtain⟨hu1,hu2⟩:=hu;obtain⟨m0,m1,m2,m3,m4,m5,m6,m7,m8,m9⟩:=ten_at hu1;obtain⟨e0,e1,e2,e3,e4,e5,e6,e7,e8,e9⟩:=uZ HKC u hu2;have xt:=one_at ((hu2.block xt0 (ltR (uZ HXT))).trans (uZ HXT));go_simp⟩) (uZ HS0) ?_
  try simp only [Act.put,sA,sB,sC]
  refine till_takeN 7 (v:=.agg #[.int .i64 z.k,.string z.t,.int .i64 zvk,.int .i64 zvn,.string zvs,.slice zal zll zcl,.slice zak zlk zck,.bool z.f,.slice za zn zc,.int .i64 z.p]) (some 32) rfl rfl rfl (by kernel_rfl) (by kernel_rfl) (by kernel_rfl) (fun _ _ _ h=>h) (Or.inl ⟨by rfl,fun u hu=>by obtain⟨hu1,hu2⟩:=hu;obtain⟨m0,m1,m2,m3,m4,m5,m6,m7,m8,m9⟩:=ten_at hu1;obtain⟨e0,e1,e2,e3,e4,e5,e6,e7,e8,e9⟩:=uZ HKC u hu2;have xt:=one_at ((hu2.block xt0 (ltR (uZ HXT))).trans (uZ HXT));go_simp⟩) (uZ HS0) ?_
  try simp only [Act.put,sA,sB,sC]
  have C1:=hZ (nodesF_any (w:=W0) (q:=q) ((uZ HT).below (uZ HS0).2) ((uZ HM).later ((uZ HS0).2.block tb (uZ HM).lt)))
  refine till_one 2 (by kernel_rfl) rfl (fun K hK=>?_)
  go_simp
  refine(uZ C1).mono ?_
  rintro e W1 ⟨xs,xk,xn,xt,rfl,hC,bx1⟩
  have hx01:=(uZ HX0).trans (bx1.mono (uZ HX0).size)
  have S7:=(uZ HS6).below hx01
  have HS1:Hid (W1.heap[G]?=some (.cells #[.int .i64 k,.string t,.int .i64 vk,.int .i64 vn,.string vs,.slice al ll cl,.slice ak lk ck,.bool f,.slice (some b1) m cc,.int .i64 p] 28 (0,0))∧Below w.heap.size w W1):=hZ ⟨(hx01.block _ (ltR (uZ HN6).1)).trans (uZ HN6).1,(uZ HB6).trans (hx01.mono (uZ HB6).size)⟩
  have r7:=(hx01.block _ (ltR (uZ HN6).2)).trans (uZ HN6).2
  have hw1:=(uZ HGD).wf scoZ_wf
  have hl1:s1.loops=0:=(uZ HGD).lps
  have CL:=node_look hC S7 (by have h1:=(uZ HM).lt;have h2:=(uZ HBS).2.2.1;omega) (uZ HT).big (uZ HBS).1 d W1 nv1 sv1 n1 s1 z _ (Mvd.of_below q b nv1 sv1 (Below.refl _ W1)) S7 (by have h1:=uZ HN1;have h2:=(uZ HZ).2.2.1;omega) ⟨(uZ HZ).2.1,hw1,by omega,by have h2:=(uZ HZ).2.2.2;omega⟩ (IsN.to (fun b hl=>(uZ HS1).2.block b (Nat.lt_of_lt_of_le hl (uZ HBS).1)) (fun _ h=>h) hzz)
  rw [uZ HRV] at CL
  have CLh:=hZ CL
  have HS7:=hZ S7
  have HR7:=hZ r7
  have HF1:Hid (∀(x:Array Value) (u:World),Sem.run Tryz.prog (callFunc 46 x) u=.ok (.enter 46 x) u):=hZ (fun x u=>rfl)
  clear CL C1 bx1 hC hx01 S7 r7 hw1 hl1 HS0 HX0 HKC hzz hzc
  go_wp2_with fail
  refine hK.out _ _ (Or.inr (uZ HS1)) ?_
  clear hK K
  try simp only [Act.put,sA,sB,sC]
  refine till_one 8 (by kernel_rfl) rfl (fun K hK=>?_)
  go_simp
  try rw [uZ HF1]
  refine(uZ CLh).mono ?_
  rintro e w8 ⟨rfl,nv2,sv2,n2,S8,M8,_⟩
  have kf:=keepF_of_mvd (uZ HS7) M8
  have r8:=kf _ _ _ (by decide) (by decide) (by decide) (uZ HR7)
  have HS8:Hid (w8.heap[G]?=some (.cells #[.int .i64 k,.string t,.int .i64 vk,.int .i64 vn,.string vs,.slice al ll cl,.slice ak lk ck,.bool f,.slice (some b1) m cc,.int .i64 p] 28 (0,0))∧Below w.heap.size w w8):=hZ ⟨kf _ _ _ (by decide) (by decide) (by decide) (uZ HS1).1,(uZ HS1).2.trans (Mvd.low (uZ HS7) M8)⟩
  clear CLh S8 M8 kf HS1
  obtain⟨g1,g2⟩:=R
  unfold fltV
  obtain⟨k0,k1⟩:=two_at r8
  have y0:=frozen_of_row w8 (G+1) 0 _ _ r8
  have y1:=frozen_of_row w8 (G+1) 1 _ _ r8
  have HE:=hZ (And.intro (put2 r8 (.int .i64 g1) (.int .i64 g2)) (((uZ HS8).2.setCell (p:=⟨G+1,0,none⟩) (by rw [(uZ HBS).2.1];exact Nat.le_succ _) (.int .i64 g1)).setCell (p:=⟨G+1,1,none⟩) (by rw [(uZ HBS).2.1];exact Nat.le_succ _) (.int .i64 g2)))
  have HG8:=hZ (show ((w8.setCell ⟨G+1,0,none⟩ (.int .i64 g1)).setCell ⟨G+1,1,none⟩ (.int .i64 g2)).heap[G]?=some (.cells #[.int .i64 k,.string t,.int .i64 vk,.int .i64 vn,.string vs,.slice al ll cl,.slice ak lk ck,.bool f,.slice (some b1) m cc,.int .i64 p] 28 (0,0)) by rw [heap_setCell_other _ ⟨G+1,1,none⟩ G _ (by show G≠G+1;omega),heap_setCell_other _ ⟨G+1,0,none⟩ G _ (by show G≠G+1;omega)];exact(uZ HS8).1)
  clear r8
  go_wp2_with fail
  refine hK.out _ _ (Or.inr (uZ HS8)) ?_
  clear hK K
  try simp only [Act.put,sA,sB,sC]
  refine till_one 9 (by kernel_rfl) rfl (fun K hK=>?_)
  go_simp
  refine hK.out _ _ (Or.inr ⟨uZ HG8,(uZ HE).2⟩) ?_
  clear hK K
  try simp only [Act.put,sA,sB,sC]
  refine till_done (by kernel_rfl) ?_ _
  go_wp2_with fail
  exact rtF (p:=3) rfl rfl (uZ HE).1 rfl ⟨rfl,(uZ HE).2⟩
 ·have hne:(f2 == 0)=false:=by simpa using hf2
  have hne2:(f2 != 0)=true:=by simpa using hf2
  have hRv:=uZ HRR
  rw [if_neg hf2] at hRv
  subst hRv
  have r8:=(uZ HN6).2
  obtain⟨k0,k1⟩:=two_at r8
  have y0:=frozen_of_row w6 (G+1) 0 _ _ r8
  have y1:=frozen_of_row w6 (G+1) 1 _ _ r8
  have HE:=hZ (And.intro (put2 r8 (.int .i64 f1) (.int .i64 f2)) (((uZ HB6).setCell (p:=⟨G+1,0,none⟩) (by rw [(uZ HBS).2.1];exact Nat.le_succ _) (.int .i64 f1)).setCell (p:=⟨G+1,1,none⟩) (by rw [(uZ HBS).2.1];exact Nat.le_succ _) (.int .i64 f2)))
  clear r8 n6
  go_wp2_with fail
  exact rtF (p:=3) rfl rfl (uZ HE).1 rfl ⟨rfl,(uZ HE).2⟩
end Go.Proofs.YtjdpaihhhjdgmaaGreatDoor
