/-
  Layer 19 (check): row: one node is gone through several times, up to the first fault; no conditions but what its looks ask.
  Layer 19 (check): let and param; conditions: the names' sizes.
  Layer 19 (check): what a look is that changes a scope; first over such a look; conditions: the nodes lie in memory, how many names there are.
  Layer 19 (check): first over a look that changes a scope; conditions: the nodes lie in memory, how many names there are.
-/
import Derived.Test.YtjdpaihhhjdgmaaGreatDoorA05
set_option linter.unusedVariables false
set_option linter.unusedSimpArgs false
set_option maxRecDepth 100000
set_option maxHeartbeats 8000000
namespace Go.Proofs.YtjdpaihhhjdgmaaGreatDoor
open Go.RowKit
set_option linter.unusedVariables false
set_option linter.unusedSimpArgs false
theorem row_gen {k vk vn p:Int} {t vs:ByteArray} {al ak a:Option Addr} {ll cl lk ck m cc:Nat} {f:Bool} (g M sc:Nat) (fs:List (FuncId × Array Value × Array Value)) (r:Nat→Ft) (I:Nat→World→Prop) (J:Ft→World→Prop) (w:World)
  (hf:∀(i:Nat) (F:FuncId) (Bd cap:Array Value),fs[i]?=some (F,Bd,cap)→∀(x:Array Value) (u:World),Sem.run Tryz.prog (callFunc F x) u=.ok (.enter F x) u)
  (hn:fs.length=M) (hMc:M≤sc) (hMb:M≤1099511627776) (hI0:I 0 w)
  (hIg:∀i u,I i u→∀(j:Nat) (F:FuncId) (Bd cap:Array Value),fs[j]?=some (F,Bd,cap)→u.cell? ⟨g,j,none⟩=some (.func (.func F) Bd cap))
  (hIs:∀i u u',I i u→Besk (Fp w.heap.size u) u u'→I i u') (hJs:∀f u u',J f u→Besk (Fp w.heap.size u) u u'→J f u')
  (hst:∀(i:Nat) (F:FuncId) (Bd cap:Array Value) (u:World),fs[i]?=some (F,Bd,cap)→I i u→Calls Tryz.prog F (Bd++#[.agg #[.int .i64 k,.string t,.int .i64 vk,.int .i64 vn,.string vs,.slice al ll cl,.slice ak lk ck,.bool f,.slice a m cc,.int .i64 p]]++cap) u fun e u'=>e=.returned (fltV (r i))∧KeepF u u'∧((r i).2=0→I (i+1) u')∧((r i).2≠0→J (r i) u')) :
  Calls Tryz.prog 48 #[.agg #[.int .i64 k,.string t,.int .i64 vk,.int .i64 vn,.string vs,.slice al ll cl,.slice ak lk ck,.bool f,.slice a m cc,.int .i64 p],.slice (some ⟨g,0,none⟩) M sc] w fun e w'=>e=.returned (fltV (fF r M 0))∧((fF r M 0).2=0→I M w')∧((fF r M 0).2≠0→J (fF r M 0) w'):=by
 obtain⟨w2,hw2,n2,r2,b2⟩:=bxs k vk vn p t vs al ak a ll cl lk ck m cc f w
 obtain⟨G,hG⟩:=eX (w.heap.size)
 have H0:=hZ (hIs 0 w w2 hI0 (Besk.of_below b2))
 have HH:=hZ (And.intro hf (And.intro hn (And.intro hIg (And.intro hIs (And.intro hJs hst)))))
 rw [hG] at n2 r2
 have HN0:=hZ n2
 have HR0:=hZ r2
 have HGw:=hZ hG
 obtain⟨R,hR⟩:=eX (fF r M 0)
 rw [hR]
 have HR:=hZ hR
 clear hf hn hIg hIs hJs hst hI0 hR n2 r2 b2
 go_enter Tryz.func48,Tryz.ntmps48
 go_upto_region 1 with fail
 try rw [hw2]
 try rw [hG]
 clear hw2 hG
 go_wp2_with fail
 go_loopw [10] (fun x wr=>∃(i:Nat),x=.int .i64 (i:Int)∧i≤M∧Hid (I i wr)∧Hid (fF r (M - i) i=R)∧Hid (wr.heap[G]?=some (.cells #[.int .i64 k,.string t,.int .i64 vk,.int .i64 vn,.string vs,.slice al ll cl,.slice ak lk ck,.bool f,.slice a m cc,.int .i64 p] 28 (0,0)))∧Hid (wr.heap[G+1]?=some (.cells #[.int .i64 0,.int .i64 0] 42 (0,0)))) (fun x _=>M - (intOf x).toNat)
 case atStart=>exact⟨0,rfl,Nat.zero_le _,H0,HR,HN0,HR0⟩
 case round=>
  obtain⟨i,rfl,hin,HI,HT,HN,HG⟩:=hrel
  obtain⟨wq,hwq⟩:∃wq,wq=wr:=⟨_,rfl⟩
  subst hwq
  clear H0 HN0 HR0
  by_cases hi:i<M
  ·have i2:(i:Int)<(M:Int):=by omega
   obtain⟨⟨F,Bd,cap⟩,hy⟩:∃y,fs[i]?=some y:=⟨_,List.getElem?_eq_getElem (by rw [(uZ HH).2.1];exact hi)⟩
   have cF:=(uZ HH).2.2.1 i wq (uZ HI) i F Bd cap hy
   have HF:=hZ ((uZ HH).1 i F Bd cap hy)
   have CP:=hZ ((uZ HH).2.2.2.2.2 i F Bd cap wq hy (uZ HI))
   obtain⟨x0,x1,x2,x3,x4,x5,x6,x7,x8,x9⟩:=ten_at (uZ HN)
   obtain⟨⟨f1,f2⟩,hq⟩:∃q:Ft,r i=q:=⟨_,rfl⟩
   rw [hq] at CP
   have HQ:=hZ hq
   clear hq hy HI
   go_wp2_with (rw [uZ HF])
   refine(uZ CP).mono ?_
   rintro e w3 ⟨rfl,hkf,h1,h2⟩
   have HN3:=hZ (hkf G _ _ (by decide) (by decide) (by decide) (uZ HN))
   have HG3:=hZ (hkf (G+1) _ _ (by decide) (by decide) (by decide) (uZ HG))
   have H1:=hZ h1
   have H2:=hZ h2
   obtain⟨g3,hg3⟩:=eX (w3.heap.size)
   have hgG:G+1<g3:=by rw [←hg3];exact ltR (uZ HG3)
   have HGG:=hZ hgG
   clear h1 h2 CP x0 x1 x2 x3 x4 x5 x6 x7 x8 x9 hkf hgG cF
   unfold fltV
   go_upto_region 5 with fail
   obtain⟨w4,hw4⟩:=eX (w3.alloc (.cells #[.int .i64 f1,.int .i64 f2] 42))
   have b4:=alB hw4
   have n4:w4.heap[g3]?=some (.cells #[.int .i64 f1,.int .i64 f2] 42 (0,0)):=alN hw4 hg3
   obtain⟨k0,k1⟩:=two_at n4
   have HG4:=hZ ((b4.block (G+1) (ltR (uZ HG3))).trans (uZ HG3))
   have HN4:=hZ ((b4.block G (ltR (uZ HN3))).trans (uZ HN3))
   have B4:=hZ b4
   try rw [hw4]
   try rw [hg3]
   clear b4 n4 hw4 hg3
   by_cases hf2:f2=0
   ·have hq2:(r i).2=0:=by rw [uZ HQ];exact hf2
    have hT:fF r (M - (i+1)) (i+1)=R:=by
     rw [←uZ HT,show M - i=(M - (i+1))+1 by omega,fF,if_pos hq2]
    have HT2:=hZ hT
    have HI2:=hZ ((uZ HH).2.2.2.1 (i+1) w3 w4 (uZ H1 hf2) (Besk.of_below (uZ B4)))
    subst hf2
    clear H1 H2 HT hT hq2 HQ
    go_wp2_with fail
    go_roundw
    case rel=>exact⟨i+1,by go_num,by omega,HI2,HT2,HN4,HG4⟩
    case measure=>simp [intOf];omega
   ·have hq2:¬(r i).2=0:=by rw [uZ HQ];exact hf2
    have hT:R=(f1,f2):=by
     rw [←uZ HT,show M - i=(M - (i+1))+1 by omega,fF,if_neg hq2,uZ HQ]
    subst hT
    have hne:(f2 == 0)=false:=by simpa using hf2
    obtain⟨j0,j1⟩:=two_at (uZ HG4)
    have y0:=frozen_of_row w4 (G+1) 0 _ _ (uZ HG4)
    have y1:=frozen_of_row w4 (G+1) 1 _ _ (uZ HG4)
    have hP:Fp w.heap.size w3 (G+1):=⟨by rw [uZ HGw];exact Nat.le_succ _,_,_,uZ HG3⟩
    have HE:=hZ (And.intro (put2 (uZ HG4) (.int .i64 f1) (.int .i64 f2)) ((uZ HH).2.2.2.2.1 (f1,f2) w3 _ (uZ H2 hf2) (((Besk.of_below (P:=Fp w.heap.size w3) (uZ B4)).set (p:=⟨G+1,0,none⟩) (Or.inl hP) (.int .i64 f1)).set (p:=⟨G+1,1,none⟩) (Or.inl hP) (.int .i64 f2))))
    clear hP hq2
    go_wp2_with fail
    exact rtF (p:=4) rfl rfl (uZ HE).1 rfl ⟨rfl,(uZ HE).2⟩
  ·have i2:¬(i:Int)<(M:Int):=by omega
   have hin2:i=M:=by omega
   have hT:R=(0,0):=by
    rw [←uZ HT,hin2,Nat.sub_self]
    rfl
   subst hT
   obtain⟨j0,j1⟩:=two_at (uZ HG)
   have y0:=frozen_of_row wq (G+1) 0 _ _ (uZ HG)
   have y1:=frozen_of_row wq (G+1) 1 _ _ (uZ HG)
   have hP:Fp w.heap.size wq (G+1):=⟨by rw [uZ HGw];exact Nat.le_succ _,_,_,uZ HG⟩
   have HE:=hZ (And.intro (put2 (uZ HG) (.int .i64 0) (.int .i64 0)) ((uZ HH).2.2.2.1 M wq _ (by rw [←hin2];exact uZ HI) (((Besk.refl (Fp w.heap.size wq) wq).set (p:=⟨G+1,0,none⟩) (Or.inl hP) (.int .i64 0)).set (p:=⟨G+1,1,none⟩) (Or.inl hP) (.int .i64 0))))
   clear hP hin2
   go_wp2_with fail
   exact rtF (p:=4) rfl rfl (uZ HE).1 rfl ⟨rfl,(uZ HE).2⟩
theorem keepF_of_mvd {w w':World} {lo q b n:Nat} {nv sv nv' sv':Value} {s:Sco} (h:ScM w lo q b n nv sv s) (hm:Mvd w w' q b nv sv nv' sv'):KeepF w w':=fun k c T h1 h2 h3 hk=>by
 refine(hm.bes.block k (ltR hk) (fun hp=>?_)).trans hk
 rcases hp with rfl|rfl|e|e
 ·have hq:=h.hq
  rw [hk] at hq
  injection hq with hq
  injection hq with _ e2 _
  exact h3 e2
 ·exact map_ne h.hm hk rfl
 ·rcases own_form h.hnv with ⟨e1,_⟩|⟨g,cap,cur,e1,_,_,hg⟩
  ·rw [e1] at e;cases e
  ·rw [e1] at e
   have e3:g=k:=by simpa [Value.ownBlock] using e
   subst e3
   rw [hk] at hg
   injection hg with hg
   injection hg with _ e2 _
   exact h1 e2
 ·rcases own_form h.hsv with ⟨e1,_⟩|⟨g,cap,cur,e1,_,_,hg⟩
  ·rw [e1] at e;cases e
  ·rw [e1] at e
   have e3:g=k:=by simpa [Value.ownBlock] using e
   subst e3
   rw [hk] at hg
   injection hg with hg
   injection hg with _ e2 _
   exact h2 e2
theorem KeepF.of_below {w w':World} (h:Below w.heap.size w w'):KeepF w w':=fun k c T _ _ _ hk=>(h.block k (ltR hk)).trans hk
theorem KeepF.trans {a b c:World} (h:KeepF a b) (h':KeepF b c):KeepF a c:=fun k x T h1 h2 h3 hk=>h' k x T h1 h2 h3 (h k x T h1 h2 h3 hk)
theorem param_anyK {k vk vn p:Int} {t vs:ByteArray} {al ak a:Option Addr} {ll cl lk ck m cc:Nat} {f:Bool} {w:World} {lo q b n:Nat} {nv sv:Value} {s:Sco} (ht:t.size≤maxLen) (hfew:s.vars.length<1099511627776∧n<1099511627776) (h:ScM w lo q b n nv sv s):Calls Tryz.prog 26 #[.pointer (some ⟨q,0,none⟩),.agg #[.int .i64 k,.string t,.int .i64 vk,.int .i64 vn,.string vs,.slice al ll cl,.slice ak lk ck,.bool f,.slice a m cc,.int .i64 p]] w fun e w'=>e=.returned (fltV (dclS s t.data.toList p true).1)∧DclP w w' lo q b n nv sv (dclS s t.data.toList p true).2:=by
 have hqw:=ltR h.hq
 obtain⟨w2,hw2,n2,r2,b2⟩:=bxs k vk vn p t vs al ak a ll cl lk ck m cc f w
 have H2:=hZ (h.below b2)
 obtain⟨G,hG⟩:=eX (w.heap.size)
 rw [hG] at n2 r2
 have HG2:=hZ (And.intro hG b2)
 have HGe:=hZ (And.intro hG (by rw [←hG];exact hqw:q<G))
 obtain⟨⟨⟨f1,f2⟩,s2⟩,hR⟩:∃R,dclS s t.data.toList p true=R:=⟨_,rfl⟩
 rw [hR]
 have HRR:=hZ hR
 clear hR
 unfold fltV
 go_enter Tryz.func26,Tryz.ntmps26
 go_upto_region 1 with fail
 try rw [hw2]
 try rw [hG]
 clear hw2 h b2 hG
 obtain⟨m0,m1,m2,m3,m4,m5,m6,m7,m8,m9⟩:=ten_at n2
 have CD:=hZ (declare_any (k:=k) (vk:=vk) (vn:=vn) (p:=p) (t:=t) (vs:=vs) (al:=al) (ak:=ak) (a:=a) (ll:=ll) (cl:=cl) (lk:=lk) (ck:=ck) (m:=m) (cc:=cc) (f:=f) (x:=true) ht hfew (uZ H2))
 rw [uZ HRR] at CD
 go_wp2_with fail
 refine(uZ CD).mono ?_
 rintro e w3 ⟨rfl,nv1,sv1,n1,S3,M3,hn1⟩
 have r3:=keepF_of_mvd (uZ H2) M3 (G+1) _ _ (by decide) (by decide) (by decide) r2
 obtain⟨k0,k1⟩:=two_at r3
 have y0:=frozen_of_row w3 (G+1) 0 _ _ r3
 have y1:=frozen_of_row w3 (G+1) 1 _ _ r3
 have HE:=hZ (And.intro (put2 r3 (.int .i64 f1) (.int .i64 f2)) (scm_fin S3 ((Mvd.of_below q b nv sv (uZ HG2).2).trans M3) (uZ HGe) r3 (.int .i64 f1) (.int .i64 f2)))
 have HN1:=hZ hn1
 clear CD S3 M3 r3 hn1 r2 n2
 go_wp2_with fail
 exact rtF (p:=4) rfl rfl (uZ HE).1 rfl ⟨rfl,_,_,_,(uZ HE).2.1,(uZ HE).2.2,uZ HN1⟩
theorem let_any {k vk vn p:Int} {t vs:ByteArray} {al ak a:Option Addr} {ll cl lk ck m cc:Nat} {f:Bool} {w:World} {lo q b n:Nat} {nv sv:Value} {s:Sco} (ht:t.size≤maxLen) (hfew:s.vars.length<1099511627776∧n<1099511627776) (h:ScM w lo q b n nv sv s):Calls Tryz.prog 49 #[.pointer (some ⟨q,0,none⟩),.agg #[.int .i64 k,.string t,.int .i64 vk,.int .i64 vn,.string vs,.slice al ll cl,.slice ak lk ck,.bool f,.slice a m cc,.int .i64 p]] w fun e w'=>e=.returned (fltV (dclS s t.data.toList p (decide (0<m))).1)∧DclP w w' lo q b n nv sv (dclS s t.data.toList p (decide (0<m))).2:=by
 have hqw:=ltR h.hq
 obtain⟨w2,hw2,n2,r2,b2⟩:=bxs k vk vn p t vs al ak a ll cl lk ck m cc f w
 have H2:=hZ (h.below b2)
 obtain⟨G,hG⟩:=eX (w.heap.size)
 rw [hG] at n2 r2
 have HG2:=hZ (And.intro hG b2)
 have HGe:=hZ (And.intro hG (by rw [←hG];exact hqw:q<G))
 obtain⟨⟨⟨f1,f2⟩,s2⟩,hR⟩:∃R,dclS s t.data.toList p (decide (0<m))=R:=⟨_,rfl⟩
 rw [hR]
 have HRR:=hZ hR
 clear hR
 unfold fltV
 go_enter Tryz.func49,Tryz.ntmps49
 go_upto_region 1 with fail
 try rw [hw2]
 try rw [hG]
 clear hw2 h b2 hG
 obtain⟨m0,m1,m2,m3,m4,m5,m6,m7,m8,m9⟩:=ten_at n2
 by_cases hm0:0<m
 ·have hx:decide (0<m)=true:=by simpa using hm0
  have hm1:(0:Int)<(m:Int):=by omega
  have CD:=hZ (declare_any (k:=k) (vk:=vk) (vn:=vn) (p:=p) (t:=t) (vs:=vs) (al:=al) (ak:=ak) (a:=a) (ll:=ll) (cl:=cl) (lk:=lk) (ck:=ck) (m:=m) (cc:=cc) (f:=f) (x:=decide (0<m)) ht hfew (uZ H2))
  rw [uZ HRR] at CD
  rw [hx] at CD
  clear hx
  go_wp2_with fail
  refine(uZ CD).mono ?_
  rintro e w3 ⟨rfl,nv1,sv1,n1,S3,M3,hn1⟩
  have r3:=keepF_of_mvd (uZ H2) M3 (G+1) _ _ (by decide) (by decide) (by decide) r2
  obtain⟨k0,k1⟩:=two_at r3
  have y0:=frozen_of_row w3 (G+1) 0 _ _ r3
  have y1:=frozen_of_row w3 (G+1) 1 _ _ r3
  have HE:=hZ (And.intro (put2 r3 (.int .i64 f1) (.int .i64 f2)) (scm_fin S3 ((Mvd.of_below q b nv sv (uZ HG2).2).trans M3) (uZ HGe) r3 (.int .i64 f1) (.int .i64 f2)))
  have HN1:=hZ hn1
  clear CD S3 M3 r3 hn1 r2 n2
  go_wp2_with fail
  exact rtF (p:=4) rfl rfl (uZ HE).1 rfl ⟨rfl,_,_,_,(uZ HE).2.1,(uZ HE).2.2,uZ HN1⟩
 ·have hx:decide (0<m)=false:=by simpa using hm0
  have hm1:¬(0:Int)<(m:Int):=by omega
  have CD:=hZ (declare_any (k:=k) (vk:=vk) (vn:=vn) (p:=p) (t:=t) (vs:=vs) (al:=al) (ak:=ak) (a:=a) (ll:=ll) (cl:=cl) (lk:=lk) (ck:=ck) (m:=m) (cc:=cc) (f:=f) (x:=decide (0<m)) ht hfew (uZ H2))
  rw [uZ HRR] at CD
  rw [hx] at CD
  clear hx
  go_wp2_with fail
  refine(uZ CD).mono ?_
  rintro e w3 ⟨rfl,nv1,sv1,n1,S3,M3,hn1⟩
  have r3:=keepF_of_mvd (uZ H2) M3 (G+1) _ _ (by decide) (by decide) (by decide) r2
  obtain⟨k0,k1⟩:=two_at r3
  have y0:=frozen_of_row w3 (G+1) 0 _ _ r3
  have y1:=frozen_of_row w3 (G+1) 1 _ _ r3
  have HE:=hZ (And.intro (put2 r3 (.int .i64 f1) (.int .i64 f2)) (scm_fin S3 ((Mvd.of_below q b nv sv (uZ HG2).2).trans M3) (uZ HGe) r3 (.int .i64 f1) (.int .i64 f2)))
  have HN1:=hZ hn1
  clear CD S3 M3 r3 hn1 r2 n2
  go_wp2_with fail
  exact rtF (p:=4) rfl rfl (uZ HE).1 rfl ⟨rfl,_,_,_,(uZ HE).2.1,(uZ HE).2.2,uZ HN1⟩
def stL (g:Tn→Sco→Ft × Sco):List Tn→Sco→Nat→Sco
 |_,s,0=>s
 |[],s,_+1=>s
 |n :: r,s,i+1=>stL g r (g n s).2 i
def rL (g:Tn→Sco→Ft × Sco) (ns:List Tn) (s:Sco) (i:Nat):Ft:=match ns[i]? with
 |some y=>(g y (stL g ns s i)).1
 |none=>(0,0)
theorem stL_zero (g:Tn→Sco→Ft × Sco) (ns:List Tn) (s:Sco):stL g ns s 0=s:=by cases ns <;> rfl
theorem stL_succ (g:Tn→Sco→Ft × Sco):∀(ns:List Tn) (s:Sco) (i:Nat) (y:Tn),ns[i]?=some y→stL g ns s (i+1)=(g y (stL g ns s i)).2
 |[],_,_,_,h=>by simp at h
 |n :: r,s,0,y,h=>by
  simp only [List.getElem?_cons_zero,Option.some.injEq] at h
  subst h
  cases r <;> rfl
 |n :: r,s,i+1,y,h=>by
  have ih:=stL_succ g r (g n s).2 i y (by simpa using h)
  show stL g r (g n s).2 (i+1)=_
  rw [ih]
  rfl
theorem rL_cons (g:Tn→Sco→Ft × Sco) (n:Tn) (r:List Tn) (s:Sco) (i:Nat):rL g (n :: r) s (i+1)=rL g r (g n s).2 i:=by
 unfold rL
 simp only [List.getElem?_cons_succ]
 rfl
theorem rL_zero (g:Tn→Sco→Ft × Sco) (n:Tn) (r:List Tn) (s:Sco):rL g (n :: r) s 0=(g n s).1:=rfl
theorem ck_all (g:Tn→Sco→Ft × Sco):∀(ns:List Tn) (s:Sco),(∀j,j<ns.length→(rL g ns s j).2=0)→ckL g ns s=((0,0),stL g ns s ns.length)
 |[],_,_=>rfl
 |n :: r,s,h=>by
  have h0:=h 0 (by simp)
  rw [rL_zero] at h0
  have ih:=ck_all g r (g n s).2 (fun j hj=>by rw [←rL_cons];exact h (j+1) (by simpa using hj))
  simp only [ckL,if_pos h0]
  exact ih
theorem ck_at (g:Tn→Sco→Ft × Sco):∀(ns:List Tn) (s:Sco) (i:Nat),i<ns.length→(∀j,j<i→(rL g ns s j).2=0)→(rL g ns s i).2≠0→ckL g ns s=(rL g ns s i,stL g ns s (i+1))
 |[],_,_,h,_,_=>by simp at h
 |n :: r,s,0,_,_,h=>by
  rw [rL_zero] at h ⊢
  simp only [ckL,if_neg h]
  cases r <;> rfl
 |n :: r,s,i+1,hl,h,h1=>by
  have h0:=h 0 (by omega)
  rw [rL_zero] at h0
  rw [rL_cons] at h1 ⊢
  have ih:=ck_at g r (g n s).2 i (by simpa using hl) (fun j hj=>by rw [←rL_cons];exact h (j+1) (by omega)) h1
  simp only [ckL,if_pos h0]
  exact ih
theorem fF_all (r:Nat→Ft):∀(m i:Nat),(∀j,i≤j→j<i+m→(r j).2=0)→fF r m i=(0,0)
 |0,_,_=>rfl
 |m+1,i,h=>by
  rw [fF,if_pos (h i (Nat.le_refl _) (by omega))]
  exact fF_all r m (i+1) (fun j h1 h2=>h j (by omega) (by omega))
def MvP (w w':World) (lo q b n m:Nat) (nv sv:Value) (s:Sco):Prop:=∃nv' sv' n',ScM w' lo q b n' nv' sv' s∧Mvd w w' q b nv sv nv' sv'∧n'≤n+m
theorem ScM.bes {w w':World} {lo q b n:Nat} {nv sv:Value} {s:Sco} {P:Nat→Prop} (h:ScM w lo q b n nv sv s) (hb:Besk P w w') (hP:∀k,P k→∃c T fz,w.heap[k]?=some (.cells c T fz)∧T≠9∧T≠4∧T≠61):ScM w' lo q b n nv sv s where
 hq:=(hb.block q (ltR h.hq) (fun hp=>by
  obtain⟨c,T,fz,e,_,_,h3⟩:=hP q hp
  have hq:=h.hq
  rw [e] at hq
  injection hq with hq
  injection hq with _ e2 _
  exact h3 e2)).trans h.hq
 hm:=h.hm.later (hb.block b h.hm.lt (fun hp=>by
  obtain⟨c,T,fz,e,_⟩:=hP b hp
  obtain⟨es,ck,h1⟩:=h.hm.isMap
  rw [e] at h1
  cases h1))
 hnv:=own_bes hb h.hnv (fun z hz hp=>by
  obtain⟨c,T,fz,e,h1,_⟩:=hP z hp
  rcases own_form h.hnv with ⟨e1,_⟩|⟨g,cap,cur,e1,_,_,hg⟩
  ·rw [e1] at hz;cases hz
  ·rw [e1] at hz
   have e3:g=z:=by simpa [Value.ownBlock] using hz
   subst e3
   rw [e] at hg
   injection hg with hg
   injection hg with _ e2 _
   exact h1 e2)
 hsv:=own_bes hb h.hsv (fun z hz hp=>by
  obtain⟨c,T,fz,e,_,h1,_⟩:=hP z hp
  rcases own_form h.hsv with ⟨e1,_⟩|⟨g,cap,cur,e1,_,_,hg⟩
  ·rw [e1] at hz;cases hz
  ·rw [e1] at hz
   have e3:g=z:=by simpa [Value.ownBlock] using hz
   subst e3
   rw [e] at hg
   injection hg with hg
   injection hg with _ e2 _
   exact h1 e2)
 len:=h.len
 few:=h.few
 hlo:=⟨h.hlo.1,h.hlo.2.1,Nat.le_trans h.hlo.2.2 hb.size⟩
def LookS (w0:World) (lo q b B0:Nat) (nv0 sv0:Value) (m:Tn→Nat) (ok:Tn→Sco→Prop) (g:Tn→Sco→Ft × Sco) (F:FuncId) (Bd cap:Array Value):Prop:=∀(u:World) (nv sv:Value) (n:Nat) (s:Sco) (y:Tn) (x:List Value),Mvd w0 u q b nv0 sv0 nv sv→ScM u lo q b n nv sv s→n+m y≤1099511627776→ok y s→IsN u (fun b=>b<B0) y x →
 Calls Tryz.prog F (Bd++#[.agg x.toArray]++cap) u fun e u'=>e=.returned (fltV (g y s).1)∧MvP u u' lo q b n (m y) nv sv (g y s).2
def smM (m:Tn→Nat):List Tn→Nat
 |[]=>0
 |n :: r=>m n+smM m r
theorem smM_take (m:Tn→Nat):∀(ns:List Tn) (i:Nat) (y:Tn),ns[i]?=some y→smM m (ns.take (i+1))=smM m (ns.take i)+m y
 |[],_,_,h=>by simp at h
 |n :: r,0,y,h=>by
  simp only [List.getElem?_cons_zero,Option.some.injEq] at h
  subst h
  simp [smM]
 |n :: r,i+1,y,h=>by
  have ih:=smM_take m r i y (by simpa using h)
  simp only [List.take_succ_cons,smM,ih]
  omega
theorem smM_le (m:Tn→Nat):∀(ns:List Tn) (i:Nat),smM m (ns.take i)≤smM m ns
 |[],i=>by simp [smM]
 |n :: r,0=>by simp [smM]
 |n :: r,i+1=>by
  have ih:=smM_le m r i
  simp only [List.take_succ_cons,smM]
  omega
theorem Mvd.fp {w u u':World} {q b:Nat} {nv sv nv' sv':Value} (h:Mvd w u q b nv sv nv' sv') (hb:Besk (Fp w.heap.size u) u u'):Mvd w u' q b nv sv nv' sv':=
 ⟨⟨hb.os.trans h.bes.os,hb.tape.trans h.bes.tape,hb.output.trans h.bes.output,Nat.le_trans h.bes.size hb.size,fun k hk hn=>(hb.block k (Nat.lt_of_lt_of_le hk h.bes.size) (fun hp=>by have:=hp.1;omega)).trans (h.bes.block k hk hn)⟩,h.on,h.os⟩
theorem ScM.fp {B:Nat} {w w':World} {lo q b n:Nat} {nv sv:Value} {s:Sco} (h:ScM w lo q b n nv sv s) (hb:Besk (Fp B w) w w'):ScM w' lo q b n nv sv s:=
 h.bes hb (fun k hp=>by
  obtain⟨_,c,fz,e⟩:=hp
  exact⟨c,_,fz,e,by decide,by decide,by decide⟩)
theorem Mvd.low {w u:World} {lo q b n:Nat} {nv sv nv' sv':Value} {s:Sco} (hs:ScM w lo q b n nv sv s) (h:Mvd w u q b nv sv nv' sv'):Below lo w u:=
 h.bes.low (fun k hp=>by
  rcases hp with rfl|rfl|e|e
  ·exact hs.hlo.1
  ·exact hs.hlo.2.1
  ·rcases own_form hs.hnv with ⟨e1,_⟩|⟨g,cap,cur,e1,hb,_,_⟩
   ·rw [e1] at e;cases e
   ·rw [e1] at e
    have e3:g=k:=by simpa [Value.ownBlock] using e
    omega
  ·rcases own_form hs.hsv with ⟨e1,_⟩|⟨g,cap,cur,e1,hb,_,_⟩
   ·rw [e1] at e;cases e
   ·rw [e1] at e
    have e3:g=k:=by simpa [Value.ownBlock] using e
    omega) hs.hlo.2.2
theorem first_look {w0:World} {lo q b B0:Nat} {nv0 sv0:Value} {m:Tn→Nat} {ok:Tn→Sco→Prop} {g:Tn→Sco→Ft × Sco} {F:FuncId} {Bd cap:Array Value} (hL:LookS w0 lo q b B0 nv0 sv0 m ok g F Bd cap)
  (hf:∀(x:Array Value) (u:World),Sem.run Tryz.prog (callFunc F x) u=.ok (.enter F x) u) {a:Option Addr} {n cc:Nat} {ns:List Tn} {w:World} {nv sv:Value} {k:Nat} {s:Sco} (hr:RowN w B0 ns a cc) (hn:ns.length=n) (hm:Mvd w0 w q b nv0 sv0 nv sv) (hs:ScM w lo q b k nv sv s) (hk:k+smM m ns≤1099511627776) (hB:B0≤lo)
  (hok:∀(i:Nat) (y:Tn),ns[i]?=some y→(∀j,j<i→(rL g ns s j).2=0)→ok y (stL g ns s i)) :
  Calls Tryz.prog 13 #[.slice a n cc,.func (.func F) Bd cap] w fun e w'=>e=.returned (fltV (ckL g ns s).1)∧MvP w w' lo q b k (smM m ns) nv sv (ckL g ns s).2:=by
 have h:=first_gen B0 a n cc ns F Bd cap (rL g ns s)
  (fun i u=>(∀j,j<i→(rL g ns s j).2=0)∧MvP w u lo q b k (smM m (ns.take i)) nv sv (stL g ns s i))
  (fun f u=>∃i,i<ns.length∧f=rL g ns s i∧f.2≠0∧(∀j,j<i→(rL g ns s j).2=0)∧MvP w u lo q b k (smM m (ns.take (i+1))) nv sv (stL g ns s (i+1)))
  w hf hr hn ⟨fun j hj=>absurd hj (Nat.not_lt_zero _),nv,sv,k,by rw [stL_zero];exact hs,Mvd.of_below q b nv sv (Below.refl _ _),by omega⟩
  (fun i u hI=>by
   obtain⟨_,nv',sv',k',hs',hm',_⟩:=hI
   exact(Mvd.low hs hm').mono hB)
  (Nat.le_trans hB hs.hlo.2.2)
  (fun i u u' hI hb=>by
   obtain⟨h1,nv',sv',k',hs',hm',hk'⟩:=hI
   exact⟨h1,nv',sv',k',hs'.fp hb,hm'.fp hb,hk'⟩)
  (fun f u u' hJ hb=>by
   obtain⟨i,h1,h2,h3,h4,nv',sv',k',hs',hm',hk'⟩:=hJ
   exact⟨i,h1,h2,h3,h4,nv',sv',k',hs'.fp hb,hm'.fp hb,hk'⟩)
  (fun i y u x hy hI hBu hx=>by
   obtain⟨h1,nv',sv',k',hs',hm',hk'⟩:=hI
   have ht:=smM_take m ns i y hy
   have hle:=smM_le m ns (i+1)
   have hrL:rL g ns s i=(g y (stL g ns s i)).1:=by unfold rL;rw [hy]
   refine(hL u nv' sv' k' (stL g ns s i) y x (hm.trans hm') hs' (by omega) (hok i y hy h1) hx).mono ?_
   rintro e u' ⟨he,nv2,sv2,k2,hs2,hm2,hk2⟩
   have hM:MvP w u' lo q b k (smM m (ns.take (i+1))) nv sv (stL g ns s (i+1)):=⟨nv2,sv2,k2,by rw [stL_succ g ns s i y hy];exact hs2,hm'.trans hm2,by omega⟩
   refine⟨by rw [hrL];exact he,keepF_of_mvd hs' hm2,fun h0=>⟨fun j hj=>?_,hM⟩,fun h0=>⟨i,(List.getElem?_eq_some_iff.1 hy).1,rfl,h0,h1,hM⟩⟩
   rcases Nat.lt_succ_iff_lt_or_eq.1 hj with hj|rfl
   ·exact h1 j hj
   ·exact h0)
 refine h.mono ?_
 rintro e w' ⟨he,h1,h2⟩
 by_cases h0:(fF (rL g ns s) n 0).2=0
 ·obtain⟨h3,nv',sv',k',hs',hm',hk'⟩:=h1 h0
  rw [←hn] at h3 hs' hk'
  have hc:=ck_all g ns s h3
  rw [hc]
  refine⟨?_,nv',sv',k',hs',hm',by rw [List.take_length] at hk';exact hk'⟩
  rw [he,fF_all (rL g ns s) n 0 (fun j _ hj=>h3 j (by omega))]
 ·obtain⟨i,h3,h4,h5,h6,nv',sv',k',hs',hm',hk'⟩:=h2 h0
  have hc:=ck_at g ns s i h3 h6 (by rw [←h4];exact h5)
  have hle:=smM_le m ns (i+1)
  rw [hc]
  exact⟨by rw [he,h4],nv',sv',k',hs',hm',by omega⟩
end Go.Proofs.YtjdpaihhhjdgmaaGreatDoor
