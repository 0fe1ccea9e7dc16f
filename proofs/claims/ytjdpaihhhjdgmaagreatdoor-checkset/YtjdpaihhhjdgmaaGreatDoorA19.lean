/-
  Layer 19 (check): one Fn from outside (heads$1); conditions: the table of operations as the program's text lays it.
  Layer 19 (check): all heads, all bodies; conditions: the nodes lie in memory, how deep they are, how many names there are.
  Layer 18 (print): a node's kids are as its kind says; conditions: the nodes lie in memory.
  Layer 18 (print): a node's kids are as its kind says; conditions: the nodes lie in memory.
-/
import Derived.Test.YtjdpaihhhjdgmaaGreatDoorA15
import Derived.Test.YtjdpaihhhjdgmaaGreatDoorA18
set_option linter.unusedVariables false
set_option linter.unusedSimpArgs false
set_option maxRecDepth 100000
set_option maxHeartbeats 8000000
namespace Go.Proofs.YtjdpaihhhjdgmaaGreatDoor
open Go.RowKit
set_option linter.unusedVariables false
set_option linter.unusedSimpArgs false
def heaR (tk:List UInt8→Option Int) (t:List UInt8) (m:Nat) (p:Int):Ft × (List UInt8→Option Int):=
 if (biF t).isSome=true∨(tk t).isSome=true then ((p,191),tk) else (if (m:Int) - 1≤8 then (0,0) else (p,196),fun z=>if z=t then some ((m:Int) - 1) else tk z)
theorem map_fin {w u:World} {z zn G:Nat} {g:List UInt8→Option Int} {c:Array Value} {T:TypeId} (hb:Besk (fun k=>k=z) w u) (hz:Nms u z zn g) (hr:u.heap[G+1]?=some (.cells c T (0,0))) (hG:w.heap.size=G) (x y:Value):Nms ((u.setCell ⟨G+1,0,none⟩ x).setCell ⟨G+1,1,none⟩ y) z zn g∧Besk (fun k=>k=z) w ((u.setCell ⟨G+1,0,none⟩ x).setCell ⟨G+1,1,none⟩ y):=
 ⟨nms_fin hz hr x y,(hb.set (p:=⟨G+1,0,none⟩) (Or.inr (by show _≤G+1;omega)) x).set (p:=⟨G+1,1,none⟩) (Or.inr (by show _≤G+1;omega)) y⟩
theorem heads1_any {k vk vn p:Int} {t vs:ByteArray} {al ak a:Option Addr} {ll cl lk ck m cc:Nat} {f:Bool} {w:World} {tb tn xt0:Nat} {tk:List UInt8→Option Int} (ht:t.size≤maxLen) (hT:Tab w) (hm:Nms w tb tn tk) (hxt:w.heap[xt0]?=some (.cells #[.map (some tb)] 40 (0,0))) (htn:tn<1099511627776) (hmb:m<1099511627776) :
  Calls Tryz.prog 22 #[.agg #[.int .i64 k,.string t,.int .i64 vk,.int .i64 vn,.string vs,.slice al ll cl,.slice ak lk ck,.bool f,.slice a m cc,.int .i64 p],.pointer (some ⟨xt0,0,none⟩)] w fun e w'=>e=.returned (fltV (heaR tk t.data.toList m p).1)∧(∃tn',tn'≤tn+1∧Nms w' tb tn' (heaR tk t.data.toList m p).2)∧Besk (fun k=>k=tb) w w':=by
 obtain⟨w2,hw2,n2,r2,b2⟩:=bxs k vk vn p t vs al ak a ll cl lk ck m cc f w
 obtain⟨G,hG⟩:=eX (w.heap.size)
 have hbt:=biF_of t
 have CP:=hZ (bltn_any t w2 (hT.below b2))
 have hm2:=hm.later (b2.block tb hm.lt)
 have hx2:=(b2.block _ (ltR hxt)).trans hxt
 rw [hG] at n2 r2
 have HN2:=hZ (And.intro n2 r2)
 have HB2:=hZ (show Besk (fun k=>k=tb) w w2 from Besk.of_below b2)
 have HM2:=hZ hm2
 have HX2:=hZ hx2
 have HGG:=hZ hG
 obtain⟨R,hR⟩:=eX (heaR tk t.data.toList m p)
 rw [hR]
 obtain⟨⟨op,c,ok⟩,hb⟩:∃r,bltA t=r:=⟨_,rfl⟩
 rw [hb] at CP hbt
 go_enter Tryz.func22,Tryz.ntmps22
 go_upto_region 1 with fail
 try rw [hw2]
 try rw [hG]
 clear hw2 b2 hG hm hT hxt hm2 hx2 n2 r2 hb
 obtain⟨m0,m1,m2,m3,m4,m5,m6,m7,m8,m9⟩:=ten_at (uZ HN2).1
 go_wp2_with fail
 refine(uZ CP).mono ?_
 rintro e w3 ⟨rfl,b3⟩
 have HN:=hZ (And.intro ((b3.block _ (ltR (uZ HN2).1)).trans (uZ HN2).1) ((b3.block _ (ltR (uZ HN2).2)).trans (uZ HN2).2))
 have HM:=hZ ((uZ HM2).later (b3.block _ (uZ HM2).lt))
 have HB:=hZ ((uZ HB2).trans (Besk.of_below b3))
 have HX:=hZ ((b3.block _ (ltR (uZ HX2))).trans (uZ HX2))
 clear b3 CP HN2 HM2 HB2 HX2 m0 m1 m2 m3 m4 m5 m6 m7 m8 m9
 obtain⟨m0,m1,m2,m3,m4,m5,m6,m7,m8,m9⟩:=ten_at (uZ HN).1
 have x0:=one_at (uZ HX)
 have ha:=(uZ HM).ask ht _ Tryz.underlying40
 by_cases hok:ok=true
 ·subst hok
  have hR1:R=((p,191),tk):=by rw [←hR];unfold heaR;rw [if_pos (Or.inl (by rw [hbt];rfl))]
  subst hR1
  clear hR hbt
  have C:=hZ (wrg k vk vn p t vs al ak a ll cl lk ck m cc f 191 w3)
  go_wp2_with fail
  refine(uZ C).mono ?_
  rintro e w8 ⟨rfl,b8⟩
  have r8:=(b8.block _ (ltR (uZ HN).2)).trans (uZ HN).2
  obtain⟨k0,k1⟩:=two_at r8
  have y0:=frozen_of_row w8 (G+1) 0 _ _ r8
  have y1:=frozen_of_row w8 (G+1) 1 _ _ r8
  have HE:=hZ (And.intro (put2 r8 (.int .i64 p) (.int .i64 191)) (map_fin ((uZ HB).trans (Besk.of_below b8)) ((uZ HM).later (b8.block _ (uZ HM).lt)) r8 (uZ HGG) (.int .i64 p) (.int .i64 191)))
  clear r8 b8 C
  go_wp2_with fail
  exact rtF (p:=3) rfl rfl (uZ HE).1 rfl ⟨rfl,⟨_,Nat.le_succ _,(uZ HE).2.1⟩,(uZ HE).2.2⟩
 ·have hok:ok=false:=by simpa using hok
  subst hok
  have hbn:biF t.data.toList=none:=by rw [hbt];exact if_neg (by decide)
  clear hbt
  cases ho:tk t.data.toList with
  |some v=>
   have hR1:R=((p,191),tk):=by rw [←hR];unfold heaR;rw [if_pos (Or.inr (by rw [ho];rfl))]
   subst hR1
   rw [ho] at ha
   clear hR ho hbn
   have C:=hZ (wrg k vk vn p t vs al ak a ll cl lk ck m cc f 191 w3)
   go_wp2_with fail
   refine(uZ C).mono ?_
   rintro e w8 ⟨rfl,b8⟩
   have r8:=(b8.block _ (ltR (uZ HN).2)).trans (uZ HN).2
   obtain⟨k0,k1⟩:=two_at r8
   have y0:=frozen_of_row w8 (G+1) 0 _ _ r8
   have y1:=frozen_of_row w8 (G+1) 1 _ _ r8
   have HE:=hZ (And.intro (put2 r8 (.int .i64 p) (.int .i64 191)) (map_fin ((uZ HB).trans (Besk.of_below b8)) ((uZ HM).later (b8.block _ (uZ HM).lt)) r8 (uZ HGG) (.int .i64 p) (.int .i64 191)))
   clear r8 b8 C
   go_wp2_with fail
   exact rtF (p:=3) rfl rfl (uZ HE).1 rfl ⟨rfl,⟨_,Nat.le_succ _,(uZ HE).2.1⟩,(uZ HE).2.2⟩
  |none=>
   have hR1:R=(if (m:Int) - 1≤8 then ((0,0):Ft) else (p,196),fun z=>if z=t.data.toList then some ((m:Int) - 1) else tk z):=by rw [←hR];unfold heaR;rw [if_neg (by rw [hbn,ho];simp)]
   rw [ho] at ha
   clear hR ho hbn
   obtain⟨w4,hput,hm4,hg4⟩:=(uZ HM).put ht (x:=(m:Int) - 1) ⟨by omega,by omega⟩ (by unfold maxLen;omega) _ Tryz.underlying40
   have hb4:=bes_grown hg4
   have kf:=keepF_map (uZ HM) hb4
   have HN4:=hZ (And.intro (kf _ _ _ (by decide) (by decide) (by decide) (uZ HN).1) (kf _ _ _ (by decide) (by decide) (by decide) (uZ HN).2))
   have HX4:=hZ (kf _ _ _ (by decide) (by decide) (by decide) (uZ HX))
   have HB4:=hZ ((uZ HB).trans hb4)
   have HM4:=hZ hm4
   clear hm4 hg4 hb4 kf
   go_upto_region 6 with fail
   clear m0 m1 m2 m3 m4 m5 m6 m7 m8 m9 x0 ha hput HN HX HB HM
   have HN:=HN4
   have HB:=HB4
   have HM:=HM4
   clear HN4 HB4 HM4
   obtain⟨m0,m1,m2,m3,m4,m5,m6,m7,m8,m9⟩:=ten_at (uZ HN).1
   have x0:=one_at (uZ HX4)
   have ha:=(uZ HM).get ht _ Tryz.underlying40
   simp only [if_true,Option.getD_some] at ha
   by_cases h8:(m:Int) - 1≤8
   ·rw [if_pos h8] at hR1
    subst hR1
    have h9:¬(8:Int)<(m:Int) - 1:=by omega
    have r8:=(uZ HN).2
    obtain⟨k0,k1⟩:=two_at r8
    have y0:=frozen_of_row w4 (G+1) 0 _ _ r8
    have y1:=frozen_of_row w4 (G+1) 1 _ _ r8
    have HE:=hZ (And.intro (put2 r8 (.int .i64 0) (.int .i64 0)) (map_fin (uZ HB) (uZ HM) r8 (uZ HGG) (.int .i64 0) (.int .i64 0)))
    clear r8
    go_wp2_with fail
    exact rtF (p:=3) rfl rfl (uZ HE).1 rfl ⟨rfl,⟨_,Nat.le_refl _,(uZ HE).2.1⟩,(uZ HE).2.2⟩
   ·rw [if_neg h8] at hR1
    subst hR1
    have h9:(8:Int)<(m:Int) - 1:=by omega
    have C:=hZ (wrg k vk vn p t vs al ak a ll cl lk ck m cc f 196 w4)
    go_wp2_with fail
    refine(uZ C).mono ?_
    rintro e w8 ⟨rfl,b8⟩
    have r8:=(b8.block _ (ltR (uZ HN).2)).trans (uZ HN).2
    obtain⟨k0,k1⟩:=two_at r8
    have y0:=frozen_of_row w8 (G+1) 0 _ _ r8
    have y1:=frozen_of_row w8 (G+1) 1 _ _ r8
    have HE:=hZ (And.intro (put2 r8 (.int .i64 p) (.int .i64 196)) (map_fin ((uZ HB).trans (Besk.of_below b8)) ((uZ HM).later (b8.block _ (uZ HM).lt)) r8 (uZ HGG) (.int .i64 p) (.int .i64 196)))
    clear r8 b8 C
    go_wp2_with fail
    exact rtF (p:=3) rfl rfl (uZ HE).1 rfl ⟨rfl,⟨_,Nat.le_refl _,(uZ HE).2.1⟩,(uZ HE).2.2⟩
theorem headsF_any {w:World} {tb:Nat}:Calls Tryz.prog 14 #[.map (some tb)] w fun e w'=>∃xm,e=.returned (.func (.func 22) #[] #[.pointer (some ⟨xm,0,none⟩)])∧w.heap.size≤xm∧w'.heap[xm]?=some (.cells #[.map (some tb)] 40 (0,0))∧Below w.heap.size w w':=by
 obtain⟨G,hG⟩:=eX (w.heap.size)
 obtain⟨w2,hw2⟩:=eX (w.alloc (.cells #[.map (some tb)] 40))
 have n2:w2.heap[G]?=some (.cells #[.map (some tb)] 40 (0,0)):=alN hw2 hG
 have b2:=alB hw2
 rw [hG] at b2
 have H:=hZ (And.intro n2 b2)
 go_enter Tryz.func14,Tryz.ntmps14
 go_upto_region 1 with fail
 try rw [hw2]
 try rw [hG]
 clear hw2 n2 b2
 go_wp2_with fail
 go_ret
 exact⟨G,rfl,Nat.le_of_eq hG,(uZ H).1,by rw [hG];exact(uZ H).2⟩
theorem bodiesF_any {w:World} {tb:Nat}:Calls Tryz.prog 15 #[.map (some tb)] w fun e w'=>∃xm,e=.returned (.func (.func 25) #[] #[.pointer (some ⟨xm,0,none⟩)])∧w.heap.size≤xm∧w'.heap[xm]?=some (.cells #[.map (some tb)] 40 (0,0))∧Below w.heap.size w w':=by
 obtain⟨G,hG⟩:=eX (w.heap.size)
 obtain⟨w2,hw2⟩:=eX (w.alloc (.cells #[.map (some tb)] 40))
 have n2:w2.heap[G]?=some (.cells #[.map (some tb)] 40 (0,0)):=alN hw2 hG
 have b2:=alB hw2
 rw [hG] at b2
 have H:=hZ (And.intro n2 b2)
 go_enter Tryz.func15,Tryz.ntmps15
 go_upto_region 1 with fail
 try rw [hw2]
 try rw [hG]
 clear hw2 n2 b2
 go_wp2_with fail
 go_ret
 exact⟨G,rfl,Nat.le_of_eq hG,(uZ H).1,by rw [hG];exact(uZ H).2⟩
def heaY (tk:List UInt8→Option Int) (y:Tn):Ft × (List UInt8→Option Int):=heaR tk y.t.data.toList y.ks.length y.p
def heaL:(List UInt8→Option Int)→List Tn→Ft × (List UInt8→Option Int)
 |tk,[]=>((0,0),tk)
 |tk,y :: r=>if (heaY tk y).1.2=0 then heaL (heaY tk y).2 r else heaY tk y
def stH:(List UInt8→Option Int)→List Tn→Nat→(List UInt8→Option Int)
 |tk,_,0=>tk
 |tk,[],_+1=>tk
 |tk,y :: r,i+1=>stH (heaY tk y).2 r i
def rH (tk:List UInt8→Option Int) (ns:List Tn) (i:Nat):Ft:=match ns[i]? with
 |some y=>(heaY (stH tk ns i) y).1
 |none=>(0,0)
theorem stH_zero (tk:List UInt8→Option Int) (ns:List Tn):stH tk ns 0=tk:=by cases ns <;> rfl
theorem stH_succ:∀(tk:List UInt8→Option Int) (ns:List Tn) (i:Nat) (y:Tn),ns[i]?=some y→stH tk ns (i+1)=(heaY (stH tk ns i) y).2
 |_,[],_,_,h=>by simp at h
 |tk,n :: r,0,y,h=>by
  simp only [List.getElem?_cons_zero,Option.some.injEq] at h
  subst h
  cases r <;> rfl
 |tk,n :: r,i+1,y,h=>by
  have ih:=stH_succ (heaY tk n).2 r i y (by simpa using h)
  show stH (heaY tk n).2 r (i+1)=_
  rw [ih]
  rfl
theorem rH_cons (tk:List UInt8→Option Int) (n:Tn) (r:List Tn) (i:Nat):rH tk (n :: r) (i+1)=rH (heaY tk n).2 r i:=by
 unfold rH
 simp only [List.getElem?_cons_succ]
 rfl
theorem rH_zero (tk:List UInt8→Option Int) (n:Tn) (r:List Tn):rH tk (n :: r) 0=(heaY tk n).1:=rfl
theorem hea_all:∀(ns:List Tn) (tk:List UInt8→Option Int),(∀j,j<ns.length→(rH tk ns j).2=0)→heaL tk ns=((0,0),stH tk ns ns.length)
 |[],_,_=>rfl
 |n :: r,tk,h=>by
  have h0:=h 0 (by simp)
  rw [rH_zero] at h0
  have ih:=hea_all r (heaY tk n).2 (fun j hj=>by rw [←rH_cons];exact h (j+1) (by simpa using hj))
  simp only [heaL,if_pos h0]
  exact ih
theorem hea_at:∀(ns:List Tn) (tk:List UInt8→Option Int) (i:Nat),i<ns.length→(∀j,j<i→(rH tk ns j).2=0)→(rH tk ns i).2≠0→heaL tk ns=(rH tk ns i,stH tk ns (i+1))
 |[],_,_,h,_,_=>by simp at h
 |n :: r,tk,0,_,_,h=>by
  rw [rH_zero] at h ⊢
  simp only [heaL,if_neg h]
  cases r <;> rfl
 |n :: r,tk,i+1,hl,h,h1=>by
  have h0:=h 0 (by omega)
  rw [rH_zero] at h0
  rw [rH_cons] at h1 ⊢
  have ih:=hea_at r (heaY tk n).2 i (by simpa using hl) (fun j hj=>by rw [←rH_cons];exact h (j+1) (by omega)) h1
  simp only [heaL,if_pos h0]
  exact ih
structure HeI (w:World) (tb xm tn:Nat) (tk:List UInt8→Option Int) (ns:List Tn) (i:Nat) (u:World):Prop where
 ok:∀j,j<i→(rH tk ns j).2=0
 mp:∃tn',tn'≤tn+i∧Nms u tb tn' (stH tk ns i)
 bs:Besk (fun k=>k=tb) w u
 cx:u.heap[xm]?=some (.cells #[.map (some tb)] 40 (0,0))
theorem besk_fp {w u u':World} {tb:Nat} (h:Besk (fun k=>k=tb) w u) (hb:Besk (Fp w.heap.size u) u u'):Besk (fun k=>k=tb) w u':=
 ⟨hb.os.trans h.os,hb.tape.trans h.tape,hb.output.trans h.output,Nat.le_trans h.size hb.size,fun k hk hn=>(hb.block k (Nat.lt_of_lt_of_le hk h.size) (fun hp=>by have:=hp.1;omega)).trans (h.block k hk hn)⟩
theorem heads_first {w:World} {B0 m cc tb xm tn:Nat} {a:Option Addr} {tk:List UInt8→Option Int} {ns:List Tn} (hT:Tab w) (hm:Nms w tb tn tk) (hxm:w.heap[xm]?=some (.cells #[.map (some tb)] 40 (0,0))) (hr:RowN w B0 ns a cc) (hn:ns.length=m) (hB:B0≤tb) (hG:0<tb) (hk:tn+m<1099511627776) (hy:∀y∈ns,y.t.size≤maxLen∧y.ks.length<1099511627776) :
  Calls Tryz.prog 13 #[.slice a m cc,.func (.func 22) #[] #[.pointer (some ⟨xm,0,none⟩)]] w fun e w'=>e=.returned (fltV (heaL tk ns).1)∧(∃tn',Nms w' tb tn' (heaL tk ns).2)∧Besk (fun k=>k=tb) w w':=by
 have htb:=hm.lt
 have hlow:∀u,Besk (fun k=>k=tb) w u→Below tb w u:=fun u h=>h.low (fun k e=>by omega) (by omega)
 have hgen:=first_gen B0 a m cc ns 22 #[] #[.pointer (some ⟨xm,0,none⟩)] (rH tk ns) (HeI w tb xm tn tk ns)
  (fun f u=>f=(heaL tk ns).1∧(∃tn',Nms u tb tn' (heaL tk ns).2)∧Besk (fun k=>k=tb) w u) w (fun x u=>rfl) hr hn
  ⟨fun j hj=>absurd hj (Nat.not_lt_zero _),⟨tn,Nat.le_refl _,by rw [stH_zero];exact hm⟩,Besk.refl _ w,hxm⟩
  (fun i u hI=>(hlow u hI.bs).mono hB) (by omega)
  (fun i u u' hI hb=>by
   obtain⟨tn',h1,h2⟩:=hI.mp
   exact⟨hI.ok,⟨tn',h1,fp_nms hb h2⟩,besk_fp hI.bs hb,fp_keep hb hI.cx (by decide)⟩)
  (fun f u u' hJ hb=>by
   obtain⟨e,⟨tn',h2⟩,h3⟩:=hJ
   exact⟨e,⟨tn',fp_nms hb h2⟩,besk_fp h3 hb⟩)
  (fun i y u x hy' hI hBu hx=>by
   obtain⟨tn',h1,h2⟩:=hI.mp
   have hil:i<ns.length:=(List.getElem?_eq_some_iff.1 hy').1
   have hyy:=hy y (List.mem_of_getElem? hy')
   obtain⟨vk,vn,vs,al,ak,ya,ll,cl,lk,ck,yc,rfl,_⟩:=hx.opn
   have hrH:rH tk ns i=(heaY (stH tk ns i) y).1:=by unfold rH;rw [hy']
   rw [hrH]
   refine(heads1_any (f:=y.f) hyy.1 (hT.later (hlow u hI.bs) hG hI.bs.size) h2 hI.cx (by omega) hyy.2).mono ?_
   rintro e u' ⟨he,⟨tn2,h3,h4⟩,h5⟩
   have hst:stH tk ns (i+1)=(heaY (stH tk ns i) y).2:=stH_succ tk ns i y hy'
   have hbs:Besk (fun k=>k=tb) w u':=hI.bs.trans h5
   have kf:=keepF_map h2 h5
   refine⟨he,kf,fun h0=>⟨fun j hj=>?_,⟨tn2,by omega,by rw [hst];exact h4⟩,hbs,kf _ _ _ (by decide) (by decide) (by decide) hI.cx⟩,fun h0=>?_⟩
   ·rcases Nat.lt_succ_iff_lt_or_eq.1 hj with hj|rfl
    ·exact hI.ok j hj
    ·rw [hrH]
     exact h0
   ·have hat:=hea_at ns tk i hil hI.ok (by rw [hrH];exact h0)
    rw [hat,hrH,hst]
    exact⟨rfl,⟨tn2,h4⟩,hbs⟩)
 refine hgen.mono ?_
 rintro e w' ⟨he,k1,k2⟩
 by_cases h0:(fF (rH tk ns) m 0).2=0
 ·have hI:=k1 h0
  obtain⟨tn',h1,h2⟩:=hI.mp
  have hall:=hea_all ns tk (fun j hj=>hI.ok j (by omega))
  rw [hall]
  rw [←hn] at h2
  refine⟨?_,⟨tn',h2⟩,hI.bs⟩
  rw [he,fF_all (rH tk ns) m 0 (fun j _ hj=>hI.ok j (by omega))]
 ·obtain⟨h3,h4⟩:=k2 h0
  exact⟨by rw [he,h3],h4⟩
def bodL (tk:List UInt8→Option Int) (d:Nat):List Tn→Ft
 |[]=>(0,0)
 |y :: r=>if (bodS tk d y.ks).2=0 then bodL tk d r else bodS tk d y.ks
def rB (tk:List UInt8→Option Int) (d:Nat) (ns:List Tn) (i:Nat):Ft:=match ns[i]? with
 |some y=>bodS tk d y.ks
 |none=>(0,0)
theorem bod_fF (tk:List UInt8→Option Int) (d:Nat) (ns:List Tn):∀(m i:Nat),i+m=ns.length→fF (rB tk d ns) m i=bodL tk d (ns.drop i)
 |0,i,h=>by
  rw [List.drop_eq_nil_of_le (by omega)]
  rfl
 |m+1,i,h=>by
  have hi:i<ns.length:=by omega
  rw [List.drop_eq_getElem_cons hi]
  have hr:rB tk d ns i=bodS tk d ns[i].ks:=by unfold rB;rw [List.getElem?_eq_getElem hi]
  simp only [fF,bodL,hr]
  rw [bod_fF tk d ns m (i+1) (by omega)]
def FnOk (d:Nat) (y:Tn):Prop:=(y.t.size≤140737488351232∧y.ks.length<1099511627776)∧(∃j z,y.ks.length=j+1∧y.ks[j]?=some z∧fmK d z∧y.ks.length+mK d z≤1099511627776)∧∀p∈y.ks,p.t.size≤140737488351232
theorem bodies_first {w:World} {B0 m cc tb xm tn d:Nat} {a:Option Addr} {tk:List UInt8→Option Int} {ns:List Tn} (hT:Tab w) (hm:Nms w tb tn tk) (hxm:w.heap[xm]?=some (.cells #[.map (some tb)] 40 (0,0))) (hr:RowN w B0 ns a cc) (hn:ns.length=m) (hB:B0≤w.heap.size) (hd:d≤1099511627776) (hy:∀y∈ns,FnOk d y) :
  Calls Tryz.prog 13 #[.slice a m cc,.func (.func 25) #[] #[.pointer (some ⟨xm,0,none⟩)]] w fun e w'=>e=.returned (fltV (bodL tk d ns))∧Below w.heap.size w w':=by
 have hgen:=first_gen B0 a m cc ns 25 #[] #[.pointer (some ⟨xm,0,none⟩)] (rB tk d ns) (fun i u=>Below w.heap.size w u)
  (fun f u=>Below w.heap.size w u) w (fun x u=>rfl) hr hn (Below.refl _ _) (fun i u hI=>hI.mono hB) hB
  (fun i u u' hI hb=>fp_low hI hb) (fun f u u' hJ hb=>fp_low hJ hb)
  (fun i y u x hy' hI hBu hx=>by
   have hyy:=hy y (List.mem_of_getElem? hy')
   obtain⟨⟨_,_⟩,⟨j,z,hj,hz,hfm,hk⟩,hp⟩:=hyy
   obtain⟨vk,vn,vs,al,ak,ya,ll,cl,lk,ck,yc,rfl,_,hrow,_⟩:=hx.opn
   obtain⟨b1,_,rfl,_⟩:=hrow.at hz
   have hrB:rB tk d ns i=bodS tk d y.ks:=by unfold rB;rw [hy']
   rw [hrB]
   refine(bodies1_any (f:=y.f) (hT.below hI) (hm.later (hI.block tb hm.lt)) ((hI.block xm (ltR hxm)).trans hxm) hrow rfl hBu hj hz hfm hp hk hd).mono ?_
   rintro e u' ⟨he,hb⟩
   have hl:=hI.trans (hb.mono hI.size)
   exact⟨he,KeepF.of_below hb,fun _=>hl,fun _=>hl⟩)
 refine hgen.mono ?_
 rintro e w' ⟨he,k1,k2⟩
 have hf:=bod_fF tk d ns m 0 (by omega)
 rw [List.drop_zero] at hf
 refine⟨by rw [he,hf],?_⟩
 by_cases h0:(fF (rB tk d ns) m 0).2=0
 ·exact k1 h0
 ·exact k2 h0
theorem kids0_any (B0:Nat) (ks:List Tn) (k vk vn p:Int) (t vs:ByteArray) (al ak a:Option Addr) (ll cl lk ck n cc:Nat) (f:Bool) (w:World) (hB:B0≤w.heap.size) (hr:RowN w B0 ks a cc) (hn:ks.length=n) (hk:k=1):Calls Tryz.prog 87 #[.agg #[.int .i64 k,.string t,.int .i64 vk,.int .i64 vn,.string vs,.slice al ll cl,.slice ak lk ck,.bool f,.slice a n cc,.int .i64 p]] w fun e w'=>e=.returned (.bool (kdB k (ks.map (·.k))))∧Below w.heap.size w w':=by
 have HK:=hZ hk
 clear hk
 obtain⟨w1,hw1⟩:=eX (w.alloc (.cells #[.int .i64 k,.string t,.int .i64 vk,.int .i64 vn,.string vs,.slice al ll cl,.slice ak lk ck,.bool f,.slice a n cc,.int .i64 p] 28))
 obtain⟨G,hG⟩:=eX (w.heap.size)
 have A1:=(al1 hw1 hG).1
 have HX:=hZ (alB hw1)
 obtain⟨c0,_,_,_,_,_,_,_,c8,_⟩:=row_ten A1
 have HA:=hZ A1
 obtain⟨R,hR⟩:=eX ((kdB k (ks.map (·.k))))
 rw [hR]
 have HR:=hZ hR
 have HW:=hZ hw1
 have HH:=hZ (And.intro (hr.later ((uZ HX).mono hB)) (And.intro hn (And.intro (Nat.le_trans hB (uZ HX).size) hB)))
 have hnb:n≤140737488351232:=by rw [←hn];exact hr.len
 have hncc:n≤cc:=by obtain⟨C,hf,_⟩:=hr;rw [←hn];exact hf.ll
 have HM:=hZ (show (ks.map (·.k)).length=n by rw [List.length_map];exact hn)
 clear hr hB hn
 clear A1 hw1 hR
 go_enter Tryz.func87,Tryz.ntmps87
 go_upto_region 1 with fail
 rw [uZ HW]
 try rw [hG]
 clear HW
 have hk:=uZ HK
 clear HK
 rcases hk with rfl
 ·have CC:=hZ (allG_any B0 a n cc (ks) _ (fun y=>decide (y.k=2)) w1 call_isFn (uZ HH).1 (uZ HH).2.1 (uZ HH).2.2.1 (fun y _=>isFn_any_ask B0 y))
  obtain⟨q,hq⟩:=eX (ks.all (fun y=>decide (y.k=2)))
  rw [hq] at CC
  have HQ:=hZ hq
  clear hq
  go_wp2_with fail
  refine(uZ CC).mono ?_
  rintro e w2 ⟨rfl,b2⟩
  have HV:=hZ (show R=q by rw [←uZ HR,←uZ HQ,show kdB 1 (ks.map (·.k))=(ks.map (·.k)).all (fun x=>decide (x=2)) by simp [kdB],all_k])
  have HB:=hZ ((uZ HX).trans (b2.mono (uZ HX).size))
  clear b2 CC
  go_wp2_with fail
  go_ret
  exact⟨by rw [uZ HV];rfl,by first|exact uZ HB|(rw [←hG];exact uZ HB)|(rw [hG];exact uZ HB)⟩
theorem kids1_any (B0:Nat) (ks:List Tn) (k vk vn p:Int) (t vs:ByteArray) (al ak a:Option Addr) (ll cl lk ck n cc:Nat) (f:Bool) (w:World) (hB:B0≤w.heap.size) (hr:RowN w B0 ks a cc) (hn:ks.length=n) (hk:k=2):Calls Tryz.prog 87 #[.agg #[.int .i64 k,.string t,.int .i64 vk,.int .i64 vn,.string vs,.slice al ll cl,.slice ak lk ck,.bool f,.slice a n cc,.int .i64 p]] w fun e w'=>e=.returned (.bool (kdB k (ks.map (·.k))))∧Below w.heap.size w w':=by
 have HK:=hZ hk
 clear hk
 obtain⟨w1,hw1⟩:=eX (w.alloc (.cells #[.int .i64 k,.string t,.int .i64 vk,.int .i64 vn,.string vs,.slice al ll cl,.slice ak lk ck,.bool f,.slice a n cc,.int .i64 p] 28))
 obtain⟨G,hG⟩:=eX (w.heap.size)
 have A1:=(al1 hw1 hG).1
 have HX:=hZ (alB hw1)
 obtain⟨c0,_,_,_,_,_,_,_,c8,_⟩:=row_ten A1
 have HA:=hZ A1
 obtain⟨R,hR⟩:=eX ((kdB k (ks.map (·.k))))
 rw [hR]
 have HR:=hZ hR
 have HW:=hZ hw1
 have HH:=hZ (And.intro (hr.later ((uZ HX).mono hB)) (And.intro hn (And.intro (Nat.le_trans hB (uZ HX).size) hB)))
 have hnb:n≤140737488351232:=by rw [←hn];exact hr.len
 have hncc:n≤cc:=by obtain⟨C,hf,_⟩:=hr;rw [←hn];exact hf.ll
 have HM:=hZ (show (ks.map (·.k)).length=n by rw [List.length_map];exact hn)
 clear hr hB hn
 clear A1 hw1 hR
 go_enter Tryz.func87,Tryz.ntmps87
 go_upto_region 1 with fail
 rw [uZ HW]
 try rw [hG]
 clear HW
 have hk:=uZ HK
 clear HK
 rcases hk with rfl
 ·by_cases hq1:n=0
  ·have q1:¬(1:Int)≤(n:Int):=by omega
   have HV:=hZ (show R=false by rw [←uZ HR];rw [kd_fn,uZ HM,decide_eq_false (by omega),Bool.false_and,Bool.false_and])
   have HB:=HX
   go_wp2_with fail
   go_ret
   exact⟨by rw [uZ HV];rfl,by first|exact uZ HB|(rw [←hG];exact uZ HB)|(rw [hG];exact uZ HB)⟩
  ·have q1:(1:Int)≤(n:Int):=by omega
   obtain⟨m,hm⟩:∃m,n=m+1:=⟨n - 1,by omega⟩
   have q2:(n:Int) - 1=(m:Int):=by omega
   have q3:m≤cc:=by omega
   have q4:(m:Int)≤(cc:Int):=by omega
   have hmt:(ks.take m).length=m:=by rw [List.length_take,(uZ HH).2.1];omega
   have HMM:=hZ hm
   clear hm
   have CC:=hZ (allG_any B0 a m cc (ks.take m) _ (fun y=>decide (y.k=3)) w1 call_isParam ((uZ HH).1.take m) hmt (uZ HH).2.2.1 (fun y _=>isParam_any_ask B0 y))
   obtain⟨q,hq⟩:=eX ((ks.take m).all (fun y=>decide (y.k=3)))
   rw [hq] at CC
   have HQ:=hZ hq
   clear hq hmt
   go_wp2_with fail
   refine(uZ CC).mono ?_
   rintro e w2 ⟨rfl,b2⟩
   have A2:=(b2.block G (lt_of_row (uZ HA))).trans (uZ HA)
   have HB:=hZ ((uZ HX).trans (b2.mono (uZ HX).size))
   cases q with
   |false=>
    have HV:=hZ (show R=false by rw [←uZ HR,kd_fn,uZ HM,uZ HMM,Nat.add_sub_cancel,decide_eq_true (by omega),Bool.true_and,←List.map_take,all_k,uZ HQ,Bool.false_and])
    clear A2 b2 CC
    go_wp2_with fail
    go_ret
    exact⟨by rw [uZ HV];rfl,by first|exact uZ HB|(rw [←hG];exact uZ HB)|(rw [hG];exact uZ HB)⟩
   |true=>
    obtain⟨z,hz⟩:∃z,ks[m]?=some z:=⟨_,List.getElem?_eq_getElem (by rw [(uZ HH).2.1,uZ HMM];omega)⟩
    obtain⟨b,vkz,vnz,vsz,alz,akz,az,llz,clz,lkz,ckz,nz,ccz,rfl,hcz,hbz,hnz,hzz,hcellz⟩:=((uZ HH).1.later (b2.mono (uZ HH).2.2.1)).ten hz
    obtain⟨kz,tz,vz,fz,ksz,pz⟩:=z
    simp only at hcellz
    have HV:=hZ (show R=decide (kz=4) by rw [←uZ HR,kd_fn,uZ HM,uZ HMM,Nat.add_sub_cancel,decide_eq_true (by omega),Bool.true_and,←List.map_take,all_k,uZ HQ,Bool.true_and,List.getElem?_map,hz];simp)
    have hc2:=hcellz
    obtain⟨ez0,ez1,ez2,ez3,ez4,ez5,ez6,ez7,ez8,ez9⟩:=tenC hc2
    obtain⟨_,_,_,_,_,_,_,_,x8,_⟩:=row_ten A2
    have CB:=hZ (isBlock_any kz vkz vnz pz tz vsz alz akz az llz clz lkz ckz nz ccz fz w2)
    obtain⟨q,hq⟩:=eX (decide (kz=4))
    rw [hq] at CB HV
    have q5:m<n:=by rw [uZ HMM];omega
    have q6:(m:Int)<(n:Int):=by omega
    clear hq hz hzz hnz hcellz hc2 A2 b2 CC c8 c0
    go_wp2_with fail
    refine(uZ CB).mono ?_
    rintro e w3 ⟨rfl,b3⟩
    have HB3:=hZ ((uZ HB).trans (b3.mono (uZ HB).size))
    clear b3 CB HB
    have HB:=HB3
    clear HB3
    go_wp2_with fail
    go_ret
    exact⟨by rw [uZ HV];rfl,by first|exact uZ HB|(rw [←hG];exact uZ HB)|(rw [hG];exact uZ HB)⟩
theorem kids2_any (B0:Nat) (ks:List Tn) (k vk vn p:Int) (t vs:ByteArray) (al ak a:Option Addr) (ll cl lk ck n cc:Nat) (f:Bool) (w:World) (hB:B0≤w.heap.size) (hr:RowN w B0 ks a cc) (hn:ks.length=n) (hk:k=4):Calls Tryz.prog 87 #[.agg #[.int .i64 k,.string t,.int .i64 vk,.int .i64 vn,.string vs,.slice al ll cl,.slice ak lk ck,.bool f,.slice a n cc,.int .i64 p]] w fun e w'=>e=.returned (.bool (kdB k (ks.map (·.k))))∧Below w.heap.size w w':=by
 have HK:=hZ hk
 clear hk
 obtain⟨w1,hw1⟩:=eX (w.alloc (.cells #[.int .i64 k,.string t,.int .i64 vk,.int .i64 vn,.string vs,.slice al ll cl,.slice ak lk ck,.bool f,.slice a n cc,.int .i64 p] 28))
 obtain⟨G,hG⟩:=eX (w.heap.size)
 have A1:=(al1 hw1 hG).1
 have HX:=hZ (alB hw1)
 obtain⟨c0,_,_,_,_,_,_,_,c8,_⟩:=row_ten A1
 have HA:=hZ A1
 obtain⟨R,hR⟩:=eX ((kdB k (ks.map (·.k))))
 rw [hR]
 have HR:=hZ hR
 have HW:=hZ hw1
 have HH:=hZ (And.intro (hr.later ((uZ HX).mono hB)) (And.intro hn (And.intro (Nat.le_trans hB (uZ HX).size) hB)))
 have hnb:n≤140737488351232:=by rw [←hn];exact hr.len
 have hncc:n≤cc:=by obtain⟨C,hf,_⟩:=hr;rw [←hn];exact hf.ll
 have HM:=hZ (show (ks.map (·.k)).length=n by rw [List.length_map];exact hn)
 clear hr hB hn
 clear A1 hw1 hR
 go_enter Tryz.func87,Tryz.ntmps87
 go_upto_region 1 with fail
 rw [uZ HW]
 try rw [hG]
 clear HW
 have hk:=uZ HK
 clear HK
 rcases hk with rfl
 ·have CC:=hZ (allG_any B0 a n cc (ks) _ (fun y=>isStm y.k) w1 call_isStatement (uZ HH).1 (uZ HH).2.1 (uZ HH).2.2.1 (fun y _=>isStatement_any_ask B0 y))
  obtain⟨q,hq⟩:=eX (ks.all (fun y=>isStm y.k))
  rw [hq] at CC
  have HQ:=hZ hq
  clear hq
  go_wp2_with fail
  refine(uZ CC).mono ?_
  rintro e w2 ⟨rfl,b2⟩
  have HV:=hZ (show R=q by rw [←uZ HR,←uZ HQ,show kdB 4 (ks.map (·.k))=(ks.map (·.k)).all isStm by simp [kdB],all_k])
  have HB:=hZ ((uZ HX).trans (b2.mono (uZ HX).size))
  clear b2 CC
  go_wp2_with fail
  go_ret
  exact⟨by rw [uZ HV];rfl,by first|exact uZ HB|(rw [←hG];exact uZ HB)|(rw [hG];exact uZ HB)⟩
theorem kids3_any (B0:Nat) (ks:List Tn) (k vk vn p:Int) (t vs:ByteArray) (al ak a:Option Addr) (ll cl lk ck n cc:Nat) (f:Bool) (w:World) (hB:B0≤w.heap.size) (hr:RowN w B0 ks a cc) (hn:ks.length=n) (hk:k=7):Calls Tryz.prog 87 #[.agg #[.int .i64 k,.string t,.int .i64 vk,.int .i64 vn,.string vs,.slice al ll cl,.slice ak lk ck,.bool f,.slice a n cc,.int .i64 p]] w fun e w'=>e=.returned (.bool (kdB k (ks.map (·.k))))∧Below w.heap.size w w':=by
 have HK:=hZ hk
 clear hk
 obtain⟨w1,hw1⟩:=eX (w.alloc (.cells #[.int .i64 k,.string t,.int .i64 vk,.int .i64 vn,.string vs,.slice al ll cl,.slice ak lk ck,.bool f,.slice a n cc,.int .i64 p] 28))
 obtain⟨G,hG⟩:=eX (w.heap.size)
 have A1:=(al1 hw1 hG).1
 have HX:=hZ (alB hw1)
 obtain⟨c0,_,_,_,_,_,_,_,c8,_⟩:=row_ten A1
 have HA:=hZ A1
 obtain⟨R,hR⟩:=eX ((kdB k (ks.map (·.k))))
 rw [hR]
 have HR:=hZ hR
 have HW:=hZ hw1
 have HH:=hZ (And.intro (hr.later ((uZ HX).mono hB)) (And.intro hn (And.intro (Nat.le_trans hB (uZ HX).size) hB)))
 have hnb:n≤140737488351232:=by rw [←hn];exact hr.len
 have hncc:n≤cc:=by obtain⟨C,hf,_⟩:=hr;rw [←hn];exact hf.ll
 have HM:=hZ (show (ks.map (·.k)).length=n by rw [List.length_map];exact hn)
 clear hr hB hn
 clear A1 hw1 hR
 go_enter Tryz.func87,Tryz.ntmps87
 go_upto_region 1 with fail
 rw [uZ HW]
 try rw [hG]
 clear HW
 have hk:=uZ HK
 clear HK
 rcases hk with rfl
 ·by_cases hq1:n=2
  ·subst hq1
   obtain⟨hr1,hn,hB1,_⟩:=uZ HH
   obtain⟨y,z,rfl⟩:∃y z,ks=[y,z]:=by match ks,hn with|[y,z],_=>exact⟨_,_,rfl⟩
   have CG:=hZ (isGuarded_any B0 y z [] 7 vk vn p t vs al ak a ll cl lk ck 2 cc f w1 hB1 hr1 hn)
   obtain⟨q,hq⟩:=eX ((isEx y.k && decide (z.k=4)))
   rw [hq] at CG
   have HQ:=hZ hq
   clear hq
   obtain⟨x0,x1,x2,x3,x4,x5,x6,x7,x8,x9⟩:=row_ten (uZ HA)
   go_wp2_with fail
   refine(uZ CG).mono ?_
   rintro e w2 ⟨rfl,b2⟩
   have A2:=(b2.block G (lt_of_row (uZ HA))).trans (uZ HA)
   have HB:=hZ ((uZ HX).trans (b2.mono (uZ HX).size))
   have HV:=hZ (show R=q by rw [←uZ HR,kd_if,←uZ HQ];simp)
   clear hr1 hn A2 b2 CG x0 x1 x2 x3 x4 x5 x6 x7 x8 x9
   cases q with
   |false=>
    go_wp2_with fail
    go_ret
    exact⟨by rw [uZ HV];rfl,by first|exact uZ HB|(rw [←hG];exact uZ HB)|(rw [hG];exact uZ HB)⟩
   |true=>
    go_wp2_with fail
    go_ret
    exact⟨by rw [uZ HV];rfl,by first|exact uZ HB|(rw [←hG];exact uZ HB)|(rw [hG];exact uZ HB)⟩
  ·by_cases hq2:n=3
   ·subst hq2
    obtain⟨hr1,hn,hB1,_⟩:=uZ HH
    obtain⟨y,z,x,rfl⟩:∃y z x,ks=[y,z,x]:=by match ks,hn with|[y,z,x],_=>exact⟨_,_,_,rfl⟩
    obtain⟨b,vkx,vnx,vsx,alx,akx,ax,llx,clx,lkx,ckx,nx,ccx,rfl,hcx,hbx,hnx,hzx,hcellx⟩:=hr1.ten (i:=2) (y:=x) rfl
    obtain⟨kx,tx,vx,fx,ksx,px⟩:=x
    simp only at hcellx
    have CG:=hZ (isGuarded_any B0 y z [⟨kx,tx,vx,fx,ksx,px⟩] 7 vk vn p t vs al ak (some b) ll cl lk ck 3 cc f w1 hB1 hr1 hn)
    obtain⟨q,hq⟩:=eX ((isEx y.k && decide (z.k=4)))
    rw [hq] at CG
    have HQ:=hZ hq
    clear hq
    obtain⟨x0,x1,x2,x3,x4,x5,x6,x7,x8,x9⟩:=row_ten (uZ HA)
    go_wp2_with fail
    refine(uZ CG).mono ?_
    rintro e w2 ⟨rfl,b2⟩
    have A2:=(b2.block G (lt_of_row (uZ HA))).trans (uZ HA)
    have HB:=hZ ((uZ HX).trans (b2.mono (uZ HX).size))
    cases q with
    |false=>
     have HV:=hZ (show R=false by rw [←uZ HR,kd_if];have:=uZ HQ;simp at this ⊢;intro h1 h2;exact absurd h2 (this h1))
     clear hr1 hn A2 b2 CG hcellx hzx hnx x0 x1 x2 x3 x4 x5 x6 x7 x8 x9
     go_wp2_with fail
     go_ret
     exact⟨by rw [uZ HV];rfl,by first|exact uZ HB|(rw [←hG];exact uZ HB)|(rw [hG];exact uZ HB)⟩
    |true=>
     have hlt:b.block<w1.heap.size:=Nat.lt_of_lt_of_le hbx hB1
     have hc2:∀j v,([.int .i64 kx,.string tx,.int .i64 vkx,.int .i64 vnx,.string vsx,.slice alx llx clx,.slice akx lkx ckx,.bool fx,.slice ax nx ccx,.int .i64 px]:List Value)[j]?=some v→w2.cell? ((b.add (2 * 10)).add j)=some v:=fun j v hj=>(World.cell?_of_block (b2.block _ (by rw [block_add,block_add];exact hlt))).trans (hcellx j v hj)
     have ex0:w2.cell? ⟨b.block,b.off+20,none⟩=some (.int .i64 kx):=hc2 0 _ rfl
     have ex1:w2.cell? ⟨b.block,b.off+20+1,none⟩=some (.string tx):=hc2 1 _ rfl
     have ex2:w2.cell? ⟨b.block,b.off+20+2,none⟩=some (.int .i64 vkx):=hc2 2 _ rfl
     have ex3:w2.cell? ⟨b.block,b.off+20+3,none⟩=some (.int .i64 vnx):=hc2 3 _ rfl
     have ex4:w2.cell? ⟨b.block,b.off+20+4,none⟩=some (.string vsx):=hc2 4 _ rfl
     have ex5:w2.cell? ⟨b.block,b.off+20+5,none⟩=some (.slice alx llx clx):=hc2 5 _ rfl
     have ex6:w2.cell? ⟨b.block,b.off+20+6,none⟩=some (.slice akx lkx ckx):=hc2 6 _ rfl
     have ex7:w2.cell? ⟨b.block,b.off+20+7,none⟩=some (.bool fx):=hc2 7 _ rfl
     have ex8:w2.cell? ⟨b.block,b.off+20+8,none⟩=some (.slice ax nx ccx):=hc2 8 _ rfl
     have ex9:w2.cell? ⟨b.block,b.off+20+9,none⟩=some (.int .i64 px):=hc2 9 _ rfl
     clear x0 x1 x2 x3 x4 x5 x6 x7 x8 x9
     obtain⟨_,_,_,_,_,_,_,_,x8,_⟩:=row_ten A2
     have CO:=hZ (isOther_any kx vkx vnx px tx vsx alx akx ax llx clx lkx ckx nx ccx fx w2)
     obtain⟨q,hq⟩:=eX ((decide (kx=4) ||decide (kx=7)))
     rw [hq] at CO
     have HV:=hZ (show R=q by rw [←uZ HR,kd_if,←hq];have:=uZ HQ;simp at this ⊢;simp [this.1,this.2])
     clear hq hr1 hn A2 b2 CG hcellx hzx hnx hlt hc2 c0 c8
     go_wp2_with fail
     refine(uZ CO).mono ?_
     rintro e w3 ⟨rfl,b3⟩
     have HB3:=hZ ((uZ HB).trans (b3.mono (uZ HB).size))
     clear b3 CO HB
     have HB:=HB3
     clear HB3
     go_wp2_with fail
     go_ret
     exact⟨by rw [uZ HV];rfl,by first|exact uZ HB|(rw [←hG];exact uZ HB)|(rw [hG];exact uZ HB)⟩
   ·have q1:¬(n:Int)=2:=by omega
    have q2:((n:Int) == 2)=false:=beq_eq_false_iff_ne.2 q1
    have q3:(n == 2)=false:=beq_eq_false_iff_ne.2 hq1
    have q4:¬(n:Int)=3:=by omega
    have q5:((n:Int) == 3)=false:=beq_eq_false_iff_ne.2 q4
    have q6:(n == 3)=false:=beq_eq_false_iff_ne.2 hq2
    have HV:=hZ (show R=false by rw [←uZ HR];rw [kd_if,uZ HM,decide_eq_false hq1,decide_eq_false hq2];rfl)
    have HB:=HX
    go_wp2_with fail
    go_ret
    exact⟨by rw [uZ HV];rfl,by first|exact uZ HB|(rw [←hG];exact uZ HB)|(rw [hG];exact uZ HB)⟩
end Go.Proofs.YtjdpaihhhjdgmaaGreatDoor
