/-
  Layer 18 (print): all of a row of nodes are so, and what is asked of a node's kind alone; conditions: the nodes lie in memory.
-/
import Derived.Test.YtjdpaihhhjdgmaaGreatDoorA12
set_option linter.unusedVariables false
set_option linter.unusedSimpArgs false
set_option maxRecDepth 100000
set_option maxHeartbeats 8000000
namespace Go.Proofs.YtjdpaihhhjdgmaaGreatDoor
open Go.RowKit
set_option linter.unusedVariables false
set_option linter.unusedSimpArgs false
theorem all_to (n:Nat) (r:Nat→Bool) (i:Nat) (hi:i<n) (h:r i=false):(List.range n).all r=false:=by
 rw [List.all_eq_false]
 exact⟨i,List.mem_range.2 hi,by rw [h];simp⟩
theorem all_up (i:Nat) (r:Nat→Bool) (h:(List.range i).all r=true) (hi:r i=true):(List.range (i+1)).all r=true:=by
 rw [List.range_succ,List.all_append,h]
 simp [hi]
theorem all_gen (B0:Nat) (a:Option Addr) (n cc:Nat) (ns:List Tn) (F:FuncId) (cap:Array Value) (r:Nat→Bool) (I:Nat→World→Prop) (J:World→Prop) (w:World)
  (hf:∀(x:Array Value) (u:World),Sem.run Tryz.prog (callFunc F x) u=.ok (.enter F x) u)
  (hr:RowN w B0 ns a cc) (hn:ns.length=n) (hI0:I 0 w) (hIb:∀i u,I i u→Below B0 w u) (hB:B0≤w.heap.size)
  (hIs:∀i u u',I i u→Below u.heap.size u u'→I i u')
  (hst:∀i y u x,ns[i]?=some y→I i u→B0≤u.heap.size→IsN u (fun b=>b<B0) y x→Calls Tryz.prog F (#[.agg x.toArray]++cap) u fun e u'=>e=.returned (.bool (r i))∧(r i=true→I (i+1) u')∧(r i=false→J u')) :
  Calls Tryz.prog 83 #[.slice a n cc,.func (.func F) #[] cap] w fun e w'=>e=.returned (.bool ((List.range n).all r))∧((List.range n).all r=true→I n w')∧((List.range n).all r=false→J w'):=by
 have hnb:n≤140737488351232:=by rw [←hn];exact hr.len
 have HH:=hZ (And.intro hr (And.intro hn (And.intro hIb (And.intro hB (And.intro hIs hst)))))
 have HF:=hZ hf
 have H0:=hZ hI0
 obtain⟨R,hR⟩:=eX ((List.range n).all r)
 rw [hR]
 have HR:=hZ hR
 clear hf hr hn hI0 hIb hB hIs hst hR
 go_enter Tryz.func83,Tryz.ntmps83
 go_wp2_with fail
 go_loopw [9] (fun x wr=>∃(i:Nat),x=.int .i64 (i:Int)∧i≤n∧Hid (I i wr)∧Hid ((List.range i).all r=true)) (fun x _=>n - (intOf x).toNat)
 case atStart=>exact⟨0,rfl,Nat.zero_le _,H0,hZ rfl⟩
 case round=>
  obtain⟨i,rfl,hin,HI,HT⟩:=hrel
  obtain⟨wq,hwq⟩:∃wq,wq=wr:=⟨_,rfl⟩
  subst hwq
  clear H0
  by_cases hi:i<n
  ·have i2:(i:Int)<(n:Int):=by omega
   obtain⟨hr,hn,hIb,hB,hIs,hst⟩:=uZ HH
   have bq:=hIb i wq (uZ HI)
   obtain⟨y,hy⟩:∃y,ns[i]?=some y:=⟨_,List.getElem?_eq_getElem (by omega)⟩
   obtain⟨ya0,z,rfl,hcc,hz,hcell⟩:=(hr.later bq).at hy
   obtain⟨vk,vn,vs,al,ak,ya,ll,cl,lk,ck,yc,hzs,_⟩:=hz.shape
   subst hzs
   obtain⟨yk,yt,yv,yf,yks,yp⟩:=y
   obtain⟨yn,hyl⟩:=eX (yks.length)
   simp only [hyl] at hcell hz
   obtain⟨e0,e1,e2,e3,e4,e5,e6,e7,e8,e9⟩:=tenC hcell
   obtain⟨w1,hw1⟩:=eX (wq.alloc (.cells #[.int .i64 yk,.string yt,.int .i64 vk,.int .i64 vn,.string vs,.slice al ll cl,.slice ak lk ck,.bool yf,.slice ya yn yc,.int .i64 yp] 28))
   obtain⟨g1,hg1⟩:=eX (wq.heap.size)
   have A1:w1.heap[g1]?=some (.cells #[.int .i64 yk,.string yt,.int .i64 vk,.int .i64 vn,.string vs,.slice al ll cl,.slice ak lk ck,.bool yf,.slice ya yn yc,.int .i64 yp] 28 (0,0)):=alN hw1 hg1
   have b1:=alB hw1
   have hBq:B0≤wq.heap.size:=Nat.le_trans hB bq.size
   have hz1:=IsN.to (Q:=fun b=>b<B0) (w':=w1) (fun c hc=>b1.block c (Nat.lt_of_lt_of_le hc hBq)) (fun _ h=>h) hz
   have CP:=hZ (hst i _ w1 _ hy (hIs i wq w1 (uZ HI) b1) (Nat.le_trans hBq b1.size) hz1)
   have HA:=hZ A1
   have HWW:=hZ hw1
   clear hcc hz hz1 hcell hyl A1 b1 hw1 hy HI bq hBq hr hn hIb hB hIs hst
   go_upto_region 4 with fail
   rw [uZ HWW]
   try rw [hg1]
   clear HWW e0 e1 e2 e3 e4 e5 e6 e7 e8 e9
   obtain⟨x0,x1,x2,x3,x4,x5,x6,x7,x8,x9⟩:=row_ten (uZ HA)
   obtain⟨q,hq⟩:=eX (r i)
   rw [hq] at CP
   have HQ:=hZ hq
   clear hq HA
   go_wp2_with (rw [uZ HF])
   refine(uZ CP).mono ?_
   rintro e w3 ⟨rfl,h1,h2⟩
   have H1:=hZ h1
   have H2:=hZ h2
   clear h1 h2 CP x0 x1 x2 x3 x4 x5 x6 x7 x8 x9
   cases q with
   |false=>
    go_wp2_with fail
    go_ret
    have hF:R=false:=by rw [←uZ HR];exact all_to n r i hi (uZ HQ)
    exact⟨by rw [hF];rfl,(fun h=>by rw [hF] at h;cases h),fun _=>by first|exact uZ H2 rfl|exact uZ H2 trivial⟩
   |true=>
    have HT2:=hZ (all_up i r (uZ HT) (uZ HQ))
    have H3:=hZ (uZ H1 rfl)
    clear H1 H2 HT
    go_wp2_with fail
    go_roundw
    case rel=>exact⟨i+1,by go_num,by omega,H3,HT2⟩
    case measure=>simp [intOf];omega
  ·have i2:¬(i:Int)<(n:Int):=by omega
   have hin2:i=n:=by omega
   have hT:R=true:=by rw [←uZ HR,←hin2];exact uZ HT
   have HT2:=hZ hT
   have HI2:=hZ (show I n wq by rw [←hin2];exact uZ HI)
   clear hT
   go_wp2_with fail
   go_ret
   exact⟨by rw [uZ HT2];rfl,fun _=>uZ HI2,(fun h=>by rw [uZ HT2] at h;cases h)⟩
def Ask (F:FuncId) (B0:Nat) (r:Tn→Bool):Prop:=∀(y:Tn) (x:List Value) (u:World),B0≤u.heap.size→IsN u (fun b=>b<B0) y x→Calls Tryz.prog F #[.agg x.toArray] u fun e u'=>e=.returned (.bool (r y))∧Below u.heap.size u u'
theorem range_all {r:Tn→Bool}:∀(ns:List Tn) (d:Tn),(List.range ns.length).all (fun i=>r ((ns[i]?).getD d))=ns.all r:=by
 intro ns d
 rw [Bool.eq_iff_iff,List.all_eq_true,List.all_eq_true]
 constructor
 ·intro h y hy
  obtain⟨i,hi⟩:=List.mem_iff_getElem?.1 hy
  have:=h i (List.mem_range.2 (List.getElem?_eq_some_iff.1 hi).1)
  rw [hi] at this
  exact this
 ·intro h i hi
  have hl:=List.mem_range.1 hi
  rw [List.getElem?_eq_getElem hl]
  exact h _ (List.getElem_mem hl)
theorem allG_any (B0:Nat) (a:Option Addr) (n cc:Nat) (ns:List Tn) (F:FuncId) (r:Tn→Bool) (w:World)
  (hf:∀(x:Array Value) (u:World),Sem.run Tryz.prog (callFunc F x) u=.ok (.enter F x) u)
  (hr:RowN w B0 ns a cc) (hn:ns.length=n) (hB:B0≤w.heap.size) (hst:∀y∈ns,∀(x:List Value) (u:World),B0≤u.heap.size→IsN u (fun b=>b<B0) y x→Calls Tryz.prog F #[.agg x.toArray] u fun e u'=>e=.returned (.bool (r y))∧Below u.heap.size u u') :
  Calls Tryz.prog 83 #[.slice a n cc,.func (.func F) #[] #[]] w fun e w'=>e=.returned (.bool (ns.all r))∧Below w.heap.size w w':=by
 have h:=all_gen B0 a n cc ns F #[] (fun i=>r ((ns[i]?).getD (.mk 0 ⟨#[]⟩ (.mk 0 0 ⟨#[]⟩ [] []) false [] 0))) (fun _ u=>Below w.heap.size w u) (fun u=>Below w.heap.size w u) w hf hr hn (Below.refl _ _) (fun i u h=>h.mono hB) hB (fun i u u' h k=>h.trans (k.mono h.size)) (fun i y u x hy hb hu hx=>by
  refine(hst y (List.mem_of_getElem? hy) x u hu hx).mono (fun e u' h=>?_)
  have e1:r ((ns[i]?).getD (.mk 0 ⟨#[]⟩ (.mk 0 0 ⟨#[]⟩ [] []) false [] 0))=r y:=by rw [hy];rfl
  have b2:=hb.trans (h.2.mono hb.size)
  exact⟨by rw [e1];exact h.1,fun _=>b2,fun _=>b2⟩)
 rw [←hn,range_all] at h
 rw [←hn]
 refine h.mono (fun e w' h=>⟨h.1,?_⟩)
 cases hc:ns.all r with
 |true=>exact h.2.1 hc
 |false=>exact h.2.2 hc
theorem isFn_any (k vk vn p:Int) (t vs:ByteArray) (al ak a:Option Addr) (ll cl lk ck n cc:Nat) (f:Bool) (w:World):Calls Tryz.prog 118 #[.agg #[.int .i64 k,.string t,.int .i64 vk,.int .i64 vn,.string vs,.slice al ll cl,.slice ak lk ck,.bool f,.slice a n cc,.int .i64 p]] w fun e w'=>e=.returned (.bool (decide (k=2)))∧Below w.heap.size w w':=by
 obtain⟨w1,hw1⟩:=eX (w.alloc (.cells #[.int .i64 k,.string t,.int .i64 vk,.int .i64 vn,.string vs,.slice al ll cl,.slice ak lk ck,.bool f,.slice a n cc,.int .i64 p] 28))
 obtain⟨G,hG⟩:=eX (w.heap.size)
 have A1:=(al1 hw1 hG).1
 have HX:=hZ (alB hw1)
 obtain⟨c0,_,_,_,_,_,_,_,_,_⟩:=row_ten A1
 have HA:=hZ A1
 obtain⟨R,hR⟩:=eX ((decide (k=2)))
 rw [hR]
 have HR:=hZ hR
 have HW:=hZ hw1
 clear A1 hw1 hR
 go_enter Tryz.func118,Tryz.ntmps118
 go_upto_region 1 with fail
 rw [uZ HW]
 try rw [hG]
 clear HW
 by_cases hk:k=2
 ·rcases hk with rfl
  ·have hR2:R=true:=by rw [←uZ HR];simp [isEx,isStm]
   have HV:=hZ hR2
   clear hR2 HR
   go_wp2_with fail
   go_ret
   exact⟨by rw [uZ HV];rfl,by first|exact uZ HX|(rw [hG];exact uZ HX)|(rw [←hG];exact uZ HX)⟩
 ·try simp only [not_or] at hk
  have q2:=hk
  have m2:(k == 2)=false:=beq_eq_false_iff_ne.2 q2
  have hR2:R=false:=by rw [←uZ HR];simp [isEx,isStm,q2]
  have HV:=hZ hR2
  clear hR2 HR
  go_wp2_with fail
  go_ret
  exact⟨by rw [uZ HV];rfl,by first|exact uZ HX|(rw [hG];exact uZ HX)|(rw [←hG];exact uZ HX)⟩
theorem isFn_any_ask (B0:Nat):Ask 118 B0 (fun y=>decide (y.k=2)):=by
 intro y x u hu hx
 obtain⟨vk,vn,vs,al,ak,ya,ll,cl,lk,ck,yc,rfl,_⟩:=hx.shape
 exact isFn_any _ _ _ _ _ _ _ _ _ _ _ _ _ _ _ _ u
theorem call_isFn (x:Array Value) (u:World):Sem.run Tryz.prog (callFunc 118 x) u=.ok (.enter 118 x) u:=by kernel_rfl
theorem isParam_any (k vk vn p:Int) (t vs:ByteArray) (al ak a:Option Addr) (ll cl lk ck n cc:Nat) (f:Bool) (w:World):Calls Tryz.prog 119 #[.agg #[.int .i64 k,.string t,.int .i64 vk,.int .i64 vn,.string vs,.slice al ll cl,.slice ak lk ck,.bool f,.slice a n cc,.int .i64 p]] w fun e w'=>e=.returned (.bool (decide (k=3)))∧Below w.heap.size w w':=by
 obtain⟨w1,hw1⟩:=eX (w.alloc (.cells #[.int .i64 k,.string t,.int .i64 vk,.int .i64 vn,.string vs,.slice al ll cl,.slice ak lk ck,.bool f,.slice a n cc,.int .i64 p] 28))
 obtain⟨G,hG⟩:=eX (w.heap.size)
 have A1:=(al1 hw1 hG).1
 have HX:=hZ (alB hw1)
 obtain⟨c0,_,_,_,_,_,_,_,_,_⟩:=row_ten A1
 have HA:=hZ A1
 obtain⟨R,hR⟩:=eX ((decide (k=3)))
 rw [hR]
 have HR:=hZ hR
 have HW:=hZ hw1
 clear A1 hw1 hR
 go_enter Tryz.func119,Tryz.ntmps119
 go_upto_region 1 with fail
 rw [uZ HW]
 try rw [hG]
 clear HW
 by_cases hk:k=3
 ·rcases hk with rfl
  ·have hR2:R=true:=by rw [←uZ HR];simp [isEx,isStm]
   have HV:=hZ hR2
   clear hR2 HR
   go_wp2_with fail
   go_ret
   exact⟨by rw [uZ HV];rfl,by first|exact uZ HX|(rw [hG];exact uZ HX)|(rw [←hG];exact uZ HX)⟩
 ·try simp only [not_or] at hk
  have q3:=hk
  have m3:(k == 3)=false:=beq_eq_false_iff_ne.2 q3
  have hR2:R=false:=by rw [←uZ HR];simp [isEx,isStm,q3]
  have HV:=hZ hR2
  clear hR2 HR
  go_wp2_with fail
  go_ret
  exact⟨by rw [uZ HV];rfl,by first|exact uZ HX|(rw [hG];exact uZ HX)|(rw [←hG];exact uZ HX)⟩
theorem isParam_any_ask (B0:Nat):Ask 119 B0 (fun y=>decide (y.k=3)):=by
 intro y x u hu hx
 obtain⟨vk,vn,vs,al,ak,ya,ll,cl,lk,ck,yc,rfl,_⟩:=hx.shape
 exact isParam_any _ _ _ _ _ _ _ _ _ _ _ _ _ _ _ _ u
theorem call_isParam (x:Array Value) (u:World):Sem.run Tryz.prog (callFunc 119 x) u=.ok (.enter 119 x) u:=by kernel_rfl
theorem isBlock_any (k vk vn p:Int) (t vs:ByteArray) (al ak a:Option Addr) (ll cl lk ck n cc:Nat) (f:Bool) (w:World):Calls Tryz.prog 120 #[.agg #[.int .i64 k,.string t,.int .i64 vk,.int .i64 vn,.string vs,.slice al ll cl,.slice ak lk ck,.bool f,.slice a n cc,.int .i64 p]] w fun e w'=>e=.returned (.bool (decide (k=4)))∧Below w.heap.size w w':=by
 obtain⟨w1,hw1⟩:=eX (w.alloc (.cells #[.int .i64 k,.string t,.int .i64 vk,.int .i64 vn,.string vs,.slice al ll cl,.slice ak lk ck,.bool f,.slice a n cc,.int .i64 p] 28))
 obtain⟨G,hG⟩:=eX (w.heap.size)
 have A1:=(al1 hw1 hG).1
 have HX:=hZ (alB hw1)
 obtain⟨c0,_,_,_,_,_,_,_,_,_⟩:=row_ten A1
 have HA:=hZ A1
 obtain⟨R,hR⟩:=eX ((decide (k=4)))
 rw [hR]
 have HR:=hZ hR
 have HW:=hZ hw1
 clear A1 hw1 hR
 go_enter Tryz.func120,Tryz.ntmps120
 go_upto_region 1 with fail
 rw [uZ HW]
 try rw [hG]
 clear HW
 by_cases hk:k=4
 ·rcases hk with rfl
  ·have hR2:R=true:=by rw [←uZ HR];simp [isEx,isStm]
   have HV:=hZ hR2
   clear hR2 HR
   go_wp2_with fail
   go_ret
   exact⟨by rw [uZ HV];rfl,by first|exact uZ HX|(rw [hG];exact uZ HX)|(rw [←hG];exact uZ HX)⟩
 ·try simp only [not_or] at hk
  have q4:=hk
  have m4:(k == 4)=false:=beq_eq_false_iff_ne.2 q4
  have hR2:R=false:=by rw [←uZ HR];simp [isEx,isStm,q4]
  have HV:=hZ hR2
  clear hR2 HR
  go_wp2_with fail
  go_ret
  exact⟨by rw [uZ HV];rfl,by first|exact uZ HX|(rw [hG];exact uZ HX)|(rw [←hG];exact uZ HX)⟩
theorem isPair_any (k vk vn p:Int) (t vs:ByteArray) (al ak a:Option Addr) (ll cl lk ck n cc:Nat) (f:Bool) (w:World):Calls Tryz.prog 125 #[.agg #[.int .i64 k,.string t,.int .i64 vk,.int .i64 vn,.string vs,.slice al ll cl,.slice ak lk ck,.bool f,.slice a n cc,.int .i64 p]] w fun e w'=>e=.returned (.bool (decide (k=20)))∧Below w.heap.size w w':=by
 obtain⟨w1,hw1⟩:=eX (w.alloc (.cells #[.int .i64 k,.string t,.int .i64 vk,.int .i64 vn,.string vs,.slice al ll cl,.slice ak lk ck,.bool f,.slice a n cc,.int .i64 p] 28))
 obtain⟨G,hG⟩:=eX (w.heap.size)
 have A1:=(al1 hw1 hG).1
 have HX:=hZ (alB hw1)
 obtain⟨c0,_,_,_,_,_,_,_,_,_⟩:=row_ten A1
 have HA:=hZ A1
 obtain⟨R,hR⟩:=eX ((decide (k=20)))
 rw [hR]
 have HR:=hZ hR
 have HW:=hZ hw1
 clear A1 hw1 hR
 go_enter Tryz.func125,Tryz.ntmps125
 go_upto_region 1 with fail
 rw [uZ HW]
 try rw [hG]
 clear HW
 by_cases hk:k=20
 ·rcases hk with rfl
  ·have hR2:R=true:=by rw [←uZ HR];simp [isEx,isStm]
   have HV:=hZ hR2
   clear hR2 HR
   go_wp2_with fail
   go_ret
   exact⟨by rw [uZ HV];rfl,by first|exact uZ HX|(rw [hG];exact uZ HX)|(rw [←hG];exact uZ HX)⟩
 ·try simp only [not_or] at hk
  have q20:=hk
  have m20:(k == 20)=false:=beq_eq_false_iff_ne.2 q20
  have hR2:R=false:=by rw [←uZ HR];simp [isEx,isStm,q20]
  have HV:=hZ hR2
  clear hR2 HR
  go_wp2_with fail
  go_ret
  exact⟨by rw [uZ HV];rfl,by first|exact uZ HX|(rw [hG];exact uZ HX)|(rw [←hG];exact uZ HX)⟩
theorem isPair_any_ask (B0:Nat):Ask 125 B0 (fun y=>decide (y.k=20)):=by
 intro y x u hu hx
 obtain⟨vk,vn,vs,al,ak,ya,ll,cl,lk,ck,yc,rfl,_⟩:=hx.shape
 exact isPair_any _ _ _ _ _ _ _ _ _ _ _ _ _ _ _ _ u
theorem call_isPair (x:Array Value) (u:World):Sem.run Tryz.prog (callFunc 125 x) u=.ok (.enter 125 x) u:=by kernel_rfl
theorem isOther_any (k vk vn p:Int) (t vs:ByteArray) (al ak a:Option Addr) (ll cl lk ck n cc:Nat) (f:Bool) (w:World):Calls Tryz.prog 123 #[.agg #[.int .i64 k,.string t,.int .i64 vk,.int .i64 vn,.string vs,.slice al ll cl,.slice ak lk ck,.bool f,.slice a n cc,.int .i64 p]] w fun e w'=>e=.returned (.bool (decide (k=4) ||decide (k=7)))∧Below w.heap.size w w':=by
 obtain⟨w1,hw1⟩:=eX (w.alloc (.cells #[.int .i64 k,.string t,.int .i64 vk,.int .i64 vn,.string vs,.slice al ll cl,.slice ak lk ck,.bool f,.slice a n cc,.int .i64 p] 28))
 obtain⟨G,hG⟩:=eX (w.heap.size)
 have A1:=(al1 hw1 hG).1
 have HX:=hZ (alB hw1)
 obtain⟨c0,_,_,_,_,_,_,_,_,_⟩:=row_ten A1
 have HA:=hZ A1
 obtain⟨R,hR⟩:=eX ((decide (k=4) ||decide (k=7)))
 rw [hR]
 have HR:=hZ hR
 have HW:=hZ hw1
 clear A1 hw1 hR
 go_enter Tryz.func123,Tryz.ntmps123
 go_upto_region 1 with fail
 rw [uZ HW]
 try rw [hG]
 clear HW
 by_cases hk:k=4∨k=7
 ·rcases hk with rfl|rfl
  ·have hR2:R=true:=by rw [←uZ HR];simp [isEx,isStm]
   have HV:=hZ hR2
   clear hR2 HR
   go_wp2_with fail
   go_ret
   exact⟨by rw [uZ HV];rfl,by first|exact uZ HX|(rw [hG];exact uZ HX)|(rw [←hG];exact uZ HX)⟩
  ·have hR2:R=true:=by rw [←uZ HR];simp [isEx,isStm]
   have HV:=hZ hR2
   clear hR2 HR
   go_wp2_with fail
   go_ret
   exact⟨by rw [uZ HV];rfl,by first|exact uZ HX|(rw [hG];exact uZ HX)|(rw [←hG];exact uZ HX)⟩
 ·try simp only [not_or] at hk
  obtain⟨q4,q7⟩:=hk
  have m4:(k == 4)=false:=beq_eq_false_iff_ne.2 q4
  have m7:(k == 7)=false:=beq_eq_false_iff_ne.2 q7
  have hR2:R=false:=by rw [←uZ HR];simp [isEx,isStm,q4,q7]
  have HV:=hZ hR2
  clear hR2 HR
  go_wp2_with fail
  go_ret
  exact⟨by rw [uZ HV];rfl,by first|exact uZ HX|(rw [hG];exact uZ HX)|(rw [←hG];exact uZ HX)⟩
theorem isStatement_any (k vk vn p:Int) (t vs:ByteArray) (al ak a:Option Addr) (ll cl lk ck n cc:Nat) (f:Bool) (w:World):Calls Tryz.prog 121 #[.agg #[.int .i64 k,.string t,.int .i64 vk,.int .i64 vn,.string vs,.slice al ll cl,.slice ak lk ck,.bool f,.slice a n cc,.int .i64 p]] w fun e w'=>e=.returned (.bool (isStm k))∧Below w.heap.size w w':=by
 obtain⟨w1,hw1⟩:=eX (w.alloc (.cells #[.int .i64 k,.string t,.int .i64 vk,.int .i64 vn,.string vs,.slice al ll cl,.slice ak lk ck,.bool f,.slice a n cc,.int .i64 p] 28))
 obtain⟨G,hG⟩:=eX (w.heap.size)
 have A1:=(al1 hw1 hG).1
 have HX:=hZ (alB hw1)
 obtain⟨c0,_,_,_,_,_,_,_,_,_⟩:=row_ten A1
 have HA:=hZ A1
 obtain⟨R,hR⟩:=eX ((isStm k))
 rw [hR]
 have HR:=hZ hR
 have HW:=hZ hw1
 clear A1 hw1 hR
 go_enter Tryz.func121,Tryz.ntmps121
 go_upto_region 1 with fail
 rw [uZ HW]
 try rw [hG]
 clear HW
 by_cases hk:k=5∨k=6∨k=7∨k=8∨k=9∨k=10∨k=11∨k=12
 ·rcases hk with rfl|rfl|rfl|rfl|rfl|rfl|rfl|rfl
  ·have hR2:R=true:=by rw [←uZ HR];simp [isEx,isStm]
   have HV:=hZ hR2
   clear hR2 HR
   go_wp2_with fail
   go_ret
   exact⟨by rw [uZ HV];rfl,by first|exact uZ HX|(rw [hG];exact uZ HX)|(rw [←hG];exact uZ HX)⟩
  ·have hR2:R=true:=by rw [←uZ HR];simp [isEx,isStm]
   have HV:=hZ hR2
   clear hR2 HR
   go_wp2_with fail
   go_ret
   exact⟨by rw [uZ HV];rfl,by first|exact uZ HX|(rw [hG];exact uZ HX)|(rw [←hG];exact uZ HX)⟩
  ·have hR2:R=true:=by rw [←uZ HR];simp [isEx,isStm]
   have HV:=hZ hR2
   clear hR2 HR
   go_wp2_with fail
   go_ret
   exact⟨by rw [uZ HV];rfl,by first|exact uZ HX|(rw [hG];exact uZ HX)|(rw [←hG];exact uZ HX)⟩
  ·have hR2:R=true:=by rw [←uZ HR];simp [isEx,isStm]
   have HV:=hZ hR2
   clear hR2 HR
   go_wp2_with fail
   go_ret
   exact⟨by rw [uZ HV];rfl,by first|exact uZ HX|(rw [hG];exact uZ HX)|(rw [←hG];exact uZ HX)⟩
  ·have hR2:R=true:=by rw [←uZ HR];simp [isEx,isStm]
   have HV:=hZ hR2
   clear hR2 HR
   go_wp2_with fail
   go_ret
   exact⟨by rw [uZ HV];rfl,by first|exact uZ HX|(rw [hG];exact uZ HX)|(rw [←hG];exact uZ HX)⟩
  ·have hR2:R=true:=by rw [←uZ HR];simp [isEx,isStm]
   have HV:=hZ hR2
   clear hR2 HR
   go_wp2_with fail
   go_ret
   exact⟨by rw [uZ HV];rfl,by first|exact uZ HX|(rw [hG];exact uZ HX)|(rw [←hG];exact uZ HX)⟩
  ·have hR2:R=true:=by rw [←uZ HR];simp [isEx,isStm]
   have HV:=hZ hR2
   clear hR2 HR
   go_wp2_with fail
   go_ret
   exact⟨by rw [uZ HV];rfl,by first|exact uZ HX|(rw [hG];exact uZ HX)|(rw [←hG];exact uZ HX)⟩
  ·have hR2:R=true:=by rw [←uZ HR];simp [isEx,isStm]
   have HV:=hZ hR2
   clear hR2 HR
   go_wp2_with fail
   go_ret
   exact⟨by rw [uZ HV];rfl,by first|exact uZ HX|(rw [hG];exact uZ HX)|(rw [←hG];exact uZ HX)⟩
 ·try simp only [not_or] at hk
  obtain⟨q5,q6,q7,q8,q9,q10,q11,q12⟩:=hk
  have m5:(k == 5)=false:=beq_eq_false_iff_ne.2 q5
  have m6:(k == 6)=false:=beq_eq_false_iff_ne.2 q6
  have m7:(k == 7)=false:=beq_eq_false_iff_ne.2 q7
  have m8:(k == 8)=false:=beq_eq_false_iff_ne.2 q8
  have m9:(k == 9)=false:=beq_eq_false_iff_ne.2 q9
  have m10:(k == 10)=false:=beq_eq_false_iff_ne.2 q10
  have m11:(k == 11)=false:=beq_eq_false_iff_ne.2 q11
  have m12:(k == 12)=false:=beq_eq_false_iff_ne.2 q12
  have hR2:R=false:=by rw [←uZ HR];simp [isEx,isStm,q5,q6,q7,q8,q9,q10,q11,q12]
  have HV:=hZ hR2
  clear hR2 HR
  go_wp2_with fail
  go_ret
  exact⟨by rw [uZ HV];rfl,by first|exact uZ HX|(rw [hG];exact uZ HX)|(rw [←hG];exact uZ HX)⟩
theorem isStatement_any_ask (B0:Nat):Ask 121 B0 (fun y=>isStm y.k):=by
 intro y x u hu hx
 obtain⟨vk,vn,vs,al,ak,ya,ll,cl,lk,ck,yc,rfl,_⟩:=hx.shape
 exact isStatement_any _ _ _ _ _ _ _ _ _ _ _ _ _ _ _ _ u
theorem call_isStatement (x:Array Value) (u:World):Sem.run Tryz.prog (callFunc 121 x) u=.ok (.enter 121 x) u:=by kernel_rfl
theorem isExpr_any (k vk vn p:Int) (t vs:ByteArray) (al ak a:Option Addr) (ll cl lk ck n cc:Nat) (f:Bool) (w:World):Calls Tryz.prog 124 #[.agg #[.int .i64 k,.string t,.int .i64 vk,.int .i64 vn,.string vs,.slice al ll cl,.slice ak lk ck,.bool f,.slice a n cc,.int .i64 p]] w fun e w'=>e=.returned (.bool (isEx k))∧Below w.heap.size w w':=by
 obtain⟨w1,hw1⟩:=eX (w.alloc (.cells #[.int .i64 k,.string t,.int .i64 vk,.int .i64 vn,.string vs,.slice al ll cl,.slice ak lk ck,.bool f,.slice a n cc,.int .i64 p] 28))
 obtain⟨G,hG⟩:=eX (w.heap.size)
 have A1:=(al1 hw1 hG).1
 have HX:=hZ (alB hw1)
 obtain⟨c0,_,_,_,_,_,_,_,_,_⟩:=row_ten A1
 have HA:=hZ A1
 obtain⟨R,hR⟩:=eX ((isEx k))
 rw [hR]
 have HR:=hZ hR
 have HW:=hZ hw1
 clear A1 hw1 hR
 go_enter Tryz.func124,Tryz.ntmps124
 go_upto_region 1 with fail
 rw [uZ HW]
 try rw [hG]
 clear HW
 by_cases hk:k=13∨k=14∨k=15∨k=16∨k=17∨k=18∨k=19∨k=21∨k=22
 ·rcases hk with rfl|rfl|rfl|rfl|rfl|rfl|rfl|rfl|rfl
  ·have hR2:R=true:=by rw [←uZ HR];simp [isEx,isStm]
   have HV:=hZ hR2
   clear hR2 HR
   go_wp2_with fail
   go_ret
   exact⟨by rw [uZ HV];rfl,by first|exact uZ HX|(rw [hG];exact uZ HX)|(rw [←hG];exact uZ HX)⟩
  ·have hR2:R=true:=by rw [←uZ HR];simp [isEx,isStm]
   have HV:=hZ hR2
   clear hR2 HR
   go_wp2_with fail
   go_ret
   exact⟨by rw [uZ HV];rfl,by first|exact uZ HX|(rw [hG];exact uZ HX)|(rw [←hG];exact uZ HX)⟩
  ·have hR2:R=true:=by rw [←uZ HR];simp [isEx,isStm]
   have HV:=hZ hR2
   clear hR2 HR
   go_wp2_with fail
   go_ret
   exact⟨by rw [uZ HV];rfl,by first|exact uZ HX|(rw [hG];exact uZ HX)|(rw [←hG];exact uZ HX)⟩
  ·have hR2:R=true:=by rw [←uZ HR];simp [isEx,isStm]
   have HV:=hZ hR2
   clear hR2 HR
   go_wp2_with fail
   go_ret
   exact⟨by rw [uZ HV];rfl,by first|exact uZ HX|(rw [hG];exact uZ HX)|(rw [←hG];exact uZ HX)⟩
  ·have hR2:R=true:=by rw [←uZ HR];simp [isEx,isStm]
   have HV:=hZ hR2
   clear hR2 HR
   go_wp2_with fail
   go_ret
   exact⟨by rw [uZ HV];rfl,by first|exact uZ HX|(rw [hG];exact uZ HX)|(rw [←hG];exact uZ HX)⟩
  ·have hR2:R=true:=by rw [←uZ HR];simp [isEx,isStm]
   have HV:=hZ hR2
   clear hR2 HR
   go_wp2_with fail
   go_ret
   exact⟨by rw [uZ HV];rfl,by first|exact uZ HX|(rw [hG];exact uZ HX)|(rw [←hG];exact uZ HX)⟩
  ·have hR2:R=true:=by rw [←uZ HR];simp [isEx,isStm]
   have HV:=hZ hR2
   clear hR2 HR
   go_wp2_with fail
   go_ret
   exact⟨by rw [uZ HV];rfl,by first|exact uZ HX|(rw [hG];exact uZ HX)|(rw [←hG];exact uZ HX)⟩
  ·have hR2:R=true:=by rw [←uZ HR];simp [isEx,isStm]
   have HV:=hZ hR2
   clear hR2 HR
   go_wp2_with fail
   go_ret
   exact⟨by rw [uZ HV];rfl,by first|exact uZ HX|(rw [hG];exact uZ HX)|(rw [←hG];exact uZ HX)⟩
  ·have hR2:R=true:=by rw [←uZ HR];simp [isEx,isStm]
   have HV:=hZ hR2
   clear hR2 HR
   go_wp2_with fail
   go_ret
   exact⟨by rw [uZ HV];rfl,by first|exact uZ HX|(rw [hG];exact uZ HX)|(rw [←hG];exact uZ HX)⟩
 ·try simp only [not_or] at hk
  obtain⟨q13,q14,q15,q16,q17,q18,q19,q21,q22⟩:=hk
  have m13:(k == 13)=false:=beq_eq_false_iff_ne.2 q13
  have m14:(k == 14)=false:=beq_eq_false_iff_ne.2 q14
  have m15:(k == 15)=false:=beq_eq_false_iff_ne.2 q15
  have m16:(k == 16)=false:=beq_eq_false_iff_ne.2 q16
  have m17:(k == 17)=false:=beq_eq_false_iff_ne.2 q17
  have m18:(k == 18)=false:=beq_eq_false_iff_ne.2 q18
  have m19:(k == 19)=false:=beq_eq_false_iff_ne.2 q19
  have m21:(k == 21)=false:=beq_eq_false_iff_ne.2 q21
  have m22:(k == 22)=false:=beq_eq_false_iff_ne.2 q22
  have hR2:R=false:=by rw [←uZ HR];simp [isEx,isStm,q13,q14,q15,q16,q17,q18,q19,q21,q22]
  have HV:=hZ hR2
  clear hR2 HR
  go_wp2_with fail
  go_ret
  exact⟨by rw [uZ HV];rfl,by first|exact uZ HX|(rw [hG];exact uZ HX)|(rw [←hG];exact uZ HX)⟩
theorem isExpr_any_ask (B0:Nat):Ask 124 B0 (fun y=>isEx y.k):=by
 intro y x u hu hx
 obtain⟨vk,vn,vs,al,ak,ya,ll,cl,lk,ck,yc,rfl,_⟩:=hx.shape
 exact isExpr_any _ _ _ _ _ _ _ _ _ _ _ _ _ _ _ _ u
theorem call_isExpr (x:Array Value) (u:World):Sem.run Tryz.prog (callFunc 124 x) u=.ok (.enter 124 x) u:=by kernel_rfl
end Go.Proofs.YtjdpaihhhjdgmaaGreatDoor
