/-
  Layer 18 (print): all of a row of nodes are so, and what is asked of a node's kind alone; conditions: the nodes lie in memory.
-/
import Derived.Test.YtekbmfppfjlboaaGreatDoorA06
set_option linter.unusedVariables false
set_option linter.unusedSimpArgs false
namespace Go.Proofs.YtekbmfppfjlboaaGreatDoor
open Go.RowKit
set_option linter.unusedVariables false
set_option linter.unusedSimpArgs false
theorem all_to (n:Nat) (r:Nat→Bool) (i:Nat) (hi:i<n) (h:r i=false):(List.range n).all r=false:=by
 rw [List.all_eq_false]
 exact⟨i,List.mem_range.2 hi,by rw [h];simp⟩
theorem all_up (i:Nat) (r:Nat→Bool) (h:(List.range i).all r=true) (hi:r i=true):(List.range (i+1)).all r=true:=by
 rw [List.range_succ,List.all_append,h]
 simp [hi]
set_option maxRecDepth 100000 in
set_option maxHeartbeats 2000000 in
theorem all_gen (B0:Nat) (a:Option Addr) (n cc:Nat) (ns:List Tn) (F:FuncId) (cap:Array Value) (r:Nat→Bool) (I:Nat→World→Prop) (J:World→Prop) (w:World)
  (hf:∀(x:Array Value) (u:World),Sem.run Tryz.prog (callFunc F x) u=.ok (.enter F x) u)
  (hr:RowN w B0 ns a cc) (hn:ns.length=n) (hI0:I 0 w) (hIb:∀i u,I i u→Below B0 w u) (hB:B0≤w.heap.size)
  (hIs:∀i u u',I i u→Below u.heap.size u u'→I i u')
  (hst:∀i y u x,ns[i]?=some y→I i u→B0≤u.heap.size→IsN u (fun b=>b<B0) y x→Calls Tryz.prog F (#[.agg x.toArray]++cap) u fun e u'=>e=.returned (.bool (r i))∧(r i=true→I (i+1) u')∧(r i=false→J u')) :
  Calls Tryz.prog 60 #[.slice a n cc,.func (.func F) #[] cap] w fun e w'=>e=.returned (.bool ((List.range n).all r))∧((List.range n).all r=true→I n w')∧((List.range n).all r=false→J w'):=by
 have hnb:n≤140737488351232:=by rw [←hn];exact hr.len
 have HH:=hide (And.intro hr (And.intro hn (And.intro hIb (And.intro hB (And.intro hIs hst)))))
 have HF:=hide hf
 have H0:=hide hI0
 obtain⟨R,hR⟩:∃R,(List.range n).all r=R:=⟨_,rfl⟩
 rw [hR]
 have HR:=hide hR
 clear hf hr hn hI0 hIb hB hIs hst hR
 go_enter Tryz.func60,Tryz.ntmps60
 go_wp2_with fail
 go_loopw [9] (fun x wr=>∃(i:Nat),x=.int .i64 (i:Int)∧i≤n∧Hid (I i wr)∧Hid ((List.range i).all r=true)) (fun x _=>n - (intOf x).toNat)
 case atStart=>exact⟨0,rfl,Nat.zero_le _,H0,hide rfl⟩
 case round=>
  obtain⟨i,rfl,hin,HI,HT⟩:=hrel
  obtain⟨wq,hwq⟩:∃wq,wq=wr:=⟨_,rfl⟩
  subst hwq
  clear H0
  by_cases hi:i<n
  ·have i2:(i:Int)<(n:Int):=by omega
   obtain⟨hr,hn,hIb,hB,hIs,hst⟩:=unhide HH
   have bq:=hIb i wq (unhide HI)
   obtain⟨y,hy⟩:∃y,ns[i]?=some y:=⟨_,List.getElem?_eq_getElem (by omega)⟩
   obtain⟨ya0,z,rfl,hcc,hz,hcell⟩:=(hr.later bq).at hy
   obtain⟨vk,vn,vs,al,ak,ya,ll,cl,lk,ck,yc,hzs,_⟩:=hz.shape
   subst hzs
   obtain⟨yk,yt,yv,yf,yks,yp⟩:=y
   obtain⟨yn,hyl⟩:∃m,yks.length=m:=⟨_,rfl⟩
   simp only [hyl] at hcell hz
   have e0:wq.cell? (ya0.add (i * 10))=some (.int .i64 yk):=hcell 0 _ rfl
   have e1:wq.cell? ⟨(ya0.add (i * 10)).block,(ya0.add (i * 10)).off+1,none⟩=some (.string yt):=hcell 1 _ rfl
   have e2:wq.cell? ⟨(ya0.add (i * 10)).block,(ya0.add (i * 10)).off+2,none⟩=some (.int .i64 vk):=hcell 2 _ rfl
   have e3:wq.cell? ⟨(ya0.add (i * 10)).block,(ya0.add (i * 10)).off+3,none⟩=some (.int .i64 vn):=hcell 3 _ rfl
   have e4:wq.cell? ⟨(ya0.add (i * 10)).block,(ya0.add (i * 10)).off+4,none⟩=some (.string vs):=hcell 4 _ rfl
   have e5:wq.cell? ⟨(ya0.add (i * 10)).block,(ya0.add (i * 10)).off+5,none⟩=some (.slice al ll cl):=hcell 5 _ rfl
   have e6:wq.cell? ⟨(ya0.add (i * 10)).block,(ya0.add (i * 10)).off+6,none⟩=some (.slice ak lk ck):=hcell 6 _ rfl
   have e7:wq.cell? ⟨(ya0.add (i * 10)).block,(ya0.add (i * 10)).off+7,none⟩=some (.bool yf):=hcell 7 _ rfl
   have e8:wq.cell? ⟨(ya0.add (i * 10)).block,(ya0.add (i * 10)).off+8,none⟩=some (.slice ya yn yc):=hcell 8 _ rfl
   have e9:wq.cell? ⟨(ya0.add (i * 10)).block,(ya0.add (i * 10)).off+9,none⟩=some (.int .i64 yp):=hcell 9 _ rfl
   obtain⟨w1,hw1⟩:∃w1,wq.alloc (.cells #[.int .i64 yk,.string yt,.int .i64 vk,.int .i64 vn,.string vs,.slice al ll cl,.slice ak lk ck,.bool yf,.slice ya yn yc,.int .i64 yp] 28)=w1:=⟨_,rfl⟩
   obtain⟨g1,hg1⟩:∃g,wq.heap.size=g:=⟨_,rfl⟩
   have A1:w1.heap[g1]?=some (.cells #[.int .i64 yk,.string yt,.int .i64 vk,.int .i64 vn,.string vs,.slice al ll cl,.slice ak lk ck,.bool yf,.slice ya yn yc,.int .i64 yp] 28 (0,0)):=by rw [←hw1,←hg1];exact heap_alloc_new _ _
   have b1:Below wq.heap.size wq w1:=by rw [←hw1];exact(Below.refl _ _).alloc (Nat.le_refl _) _
   have hBq:B0≤wq.heap.size:=Nat.le_trans hB bq.size
   have hz1:=IsN.to (Q:=fun b=>b<B0) (w':=w1) (fun c hc=>b1.block c (Nat.lt_of_lt_of_le hc hBq)) (fun _ h=>h) hz
   have CP:=hide (hst i _ w1 _ hy (hIs i wq w1 (unhide HI) b1) (Nat.le_trans hBq b1.size) hz1)
   have HA:=hide A1
   have HWW:=hide hw1
   clear hcc hz hz1 hcell hyl A1 b1 hw1 hy HI bq hBq hr hn hIb hB hIs hst
   go_upto_region 4 with fail
   rw [unhide HWW]
   try rw [hg1]
   clear HWW e0 e1 e2 e3 e4 e5 e6 e7 e8 e9
   obtain⟨x0,x1,x2,x3,x4,x5,x6,x7,x8,x9⟩:=row_ten (unhide HA)
   obtain⟨q,hq⟩:∃q,r i=q:=⟨_,rfl⟩
   rw [hq] at CP
   have HQ:=hide hq
   clear hq HA
   go_wp2_with (rw [unhide HF])
   refine(unhide CP).mono ?_
   rintro e w3 ⟨rfl,h1,h2⟩
   have H1:=hide h1
   have H2:=hide h2
   clear h1 h2 CP x0 x1 x2 x3 x4 x5 x6 x7 x8 x9
   cases q with
   |false=>
    go_wp2_with fail
    go_ret
    have hF:R=false:=by rw [←unhide HR];exact all_to n r i hi (unhide HQ)
    exact⟨by rw [hF];rfl,(fun h=>by rw [hF] at h;cases h),fun _=>by first|exact unhide H2 rfl|exact unhide H2 trivial⟩
   |true=>
    have HT2:=hide (all_up i r (unhide HT) (unhide HQ))
    have H3:=hide (unhide H1 rfl)
    clear H1 H2 HT
    go_wp2_with fail
    go_roundw
    case rel=>exact⟨i+1,by go_num,by omega,H3,HT2⟩
    case measure=>simp [intOf];omega
  ·have i2:¬(i:Int)<(n:Int):=by omega
   have hin2:i=n:=by omega
   have hT:R=true:=by rw [←unhide HR,←hin2];exact unhide HT
   have HT2:=hide hT
   have HI2:=hide (show I n wq by rw [←hin2];exact unhide HI)
   clear hT
   go_wp2_with fail
   go_ret
   exact⟨by rw [unhide HT2];rfl,fun _=>unhide HI2,(fun h=>by rw [unhide HT2] at h;cases h)⟩
def Ask (F:FuncId) (B0:Nat) (r:Tn→Bool):Prop:=∀(y:Tn) (x:List Value) (u:World),B0≤u.heap.size→IsN u (fun b=>b<B0) y x→Calls Tryz.prog F #[.agg x.toArray] u fun e u'=>e=.returned (.bool (r y))∧Below u.heap.size u u'
theorem range_all {r:Tn→Bool}:∀(ns:List Tn) (d:Tn),(List.range ns.length).all (fun i=>r ((ns[i]?).getD d))=ns.all r:=by
 intro ns d
 rw [Bool.eq_iff_iff,List.all_eq_true,List.all_eq_true]
 constructor
 ·intro h y hy
  obtain⟨i,hi⟩:=List.mem_iff_getElem?.1 hy
  have:=h i (List.mem_range.2 (List.getElem?_eq_some_iff.1 hi).1)
  rw [hi] at this
  exact this
 ·intro h i hi
  have hl:=List.mem_range.1 hi
  rw [List.getElem?_eq_getElem hl]
  exact h _ (List.getElem_mem hl)
theorem all_any (B0:Nat) (a:Option Addr) (n cc:Nat) (ns:List Tn) (F:FuncId) (r:Tn→Bool) (w:World)
  (hf:∀(x:Array Value) (u:World),Sem.run Tryz.prog (callFunc F x) u=.ok (.enter F x) u)
  (hr:RowN w B0 ns a cc) (hn:ns.length=n) (hB:B0≤w.heap.size) (hst:∀y∈ns,∀(x:List Value) (u:World),B0≤u.heap.size→IsN u (fun b=>b<B0) y x→Calls Tryz.prog F #[.agg x.toArray] u fun e u'=>e=.returned (.bool (r y))∧Below u.heap.size u u') :
  Calls Tryz.prog 60 #[.slice a n cc,.func (.func F) #[] #[]] w fun e w'=>e=.returned (.bool (ns.all r))∧Below w.heap.size w w':=by
 have h:=all_gen B0 a n cc ns F #[] (fun i=>r ((ns[i]?).getD (.mk 0 ⟨#[]⟩ (.mk 0 0 ⟨#[]⟩ [] []) false [] 0))) (fun _ u=>Below w.heap.size w u) (fun u=>Below w.heap.size w u) w hf hr hn (Below.refl _ _) (fun i u h=>h.mono hB) hB (fun i u u' h k=>h.trans (k.mono h.size)) (fun i y u x hy hb hu hx=>by
  refine(hst y (List.mem_of_getElem? hy) x u hu hx).mono (fun e u' h=>?_)
  have e1:r ((ns[i]?).getD (.mk 0 ⟨#[]⟩ (.mk 0 0 ⟨#[]⟩ [] []) false [] 0))=r y:=by rw [hy];rfl
  have b2:=hb.trans (h.2.mono hb.size)
  exact⟨by rw [e1];exact h.1,fun _=>b2,fun _=>b2⟩)
 rw [←hn,range_all] at h
 rw [←hn]
 refine h.mono (fun e w' h=>⟨h.1,?_⟩)
 cases hc:ns.all r with
 |true=>exact h.2.1 hc
 |false=>exact h.2.2 hc
set_option maxRecDepth 100000 in
set_option maxHeartbeats 1000000 in
theorem isFn_any (k vk vn p:Int) (t vs:ByteArray) (al ak a:Option Addr) (ll cl lk ck n cc:Nat) (f:Bool) (w:World):Calls Tryz.prog 102 #[.agg #[.int .i64 k,.string t,.int .i64 vk,.int .i64 vn,.string vs,.slice al ll cl,.slice ak lk ck,.bool f,.slice a n cc,.int .i64 p]] w fun e w'=>e=.returned (.bool (decide (k=2)))∧Below w.heap.size w w':=by
 obtain⟨w1,hw1⟩:∃w1,w.alloc (.cells #[.int .i64 k,.string t,.int .i64 vk,.int .i64 vn,.string vs,.slice al ll cl,.slice ak lk ck,.bool f,.slice a n cc,.int .i64 p] 28)=w1:=⟨_,rfl⟩
 obtain⟨G,hG⟩:∃G,w.heap.size=G:=⟨_,rfl⟩
 have A1:w1.heap[G]?=some (.cells #[.int .i64 k,.string t,.int .i64 vk,.int .i64 vn,.string vs,.slice al ll cl,.slice ak lk ck,.bool f,.slice a n cc,.int .i64 p] 28 (0,0)):=by rw [←hw1,←hG];exact heap_alloc_new _ _
 have HX:=hide (show Below w.heap.size w w1 by rw [←hw1];exact(Below.refl _ _).alloc (Nat.le_refl _) _)
 obtain⟨c0,_,_,_,_,_,_,_,_,_⟩:=row_ten A1
 have HA:=hide A1
 obtain⟨R,hR⟩:∃R,(decide (k=2))=R:=⟨_,rfl⟩
 rw [hR]
 have HR:=hide hR
 have HW:=hide hw1
 clear A1 hw1 hR
 go_enter Tryz.func102,Tryz.ntmps102
 go_upto_region 1 with fail
 rw [unhide HW]
 try rw [hG]
 clear HW
 by_cases hk:k=2
 ·rcases hk with rfl
  ·have hR2:R=true:=by rw [←unhide HR];simp [isEx,isStm]
   have HV:=hide hR2
   clear hR2 HR
   go_wp2_with fail
   go_ret
   exact⟨by rw [unhide HV];rfl,by first|exact unhide HX|(rw [hG];exact unhide HX)|(rw [←hG];exact unhide HX)⟩
 ·try simp only [not_or] at hk
  have q2:=hk
  have m2:(k == 2)=false:=beq_eq_false_iff_ne.2 q2
  have hR2:R=false:=by rw [←unhide HR];simp [isEx,isStm,q2]
  have HV:=hide hR2
  clear hR2 HR
  go_wp2_with fail
  go_ret
  exact⟨by rw [unhide HV];rfl,by first|exact unhide HX|(rw [hG];exact unhide HX)|(rw [←hG];exact unhide HX)⟩
theorem isFn_any_ask (B0:Nat):Ask 102 B0 (fun y=>decide (y.k=2)):=by
 intro y x u hu hx
 obtain⟨vk,vn,vs,al,ak,ya,ll,cl,lk,ck,yc,rfl,_⟩:=hx.shape
 exact isFn_any _ _ _ _ _ _ _ _ _ _ _ _ _ _ _ _ u
theorem call_isFn (x:Array Value) (u:World):Sem.run Tryz.prog (callFunc 102 x) u=.ok (.enter 102 x) u:=by kernel_rfl
set_option maxRecDepth 100000 in
set_option maxHeartbeats 1000000 in
theorem isParam_any (k vk vn p:Int) (t vs:ByteArray) (al ak a:Option Addr) (ll cl lk ck n cc:Nat) (f:Bool) (w:World):Calls Tryz.prog 103 #[.agg #[.int .i64 k,.string t,.int .i64 vk,.int .i64 vn,.string vs,.slice al ll cl,.slice ak lk ck,.bool f,.slice a n cc,.int .i64 p]] w fun e w'=>e=.returned (.bool (decide (k=3)))∧Below w.heap.size w w':=by
 obtain⟨w1,hw1⟩:∃w1,w.alloc (.cells #[.int .i64 k,.string t,.int .i64 vk,.int .i64 vn,.string vs,.slice al ll cl,.slice ak lk ck,.bool f,.slice a n cc,.int .i64 p] 28)=w1:=⟨_,rfl⟩
 obtain⟨G,hG⟩:∃G,w.heap.size=G:=⟨_,rfl⟩
 have A1:w1.heap[G]?=some (.cells #[.int .i64 k,.string t,.int .i64 vk,.int .i64 vn,.string vs,.slice al ll cl,.slice ak lk ck,.bool f,.slice a n cc,.int .i64 p] 28 (0,0)):=by rw [←hw1,←hG];exact heap_alloc_new _ _
 have HX:=hide (show Below w.heap.size w w1 by rw [←hw1];exact(Below.refl _ _).alloc (Nat.le_refl _) _)
 obtain⟨c0,_,_,_,_,_,_,_,_,_⟩:=row_ten A1
 have HA:=hide A1
 obtain⟨R,hR⟩:∃R,(decide (k=3))=R:=⟨_,rfl⟩
 rw [hR]
 have HR:=hide hR
 have HW:=hide hw1
 clear A1 hw1 hR
 go_enter Tryz.func103,Tryz.ntmps103
 go_upto_region 1 with fail
 rw [unhide HW]
 try rw [hG]
 clear HW
 by_cases hk:k=3
 ·rcases hk with rfl
  ·have hR2:R=true:=by rw [←unhide HR];simp [isEx,isStm]
   have HV:=hide hR2
   clear hR2 HR
   go_wp2_with fail
   go_ret
   exact⟨by rw [unhide HV];rfl,by first|exact unhide HX|(rw [hG];exact unhide HX)|(rw [←hG];exact unhide HX)⟩
 ·try simp only [not_or] at hk
  have q3:=hk
  have m3:(k == 3)=false:=beq_eq_false_iff_ne.2 q3
  have hR2:R=false:=by rw [←unhide HR];simp [isEx,isStm,q3]
  have HV:=hide hR2
  clear hR2 HR
  go_wp2_with fail
  go_ret
  exact⟨by rw [unhide HV];rfl,by first|exact unhide HX|(rw [hG];exact unhide HX)|(rw [←hG];exact unhide HX)⟩
theorem isParam_any_ask (B0:Nat):Ask 103 B0 (fun y=>decide (y.k=3)):=by
 intro y x u hu hx
 obtain⟨vk,vn,vs,al,ak,ya,ll,cl,lk,ck,yc,rfl,_⟩:=hx.shape
 exact isParam_any _ _ _ _ _ _ _ _ _ _ _ _ _ _ _ _ u
theorem call_isParam (x:Array Value) (u:World):Sem.run Tryz.prog (callFunc 103 x) u=.ok (.enter 103 x) u:=by kernel_rfl
set_option maxRecDepth 100000 in
set_option maxHeartbeats 1000000 in
theorem isBlock_any (k vk vn p:Int) (t vs:ByteArray) (al ak a:Option Addr) (ll cl lk ck n cc:Nat) (f:Bool) (w:World):Calls Tryz.prog 104 #[.agg #[.int .i64 k,.string t,.int .i64 vk,.int .i64 vn,.string vs,.slice al ll cl,.slice ak lk ck,.bool f,.slice a n cc,.int .i64 p]] w fun e w'=>e=.returned (.bool (decide (k=4)))∧Below w.heap.size w w':=by
 obtain⟨w1,hw1⟩:∃w1,w.alloc (.cells #[.int .i64 k,.string t,.int .i64 vk,.int .i64 vn,.string vs,.slice al ll cl,.slice ak lk ck,.bool f,.slice a n cc,.int .i64 p] 28)=w1:=⟨_,rfl⟩
 obtain⟨G,hG⟩:∃G,w.heap.size=G:=⟨_,rfl⟩
 have A1:w1.heap[G]?=some (.cells #[.int .i64 k,.string t,.int .i64 vk,.int .i64 vn,.string vs,.slice al ll cl,.slice ak lk ck,.bool f,.slice a n cc,.int .i64 p] 28 (0,0)):=by rw [←hw1,←hG];exact heap_alloc_new _ _
 have HX:=hide (show Below w.heap.size w w1 by rw [←hw1];exact(Below.refl _ _).alloc (Nat.le_refl _) _)
 obtain⟨c0,_,_,_,_,_,_,_,_,_⟩:=row_ten A1
 have HA:=hide A1
 obtain⟨R,hR⟩:∃R,(decide (k=4))=R:=⟨_,rfl⟩
 rw [hR]
 have HR:=hide hR
 have HW:=hide hw1
 clear A1 hw1 hR
 go_enter Tryz.func104,Tryz.ntmps104
 go_upto_region 1 with fail
 rw [unhide HW]
 try rw [hG]
 clear HW
 by_cases hk:k=4
 ·rcases hk with rfl
  ·have hR2:R=true:=by rw [←unhide HR];simp [isEx,isStm]
   have HV:=hide hR2
   clear hR2 HR
   go_wp2_with fail
   go_ret
   exact⟨by rw [unhide HV];rfl,by first|exact unhide HX|(rw [hG];exact unhide HX)|(rw [←hG];exact unhide HX)⟩
 ·try simp only [not_or] at hk
  have q4:=hk
  have m4:(k == 4)=false:=beq_eq_false_iff_ne.2 q4
  have hR2:R=false:=by rw [←unhide HR];simp [isEx,isStm,q4]
  have HV:=hide hR2
  clear hR2 HR
  go_wp2_with fail
  go_ret
  exact⟨by rw [unhide HV];rfl,by first|exact unhide HX|(rw [hG];exact unhide HX)|(rw [←hG];exact unhide HX)⟩
set_option maxRecDepth 100000 in
set_option maxHeartbeats 1000000 in
theorem isPair_any (k vk vn p:Int) (t vs:ByteArray) (al ak a:Option Addr) (ll cl lk ck n cc:Nat) (f:Bool) (w:World):Calls Tryz.prog 108 #[.agg #[.int .i64 k,.string t,.int .i64 vk,.int .i64 vn,.string vs,.slice al ll cl,.slice ak lk ck,.bool f,.slice a n cc,.int .i64 p]] w fun e w'=>e=.returned (.bool (decide (k=20)))∧Below w.heap.size w w':=by
 obtain⟨w1,hw1⟩:∃w1,w.alloc (.cells #[.int .i64 k,.string t,.int .i64 vk,.int .i64 vn,.string vs,.slice al ll cl,.slice ak lk ck,.bool f,.slice a n cc,.int .i64 p] 28)=w1:=⟨_,rfl⟩
 obtain⟨G,hG⟩:∃G,w.heap.size=G:=⟨_,rfl⟩
 have A1:w1.heap[G]?=some (.cells #[.int .i64 k,.string t,.int .i64 vk,.int .i64 vn,.string vs,.slice al ll cl,.slice ak lk ck,.bool f,.slice a n cc,.int .i64 p] 28 (0,0)):=by rw [←hw1,←hG];exact heap_alloc_new _ _
 have HX:=hide (show Below w.heap.size w w1 by rw [←hw1];exact(Below.refl _ _).alloc (Nat.le_refl _) _)
 obtain⟨c0,_,_,_,_,_,_,_,_,_⟩:=row_ten A1
 have HA:=hide A1
 obtain⟨R,hR⟩:∃R,(decide (k=20))=R:=⟨_,rfl⟩
 rw [hR]
 have HR:=hide hR
 have HW:=hide hw1
 clear A1 hw1 hR
 go_enter Tryz.func108,Tryz.ntmps108
 go_upto_region 1 with fail
 rw [unhide HW]
 try rw [hG]
 clear HW
 by_cases hk:k=20
 ·rcases hk with rfl
  ·have hR2:R=true:=by rw [←unhide HR];simp [isEx,isStm]
   have HV:=hide hR2
   clear hR2 HR
   go_wp2_with fail
   go_ret
   exact⟨by rw [unhide HV];rfl,by first|exact unhide HX|(rw [hG];exact unhide HX)|(rw [←hG];exact unhide HX)⟩
 ·try simp only [not_or] at hk
  have q20:=hk
  have m20:(k == 20)=false:=beq_eq_false_iff_ne.2 q20
  have hR2:R=false:=by rw [←unhide HR];simp [isEx,isStm,q20]
  have HV:=hide hR2
  clear hR2 HR
  go_wp2_with fail
  go_ret
  exact⟨by rw [unhide HV];rfl,by first|exact unhide HX|(rw [hG];exact unhide HX)|(rw [←hG];exact unhide HX)⟩
theorem isPair_any_ask (B0:Nat):Ask 108 B0 (fun y=>decide (y.k=20)):=by
 intro y x u hu hx
 obtain⟨vk,vn,vs,al,ak,ya,ll,cl,lk,ck,yc,rfl,_⟩:=hx.shape
 exact isPair_any _ _ _ _ _ _ _ _ _ _ _ _ _ _ _ _ u
theorem call_isPair (x:Array Value) (u:World):Sem.run Tryz.prog (callFunc 108 x) u=.ok (.enter 108 x) u:=by kernel_rfl
set_option maxRecDepth 100000 in
set_option maxHeartbeats 1000000 in
theorem isOther_any (k vk vn p:Int) (t vs:ByteArray) (al ak a:Option Addr) (ll cl lk ck n cc:Nat) (f:Bool) (w:World):Calls Tryz.prog 107 #[.agg #[.int .i64 k,.string t,.int .i64 vk,.int .i64 vn,.string vs,.slice al ll cl,.slice ak lk ck,.bool f,.slice a n cc,.int .i64 p]] w fun e w'=>e=.returned (.bool (decide (k=4) ||decide (k=7)))∧Below w.heap.size w w':=by
 obtain⟨w1,hw1⟩:∃w1,w.alloc (.cells #[.int .i64 k,.string t,.int .i64 vk,.int .i64 vn,.string vs,.slice al ll cl,.slice ak lk ck,.bool f,.slice a n cc,.int .i64 p] 28)=w1:=⟨_,rfl⟩
 obtain⟨G,hG⟩:∃G,w.heap.size=G:=⟨_,rfl⟩
 have A1:w1.heap[G]?=some (.cells #[.int .i64 k,.string t,.int .i64 vk,.int .i64 vn,.string vs,.slice al ll cl,.slice ak lk ck,.bool f,.slice a n cc,.int .i64 p] 28 (0,0)):=by rw [←hw1,←hG];exact heap_alloc_new _ _
 have HX:=hide (show Below w.heap.size w w1 by rw [←hw1];exact(Below.refl _ _).alloc (Nat.le_refl _) _)
 obtain⟨c0,_,_,_,_,_,_,_,_,_⟩:=row_ten A1
 have HA:=hide A1
 obtain⟨R,hR⟩:∃R,(decide (k=4) ||decide (k=7))=R:=⟨_,rfl⟩
 rw [hR]
 have HR:=hide hR
 have HW:=hide hw1
 clear A1 hw1 hR
 go_enter Tryz.func107,Tryz.ntmps107
 go_upto_region 1 with fail
 rw [unhide HW]
 try rw [hG]
 clear HW
 by_cases hk:k=4∨k=7
 ·rcases hk with rfl|rfl
  ·have hR2:R=true:=by rw [←unhide HR];simp [isEx,isStm]
   have HV:=hide hR2
   clear hR2 HR
   go_wp2_with fail
   go_ret
   exact⟨by rw [unhide HV];rfl,by first|exact unhide HX|(rw [hG];exact unhide HX)|(rw [←hG];exact unhide HX)⟩
  ·have hR2:R=true:=by rw [←unhide HR];simp [isEx,isStm]
   have HV:=hide hR2
   clear hR2 HR
   go_wp2_with fail
   go_ret
   exact⟨by rw [unhide HV];rfl,by first|exact unhide HX|(rw [hG];exact unhide HX)|(rw [←hG];exact unhide HX)⟩
 ·try simp only [not_or] at hk
  obtain⟨q4,q7⟩:=hk
  have m4:(k == 4)=false:=beq_eq_false_iff_ne.2 q4
  have m7:(k == 7)=false:=beq_eq_false_iff_ne.2 q7
  have hR2:R=false:=by rw [←unhide HR];simp [isEx,isStm,q4,q7]
  have HV:=hide hR2
  clear hR2 HR
  go_wp2_with fail
  go_ret
  exact⟨by rw [unhide HV];rfl,by first|exact unhide HX|(rw [hG];exact unhide HX)|(rw [←hG];exact unhide HX)⟩
set_option maxRecDepth 100000 in
set_option maxHeartbeats 1000000 in
theorem isStatement_any (k vk vn p:Int) (t vs:ByteArray) (al ak a:Option Addr) (ll cl lk ck n cc:Nat) (f:Bool) (w:World):Calls Tryz.prog 105 #[.agg #[.int .i64 k,.string t,.int .i64 vk,.int .i64 vn,.string vs,.slice al ll cl,.slice ak lk ck,.bool f,.slice a n cc,.int .i64 p]] w fun e w'=>e=.returned (.bool (isStm k))∧Below w.heap.size w w':=by
 obtain⟨w1,hw1⟩:∃w1,w.alloc (.cells #[.int .i64 k,.string t,.int .i64 vk,.int .i64 vn,.string vs,.slice al ll cl,.slice ak lk ck,.bool f,.slice a n cc,.int .i64 p] 28)=w1:=⟨_,rfl⟩
 obtain⟨G,hG⟩:∃G,w.heap.size=G:=⟨_,rfl⟩
 have A1:w1.heap[G]?=some (.cells #[.int .i64 k,.string t,.int .i64 vk,.int .i64 vn,.string vs,.slice al ll cl,.slice ak lk ck,.bool f,.slice a n cc,.int .i64 p] 28 (0,0)):=by rw [←hw1,←hG];exact heap_alloc_new _ _
 have HX:=hide (show Below w.heap.size w w1 by rw [←hw1];exact(Below.refl _ _).alloc (Nat.le_refl _) _)
 obtain⟨c0,_,_,_,_,_,_,_,_,_⟩:=row_ten A1
 have HA:=hide A1
 obtain⟨R,hR⟩:∃R,(isStm k)=R:=⟨_,rfl⟩
 rw [hR]
 have HR:=hide hR
 have HW:=hide hw1
 clear A1 hw1 hR
 go_enter Tryz.func105,Tryz.ntmps105
 go_upto_region 1 with fail
 rw [unhide HW]
 try rw [hG]
 clear HW
 by_cases hk:k=5∨k=6∨k=7∨k=8∨k=9∨k=10∨k=11∨k=12
 ·rcases hk with rfl|rfl|rfl|rfl|rfl|rfl|rfl|rfl
  ·have hR2:R=true:=by rw [←unhide HR];simp [isEx,isStm]
   have HV:=hide hR2
   clear hR2 HR
   go_wp2_with fail
   go_ret
   exact⟨by rw [unhide HV];rfl,by first|exact unhide HX|(rw [hG];exact unhide HX)|(rw [←hG];exact unhide HX)⟩
  ·have hR2:R=true:=by rw [←unhide HR];simp [isEx,isStm]
   have HV:=hide hR2
   clear hR2 HR
   go_wp2_with fail
   go_ret
   exact⟨by rw [unhide HV];rfl,by first|exact unhide HX|(rw [hG];exact unhide HX)|(rw [←hG];exact unhide HX)⟩
  ·have hR2:R=true:=by rw [←unhide HR];simp [isEx,isStm]
   have HV:=hide hR2
   clear hR2 HR
   go_wp2_with fail
   go_ret
   exact⟨by rw [unhide HV];rfl,by first|exact unhide HX|(rw [hG];exact unhide HX)|(rw [←hG];exact unhide HX)⟩
  ·have hR2:R=true:=by rw [←unhide HR];simp [isEx,isStm]
   have HV:=hide hR2
   clear hR2 HR
   go_wp2_with fail
   go_ret
   exact⟨by rw [unhide HV];rfl,by first|exact unhide HX|(rw [hG];exact unhide HX)|(rw [←hG];exact unhide HX)⟩
  ·have hR2:R=true:=by rw [←unhide HR];simp [isEx,isStm]
   have HV:=hide hR2
   clear hR2 HR
   go_wp2_with fail
   go_ret
   exact⟨by rw [unhide HV];rfl,by first|exact unhide HX|(rw [hG];exact unhide HX)|(rw [←hG];exact unhide HX)⟩
  ·have hR2:R=true:=by rw [←unhide HR];simp [isEx,isStm]
   have HV:=hide hR2
   clear hR2 HR
   go_wp2_with fail
   go_ret
   exact⟨by rw [unhide HV];rfl,by first|exact unhide HX|(rw [hG];exact unhide HX)|(rw [←hG];exact unhide HX)⟩
  ·have hR2:R=true:=by rw [←unhide HR];simp [isEx,isStm]
   have HV:=hide hR2
   clear hR2 HR
   go_wp2_with fail
   go_ret
   exact⟨by rw [unhide HV];rfl,by first|exact unhide HX|(rw [hG];exact unhide HX)|(rw [←hG];exact unhide HX)⟩
  ·have hR2:R=true:=by rw [←unhide HR];simp [isEx,isStm]
   have HV:=hide hR2
   clear hR2 HR
   go_wp2_with fail
   go_ret
   exact⟨by rw [unhide HV];rfl,by first|exact unhide HX|(rw [hG];exact unhide HX)|(rw [←hG];exact unhide HX)⟩
 ·try simp only [not_or] at hk
  obtain⟨q5,q6,q7,q8,q9,q10,q11,q12⟩:=hk
  have m5:(k == 5)=false:=beq_eq_false_iff_ne.2 q5
  have m6:(k == 6)=false:=beq_eq_false_iff_ne.2 q6
  have m7:(k == 7)=false:=beq_eq_false_iff_ne.2 q7
  have m8:(k == 8)=false:=beq_eq_false_iff_ne.2 q8
  have m9:(k == 9)=false:=beq_eq_false_iff_ne.2 q9
  have m10:(k == 10)=false:=beq_eq_false_iff_ne.2 q10
  have m11:(k == 11)=false:=beq_eq_false_iff_ne.2 q11
  have m12:(k == 12)=false:=beq_eq_false_iff_ne.2 q12
  have hR2:R=false:=by rw [←unhide HR];simp [isEx,isStm,q5,q6,q7,q8,q9,q10,q11,q12]
  have HV:=hide hR2
  clear hR2 HR
  go_wp2_with fail
  go_ret
  exact⟨by rw [unhide HV];rfl,by first|exact unhide HX|(rw [hG];exact unhide HX)|(rw [←hG];exact unhide HX)⟩
theorem isStatement_any_ask (B0:Nat):Ask 105 B0 (fun y=>isStm y.k):=by
 intro y x u hu hx
 obtain⟨vk,vn,vs,al,ak,ya,ll,cl,lk,ck,yc,rfl,_⟩:=hx.shape
 exact isStatement_any _ _ _ _ _ _ _ _ _ _ _ _ _ _ _ _ u
theorem call_isStatement (x:Array Value) (u:World):Sem.run Tryz.prog (callFunc 105 x) u=.ok (.enter 105 x) u:=by kernel_rfl
set_option maxRecDepth 100000 in
set_option maxHeartbeats 1000000 in
theorem isExpr_any (k vk vn p:Int) (t vs:ByteArray) (al ak a:Option Addr) (ll cl lk ck n cc:Nat) (f:Bool) (w:World):Calls Tryz.prog 21 #[.agg #[.int .i64 k,.string t,.int .i64 vk,.int .i64 vn,.string vs,.slice al ll cl,.slice ak lk ck,.bool f,.slice a n cc,.int .i64 p]] w fun e w'=>e=.returned (.bool (isEx k))∧Below w.heap.size w w':=by
 obtain⟨w1,hw1⟩:∃w1,w.alloc (.cells #[.int .i64 k,.string t,.int .i64 vk,.int .i64 vn,.string vs,.slice al ll cl,.slice ak lk ck,.bool f,.slice a n cc,.int .i64 p] 28)=w1:=⟨_,rfl⟩
 obtain⟨G,hG⟩:∃G,w.heap.size=G:=⟨_,rfl⟩
 have A1:w1.heap[G]?=some (.cells #[.int .i64 k,.string t,.int .i64 vk,.int .i64 vn,.string vs,.slice al ll cl,.slice ak lk ck,.bool f,.slice a n cc,.int .i64 p] 28 (0,0)):=by rw [←hw1,←hG];exact heap_alloc_new _ _
 have HX:=hide (show Below w.heap.size w w1 by rw [←hw1];exact(Below.refl _ _).alloc (Nat.le_refl _) _)
 obtain⟨c0,_,_,_,_,_,_,_,_,_⟩:=row_ten A1
 have HA:=hide A1
 obtain⟨R,hR⟩:∃R,(isEx k)=R:=⟨_,rfl⟩
 rw [hR]
 have HR:=hide hR
 have HW:=hide hw1
 clear A1 hw1 hR
 go_enter Tryz.func21,Tryz.ntmps21
 go_upto_region 1 with fail
 rw [unhide HW]
 try rw [hG]
 clear HW
 by_cases hk:k=13∨k=14∨k=15∨k=16∨k=17∨k=18∨k=19∨k=21∨k=22
 ·rcases hk with rfl|rfl|rfl|rfl|rfl|rfl|rfl|rfl|rfl
  ·have hR2:R=true:=by rw [←unhide HR];simp [isEx,isStm]
   have HV:=hide hR2
   clear hR2 HR
   go_wp2_with fail
   go_ret
   exact⟨by rw [unhide HV];rfl,by first|exact unhide HX|(rw [hG];exact unhide HX)|(rw [←hG];exact unhide HX)⟩
  ·have hR2:R=true:=by rw [←unhide HR];simp [isEx,isStm]
   have HV:=hide hR2
   clear hR2 HR
   go_wp2_with fail
   go_ret
   exact⟨by rw [unhide HV];rfl,by first|exact unhide HX|(rw [hG];exact unhide HX)|(rw [←hG];exact unhide HX)⟩
  ·have hR2:R=true:=by rw [←unhide HR];simp [isEx,isStm]
   have HV:=hide hR2
   clear hR2 HR
   go_wp2_with fail
   go_ret
   exact⟨by rw [unhide HV];rfl,by first|exact unhide HX|(rw [hG];exact unhide HX)|(rw [←hG];exact unhide HX)⟩
  ·have hR2:R=true:=by rw [←unhide HR];simp [isEx,isStm]
   have HV:=hide hR2
   clear hR2 HR
   go_wp2_with fail
   go_ret
   exact⟨by rw [unhide HV];rfl,by first|exact unhide HX|(rw [hG];exact unhide HX)|(rw [←hG];exact unhide HX)⟩
  ·have hR2:R=true:=by rw [←unhide HR];simp [isEx,isStm]
   have HV:=hide hR2
   clear hR2 HR
   go_wp2_with fail
   go_ret
   exact⟨by rw [unhide HV];rfl,by first|exact unhide HX|(rw [hG];exact unhide HX)|(rw [←hG];exact unhide HX)⟩
  ·have hR2:R=true:=by rw [←unhide HR];simp [isEx,isStm]
   have HV:=hide hR2
   clear hR2 HR
   go_wp2_with fail
   go_ret
   exact⟨by rw [unhide HV];rfl,by first|exact unhide HX|(rw [hG];exact unhide HX)|(rw [←hG];exact unhide HX)⟩
  ·have hR2:R=true:=by rw [←unhide HR];simp [isEx,isStm]
   have HV:=hide hR2
   clear hR2 HR
   go_wp2_with fail
   go_ret
   exact⟨by rw [unhide HV];rfl,by first|exact unhide HX|(rw [hG];exact unhide HX)|(rw [←hG];exact unhide HX)⟩
  ·have hR2:R=true:=by rw [←unhide HR];simp [isEx,isStm]
   have HV:=hide hR2
   clear hR2 HR
   go_wp2_with fail
   go_ret
   exact⟨by rw [unhide HV];rfl,by first|exact unhide HX|(rw [hG];exact unhide HX)|(rw [←hG];exact unhide HX)⟩
  ·have hR2:R=true:=by rw [←unhide HR];simp [isEx,isStm]
   have HV:=hide hR2
   clear hR2 HR
   go_wp2_with fail
   go_ret
   exact⟨by rw [unhide HV];rfl,by first|exact unhide HX|(rw [hG];exact unhide HX)|(rw [←hG];exact unhide HX)⟩
 ·try simp only [not_or] at hk
  obtain⟨q13,q14,q15,q16,q17,q18,q19,q21,q22⟩:=hk
  have m13:(k == 13)=false:=beq_eq_false_iff_ne.2 q13
  have m14:(k == 14)=false:=beq_eq_false_iff_ne.2 q14
  have m15:(k == 15)=false:=beq_eq_false_iff_ne.2 q15
  have m16:(k == 16)=false:=beq_eq_false_iff_ne.2 q16
  have m17:(k == 17)=false:=beq_eq_false_iff_ne.2 q17
  have m18:(k == 18)=false:=beq_eq_false_iff_ne.2 q18
  have m19:(k == 19)=false:=beq_eq_false_iff_ne.2 q19
  have m21:(k == 21)=false:=beq_eq_false_iff_ne.2 q21
  have m22:(k == 22)=false:=beq_eq_false_iff_ne.2 q22
  have hR2:R=false:=by rw [←unhide HR];simp [isEx,isStm,q13,q14,q15,q16,q17,q18,q19,q21,q22]
  have HV:=hide hR2
  clear hR2 HR
  go_wp2_with fail
  go_ret
  exact⟨by rw [unhide HV];rfl,by first|exact unhide HX|(rw [hG];exact unhide HX)|(rw [←hG];exact unhide HX)⟩
theorem isExpr_any_ask (B0:Nat):Ask 21 B0 (fun y=>isEx y.k):=by
 intro y x u hu hx
 obtain⟨vk,vn,vs,al,ak,ya,ll,cl,lk,ck,yc,rfl,_⟩:=hx.shape
 exact isExpr_any _ _ _ _ _ _ _ _ _ _ _ _ _ _ _ _ u
theorem call_isExpr (x:Array Value) (u:World):Sem.run Tryz.prog (callFunc 21 x) u=.ok (.enter 21 x) u:=by kernel_rfl
end Go.Proofs.YtekbmfppfjlboaaGreatDoor
