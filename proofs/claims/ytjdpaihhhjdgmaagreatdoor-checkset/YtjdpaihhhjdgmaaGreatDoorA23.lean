/-
  Layer 18 (print): how many are open at most within a tree; conditions: the nodes lie in memory, not too many.
  Layer 18 (print): has a tree no more parts than may be; conditions: the nodes lie in memory.
-/
import Derived.Test.YtjdpaihhhjdgmaaGreatDoorA22
import Derived.Test.YtjdpaihhhjdgmaaGreatDoorA21
set_option linter.unusedVariables false
set_option linter.unusedSimpArgs false
set_option maxRecDepth 100000
set_option maxHeartbeats 8000000
namespace Go.Proofs.YtjdpaihhhjdgmaaGreatDoor
open Go.RowKit
set_option linter.unusedVariables false
set_option linter.unusedSimpArgs false
theorem opens_any (k vk vn p:Int) (t vs:ByteArray) (al ak a:Option Addr) (ll cl lk ck n cc:Nat) (f:Bool) (w:World):Calls Tryz.prog 88 #[.agg #[.int .i64 k,.string t,.int .i64 vk,.int .i64 vn,.string vs,.slice al ll cl,.slice ak lk ck,.bool f,.slice a n cc,.int .i64 p]] w fun e w'=>e=.returned (.int .i64 ((opn k:Int)))∧Below w.heap.size w w':=by
 obtain⟨w1,hw1⟩:=eX (w.alloc (.cells #[.int .i64 k,.string t,.int .i64 vk,.int .i64 vn,.string vs,.slice al ll cl,.slice ak lk ck,.bool f,.slice a n cc,.int .i64 p] 28))
 obtain⟨G,hG⟩:=eX (w.heap.size)
 have A1:=(al1 hw1 hG).1
 have HX:=hZ (alB hw1)
 obtain⟨c0,_,_,_,_,_,_,_,_,_⟩:=row_ten A1
 have HA:=hZ A1
 obtain⟨R,hR⟩:=eX (((opn k:Int)))
 rw [hR]
 have HR:=hZ hR
 have HW:=hZ hw1
 clear A1 hw1 hR
 go_enter Tryz.func88,Tryz.ntmps88
 go_upto_region 1 with fail
 rw [uZ HW]
 try rw [hG]
 clear HW
 by_cases hk:k=4∨k=15∨k=21∨k=18∨k=19∨k=16
 ·rcases hk with rfl|rfl|rfl|rfl|rfl|rfl
  ·have hR2:R=1:=by rw [←uZ HR];simp [opn]
   have HV:=hZ hR2
   clear hR2 HR
   go_wp2_with fail
   go_ret
   exact⟨by rw [uZ HV] <;> rfl,by first|exact uZ HX|(rw [hG];exact uZ HX)|(rw [←hG];exact uZ HX)⟩
  ·have hR2:R=1:=by rw [←uZ HR];simp [opn]
   have HV:=hZ hR2
   clear hR2 HR
   go_wp2_with fail
   go_ret
   exact⟨by rw [uZ HV] <;> rfl,by first|exact uZ HX|(rw [hG];exact uZ HX)|(rw [←hG];exact uZ HX)⟩
  ·have hR2:R=1:=by rw [←uZ HR];simp [opn]
   have HV:=hZ hR2
   clear hR2 HR
   go_wp2_with fail
   go_ret
   exact⟨by rw [uZ HV] <;> rfl,by first|exact uZ HX|(rw [hG];exact uZ HX)|(rw [←hG];exact uZ HX)⟩
  ·have hR2:R=1:=by rw [←uZ HR];simp [opn]
   have HV:=hZ hR2
   clear hR2 HR
   go_wp2_with fail
   go_ret
   exact⟨by rw [uZ HV] <;> rfl,by first|exact uZ HX|(rw [hG];exact uZ HX)|(rw [←hG];exact uZ HX)⟩
  ·have hR2:R=1:=by rw [←uZ HR];simp [opn]
   have HV:=hZ hR2
   clear hR2 HR
   go_wp2_with fail
   go_ret
   exact⟨by rw [uZ HV] <;> rfl,by first|exact uZ HX|(rw [hG];exact uZ HX)|(rw [←hG];exact uZ HX)⟩
  ·have hR2:R=1:=by rw [←uZ HR];simp [opn]
   have HV:=hZ hR2
   clear hR2 HR
   go_wp2_with fail
   go_ret
   exact⟨by rw [uZ HV] <;> rfl,by first|exact uZ HX|(rw [hG];exact uZ HX)|(rw [←hG];exact uZ HX)⟩
 ·try simp only [not_or] at hk
  obtain⟨q4,q15,q21,q18,q19,q16⟩:=hk
  have m4:(k == 4)=false:=beq_eq_false_iff_ne.2 q4
  have m15:(k == 15)=false:=beq_eq_false_iff_ne.2 q15
  have m21:(k == 21)=false:=beq_eq_false_iff_ne.2 q21
  have m18:(k == 18)=false:=beq_eq_false_iff_ne.2 q18
  have m19:(k == 19)=false:=beq_eq_false_iff_ne.2 q19
  have m16:(k == 16)=false:=beq_eq_false_iff_ne.2 q16
  have hR2:R=0:=by rw [←uZ HR];simp [opn,q4,q15,q21,q18,q19,q16]
  have HV:=hZ hR2
  clear hR2 HR
  go_wp2_with fail
  go_ret
  exact⟨by rw [uZ HV] <;> rfl,by first|exact uZ HX|(rw [hG];exact uZ HX)|(rw [←hG];exact uZ HX)⟩
theorem opn_le (k:Int):opn k≤1:=by unfold opn;split <;> omega
theorem arnd_le (k:Int) (t:ByteArray) (ky:Int) (ty:ByteArray) (i:Nat):arnd k t ky ty i≤2:=by
 have:=opn_le k
 unfold arnd
 split <;> split <;> omega
theorem dpL_le:∀(l:List Tn) (k:Int) (t:ByteArray) (i:Nat),dpL k t i l≤3 * cns l
 |[],k,t,i=>by simp [dpL]
 |.mk ky ty v f ks p :: r,k,t,i=>by
  have h1:=dpL_le ks ky ty 0
  have h2:=dpL_le r k t (i+1)
  have h3:=arnd_le k t ky ty i
  have h4:=opn_le ky
  simp only [dpL,cns]
  omega
theorem dpN_le (y:Tn):dpN y≤3 * cns [y]:=by
 have h1:=dpL_le y.ks y.k y.t 0
 have h2:=opn_le y.k
 have h3:=cns_one y
 unfold dpN
 omega
theorem dpL_at (k:Int) (t:ByteArray) (l:List Tn) (i:Nat) (y:Tn) (h:l[i]?=some y):dpL k t i (l.drop i)=max (arnd k t y.k y.t i+dpN y) (dpL k t (i+1) (l.drop (i+1))):=by
 have hl:=(List.getElem?_eq_some_iff.1 h).1
 have e:l.drop i=y :: l.drop (i+1):=by
  rw [List.drop_eq_getElem_cons hl]
  congr 1
  exact(List.getElem?_eq_some_iff.1 h).2
 rw [e,dpL_cons]
def DpnAt (N:Nat):Prop:=∀(B0:Nat) (y:Tn),cns [y]≤N→cns [y]≤20000→∀(x:List Value) (u:World),B0≤u.heap.size→IsN u (fun b=>b<B0) y x→Calls Tryz.prog 41 #[.agg x.toArray] u fun e u'=>e=.returned (.int .i64 (dpN y:Int))∧Below u.heap.size u u'
theorem dpn_step (N:Nat) (ih:DpnAt N):DpnAt (N+1):=by
 intro B0 y hN h20 x w hB hx
 obtain⟨vk,vn,vs,al,ak,a,ll,cl,lk,ck,cc,rfl,hv,hr,hbk,hbp⟩:=hx.opn
 obtain⟨k,t,v,f,ks,p⟩:=y
 simp only at hv hr ⊢
 obtain⟨n,hn⟩:=eX (ks.length)
 simp only [hn]
 have hsub:∀z∈ks,cns [z]≤N∧cns [z]≤20000:=fun z hz=>by
  have h1:=cns_mem ks z hz
  have h2:cns [⟨k,t,v,f,ks,p⟩]=1+cvs v.l+cns ks:=cns_one _
  omega
 obtain⟨w1,hw1⟩:=eX (w.alloc (.cells #[.int .i64 k,.string t,.int .i64 vk,.int .i64 vn,.string vs,.slice al ll cl,.slice ak lk ck,.bool f,.slice a n cc,.int .i64 p] 28))
 obtain⟨G,hG⟩:=eX (w.heap.size)
 obtain⟨A1,X1⟩:=al1 hw1 hG
 have hBG:B0≤G:=by rw [←hG];exact hB
 have hnb:n≤140737488351232:=by rw [←hn];exact hr.len
 have hncc:n≤cc:=by obtain⟨C,hf,_⟩:=hr;rw [←hn];exact hf.ll
 obtain⟨c0,c1,c2,c3,c4,c5,c6,c7,c8,c9⟩:=row_ten A1
 have CO:=hZ (opens_any k vk vn p t vs al ak a ll cl lk ck n cc f w1)
 obtain⟨o,ho⟩:=eX (opn k)
 have ho1:o≤1:=by rw [←ho];exact opn_le k
 rw [ho] at CO
 obtain⟨R,hR⟩:=eX (dpN ⟨k,t,v,f,ks,p⟩)
 rw [hR]
 have hR':max o (dpL k t 0 ks)=R:=by rw [←hR,←ho];rfl
 have hRb:R≤60000:=by rw [←hR];have:=dpN_le ⟨k,t,v,f,ks,p⟩;omega
 have HR:=hZ (And.intro hR' hRb)
 have HS:=hZ (And.intro hn (And.intro hsub (And.intro hBG (And.intro hr ho))))
 have HA:=hZ A1
 have HX:=hZ X1
 have HW:=hZ hw1
 have hGs:Hid (G≤w1.heap.size):=hZ (Nat.le_of_lt (lt_of_row A1))
 clear A1 X1 hw1 hR hR' hRb hv hr hx hbk hbp hn hsub hBG hB ho hN h20
 go_enter Tryz.func41,Tryz.ntmps41
 go_upto_region 1 with fail
 rw [uZ HW]
 try rw [hG]
 clear HW
 go_wp2_with fail
 refine(uZ CO).mono ?_
 rintro e w2 ⟨rfl,b2⟩
 have HA2:=hZ (Below.cellsAt b2 (uZ HA))
 have HX2:=hZ ((uZ HX).trans (b2.mono (uZ hGs)))
 clear b2 CO c0 c1 c2 c3 c4 c5 c6 c7 c8 c9 HA HX hGs
 obtain⟨_,_,_,_,_,_,_,_,c8,_⟩:=row_ten (uZ HA2)
 go_wp2_with fail
 clear c8
 go_loopw [4,14] (fun xm x wr=>∃(i m:Nat),xm=.int .i64 (m:Int)∧x=.int .i64 (i:Int)∧i≤n∧Hid (Below w2.heap.size w2 wr)∧Hid (max m (dpL k t i (ks.drop i))=R)) (fun _ x _=>n - (intOf x).toNat)
 case atStart=>exact⟨0,o,rfl,rfl,Nat.zero_le _,hZ (Below.refl _ _),hZ (by simpa using (uZ HR).1)⟩
 case round=>
  obtain⟨i,m,rfl,rfl,hin,HI,HT⟩:=hrel
  obtain⟨wq,hwq⟩:∃wq,wq=wr:=⟨_,rfl⟩
  subst hwq
  by_cases hi:i<n
  ·have i2:(i:Int)<(n:Int):=by omega
   obtain⟨hn,hsub,hBG,hr,ho⟩:=uZ HS
   have hGq:Below G w wq:=(uZ HX2).trans ((uZ HI).mono (by rw [←hG];exact(uZ HX2).size))
   have HGq:Hid (G≤wq.heap.size):=hZ (by rw [←hG];exact hGq.size)
   obtain⟨z,hz⟩:∃z,ks[i]?=some z:=⟨_,List.getElem?_eq_getElem (by omega)⟩
   obtain⟨b,vky,vny,vsy,aly,aky,ay,lly,cly,lky,cky,ny,ccy,rfl,hcy,hby,hny,hzy,hcelly⟩:=(hr.later (hGq.mono hBG)).ten hz
   have hzm:=hsub z (List.mem_of_getElem? hz)
   have hdz:=dpN_le z
   obtain⟨ky,ty,vy,fy,ksy,py⟩:=z
   simp only at hcelly hzy
   obtain⟨e0,e1,e2,e3,e4,e5,e6,e7,e8,e9⟩:=tenC hcelly
   obtain⟨w3,hw3⟩:=eX (wq.alloc (.cells #[.int .i64 ky,.string ty,.int .i64 vky,.int .i64 vny,.string vsy,.slice aly lly cly,.slice aky lky cky,.bool fy,.slice ay ny ccy,.int .i64 py] 28))
   obtain⟨g1,hg1⟩:=eX (wq.heap.size)
   have A3:w3.heap[g1]?=some (.cells #[.int .i64 ky,.string ty,.int .i64 vky,.int .i64 vny,.string vsy,.slice aly lly cly,.slice aky lky cky,.bool fy,.slice ay ny ccy,.int .i64 py] 28 (0,0)):=alN hw3 hg1
   have b3:=alB hw3
   have hBq:B0≤wq.heap.size:=Nat.le_trans hBG (uZ HGq)
   have N3:=hZ (Below.cellsAt b3 (Below.cellsAt (uZ HI) (uZ HA2)))
   have hc3:∀j v,([.int .i64 ky,.string ty,.int .i64 vky,.int .i64 vny,.string vsy,.slice aly lly cly,.slice aky lky cky,.bool fy,.slice ay ny ccy,.int .i64 py]:List Value)[j]?=some v→w3.cell? ((b.add (i * 10)).add j)=some v:=fun j v hj=>(World.cell?_of_block (b3.block _ (by rw [block_add,block_add];omega))).trans (hcelly j v hj)
   have CB:=hZ (bracketed_any k vk vn p t vs al ak ll cl lk ck n cc f b ky vky vny py ty vsy aly aky ay lly cly lky cky ny ccy fy i w3 hi hncc hnb hc3)
   have hd20:dpN ⟨ky,ty,vy,fy,ksy,py⟩≤60000:=by omega
   have CD:Hid (∀u,Below w3.heap.size w3 u→Calls Tryz.prog 41 #[.agg #[.int .i64 ky,.string ty,.int .i64 vky,.int .i64 vny,.string vsy,.slice aly lly cly,.slice aky lky cky,.bool fy,.slice ay ny ccy,.int .i64 py]] u fun e u'=>e=.returned (.int .i64 (dpN ⟨ky,ty,vy,fy,ksy,py⟩:Int))∧Below u.heap.size u u'):=hZ (fun u hu=>ih B0 _ hzm.1 hzm.2 _ u (Nat.le_trans hBq (Nat.le_trans b3.size hu.size)) (hzy.laterB ((b3.mono hBq).trans (hu.mono (Nat.le_trans hBq b3.size)))))
   obtain⟨D,hD⟩:=eX (dpN ⟨ky,ty,vy,fy,ksy,py⟩)
   have hat:=dpL_at k t ks i _ hz
   simp only at hat
   rw [hD] at CD hd20 hat
   obtain⟨Q,hQ⟩:=eX (brk k t ky ty i)
   rw [hQ] at CB
   obtain⟨rs,hrs⟩:=eX (dpL k t (i+1) (ks.drop (i+1)))
   rw [hrs] at hat
   obtain⟨AR,hAR⟩:=eX (arnd k t ky ty i)
   rw [hAR] at hat
   have HV:Hid (max (max m (AR+D)) rs=R∧AR=(if k=21∧i=0 then 0 else o)+(if Q=true then 1 else 0)):=hZ ⟨by have:=uZ HT;rw [hat] at this;omega,by rw [←hAR];unfold arnd;rw [ho,hQ]⟩
   have HRS:=hZ hrs
   have hm6:m≤60000:=by have h1:=uZ HT;have h2:=(uZ HR).2;omega
   have HA3:=hZ A3
   have HW3:=hZ hw3
   have HB3:=hZ ((uZ HI).trans (b3.mono (uZ HI).size))
   clear hAR hn hsub hBG hr ho hz hcelly hzy hzm hdz hny hw3 A3 b3 hBq hc3 hD hat hQ hrs hGq HT HGq hcy hby
   obtain⟨x0,x1,x2,x3,x4,x5,x6,x7,x8,x9⟩:=row_ten (Below.cellsAt (uZ HI) (uZ HA2))
   go_upto_region 6 with fail
   rw [uZ HW3]
   try rw [hg1]
   clear HW3 e0 e1 e2 e3 e4 e5 e6 e7 e8 e9 x0 x1 x2 x3 x4 x5 x6 x7 x8 x9
   obtain⟨x0,x1,x2,x3,x4,x5,x6,x7,x8,x9⟩:=row_ten (uZ N3)
   by_cases hk:k=21
   ·subst hk
    by_cases hz:i=0
    ·subst hz
     go_wp2_with fail
     refine(uZ CB).mono ?_
     rintro e w4 ⟨rfl,b4⟩
     have HA4:=hZ (Below.cellsAt b4 (uZ HA3))
     have HB4:=hZ ((uZ HB3).trans (b4.mono (uZ HB3).size))
     have C4:=hZ ((uZ CD) w4 b4)
     obtain⟨y0,y1,y2,y3,y4,y5,y6,y7,y8,y9⟩:=row_ten (uZ HA4)
     clear b4 CB CD x0 x1 x2 x3 x4 x5 x6 x7 x8 x9
     cases Q with
     |false=>
      have hA:AR=0:=by first|(rw [(uZ HV).2,if_pos ⟨rfl,rfl⟩];simp;done)|(have:=(uZ HV).2;simpa using this)
      have HV2:=hZ (show max (max m (0+D)) rs=R by rw [←hA];exact(uZ HV).1)
      clear hA
      go_wp2_with fail
      refine(uZ C4).mono ?_
      rintro e w5 ⟨rfl,b5⟩
      have HB5:=hZ ((uZ HB4).trans (b5.mono (uZ HB4).size))
      clear b5 C4 y0 y1 y2 y3 y4 y5 y6 y7 y8 y9
      go_wp2_with fail
      go_roundw
      case rel=>exact⟨0+1,max m (0+D),by first|go_num|(go_num;omega),by go_num,by omega,HB5,hZ (by rw [uZ HRS];exact uZ HV2)⟩
      case measure=>simp [intOf];omega
     |true=>
      have hA:AR=(0+1):=by first|(rw [(uZ HV).2,if_pos ⟨rfl,rfl⟩];simp;done)|(have:=(uZ HV).2;simpa using this)
      have HV2:=hZ (show max (max m ((0+1)+D)) rs=R by rw [←hA];exact(uZ HV).1)
      clear hA
      go_wp2_with fail
      refine(uZ C4).mono ?_
      rintro e w5 ⟨rfl,b5⟩
      have HB5:=hZ ((uZ HB4).trans (b5.mono (uZ HB4).size))
      clear b5 C4 y0 y1 y2 y3 y4 y5 y6 y7 y8 y9
      go_wp2_with fail
      go_roundw
      case rel=>exact⟨0+1,max m ((0+1)+D),by first|go_num|(go_num;omega),by go_num,by omega,HB5,hZ (by rw [uZ HRS];exact uZ HV2)⟩
      case measure=>simp [intOf];omega
    ·have z1:¬(i:Int)=0:=by omega
     have z2:((i:Int) == 0)=false:=beq_eq_false_iff_ne.2 z1
     have z3:(i == 0)=false:=beq_eq_false_iff_ne.2 hz
     go_wp2_with fail
     refine(uZ CB).mono ?_
     rintro e w4 ⟨rfl,b4⟩
     have HA4:=hZ (Below.cellsAt b4 (uZ HA3))
     have HB4:=hZ ((uZ HB3).trans (b4.mono (uZ HB3).size))
     have C4:=hZ ((uZ CD) w4 b4)
     obtain⟨y0,y1,y2,y3,y4,y5,y6,y7,y8,y9⟩:=row_ten (uZ HA4)
     clear b4 CB CD x0 x1 x2 x3 x4 x5 x6 x7 x8 x9
     cases Q with
     |false=>
      have hA:AR=o:=by first|(rw [(uZ HV).2,if_neg (fun h=>hz h.2)];simp;done)|(have:=(uZ HV).2;simpa using this)
      have HV2:=hZ (show max (max m (o+D)) rs=R by rw [←hA];exact(uZ HV).1)
      clear hA
      go_wp2_with fail
      refine(uZ C4).mono ?_
      rintro e w5 ⟨rfl,b5⟩
      have HB5:=hZ ((uZ HB4).trans (b5.mono (uZ HB4).size))
      clear b5 C4 y0 y1 y2 y3 y4 y5 y6 y7 y8 y9
      go_wp2_with fail
      go_roundw
      case rel=>exact⟨i+1,max m (o+D),by first|go_num|(go_num;omega),by go_num,by omega,HB5,hZ (by rw [uZ HRS];exact uZ HV2)⟩
      case measure=>simp [intOf];omega
     |true=>
      have hA:AR=(o+1):=by first|(rw [(uZ HV).2,if_neg (fun h=>hz h.2)];simp;done)|(have:=(uZ HV).2;simpa using this)
      have HV2:=hZ (show max (max m ((o+1)+D)) rs=R by rw [←hA];exact(uZ HV).1)
      clear hA
      go_wp2_with fail
      refine(uZ C4).mono ?_
      rintro e w5 ⟨rfl,b5⟩
      have HB5:=hZ ((uZ HB4).trans (b5.mono (uZ HB4).size))
      clear b5 C4 y0 y1 y2 y3 y4 y5 y6 y7 y8 y9
      go_wp2_with fail
      go_roundw
      case rel=>exact⟨i+1,max m ((o+1)+D),by first|go_num|(go_num;omega),by go_num,by omega,HB5,hZ (by rw [uZ HRS];exact uZ HV2)⟩
      case measure=>simp [intOf];omega
   ·have z1:(k == 21)=false:=beq_eq_false_iff_ne.2 hk
    go_wp2_with fail
    refine(uZ CB).mono ?_
    rintro e w4 ⟨rfl,b4⟩
    have HA4:=hZ (Below.cellsAt b4 (uZ HA3))
    have HB4:=hZ ((uZ HB3).trans (b4.mono (uZ HB3).size))
    have C4:=hZ ((uZ CD) w4 b4)
    obtain⟨y0,y1,y2,y3,y4,y5,y6,y7,y8,y9⟩:=row_ten (uZ HA4)
    clear b4 CB CD x0 x1 x2 x3 x4 x5 x6 x7 x8 x9
    cases Q with
    |false=>
     have hA:AR=o:=by first|(rw [(uZ HV).2,if_neg (fun h=>hk h.1)];simp;done)|(have:=(uZ HV).2;simpa using this)
     have HV2:=hZ (show max (max m (o+D)) rs=R by rw [←hA];exact(uZ HV).1)
     clear hA
     go_wp2_with fail
     refine(uZ C4).mono ?_
     rintro e w5 ⟨rfl,b5⟩
     have HB5:=hZ ((uZ HB4).trans (b5.mono (uZ HB4).size))
     clear b5 C4 y0 y1 y2 y3 y4 y5 y6 y7 y8 y9
     go_wp2_with fail
     go_roundw
     case rel=>exact⟨i+1,max m (o+D),by first|go_num|(go_num;omega),by go_num,by omega,HB5,hZ (by rw [uZ HRS];exact uZ HV2)⟩
     case measure=>simp [intOf];omega
    |true=>
     have hA:AR=(o+1):=by first|(rw [(uZ HV).2,if_neg (fun h=>hk h.1)];simp;done)|(have:=(uZ HV).2;simpa using this)
     have HV2:=hZ (show max (max m ((o+1)+D)) rs=R by rw [←hA];exact(uZ HV).1)
     clear hA
     go_wp2_with fail
     refine(uZ C4).mono ?_
     rintro e w5 ⟨rfl,b5⟩
     have HB5:=hZ ((uZ HB4).trans (b5.mono (uZ HB4).size))
     clear b5 C4 y0 y1 y2 y3 y4 y5 y6 y7 y8 y9
     go_wp2_with fail
     go_roundw
     case rel=>exact⟨i+1,max m ((o+1)+D),by first|go_num|(go_num;omega),by go_num,by omega,HB5,hZ (by rw [uZ HRS];exact uZ HV2)⟩
     case measure=>simp [intOf];omega
  ·have i2:¬(i:Int)<(n:Int):=by omega
   have hin2:i=n:=by omega
   have hM:m=R:=by
    have h1:=uZ HT
    rw [hin2,←(uZ HS).1,List.drop_length] at h1
    simpa [dpL] using h1
   have HM:=hZ hM
   have HY:=hZ ((uZ HX2).trans ((uZ HI).mono (by rw [←hG];exact(uZ HX2).size)))
   clear hM
   go_wp2_with fail
   go_ret
   exact⟨by rw [uZ HM] <;> rfl,by first|exact uZ HY|(rw [hG];exact uZ HY)⟩
theorem deep_all:∀N,DpnAt N
 |0=>fun B0 y hN=>by rw [cns_one] at hN;omega
 |N+1=>dpn_step N (deep_all N)
structure Bes (gl:Nat) (w w':World):Prop where
 os:w'.os=w.os
 tape:w'.tape=w.tape
 output:w'.output=w.output
 size:w.heap.size≤w'.heap.size
 block:∀k,k<w.heap.size→k≠gl→w'.heap[k]?=w.heap[k]?
theorem Bes.trans {gl:Nat} {a b c:World} (h:Bes gl a b) (k:Bes gl b c):Bes gl a c:=
 ⟨k.os.trans h.os,k.tape.trans h.tape,k.output.trans h.output,Nat.le_trans h.size k.size,fun i hi hn=>(k.block i (Nat.lt_of_lt_of_le hi h.size) hn).trans (h.block i hi hn)⟩
theorem Bes.of {gl:Nat} {a b:World} (h:Below a.heap.size a b):Bes gl a b:=⟨h.os,h.tape,h.output,h.size,fun k hk _=>h.block k hk⟩
theorem Bes.below {gl B:Nat} {a b:World} (h:Bes gl a b) (hB:B≤gl) (hs:B≤a.heap.size):Below B a b:=⟨h.os,h.tape,h.output,h.size,fun k hk=>h.block k (Nat.lt_of_lt_of_le hk hs) (by omega)⟩
theorem Bes.set {gl:Nat} {a b:World} (h:Bes gl a b) (v:Value):Bes gl a (b.setCell ⟨gl,0,none⟩ v):=by
 have hb:=(Below.refl 0 b).setCell (p:=⟨gl,0,none⟩) (Nat.zero_le _) v
 exact⟨hb.os.trans h.os,hb.tape.trans h.tape,hb.output.trans h.output,Nat.le_trans h.size hb.size,fun k hk hn=>by rw [heap_setCell_other _ _ _ _ hn];exact h.block k hk hn⟩
structure Sml (w:World) (gl gv:Nat) (x:Int):Prop where
 lf:w.heap[gl]?=some (.cells #[.int .i64 x] 3 (0,0))
 fv:w.heap[gv]?=some (.cells #[.func (.func 81) #[] #[.pointer (some ⟨gl,0,none⟩),.pointer (some ⟨gv,0,none⟩)]] 103 (0,0))
theorem Sml.set {w:World} {gl gv:Nat} {x:Int} (h:Sml w gl gv x) (hn:gv≠gl) (y:Int):Sml (w.setCell ⟨gl,0,none⟩ (.int .i64 y)) gl gv y:=
 ⟨by rw [heap_setCell_same w gl 0 _ _ _ h.lf];rfl,by rw [heap_setCell_other _ _ _ _ hn];exact h.fv⟩
theorem Sml.later {w u:World} {gl gv:Nat} {x:Int} (h:Sml w gl gv x) (hb:Below w.heap.size w u):Sml u gl gv x:=⟨Below.cellsAt hb h.lf,Below.cellsAt hb h.fv⟩
theorem cvs_le:∀(l:List Vl) (i:Nat),cvs (l.drop i)≤cvs l:=by
 intro l
 induction l with
 |nil=>intro i;simp
 |cons a r ih=>
  intro i
  cases i with
  |zero=>simp
  |succ i=>obtain⟨k,n,s,l,ks⟩:=a;have:=ih i;simp only [List.drop_succ_cons,cvs];omega
theorem cvs_mem:∀(l:List Vl) (i:Nat) (y:Vl),l[i]?=some y→1+cvs y.l≤cvs l:=by
 intro l i y h
 have h1:=cvs_at l i y h
 have h2:∀(l:List Vl) (i:Nat),cvs (l.drop i)≤cvs l:=by
  intro l
  induction l with
  |nil=>intro i;simp
  |cons a r ih=>
   intro i
   cases i with
   |zero=>simp
   |succ i=>obtain⟨k,n,s,l,ks⟩:=a;have:=ih i;simp only [List.drop_succ_cons,cvs];omega
 have:=h2 l i
 omega
theorem isV_lt {w:World} {B:Nat} {kind n:Int} {s:ByteArray} {l:List Vl} {ks:List ByteArray} {al ak:Option Addr} {ll cl lk ck:Nat} (h:IsV w B (.mk kind n s l ks) (.agg #[.int .i64 kind,.int .i64 n,.string s,.slice al ll cl,.slice ak lk ck])):ll=l.length∧ll≤cl∧ll≤140737488351232:=by
 obtain⟨_,_,_,h1,h2,V,hf,_⟩:=IsP.at h
 exact⟨h1,by rw [h1];exact hf.ll,by rw [h1];exact hf.bl⟩
def VlsAt (N:Nat):Prop:=∀(kind n:Int) (s:ByteArray) (l:List Vl) (ks:List ByteArray) (al ak:Option Addr) (ll cl lk ck x B gl gv:Nat) (w:World),cvs l≤N→IsV w B (.mk kind n s l ks) (.agg #[.int .i64 kind,.int .i64 n,.string s,.slice al ll cl,.slice ak lk ck])→B≤gl→B≤gv→gv≠gl→B≤w.heap.size→x≤20000→Sml w gl gv (x:Int) →
 Calls Tryz.prog 81 #[.slice al ll cl,.pointer (some ⟨gl,0,none⟩),.pointer (some ⟨gv,0,none⟩)] w fun e w'=>e=.returned (.bool (decide (cvs l≤x)))∧Bes gl w w'∧(decide (cvs l≤x)=true→Sml w' gl gv ((x - cvs l:Nat):Int))
theorem values_step (N:Nat) (ih:∀M,M<N→VlsAt M):VlsAt N:=by
 intro kind n s l ks al ak ll cl lk ck x B gl gv w hN hv hl hg hne hB hx hs
 obtain⟨hll,hlc,hlb⟩:=isV_lt hv
 have HH:=hZ (And.intro hv (And.intro hs (And.intro hll (And.intro hB hN))))
 have HG:=hZ (And.intro hl (And.intro hg hne))
 obtain⟨R,hR⟩:=eX (decide (cvs l≤x))
 rw [hR]
 have HR:=hZ hR
 obtain⟨Z,hZz⟩:=eX (x - cvs l)
 rw [hZz]
 have HZ:=hZ hZz
 clear hv hs hll hB hN hl hg hR hZz
 go_enter Tryz.func81,Tryz.ntmps81
 go_wp2_with fail
 go_loopw [9] (fun xx wr=>∃(i y:Nat),xx=.int .i64 (i:Int)∧i≤ll∧y≤20000∧Hid (Bes gl w wr)∧Hid (Sml wr gl gv (y:Int))∧Hid (x=y+(cvs l - cvs (l.drop i)))) (fun xx _=>ll - (intOf xx).toNat)
 case atStart=>exact⟨0,x,rfl,Nat.zero_le _,hx,hZ ⟨rfl,rfl,rfl,Nat.le_refl _,fun _ _ _=>rfl⟩,hZ (uZ HH).2.1,hZ (by simp)⟩
 case round=>
  obtain⟨i,y,rfl,hin,hy20,HBB,HS,HE⟩:=hrel
  obtain⟨wq,hwq⟩:∃wq,wq=wr:=⟨_,rfl⟩
  subst hwq
  by_cases hi:i<ll
  ·have i2:(i:Int)<(ll:Int):=by omega
   obtain⟨hv,hs,hll,hB,hN⟩:=uZ HH
   obtain⟨hl,hg,hne⟩:=uZ HG
   have bq:=(uZ HBB).below hl hB
   obtain⟨z,hz⟩:∃z,l[i]?=some z:=⟨_,List.getElem?_eq_getElem (by omega)⟩
   obtain⟨a,y0,y1,y2,al',ak',ll',m',cl',ck',rfl,hab,hce,hve⟩:=(hv.mono bq).elem i z hz
   have e0:wq.cell? (a.add (i * 5))=some (.int .i64 y0):=hce 0 (.int .i64 y0) rfl
   have e1:wq.cell? ⟨(a.add (i * 5)).block,(a.add (i * 5)).off+1,none⟩=some (.int .i64 y1):=hce 1 (.int .i64 y1) rfl
   have e2:wq.cell? ⟨(a.add (i * 5)).block,(a.add (i * 5)).off+2,none⟩=some (.string y2):=hce 2 (.string y2) rfl
   have e3:wq.cell? ⟨(a.add (i * 5)).block,(a.add (i * 5)).off+3,none⟩=some (.slice al' ll' cl'):=hce 3 (.slice al' ll' cl') rfl
   have e4:wq.cell? ⟨(a.add (i * 5)).block,(a.add (i * 5)).off+4,none⟩=some (.slice ak' m' ck'):=hce 4 (.slice ak' m' ck') rfl
   obtain⟨w5,hw5⟩:=eX (wq.alloc (.cells #[(.int .i64 y0),(.int .i64 y1),(.string y2),(.slice al' ll' cl'),(.slice ak' m' ck')] 25))
   have BX5:=Box.mk' wq (.int .i64 y0) (.int .i64 y1) (.string y2) (.slice al' ll' cl') (.slice ak' m' ck')
   rw [hw5] at BX5
   obtain⟨g5,hg5⟩:=eX (wq.heap.size)
   have S5:=(uZ HS).later BX5.below
   obtain⟨q1,f1⟩:=one_cell S5.lf
   have hgl5:gl<g5:=by rw [←hg5];exact(Array.getElem?_eq_some_iff.1 (uZ HS).lf).1
   obtain⟨w6,hw6⟩:=eX (w5.setCell ⟨gl,0,none⟩ (.int .i64 ((y:Int) - 1)))
   have S6:Sml w6 gl gv ((y:Int) - 1):=by rw [←hw6];exact S5.set hne _
   have R6:w6.heap[g5]?=some (.cells #[(.int .i64 y0),(.int .i64 y1),(.string y2),(.slice al' ll' cl'),(.slice ak' m' ck')] 25 (0,0)):=by rw [←hw6,heap_setCell_other _ _ _ _ (by simp;omega),←hg5];exact BX5.row
   have B6:Bes gl wq w6:=by rw [←hw6];exact(Bes.of BX5.below).set _
   have hBq:B≤wq.heap.size:=Nat.le_trans hB (uZ HBB).size
   have hv6:IsV w6 B z (.agg #[.int .i64 y0,.int .i64 y1,.string y2,.slice al' ll' cl',.slice ak' m' ck']):=hve.mono (B6.below hl hBq)
   have X6:=hZ ((uZ HBB).trans B6)
   have HY5:=hZ hw5
   have HY6:=hZ hw6
   have HV6:=hZ (And.intro hv6 (And.intro S6 (And.intro hBq B6)))
   have HGG:=hZ hg5
   have HR5:=hZ (row_cell R6).2.2.2.1
   have HD:=hZ hz
   clear hv hs hB hN hll hl hg bq hz hce hve BX5 S5 S6 R6 B6 hBq hv6 hw5 hw6
   go_upto_region 4 with fail
   rw [uZ HY5]
   try rw [uZ HGG]
   have e5:IntKind.i64.wrap ((y:Int) - 1)=(y:Int) - 1:=by rw [IntKind.wrap_i64];omega
   clear HY5 e0 e1 e2 e3 e4
   go_upto_region 5 with fail
   rw [uZ HY6]
   clear HY6 q1 f1
   obtain⟨q1,f1⟩:=one_cell (uZ HV6).2.1.lf
   by_cases hy0:y=0
   ·subst hy0
    have l1:((0:Nat):Int) - 1<0:=by omega
    have hF:R=false:=by
     rw [←uZ HR]
     have h1:=uZ HE
     have h2:=cvs_at l i z (uZ HD)
     have h3:=cvs_le l i
     exact decide_eq_false (by omega)
    have HF:=hZ hF
    clear hF
    go_wp2_with fail
    go_ret
    exact⟨by rw [uZ HF];rfl,uZ X6,fun h=>by rw [uZ HF] at h;cases h⟩
   ·obtain⟨m,hm⟩:∃m,y=m+1:=⟨y - 1,by omega⟩
    have em:(y:Int) - 1=(m:Int):=by omega
    have HM:=hZ hm
    have hm20:m≤20000:=by omega
    rw [em] at q1 HV6
    obtain⟨hv6,S6,hBq,B6⟩:=uZ HV6
    obtain⟨k',n',s',l',ks',_,_,_,_,rfl,_⟩:=hv6.shape
    obtain⟨hv6,h1,h2⟩:IsV w6 B (.mk k' n' s' l' ks') (.agg #[.int .i64 k',.int .i64 n',.string s',.slice al' ll' cl',.slice ak' m' ck'])∧y0=k'∧y1=n':=by
     obtain⟨e1,e2,e3,_⟩:=IsP.at hv6
     subst e1 e2 e3
     exact⟨hv6,rfl,rfl⟩
    have q2:=(one_cell S6.fv).1
    have CI:=hZ (ih (cvs l') (by have h5:=cvs_mem l i _ (uZ HD);have h6:=(uZ HH).2.2.2.2;simp only at h5;omega) k' n' s' l' ks' al' ak' ll' cl' m' ck' m B gl gv w6 (Nat.le_refl _) hv6 (uZ HG).1 (uZ HG).2.1 (uZ HG).2.2 (Nat.le_trans hBq B6.size) hm20 S6)
    have HW6:=hZ (And.intro B6 S6)
    have l1:¬(m:Int)<0:=by omega
    obtain⟨Q,hQ⟩:=eX (decide (cvs l'≤m))
    rw [hQ] at CI
    have HQ:=hZ hQ
    have HR6:=hZ (show w6.cell? ⟨g5,3,none⟩=some (.slice al' ll' cl') from uZ HR5)
    have r3:=uZ HR6
    clear hQ hm hv6 S6 hBq B6 h1 h2 HV6 em hy0
    go_wp2_with fail
    refine(uZ CI).mono ?_
    rintro e w7 ⟨rfl,b7,s7⟩
    have X7:=hZ ((uZ X6).trans b7)
    have S7:=hZ s7
    clear b7 s7 CI q1 f1 q2 r3
    cases Q with
    |false=>
     have hF:R=false:=by
      rw [←uZ HR]
      have h1:=uZ HE
      have h2:=cvs_at l i _ (uZ HD)
      have h3:=cvs_le l i
      have h4:=of_decide_eq_false (uZ HQ)
      have h5:=uZ HM
      simp only at h2
      exact decide_eq_false (by omega)
     have HF:=hZ hF
     clear hF
     go_wp2_with fail
     go_ret
     exact⟨by rw [uZ HF];rfl,uZ X7,fun h=>by rw [uZ HF] at h;cases h⟩
    |true=>
     have h4:=of_decide_eq_true (uZ HQ)
     have HE2:Hid (x=(m - cvs l')+(cvs l - cvs (l.drop (i+1)))):=hZ (by
      have h1:=uZ HE
      have h2:=cvs_at l i _ (uZ HD)
      have h3:=cvs_le l i
      have h5:=uZ HM
      simp only at h2
      omega)
     have S8:=hZ (uZ S7 rfl)
     have hq20:m - cvs l'≤20000:=by omega
     clear h4 S7 HS HE HBB
     go_wp2_with fail
     go_roundw
     case rel=>exact⟨i+1,m - cvs l',by go_num,by omega,hq20,X7,S8,HE2⟩
     case measure=>simp [intOf];omega
  ·have i2:¬(i:Int)<(ll:Int):=by omega
   have hin2:i=ll:=by omega
   have hE:x=y+cvs l:=by
    have h1:=uZ HE
    rw [hin2,(uZ HH).2.2.1,List.drop_length] at h1
    simpa [cvs] using h1
   have hT:R=true:=by rw [←uZ HR];exact decide_eq_true (by omega)
   have hZ2:Z=y:=by rw [←uZ HZ];omega
   have HT:=hZ hT
   have HZ2:=hZ hZ2
   clear hE hT hZ2
   go_wp2_with fail
   go_ret
   exact⟨by rw [uZ HT];rfl,uZ HBB,fun _=>by rw [uZ HZ2];exact uZ HS⟩
theorem vals_all (N:Nat):VlsAt N:=by
 induction N using Nat.strongRecOn with
 |ind N ih=>exact values_step N ih
end Go.Proofs.YtjdpaihhhjdgmaaGreatDoor
