/-
  Layer 18 (print): how many are open at most within a tree; conditions: the nodes lie in memory, not too many.
-/
import Derived.Test.YtekbmfppfjlboaaGreatDoorA12
set_option linter.unusedVariables false
set_option linter.unusedSimpArgs false
namespace Go.Proofs.YtekbmfppfjlboaaGreatDoor
open Go.RowKit
set_option linter.unusedVariables false
set_option linter.unusedSimpArgs false
set_option maxRecDepth 100000 in
set_option maxHeartbeats 1000000 in
theorem opens_any (k vk vn p:Int) (t vs:ByteArray) (al ak a:Option Addr) (ll cl lk ck n cc:Nat) (f:Bool) (w:World):Calls Tryz.prog 74 #[.agg #[.int .i64 k,.string t,.int .i64 vk,.int .i64 vn,.string vs,.slice al ll cl,.slice ak lk ck,.bool f,.slice a n cc,.int .i64 p]] w fun e w'=>e=.returned (.int .i64 ((opn k:Int)))∧Below w.heap.size w w':=by
 obtain⟨w1,hw1⟩:∃w1,w.alloc (.cells #[.int .i64 k,.string t,.int .i64 vk,.int .i64 vn,.string vs,.slice al ll cl,.slice ak lk ck,.bool f,.slice a n cc,.int .i64 p] 28)=w1:=⟨_,rfl⟩
 obtain⟨G,hG⟩:∃G,w.heap.size=G:=⟨_,rfl⟩
 have A1:w1.heap[G]?=some (.cells #[.int .i64 k,.string t,.int .i64 vk,.int .i64 vn,.string vs,.slice al ll cl,.slice ak lk ck,.bool f,.slice a n cc,.int .i64 p] 28 (0,0)):=by rw [←hw1,←hG];exact heap_alloc_new _ _
 have HX:=hide (show Below w.heap.size w w1 by rw [←hw1];exact(Below.refl _ _).alloc (Nat.le_refl _) _)
 obtain⟨c0,_,_,_,_,_,_,_,_,_⟩:=row_ten A1
 have HA:=hide A1
 obtain⟨R,hR⟩:∃R,((opn k:Int))=R:=⟨_,rfl⟩
 rw [hR]
 have HR:=hide hR
 have HW:=hide hw1
 clear A1 hw1 hR
 go_enter Tryz.func74,Tryz.ntmps74
 go_upto_region 1 with fail
 rw [unhide HW]
 try rw [hG]
 clear HW
 by_cases hk:k=4∨k=15∨k=21∨k=18∨k=19∨k=16
 ·rcases hk with rfl|rfl|rfl|rfl|rfl|rfl
  ·have hR2:R=1:=by rw [←unhide HR];simp [opn]
   have HV:=hide hR2
   clear hR2 HR
   go_wp2_with fail
   go_ret
   exact⟨by rw [unhide HV] <;> rfl,by first|exact unhide HX|(rw [hG];exact unhide HX)|(rw [←hG];exact unhide HX)⟩
  ·have hR2:R=1:=by rw [←unhide HR];simp [opn]
   have HV:=hide hR2
   clear hR2 HR
   go_wp2_with fail
   go_ret
   exact⟨by rw [unhide HV] <;> rfl,by first|exact unhide HX|(rw [hG];exact unhide HX)|(rw [←hG];exact unhide HX)⟩
  ·have hR2:R=1:=by rw [←unhide HR];simp [opn]
   have HV:=hide hR2
   clear hR2 HR
   go_wp2_with fail
   go_ret
   exact⟨by rw [unhide HV] <;> rfl,by first|exact unhide HX|(rw [hG];exact unhide HX)|(rw [←hG];exact unhide HX)⟩
  ·have hR2:R=1:=by rw [←unhide HR];simp [opn]
   have HV:=hide hR2
   clear hR2 HR
   go_wp2_with fail
   go_ret
   exact⟨by rw [unhide HV] <;> rfl,by first|exact unhide HX|(rw [hG];exact unhide HX)|(rw [←hG];exact unhide HX)⟩
  ·have hR2:R=1:=by rw [←unhide HR];simp [opn]
   have HV:=hide hR2
   clear hR2 HR
   go_wp2_with fail
   go_ret
   exact⟨by rw [unhide HV] <;> rfl,by first|exact unhide HX|(rw [hG];exact unhide HX)|(rw [←hG];exact unhide HX)⟩
  ·have hR2:R=1:=by rw [←unhide HR];simp [opn]
   have HV:=hide hR2
   clear hR2 HR
   go_wp2_with fail
   go_ret
   exact⟨by rw [unhide HV] <;> rfl,by first|exact unhide HX|(rw [hG];exact unhide HX)|(rw [←hG];exact unhide HX)⟩
 ·try simp only [not_or] at hk
  obtain⟨q4,q15,q21,q18,q19,q16⟩:=hk
  have m4:(k == 4)=false:=beq_eq_false_iff_ne.2 q4
  have m15:(k == 15)=false:=beq_eq_false_iff_ne.2 q15
  have m21:(k == 21)=false:=beq_eq_false_iff_ne.2 q21
  have m18:(k == 18)=false:=beq_eq_false_iff_ne.2 q18
  have m19:(k == 19)=false:=beq_eq_false_iff_ne.2 q19
  have m16:(k == 16)=false:=beq_eq_false_iff_ne.2 q16
  have hR2:R=0:=by rw [←unhide HR];simp [opn,q4,q15,q21,q18,q19,q16]
  have HV:=hide hR2
  clear hR2 HR
  go_wp2_with fail
  go_ret
  exact⟨by rw [unhide HV] <;> rfl,by first|exact unhide HX|(rw [hG];exact unhide HX)|(rw [←hG];exact unhide HX)⟩
theorem opn_le (k:Int):opn k≤1:=by unfold opn;split <;> omega
theorem arnd_le (k:Int) (t:ByteArray) (ky:Int) (ty:ByteArray) (i:Nat):arnd k t ky ty i≤2:=by
 have:=opn_le k
 unfold arnd
 split <;> split <;> omega
theorem dpL_le:∀(l:List Tn) (k:Int) (t:ByteArray) (i:Nat),dpL k t i l≤3 * cns l
 |[],k,t,i=>by simp [dpL]
 |.mk ky ty v f ks p :: r,k,t,i=>by
  have h1:=dpL_le ks ky ty 0
  have h2:=dpL_le r k t (i+1)
  have h3:=arnd_le k t ky ty i
  have h4:=opn_le ky
  simp only [dpL,cns]
  omega
theorem dpN_le (y:Tn):dpN y≤3 * cns [y]:=by
 have h1:=dpL_le y.ks y.k y.t 0
 have h2:=opn_le y.k
 have h3:=cns_one y
 unfold dpN
 omega
theorem dpL_at (k:Int) (t:ByteArray) (l:List Tn) (i:Nat) (y:Tn) (h:l[i]?=some y):dpL k t i (l.drop i)=max (arnd k t y.k y.t i+dpN y) (dpL k t (i+1) (l.drop (i+1))):=by
 have hl:=(List.getElem?_eq_some_iff.1 h).1
 have e:l.drop i=y :: l.drop (i+1):=by
  rw [List.drop_eq_getElem_cons hl]
  congr 1
  exact(List.getElem?_eq_some_iff.1 h).2
 rw [e,dpL_cons]
def DpnAt (N:Nat):Prop:=∀(B0:Nat) (y:Tn),cns [y]≤N→cns [y]≤20000→∀(x:List Value) (u:World),B0≤u.heap.size→IsN u (fun b=>b<B0) y x→Calls Tryz.prog 39 #[.agg x.toArray] u fun e u'=>e=.returned (.int .i64 (dpN y:Int))∧Below u.heap.size u u'
set_option maxRecDepth 100000 in
set_option maxHeartbeats 4000000 in
theorem dpn_step (N:Nat) (ih:DpnAt N):DpnAt (N+1):=by
 intro B0 y hN h20 x w hB hx
 obtain⟨vk,vn,vs,al,ak,a,ll,cl,lk,ck,cc,rfl,hv,hr,hbk,hbp⟩:=hx.opn
 obtain⟨k,t,v,f,ks,p⟩:=y
 simp only at hv hr ⊢
 obtain⟨n,hn⟩:∃n,ks.length=n:=⟨_,rfl⟩
 simp only [hn]
 have hsub:∀z∈ks,cns [z]≤N∧cns [z]≤20000:=fun z hz=>by
  have h1:=cns_mem ks z hz
  have h2:cns [⟨k,t,v,f,ks,p⟩]=1+cvs v.l+cns ks:=cns_one _
  omega
 obtain⟨w1,hw1⟩:∃w1,w.alloc (.cells #[.int .i64 k,.string t,.int .i64 vk,.int .i64 vn,.string vs,.slice al ll cl,.slice ak lk ck,.bool f,.slice a n cc,.int .i64 p] 28)=w1:=⟨_,rfl⟩
 obtain⟨G,hG⟩:∃G,w.heap.size=G:=⟨_,rfl⟩
 have A1:w1.heap[G]?=some (.cells #[.int .i64 k,.string t,.int .i64 vk,.int .i64 vn,.string vs,.slice al ll cl,.slice ak lk ck,.bool f,.slice a n cc,.int .i64 p] 28 (0,0)):=by rw [←hw1,←hG];exact heap_alloc_new _ _
 have X1:Below G w w1:=by rw [←hw1,←hG];exact(Below.refl _ _).alloc (Nat.le_refl _) _
 have hBG:B0≤G:=by rw [←hG];exact hB
 have hnb:n≤140737488351232:=by rw [←hn];exact hr.len
 have hncc:n≤cc:=by obtain⟨C,hf,_⟩:=hr;rw [←hn];exact hf.ll
 obtain⟨c0,c1,c2,c3,c4,c5,c6,c7,c8,c9⟩:=row_ten A1
 have CO:=hide (opens_any k vk vn p t vs al ak a ll cl lk ck n cc f w1)
 obtain⟨o,ho⟩:∃o,opn k=o:=⟨_,rfl⟩
 have ho1:o≤1:=by rw [←ho];exact opn_le k
 rw [ho] at CO
 obtain⟨R,hR⟩:∃R,dpN ⟨k,t,v,f,ks,p⟩=R:=⟨_,rfl⟩
 rw [hR]
 have hR':max o (dpL k t 0 ks)=R:=by rw [←hR,←ho];rfl
 have hRb:R≤60000:=by rw [←hR];have:=dpN_le ⟨k,t,v,f,ks,p⟩;omega
 have HR:=hide (And.intro hR' hRb)
 have HS:=hide (And.intro hn (And.intro hsub (And.intro hBG (And.intro hr ho))))
 have HA:=hide A1
 have HX:=hide X1
 have HW:=hide hw1
 have hGs:Hid (G≤w1.heap.size):=hide (Nat.le_of_lt (lt_of_row A1))
 clear A1 X1 hw1 hR hR' hRb hv hr hx hbk hbp hn hsub hBG hB ho hN h20
 go_enter Tryz.func39,Tryz.ntmps39
 go_upto_region 1 with fail
 rw [unhide HW]
 try rw [hG]
 clear HW
 go_wp2_with fail
 refine(unhide CO).mono ?_
 rintro e w2 ⟨rfl,b2⟩
 have HA2:=hide (Below.cellsAt b2 (unhide HA))
 have HX2:=hide ((unhide HX).trans (b2.mono (unhide hGs)))
 clear b2 CO c0 c1 c2 c3 c4 c5 c6 c7 c8 c9 HA HX hGs
 obtain⟨_,_,_,_,_,_,_,_,c8,_⟩:=row_ten (unhide HA2)
 go_wp2_with fail
 clear c8
 go_loopw [4,14] (fun xm x wr=>∃(i m:Nat),xm=.int .i64 (m:Int)∧x=.int .i64 (i:Int)∧i≤n∧Hid (Below w2.heap.size w2 wr)∧Hid (max m (dpL k t i (ks.drop i))=R)) (fun _ x _=>n - (intOf x).toNat)
 case atStart=>exact⟨0,o,rfl,rfl,Nat.zero_le _,hide (Below.refl _ _),hide (by simpa using (unhide HR).1)⟩
 case round=>
  obtain⟨i,m,rfl,rfl,hin,HI,HT⟩:=hrel
  obtain⟨wq,hwq⟩:∃wq,wq=wr:=⟨_,rfl⟩
  subst hwq
  by_cases hi:i<n
  ·have i2:(i:Int)<(n:Int):=by omega
   obtain⟨hn,hsub,hBG,hr,ho⟩:=unhide HS
   have hGq:Below G w wq:=(unhide HX2).trans ((unhide HI).mono (by rw [←hG];exact(unhide HX2).size))
   have HGq:Hid (G≤wq.heap.size):=hide (by rw [←hG];exact hGq.size)
   obtain⟨z,hz⟩:∃z,ks[i]?=some z:=⟨_,List.getElem?_eq_getElem (by omega)⟩
   obtain⟨b,vky,vny,vsy,aly,aky,ay,lly,cly,lky,cky,ny,ccy,rfl,hcy,hby,hny,hzy,hcelly⟩:=(hr.later (hGq.mono hBG)).ten hz
   have hzm:=hsub z (List.mem_of_getElem? hz)
   have hdz:=dpN_le z
   obtain⟨ky,ty,vy,fy,ksy,py⟩:=z
   simp only at hcelly hzy
   have e0:wq.cell? (b.add (i * 10))=some (.int .i64 ky):=hcelly 0 _ rfl
   have e1:wq.cell? ⟨(b.add (i * 10)).block,(b.add (i * 10)).off+1,none⟩=some (.string ty):=hcelly 1 _ rfl
   have e2:wq.cell? ⟨(b.add (i * 10)).block,(b.add (i * 10)).off+2,none⟩=some (.int .i64 vky):=hcelly 2 _ rfl
   have e3:wq.cell? ⟨(b.add (i * 10)).block,(b.add (i * 10)).off+3,none⟩=some (.int .i64 vny):=hcelly 3 _ rfl
   have e4:wq.cell? ⟨(b.add (i * 10)).block,(b.add (i * 10)).off+4,none⟩=some (.string vsy):=hcelly 4 _ rfl
   have e5:wq.cell? ⟨(b.add (i * 10)).block,(b.add (i * 10)).off+5,none⟩=some (.slice aly lly cly):=hcelly 5 _ rfl
   have e6:wq.cell? ⟨(b.add (i * 10)).block,(b.add (i * 10)).off+6,none⟩=some (.slice aky lky cky):=hcelly 6 _ rfl
   have e7:wq.cell? ⟨(b.add (i * 10)).block,(b.add (i * 10)).off+7,none⟩=some (.bool fy):=hcelly 7 _ rfl
   have e8:wq.cell? ⟨(b.add (i * 10)).block,(b.add (i * 10)).off+8,none⟩=some (.slice ay ny ccy):=hcelly 8 _ rfl
   have e9:wq.cell? ⟨(b.add (i * 10)).block,(b.add (i * 10)).off+9,none⟩=some (.int .i64 py):=hcelly 9 _ rfl
   obtain⟨w3,hw3⟩:∃w3,wq.alloc (.cells #[.int .i64 ky,.string ty,.int .i64 vky,.int .i64 vny,.string vsy,.slice aly lly cly,.slice aky lky cky,.bool fy,.slice ay ny ccy,.int .i64 py] 28)=w3:=⟨_,rfl⟩
   obtain⟨g1,hg1⟩:∃g,wq.heap.size=g:=⟨_,rfl⟩
   have A3:w3.heap[g1]?=some (.cells #[.int .i64 ky,.string ty,.int .i64 vky,.int .i64 vny,.string vsy,.slice aly lly cly,.slice aky lky cky,.bool fy,.slice ay ny ccy,.int .i64 py] 28 (0,0)):=by rw [←hw3,←hg1];exact heap_alloc_new _ _
   have b3:Below wq.heap.size wq w3:=by rw [←hw3];exact(Below.refl _ _).alloc (Nat.le_refl _) _
   have hBq:B0≤wq.heap.size:=Nat.le_trans hBG (unhide HGq)
   have N3:=hide (Below.cellsAt b3 (Below.cellsAt (unhide HI) (unhide HA2)))
   have hc3:∀j v,([.int .i64 ky,.string ty,.int .i64 vky,.int .i64 vny,.string vsy,.slice aly lly cly,.slice aky lky cky,.bool fy,.slice ay ny ccy,.int .i64 py]:List Value)[j]?=some v→w3.cell? ((b.add (i * 10)).add j)=some v:=fun j v hj=>(World.cell?_of_block (b3.block _ (by rw [block_add,block_add];omega))).trans (hcelly j v hj)
   have CB:=hide (bracketed_any k vk vn p t vs al ak ll cl lk ck n cc f b ky vky vny py ty vsy aly aky ay lly cly lky cky ny ccy fy i w3 hi hncc hnb hc3)
   have hd20:dpN ⟨ky,ty,vy,fy,ksy,py⟩≤60000:=by omega
   have CD:Hid (∀u,Below w3.heap.size w3 u→Calls Tryz.prog 39 #[.agg #[.int .i64 ky,.string ty,.int .i64 vky,.int .i64 vny,.string vsy,.slice aly lly cly,.slice aky lky cky,.bool fy,.slice ay ny ccy,.int .i64 py]] u fun e u'=>e=.returned (.int .i64 (dpN ⟨ky,ty,vy,fy,ksy,py⟩:Int))∧Below u.heap.size u u'):=hide (fun u hu=>ih B0 _ hzm.1 hzm.2 _ u (Nat.le_trans hBq (Nat.le_trans b3.size hu.size)) (hzy.laterB ((b3.mono hBq).trans (hu.mono (Nat.le_trans hBq b3.size)))))
   obtain⟨D,hD⟩:∃D,dpN ⟨ky,ty,vy,fy,ksy,py⟩=D:=⟨_,rfl⟩
   have hat:=dpL_at k t ks i _ hz
   simp only at hat
   rw [hD] at CD hd20 hat
   obtain⟨Q,hQ⟩:∃Q,brk k t ky ty i=Q:=⟨_,rfl⟩
   rw [hQ] at CB
   obtain⟨rs,hrs⟩:∃rs,dpL k t (i+1) (ks.drop (i+1))=rs:=⟨_,rfl⟩
   rw [hrs] at hat
   obtain⟨AR,hAR⟩:∃AR,arnd k t ky ty i=AR:=⟨_,rfl⟩
   rw [hAR] at hat
   have HV:Hid (max (max m (AR+D)) rs=R∧AR=(if k=21∧i=0 then 0 else o)+(if Q=true then 1 else 0)):=hide ⟨by have:=unhide HT;rw [hat] at this;omega,by rw [←hAR];unfold arnd;rw [ho,hQ]⟩
   have HRS:=hide hrs
   have hm6:m≤60000:=by have h1:=unhide HT;have h2:=(unhide HR).2;omega
   have HA3:=hide A3
   have HW3:=hide hw3
   have HB3:=hide ((unhide HI).trans (b3.mono (unhide HI).size))
   clear hAR hn hsub hBG hr ho hz hcelly hzy hzm hdz hny hw3 A3 b3 hBq hc3 hD hat hQ hrs hGq HT HGq hcy hby
   obtain⟨x0,x1,x2,x3,x4,x5,x6,x7,x8,x9⟩:=row_ten (Below.cellsAt (unhide HI) (unhide HA2))
   go_upto_region 6 with fail
   rw [unhide HW3]
   try rw [hg1]
   clear HW3 e0 e1 e2 e3 e4 e5 e6 e7 e8 e9 x0 x1 x2 x3 x4 x5 x6 x7 x8 x9
   obtain⟨x0,x1,x2,x3,x4,x5,x6,x7,x8,x9⟩:=row_ten (unhide N3)
   by_cases hk:k=21
   ·subst hk
    by_cases hz:i=0
    ·subst hz
     go_wp2_with fail
     refine(unhide CB).mono ?_
     rintro e w4 ⟨rfl,b4⟩
     have HA4:=hide (Below.cellsAt b4 (unhide HA3))
     have HB4:=hide ((unhide HB3).trans (b4.mono (unhide HB3).size))
     have C4:=hide ((unhide CD) w4 b4)
     obtain⟨y0,y1,y2,y3,y4,y5,y6,y7,y8,y9⟩:=row_ten (unhide HA4)
     clear b4 CB CD x0 x1 x2 x3 x4 x5 x6 x7 x8 x9
     cases Q with
     |false=>
      have hA:AR=0:=by first|(rw [(unhide HV).2,if_pos ⟨rfl,rfl⟩];simp;done)|(have:=(unhide HV).2;simpa using this)
      have HV2:=hide (show max (max m (0+D)) rs=R by rw [←hA];exact(unhide HV).1)
      clear hA
      go_wp2_with fail
      refine(unhide C4).mono ?_
      rintro e w5 ⟨rfl,b5⟩
      have HB5:=hide ((unhide HB4).trans (b5.mono (unhide HB4).size))
      clear b5 C4 y0 y1 y2 y3 y4 y5 y6 y7 y8 y9
      go_wp2_with fail
      go_roundw
      case rel=>exact⟨0+1,max m (0+D),by first|go_num|(go_num;omega),by go_num,by omega,HB5,hide (by rw [unhide HRS];exact unhide HV2)⟩
      case measure=>simp [intOf];omega
     |true=>
      have hA:AR=(0+1):=by first|(rw [(unhide HV).2,if_pos ⟨rfl,rfl⟩];simp;done)|(have:=(unhide HV).2;simpa using this)
      have HV2:=hide (show max (max m ((0+1)+D)) rs=R by rw [←hA];exact(unhide HV).1)
      clear hA
      go_wp2_with fail
      refine(unhide C4).mono ?_
      rintro e w5 ⟨rfl,b5⟩
      have HB5:=hide ((unhide HB4).trans (b5.mono (unhide HB4).size))
      clear b5 C4 y0 y1 y2 y3 y4 y5 y6 y7 y8 y9
      go_wp2_with fail
      go_roundw
      case rel=>exact⟨0+1,max m ((0+1)+D),by first|go_num|(go_num;omega),by go_num,by omega,HB5,hide (by rw [unhide HRS];exact unhide HV2)⟩
      case measure=>simp [intOf];omega
    ·have z1:¬(i:Int)=0:=by omega
     have z2:((i:Int) == 0)=false:=beq_eq_false_iff_ne.2 z1
     have z3:(i == 0)=false:=beq_eq_false_iff_ne.2 hz
     go_wp2_with fail
     refine(unhide CB).mono ?_
     rintro e w4 ⟨rfl,b4⟩
     have HA4:=hide (Below.cellsAt b4 (unhide HA3))
     have HB4:=hide ((unhide HB3).trans (b4.mono (unhide HB3).size))
     have C4:=hide ((unhide CD) w4 b4)
     obtain⟨y0,y1,y2,y3,y4,y5,y6,y7,y8,y9⟩:=row_ten (unhide HA4)
     clear b4 CB CD x0 x1 x2 x3 x4 x5 x6 x7 x8 x9
     cases Q with
     |false=>
      have hA:AR=o:=by first|(rw [(unhide HV).2,if_neg (fun h=>hz h.2)];simp;done)|(have:=(unhide HV).2;simpa using this)
      have HV2:=hide (show max (max m (o+D)) rs=R by rw [←hA];exact(unhide HV).1)
      clear hA
      go_wp2_with fail
      refine(unhide C4).mono ?_
      rintro e w5 ⟨rfl,b5⟩
      have HB5:=hide ((unhide HB4).trans (b5.mono (unhide HB4).size))
      clear b5 C4 y0 y1 y2 y3 y4 y5 y6 y7 y8 y9
      go_wp2_with fail
      go_roundw
      case rel=>exact⟨i+1,max m (o+D),by first|go_num|(go_num;omega),by go_num,by omega,HB5,hide (by rw [unhide HRS];exact unhide HV2)⟩
      case measure=>simp [intOf];omega
     |true=>
      have hA:AR=(o+1):=by first|(rw [(unhide HV).2,if_neg (fun h=>hz h.2)];simp;done)|(have:=(unhide HV).2;simpa using this)
      have HV2:=hide (show max (max m ((o+1)+D)) rs=R by rw [←hA];exact(unhide HV).1)
      clear hA
      go_wp2_with fail
      refine(unhide C4).mono ?_
      rintro e w5 ⟨rfl,b5⟩
      have HB5:=hide ((unhide HB4).trans (b5.mono (unhide HB4).size))
      clear b5 C4 y0 y1 y2 y3 y4 y5 y6 y7 y8 y9
      go_wp2_with fail
      go_roundw
      case rel=>exact⟨i+1,max m ((o+1)+D),by first|go_num|(go_num;omega),by go_num,by omega,HB5,hide (by rw [unhide HRS];exact unhide HV2)⟩
      case measure=>simp [intOf];omega
   ·have z1:(k == 21)=false:=beq_eq_false_iff_ne.2 hk
    go_wp2_with fail
    refine(unhide CB).mono ?_
    rintro e w4 ⟨rfl,b4⟩
    have HA4:=hide (Below.cellsAt b4 (unhide HA3))
    have HB4:=hide ((unhide HB3).trans (b4.mono (unhide HB3).size))
    have C4:=hide ((unhide CD) w4 b4)
    obtain⟨y0,y1,y2,y3,y4,y5,y6,y7,y8,y9⟩:=row_ten (unhide HA4)
    clear b4 CB CD x0 x1 x2 x3 x4 x5 x6 x7 x8 x9
    cases Q with
    |false=>
     have hA:AR=o:=by first|(rw [(unhide HV).2,if_neg (fun h=>hk h.1)];simp;done)|(have:=(unhide HV).2;simpa using this)
     have HV2:=hide (show max (max m (o+D)) rs=R by rw [←hA];exact(unhide HV).1)
     clear hA
     go_wp2_with fail
     refine(unhide C4).mono ?_
     rintro e w5 ⟨rfl,b5⟩
     have HB5:=hide ((unhide HB4).trans (b5.mono (unhide HB4).size))
     clear b5 C4 y0 y1 y2 y3 y4 y5 y6 y7 y8 y9
     go_wp2_with fail
     go_roundw
     case rel=>exact⟨i+1,max m (o+D),by first|go_num|(go_num;omega),by go_num,by omega,HB5,hide (by rw [unhide HRS];exact unhide HV2)⟩
     case measure=>simp [intOf];omega
    |true=>
     have hA:AR=(o+1):=by first|(rw [(unhide HV).2,if_neg (fun h=>hk h.1)];simp;done)|(have:=(unhide HV).2;simpa using this)
     have HV2:=hide (show max (max m ((o+1)+D)) rs=R by rw [←hA];exact(unhide HV).1)
     clear hA
     go_wp2_with fail
     refine(unhide C4).mono ?_
     rintro e w5 ⟨rfl,b5⟩
     have HB5:=hide ((unhide HB4).trans (b5.mono (unhide HB4).size))
     clear b5 C4 y0 y1 y2 y3 y4 y5 y6 y7 y8 y9
     go_wp2_with fail
     go_roundw
     case rel=>exact⟨i+1,max m ((o+1)+D),by first|go_num|(go_num;omega),by go_num,by omega,HB5,hide (by rw [unhide HRS];exact unhide HV2)⟩
     case measure=>simp [intOf];omega
  ·have i2:¬(i:Int)<(n:Int):=by omega
   have hin2:i=n:=by omega
   have hM:m=R:=by
    have h1:=unhide HT
    rw [hin2,←(unhide HS).1,List.drop_length] at h1
    simpa [dpL] using h1
   have HM:=hide hM
   have HY:=hide ((unhide HX2).trans ((unhide HI).mono (by rw [←hG];exact(unhide HX2).size)))
   clear hM
   go_wp2_with fail
   go_ret
   exact⟨by rw [unhide HM] <;> rfl,by first|exact unhide HY|(rw [hG];exact unhide HY)⟩
theorem deep_all:∀N,DpnAt N
 |0=>fun B0 y hN=>by rw [cns_one] at hN;omega
 |N+1=>dpn_step N (deep_all N)
end Go.Proofs.YtekbmfppfjlboaaGreatDoor
