/-
  Layer 18 (print): are two trees the same, but for places; conditions: the nodes lie in memory.
  A step of a region that draws: make; no conditions.
  Values whose lists are their owner's to write over: how their rows lie, and that writing over them leaves them so; no conditions.
-/
import Derived.Test.YtekbmfppfjlboaaGreatDoorA13
import Derived.Test.YtekbmfppfjlboaaGreatDoorA14
import Derived.Test.YtekbmfppfjlboaaGreatDoorA09
import Derived.Test.YtekbmfppfjlboaaGreatDoorA03
import Derived.Deep.AppendLies
import Derived.OwnWalk
import Derived.Test.YtekbmfppfjlboaaGreatDoorA00
import Derived.Laws.AppendOwn
import Derived.ArgAppend
set_option linter.unusedVariables false
set_option linter.unusedSimpArgs false
namespace Go.Proofs.YtekbmfppfjlboaaGreatDoor
open Go.RowKit
set_option linter.unusedVariables false
set_option linter.unusedSimpArgs false
def SmnAt (N:Nat):Prop:=∀(y z:Tn) (x x':List Value) (B:Nat) (w:World),cns [y]≤N→IsN w (fun b=>b<B) y x→IsN w (fun b=>b<B) z x'→B≤w.heap.size →
  Calls Tryz.prog 31 #[.agg x.toArray,.agg x'.toArray] w fun e w'=>e=.returned (.bool (smN y z))∧Below w.heap.size w w'
set_option maxRecDepth 100000 in
set_option maxHeartbeats 4000000 in
theorem eqfN_any (ls ls':List Tn) (a a':Option Addr) (n cc n' cc' B:Nat) (w:World) (hr:RowN w B ls a cc) (hr':RowN w B ls' a' cc') (hB:B≤w.heap.size) (hn:ls.length=n) (hn':ls'.length=n') (ih:∀(i:Nat) (y z:Tn),ls[i]?=some y→ls'[i]?=some z→∀(x x':List Value) (u:World),IsN u (fun b=>b<B) y x→IsN u (fun b=>b<B) z x'→B≤u.heap.size→Calls Tryz.prog 31 #[.agg x.toArray,.agg x'.toArray] u fun e u'=>e=.returned (.bool (smN y z))∧Below u.heap.size u u') :
  Calls Tryz.prog 62 #[.slice a n cc,.slice a' n' cc',.func (.func 31) #[] #[]] w fun e w'=>e=.returned (.bool (smL ls ls'))∧Below w.heap.size w w':=by
 have hnb:n≤140737488351232:=by rw [←hn];exact hr.len
 have hnb':n'≤140737488351232:=by rw [←hn'];exact hr'.len
 have HV2:Hid (∀u,Below w.heap.size w u→RowN u B ls a cc∧RowN u B ls' a' cc'∧B≤u.heap.size):=hide (fun u hu=>⟨hr.later (hu.mono hB),hr'.later (hu.mono hB),Nat.le_trans hB hu.size⟩)
 have HI:=hide ih
 have HL:=hide (And.intro hn hn')
 obtain⟨R,hR⟩:∃R,smL ls ls'=R:=⟨_,rfl⟩
 rw [hR]
 have HR:=hide hR
 clear hr hr' hB ih hn hn' hR
 by_cases h4:n=n'
 ·subst h4
  go_enter Tryz.func62,Tryz.ntmps62
  go_wp2_with fail
  go_loopw [17] (fun x wr=>∃(i:Nat),i≤n∧x=.int .i64 i∧Hid (Below w.heap.size w wr)∧Hid (smL (ls.take i) (ls'.take i)=true)) (fun x _=>n - (intOf x).toNat)
  case atStart=>exact⟨0,Nat.zero_le _,rfl,hide (Below.refl _ _),hide (by simp [smL])⟩
  case round=>
   obtain⟨i,hi,rfl,HX,HT⟩:=hrel
   obtain⟨wq,hwq⟩:∃wq,wq=wr:=⟨_,rfl⟩
   subst hwq
   by_cases hlt:i<n
   ·have i3:(i:Int)<(n:Int):=by omega
    obtain⟨v1,v2,hBq⟩:=(unhide HV2) wq (unhide HX)
    obtain⟨y1,hy⟩:∃y,ls[i]?=some y:=⟨_,List.getElem?_eq_getElem (by have:=(unhide HL).1;omega)⟩
    obtain⟨y2,hy'⟩:∃y,ls'[i]?=some y:=⟨_,List.getElem?_eq_getElem (by have:=(unhide HL).2;omega)⟩
    obtain⟨b,vk1,vn1,vs1,al1,ak1,a1,ll1,cl1,lk1,ck1,n1,cc1,rfl,hc1,hb1,hn1,hz1,hcell1⟩:=v1.ten hy
    obtain⟨b',vk2,vn2,vs2,al2,ak2,a2,ll2,cl2,lk2,ck2,n2,cc2,rfl,hc2,hb2,hn2,hz2,hcell2⟩:=v2.ten hy'
    have e0:wq.cell? (b.add (i * 10))=some (.int .i64 y1.k):=hcell1 0 _ rfl
    have e1:wq.cell? ⟨(b.add (i * 10)).block,(b.add (i * 10)).off+1,none⟩=some (.string y1.t):=hcell1 1 _ rfl
    have e2:wq.cell? ⟨(b.add (i * 10)).block,(b.add (i * 10)).off+2,none⟩=some (.int .i64 vk1):=hcell1 2 _ rfl
    have e3:wq.cell? ⟨(b.add (i * 10)).block,(b.add (i * 10)).off+3,none⟩=some (.int .i64 vn1):=hcell1 3 _ rfl
    have e4:wq.cell? ⟨(b.add (i * 10)).block,(b.add (i * 10)).off+4,none⟩=some (.string vs1):=hcell1 4 _ rfl
    have e5:wq.cell? ⟨(b.add (i * 10)).block,(b.add (i * 10)).off+5,none⟩=some (.slice al1 ll1 cl1):=hcell1 5 _ rfl
    have e6:wq.cell? ⟨(b.add (i * 10)).block,(b.add (i * 10)).off+6,none⟩=some (.slice ak1 lk1 ck1):=hcell1 6 _ rfl
    have e7:wq.cell? ⟨(b.add (i * 10)).block,(b.add (i * 10)).off+7,none⟩=some (.bool y1.f):=hcell1 7 _ rfl
    have e8:wq.cell? ⟨(b.add (i * 10)).block,(b.add (i * 10)).off+8,none⟩=some (.slice a1 n1 cc1):=hcell1 8 _ rfl
    have e9:wq.cell? ⟨(b.add (i * 10)).block,(b.add (i * 10)).off+9,none⟩=some (.int .i64 y1.p):=hcell1 9 _ rfl
    obtain⟨w3,hw3⟩:∃w3,wq.alloc (.cells #[.int .i64 y1.k,.string y1.t,.int .i64 vk1,.int .i64 vn1,.string vs1,.slice al1 ll1 cl1,.slice ak1 lk1 ck1,.bool y1.f,.slice a1 n1 cc1,.int .i64 y1.p] 28)=w3:=⟨_,rfl⟩
    have b3:Below wq.heap.size wq w3:=by rw [←hw3];exact(Below.refl _ _).alloc (Nat.le_refl _) _
    obtain⟨g3,hg3⟩:∃g,wq.heap.size=g:=⟨_,rfl⟩
    have A3:w3.heap[g3]?=some (.cells #[.int .i64 y1.k,.string y1.t,.int .i64 vk1,.int .i64 vn1,.string vs1,.slice al1 ll1 cl1,.slice ak1 lk1 ck1,.bool y1.f,.slice a1 n1 cc1,.int .i64 y1.p] 28 (0,0)):=by rw [←hw3,←hg3];exact heap_alloc_new _ _
    have hce3:∀j v,([.int .i64 y2.k,.string y2.t,.int .i64 vk2,.int .i64 vn2,.string vs2,.slice al2 ll2 cl2,.slice ak2 lk2 ck2,.bool y2.f,.slice a2 n2 cc2,.int .i64 y2.p]:List Value)[j]?=some v→w3.cell? ((b'.add (i * 10)).add j)=some v:=fun j v hj=>(World.cell?_of_block (b3.block _ (by rw [block_add,block_add];omega))).trans (hcell2 j v hj)
    have f0:w3.cell? (b'.add (i * 10))=some (.int .i64 y2.k):=hce3 0 _ rfl
    have f1:w3.cell? ⟨(b'.add (i * 10)).block,(b'.add (i * 10)).off+1,none⟩=some (.string y2.t):=hce3 1 _ rfl
    have f2:w3.cell? ⟨(b'.add (i * 10)).block,(b'.add (i * 10)).off+2,none⟩=some (.int .i64 vk2):=hce3 2 _ rfl
    have f3:w3.cell? ⟨(b'.add (i * 10)).block,(b'.add (i * 10)).off+3,none⟩=some (.int .i64 vn2):=hce3 3 _ rfl
    have f4:w3.cell? ⟨(b'.add (i * 10)).block,(b'.add (i * 10)).off+4,none⟩=some (.string vs2):=hce3 4 _ rfl
    have f5:w3.cell? ⟨(b'.add (i * 10)).block,(b'.add (i * 10)).off+5,none⟩=some (.slice al2 ll2 cl2):=hce3 5 _ rfl
    have f6:w3.cell? ⟨(b'.add (i * 10)).block,(b'.add (i * 10)).off+6,none⟩=some (.slice ak2 lk2 ck2):=hce3 6 _ rfl
    have f7:w3.cell? ⟨(b'.add (i * 10)).block,(b'.add (i * 10)).off+7,none⟩=some (.bool y2.f):=hce3 7 _ rfl
    have f8:w3.cell? ⟨(b'.add (i * 10)).block,(b'.add (i * 10)).off+8,none⟩=some (.slice a2 n2 cc2):=hce3 8 _ rfl
    have f9:w3.cell? ⟨(b'.add (i * 10)).block,(b'.add (i * 10)).off+9,none⟩=some (.int .i64 y2.p):=hce3 9 _ rfl
    obtain⟨w4,hw4⟩:∃w4,w3.alloc (.cells #[.int .i64 y2.k,.string y2.t,.int .i64 vk2,.int .i64 vn2,.string vs2,.slice al2 ll2 cl2,.slice ak2 lk2 ck2,.bool y2.f,.slice a2 n2 cc2,.int .i64 y2.p] 28)=w4:=⟨_,rfl⟩
    obtain⟨g4,hg4⟩:∃g,w3.heap.size=g:=⟨_,rfl⟩
    have A4:w4.heap[g4]?=some (.cells #[.int .i64 y2.k,.string y2.t,.int .i64 vk2,.int .i64 vn2,.string vs2,.slice al2 ll2 cl2,.slice ak2 lk2 ck2,.bool y2.f,.slice a2 n2 cc2,.int .i64 y2.p] 28 (0,0)):=by rw [←hw4,←hg4];exact heap_alloc_new _ _
    have b34:Below w3.heap.size w3 w4:=by rw [←hw4];exact(Below.refl _ _).alloc (Nat.le_refl _) _
    have b4:Below wq.heap.size wq w4:=b3.trans (b34.mono b3.size)
    have CR:=hide ((unhide HI) i y1 y2 hy hy' [.int .i64 y1.k,.string y1.t,.int .i64 vk1,.int .i64 vn1,.string vs1,.slice al1 ll1 cl1,.slice ak1 lk1 ck1,.bool y1.f,.slice a1 n1 cc1,.int .i64 y1.p] [.int .i64 y2.k,.string y2.t,.int .i64 vk2,.int .i64 vn2,.string vs2,.slice al2 ll2 cl2,.slice ak2 lk2 ck2,.bool y2.f,.slice a2 n2 cc2,.int .i64 y2.p] w4 (hz1.laterB (b4.mono hBq)) (hz2.laterB (b4.mono hBq)) (Nat.le_trans hBq b4.size))
    have R3:=hide (Below.cellsAt b34 A3)
    have R4:=hide A4
    have X4:=hide ((unhide HX).trans (b4.mono (unhide HX).size))
    have HY:=hide (And.intro hy hy')
    have HW3:=hide hw3
    have HW4:=hide hw4
    obtain⟨Q,hQ⟩:∃Q,smN y1 y2=Q:=⟨_,rfl⟩
    rw [hQ] at CR
    have HQ:=hide hQ
    clear v1 v2 hBq hy hy' hc1 hb1 hn1 hz1 hcell1 hc2 hb2 hn2 hz2 hcell2 hw3 hw4 A3 A4 b3 b34 b4 hce3 hQ
    go_upto_region 6 with fail
    rw [unhide HW3]
    try rw [hg3]
    clear HW3 e0 e1 e2 e3 e4 e5 e6 e7 e8 e9
    go_upto_region 7 with fail
    rw [unhide HW4]
    try rw [hg4]
    clear HW4 f0 f1 f2 f3 f4 f5 f6 f7 f8 f9
    obtain⟨p0,p1,p2,p3,p4,p5,p6,p7,p8,p9⟩:=row_ten (unhide R3)
    obtain⟨q0,q1,q2,q3,q4,q5,q6,q7,q8,q9⟩:=row_ten (unhide R4)
    go_wp2_with fail
    refine(unhide CR).mono ?_
    rintro e w5 ⟨rfl,b5⟩
    have HX5:Hid (Below w.heap.size w w5):=hide ((unhide X4).trans (b5.mono (unhide X4).size))
    clear b5 CR p0 p1 p2 p3 p4 p5 p6 p7 p8 p9 q0 q1 q2 q3 q4 q5 q6 q7 q8 q9
    have HI1:Hid (i+1≤n):=hide (by omega)
    cases Q with
    |true=>
     have HT':Hid (smL (ls.take (i+1)) (ls'.take (i+1))=true):=hide (by
      rw [smL_next ls ls' i y1 y2 (unhide HY).1 (unhide HY).2,unhide HT,unhide HQ];rfl)
     go_wp2_with fail
     go_roundw
     case rel=>exact⟨i+1,unhide HI1,by go_num,HX5,HT'⟩
     case measure=>have:=unhide HI1;simp [intOf];omega
    |false=>
     have HG2:Hid (R=false):=hide (by
      rw [←unhide HR];exact smL_no ls ls' i y1 y2 (unhide HY).1 (unhide HY).2 (unhide HQ))
     go_wp2_with fail
     go_ret
     exact⟨by rw [unhide HG2];rfl,unhide HX5⟩
   ·have i3:¬(i:Int)<(n:Int):=by omega
    have HG2:Hid (R=true):=hide (by
     obtain⟨e1,e2⟩:=unhide HL
     have h:=unhide HT
     rw [List.take_of_length_le (by omega),List.take_of_length_le (by omega)] at h
     rw [←unhide HR,h])
    go_wp2_with fail
    go_ret
    exact⟨by rw [unhide HG2];rfl,unhide HX⟩
 ·have h4':(n:Int)≠(n':Int):=by omega
  have hb:((n:Int) != (n':Int))=true:=by simpa using h4'
  have hb2:((n:Int) == (n':Int))=false:=by simpa using h4'
  have HG2:Hid (R=false):=hide (by rw [←unhide HR];exact smL_ne (by have:=(unhide HL).1;have:=(unhide HL).2;omega))
  clear h4'
  go_enter Tryz.func62,Tryz.ntmps62
  go_wp2_with fail
  go_ret
  exact⟨by rw [unhide HG2];rfl,Below.refl _ _⟩
set_option maxRecDepth 100000 in
set_option maxHeartbeats 4000000 in
theorem smn_step (N:Nat) (ih:SmnAt N):SmnAt (N+1):=by
 intro y z x x' B w hN hx hx' hB
 obtain⟨vk,vn,vs,al,ak,a,ll,cl,lk,ck,cc,rfl,hv,hr,-,-⟩:=hx.opn
 obtain⟨vk',vn',vs',al',ak',a',ll',cl',lk',ck',cc',rfl,hv',hr',-,-⟩:=hx'.opn
 obtain⟨k,t,v,f,ks,p⟩:=y
 obtain⟨k',t',v',f',ks',p'⟩:=z
 simp only at hv hr hv' hr' ⊢
 obtain⟨n,hn⟩:∃n,ks.length=n:=⟨_,rfl⟩
 obtain⟨n',hn'⟩:∃n,ks'.length=n:=⟨_,rfl⟩
 simp only [hn,hn']
 have hsub:∀z∈ks,cns [z]≤N:=fun z hz=>by
  have h1:=cns_mem ks z hz
  have h2:cns [⟨k,t,v,f,ks,p⟩]=1+cvs v.l+cns ks:=cns_one _
  omega
 have TW:=TwoL.mk' w 28 #[.int .i64 k,.string t,.int .i64 vk,.int .i64 vn,.string vs,.slice al ll cl,.slice ak lk ck,.bool f,.slice a n cc,.int .i64 p] #[.int .i64 k',.string t',.int .i64 vk',.int .i64 vn',.string vs',.slice al' ll' cl',.slice ak' lk' ck',.bool f',.slice a' n' cc',.int .i64 p']
 obtain⟨w2,hw2⟩:∃w2,(w.alloc (.cells #[.int .i64 k,.string t,.int .i64 vk,.int .i64 vn,.string vs,.slice al ll cl,.slice ak lk ck,.bool f,.slice a n cc,.int .i64 p] 28)).alloc (.cells #[.int .i64 k',.string t',.int .i64 vk',.int .i64 vn',.string vs',.slice al' ll' cl',.slice ak' lk' ck',.bool f',.slice a' n' cc',.int .i64 p'] 28)=w2:=⟨_,rfl⟩
 rw [hw2] at TW
 obtain⟨g,hg⟩:∃g,w.heap.size=g:=⟨_,rfl⟩
 rw [hg] at TW
 have HT:=hide TW
 have HV:Hid (∀u,Below w2.heap.size w2 u→IsV u B v (.agg #[.int .i64 vk,.int .i64 vn,.string vs,.slice al ll cl,.slice ak lk ck])∧IsV u B v' (.agg #[.int .i64 vk',.int .i64 vn',.string vs',.slice al' ll' cl',.slice ak' lk' ck'])∧RowN u B ks a cc∧RowN u B ks' a' cc'∧B≤u.heap.size):=
  hide (fun u hu=>by
   have h1:Below B w u:=(TW.below.mono (by omega)).trans (hu.mono (by have:=TW.size;omega))
   exact⟨hv.mono h1,hv'.mono h1,hr.later h1,hr'.later h1,by have:=TW.size;have:=hu.size;omega⟩)
 have HB:Hid (Below w.heap.size w w2):=hide TW.below
 have HGs:Hid (g≤w2.heap.size):=hide (by have:=TW.size;omega)
 obtain⟨c0,c1,c2,c3,c4,c5,c6,c7,c8,c9⟩:=row_ten TW.at0
 obtain⟨d0,d1,d2,d3,d4,d5,d6,d7,d8,d9⟩:=row_ten TW.at1
 have HL:=hide (And.intro hn (And.intro hn' hsub))
 have CV:=hide (smv_any (dep v) v v' _ _ B w2 (Nat.le_refl _) ((unhide HV) w2 (Below.refl _ _)).1 ((unhide HV) w2 (Below.refl _ _)).2.1 ((unhide HV) w2 (Below.refl _ _)).2.2.2.2)
 obtain⟨Q,hQ⟩:∃Q,sameB v v'=Q:=⟨_,rfl⟩
 rw [hQ] at CV
 obtain⟨R,hR⟩:∃R,smN ⟨k,t,v,f,ks,p⟩ ⟨k',t',v',f',ks',p'⟩=R:=⟨_,rfl⟩
 have HS:Hid (R=(decide (k=k') && (t.toList == t'.toList) && decide (f=f') && Q && smL ks ks')):=hide (by rw [←hR,←hQ];rfl)
 rw [hR]
 clear TW hv hv' hr hr' hx hx' hn hn' hsub hQ hR hB hN
 by_cases h1:k=k'
 ·subst h1
  cases h3:(t.toList == t'.toList) with
  |true=>
   by_cases h2:f=f'
   ·subst h2
    rw [h3] at HS
    have hff:(f == f)=true:=by simp
    go_enter Tryz.func31,Tryz.ntmps31
    go_wp2_with fail
    refine(unhide CV).mono ?_
    rintro e w3 ⟨rfl,b3⟩
    have X3:=hide ((unhide HB).trans (b3.mono (by rw [hg];exact unhide HGs)))
    have T3:=hide ((unhide HT).later b3)
    have B3:=hide b3
    clear b3 CV c0 c1 c2 c3 c4 c5 c6 c7 c8 c9 d0 d1 d2 d3 d4 d5 d6 d7 d8 d9
    cases Q with
    |false=>
     have HG:Hid (R=false):=hide (by rw [unhide HS];simp)
     go_wp2_with fail
     go_ret
     exact⟨by rw [unhide HG];rfl,by first|exact unhide X3|(rw [←hg];exact unhide X3)⟩
    |true=>
     obtain⟨_,_,v1,v2,hB3⟩:=(unhide HV) w3 (unhide B3)
     have CF:=hide (eqfN_any ks ks' a a' n cc n' cc' B w3 v1 v2 hB3 (unhide HL).1 (unhide HL).2.1 (fun i y z hy hz x x' u hx hx' hu=>ih y z x x' B u ((unhide HL).2.2 y (List.mem_of_getElem? hy)) hx hx' hu))
     obtain⟨q,hq⟩:∃q,smL ks ks'=q:=⟨_,rfl⟩
     rw [hq] at CF
     have HG:Hid (R=q):=hide (by rw [unhide HS,←hq];simp)
     obtain⟨c0,c1,c2,c3,c4,c5,c6,c7,c8,c9⟩:=row_ten (unhide T3).1
     obtain⟨d0,d1,d2,d3,d4,d5,d6,d7,d8,d9⟩:=row_ten (unhide T3).2
     clear hq v1 v2 hB3
     go_wp2_with fail
     refine(unhide CF).mono ?_
     rintro e w4 ⟨rfl,b4⟩
     have X4:=hide ((unhide X3).trans (b4.mono (unhide X3).size))
     clear b4 CF c0 c1 c2 c3 c4 c5 c6 c7 c8 c9 d0 d1 d2 d3 d4 d5 d6 d7 d8 d9
     go_wp2_with fail
     go_ret
     exact⟨by rw [unhide HG];rfl,by first|exact unhide X4|(rw [←hg];exact unhide X4)⟩
   ·have HG:Hid (R=false):=hide (by rw [unhide HS];simp [h2])
    have hb:(f == f')=false:=by simpa using h2
    have hb2:decide (f=f')=false:=decide_eq_false h2
    go_enter Tryz.func31,Tryz.ntmps31
    go_wp2_with fail
    go_ret
    exact⟨by rw [unhide HG];rfl,by first|exact unhide HB|(rw [←hg];exact unhide HB)⟩
  |false=>
   have HG:Hid (R=false):=hide (by rw [unhide HS,h3];simp)
   go_enter Tryz.func31,Tryz.ntmps31
   go_wp2_with fail
   go_ret
   exact⟨by rw [unhide HG];rfl,by first|exact unhide HB|(rw [←hg];exact unhide HB)⟩
 ·have HG:Hid (R=false):=hide (by rw [unhide HS];simp [h1])
  have hb:(k == k')=false:=by simpa using h1
  clear h1
  go_enter Tryz.func31,Tryz.ntmps31
  go_wp2_with fail
  go_ret
  exact⟨by rw [unhide HG];rfl,by first|exact unhide HB|(rw [←hg];exact unhide HB)⟩
theorem smn_all:∀N,SmnAt N
 |0=>fun y z x x' B w hN=>by rw [cns_one] at hN;omega
 |N+1=>smn_step N (smn_all N)
def Leaf (x:Value):Prop:=∃k n s,x=.agg #[.int .i64 k,.int .i64 n,.string s,.slice none 0 0,.slice none 0 0]
def Grp (cs:Array Value) (i:Nat) (y0 y1 y2 y3 y4:Value):Prop:=cs[i * 5]?=some y0∧cs[i * 5+1]?=some y1∧cs[i * 5+2]?=some y2∧cs[i * 5+3]?=some y3∧cs[i * 5+4]?=some y4
def TyK (w:World) (P:Nat→Prop) (ak:Option Addr) (m ck:Nat):Prop:=
 (ak=none∧m=0∧ck=0)∨∃b cs,ak=some ⟨b,0,none⟩∧P b∧w.heap[b]?=some (.cells cs 9 (0,0))∧cs.size=ck∧m≤ck∧ck≤maxLen∧16 * m≤140737488351232
def TyL (w:World) (P:Nat→Prop) (R:Value→Prop) (al:Option Addr) (ll cl:Nat):Prop:=
 (al=none∧ll=0∧cl=0)∨∃b cs,al=some ⟨b,0,none⟩∧P b∧w.heap[b]?=some (.cells cs 26 (0,0))∧cs.size=cl * 5∧ll≤cl∧cl≤maxLen∧ll≤1000000∧∀i,i<ll→∃y0 y1 y2 y3 y4,Grp cs i y0 y1 y2 y3 y4∧R (.agg #[y0,y1,y2,y3,y4])
def Ty (w:World) (P:Nat→Prop):Nat→Value→Prop
 |0,x=>Leaf x
 |r+1,x=>∃k n s al ll cl ak m ck,x=.agg #[.int .i64 k,.int .i64 n,.string s,.slice al ll cl,.slice ak m ck]∧TyL w P (Ty w P r) al ll cl∧TyK w P ak m ck
theorem Ty.leaf {w:World} {P:Nat→Prop} {x:Value} (h:Leaf x):∀r,Ty w P r x
 |0=>h
 |r+1=>by
  obtain⟨k,n,s,rfl⟩:=h
  exact⟨k,n,s,none,0,0,none,0,0,rfl,Or.inl ⟨rfl,rfl,rfl⟩,Or.inl ⟨rfl,rfl,rfl⟩⟩
theorem TyL.map {w:World} {P:Nat→Prop} {R R':Value→Prop} {al:Option Addr} {ll cl:Nat} (h:TyL w P R al ll cl) (hR:∀x,R x→R' x):TyL w P R' al ll cl:=by
 rcases h with h|⟨b,cs,h1,h2,h3,h4,h5,h6,h7,h8⟩
 ·exact Or.inl h
 ·refine Or.inr ⟨b,cs,h1,h2,h3,h4,h5,h6,h7,fun i hi=>?_⟩
  obtain⟨y0,y1,y2,y3,y4,g,hr⟩:=h8 i hi
  exact⟨y0,y1,y2,y3,y4,g,hR _ hr⟩
theorem Ty.mono {w:World} {P:Nat→Prop}:∀(r:Nat) (x:Value),Ty w P r x→Ty w P (r+1) x
 |0,x,h=>Ty.leaf h 1
 |r+1,x,h=>by
  obtain⟨k,n,s,al,ll,cl,ak,m,ck,e,hl,hk⟩:=h
  exact⟨k,n,s,al,ll,cl,ak,m,ck,e,hl.map (fun x hx=>Ty.mono r x hx),hk⟩
theorem Ty.le {w:World} {P:Nat→Prop} {r q:Nat} {x:Value} (h:Ty w P r x) (hq:r≤q):Ty w P q x:=by
 obtain⟨d,rfl⟩:=Nat.exists_eq_add_of_le hq
 induction d with
 |zero=>exact h
 |succ d ih=>exact Ty.mono _ _ (ih (by omega))
theorem TyK.to {w w':World} {P Q:Nat→Prop} (hw:∀b,P b→w'.heap[b]?=w.heap[b]?) (hP:∀b,P b→Q b) {ak:Option Addr} {m ck:Nat} (h:TyK w P ak m ck):TyK w' Q ak m ck:=by
 rcases h with h|⟨b,cs,h1,h2,h3,h4⟩
 ·exact Or.inl h
 ·exact Or.inr ⟨b,cs,h1,hP b h2,(hw b h2).trans h3,h4⟩
theorem Ty.to {w w':World} {P Q:Nat→Prop} (hw:∀b,P b→w'.heap[b]?=w.heap[b]?) (hP:∀b,P b→Q b):∀(r:Nat) (x:Value),Ty w P r x→Ty w' Q r x
 |0,x,h=>h
 |r+1,x,h=>by
  obtain⟨k,n,s,al,ll,cl,ak,m,ck,e,hl,hk⟩:=h
  refine⟨k,n,s,al,ll,cl,ak,m,ck,e,?_,hk.to hw hP⟩
  rcases hl with h|⟨b,cs,h1,h2,h3,h4,h5,h6,h7,h8⟩
  ·exact Or.inl h
  ·refine Or.inr ⟨b,cs,h1,hP b h2,(hw b h2).trans h3,h4,h5,h6,h7,fun i hi=>?_⟩
   obtain⟨y0,y1,y2,y3,y4,g,hr⟩:=h8 i hi
   exact⟨y0,y1,y2,y3,y4,g,Ty.to hw hP r _ hr⟩
def IsQ (w:World) (P:Nat→Prop) (v:Vl) (x:Value):Prop:=IsP w P v x∧Ty w P (dep v) x
theorem IsQ.to {w w':World} {P Q:Nat→Prop} (hw:∀b,P b→w'.heap[b]?=w.heap[b]?) (hP:∀b,P b→Q b) {v:Vl} {x:Value} (h:IsQ w P v x):IsQ w' Q v x:=⟨h.1.to hw hP,Ty.to hw hP _ _ h.2⟩
theorem IsQ.weak {w:World} {P Q:Nat→Prop} (hP:∀b,P b→Q b) {v:Vl} {x:Value} (h:IsQ w P v x):IsQ w Q v x:=h.to (fun _ _=>rfl) hP
theorem IsQ.move {w w':World} {P:Nat→Prop} (hw:∀b,P b→w'.heap[b]?=w.heap[b]?) {v:Vl} {x:Value} (h:IsQ w P v x):IsQ w' P v x:=h.to hw (fun _ h=>h)
theorem IsQ.isV {w:World} {P:Nat→Prop} {B:Nat} (hP:∀b,P b→b<B) {v:Vl} {x:Value} (h:IsQ w P v x):IsV w B v x:=h.1.isV hP
theorem IsQ.shape {w:World} {P:Nat→Prop} {y:Vl} {x:Value} (h:IsQ w P y x):∃kind n s l ks al ak cl ck,y=.mk kind n s l ks∧x=.agg #[.int .i64 kind,.int .i64 n,.string s,.slice al l.length cl,.slice ak ks.length ck]:=h.1.shape
theorem dep_le {l:List Vl} {i:Nat} {y:Vl} (h:l[i]?=some y):dep y≤depL l:=by
 have h1:=depL_next l i y h
 have h2:=depL_app (l.take (i+1)) (l.drop (i+1))
 rw [List.take_append_drop] at h2
 omega
def lf (k n:Int) (s:ByteArray):List Value:=[.int .i64 k,.int .i64 n,.string s,.slice none 0 0,.slice none 0 0]
end Go.Proofs.YtekbmfppfjlboaaGreatDoor
