/-
  the law's stays, still: of one tree that lies twice.
  are two values the same, field by field; no conditions but the form's own reach.
  are two trees the same, but for places.
  Conditions: where nodes are told of, they lie in memory.
-/
import Derived.Test.YtlkeaaopdnnceaaGreatDoorA43
import Derived.Test.YtlkeaaopdnnceaaGreatDoorA31
import Derived.Test.YtlkeaaopdnnceaaGreatDoorA09
import Derived.Test.YtlkeaaopdnnceaaGreatDoorA12
import Derived.Test.YtlkeaaopdnnceaaGreatDoorA07
set_option linter.unusedVariables false
set_option linter.unusedSimpArgs false
set_option maxRecDepth 100000
set_option maxHeartbeats 8000000
namespace Go.Proofs.YtlkeaaopdnnceaaGreatDoor
open Go.RowKit
set_option linter.unusedVariables false
set_option linter.unusedSimpArgs false
def StyAt (N:Nat):Prop:=∀(y:Tn) (x x':List Value) (B:Nat) (w:World),cns [y]≤N→IsN w (fun b=>b<B) y x→IsN w (fun b=>b<B) y x'→B≤w.heap.size →
  Calls Tryz.prog 29 #[.agg x.toArray,.agg x'.toArray] w fun e w'=>e=.returned (.bool true)∧Below w.heap.size w w'
theorem stays_step (N:Nat) (ih:StyAt N):StyAt (N+1):=by
 intro y x x' B w hN hx hx' hB
 obtain⟨vk,vn,vs,al,ak,a,ll,cl,lk,ck,cc,rfl,hv,hr,-,-⟩:=hx.opn
 obtain⟨vk',vn',vs',al',ak',a',ll',cl',lk',ck',cc',rfl,hv',hr',-,-⟩:=hx'.opn
 obtain⟨k,t,v,f,ks,p⟩:=y
 simp only at hv hr hv' hr' hx hx' ⊢
 obtain⟨n,hn⟩:∃n,ks.length=n:=⟨_,rfl⟩
 have hnb:n≤140737488351232:=by rw [←hn];exact hr.len
 simp only [hn] at hx hx' ⊢
 have TW:=TwoL.mk' w 28 #[.int .i64 k,.string t,.int .i64 vk,.int .i64 vn,.string vs,.slice al ll cl,.slice ak lk ck,.bool f,.slice a n cc,.int .i64 p] #[.int .i64 k,.string t,.int .i64 vk',.int .i64 vn',.string vs',.slice al' ll' cl',.slice ak' lk' ck',.bool f,.slice a' n cc',.int .i64 p]
 obtain⟨w2,hw2⟩:∃w2,(w.alloc (.cells #[.int .i64 k,.string t,.int .i64 vk,.int .i64 vn,.string vs,.slice al ll cl,.slice ak lk ck,.bool f,.slice a n cc,.int .i64 p] 28)).alloc (.cells #[.int .i64 k,.string t,.int .i64 vk',.int .i64 vn',.string vs',.slice al' ll' cl',.slice ak' lk' ck',.bool f,.slice a' n cc',.int .i64 p] 28)=w2:=⟨_,rfl⟩
 rw [hw2] at TW
 obtain⟨g,hg⟩:∃g,w.heap.size=g:=⟨_,rfl⟩
 rw [hg] at TW
 have HT:=hZ TW
 have HM:Hid (∀u,Below w2.heap.size w2 u→IsN u (fun b=>b<B) ⟨k,t,v,f,ks,p⟩ [.int .i64 k,.string t,.int .i64 vk,.int .i64 vn,.string vs,.slice al ll cl,.slice ak lk ck,.bool f,.slice a n cc,.int .i64 p]∧IsN u (fun b=>b<B) ⟨k,t,v,f,ks,p⟩ [.int .i64 k,.string t,.int .i64 vk',.int .i64 vn',.string vs',.slice al' ll' cl',.slice ak' lk' ck',.bool f,.slice a' n cc',.int .i64 p]∧RowN u B ks a cc∧RowN u B ks a' cc'∧B≤u.heap.size∧Below w.heap.size w u∧IsV u B v (.agg #[.int .i64 vk,.int .i64 vn,.string vs,.slice al ll cl,.slice ak lk ck])∧IsV u B v (.agg #[.int .i64 vk',.int .i64 vn',.string vs',.slice al' ll' cl',.slice ak' lk' ck'])):=
  hZ (fun u hu=>by
   have h0:Below w.heap.size w u:=TW.below.trans (hu.mono (by have:=TW.size;omega))
   have h1:Below B w u:=h0.mono hB
   exact⟨hx.laterB h1,hx'.laterB h1,hr.later h1,hr'.later h1,by have:=TW.size;have:=hu.size;omega,h0,hv.mono h1,hv'.mono h1⟩)
 have HF:Hid (∀u,Below w2.heap.size w2 u→(u.cell? ⟨g,0,none⟩=some (.int .i64 k)∧u.cell? ⟨g,1,none⟩=some (.string t)∧u.cell? ⟨g,2,none⟩=some (.int .i64 vk)∧u.cell? ⟨g,3,none⟩=some (.int .i64 vn)∧u.cell? ⟨g,4,none⟩=some (.string vs)∧u.cell? ⟨g,5,none⟩=some (.slice al ll cl)∧u.cell? ⟨g,6,none⟩=some (.slice ak lk ck)∧u.cell? ⟨g,7,none⟩=some (.bool f)∧u.cell? ⟨g,8,none⟩=some (.slice a n cc)∧u.cell? ⟨g,9,none⟩=some (.int .i64 p))∧u.cell? ⟨g+1,0,none⟩=some (.int .i64 k)∧u.cell? ⟨g+1,1,none⟩=some (.string t)∧u.cell? ⟨g+1,2,none⟩=some (.int .i64 vk')∧u.cell? ⟨g+1,3,none⟩=some (.int .i64 vn')∧u.cell? ⟨g+1,4,none⟩=some (.string vs')∧u.cell? ⟨g+1,5,none⟩=some (.slice al' ll' cl')∧u.cell? ⟨g+1,6,none⟩=some (.slice ak' lk' ck')∧u.cell? ⟨g+1,7,none⟩=some (.bool f)∧u.cell? ⟨g+1,8,none⟩=some (.slice a' n cc')∧u.cell? ⟨g+1,9,none⟩=some (.int .i64 p)):=hZ (fun u hu=>⟨row_ten (TW.later hu).1,row_ten (TW.later hu).2⟩)
 have HN:=hZ hn
 have HS0:Hid (Below w2.heap.size w2 w2):=hZ (Below.refl _ _)
 have HW:=hZ hw2
 have hsub:∀z∈ks,cns [z]≤N:=fun z hz=>by
  have h1:=cns_mem ks z hz
  rw [cns_one] at hN
  simp only at hN
  omega
 have HSub:=hZ hsub
 clear hsub hN
 clear TW hx hx' hr hr' hn hB hv hv' hw2
 go_enter Tryz.func29,Tryz.ntmps29
 obtain⟨⟨x0,x1,x2,x3,x4,x5,x6,x7,x8,x9⟩,⟨y0,y1,y2,y3,y4,y5,y6,y7,y8,y9⟩⟩:=uZ HF w2 (uZ HS0)
 have CS:=hZ (sameV_any v _ _ B w2 ((uZ HM) w2 (uZ HS0)).2.2.2.2.2.2.1 ((uZ HM) w2 (uZ HS0)).2.2.2.2.2.2.2 ((uZ HM) w2 (uZ HS0)).2.2.2.2.1)
 go_upto_region 1 with fail
 try rw [uZ HW]
 try rw [hg]
 clear HW
 go_wp2_with fail
 refine(uZ CS).mono ?_
 rintro e w3 ⟨rfl,bb⟩
 have HX3:=hZ bb
 clear bb CS x0 x1 x2 x3 x4 x5 x6 x7 x8 x9 y0 y1 y2 y3 y4 y5 y6 y7 y8 y9
 obtain⟨⟨x0,x1,x2,x3,x4,x5,x6,x7,x8,x9⟩,⟨y0,y1,y2,y3,y4,y5,y6,y7,y8,y9⟩⟩:=uZ HF w3 (uZ HX3)
 have ff:(f != f)=false:=by simp
 go_wp2_with fail
 clear x0 x1 x2 x3 x4 x5 x6 x7 x8 x9 y0 y1 y2 y3 y4 y5 y6 y7 y8 y9
 go_loopw [6] (fun x w9=>∃(i:Nat),x=.int .i64 (i:Int)∧i≤n∧Hid (Below w2.heap.size w2 w9)) (fun x _=>n - (intOf x).toNat)
 case atStart=>exact⟨0,rfl,Nat.zero_le _,HX3⟩
 case round=>
  obtain⟨i,rfl,hi,HX⟩:=hrel
  obtain⟨w8,hw8⟩:∃u,u=wr:=⟨_,rfl⟩
  subst hw8
  obtain⟨⟨x0,x1,x2,x3,x4,x5,x6,x7,x8,x9⟩,⟨y0,y1,y2,y3,y4,y5,y6,y7,y8,y9⟩⟩:=uZ HF w8 (uZ HX)
  by_cases hlt:i<n
  ·have i1:(i:Int)<(n:Int):=by omega
   have i0:(0:Int)≤(i:Int):=by omega
   obtain⟨z,hz⟩:∃z,ks[i]?=some z:=⟨_,List.getElem?_eq_getElem (by have:=uZ HN;omega)⟩
   have HI1:=hZ (show i+1≤n by omega)
   obtain⟨b,vky,vny,vsy,aly,aky,ay,lly,cly,lky,cky,ny,ccy,rfl,hcy,hby,hny,hzy,hcelly⟩:=((uZ HM) w8 (uZ HX)).2.2.1.ten hz
   obtain⟨c,vkz,vnz,vsz,alz,akz,az,llz,clz,lkz,ckz,nz,ccz,rfl,hcz,hbz,hnz,hzz,hcellz⟩:=((uZ HM) w8 (uZ HX)).2.2.2.1.ten hz
   have hBu:=((uZ HM) w8 (uZ HX)).2.2.2.2.1
   have HK:Hid (∀u,Below w8.heap.size w8 u→(u.cell? (b.add (i * 10))=some (.int .i64 z.k)∧u.cell? (⟨(b.add (i * 10)).block,(b.add (i * 10)).off+1,none⟩)=some (.string z.t)∧u.cell? (⟨(b.add (i * 10)).block,(b.add (i * 10)).off+2,none⟩)=some (.int .i64 vky)∧u.cell? (⟨(b.add (i * 10)).block,(b.add (i * 10)).off+3,none⟩)=some (.int .i64 vny)∧u.cell? (⟨(b.add (i * 10)).block,(b.add (i * 10)).off+4,none⟩)=some (.string vsy)∧u.cell? (⟨(b.add (i * 10)).block,(b.add (i * 10)).off+5,none⟩)=some (.slice aly lly cly)∧u.cell? (⟨(b.add (i * 10)).block,(b.add (i * 10)).off+6,none⟩)=some (.slice aky lky cky)∧u.cell? (⟨(b.add (i * 10)).block,(b.add (i * 10)).off+7,none⟩)=some (.bool z.f)∧u.cell? (⟨(b.add (i * 10)).block,(b.add (i * 10)).off+8,none⟩)=some (.slice ay ny ccy)∧u.cell? (⟨(b.add (i * 10)).block,(b.add (i * 10)).off+9,none⟩)=some (.int .i64 z.p))∧(u.cell? (c.add (i * 10))=some (.int .i64 z.k)∧u.cell? (⟨(c.add (i * 10)).block,(c.add (i * 10)).off+1,none⟩)=some (.string z.t)∧u.cell? (⟨(c.add (i * 10)).block,(c.add (i * 10)).off+2,none⟩)=some (.int .i64 vkz)∧u.cell? (⟨(c.add (i * 10)).block,(c.add (i * 10)).off+3,none⟩)=some (.int .i64 vnz)∧u.cell? (⟨(c.add (i * 10)).block,(c.add (i * 10)).off+4,none⟩)=some (.string vsz)∧u.cell? (⟨(c.add (i * 10)).block,(c.add (i * 10)).off+5,none⟩)=some (.slice alz llz clz)∧u.cell? (⟨(c.add (i * 10)).block,(c.add (i * 10)).off+6,none⟩)=some (.slice akz lkz ckz)∧u.cell? (⟨(c.add (i * 10)).block,(c.add (i * 10)).off+7,none⟩)=some (.bool z.f)∧u.cell? (⟨(c.add (i * 10)).block,(c.add (i * 10)).off+8,none⟩)=some (.slice az nz ccz)∧u.cell? (⟨(c.add (i * 10)).block,(c.add (i * 10)).off+9,none⟩)=some (.int .i64 z.p))∧IsN u (fun b=>b<B) z [.int .i64 z.k,.string z.t,.int .i64 vky,.int .i64 vny,.string vsy,.slice aly lly cly,.slice aky lky cky,.bool z.f,.slice ay ny ccy,.int .i64 z.p]∧IsN u (fun b=>b<B) z [.int .i64 z.k,.string z.t,.int .i64 vkz,.int .i64 vnz,.string vsz,.slice alz llz clz,.slice akz lkz ckz,.bool z.f,.slice az nz ccz,.int .i64 z.p]):=hZ (fun u h=>by
    have e1:∀j v,([.int .i64 z.k,.string z.t,.int .i64 vky,.int .i64 vny,.string vsy,.slice aly lly cly,.slice aky lky cky,.bool z.f,.slice ay ny ccy,.int .i64 z.p]:List Value)[j]?=some v→u.cell? ((b.add (i * 10)).add j)=some v:=fun j v hj=>(World.cell?_of_block (h.block _ (by rw [block_add,block_add];omega))).trans (hcelly j v hj)
    have e2:∀j v,([.int .i64 z.k,.string z.t,.int .i64 vkz,.int .i64 vnz,.string vsz,.slice alz llz clz,.slice akz lkz ckz,.bool z.f,.slice az nz ccz,.int .i64 z.p]:List Value)[j]?=some v→u.cell? ((c.add (i * 10)).add j)=some v:=fun j v hj=>(World.cell?_of_block (h.block _ (by rw [block_add,block_add];omega))).trans (hcellz j v hj)
    exact⟨⟨e1 0 _ rfl,e1 1 _ rfl,e1 2 _ rfl,e1 3 _ rfl,e1 4 _ rfl,e1 5 _ rfl,e1 6 _ rfl,e1 7 _ rfl,e1 8 _ rfl,e1 9 _ rfl⟩,⟨e2 0 _ rfl,e2 1 _ rfl,e2 2 _ rfl,e2 3 _ rfl,e2 4 _ rfl,e2 5 _ rfl,e2 6 _ rfl,e2 7 _ rfl,e2 8 _ rfl,e2 9 _ rfl⟩,hzy.laterB (h.mono hBu),hzz.laterB (h.mono hBu)⟩)
   have hcc1:n≤cc:=by rw [←uZ HN];exact hcy
   have hcc2:n≤cc':=by rw [←uZ HN];exact hcz
   have HZ:=hZ (And.intro (uZ HSub z (List.mem_of_getElem? hz)) hBu)
   clear hcy hby hny hzy hcelly hcz hbz hnz hzz hcellz hz hBu x0 x1 x2 x3 x4 x5 x6 x7 x8 x9 y0 y1 y2 y3 y4 y5 y6 y7 y8 y9
   obtain⟨⟨x0,x1,x2,x3,x4,x5,x6,x7,x8,x9⟩,⟨y0,y1,y2,y3,y4,y5,y6,y7,y8,y9⟩⟩:=uZ HF w8 (uZ HX)
   go_upto_region 7 with fail
   clear x0 x1 x2 x3 x4 x5 x6 x7 x8 x9 y0 y1 y2 y3 y4 y5 y6 y7 y8 y9
   have HD0:Hid (Below w8.heap.size w8 w8.drew):=hZ ((Below.refl _ _).drew)
   refine till_begin (S:=fun w'=>Below w8.heap.size w8 w') 11 (by kernel_rfl) ?_
   obtain⟨W0,hW0⟩:∃W0,w8.drew=W0:=⟨_,rfl⟩
   try rw [hW0]
   rw [hW0] at HD0
   clear hW0
   refine tK 0 (v:=.pointer (some ⟨g,8,none⟩)) (some 59) rfl rfl rfl (by kernel_rfl) (fun _ _ _ h=>h) (Or.inl ⟨by rfl,fun u hu=>by obtain⟨⟨x0,x1,x2,x3,x4,x5,x6,x7,x8,x9⟩,⟨y0,y1,y2,y3,y4,y5,y6,y7,y8,y9⟩⟩:=uZ HF u ((uZ HX).trans (Below.mono hu (uZ HX).size));obtain⟨⟨e0,e1,e2,e3,e4,e5,e6,e7,e8,e9⟩,⟨d0,d1,d2,d3,d4,d5,d6,d7,d8,d9⟩,_,_⟩:=uZ HK u hu;go_simp⟩) (uZ HD0) ?_
   try simp only [Act.put,sA,sB,sC]
   refine tK 1 (v:=.slice (some b) n cc) (some 60) rfl rfl rfl (by kernel_rfl) (fun _ _ _ h=>h) (Or.inl ⟨by rfl,fun u hu=>by obtain⟨⟨x0,x1,x2,x3,x4,x5,x6,x7,x8,x9⟩,⟨y0,y1,y2,y3,y4,y5,y6,y7,y8,y9⟩⟩:=uZ HF u ((uZ HX).trans (Below.mono hu (uZ HX).size));obtain⟨⟨e0,e1,e2,e3,e4,e5,e6,e7,e8,e9⟩,⟨d0,d1,d2,d3,d4,d5,d6,d7,d8,d9⟩,_,_⟩:=uZ HK u hu;go_simp⟩) (uZ HD0) ?_
   try simp only [Act.put,sA,sB,sC]
   refine tK 2 (v:=.int .i64 (i:Int)) (some 61) rfl rfl rfl (by kernel_rfl) (fun _ _ _ h=>h) (Or.inl ⟨by rfl,fun u hu=>by obtain⟨⟨x0,x1,x2,x3,x4,x5,x6,x7,x8,x9⟩,⟨y0,y1,y2,y3,y4,y5,y6,y7,y8,y9⟩⟩:=uZ HF u ((uZ HX).trans (Below.mono hu (uZ HX).size));obtain⟨⟨e0,e1,e2,e3,e4,e5,e6,e7,e8,e9⟩,⟨d0,d1,d2,d3,d4,d5,d6,d7,d8,d9⟩,_,_⟩:=uZ HK u hu;go_simp⟩) (uZ HD0) ?_
   try simp only [Act.put,sA,sB,sC]
   refine tK 3 (v:=.pointer (some (b.add (i * 10)))) (some 62) rfl rfl rfl (by kernel_rfl) (fun _ _ _ h=>h) (Or.inl ⟨by rfl,fun u hu=>by obtain⟨⟨x0,x1,x2,x3,x4,x5,x6,x7,x8,x9⟩,⟨y0,y1,y2,y3,y4,y5,y6,y7,y8,y9⟩⟩:=uZ HF u ((uZ HX).trans (Below.mono hu (uZ HX).size));obtain⟨⟨e0,e1,e2,e3,e4,e5,e6,e7,e8,e9⟩,⟨d0,d1,d2,d3,d4,d5,d6,d7,d8,d9⟩,_,_⟩:=uZ HK u hu;go_simp⟩) (uZ HD0) ?_
   try simp only [Act.put,sA,sB,sC]
   refine tK 4 (v:=.agg #[.int .i64 z.k,.string z.t,.int .i64 vky,.int .i64 vny,.string vsy,.slice aly lly cly,.slice aky lky cky,.bool z.f,.slice ay ny ccy,.int .i64 z.p]) (some 63) rfl rfl rfl (by kernel_rfl) (fun _ _ _ h=>h) (Or.inl ⟨by rfl,fun u hu=>by obtain⟨⟨x0,x1,x2,x3,x4,x5,x6,x7,x8,x9⟩,⟨y0,y1,y2,y3,y4,y5,y6,y7,y8,y9⟩⟩:=uZ HF u ((uZ HX).trans (Below.mono hu (uZ HX).size));obtain⟨⟨e0,e1,e2,e3,e4,e5,e6,e7,e8,e9⟩,⟨d0,d1,d2,d3,d4,d5,d6,d7,d8,d9⟩,_,_⟩:=uZ HK u hu;go_simp⟩) (uZ HD0) ?_
   try simp only [Act.put,sA,sB,sC]
   refine tK 5 (v:=.pointer (some ⟨g+1,8,none⟩)) (some 64) rfl rfl rfl (by kernel_rfl) (fun _ _ _ h=>h) (Or.inl ⟨by rfl,fun u hu=>by obtain⟨⟨x0,x1,x2,x3,x4,x5,x6,x7,x8,x9⟩,⟨y0,y1,y2,y3,y4,y5,y6,y7,y8,y9⟩⟩:=uZ HF u ((uZ HX).trans (Below.mono hu (uZ HX).size));obtain⟨⟨e0,e1,e2,e3,e4,e5,e6,e7,e8,e9⟩,⟨d0,d1,d2,d3,d4,d5,d6,d7,d8,d9⟩,_,_⟩:=uZ HK u hu;go_simp⟩) (uZ HD0) ?_
   try simp only [Act.put,sA,sB,sC]
   refine tK 6 (v:=.slice (some c) n cc') (some 65) rfl rfl rfl (by kernel_rfl) (fun _ _ _ h=>h) (Or.inl ⟨by rfl,fun u hu=>by obtain⟨⟨x0,x1,x2,x3,x4,x5,x6,x7,x8,x9⟩,⟨y0,y1,y2,y3,y4,y5,y6,y7,y8,y9⟩⟩:=uZ HF u ((uZ HX).trans (Below.mono hu (uZ HX).size));obtain⟨⟨e0,e1,e2,e3,e4,e5,e6,e7,e8,e9⟩,⟨d0,d1,d2,d3,d4,d5,d6,d7,d8,d9⟩,_,_⟩:=uZ HK u hu;go_simp⟩) (uZ HD0) ?_
   try simp only [Act.put,sA,sB,sC]
   refine tK 7 (v:=.int .i64 (i:Int)) (some 66) rfl rfl rfl (by kernel_rfl) (fun _ _ _ h=>h) (Or.inl ⟨by rfl,fun u hu=>by obtain⟨⟨x0,x1,x2,x3,x4,x5,x6,x7,x8,x9⟩,⟨y0,y1,y2,y3,y4,y5,y6,y7,y8,y9⟩⟩:=uZ HF u ((uZ HX).trans (Below.mono hu (uZ HX).size));obtain⟨⟨e0,e1,e2,e3,e4,e5,e6,e7,e8,e9⟩,⟨d0,d1,d2,d3,d4,d5,d6,d7,d8,d9⟩,_,_⟩:=uZ HK u hu;go_simp⟩) (uZ HD0) ?_
   try simp only [Act.put,sA,sB,sC]
   refine tK 8 (v:=.pointer (some (c.add (i * 10)))) (some 67) rfl rfl rfl (by kernel_rfl) (fun _ _ _ h=>h) (Or.inl ⟨by rfl,fun u hu=>by obtain⟨⟨x0,x1,x2,x3,x4,x5,x6,x7,x8,x9⟩,⟨y0,y1,y2,y3,y4,y5,y6,y7,y8,y9⟩⟩:=uZ HF u ((uZ HX).trans (Below.mono hu (uZ HX).size));obtain⟨⟨e0,e1,e2,e3,e4,e5,e6,e7,e8,e9⟩,⟨d0,d1,d2,d3,d4,d5,d6,d7,d8,d9⟩,_,_⟩:=uZ HK u hu;go_simp⟩) (uZ HD0) ?_
   try simp only [Act.put,sA,sB,sC]
   refine tK 9 (v:=.agg #[.int .i64 z.k,.string z.t,.int .i64 vkz,.int .i64 vnz,.string vsz,.slice alz llz clz,.slice akz lkz ckz,.bool z.f,.slice az nz ccz,.int .i64 z.p]) (some 68) rfl rfl rfl (by kernel_rfl) (fun _ _ _ h=>h) (Or.inl ⟨by rfl,fun u hu=>by obtain⟨⟨x0,x1,x2,x3,x4,x5,x6,x7,x8,x9⟩,⟨y0,y1,y2,y3,y4,y5,y6,y7,y8,y9⟩⟩:=uZ HF u ((uZ HX).trans (Below.mono hu (uZ HX).size));obtain⟨⟨e0,e1,e2,e3,e4,e5,e6,e7,e8,e9⟩,⟨d0,d1,d2,d3,d4,d5,d6,d7,d8,d9⟩,_,_⟩:=uZ HK u hu;go_simp⟩) (uZ HD0) ?_
   try simp only [Act.put,sA,sB,sC]
   refine till_one 10 (by kernel_rfl) rfl (fun K hK=>?_)
   go_simp
   refine(ih z _ _ B W0 (uZ HZ).1 (uZ HK W0 (uZ HD0)).2.2.1 (uZ HK W0 (uZ HD0)).2.2.2 (Nat.le_trans (uZ HZ).2 (Below.size (uZ HD0)))).mono ?_
   rintro e W1 ⟨rfl,bb⟩
   have HD1:=hZ ((uZ HD0).trans (bb.mono (uZ HD0).size))
   clear bb
   go_wp2_with fail
   refine hK.out _ _ (Or.inr (uZ HD1)) ?_
   clear hK K HD0
   try simp only [Act.put,sA,sB,sC]
   refine till_one 11 (by kernel_rfl) rfl (fun K hK=>?_)
   go_simp
   refine hK.out _ _ (Or.inl (by first|rfl|trivial)) ?_
   clear hK K
   try simp only [Act.put,sA,sB,sC]
   refine till_done (by kernel_rfl) ?_ _
   have HX9:=hZ ((uZ HX).trans ((uZ HD1).mono (uZ HX).size))
   go_wp2_with fail
   go_roundw
   case rel=>exact⟨i+1,by go_num,uZ HI1,HX9⟩
   case measure=>have:=uZ HI1;simp [intOf];omega
  ·have i1:¬(i:Int)<(n:Int):=by omega
   have hbz:=((uZ HM) w8 (uZ HX)).2.2.2.2.2.1
   go_wp2_with fail
   go_ret
   exact⟨rfl,by first|exact hbz|(rw [hg];exact hbz)|(rw [←hg];exact hbz)⟩
theorem stays_all:∀N,StyAt N
 |0=>fun y x x' B w hN=>by rw [cns_one] at hN;omega
 |N+1=>stays_step N (stays_all N)
theorem still_any (y:Tn) (x x':List Value) (B:Nat) (w:World) (hx:IsN w (fun b=>b<B) y x) (hx':IsN w (fun b=>b<B) y x') (hB:B≤w.heap.size) :
  Calls Tryz.prog 11 #[.agg x.toArray,.agg x'.toArray] w fun e w'=>e=.returned (.bool true)∧Below w.heap.size w w':=by
 obtain⟨vk,vn,vs,al,ak,a,ll,cl,lk,ck,cc,rfl,hv,hr,-,-⟩:=hx.opn
 obtain⟨vk',vn',vs',al',ak',a',ll',cl',lk',ck',cc',rfl,hv',hr',-,-⟩:=hx'.opn
 obtain⟨k,t,v,f,ks,p⟩:=y
 simp only at hv hr hv' hr' hx hx' ⊢
 obtain⟨n,hn⟩:∃n,ks.length=n:=⟨_,rfl⟩
 have hnb:n≤140737488351232:=by rw [←hn];exact hr.len
 simp only [hn] at hx hx' ⊢
 have TW:=TwoL.mk' w 28 #[.int .i64 k,.string t,.int .i64 vk,.int .i64 vn,.string vs,.slice al ll cl,.slice ak lk ck,.bool f,.slice a n cc,.int .i64 p] #[.int .i64 k,.string t,.int .i64 vk',.int .i64 vn',.string vs',.slice al' ll' cl',.slice ak' lk' ck',.bool f,.slice a' n cc',.int .i64 p]
 obtain⟨w2,hw2⟩:∃w2,(w.alloc (.cells #[.int .i64 k,.string t,.int .i64 vk,.int .i64 vn,.string vs,.slice al ll cl,.slice ak lk ck,.bool f,.slice a n cc,.int .i64 p] 28)).alloc (.cells #[.int .i64 k,.string t,.int .i64 vk',.int .i64 vn',.string vs',.slice al' ll' cl',.slice ak' lk' ck',.bool f,.slice a' n cc',.int .i64 p] 28)=w2:=⟨_,rfl⟩
 rw [hw2] at TW
 obtain⟨g,hg⟩:∃g,w.heap.size=g:=⟨_,rfl⟩
 rw [hg] at TW
 have HT:=hZ TW
 have HM:Hid (∀u,Below w2.heap.size w2 u→IsN u (fun b=>b<B) ⟨k,t,v,f,ks,p⟩ [.int .i64 k,.string t,.int .i64 vk,.int .i64 vn,.string vs,.slice al ll cl,.slice ak lk ck,.bool f,.slice a n cc,.int .i64 p]∧IsN u (fun b=>b<B) ⟨k,t,v,f,ks,p⟩ [.int .i64 k,.string t,.int .i64 vk',.int .i64 vn',.string vs',.slice al' ll' cl',.slice ak' lk' ck',.bool f,.slice a' n cc',.int .i64 p]∧RowN u B ks a cc∧RowN u B ks a' cc'∧B≤u.heap.size∧Below w.heap.size w u∧IsV u B v (.agg #[.int .i64 vk,.int .i64 vn,.string vs,.slice al ll cl,.slice ak lk ck])∧IsV u B v (.agg #[.int .i64 vk',.int .i64 vn',.string vs',.slice al' ll' cl',.slice ak' lk' ck'])):=
  hZ (fun u hu=>by
   have h0:Below w.heap.size w u:=TW.below.trans (hu.mono (by have:=TW.size;omega))
   have h1:Below B w u:=h0.mono hB
   exact⟨hx.laterB h1,hx'.laterB h1,hr.later h1,hr'.later h1,by have:=TW.size;have:=hu.size;omega,h0,hv.mono h1,hv'.mono h1⟩)
 have HF:Hid (∀u,Below w2.heap.size w2 u→(u.cell? ⟨g,0,none⟩=some (.int .i64 k)∧u.cell? ⟨g,1,none⟩=some (.string t)∧u.cell? ⟨g,2,none⟩=some (.int .i64 vk)∧u.cell? ⟨g,3,none⟩=some (.int .i64 vn)∧u.cell? ⟨g,4,none⟩=some (.string vs)∧u.cell? ⟨g,5,none⟩=some (.slice al ll cl)∧u.cell? ⟨g,6,none⟩=some (.slice ak lk ck)∧u.cell? ⟨g,7,none⟩=some (.bool f)∧u.cell? ⟨g,8,none⟩=some (.slice a n cc)∧u.cell? ⟨g,9,none⟩=some (.int .i64 p))∧u.cell? ⟨g+1,0,none⟩=some (.int .i64 k)∧u.cell? ⟨g+1,1,none⟩=some (.string t)∧u.cell? ⟨g+1,2,none⟩=some (.int .i64 vk')∧u.cell? ⟨g+1,3,none⟩=some (.int .i64 vn')∧u.cell? ⟨g+1,4,none⟩=some (.string vs')∧u.cell? ⟨g+1,5,none⟩=some (.slice al' ll' cl')∧u.cell? ⟨g+1,6,none⟩=some (.slice ak' lk' ck')∧u.cell? ⟨g+1,7,none⟩=some (.bool f)∧u.cell? ⟨g+1,8,none⟩=some (.slice a' n cc')∧u.cell? ⟨g+1,9,none⟩=some (.int .i64 p)):=hZ (fun u hu=>⟨row_ten (TW.later hu).1,row_ten (TW.later hu).2⟩)
 have HN:=hZ hn
 have HS0:Hid (Below w2.heap.size w2 w2):=hZ (Below.refl _ _)
 have HW:=hZ hw2
 clear TW hx hx' hr hr' hn hB hv hv' hw2
 go_enter Tryz.func11,Tryz.ntmps11
 obtain⟨⟨x0,x1,x2,x3,x4,x5,x6,x7,x8,x9⟩,⟨y0,y1,y2,y3,y4,y5,y6,y7,y8,y9⟩⟩:=uZ HF w2 (uZ HS0)
 have CS:=hZ (slim_any B ⟨k,t,v,f,ks,p⟩ _ w2 ((uZ HM) w2 (uZ HS0)).2.2.2.2.1 ((uZ HM) w2 (uZ HS0)).2.1)
 obtain⟨q,hq⟩:∃q,decide (cns [⟨k,t,v,f,ks,p⟩]≤40000)=q:=⟨_,rfl⟩
 rw [hq] at CS
 clear hq
 go_upto_region 1 with fail
 try rw [uZ HW]
 try rw [hg]
 clear HW
 go_wp2_with fail
 refine(uZ CS).mono ?_
 rintro e w3 ⟨rfl,bb⟩
 have HX3:=hZ bb
 clear bb CS x0 x1 x2 x3 x4 x5 x6 x7 x8 x9 y0 y1 y2 y3 y4 y5 y6 y7 y8 y9
 obtain⟨⟨x0,x1,x2,x3,x4,x5,x6,x7,x8,x9⟩,⟨y0,y1,y2,y3,y4,y5,y6,y7,y8,y9⟩⟩:=uZ HF w3 (uZ HX3)
 cases q with
 |false=>
  have hbz:=((uZ HM) w3 (uZ HX3)).2.2.2.2.2.1
  go_wp2_with fail
  go_ret
  exact⟨rfl,by first|exact hbz|(rw [hg];exact hbz)|(rw [←hg];exact hbz)⟩
 |true=>
  have CA:=hZ (stays_all _ ⟨k,t,v,f,ks,p⟩ _ _ B w3 (Nat.le_refl _) ((uZ HM) w3 (uZ HX3)).1 ((uZ HM) w3 (uZ HX3)).2.1 ((uZ HM) w3 (uZ HX3)).2.2.2.2.1)
  go_wp2_with fail
  refine(uZ CA).mono ?_
  rintro e w4 ⟨rfl,bb⟩
  have HX4:=hZ ((uZ HX3).trans (bb.mono (uZ HX3).size))
  clear bb CA x0 x1 x2 x3 x4 x5 x6 x7 x8 x9 y0 y1 y2 y3 y4 y5 y6 y7 y8 y9
  have hbz:=((uZ HM) w4 (uZ HX4)).2.2.2.2.2.1
  go_wp2_with fail
  go_ret
  exact⟨rfl,by first|exact hbz|(rw [hg];exact hbz)|(rw [←hg];exact hbz)⟩
end Go.Proofs.YtlkeaaopdnnceaaGreatDoor
