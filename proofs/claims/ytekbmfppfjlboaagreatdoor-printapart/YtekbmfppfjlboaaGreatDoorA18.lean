/-
  The walk of copied: a value in new memory, if it has few parts; conditions: the form's own reach.
  Layer 18 (print): how many parts a tree has: the law's nodes and slim; conditions: the nodes lie in memory.
  Layer 18 (print): a tree in new memory: a node that is being made, its kids put into its row one by one; no conditions.
-/
import Derived.Test.YtekbmfppfjlboaaGreatDoorA17
import Derived.Test.YtekbmfppfjlboaaGreatDoorA16
import Derived.Test.YtekbmfppfjlboaaGreatDoorA14
import Derived.Test.YtekbmfppfjlboaaGreatDoorA09
import Derived.Test.YtekbmfppfjlboaaGreatDoorA15
import Derived.Deep.AppendLies
set_option linter.unusedVariables false
set_option linter.unusedSimpArgs false
namespace Go.Proofs.YtekbmfppfjlboaaGreatDoor
open Go.RowKit
structure Two (w w2:World) (g:Nat) (T:TypeId) (x y:Array Value):Prop where
 at0:w2.heap[g]?=some (.cells x T (0,0))
 at1:w2.heap[g+1]?=some (.cells y T (0,0))
 size:w2.heap.size=g+2
 below:Below w.heap.size w w2
theorem Two.mk' (w:World) (T:TypeId) (x y:Array Value):Two w ((w.alloc (.cells x T)).alloc (.cells y T)) w.heap.size T x y:=by
 have h1:Below w.heap.size w ((w.alloc (.cells x T)).alloc (.cells y T)):=((Below.refl _ _).alloc (Nat.le_refl _) _).alloc (by simp) _
 refine⟨?_,?_,by simp,h1⟩
 ·have:=((Below.refl (w.alloc (.cells x T)).heap.size (w.alloc (.cells x T))).alloc (Nat.le_refl _) (.cells y T)).block w.heap.size (by simp)
  rw [this]
  exact heap_alloc_new w _
 ·have:=heap_alloc_new (w.alloc (.cells x T)) (.cells y T)
  simpa using this
theorem Two.later {w w2 u:World} {g:Nat} {T:TypeId} {x y:Array Value} (h:Two w w2 g T x y) (hb:Below w2.heap.size w2 u):u.heap[g]?=some (.cells x T (0,0))∧u.heap[g+1]?=some (.cells y T (0,0)):=by
 have:=h.size
 exact⟨(hb.block g (by omega)).trans h.at0,(hb.block (g+1) (by omega)).trans h.at1⟩
set_option maxRecDepth 100000 in
set_option maxHeartbeats 400000 in
theorem copied_two (v:Vl) (x:Value) (B:Nat) (w:World) (hv:IsV w B v x) (hBs:B≤w.heap.size) :
  Calls Tryz.prog 34 #[x] w fun e w'=>∃x',e=.returned x'∧IsV w' w'.heap.size v x'∧Below w.heap.size w w'∧(fewB v=true→IsQ w' (fun b=>w.heap.size≤b∧b<w'.heap.size) v x')∧(fewB v=false→x'=x):=by
 obtain⟨k,n,s,l,ks,al,ak,cl,ck,hvv,hx⟩:=hv.shape
 clear hvv
 obtain⟨m,hm⟩:∃m,ks.length=m:=⟨_,rfl⟩
 obtain⟨ln,hln⟩:∃ln,l.length=ln:=⟨_,rfl⟩
 rw [hm,hln] at hx
 subst hx
 have TW:=Two.mk' w 26 #[.int .i64 k,.int .i64 n,.string s,.slice al ln cl,.slice ak m ck] #[.int .i64 0,.int .i64 0,.string ⟨#[]⟩,.slice none 0 0,.slice none 0 0]
 obtain⟨w2,hw2⟩:∃w2,(w.alloc (.cells #[.int .i64 k,.int .i64 n,.string s,.slice al ln cl,.slice ak m ck] 26)).alloc (.cells #[.int .i64 0,.int .i64 0,.string ⟨#[]⟩,.slice none 0 0,.slice none 0 0] 26)=w2:=⟨_,rfl⟩
 rw [hw2] at TW
 obtain⟨g,hg⟩:∃g,w.heap.size=g:=⟨_,rfl⟩
 rw [hg] at TW
 have HT:Hid (∀u,Below w2.heap.size w2 u→u.heap[g]?=some (.cells #[.int .i64 k,.int .i64 n,.string s,.slice al ln cl,.slice ak m ck] 26 (0,0))∧u.heap[g+1]?=some (.cells #[.int .i64 0,.int .i64 0,.string ⟨#[]⟩,.slice none 0 0,.slice none 0 0] 26 (0,0))∧IsV u B v (.agg #[.int .i64 k,.int .i64 n,.string s,.slice al ln cl,.slice ak m ck])∧B≤u.heap.size∧Below w.heap.size w u∧g+2≤u.heap.size):=
  hide (fun u hu=>by
   have h1:Below w.heap.size w u:=TW.below.trans (hu.mono (by have:=TW.size;omega))
   have h2:=TW.size
   have h3:=hu.size
   exact⟨(TW.later hu).1,(TW.later hu).2,hv.mono (h1.mono hBs),by omega,h1,by omega⟩)
 obtain⟨c0,c1,c2,c3,c4⟩:=row_cell TW.at0
 have CF:=hide (few_any v _ B w2 (unhide HT w2 (Below.refl _ _)).2.2.1 (unhide HT w2 (Below.refl _ _)).2.2.2.1)
 clear TW hv hm hln
 cases hF:fewB v with
 |false=>
  rw [hF] at CF
  clear hF
  go_enter Tryz.func34,Tryz.ntmps34
  go_wp2_with fail
  refine(unhide CF).mono ?_
  rintro e u3 ⟨rfl,b3⟩
  have H3:=hide b3
  clear b3 CF c0 c1 c2 c3 c4
  obtain⟨c0,c1,c2,c3,c4⟩:=row_cell (unhide HT u3 (unhide H3)).1
  have ATX:=(unhide HT u3 (unhide H3)).2.1
  obtain⟨z0,z1,z2,z3,z4⟩:=row_cell ATX
  have fz:∀q,u3.frozen? ⟨g+1,q,none⟩=false:=fun q=>frozen_of_row u3 (g+1) q _ _ ATX
  have fz0:=fz 0
  have fz1:=fz 1
  have fz2:=fz 2
  have fz3:=fz 3
  have fz4:=fz 4
  have HAT:=hide ATX
  clear fz ATX
  go_wp2_with fail
  have ATX:=unhide HAT
  have BW:=(unhide HT u3 (unhide H3)).2.2.2.2.1
  have VV:=(unhide HT u3 (unhide H3)).2.2.1
  have BU:=(unhide HT u3 (unhide H3)).2.2.2.1
  have R9:=five_set u3 (g+1) 26 _ _ _ _ _ (.int .i64 k) (.int .i64 n) (.string s) (.slice al ln cl) (.slice ak m ck) ATX
  have O9:=five_other u3 (g+1) (x0:=.int .i64 k) (x1:=.int .i64 n) (x2:=.string s) (x3:=.slice al ln cl) (x4:=.slice ak m ck)
  have S9:(((((u3.setCell ⟨g+1,0,none⟩ (.int .i64 k)).setCell ⟨g+1,1,none⟩ (.int .i64 n)).setCell ⟨g+1,2,none⟩ (.string s)).setCell ⟨g+1,3,none⟩ (.slice al ln cl)).setCell ⟨g+1,4,none⟩ (.slice ak m ck)).heap.size=u3.heap.size:=by simp
  obtain⟨w9,hw9⟩:∃w9,(((((u3.setCell ⟨g+1,0,none⟩ (.int .i64 k)).setCell ⟨g+1,1,none⟩ (.int .i64 n)).setCell ⟨g+1,2,none⟩ (.string s)).setCell ⟨g+1,3,none⟩ (.slice al ln cl)).setCell ⟨g+1,4,none⟩ (.slice ak m ck))=w9:=⟨_,rfl⟩
  rw [hw9] at R9 S9 ⊢
  have B9:Below w.heap.size w w9:=by rw [←hw9];exact five_below BW (by omega) _ _ _ _ _
  obtain⟨r0,r1,r2,r3,r4⟩:=row_cell R9
  refine bodyPost_ret (v:=.agg #[.int .i64 k,.int .i64 n,.string s,.slice al ln cl,.slice ak m ck]) (by simp [results,Tryz.results34,go_sem,r0,r1,r2,r3,r4]) rfl ?_
  have V9:IsV w9 w9.heap.size v (.agg #[.int .i64 k,.int .i64 n,.string s,.slice al ln cl,.slice ak m ck]):=IsV.lift (by omega) (VV.mono (by rw [←hw9];exact five_below (Below.refl _ _) (by omega) _ _ _ _ _))
  first|exact⟨_,rfl,V9,B9,(fun h=>by cases h),fun _=>rfl⟩|(rw [hg] at B9;exact⟨_,rfl,V9,B9,(fun h=>by cases h),fun _=>rfl⟩)
 |true=>
  rw [hF] at CF
  have hcn:cnt v≤5000:=by unfold fewB at hF;exact of_decide_eq_true hF
  have CD:=fun u hu=>hide (deep_any (dep v) v _ B u (Nat.le_refl _) hcn (unhide HT u hu).2.2.1 (unhide HT u hu).2.2.2.1)
  clear hF hcn
  go_enter Tryz.func34,Tryz.ntmps34
  go_wp2_with fail
  refine(unhide CF).mono ?_
  rintro e u3 ⟨rfl,b3⟩
  have H3:=hide b3
  clear b3 CF c0 c1 c2 c3 c4
  obtain⟨c0,c1,c2,c3,c4⟩:=row_cell (unhide HT u3 (unhide H3)).1
  go_wp2_with fail
  refine(unhide (CD u3 (unhide H3))).mono ?_
  rintro e u4 ⟨x4,rfl,p4,b4⟩
  obtain⟨k4,n4,s4,l4,ks4,al4,ak4,cl4,ck4,hv4,rfl⟩:=p4.shape
  clear hv4
  obtain⟨lc,hlc⟩:∃lc,l4.length=lc:=⟨_,rfl⟩
  obtain⟨mc,hmc⟩:∃mc,ks4.length=mc:=⟨_,rfl⟩
  rw [hlc,hmc] at p4 ⊢
  have X4:=(unhide H3).trans (b4.mono (unhide H3).size)
  have H4:=hide (And.intro X4 (And.intro p4 b4.size))
  have ATX:=(unhide HT u4 X4).2.1
  obtain⟨z0,z1,z2,z3,z4⟩:=row_cell ATX
  have fz:∀q,u4.frozen? ⟨g+1,q,none⟩=false:=fun q=>frozen_of_row u4 (g+1) q _ _ ATX
  have fz0:=fz 0
  have fz1:=fz 1
  have fz2:=fz 2
  have fz3:=fz 3
  have fz4:=fz 4
  have HAT:=hide ATX
  clear fz ATX p4 b4 X4 CD hlc hmc c0 c1 c2 c3 c4
  go_wp2_with fail
  have ATX:=unhide HAT
  have BW:=(unhide HT u4 (unhide H4).1).2.2.2.2.1
  have g3:=(unhide HT u3 (unhide H3)).2.2.2.2.2
  have R9:=five_set u4 (g+1) 26 _ _ _ _ _ (.int .i64 k4) (.int .i64 n4) (.string s4) (.slice al4 lc cl4) (.slice ak4 mc ck4) ATX
  have O9:=five_other u4 (g+1) (x0:=.int .i64 k4) (x1:=.int .i64 n4) (x2:=.string s4) (x3:=.slice al4 lc cl4) (x4:=.slice ak4 mc ck4)
  have S9:(((((u4.setCell ⟨g+1,0,none⟩ (.int .i64 k4)).setCell ⟨g+1,1,none⟩ (.int .i64 n4)).setCell ⟨g+1,2,none⟩ (.string s4)).setCell ⟨g+1,3,none⟩ (.slice al4 lc cl4)).setCell ⟨g+1,4,none⟩ (.slice ak4 mc ck4)).heap.size=u4.heap.size:=by simp
  obtain⟨w9,hw9⟩:∃w9,(((((u4.setCell ⟨g+1,0,none⟩ (.int .i64 k4)).setCell ⟨g+1,1,none⟩ (.int .i64 n4)).setCell ⟨g+1,2,none⟩ (.string s4)).setCell ⟨g+1,3,none⟩ (.slice al4 lc cl4)).setCell ⟨g+1,4,none⟩ (.slice ak4 mc ck4))=w9:=⟨_,rfl⟩
  rw [hw9] at R9 S9 ⊢
  have B9:Below w.heap.size w w9:=by rw [←hw9];exact five_below BW (by omega) _ _ _ _ _
  obtain⟨r0,r1,r2,r3,r4⟩:=row_cell R9
  refine bodyPost_ret (v:=.agg #[.int .i64 k4,.int .i64 n4,.string s4,.slice al4 lc cl4,.slice ak4 mc ck4]) (by simp [results,Tryz.results34,go_sem,r0,r1,r2,r3,r4]) rfl ?_
  have V9:IsV w9 w9.heap.size v (.agg #[.int .i64 k4,.int .i64 n4,.string s4,.slice al4 lc cl4,.slice ak4 mc ck4]):=IsQ.isV (fun q hq=>by have:=hq.2;omega) ((unhide H4).2.1.move (fun q hq=>by rw [←hw9];exact O9 q (by have:=hq.1;omega)))
  have Q9:IsQ w9 (fun b=>w.heap.size≤b∧b<w9.heap.size) v (.agg #[.int .i64 k4,.int .i64 n4,.string s4,.slice al4 lc cl4,.slice ak4 mc ck4]):=((unhide H4).2.1.move (fun q hq=>by rw [←hw9];exact O9 q (by have:=hq.1;omega))).weak (fun q hq=>⟨by have:=hq.1;omega,by have:=hq.2;omega⟩)
  first|exact⟨_,rfl,V9,B9,(fun _=>Q9),fun h=>by cases h⟩|(rw [hg] at B9 Q9;exact⟨_,rfl,V9,B9,(fun _=>Q9),fun h=>by cases h⟩)
set_option linter.unusedVariables false
set_option linter.unusedSimpArgs false
theorem cvs_cnt:∀l:List Vl,cvs l=cntL l
 |[]=>by simp [cvs,cntL]
 |.mk k n s l ks :: r=>by simp only [cvs,cntL,cvs_cnt l,cvs_cnt r]
def NodAt (N:Nat):Prop:=∀(y:Tn) (x:List Value) (most B:Nat) (w:World),cns [y]≤N→IsN w (fun b=>b<B) y x→B≤w.heap.size→most≤40000 →
  Calls Tryz.prog 33 #[.agg x.toArray,.int .i64 (most:Int)] w fun e w'=>e=.returned (.int .i64 ((min (cns [y]) (most+1):Nat):Int))∧Below w.heap.size w w'
set_option maxRecDepth 100000 in
set_option maxHeartbeats 2000000 in
theorem NodAt_step (N:Nat) (ih:NodAt N):NodAt (N+1):=by
 intro y0 x most B w hN hx hB hmo
 obtain⟨vk,vn,vs,al,ak,a,ll,cl,lk,ck,cc,rfl,hv,hr,hbk,hbp⟩:=hx.opn
 obtain⟨k,t,v,f,ks,p⟩:=y0
 simp only at hv hr ⊢
 obtain⟨n,hn⟩:∃n,ks.length=n:=⟨_,rfl⟩
 simp only [hn]
 have hc1:cns [⟨k,t,v,f,ks,p⟩]=1+cvs v.l+cns ks:=cns_one _
 have hsub:∀z∈ks,cns [z]≤N:=fun z hz=>by
  have h1:=cns_mem ks z hz
  omega
 have hnb:n≤140737488351232:=by rw [←hn];exact hr.len
 obtain⟨w1,hw1⟩:∃w1,w.alloc (.cells #[.int .i64 k,.string t,.int .i64 vk,.int .i64 vn,.string vs,.slice al ll cl,.slice ak lk ck,.bool f,.slice a n cc,.int .i64 p] 28)=w1:=⟨_,rfl⟩
 obtain⟨G,hG⟩:∃G,w.heap.size=G:=⟨_,rfl⟩
 have A1:w1.heap[G]?=some (.cells #[.int .i64 k,.string t,.int .i64 vk,.int .i64 vn,.string vs,.slice al ll cl,.slice ak lk ck,.bool f,.slice a n cc,.int .i64 p] 28 (0,0)):=by rw [←hw1,←hG];exact heap_alloc_new _ _
 have X1:Below G w w1:=by rw [←hw1,←hG];exact(Below.refl _ _).alloc (Nat.le_refl _) _
 have hBG:B≤G:=by rw [←hG];exact hB
 have CM:=hide (many_any (dep v) v (.agg #[.int .i64 vk,.int .i64 vn,.string vs,.slice al ll cl,.slice ak lk ck]) most B w1 (Nat.le_refl _) (hv.mono (X1.mono hBG)) (Nat.le_trans hBG (Nat.le_of_lt (lt_of_row A1))) hmo)
 have hcv:cnt v=1+cvs v.l:=by obtain⟨k',n',s',l',ks'⟩:=v;simp only [cnt,cvs_cnt]
 obtain⟨c,hcc⟩:∃c,cvs v.l=c:=⟨_,rfl⟩
 rw [hcv,hcc] at CM
 rw [hcc] at hc1
 obtain⟨K0,hK0⟩:∃K0,min (1+c) (most+1)=K0:=⟨_,rfl⟩
 rw [hK0] at CM
 obtain⟨R,hR⟩:∃R,min (cns [⟨k,t,v,f,ks,p⟩]) (most+1)=R:=⟨_,rfl⟩
 rw [hR]
 have hR2:min (1+c+cns ks) (most+1)=R:=by rw [←hR,hc1]
 have HR:=hide hR2
 have HM:Hid (∀u,Below w1.heap.size w1 u→RowN u B ks a cc∧Below G w u∧B≤u.heap.size):=hide (fun u h=>by
  have h2:=X1.trans (h.mono (Nat.le_of_lt (lt_of_row A1)))
  exact⟨hr.later (h2.mono hBG),h2,Nat.le_trans hBG (by rw [←hG];exact h2.size)⟩)
 have HA:=hide A1
 have HS:=hide (And.intro hn hsub)
 have HW:=hide hw1
 obtain⟨x0,x1,x2,x3,x4,x5,x6,x7,x8,x9⟩:=row_ten A1
 have hK1:1≤K0∧K0≤most+1:=by omega
 have HK0:=hide hK0
 clear A1 X1 hw1 hBG hB hr hv hx hn hsub hcv hcc hc1 hR hR2 hN hbk hbp hK0
 go_enter Tryz.func33,Tryz.ntmps33
 go_upto_region 1 with fail
 rw [unhide HW]
 try rw [hG]
 clear HW
 go_wp2_with fail
 refine(unhide CM).mono ?_
 rintro e w2 ⟨rfl,b2⟩
 have H2:=hide b2
 clear b2 CM x0 x1 x2 x3 x4 x5 x6 x7 x8 x9
 go_wp2_with fail
 go_loopw [5,6] (fun yv x wr=>∃(i K:Nat),i≤n∧K≤most+1∧x=.int .i64 i∧yv=.int .i64 (K:Int)∧Hid (Below w1.heap.size w1 wr)∧Hid (K=min (1+c+kcnt ks i) (most+1))) (fun _ x _=>n - (intOf x).toNat)
 case atStart=>exact⟨0,K0,Nat.zero_le _,hK1.2,rfl,rfl,H2,hide (by rw [kcnt_zero];exact(unhide HK0).symm)⟩
 case round=>
  obtain⟨i,K,hi,hKm,rfl,rfl,HX,HK⟩:=hrel
  obtain⟨x0,x1,x2,x3,x4,x5,x6,x7,x8,x9⟩:=row_ten (Below.cellsAt (unhide HX) (unhide HA))
  by_cases hlt:i<n
  ·have i1:(i:Int)<(n:Int):=by omega
   by_cases hNm:K≤most
   ·have n1:(K:Int)≤(most:Int):=by omega
    obtain⟨y,hy⟩:∃y,ks[i]?=some y:=⟨_,List.getElem?_eq_getElem (by have:=(unhide HS).1;omega)⟩
    obtain⟨b,vky,vny,vsy,aly,aky,ay,lly,cly,lky,cky,ny,ccy,rfl,hcy,hby,hny,hzy,hcelly⟩:=((unhide HM) wr (unhide HX)).1.ten hy
    have e0:wr.cell? (b.add (i * 10))=some (.int .i64 y.k):=hcelly 0 _ rfl
    have e1:wr.cell? ⟨(b.add (i * 10)).block,(b.add (i * 10)).off+1,none⟩=some (.string y.t):=hcelly 1 _ rfl
    have e2:wr.cell? ⟨(b.add (i * 10)).block,(b.add (i * 10)).off+2,none⟩=some (.int .i64 vky):=hcelly 2 _ rfl
    have e3:wr.cell? ⟨(b.add (i * 10)).block,(b.add (i * 10)).off+3,none⟩=some (.int .i64 vny):=hcelly 3 _ rfl
    have e4:wr.cell? ⟨(b.add (i * 10)).block,(b.add (i * 10)).off+4,none⟩=some (.string vsy):=hcelly 4 _ rfl
    have e5:wr.cell? ⟨(b.add (i * 10)).block,(b.add (i * 10)).off+5,none⟩=some (.slice aly lly cly):=hcelly 5 _ rfl
    have e6:wr.cell? ⟨(b.add (i * 10)).block,(b.add (i * 10)).off+6,none⟩=some (.slice aky lky cky):=hcelly 6 _ rfl
    have e7:wr.cell? ⟨(b.add (i * 10)).block,(b.add (i * 10)).off+7,none⟩=some (.bool y.f):=hcelly 7 _ rfl
    have e8:wr.cell? ⟨(b.add (i * 10)).block,(b.add (i * 10)).off+8,none⟩=some (.slice ay ny ccy):=hcelly 8 _ rfl
    have e9:wr.cell? ⟨(b.add (i * 10)).block,(b.add (i * 10)).off+9,none⟩=some (.int .i64 y.p):=hcelly 9 _ rfl
    obtain⟨D,hD⟩:∃D,most - K=D:=⟨_,rfl⟩
    have d1:(most:Int) - (K:Int)=(D:Int):=by omega
    have d2:IntKind.i64.wrap (D:Int)=(D:Int):=by rw [IntKind.wrap_i64];omega
    have CI:=hide (ih y _ D B wr ((unhide HS).2 y (List.mem_of_getElem? hy)) hzy ((unhide HM) wr (unhide HX)).2.2 (by omega))
    obtain⟨C,hC⟩:∃C,min (cns [y]) (D+1)=C:=⟨_,rfl⟩
    rw [hC] at CI
    have hup:=kcnt_up ks i y hy
    have HK2:Hid (K+C=min (1+c+kcnt ks (i+1)) (most+1)):=hide (by have h2:=unhide HK;omega)
    have HI1:Hid (i+1≤n):=hide (by omega)
    have hKC:K+C≤most+1:=by omega
    obtain⟨KC,hKCe⟩:∃KC,K+C=KC:=⟨_,rfl⟩
    rw [hKCe] at HK2 hKC
    have d3:(K:Int)+(C:Int)=(KC:Int):=by omega
    have d4:IntKind.i64.wrap (KC:Int)=(KC:Int):=by rw [IntKind.wrap_i64];omega
    clear hy hcy hby hny hzy hcelly hD hC hup hKCe HK
    go_wp2_with fail
    refine(unhide CI).mono ?_
    rintro e w5 ⟨rfl,b5⟩
    have HX5:Hid (Below w1.heap.size w1 w5):=hide ((unhide HX).trans (b5.mono (unhide HX).size))
    clear b5 CI x0 x1 x2 x3 x4 x5 x6 x7 x8 x9 e0 e1 e2 e3 e4 e5 e6 e7 e8 e9
    go_wp2_with fail
    go_roundw
    case rel=>exact⟨i+1,KC,unhide HI1,hKC,by go_num,rfl,HX5,HK2⟩
    case measure=>have:=unhide HI1;simp [intOf];omega
   ·have n1:¬(K:Int)≤(most:Int):=by omega
    have HG:Hid (R=K):=hide (by
     have h1:=kcnt_mono ks i
     have h2:=unhide HK
     have h3:=unhide HR
     omega)
    have hb:=((unhide HM) wr (unhide HX)).2.1
    have HB:=hide hb
    clear hb
    go_wp2_with fail
    go_ret
    exact⟨by rw [unhide HG] <;> rfl,by first|exact unhide HB|(rw [hG];exact unhide HB)⟩
  ·have i1:¬(i:Int)<(n:Int):=by omega
   have HG:Hid (R=K):=hide (by
    have h2:=unhide HK
    have h3:=unhide HR
    have h4:kcnt ks i=cns ks:=by rw [show i=ks.length by have:=(unhide HS).1;omega];exact kcnt_all ks
    rw [h4] at h2
    omega)
   have hb:=((unhide HM) wr (unhide HX)).2.1
   have HB:=hide hb
   clear hb
   go_wp2_with fail
   go_ret
   exact⟨by rw [unhide HG] <;> rfl,by first|exact unhide HB|(rw [hG];exact unhide HB)⟩
theorem NodAt_all:∀N,NodAt N
 |0=>fun y x most B w hN=>by rw [cns_one] at hN;omega
 |N+1=>NodAt_step N (NodAt_all N)
set_option maxRecDepth 100000 in
set_option maxHeartbeats 1000000 in
theorem slim_any (B0:Nat) (y:Tn) (x:List Value) (w:World) (hB:B0≤w.heap.size) (hx:IsN w (fun b=>b<B0) y x):Calls Tryz.prog 17 #[.agg x.toArray] w fun e w'=>e=.returned (.bool (decide (cns [y]≤40000)))∧Below w.heap.size w w':=by
 have hx0:=hx
 obtain⟨vk,vn,vs,al,ak,a,ll,cl,lk,ck,cc,rfl,_⟩:=hx.shape
 obtain⟨k,t,v,f,ks,p⟩:=y
 obtain⟨n,hn⟩:∃n,ks.length=n:=⟨_,rfl⟩
 simp only [hn] at hx0 ⊢
 obtain⟨w1,hw1⟩:∃w1,w.alloc (.cells #[.int .i64 k,.string t,.int .i64 vk,.int .i64 vn,.string vs,.slice al ll cl,.slice ak lk ck,.bool f,.slice a n cc,.int .i64 p] 28)=w1:=⟨_,rfl⟩
 obtain⟨G,hG⟩:∃G,w.heap.size=G:=⟨_,rfl⟩
 have A1:w1.heap[G]?=some (.cells #[.int .i64 k,.string t,.int .i64 vk,.int .i64 vn,.string vs,.slice al ll cl,.slice ak lk ck,.bool f,.slice a n cc,.int .i64 p] 28 (0,0)):=by rw [←hw1,←hG];exact heap_alloc_new _ _
 have X1:Below G w w1:=by rw [←hw1,←hG];exact(Below.refl _ _).alloc (Nat.le_refl _) _
 have CM:=hide (NodAt_all _ ⟨k,t,v,f,ks,p⟩ _ 40000 B0 w1 (Nat.le_refl _) (hx0.laterB (X1.mono (by rw [←hG];exact hB))) (Nat.le_trans hB (by have:=X1.size;exact this)) (by decide))
 obtain⟨C,hC⟩:∃C,min (cns [⟨k,t,v,f,ks,p⟩]) (40000+1)=C:=⟨_,rfl⟩
 rw [hC] at CM
 have HRB:Hid (decide ((C:Int)≤40000)=decide (cns [⟨k,t,v,f,ks,p⟩]≤40000)):=hide (by rw [decide_eq_decide];omega)
 obtain⟨x0,x1,x2,x3,x4,x5,x6,x7,x8,x9⟩:=row_ten A1
 have HX:=hide X1
 have HW:=hide hw1
 have HGs:=hide (Nat.le_of_lt (lt_of_row A1))
 clear A1 X1 hw1 hx hx0 hn hC
 go_enter Tryz.func17,Tryz.ntmps17
 go_upto_region 1 with fail
 rw [unhide HW]
 try rw [hG]
 clear HW
 go_wp2_with fail
 refine(unhide CM).mono ?_
 rintro e w2 ⟨rfl,b2⟩
 have H2:=hide ((unhide HX).trans (b2.mono (unhide HGs)))
 clear b2 CM x0 x1 x2 x3 x4 x5 x6 x7 x8 x9
 go_wp2_with fail
 go_ret
 exact⟨by rw [←unhide HRB];rfl,by first|exact unhide H2|(rw [hG];exact unhide H2)⟩
theorem own_lat {w w':World} {base size n:Nat} {e:TypeId} {v:Value} {xs:List Value} (h:w.ownsRow base e size v n xs) (hb:Below w.heap.size w w'):w'.ownsRow base e size v n xs:=
 ⟨h.1,h.2.imp id (fun ⟨g,cap,cur,a,b,c,r⟩=>⟨g,cap,cur,a,b,Below.cellsAt hb c,r⟩)⟩
theorem own_set {w:World} {base size n q c:Nat} {e:TypeId} {v x:Value} {xs:List Value} (h:w.ownsRow base e size v n xs) (hq:q<base):(w.setCell ⟨q,c,none⟩ x).ownsRow base e size v n xs:=
 ⟨h.1,h.2.imp id (fun ⟨g,cap,cur,a,b,c',r⟩=>⟨g,cap,cur,a,b,by rw [heap_setCell_other _ _ _ _ (by simp;omega)];exact c',r⟩)⟩
theorem own_blk {w:World} {base size n b:Nat} {e:TypeId} {v:Value} {xs:List Value} (h:w.ownsRow base e size v n xs) (hb:v.ownBlock=some b):base≤b∧b<w.heap.size:=by
 rcases h.2 with ⟨rfl,_⟩|⟨g,cap,cur,rfl,h1,h2,_⟩
 ·cases hb
 ·obtain rfl:g=b:=by simpa [Value.ownBlock] using hb
  exact⟨h1,(Array.getElem?_eq_some_iff.1 h2).1⟩
def PB (n B G H:Nat) (sv:Value) (b:Nat):Prop:=b<B∨(G+2≤b∧b<n∧b≠H∧sv.ownBlock≠some b)
structure Tw (w u:World) (B G H:Nat) (NB:Array Value) (k vk vn p:Int) (t vs:ByteArray) (al ak:Option Addr) (ll cl lk ck:Nat) (f:Bool) (v:Vl) (sv:Value) (i:Nat) (ks:List Tn) (C:Nat→List Value):Prop where
 below:Below G w u
 bg:B≤G
 nb:u.heap[G]?=some (.cells NB 28 (0,0))
 zb:u.heap[G+1]?=some (.cells #[.int .i64 0,.string ⟨#[]⟩,.int .i64 0,.int .i64 0,.string ⟨#[]⟩,.slice none 0 0,.slice none 0 0,.bool false,.slice none 0 0,.int .i64 0] 28 (0,0))
 gh:G+2≤H
 hb:u.heap[H]?=some (.cells #[.int .i64 k,.string t,.int .i64 vk,.int .i64 vn,.string vs,.slice al ll cl,.slice ak lk ck,.bool f,sv,.int .i64 p] 28 (0,0))
 val:IsP u (PB u.heap.size B G H sv) v (.agg #[.int .i64 vk,.int .i64 vn,.string vs,.slice al ll cl,.slice ak lk ck])
 own:u.ownsRow (H+1) 28 10 sv i (flat C i)
 kid:∀j z,j<i→ks[j]?=some z→IsN u (PB u.heap.size B G H sv) z (C j)∧(C j).length=10
theorem Tw.lt {w u:World} {B G H:Nat} {NB:Array Value} {k vk vn p:Int} {t vs:ByteArray} {al ak:Option Addr} {ll cl lk ck:Nat} {f:Bool} {v:Vl} {sv:Value} {i:Nat} {ks:List Tn} {C:Nat→List Value} (h:Tw w u B G H NB k vk vn p t vs al ak ll cl lk ck f v sv i ks C):H<u.heap.size:=(Array.getElem?_eq_some_iff.1 h.hb).1
theorem Tw.blk {w u:World} {B G H:Nat} {NB:Array Value} {k vk vn p:Int} {t vs:ByteArray} {al ak:Option Addr} {ll cl lk ck:Nat} {f:Bool} {v:Vl} {sv:Value} {i:Nat} {ks:List Tn} {C:Nat→List Value} (h:Tw w u B G H NB k vk vn p t vs al ak ll cl lk ck f v sv i ks C) {b:Nat} (hb:sv.ownBlock=some b):H+1≤b∧b<u.heap.size:=own_blk h.own hb
theorem Tw.later {w u:World} {B G H:Nat} {NB:Array Value} {k vk vn p:Int} {t vs:ByteArray} {al ak:Option Addr} {ll cl lk ck:Nat} {f:Bool} {v:Vl} {sv:Value} {i:Nat} {ks:List Tn} {C:Nat→List Value} {u':World} (h:Tw w u B G H NB k vk vn p t vs al ak ll cl lk ck f v sv i ks C) (hb:Below u.heap.size u u'):Tw w u' B G H NB k vk vn p t vs al ak ll cl lk ck f v sv i ks C:=by
 have hl:=h.lt
 have hgh:=h.gh
 have hbg:=h.bg
 have up:∀b,PB u.heap.size B G H sv b→PB u'.heap.size B G H sv b:=fun b h=>h.imp id (fun ⟨a,c,d,e⟩=>⟨a,Nat.lt_of_lt_of_le c hb.size,d,e⟩)
 have kp:∀b,PB u.heap.size B G H sv b→u'.heap[b]?=u.heap[b]?:=fun b h=>hb.block b (by rcases h with h|h <;> omega)
 exact⟨h.below.trans (hb.mono (by omega)),h.bg,Below.cellsAt hb h.nb,Below.cellsAt hb h.zb,h.gh,Below.cellsAt hb h.hb,h.val.to kp up,own_lat h.own hb,fun j z hj hz=>⟨IsN.to kp up (h.kid j z hj hz).1,(h.kid j z hj hz).2⟩⟩
theorem Tw.row {w u:World} {B G H:Nat} {NB:Array Value} {k vk vn p:Int} {t vs:ByteArray} {al ak:Option Addr} {ll cl lk ck:Nat} {f:Bool} {v:Vl} {sv:Value} {i:Nat} {ks:List Tn} {C:Nat→List Value} {u':World} {q cap:Nat} (h:Tw w u B G H NB k vk vn p t vs al ak ll cl lk ck f v (.slice none 0 0) 0 ks C) (hg:u.grownBy u' none) (ho:u'.ownsRow (H+1) 28 10 (.slice (some ⟨q,0,none⟩) 0 cap) 0 []) (hq:q=u.heap.size):Tw w (u'.setCell ⟨H,8,none⟩ (.slice (some ⟨q,0,none⟩) 0 cap)) B G H NB k vk vn p t vs al ak ll cl lk ck f v (.slice (some ⟨q,0,none⟩) 0 cap) 0 ks C:=by
 have hb:Below u.heap.size u u':=⟨hg.os,hg.tape,hg.output,hg.size,fun k hk=>hg.block k hk (by simp)⟩
 have h1:=h.later hb
 have hl:=h.lt
 have hgh:=h.gh
 have hbg:=h.bg
 have hs:(u'.setCell ⟨H,8,none⟩ (.slice (some ⟨q,0,none⟩) 0 cap)).heap.size=u'.heap.size:=by simp
 have up:∀b,PB u.heap.size B G H (.slice none 0 0) b→PB (u'.setCell ⟨H,8,none⟩ (.slice (some ⟨q,0,none⟩) 0 cap)).heap.size B G H (.slice (some ⟨q,0,none⟩) 0 cap) b:=fun b h=>h.imp id (fun ⟨a,c,d,e⟩=>⟨a,by rw [hs];exact Nat.lt_of_lt_of_le c hb.size,d,by simp [Value.ownBlock];omega⟩)
 have kp:∀b,PB u.heap.size B G H (.slice none 0 0) b→(u'.setCell ⟨H,8,none⟩ (.slice (some ⟨q,0,none⟩) 0 cap)).heap[b]?=u.heap[b]?:=fun b h=>by
  rw [heap_setCell_other _ _ _ _ (by rcases h with h|h <;> simp <;> omega)]
  exact hb.block b (by rcases h with h|h <;> omega)
 refine⟨h1.below.setCell (p:=⟨H,8,none⟩) (by show G≤H;omega) _,h.bg,?_,?_,h.gh,?_,h.val.to kp up,own_set ho (by omega),fun j z hj=>by omega⟩
 ·rw [heap_setCell_other _ _ _ _ (by simp;omega)];exact h1.nb
 ·rw [heap_setCell_other _ _ _ _ (by simp;omega)];exact h1.zb
 ·rw [heap_setCell_same u' H 8 _ _ _ h1.hb];rfl
theorem Tw.push {w u:World} {B G H:Nat} {NB:Array Value} {k vk vn p:Int} {t vs:ByteArray} {al ak:Option Addr} {ll cl lk ck:Nat} {f:Bool} {v:Vl} {sv:Value} {i:Nat} {ks:List Tn} {C:Nat→List Value} {u5 u6 u7:World} {z:Tn} {x5:List Value} {g7 cap:Nat} (h:Tw w u B G H NB k vk vn p t vs al ak ll cl lk ck f v sv i ks C) (hz:ks[i]?=some z) (h5:Below u.heap.size u u5) (hk:IsN u5 (fun b=>b<B∨(u.heap.size≤b∧b<u5.heap.size)) z x5) (hx:x5.length=10) (h6:Below u5.heap.size u5 u6)
  (hg:u6.grownBy u7 sv.ownBlock) (ho:u7.ownsRow (H+1) 28 10 (.slice (some ⟨g7,0,none⟩) (i+1) cap) (i+1) (flat C i++x5)) (hat:sv.ownBlock=some g7∨g7=u6.heap.size) :
  Tw w (u7.setCell ⟨H,8,none⟩ (.slice (some ⟨g7,0,none⟩) (i+1) cap)) B G H NB k vk vn p t vs al ak ll cl lk ck f v (.slice (some ⟨g7,0,none⟩) (i+1) cap) (i+1) ks (setV C i x5):=by
 have h56:Below u.heap.size u u6:=h5.trans (h6.mono h5.size)
 have h1:=h.later h56
 have hl:=h.lt
 have hgh:=h.gh
 have hbg:=h.bg
 have hbl:∀b,sv.ownBlock=some b→H+1≤b∧b<u.heap.size:=fun b hb=>h.blk hb
 have hs6:=h56.size
 have hs:(u7.setCell ⟨H,8,none⟩ (.slice (some ⟨g7,0,none⟩) (i+1) cap)).heap.size=u7.heap.size:=by simp
 have hs7:=hg.size
 have near:∀q,q≤H→some q≠sv.ownBlock:=fun q hq e=>by have:=(hbl q e.symm).1;omega
 have up:∀b,PB u6.heap.size B G H sv b→PB (u7.setCell ⟨H,8,none⟩ (.slice (some ⟨g7,0,none⟩) (i+1) cap)).heap.size B G H (.slice (some ⟨g7,0,none⟩) (i+1) cap) b:=fun b h=>h.imp id (fun ⟨a,c,d,e⟩=>⟨a,by rw [hs];omega,d,by
  simp only [Value.ownBlock,ne_eq,Option.some.injEq]
  rintro rfl
  rcases hat with q|q
  ·exact e q
  ·omega⟩)
 have kp:∀b,PB u6.heap.size B G H sv b→(u7.setCell ⟨H,8,none⟩ (.slice (some ⟨g7,0,none⟩) (i+1) cap)).heap[b]?=u6.heap[b]?:=fun b h=>by
  rw [heap_setCell_other _ _ _ _ (by rcases h with h|h <;> simp <;> omega)]
  refine hg.block b (by rcases h with h|h <;> omega) ?_
  rcases h with h|h
  ·exact near b (by omega)
  ·exact fun e=>h.2.2.2 e.symm
 have b7:Below G w u7:=by
  refine⟨hg.os.trans h1.below.os,hg.tape.trans h1.below.tape,hg.output.trans h1.below.output,Nat.le_trans h1.below.size hg.size,fun q hq=>(hg.block q (by omega) (near q (by omega))).trans (h1.below.block q hq)⟩
 refine⟨b7.setCell (p:=⟨H,8,none⟩) (by show G≤H;omega) _,h.bg,?_,?_,h.gh,?_,h1.val.to kp up,?_,fun j y hj hy=>?_⟩
 ·rw [heap_setCell_other _ _ _ _ (by simp;omega),hg.block G (by omega) (near G (by omega))];exact h1.nb
 ·rw [heap_setCell_other _ _ _ _ (by simp;omega),hg.block (G+1) (by omega) (near (G+1) (by omega))];exact h1.zb
 ·have e:u7.heap[H]?=_:=(hg.block H (by omega) (near H (Nat.le_refl _))).trans h1.hb
  rw [heap_setCell_same u7 H 8 _ _ _ e];rfl
 ·rw [flat_set];exact own_set ho (by omega)
 ·by_cases hji:j<i
  ·rw [setV_other C i x5 hji]
   exact⟨IsN.to kp up (h1.kid j y hji hy).1,(h1.kid j y hji hy).2⟩
  ·obtain rfl:j=i:=by omega
   rw [hz] at hy
   obtain rfl:=Option.some.inj hy
   rw [setV_same]
   refine⟨IsN.to (fun b hb=>?_) (fun b hb=>?_) hk,hx⟩
   ·have hb6:PB u6.heap.size B G H sv b:=hb.imp id (fun ⟨a,c⟩=>⟨by omega,Nat.lt_of_lt_of_le c h6.size,by omega,fun e=>by have:=(hbl b e).2;omega⟩)
    rw [kp b hb6]
    exact h6.block b (hb.elim (fun hb=>by have:=h5.size;omega) (fun hb=>hb.2))
   ·exact up b (hb.imp id (fun ⟨a,c⟩=>⟨by omega,Nat.lt_of_lt_of_le c h6.size,by omega,fun e=>by have:=(hbl b e).2;omega⟩))
theorem flat10_len (V:Nat→List Value):∀i,(∀j,j<i→(V j).length=10)→(flat V i).length=i * 10
 |0,_=>rfl
 |i+1,h=>by
  simp only [flat,List.length_append]
  rw [flat10_len V i (fun j hj=>h j (by omega)),h i (by omega)]
  omega
theorem flat10_at (V:Nat→List Value):∀i,(∀j,j<i→(V j).length=10)→∀j,j<i→∀c v,(V j)[c]?=some v→(flat V i)[j * 10+c]?=some v
 |0,_,j,hj,_,_,_=>by omega
 |i+1,h,j,hj,c,v,hc=>by
  have hl:=flat10_len V i (fun j hj=>h j (by omega))
  have h5:c<10:=by
   have:=(List.getElem?_eq_some_iff.1 hc).1
   rw [h j hj] at this
   exact this
  simp only [flat]
  by_cases hji:j<i
  ·rw [List.getElem?_append_left (by omega)]
   exact flat10_at V i (fun j hj=>h j (by omega)) j hji c v hc
  ·obtain rfl:j=i:=by omega
   rw [List.getElem?_append_right (by omega),hl]
   rw [show j * 10+c - j * 10=c by omega]
   exact hc
theorem Tw.made {w u:World} {B G H:Nat} {NB:Array Value} {k vk vn p:Int} {t vs:ByteArray} {al ak:Option Addr} {ll cl lk ck:Nat} {f:Bool} {v:Vl} {sv:Value} {i:Nat} {ks:List Tn} {C:Nat→List Value} {n cc:Nat} {a:Option Addr} (h:Tw w u B G H NB k vk vn p t vs al ak ll cl lk ck f v (.slice a n cc) n ks C) (hn:ks.length=n) (hw:w.heap.size=G) (hb1:-9223372036854775808≤k∧k≤9223372036854775807) (hb2:-9223372036854775808≤p∧p≤9223372036854775807) (hb3:t.size≤140737488351232) (hb4:n≤140737488351232) :
  IsN u (fun b=>b<B∨(G+2≤b∧b<u.heap.size∧b≠H)) ⟨k,t,v,f,ks,p⟩ [.int .i64 k,.string t,.int .i64 vk,.int .i64 vn,.string vs,.slice al ll cl,.slice ak lk ck,.bool f,.slice a n cc,.int .i64 p]:=by
 have wk:∀b,PB u.heap.size B G H (.slice a n cc) b→(b<B∨(G+2≤b∧b<u.heap.size∧b≠H)):=fun b h=>h.imp id (fun ⟨a,c,d,_⟩=>⟨a,c,d⟩)
 have hk:=h.kid
 have hlen:∀j,j<n→(C j).length=10:=fun j hj=>(hk j ks[j] hj (List.getElem?_eq_getElem (by omega))).2
 refine⟨[.int .i64 vk,.int .i64 vn,.string vs,.slice al ll cl,.slice ak lk ck],a,cc,C,by simp only [tnV,hn];rfl,rfl,h.val.to (fun _ _=>rfl) wk,?_,(IsNs_iff u _ _ _).2 (fun j y hy=>IsN.to (fun _ _=>rfl) wk (hk j y (by have:=(List.getElem?_eq_some_iff.1 hy).1;simp only at this;omega) hy).1)⟩
 rcases h.own.2 with ⟨e,hn0⟩|⟨g,cap,cur,e,hbg,hg,hnc,hcm,hsz,htk⟩
 ·cases e
  exact⟨hb1,hb2,hb3,fun _=>⟨hn,rfl⟩,by simp only [hn];exact Nat.le_refl _,by simp only [hn];omega,(fun x hx=>by cases hx),(fun j hj=>by simp only [hn] at hj;omega)⟩
 ·simp only [Value.slice.injEq] at e
  obtain⟨rfl,_,rfl⟩:=e
  have hgl:=(Array.getElem?_eq_some_iff.1 hg).1
  have hgh:=h.gh
  refine⟨hb1,hb2,hb3,(fun e=>by cases e),by simp only [hn];exact hnc,by simp only [hn];exact hb4,fun x hx j hj=>?_,fun j hj=>hlen j (by simp only [hn] at hj;omega)⟩
  obtain rfl:=Option.some.inj hx
  simp only [hn] at hj
  refine⟨?_,fun c y hc=>?_⟩
  ·have hq:g<B∨(G+2≤g∧g<u.heap.size∧g≠H):=Or.inr ⟨by omega,hgl,by omega⟩
   exact hq
  ·have ha:((⟨g,0,none⟩:Addr).add (j * 10)).add c=⟨g,j * 10+c,none⟩:=by
    have aa:∀o m:Nat,(⟨g,o,none⟩:Addr).add m=⟨g,o+m,none⟩:=fun o m=>by unfold Addr.add;split <;> simp_all
    rw [aa,aa,Nat.zero_add]
   rw [ha,cell_of_row u g (j * 10+c) _ _ (0,0) hg]
   have h1:=flat10_at C n hlen j hj c y hc
   rw [←htk] at h1
   rw [List.getElem?_take] at h1
   split at h1
   ·simpa using h1
   ·cases h1
end Go.Proofs.YtekbmfppfjlboaaGreatDoor
