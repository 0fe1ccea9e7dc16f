/-
  The walks of many and few: how many parts a value has; no conditions but the form's own reach.
  how many parts a tree has: the law's nodes and slim.
  The walk of the document's values (how many parts a value has); no conditions but the form's own reach.
  how many parts a tree has: the document's parts and fits.
  Conditions: where nodes are told of, they lie in memory.
-/
import Derived.Test.YtlkeaaopdnnceaaGreatDoorA14
import Derived.Test.YtlkeaaopdnnceaaGreatDoorA12
import Derived.Test.YtlkeaaopdnnceaaGreatDoorA07
set_option linter.unusedVariables false
set_option linter.unusedSimpArgs false
set_option maxRecDepth 100000
set_option maxHeartbeats 8000000
namespace Go.Proofs.YtlkeaaopdnnceaaGreatDoor
open Go.RowKit
def ManyAt (b:Nat):Prop:=∀(v:Vl) (x:Value) (most B:Nat) (w:World),dep v≤b→IsV w B v x→B≤w.heap.size→most≤40000 →
  Calls Tryz.prog 64 #[x,.int .i64 (most:Int)] w fun e w'=>e=.returned (.int .i64 ((min (cnt v) (most+1):Nat):Int))∧Below w.heap.size w w'
theorem many_zero:ManyAt 0:=by
 intro v x most B w h
 have:=dep_pos v
 omega
theorem many_step (b:Nat) (ih:ManyAt b):ManyAt (b+1):=by
 intro v x most B w hd hv hBs hmo
 obtain⟨k,n,s,l,ks,al,ak,cl,ck,rfl,rfl⟩:=hv.shape
 obtain⟨m,hm⟩:∃m,ks.length=m:=⟨_,rfl⟩
 obtain⟨ln,hln⟩:∃ln,l.length=ln:=⟨_,rfl⟩
 rw [hm,hln] at hv
 rw [hm,hln]
 have hlb:ln≤140737488351232:=by
  obtain⟨_,_,_,h1,h2,V,hf,_⟩:=IsP.at hv
  have:=hf.bl
  omega
 obtain⟨w1,hw1⟩:∃w1,w.alloc (.cells #[.int .i64 k,.int .i64 n,.string s,.slice al ln cl,.slice ak m ck] 26)=w1:=⟨_,rfl⟩
 have BX:=Box.mk' w (.int .i64 k) (.int .i64 n) (.string s) (.slice al ln cl) (.slice ak m ck)
 rw [hw1] at BX
 obtain⟨g,hg⟩:∃g,w.heap.size=g:=⟨_,rfl⟩
 have z1:=BX.size
 have HRW:Hid (∀u,Below w1.heap.size w1 u→u.heap[g]?=some (.cells #[.int .i64 k,.int .i64 n,.string s,.slice al ln cl,.slice ak m ck] 26 (0,0))):=hZ (fun u hu=>by rw [←hg];exact(hu.block _ (by omega)).trans BX.row)
 have HV:Hid (∀u,Below w1.heap.size w1 u→IsV u B (.mk k n s l ks) (.agg #[.int .i64 k,.int .i64 n,.string s,.slice al ln cl,.slice ak m ck])∧B≤u.heap.size):=hZ (fun u hu=>⟨hv.mono ((BX.below.mono (by omega)).trans (hu.mono (by omega))),by have:=hu.size;omega⟩)
 have HB:Hid (∀u,Below w1.heap.size w1 u→Below w.heap.size w u):=hZ (fun u hu=>BX.below.trans (hu.mono (by omega)))
 have HL:=hZ hln
 have hdl:∀i y,l[i]?=some y→dep y≤b:=fun i y h=>by have h1:=dep_elem l i y h;simp only [dep] at hd;omega
 have HD:=hZ hdl
 obtain⟨c0,c1,c2,c3,c4⟩:=row_cell (uZ HRW w1 (Below.refl _ _))
 have HC:Hid (cnt (.mk k n s l ks)=1+cntL l):=hZ (by simp only [cnt])
 clear BX hv hm hln hdl hd
 go_enter Tryz.func64,Tryz.ntmps64
 go_wp2_with fail
 clear c0 c1 c2 c3 c4
 go_loopw [5,6] (fun y x wr=>∃(i N:Nat),i≤ln∧N≤most+1∧x=.int .i64 i∧y=.int .i64 (N:Int)∧Hid (Below w1.heap.size w1 wr)∧Hid (1≤N∧N=max 1 (min (1+cntL (l.take i)) (most+1)))) (fun _ x _=>ln - (intOf x).toNat)
 case atStart=>exact⟨0,1,Nat.zero_le _,by omega,rfl,rfl,hZ (Below.refl _ _),hZ (by simp [cntL])⟩
 case round=>
  obtain⟨i,N,hi,hN,rfl,rfl,HX,HN⟩:=hrel
  obtain⟨c0,c1,c2,c3,c4⟩:=row_cell (uZ HRW wr (uZ HX))
  by_cases hlt:i<ln
  ·have i1:(i:Int)<(ln:Int):=by omega
   by_cases hNm:N≤most
   ·have n1:(N:Int)≤(most:Int):=by omega
    obtain⟨y,hy⟩:∃y,l[i]?=some y:=⟨_,List.getElem?_eq_getElem (by have:=uZ HL;omega)⟩
    obtain⟨a,y0,y1,y2,al',ak',ll',m',cl',ck',rfl,hab,hce,hve⟩:=(uZ HV wr (uZ HX)).1.elem i y hy
    have e0:wr.cell? (a.add (i * 5))=some (.int .i64 y0):=hce 0 _ rfl
    have e1:wr.cell? ⟨(a.add (i * 5)).block,(a.add (i * 5)).off+1,none⟩=some (.int .i64 y1):=hce 1 _ rfl
    have e2:wr.cell? ⟨(a.add (i * 5)).block,(a.add (i * 5)).off+2,none⟩=some (.string y2):=hce 2 _ rfl
    have e3:wr.cell? ⟨(a.add (i * 5)).block,(a.add (i * 5)).off+3,none⟩=some (.slice al' ll' cl'):=hce 3 _ rfl
    have e4:wr.cell? ⟨(a.add (i * 5)).block,(a.add (i * 5)).off+4,none⟩=some (.slice ak' m' ck'):=hce 4 _ rfl
    obtain⟨D,hD⟩:∃D,most - N=D:=⟨_,rfl⟩
    have d1:(most:Int) - (N:Int)=(D:Int):=by omega
    have d2:IntKind.i64.wrap (D:Int)=(D:Int):=by rw [IntKind.wrap_i64];omega
    have CI:=hZ (ih y _ D B wr (uZ HD i y hy) hve (uZ HV wr (uZ HX)).2 (by omega))
    obtain⟨C,hC⟩:∃C,min (cnt y) (D+1)=C:=⟨_,rfl⟩
    rw [hC] at CI
    have hCb:C≤D+1:=by omega
    have HN':Hid (1≤N+C∧N+C=max 1 (min (1+cntL (l.take (i+1))) (most+1))):=hZ (by
     have h1:=cntL_next l i y hy
     have h2:=uZ HN
     omega)
    have HI1:Hid (i+1≤ln):=hZ (by omega)
    obtain⟨NC,hNCe⟩:∃NC,N+C=NC:=⟨_,rfl⟩
    rw [hNCe] at HN'
    have s1:(N:Int)+(C:Int)=(NC:Int):=by omega
    have s2:IntKind.i64.wrap (NC:Int)=(NC:Int):=by rw [IntKind.wrap_i64];omega
    have hNC:NC≤most+1:=by omega
    clear hy hce hve hC hD hNCe
    go_wp2_with fail
    refine(uZ CI).mono ?_
    rintro e w5 ⟨rfl,b5⟩
    have HX5:Hid (Below w1.heap.size w1 w5):=hZ ((uZ HX).trans (b5.mono (uZ HX).size))
    clear b5 CI
    go_wp2_with fail
    go_roundw
    case rel=>exact⟨i+1,NC,uZ HI1,hNC,by go_num,rfl,HX5,HN'⟩
    case measure=>have:=uZ HI1;simp [intOf];omega
   ·have n1:¬(N:Int)≤(most:Int):=by omega
    have HG:Hid (((min (cnt (.mk k n s l ks)) (most+1):Nat):Int)=(N:Int)):=hZ (by
     have h1:=cntL_take_le l i
     have h2:=uZ HN
     rw [uZ HC]
     omega)
    go_wp2_with fail
    go_ret
    exact⟨by rw [uZ HG];rfl,by first|exact uZ HB _ (uZ HX)|(rw [←hg];exact uZ HB _ (uZ HX))⟩
  ·have i1:¬(i:Int)<(ln:Int):=by omega
   have HG:Hid (((min (cnt (.mk k n s l ks)) (most+1):Nat):Int)=(N:Int)):=hZ (by
    have h2:=uZ HN
    rw [List.take_of_length_le (by have:=uZ HL;omega)] at h2
    rw [uZ HC]
    omega)
   go_wp2_with fail
   go_ret
   exact⟨by rw [uZ HG];rfl,by first|exact uZ HB _ (uZ HX)|(rw [←hg];exact uZ HB _ (uZ HX))⟩
theorem many_any:∀b,ManyAt b
 |0=>many_zero
 |b+1=>many_step b (many_any b)
theorem few_any (v:Vl) (x:Value) (B:Nat) (w:World) (hv:IsV w B v x) (hBs:B≤w.heap.size) :
  Calls Tryz.prog 65 #[x] w fun e w'=>e=.returned (.bool (fewB v))∧Below w.heap.size w w':=by
 obtain⟨k',n',s',l',ks',al',ak',cl',ck',hy',hx⟩:=hv.shape
 obtain⟨ll,hll⟩:∃ll,l'.length=ll:=⟨_,rfl⟩
 obtain⟨m,hm⟩:∃m,ks'.length=m:=⟨_,rfl⟩
 rw [hll,hm] at hx
 subst hx
 obtain⟨w1,hw1⟩:∃w1,w.alloc (.cells #[.int .i64 k',.int .i64 n',.string s',.slice al' ll cl',.slice ak' m ck'] 26)=w1:=⟨_,rfl⟩
 have BX:=Box.mk' w (.int .i64 k') (.int .i64 n') (.string s') (.slice al' ll cl') (.slice ak' m ck')
 rw [hw1] at BX
 obtain⟨c0,c1,c2,c3,c4⟩:=row_cell BX.row
 have z1:=BX.size
 have HB:=hZ BX.below
 have CM:=hZ (many_any (dep v) v _ 5000 B w1 (Nat.le_refl _) (hv.mono (BX.below.mono hBs)) (by omega) (by decide))
 obtain⟨C,hC⟩:∃C,min (cnt v) (5000+1)=C:=⟨_,rfl⟩
 rw [hC] at CM
 have HRB:Hid (decide ((C:Int)≤5000)=fewB v):=hZ (by
  unfold fewB
  rw [decide_eq_decide]
  omega)
 clear BX hv hy' hC
 go_enter Tryz.func65,Tryz.ntmps65
 go_wp2_with fail
 refine(uZ CM).mono ?_
 rintro e w2 ⟨rfl,b2⟩
 have B2:=hZ b2
 clear b2 CM
 go_wp2_with fail
 go_ret
 exact⟨by rw [←uZ HRB];rfl,(uZ HB).trans ((uZ B2).mono (by omega))⟩
set_option linter.unusedVariables false
set_option linter.unusedSimpArgs false
theorem cvs_cnt:∀l:List Vl,cvs l=cntL l
 |[]=>by simp [cvs,cntL]
 |.mk k n s l ks :: r=>by simp only [cvs,cntL,cvs_cnt l,cvs_cnt r]
def NodAt (N:Nat):Prop:=∀(y:Tn) (x:List Value) (most B:Nat) (w:World),cns [y]≤N→IsN w (fun b=>b<B) y x→B≤w.heap.size→most≤40000 →
  Calls Tryz.prog 33 #[.agg x.toArray,.int .i64 (most:Int)] w fun e w'=>e=.returned (.int .i64 ((min (cns [y]) (most+1):Nat):Int))∧Below w.heap.size w w'
theorem NodAt_step (N:Nat) (ih:NodAt N):NodAt (N+1):=by
 intro y0 x most B w hN hx hB hmo
 obtain⟨vk,vn,vs,al,ak,a,ll,cl,lk,ck,cc,rfl,hv,hr,hbk,hbp⟩:=hx.opn
 obtain⟨k,t,v,f,ks,p⟩:=y0
 simp only at hv hr ⊢
 obtain⟨n,hn⟩:∃n,ks.length=n:=⟨_,rfl⟩
 simp only [hn]
 have hc1:cns [⟨k,t,v,f,ks,p⟩]=1+cvs v.l+cns ks:=cns_one _
 have hsub:∀z∈ks,cns [z]≤N:=fun z hz=>by
  have h1:=cns_mem ks z hz
  omega
 have hnb:n≤140737488351232:=by rw [←hn];exact hr.len
 obtain⟨w1,hw1⟩:∃w1,w.alloc (.cells #[.int .i64 k,.string t,.int .i64 vk,.int .i64 vn,.string vs,.slice al ll cl,.slice ak lk ck,.bool f,.slice a n cc,.int .i64 p] 28)=w1:=⟨_,rfl⟩
 obtain⟨G,hG⟩:∃G,w.heap.size=G:=⟨_,rfl⟩
 obtain⟨A1,X1⟩:=al1 hw1 hG
 have hBG:B≤G:=by rw [←hG];exact hB
 have CM:=hZ (many_any (dep v) v (.agg #[.int .i64 vk,.int .i64 vn,.string vs,.slice al ll cl,.slice ak lk ck]) most B w1 (Nat.le_refl _) (hv.mono (X1.mono hBG)) (Nat.le_trans hBG (Nat.le_of_lt (lt_of_row A1))) hmo)
 have hcv:cnt v=1+cvs v.l:=by obtain⟨k',n',s',l',ks'⟩:=v;simp only [cnt,cvs_cnt]
 obtain⟨c,hcc⟩:∃c,cvs v.l=c:=⟨_,rfl⟩
 rw [hcv,hcc] at CM
 rw [hcc] at hc1
 obtain⟨K0,hK0⟩:∃K0,min (1+c) (most+1)=K0:=⟨_,rfl⟩
 rw [hK0] at CM
 obtain⟨R,hR⟩:∃R,min (cns [⟨k,t,v,f,ks,p⟩]) (most+1)=R:=⟨_,rfl⟩
 rw [hR]
 have hR2:min (1+c+cns ks) (most+1)=R:=by rw [←hR,hc1]
 have HR:=hZ hR2
 have HM:Hid (∀u,Below w1.heap.size w1 u→RowN u B ks a cc∧Below G w u∧B≤u.heap.size):=hZ (fun u h=>by
  have h2:=X1.trans (h.mono (Nat.le_of_lt (lt_of_row A1)))
  exact⟨hr.later (h2.mono hBG),h2,Nat.le_trans hBG (by rw [←hG];exact h2.size)⟩)
 have HA:=hZ A1
 have HS:=hZ (And.intro hn hsub)
 have HW:=hZ hw1
 obtain⟨x0,x1,x2,x3,x4,x5,x6,x7,x8,x9⟩:=row_ten A1
 have hK1:1≤K0∧K0≤most+1:=by omega
 have HK0:=hZ hK0
 clear A1 X1 hw1 hBG hB hr hv hx hn hsub hcv hcc hc1 hR hR2 hN hbk hbp hK0
 go_enter Tryz.func33,Tryz.ntmps33
 go_upto_region 1 with fail
 rw [uZ HW]
 try rw [hG]
 clear HW
 go_wp2_with fail
 refine(uZ CM).mono ?_
 rintro e w2 ⟨rfl,b2⟩
 have H2:=hZ b2
 clear b2 CM x0 x1 x2 x3 x4 x5 x6 x7 x8 x9
 go_wp2_with fail
 go_loopw [5,6] (fun yv x wr=>∃(i K:Nat),i≤n∧K≤most+1∧x=.int .i64 i∧yv=.int .i64 (K:Int)∧Hid (Below w1.heap.size w1 wr)∧Hid (K=min (1+c+kcnt ks i) (most+1))) (fun _ x _=>n - (intOf x).toNat)
 case atStart=>exact⟨0,K0,Nat.zero_le _,hK1.2,rfl,rfl,H2,hZ (by rw [kcnt_zero];exact(uZ HK0).symm)⟩
 case round=>
  obtain⟨i,K,hi,hKm,rfl,rfl,HX,HK⟩:=hrel
  obtain⟨x0,x1,x2,x3,x4,x5,x6,x7,x8,x9⟩:=row_ten (Below.cellsAt (uZ HX) (uZ HA))
  by_cases hlt:i<n
  ·have i1:(i:Int)<(n:Int):=by omega
   by_cases hNm:K≤most
   ·have n1:(K:Int)≤(most:Int):=by omega
    obtain⟨y,hy⟩:∃y,ks[i]?=some y:=⟨_,List.getElem?_eq_getElem (by have:=(uZ HS).1;omega)⟩
    obtain⟨b,vky,vny,vsy,aly,aky,ay,lly,cly,lky,cky,ny,ccy,rfl,hcy,hby,hny,hzy,hcelly⟩:=((uZ HM) wr (uZ HX)).1.ten hy
    obtain⟨e0,e1,e2,e3,e4,e5,e6,e7,e8,e9⟩:=tenC hcelly
    obtain⟨D,hD⟩:∃D,most - K=D:=⟨_,rfl⟩
    have d1:(most:Int) - (K:Int)=(D:Int):=by omega
    have d2:IntKind.i64.wrap (D:Int)=(D:Int):=by rw [IntKind.wrap_i64];omega
    have CI:=hZ (ih y _ D B wr ((uZ HS).2 y (List.mem_of_getElem? hy)) hzy ((uZ HM) wr (uZ HX)).2.2 (by omega))
    obtain⟨C,hC⟩:∃C,min (cns [y]) (D+1)=C:=⟨_,rfl⟩
    rw [hC] at CI
    have hup:=kcnt_up ks i y hy
    have HK2:Hid (K+C=min (1+c+kcnt ks (i+1)) (most+1)):=hZ (by have h2:=uZ HK;omega)
    have HI1:Hid (i+1≤n):=hZ (by omega)
    have hKC:K+C≤most+1:=by omega
    obtain⟨KC,hKCe⟩:∃KC,K+C=KC:=⟨_,rfl⟩
    rw [hKCe] at HK2 hKC
    have d3:(K:Int)+(C:Int)=(KC:Int):=by omega
    have d4:IntKind.i64.wrap (KC:Int)=(KC:Int):=by rw [IntKind.wrap_i64];omega
    clear hy hcy hby hny hzy hcelly hD hC hup hKCe HK
    go_wp2_with fail
    refine(uZ CI).mono ?_
    rintro e w5 ⟨rfl,b5⟩
    have HX5:Hid (Below w1.heap.size w1 w5):=hZ ((uZ HX).trans (b5.mono (uZ HX).size))
    clear b5 CI x0 x1 x2 x3 x4 x5 x6 x7 x8 x9 e0 e1 e2 e3 e4 e5 e6 e7 e8 e9
    go_wp2_with fail
    go_roundw
    case rel=>exact⟨i+1,KC,uZ HI1,hKC,by go_num,rfl,HX5,HK2⟩
    case measure=>have:=uZ HI1;simp [intOf];omega
   ·have n1:¬(K:Int)≤(most:Int):=by omega
    have HG:Hid (R=K):=hZ (by
     have h1:=kcnt_mono ks i
     have h2:=uZ HK
     have h3:=uZ HR
     omega)
    have hb:=((uZ HM) wr (uZ HX)).2.1
    have HB:=hZ hb
    clear hb
    go_wp2_with fail
    go_ret
    exact⟨by rw [uZ HG] <;> rfl,by first|exact uZ HB|(rw [hG];exact uZ HB)⟩
  ·have i1:¬(i:Int)<(n:Int):=by omega
   have HG:Hid (R=K):=hZ (by
    have h2:=uZ HK
    have h3:=uZ HR
    have h4:kcnt ks i=cns ks:=by rw [show i=ks.length by have:=(uZ HS).1;omega];exact kcnt_all ks
    rw [h4] at h2
    omega)
   have hb:=((uZ HM) wr (uZ HX)).2.1
   have HB:=hZ hb
   clear hb
   go_wp2_with fail
   go_ret
   exact⟨by rw [uZ HG] <;> rfl,by first|exact uZ HB|(rw [hG];exact uZ HB)⟩
theorem NodAt_all:∀N,NodAt N
 |0=>fun y x most B w hN=>by rw [cns_one] at hN;omega
 |N+1=>NodAt_step N (NodAt_all N)
theorem slim_any (B0:Nat) (y:Tn) (x:List Value) (w:World) (hB:B0≤w.heap.size) (hx:IsN w (fun b=>b<B0) y x):Calls Tryz.prog 17 #[.agg x.toArray] w fun e w'=>e=.returned (.bool (decide (cns [y]≤40000)))∧Below w.heap.size w w':=by
 have hx0:=hx
 obtain⟨vk,vn,vs,al,ak,a,ll,cl,lk,ck,cc,rfl,_⟩:=hx.shape
 obtain⟨k,t,v,f,ks,p⟩:=y
 obtain⟨n,hn⟩:∃n,ks.length=n:=⟨_,rfl⟩
 simp only [hn] at hx0 ⊢
 obtain⟨w1,hw1⟩:∃w1,w.alloc (.cells #[.int .i64 k,.string t,.int .i64 vk,.int .i64 vn,.string vs,.slice al ll cl,.slice ak lk ck,.bool f,.slice a n cc,.int .i64 p] 28)=w1:=⟨_,rfl⟩
 obtain⟨G,hG⟩:∃G,w.heap.size=G:=⟨_,rfl⟩
 obtain⟨A1,X1⟩:=al1 hw1 hG
 have CM:=hZ (NodAt_all _ ⟨k,t,v,f,ks,p⟩ _ 40000 B0 w1 (Nat.le_refl _) (hx0.laterB (X1.mono (by rw [←hG];exact hB))) (Nat.le_trans hB (by have:=X1.size;exact this)) (by decide))
 obtain⟨C,hC⟩:∃C,min (cns [⟨k,t,v,f,ks,p⟩]) (40000+1)=C:=⟨_,rfl⟩
 rw [hC] at CM
 have HRB:Hid (decide ((C:Int)≤40000)=decide (cns [⟨k,t,v,f,ks,p⟩]≤40000)):=hZ (by rw [decide_eq_decide];omega)
 obtain⟨x0,x1,x2,x3,x4,x5,x6,x7,x8,x9⟩:=row_ten A1
 have HX:=hZ X1
 have HW:=hZ hw1
 have HGs:=hZ (Nat.le_of_lt (lt_of_row A1))
 clear A1 X1 hw1 hx hx0 hn hC
 go_enter Tryz.func17,Tryz.ntmps17
 go_upto_region 1 with fail
 rw [uZ HW]
 try rw [hG]
 clear HW
 go_wp2_with fail
 refine(uZ CM).mono ?_
 rintro e w2 ⟨rfl,b2⟩
 have H2:=hZ ((uZ HX).trans (b2.mono (uZ HGs)))
 clear b2 CM x0 x1 x2 x3 x4 x5 x6 x7 x8 x9
 go_wp2_with fail
 go_ret
 exact⟨by rw [←uZ HRB];rfl,by first|exact uZ H2|(rw [hG];exact uZ H2)⟩
def ValsAt (b:Nat):Prop:=∀(v:Vl) (x:Value) (most B:Nat) (w:World),dep v≤b→IsV w B v x→B≤w.heap.size→most≤40000 →
  Calls Tryz.prog 83 #[x,.int .i64 (most:Int)] w fun e w'=>e=.returned (.int .i64 ((min (cnt v) (most+1):Nat):Int))∧Below w.heap.size w w'
theorem vals_zero:ValsAt 0:=by
 intro v x most B w h
 have:=dep_pos v
 omega
theorem vals_step (b:Nat) (ih:ValsAt b):ValsAt (b+1):=by
 intro v x most B w hd hv hBs hmo
 obtain⟨k,n,s,l,ks,al,ak,cl,ck,rfl,rfl⟩:=hv.shape
 obtain⟨m,hm⟩:∃m,ks.length=m:=⟨_,rfl⟩
 obtain⟨ln,hln⟩:∃ln,l.length=ln:=⟨_,rfl⟩
 rw [hm,hln] at hv
 rw [hm,hln]
 have hlb:ln≤140737488351232:=by
  obtain⟨_,_,_,h1,h2,V,hf,_⟩:=IsP.at hv
  have:=hf.bl
  omega
 obtain⟨w1,hw1⟩:∃w1,w.alloc (.cells #[.int .i64 k,.int .i64 n,.string s,.slice al ln cl,.slice ak m ck] 26)=w1:=⟨_,rfl⟩
 have BX:=Box.mk' w (.int .i64 k) (.int .i64 n) (.string s) (.slice al ln cl) (.slice ak m ck)
 rw [hw1] at BX
 obtain⟨g,hg⟩:∃g,w.heap.size=g:=⟨_,rfl⟩
 have z1:=BX.size
 have HRW:Hid (∀u,Below w1.heap.size w1 u→u.heap[g]?=some (.cells #[.int .i64 k,.int .i64 n,.string s,.slice al ln cl,.slice ak m ck] 26 (0,0))):=hZ (fun u hu=>by rw [←hg];exact(hu.block _ (by omega)).trans BX.row)
 have HV:Hid (∀u,Below w1.heap.size w1 u→IsV u B (.mk k n s l ks) (.agg #[.int .i64 k,.int .i64 n,.string s,.slice al ln cl,.slice ak m ck])∧B≤u.heap.size):=hZ (fun u hu=>⟨hv.mono ((BX.below.mono (by omega)).trans (hu.mono (by omega))),by have:=hu.size;omega⟩)
 have HB:Hid (∀u,Below w1.heap.size w1 u→Below w.heap.size w u):=hZ (fun u hu=>BX.below.trans (hu.mono (by omega)))
 have HL:=hZ hln
 have hdl:∀i y,l[i]?=some y→dep y≤b:=fun i y h=>by have h1:=dep_elem l i y h;simp only [dep] at hd;omega
 have HD:=hZ hdl
 obtain⟨c0,c1,c2,c3,c4⟩:=row_cell (uZ HRW w1 (Below.refl _ _))
 have HC:Hid (cnt (.mk k n s l ks)=1+cntL l):=hZ (by simp only [cnt])
 clear BX hv hm hln hdl hd
 go_enter Tryz.func83,Tryz.ntmps83
 go_wp2_with fail
 clear c0 c1 c2 c3 c4
 go_loopw [5,6] (fun y x wr=>∃(i N:Nat),i≤ln∧N≤most+1∧x=.int .i64 i∧y=.int .i64 (N:Int)∧Hid (Below w1.heap.size w1 wr)∧Hid (1≤N∧N=max 1 (min (1+cntL (l.take i)) (most+1)))) (fun _ x _=>ln - (intOf x).toNat)
 case atStart=>exact⟨0,1,Nat.zero_le _,by omega,rfl,rfl,hZ (Below.refl _ _),hZ (by simp [cntL])⟩
 case round=>
  obtain⟨i,N,hi,hN,rfl,rfl,HX,HN⟩:=hrel
  obtain⟨c0,c1,c2,c3,c4⟩:=row_cell (uZ HRW wr (uZ HX))
  by_cases hlt:i<ln
  ·have i1:(i:Int)<(ln:Int):=by omega
   by_cases hNm:N≤most
   ·have n1:(N:Int)≤(most:Int):=by omega
    obtain⟨y,hy⟩:∃y,l[i]?=some y:=⟨_,List.getElem?_eq_getElem (by have:=uZ HL;omega)⟩
    obtain⟨a,y0,y1,y2,al',ak',ll',m',cl',ck',rfl,hab,hce,hve⟩:=(uZ HV wr (uZ HX)).1.elem i y hy
    have e0:wr.cell? (a.add (i * 5))=some (.int .i64 y0):=hce 0 _ rfl
    have e1:wr.cell? ⟨(a.add (i * 5)).block,(a.add (i * 5)).off+1,none⟩=some (.int .i64 y1):=hce 1 _ rfl
    have e2:wr.cell? ⟨(a.add (i * 5)).block,(a.add (i * 5)).off+2,none⟩=some (.string y2):=hce 2 _ rfl
    have e3:wr.cell? ⟨(a.add (i * 5)).block,(a.add (i * 5)).off+3,none⟩=some (.slice al' ll' cl'):=hce 3 _ rfl
    have e4:wr.cell? ⟨(a.add (i * 5)).block,(a.add (i * 5)).off+4,none⟩=some (.slice ak' m' ck'):=hce 4 _ rfl
    obtain⟨D,hD⟩:∃D,most - N=D:=⟨_,rfl⟩
    have d1:(most:Int) - (N:Int)=(D:Int):=by omega
    have d2:IntKind.i64.wrap (D:Int)=(D:Int):=by rw [IntKind.wrap_i64];omega
    have CI:=hZ (ih y _ D B wr (uZ HD i y hy) hve (uZ HV wr (uZ HX)).2 (by omega))
    obtain⟨C,hC⟩:∃C,min (cnt y) (D+1)=C:=⟨_,rfl⟩
    rw [hC] at CI
    have hCb:C≤D+1:=by omega
    have HN':Hid (1≤N+C∧N+C=max 1 (min (1+cntL (l.take (i+1))) (most+1))):=hZ (by
     have h1:=cntL_next l i y hy
     have h2:=uZ HN
     omega)
    have HI1:Hid (i+1≤ln):=hZ (by omega)
    obtain⟨NC,hNCe⟩:∃NC,N+C=NC:=⟨_,rfl⟩
    rw [hNCe] at HN'
    have s1:(N:Int)+(C:Int)=(NC:Int):=by omega
    have s2:IntKind.i64.wrap (NC:Int)=(NC:Int):=by rw [IntKind.wrap_i64];omega
    have hNC:NC≤most+1:=by omega
    clear hy hce hve hC hD hNCe
    go_wp2_with fail
    refine(uZ CI).mono ?_
    rintro e w5 ⟨rfl,b5⟩
    have HX5:Hid (Below w1.heap.size w1 w5):=hZ ((uZ HX).trans (b5.mono (uZ HX).size))
    clear b5 CI
    go_wp2_with fail
    go_roundw
    case rel=>exact⟨i+1,NC,uZ HI1,hNC,by go_num,rfl,HX5,HN'⟩
    case measure=>have:=uZ HI1;simp [intOf];omega
   ·have n1:¬(N:Int)≤(most:Int):=by omega
    have HG:Hid (((min (cnt (.mk k n s l ks)) (most+1):Nat):Int)=(N:Int)):=hZ (by
     have h1:=cntL_take_le l i
     have h2:=uZ HN
     rw [uZ HC]
     omega)
    go_wp2_with fail
    go_ret
    exact⟨by rw [uZ HG];rfl,by first|exact uZ HB _ (uZ HX)|(rw [←hg];exact uZ HB _ (uZ HX))⟩
  ·have i1:¬(i:Int)<(ln:Int):=by omega
   have HG:Hid (((min (cnt (.mk k n s l ks)) (most+1):Nat):Int)=(N:Int)):=hZ (by
    have h2:=uZ HN
    rw [List.take_of_length_le (by have:=uZ HL;omega)] at h2
    rw [uZ HC]
    omega)
   go_wp2_with fail
   go_ret
   exact⟨by rw [uZ HG];rfl,by first|exact uZ HB _ (uZ HX)|(rw [←hg];exact uZ HB _ (uZ HX))⟩
theorem vals_any:∀b,ValsAt b
 |0=>vals_zero
 |b+1=>vals_step b (vals_any b)
def ParAt (N:Nat):Prop:=∀(y:Tn) (x:List Value) (most B:Nat) (w:World),cns [y]≤N→IsN w (fun b=>b<B) y x→B≤w.heap.size→most≤40000 →
  Calls Tryz.prog 48 #[.agg x.toArray,.int .i64 (most:Int)] w fun e w'=>e=.returned (.int .i64 ((min (cns [y]) (most+1):Nat):Int))∧Below w.heap.size w w'
theorem ParAt_step (N:Nat) (ih:ParAt N):ParAt (N+1):=by
 intro y0 x most B w hN hx hB hmo
 obtain⟨vk,vn,vs,al,ak,a,ll,cl,lk,ck,cc,rfl,hv,hr,hbk,hbp⟩:=hx.opn
 obtain⟨k,t,v,f,ks,p⟩:=y0
 simp only at hv hr ⊢
 obtain⟨n,hn⟩:∃n,ks.length=n:=⟨_,rfl⟩
 simp only [hn]
 have hc1:cns [⟨k,t,v,f,ks,p⟩]=1+cvs v.l+cns ks:=cns_one _
 have hsub:∀z∈ks,cns [z]≤N:=fun z hz=>by
  have h1:=cns_mem ks z hz
  omega
 have hnb:n≤140737488351232:=by rw [←hn];exact hr.len
 obtain⟨w1,hw1⟩:∃w1,w.alloc (.cells #[.int .i64 k,.string t,.int .i64 vk,.int .i64 vn,.string vs,.slice al ll cl,.slice ak lk ck,.bool f,.slice a n cc,.int .i64 p] 28)=w1:=⟨_,rfl⟩
 obtain⟨G,hG⟩:∃G,w.heap.size=G:=⟨_,rfl⟩
 obtain⟨A1,X1⟩:=al1 hw1 hG
 have hBG:B≤G:=by rw [←hG];exact hB
 have CM:=hZ (vals_any (dep v) v (.agg #[.int .i64 vk,.int .i64 vn,.string vs,.slice al ll cl,.slice ak lk ck]) most B w1 (Nat.le_refl _) (hv.mono (X1.mono hBG)) (Nat.le_trans hBG (Nat.le_of_lt (lt_of_row A1))) hmo)
 have hcv:cnt v=1+cvs v.l:=by obtain⟨k',n',s',l',ks'⟩:=v;simp only [cnt,cvs_cnt]
 obtain⟨c,hcc⟩:∃c,cvs v.l=c:=⟨_,rfl⟩
 rw [hcv,hcc] at CM
 rw [hcc] at hc1
 obtain⟨K0,hK0⟩:∃K0,min (1+c) (most+1)=K0:=⟨_,rfl⟩
 rw [hK0] at CM
 obtain⟨R,hR⟩:∃R,min (cns [⟨k,t,v,f,ks,p⟩]) (most+1)=R:=⟨_,rfl⟩
 rw [hR]
 have hR2:min (1+c+cns ks) (most+1)=R:=by rw [←hR,hc1]
 have HR:=hZ hR2
 have HM:Hid (∀u,Below w1.heap.size w1 u→RowN u B ks a cc∧Below G w u∧B≤u.heap.size):=hZ (fun u h=>by
  have h2:=X1.trans (h.mono (Nat.le_of_lt (lt_of_row A1)))
  exact⟨hr.later (h2.mono hBG),h2,Nat.le_trans hBG (by rw [←hG];exact h2.size)⟩)
 have HA:=hZ A1
 have HS:=hZ (And.intro hn hsub)
 have HW:=hZ hw1
 obtain⟨x0,x1,x2,x3,x4,x5,x6,x7,x8,x9⟩:=row_ten A1
 have hK1:1≤K0∧K0≤most+1:=by omega
 have HK0:=hZ hK0
 clear A1 X1 hw1 hBG hB hr hv hx hn hsub hcv hcc hc1 hR hR2 hN hbk hbp hK0
 go_enter Tryz.func48,Tryz.ntmps48
 go_upto_region 1 with fail
 rw [uZ HW]
 try rw [hG]
 clear HW
 go_wp2_with fail
 refine(uZ CM).mono ?_
 rintro e w2 ⟨rfl,b2⟩
 have H2:=hZ b2
 clear b2 CM x0 x1 x2 x3 x4 x5 x6 x7 x8 x9
 go_wp2_with fail
 go_loopw [5,6] (fun yv x wr=>∃(i K:Nat),i≤n∧K≤most+1∧x=.int .i64 i∧yv=.int .i64 (K:Int)∧Hid (Below w1.heap.size w1 wr)∧Hid (K=min (1+c+kcnt ks i) (most+1))) (fun _ x _=>n - (intOf x).toNat)
 case atStart=>exact⟨0,K0,Nat.zero_le _,hK1.2,rfl,rfl,H2,hZ (by rw [kcnt_zero];exact(uZ HK0).symm)⟩
 case round=>
  obtain⟨i,K,hi,hKm,rfl,rfl,HX,HK⟩:=hrel
  obtain⟨x0,x1,x2,x3,x4,x5,x6,x7,x8,x9⟩:=row_ten (Below.cellsAt (uZ HX) (uZ HA))
  by_cases hlt:i<n
  ·have i1:(i:Int)<(n:Int):=by omega
   by_cases hNm:K≤most
   ·have n1:(K:Int)≤(most:Int):=by omega
    obtain⟨y,hy⟩:∃y,ks[i]?=some y:=⟨_,List.getElem?_eq_getElem (by have:=(uZ HS).1;omega)⟩
    obtain⟨b,vky,vny,vsy,aly,aky,ay,lly,cly,lky,cky,ny,ccy,rfl,hcy,hby,hny,hzy,hcelly⟩:=((uZ HM) wr (uZ HX)).1.ten hy
    obtain⟨e0,e1,e2,e3,e4,e5,e6,e7,e8,e9⟩:=tenC hcelly
    obtain⟨D,hD⟩:∃D,most - K=D:=⟨_,rfl⟩
    have d1:(most:Int) - (K:Int)=(D:Int):=by omega
    have d2:IntKind.i64.wrap (D:Int)=(D:Int):=by rw [IntKind.wrap_i64];omega
    have CI:=hZ (ih y _ D B wr ((uZ HS).2 y (List.mem_of_getElem? hy)) hzy ((uZ HM) wr (uZ HX)).2.2 (by omega))
    obtain⟨C,hC⟩:∃C,min (cns [y]) (D+1)=C:=⟨_,rfl⟩
    rw [hC] at CI
    have hup:=kcnt_up ks i y hy
    have HK2:Hid (K+C=min (1+c+kcnt ks (i+1)) (most+1)):=hZ (by have h2:=uZ HK;omega)
    have HI1:Hid (i+1≤n):=hZ (by omega)
    have hKC:K+C≤most+1:=by omega
    obtain⟨KC,hKCe⟩:∃KC,K+C=KC:=⟨_,rfl⟩
    rw [hKCe] at HK2 hKC
    have d3:(K:Int)+(C:Int)=(KC:Int):=by omega
    have d4:IntKind.i64.wrap (KC:Int)=(KC:Int):=by rw [IntKind.wrap_i64];omega
    clear hy hcy hby hny hzy hcelly hD hC hup hKCe HK
    go_wp2_with fail
    refine(uZ CI).mono ?_
    rintro e w5 ⟨rfl,b5⟩
    have HX5:Hid (Below w1.heap.size w1 w5):=hZ ((uZ HX).trans (b5.mono (uZ HX).size))
    clear b5 CI x0 x1 x2 x3 x4 x5 x6 x7 x8 x9 e0 e1 e2 e3 e4 e5 e6 e7 e8 e9
    go_wp2_with fail
    go_roundw
    case rel=>exact⟨i+1,KC,uZ HI1,hKC,by go_num,rfl,HX5,HK2⟩
    case measure=>have:=uZ HI1;simp [intOf];omega
   ·have n1:¬(K:Int)≤(most:Int):=by omega
    have HG:Hid (R=K):=hZ (by
     have h1:=kcnt_mono ks i
     have h2:=uZ HK
     have h3:=uZ HR
     omega)
    have hb:=((uZ HM) wr (uZ HX)).2.1
    have HB:=hZ hb
    clear hb
    go_wp2_with fail
    go_ret
    exact⟨by rw [uZ HG] <;> rfl,by first|exact uZ HB|(rw [hG];exact uZ HB)⟩
  ·have i1:¬(i:Int)<(n:Int):=by omega
   have HG:Hid (R=K):=hZ (by
    have h2:=uZ HK
    have h3:=uZ HR
    have h4:kcnt ks i=cns ks:=by rw [show i=ks.length by have:=(uZ HS).1;omega];exact kcnt_all ks
    rw [h4] at h2
    omega)
   have hb:=((uZ HM) wr (uZ HX)).2.1
   have HB:=hZ hb
   clear hb
   go_wp2_with fail
   go_ret
   exact⟨by rw [uZ HG] <;> rfl,by first|exact uZ HB|(rw [hG];exact uZ HB)⟩
theorem ParAt_all:∀N,ParAt N
 |0=>fun y x most B w hN=>by rw [cns_one] at hN;omega
 |N+1=>ParAt_step N (ParAt_all N)
theorem fits_any (B0:Nat) (y:Tn) (x:List Value) (w:World) (hB:B0≤w.heap.size) (hx:IsN w (fun b=>b<B0) y x):Calls Tryz.prog 26 #[.agg x.toArray] w fun e w'=>e=.returned (.bool (decide (cns [y]≤20000)))∧Below w.heap.size w w':=by
 have hx0:=hx
 obtain⟨vk,vn,vs,al,ak,a,ll,cl,lk,ck,cc,rfl,_⟩:=hx.shape
 obtain⟨k,t,v,f,ks,p⟩:=y
 obtain⟨n,hn⟩:∃n,ks.length=n:=⟨_,rfl⟩
 simp only [hn] at hx0 ⊢
 obtain⟨w1,hw1⟩:∃w1,w.alloc (.cells #[.int .i64 k,.string t,.int .i64 vk,.int .i64 vn,.string vs,.slice al ll cl,.slice ak lk ck,.bool f,.slice a n cc,.int .i64 p] 28)=w1:=⟨_,rfl⟩
 obtain⟨G,hG⟩:∃G,w.heap.size=G:=⟨_,rfl⟩
 obtain⟨A1,X1⟩:=al1 hw1 hG
 have CM:=hZ (ParAt_all _ ⟨k,t,v,f,ks,p⟩ _ 20000 B0 w1 (Nat.le_refl _) (hx0.laterB (X1.mono (by rw [←hG];exact hB))) (Nat.le_trans hB (by have:=X1.size;exact this)) (by decide))
 obtain⟨C,hC⟩:∃C,min (cns [⟨k,t,v,f,ks,p⟩]) (20000+1)=C:=⟨_,rfl⟩
 rw [hC] at CM
 have HRB:Hid (decide ((C:Int)≤20000)=decide (cns [⟨k,t,v,f,ks,p⟩]≤20000)):=hZ (by rw [decide_eq_decide];omega)
 obtain⟨x0,x1,x2,x3,x4,x5,x6,x7,x8,x9⟩:=row_ten A1
 have HX:=hZ X1
 have HW:=hZ hw1
 have HGs:=hZ (Nat.le_of_lt (lt_of_row A1))
 clear A1 X1 hw1 hx hx0 hn hC
 go_enter Tryz.func26,Tryz.ntmps26
 go_upto_region 1 with fail
 rw [uZ HW]
 try rw [hG]
 clear HW
 go_wp2_with fail
 refine(uZ CM).mono ?_
 rintro e w2 ⟨rfl,b2⟩
 have H2:=hZ ((uZ HX).trans (b2.mono (uZ HGs)))
 clear b2 CM x0 x1 x2 x3 x4 x5 x6 x7 x8 x9
 go_wp2_with fail
 go_ret
 exact⟨by rw [←uZ HRB];rfl,by first|exact uZ H2|(rw [hG];exact uZ H2)⟩
end Go.Proofs.YtlkeaaopdnnceaaGreatDoor
