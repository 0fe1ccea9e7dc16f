/-
  The walk of the closure by which it is asked what is right (it calls itself), and of measure: a value's weight and depth; no conditions but the form's own reach.
  The walks of measure, Right, Weight, Depth: a value's weight and depth, 0 of what is not right; no conditions but the form's own reach.
  Layer 18 (print): which trees are right, as functions of the tree: how many parts, the form of each node, how deep; no conditions.
-/
import Derived.Test.YtjdpaihhhjdgmaaGreatDoorA11
import Derived.Deep.RegionHeld3
import Derived.BigRegion
import Derived.Deep.RegionWith
import Derived.Deep.CutRange
import Derived.Laws.ResultCell
import Derived.Laws.EntriesVeiled
set_option linter.unusedVariables false
set_option linter.unusedSimpArgs false
set_option maxRecDepth 100000
set_option maxHeartbeats 8000000
namespace Go.Proofs.YtjdpaihhhjdgmaaGreatDoor
open Go.RowKit
structure StV (w:World) (gd gw gr:Nat) (d s:Int):Prop where
 dep:w.heap[gd]?=some (.cells #[.int .i64 d] 3 (0,0))
 wgt:w.heap[gw]?=some (.cells #[.int .i64 s] 3 (0,0))
 fn:w.heap[gr]?=some (.cells #[.func (.func 163) #[] #[.pointer (some ⟨gd,0,none⟩),.pointer (some ⟨gw,0,none⟩),.pointer (some ⟨gr,0,none⟩)]] 148 (0,0))
structure Pl (w:World) (B gd gw gr:Nat):Prop where
 bd:B≤gd
 bw:B≤gw
 br:B≤gr
 dw:gd≠gw
 dr:gd≠gr
 wr:gw≠gr
 dl:gd<w.heap.size
 wl:gw<w.heap.size
 rl:gr<w.heap.size
theorem Pl.later {w w':World} {B gd gw gr:Nat} (h:Pl w B gd gw gr) (hs:w.heap.size≤w'.heap.size):Pl w' B gd gw gr:=
 ⟨h.bd,h.bw,h.br,h.dw,h.dr,h.wr,Nat.lt_of_lt_of_le h.dl hs,Nat.lt_of_lt_of_le h.wl hs,Nat.lt_of_lt_of_le h.rl hs⟩
theorem one_cell {w:World} {g:Nat} {v:Value} {T:TypeId} (h:w.heap[g]?=some (.cells #[v] T (0,0))):w.cell? ⟨g,0,none⟩=some v∧w.frozen? ⟨g,0,none⟩=false:=
 ⟨by rw [cell_of_row w g 0 _ T (0,0) h];rfl,frozen_of_row w g 0 _ T h⟩
theorem StV.keep {w w':World} {gd gw gr:Nat} {d s:Int} {B:Nat} (h:StV w gd gw gr d s) (p:Pl w B gd gw gr) (hb:Below w.heap.size w w'):StV w' gd gw gr d s:=
 ⟨(hb.block _ p.dl).trans h.dep,(hb.block _ p.wl).trans h.wgt,(hb.block _ p.rl).trans h.fn⟩
theorem StV.setD {w:World} {gd gw gr:Nat} {d s:Int} {B:Nat} (h:StV w gd gw gr d s) (p:Pl w B gd gw gr) (d':Int):StV (w.setCell ⟨gd,0,none⟩ (.int .i64 d')) gd gw gr d' s:=
 ⟨by rw [heap_setCell_same w gd 0 _ _ _ h.dep];rfl,by rw [heap_setCell_other _ _ _ _ (by simpa using p.dw.symm)];exact h.wgt,by rw [heap_setCell_other _ _ _ _ (by simpa using p.dr.symm)];exact h.fn⟩
theorem StV.setW {w:World} {gd gw gr:Nat} {d s:Int} {B:Nat} (h:StV w gd gw gr d s) (p:Pl w B gd gw gr) (s':Int):StV (w.setCell ⟨gw,0,none⟩ (.int .i64 s')) gd gw gr d s':=
 ⟨by rw [heap_setCell_other _ _ _ _ (by simpa using p.dw)];exact h.dep,by rw [heap_setCell_same w gw 0 _ _ _ h.wgt];rfl,by rw [heap_setCell_other _ _ _ _ (by simpa using p.wr.symm)];exact h.fn⟩
theorem below_drew_of' {w w':World} (h:Below w.drew.heap.size w.drew w'):Below w.heap.size w w':=⟨h.os,h.tape,h.output,h.size,h.block⟩
theorem lt_of_row {w:World} {g:Nat} {c:Array Value} {T:TypeId} {f:Nat × Nat} (h:w.heap[g]?=some (.cells c T f)):g<w.heap.size:=(Array.getElem?_eq_some_iff.1 h).1
def RightAt (b:Nat):Prop:=∀(v:Vl) (x:Value) (level s d B gd gw gr:Nat) (w:World),level+b=9→1≤level→IsV w B v x→B≤w.heap.size→Pl w B gd gw gr→StV w gd gw gr (d:Int) (s:Int)→s≤2048 →
 Calls Tryz.prog 163 #[x,.int .i64 (level:Int),.pointer (some ⟨gd,0,none⟩),.pointer (some ⟨gw,0,none⟩),.pointer (some ⟨gr,0,none⟩)] w fun e w'=>
  ∃(d' s':Int),e=.returned (.bool (okB b v && decide (s+wt v≤2048)))∧StV w' gd gw gr d' s'∧Below B w w'∧((okB b v && decide (s+wt v≤2048))=true→s'=((s+wt v:Nat):Int)∧d'=((max d (level - 1+dep v):Nat):Int))
theorem right_zero:RightAt 0:=by
 intro v x level s d B gd gw gr w hlb hl hv hBs hp hst hs
 obtain⟨kind,n,t,l,ks,al,ak,cl,ck,V,rfl,rfl,⟨bk,bn,bs,nl,nk,ll,lk,bl,bc,bq,hl',hv',hk,bt⟩,el⟩:=hv.inv
 clear hv
 focus
  obtain⟨m,hm⟩:=eX (ks.length)
  obtain⟨ln,hln⟩:=eX (l.length)
  obtain⟨w1,hw1⟩:=eX (w.alloc (.cells #[.int .i64 kind,.int .i64 n,.string t,.slice al ln cl,.slice ak m ck] 25))
  have BX:=Box.mk' w (.int .i64 kind) (.int .i64 n) (.string t) (.slice al ln cl) (.slice ak m ck)
  rw [hw1] at BX
  have H:=hZ (And.intro hp (And.intro hst (And.intro BX hBs)))
  obtain rfl:level=9:=by omega
  rw [hm,hln]
  clear hp hst BX hBs hs hlb hl hl' hv' hk bt el bl bc bq ll lk nl nk
  go_enter Tryz.func163,Tryz.ntmps163
  go_wp2_with fail
  go_ret
  obtain⟨hp,hst,BX,hBs⟩:=uZ H
  exact⟨_,_,rfl,hst.keep hp BX.below,BX.below.mono hBs,fun h=>by cases h⟩
theorem keys32:∀(p:Option ByteArray) (ks:List ByteArray),risingFrom p ks=true→∀t∈ks,t.size≤32
 |_,[],_,_,ht=>by cases ht
 |p,u :: r,h,t,ht=>by
  simp only [risingFrom,Bool.and_eq_true,decide_eq_true_eq] at h
  rcases List.mem_cons.1 ht with rfl|ht
  ·exact h.1.1
  ·exact keys32 (some u) r h.2 t ht
theorem form_keys {kind n:Int} {s:ByteArray} {ll:Nat} {ks:List ByteArray} (h:formB kind n s ll ks=true):∀t∈ks,t.size≤32:=by
 unfold formB formM at h
 have nil:ks.length=0→∀t∈ks,t.size≤32:=fun h0 t ht=>by
  rw [List.eq_nil_of_length_eq_zero h0] at ht
  cases ht
 repeat' split at h
 all_goals try simp only [Bool.and_eq_true,decide_eq_true_eq] at h
 ·exact nil h.2
 ·exact nil h.2
 ·exact nil h.2
 ·exact nil h.2
 ·exact nil h.2
 ·exact keys32 none ks h.2
 ·cases h
theorem IsV.keys {w:World} {B:Nat} {kind n:Int} {s:ByteArray} {l:List Vl} {ks:List ByteArray} {al ak:Option Addr} {ll m cl ck:Nat} (h:IsV w B (.mk kind n s l ks) (.agg #[.int .i64 kind,.int .i64 n,.string s,.slice al ll cl,.slice ak m ck])):IsK w ks ak ck∧ll=l.length∧m=ks.length:=by
 obtain⟨_,_,_,h1,h2,V,hf,_⟩:=IsP.at h
 exact⟨⟨fun e=>(hf.nk e).1,hf.lk,hf.bc,fun a ha i u hu=>(hf.hk a ha i u hu).2,hf.bt⟩,h1,h2⟩
theorem IsV.elem {w:World} {B:Nat} {kind n:Int} {s:ByteArray} {l:List Vl} {ks:List ByteArray} {al ak:Option Addr} {ll m cl ck:Nat} (h:IsV w B (.mk kind n s l ks) (.agg #[.int .i64 kind,.int .i64 n,.string s,.slice al ll cl,.slice ak m ck])) (i:Nat) (y:Vl) (hy:l[i]?=some y) :
  ∃(a:Addr) (x0 x1:Int) (x2:ByteArray) (al' ak':Option Addr) (ll' m' cl' ck':Nat),al=some a∧a.block<B∧(∀j v,[Value.int .i64 x0,.int .i64 x1,.string x2,.slice al' ll' cl',.slice ak' m' ck'][j]?=some v→w.cell? ((a.add (i * 5)).add j)=some v)∧IsV w B y (.agg #[.int .i64 x0,.int .i64 x1,.string x2,.slice al' ll' cl',.slice ak' m' ck']):=by
 obtain⟨_,_,_,h1,h2,V,⟨bk,bn,bs,nl,nk,ll',lk,bl,bc,bq,hl',hv',hk,bt⟩,el⟩:=IsP.at h
 focus
  have hi:i<l.length:=(List.getElem?_eq_some_iff.1 hy).1
  cases al with
  |none=>have:=(nl rfl).1;omega
  |some a=>
   have he:=el i y hy
   have hc:=(hl' a rfl i hi).2
   obtain⟨k',n',s',l',ks',al',ak',cl',ck',hy',hx⟩:=he.shape
   have hVi:V i=[.int .i64 k',.int .i64 n',.string s',.slice al' l'.length cl',.slice ak' ks'.length ck']:=by
    have h1:=Value.agg.inj hx
    have h2:=congrArg Array.toList h1
    simpa using h2
   rw [hVi] at hc he
   exact⟨a,k',n',s',al',ak',l'.length,ks'.length,cl',ck',rfl,(hl' a rfl i hi).1,hc,he⟩
theorem right_step (b:Nat) (ih:RightAt b):RightAt (b+1):=by
 intro v x level s d B gd gw gr w hlb hl hv hBs hp hst hs
 have hvw:=hv
 obtain⟨kind,n,t,l,ks,al,ak,cl,ck,V,rfl,rfl,⟨bk,bn,bs,nl,nk,ll,lk,bl,bc,bq,hl',hv',hk,bt⟩,el⟩:=hv.inv
 clear hv
 focus
  obtain⟨m,hm⟩:=eX (ks.length)
  obtain⟨ln,hln⟩:=eX (l.length)
  obtain⟨w1,hw1⟩:=eX (w.alloc (.cells #[.int .i64 kind,.int .i64 n,.string t,.slice al ln cl,.slice ak m ck] 25))
  have BX:=Box.mk' w (.int .i64 kind) (.int .i64 n) (.string t) (.slice al ln cl) (.slice ak m ck)
  rw [hw1] at BX
  obtain⟨c0,c1,c2,c3,c4⟩:=row_cell BX.row
  have hik:IsK w ks ak ck:=⟨fun e=>(nk e).1,lk,bc,fun a ha i u hu=>(hk a ha i u hu).2,bt⟩
  have CF:=hZ (formed_any kind n t ln ks al ak cl ck w1 (hik.mono BX.below) (by omega))
  obtain⟨F,hF⟩:=eX (formB kind n t ln ks)
  obtain⟨g,hg⟩:=eX (w.heap.size)
  rw [hm,hF] at CF
  have H:=hZ (And.intro hp (And.intro hst (And.intro BX (And.intro hBs (And.intro hik hvw)))))
  have HK:=hZ (And.intro hm (And.intro hln (And.intro hF hg)))
  have l1:¬(8:Int)<(level:Int):=by omega
  have hs1:=(uZ H).2.2.1.size
  have hlnb:ln≤140737488351232:=by omega
  rw [hg] at c0 c1 c2 c3 c4
  rw [hm,hln]
  have hoks:okB (b+1) (.mk kind n t l ks)=(F && okL b l):=by simp only [okB];rw [hln,hF]
  have HOK:=hZ hoks
  clear hp hst BX hBs hik hvw hl' hv' hk el nl nk ll lk bl bt hoks
  cases F with
  |false=>
   go_enter Tryz.func163,Tryz.ntmps163
   go_wp2_with fail
   refine(uZ CF).mono ?_
   rintro e w2 ⟨rfl,b2⟩
   have B2:=hZ b2
   clear b2
   go_wp2_with fail
   go_ret
   obtain⟨hp,hst,BX,hBs,_⟩:=uZ H
   have hb:=BX.below.trans ((uZ B2).mono (by have:=BX.size;omega))
   refine⟨_,_,?_,hst.keep hp hb,hb.mono hBs,fun h=>?_⟩
   ·rw [uZ HOK];rfl
   ·rw [uZ HOK] at h;cases h
  |true=>
   have hk32:=form_keys (uZ HK).2.2.1
   have CAL:=fun u (hu:IsK u ks ak ck)=>hZ (alone_any kind n t ln ks al ak cl ck u hu bs hk32)
   obtain⟨A,hA⟩:=eX (1+t.size+keysW ks)
   rw [hm,hA] at CAL
   have HA:Hid (1+t.size+keysW ks=A∧A≤5000000000000000):=hZ ⟨hA,by
    have h1:=keysW_le ks hk32
    have h2:=(uZ H).2.2.2.2.1.len
    omega⟩
   clear hA hk32
   go_enter Tryz.func163,Tryz.ntmps163
   go_wp2_with fail
   refine(uZ CF).mono ?_
   rintro e w2 ⟨rfl,b2⟩
   have B2:=hZ b2
   have P2:Hid (Pl w2 B gd gw gr):=hZ ((uZ H).1.later (by have:=b2.size;omega))
   have S2:Hid (StV w2 gd gw gr (d:Int) (s:Int)):=hZ ((uZ H).2.1.keep (uZ H).1 ((uZ H).2.2.1.below.trans (b2.mono (by omega))))
   have X2:Hid (Below B w w2):=hZ (((uZ H).2.2.1.below.trans (b2.mono (by omega))).mono (uZ H).2.2.2.1)
   have R2:Hid (w2.heap[g]?=some (.cells #[.int .i64 kind,.int .i64 n,.string t,.slice al ln cl,.slice ak m ck] 25 (0,0))):=hZ ((b2.block g (by omega)).trans (by rw [←hg];exact(uZ H).2.2.1.row))
   have dl:=(uZ P2).dl
   obtain⟨q0,f0⟩:=one_cell (uZ S2).dep
   clear b2 CF
   go_upto_region 4 with fail
   have hmx:(if d<level then (level:Int) else (d:Int))=((max d level:Nat):Int):=by split <;> omega
   have hmx2:(max (d:Int) (level:Int))=((max d level:Nat):Int):=by omega
   first|rw [hmx]|rw [hmx2]
   obtain⟨d1,hd1⟩:=eX (max d level)
   rw [hd1]
   obtain⟨w3,hw3⟩:=eX (w2.setCell ⟨gd,0,none⟩ (.int .i64 (d1:Int)))
   rw [hw3]
   have gdl:=(uZ H).1.dl
   have S3:Hid (StV w3 gd gw gr (d1:Int) (s:Int)):=hZ (by rw [←hw3];exact(uZ S2).setD (uZ P2) _)
   have P3:Hid (Pl w3 B gd gw gr):=hZ (by rw [←hw3];exact(uZ P2).later (by simp))
   have X3:Hid (Below B w w3):=hZ (by rw [←hw3];exact(uZ X2).setCell (p:=⟨gd,0,none⟩) (uZ P2).bd _)
   have R3:Hid (w3.heap[g]?=some (.cells #[.int .i64 kind,.int .i64 n,.string t,.slice al ln cl,.slice ak m ck] 25 (0,0))):=hZ (by rw [←hw3,heap_setCell_other _ _ _ _ (by simp;omega)];exact uZ R2)
   have HD1:=hZ hd1
   clear S2 P2 X2 R2 q0 f0 B2 hmx hmx2 hd1 c0 c1 c2 c3 c4 hw3 hw1
   have IK3:Hid (IsK w3 ks ak ck):=hZ ((uZ H).2.2.2.2.2.mono (uZ X3)).keys.1
   have gwl:=(uZ P3).wl
   have gwl0:=(uZ H).1.wl
   obtain⟨q1,f1⟩:=one_cell (uZ S3).wgt
   obtain⟨c0,c1,c2,c3,c4⟩:=row_cell (uZ R3)
   have hAb:=(uZ HA).2
   obtain⟨sA,hsA⟩:=eX (s+A)
   have e1:(s:Int)+(A:Int)=(sA:Int):=by omega
   have e2:IntKind.i64.wrap (sA:Int)=(sA:Int):=by rw [IntKind.wrap_i64];omega
   have HSA:=hZ hsA
   clear hsA
   have CALd:=CAL w3.drew ((uZ IK3).mono ((Below.refl _ _).drew))
   clear CAL
   go_cut [] from 20 (fun wx=>Hid (StV wx gd gw gr (d1:Int) (sA:Int))∧Hid (Pl wx B gd gw gr)∧Hid (Below B w wx)∧Hid (wx.heap[g]?=some (.cells #[.int .i64 kind,.int .i64 n,.string t,.slice al ln cl,.slice ak m ck] 25 (0,0))))
   case first=>
    go_region_with (go_at_call 165;refine(uZ CALd).mono ?_;rintro e w4 ⟨rfl,b4⟩;have q4:=((World.cell?_of_block (b4.block gw gwl)).trans q1);have f4:=(one_cell ((b4.block gw gwl).trans (uZ S3).wgt)).2;have B4:=hZ b4;clear b4)
    all_goals (
     have b34:=hZ (below_drew_of' (uZ B4))
     go_wp2_with fail
     go_meet
     exact⟨hZ (((uZ S3).keep (uZ P3) (uZ b34)).setW ((uZ P3).later (uZ b34).size) _),hZ ((uZ P3).later (by simpa using (uZ b34).size)),hZ (((uZ X3).trans ((uZ b34).mono (Nat.le_trans (uZ H).2.2.2.1 (uZ X3).size))).setCell (p:=⟨gw,0,none⟩) (uZ P3).bw _),hZ (by rw [heap_setCell_other _ _ _ _ (by simp;omega)];exact((uZ b34).block g (lt_of_row (uZ R3))).trans (uZ R3))⟩)
   case rest=>
    obtain⟨S4,P4,X4,R4⟩:=hcut
    clear S3 P3 X3 R3 CALd q1 f1 c0 c1 c2 c3 c4 gwl IK3 e1 e2
    obtain⟨q1,f1⟩:=one_cell (uZ S4).wgt
    obtain⟨c0,c1,c2,c3,c4⟩:=row_cell (uZ R4)
    have hwt:wt (.mk kind n t l ks)=A+wtL l:=by simp only [wt];have:=(uZ HA).1;omega
    have HWT:=hZ hwt
    clear hwt
    by_cases hsm:sA≤2048
    ·have s1:(sA:Int)≤2048:=by omega
     go_wp2_with fail
     have HD0:Hid (max d level=d1):=HD1
     have D0:Hid (okL b (l.take 0)=true∧sA=sA+wtL (l.take 0)∧d1=max d1 (level+depL (l.take 0))):=hZ ⟨by simp [okL],by simp [wtL],by have:=uZ HD1;simp [depL];omega⟩
     clear q1 f1 c0 c1 c2 c3 c4 R4
     go_loopw [29] (fun x wr=>∃(i si di:Nat),i≤ln∧x=.int .i64 i∧si≤2048∧Hid (StV wr gd gw gr (di:Int) (si:Int))∧Hid (Pl wr B gd gw gr)∧Hid (Below B w wr)∧Hid (okL b (l.take i)=true∧si=sA+wtL (l.take i)∧di=max d1 (level+depL (l.take i)))) (fun x _=>ln - (intOf x).toNat)
     case atStart=>exact⟨0,sA,d1,by omega,rfl,hsm,S4,P4,X4,D0⟩
     case round=>
      clear S4 P4 X4 D0
      obtain⟨i,si,di,hi,rfl,hsi,HS,HP,HX,HD⟩:=hrel
      by_cases hlt:i<ln
      ·have HI1:Hid (i+1≤ln):=hZ (by omega)
       obtain⟨y,hy⟩:∃y,l[i]?=some y:=⟨_,List.getElem?_eq_getElem (by omega)⟩
       obtain⟨a,y0,y1,y2,al',ak',ll',m',cl',ck',rfl,hab,hce,hve⟩:=((uZ H).2.2.2.2.2.mono (uZ HX)).elem i y hy
       have e0:wr.cell? (a.add (i * 5))=some (.int .i64 y0):=hce 0 (.int .i64 y0) rfl
       have e1:wr.cell? ⟨(a.add (i * 5)).block,(a.add (i * 5)).off+1,none⟩=some (.int .i64 y1):=hce 1 (.int .i64 y1) rfl
       have e2:wr.cell? ⟨(a.add (i * 5)).block,(a.add (i * 5)).off+2,none⟩=some (.string y2):=hce 2 (.string y2) rfl
       have e3:wr.cell? ⟨(a.add (i * 5)).block,(a.add (i * 5)).off+3,none⟩=some (.slice al' ll' cl'):=hce 3 (.slice al' ll' cl') rfl
       have e4:wr.cell? ⟨(a.add (i * 5)).block,(a.add (i * 5)).off+4,none⟩=some (.slice ak' m' ck'):=hce 4 (.slice ak' m' ck') rfl
       obtain⟨w5,hw5⟩:=eX (wr.alloc (.cells #[(.int .i64 y0),(.int .i64 y1),(.string y2),(.slice al' ll' cl'),(.slice ak' m' ck')] 25))
       have BX5:=Box.mk' wr (.int .i64 y0) (.int .i64 y1) (.string y2) (.slice al' ll' cl') (.slice ak' m' ck')
       rw [hw5] at BX5
       obtain⟨p0,p1,p2,p3,p4⟩:=row_cell BX5.row
       have S5:Hid (StV w5 gd gw gr (di:Int) (si:Int)):=hZ ((uZ HS).keep (uZ HP) BX5.below)
       have P5:Hid (Pl w5 B gd gw gr):=hZ ((uZ HP).later (by have:=BX5.size;omega))
       have hBr:B≤wr.heap.size:=Nat.le_trans (uZ H).2.2.2.1 (uZ HX).size
       have X5:Hid (Below B w w5):=hZ ((uZ HX).trans (BX5.below.mono hBr))
       have qr:=(one_cell (uZ S5).fn).1
       have HV:=hZ (hve.mono (BX5.below.mono hBr))
       have HY:=hZ hy
       have CI:=hZ (ih y (.agg #[(.int .i64 y0),(.int .i64 y1),(.string y2),(.slice al' ll' cl'),(.slice ak' m' ck')]) (level+1) si di B gd gw gr w5 (by omega) (by omega) (uZ HV) (by have:=BX5.size;omega) (uZ P5) (uZ S5) hsi)
       clear hce hve hy BX5
       rw [show (((level+1:Nat)):Int)=(level:Int)+1 by omega] at CI
       obtain⟨R,hR⟩:=eX ((okB b y && decide (si+wt y≤2048)))
       rw [hR] at CI
       have HR:=hZ hR
       clear hR
       go_wp2_with fail
       refine(uZ CI).mono ?_
       rintro e w6 ⟨d',s',rfl,s6,b6,hok⟩
       have X6:Hid (Below B w w6):=hZ ((uZ X5).trans b6)
       have P6:Hid (Pl w6 B gd gw gr):=hZ ((uZ P5).later b6.size)
       have S6:=hZ s6
       have HO:=hZ hok
       clear s6 b6 hok CI
       cases R with
       |false=>
        go_wp2_with fail
        go_ret
        have hno:(okB (b+1) (.mk kind n t l ks) && decide (s+wt (.mk kind n t l ks)≤2048))=false:=by
         rw [uZ HOK,uZ HWT]
         have hr:=uZ HR
         rw [Bool.and_eq_false_iff] at hr
         rcases hr with hr|hr
         ·rw [okL_of_take b l i y (uZ HY) hr];rfl
         ·have h1:=wt_le_wtL l i y (uZ HY)
          have h2:=(uZ HD).2.1
          have h3:=uZ HSA
          rw [decide_eq_false_iff_not] at hr
          rw [decide_eq_false (by omega),Bool.and_false]
        exact⟨_,_,by rw [hno];rfl,uZ S6,uZ X6,fun h=>by rw [hno] at h;cases h⟩
       |true=>
        obtain⟨es,ed⟩:=uZ HO rfl
        rw [es,ed] at S6
        have hr:=uZ HR
        rw [Bool.and_eq_true,decide_eq_true_eq] at hr
        have hsi':=hr.2
        have HD':Hid (okL b (l.take (i+1))=true∧si+wt y=sA+wtL (l.take (i+1))∧max di (level+1 - 1+dep y)=max d1 (level+depL (l.take (i+1)))):=hZ (by
         refine⟨by rw [okL_next b l i y (uZ HY),(uZ HD).1,hr.1];rfl,?_,?_⟩
         ·rw [wtL_next l i y (uZ HY)];have:=(uZ HD).2.1;omega
         ·rw [depL_next l i y (uZ HY)];have:=(uZ HD).2.2;omega)
        clear es ed hr HO
        go_wp2_with fail
        go_roundw
        case rel=>exact⟨i+1,si+wt y,max di (level+1 - 1+dep y),uZ HI1,by go_num,hsi',S6,P6,X6,HD'⟩
        case measure=>have:=uZ HI1;simp [intOf];omega
      ·have hi':i=ln:=by omega
       subst hi'
       have hfin:(okB (b+1) (.mk kind n t l ks) && decide (s+wt (.mk kind n t l ks)≤2048))=true∧si=s+wt (.mk kind n t l ks)∧di=max d (level - 1+dep (.mk kind n t l ks)):=by
        have hd:=uZ HD
        rw [List.take_of_length_le (by omega)] at hd
        have h3:=uZ HSA
        have h4:=uZ HD1
        rw [uZ HOK,uZ HWT,hd.1]
        refine⟨by simp;omega,by omega,?_⟩
        simp only [dep]
        omega
       have HF:=hZ hfin
       clear hfin
       go_wp2_with fail
       go_ret
       exact⟨_,_,by rw [(uZ HF).1];rfl,uZ HS,uZ HX,fun _=>⟨by rw [(uZ HF).2.1],by rw [(uZ HF).2.2]⟩⟩
    ·have s1:(2048:Int)<(sA:Int):=by omega
     go_wp2_with fail
     go_ret
     have hno:(okB (b+1) (.mk kind n t l ks) && decide (s+wt (.mk kind n t l ks)≤2048))=false:=by
      rw [uZ HWT,Bool.and_eq_false_iff]
      right
      have:=uZ HSA
      simp
      omega
     exact⟨_,_,by rw [hno];rfl,uZ S4,uZ X4,fun h=>by rw [hno] at h;cases h⟩
theorem right_any:∀b,RightAt b
 |0=>right_zero
 |b+1=>right_step b (right_any b)
def rightB (v:Vl):Bool:=okB 8 v && decide (wt v≤2048)
def wt0 (v:Vl):Nat:=if rightB v then wt v else 0
def dep0 (v:Vl):Nat:=if rightB v then dep v else 0
theorem ret_cells {fn:Func} {p q:Tmp} (h:fn.results=#[.cell p 3,.cell q 3]) (tmps:Array Value) (w:World) (gp gq:Nat) (x y:Int) (hp:tmps.getD p undef=.pointer (some ⟨gp,0,none⟩)) (hq:tmps.getD q undef=.pointer (some ⟨gq,0,none⟩))
  (hx:w.cell? ⟨gp,0,none⟩=some (.int .i64 x)) (hy:w.cell? ⟨gq,0,none⟩=some (.int .i64 y)):(results fn tmps).run Tryz.prog w=.ok (.tuple #[.int .i64 x,.int .i64 y]) w:=by
 have hp':tmps[p]?.getD undef=.pointer (some ⟨gp,0,none⟩):=by simpa using hp
 have hq':tmps[q]?.getD undef=.pointer (some ⟨gq,0,none⟩):=by simpa using hq
 simp only [results,h]
 go_simp
theorem measure_any (v:Vl) (x:Value) (B:Nat) (w:World) (hv:IsV w B v x) (hBs:B≤w.heap.size) :
  Calls Tryz.prog 152 #[x] w fun e w'=>e=.returned (.tuple #[.int .i64 (wt0 v:Int),.int .i64 (dep0 v:Int)])∧Below w.heap.size w w':=by
 obtain⟨k',n',s',l',ks',al',ak',cl',ck',hy',hx⟩:=hv.shape
 obtain⟨ll,hll⟩:=eX (l'.length)
 obtain⟨m,hm⟩:=eX (ks'.length)
 rw [hll,hm] at hx
 subst hx
 obtain⟨w1,hw1⟩:=eX (w.alloc (.cells #[.int .i64 k',.int .i64 n',.string s',.slice al' ll cl',.slice ak' m ck'] 25))
 have BX:=Box.mk' w (.int .i64 k') (.int .i64 n') (.string s') (.slice al' ll cl') (.slice ak' m ck')
 rw [hw1] at BX
 obtain⟨g,hg⟩:=eX (w.heap.size)
 have z1:=BX.size
 rw [hg] at z1
 obtain⟨w2,hw2⟩:=eX (w1.alloc (.cells #[.int .i64 0] 3))
 obtain⟨w3,hw3⟩:=eX (w2.alloc (.cells #[.int .i64 0] 3))
 obtain⟨w4,hw4⟩:=eX (w3.alloc (.cells #[.nilFunc] 148))
 have z2:w2.heap.size=g+2:=by rw [←hw2];simp [z1]
 have z3:w3.heap.size=g+3:=by rw [←hw3];simp [z2]
 have z4:w4.heap.size=g+4:=by rw [←hw4];simp [z3]
 have b12:=alB hw2
 have b23:=alB hw3
 have b34:=alB hw4
 have r2:w2.heap[g+1]?=some (.cells #[.int .i64 0] 3 (0,0)):=by rw [←hw2,←z1];exact heap_alloc_new w1 _
 have r3:w3.heap[g+2]?=some (.cells #[.int .i64 0] 3 (0,0)):=by rw [←hw3,←z2];exact heap_alloc_new w2 _
 have r4:w4.heap[g+3]?=some (.cells #[.nilFunc] 148 (0,0)):=by rw [←hw4,←z3];exact heap_alloc_new w3 _
 obtain⟨w5,hw5⟩:=eX (w4.setCell ⟨g+3,0,none⟩ (.func (.func 163) #[] #[.pointer (some ⟨g+2,0,none⟩),.pointer (some ⟨g+1,0,none⟩),.pointer (some ⟨g+3,0,none⟩)]))
 have z5:w5.heap.size=g+4:=by rw [←hw5];simp [z4]
 have S5:StV w5 (g+2) (g+1) (g+3) ((0:Nat):Int) ((0:Nat):Int):=by
  refine⟨?_,?_,?_⟩
  ·rw [←hw5,heap_setCell_other _ _ _ _ (by simp),b34.block _ (by omega)];exact r3
  ·rw [←hw5,heap_setCell_other _ _ _ _ (by simp),b34.block _ (by omega),b23.block _ (by omega)];exact r2
  ·rw [←hw5,heap_setCell_same w4 (g+3) 0 _ _ _ r4];rfl
 have P5:Pl w5 g (g+2) (g+1) (g+3):=⟨by omega,by omega,by omega,by omega,by omega,by omega,by omega,by omega,by omega⟩
 have X5:Below g w w5:=by
  have h:=((BX.below.trans (b12.mono (by omega))).trans (b23.mono (by omega))).trans (b34.mono (by omega))
  rw [hg] at h
  rw [←hw5]
  exact h.setCell (p:=⟨g+3,0,none⟩) (by show g≤g+3;omega) _
 have R5:w5.heap[g]?=some (.cells #[.int .i64 k',.int .i64 n',.string s',.slice al' ll cl',.slice ak' m ck'] 25 (0,0)):=by
  rw [←hw5,heap_setCell_other _ _ _ _ (by simp),b34.block _ (by omega),b23.block _ (by omega),b12.block _ (by omega),←hg]
  exact BX.row
 have q4:w4.cell? ⟨g+3,0,none⟩=some .nilFunc:=(one_cell r4).1
 have f4:w4.frozen? ⟨g+3,0,none⟩=false:=(one_cell r4).2
 have qr:w5.cell? ⟨g+3,0,none⟩=some (.func (.func 163) #[] #[.pointer (some ⟨g+2,0,none⟩),.pointer (some ⟨g+1,0,none⟩),.pointer (some ⟨g+3,0,none⟩)]):=(one_cell S5.fn).1
 obtain⟨c0,c1,c2,c3,c4⟩:=row_cell R5
 have CI:=hZ (right_any 8 v _ 1 0 0 g (g+2) (g+1) (g+3) w5 (by omega) (by omega) ((hv.lift (by omega)).mono X5) (by omega) P5 S5 (by omega))
 have H:=hZ (And.intro P5 (And.intro X5 hy'))
 clear BX b12 b23 b34 r2 r3 r4 S5 P5 X5 R5 hv hy'
 rw [hg]
 simp only [Nat.zero_add] at CI
 obtain⟨R,hR⟩:=eX ((okB 8 v && decide (wt v≤2048)))
 rw [hR] at CI
 have HR:=hZ hR
 clear hR
 go_enter Tryz.func152,Tryz.ntmps152
 go_wp2_with fail
 refine(uZ CI).mono ?_
 rintro e w6 ⟨d',s',rfl,s6,b6,hok⟩
 have S6:=hZ s6
 have X6:Hid (Below g w w6):=hZ ((uZ H).2.1.trans b6)
 have P6:Hid (Pl w6 g (g+2) (g+1) (g+3)):=hZ ((uZ H).1.later b6.size)
 have HO:=hZ hok
 obtain⟨qd,fd⟩:=one_cell s6.dep
 obtain⟨qw,fw⟩:=one_cell s6.wgt
 clear s6 b6 hok CI c0 c1 c2 c3 c4 qr q4 f4 hw1 hw2 hw3 hw4 hw5
 cases R with
 |false=>
  have S7:=hZ (((uZ S6).setW (uZ P6) 0).setD ((uZ P6).later (by simp)) 0)
  have X7:=hZ (((uZ X6).setCell (p:=⟨g+1,0,none⟩) (by show g≤g+1;omega) (.int .i64 0)).setCell (p:=⟨g+2,0,none⟩) (by show g≤g+2;omega) (.int .i64 0))
  have hr:rightB v=false:=uZ HR
  have HZ:Hid (wt0 v=0∧dep0 v=0):=hZ (by unfold wt0 dep0;rw [hr];exact⟨rfl,rfl⟩)
  clear hr
  go_wp2_with fail
  refine bodyPost_ret (ret_cells rfl _ _ (g+1) (g+2) 0 0 rfl rfl (one_cell (uZ S7).wgt).1 (one_cell (uZ S7).dep).1) rfl ⟨by rw [(uZ HZ).1,(uZ HZ).2];rfl,uZ X7⟩
 |true=>
  obtain⟨es,ed⟩:=uZ HO rfl
  subst es
  subst ed
  go_wp2_with fail
  go_region
  have hr:rightB v=true:=uZ HR
  have HZ:Hid (wt0 v=wt v∧dep0 v=dep v):=hZ (by unfold wt0 dep0;rw [hr];exact⟨rfl,rfl⟩)
  obtain⟨W,hW⟩:∃W:Nat,wt v=W:=⟨_,rfl⟩
  obtain⟨D,hD⟩:∃D:Nat,dep v=D:=⟨_,rfl⟩
  rw [hW,hD] at HZ
  rw [hW,hD]
  have S7:=hZ (((uZ S6).setW (uZ P6) (W:Int)).setD ((uZ P6).later (by simp)) (D:Int))
  have X7:=hZ ((((uZ X6).setCell (p:=⟨g+1,0,none⟩) (by show g≤g+1;omega) (.int .i64 (W:Int))).setCell (p:=⟨g+2,0,none⟩) (by show g≤g+2;omega) (.int .i64 (D:Int))).drew)
  clear hr HO S6
  go_wp2_with fail
  refine bodyPost_ret (ret_cells rfl _ _ (g+1) (g+2) (W:Int) (D:Int) rfl rfl (one_cell (uZ S7).wgt).1 (one_cell (uZ S7).dep).1) rfl ⟨by rw [(uZ HZ).1,(uZ HZ).2],uZ X7⟩
set_option linter.unusedVariables false
set_option linter.unusedSimpArgs false
def cvs:List Vl→Nat
 |[]=>0
 |.mk _ _ _ l _ :: r=>1+cvs l+cvs r
def cns:List Tn→Nat
 |[]=>0
 |.mk _ _ v _ ks _ :: r=>1+cvs v.l+cns ks+cns r
theorem cvs_at:∀(l:List Vl) (i:Nat) (y:Vl),l[i]?=some y→cvs (l.drop i)=1+cvs y.l+cvs (l.drop (i+1))
 |[],i,y,h=>by simp at h
 |.mk k n s l ks :: r,0,y,h=>by
  simp only [List.getElem?_cons_zero,Option.some.injEq] at h
  subst h
  simp [cvs]
 |.mk k n s l ks :: r,i+1,y,h=>by
  simp only [List.drop_succ_cons]
  exact cvs_at r i y (by simpa using h)
theorem cns_at:∀(l:List Tn) (i:Nat) (y:Tn),l[i]?=some y→cns (l.drop i)=1+cvs y.v.l+cns y.ks+cns (l.drop (i+1))
 |[],i,y,h=>by simp at h
 |.mk k t v f ks p :: r,0,y,h=>by
  simp only [List.getElem?_cons_zero,Option.some.injEq] at h
  subst h
  simp [cns]
 |.mk k t v f ks p :: r,i+1,y,h=>by
  simp only [List.drop_succ_cons]
  exact cns_at r i y (by simpa using h)
theorem cns_one (y:Tn):cns [y]=1+cvs y.v.l+cns y.ks:=by
 obtain⟨k,t,v,f,ks,p⟩:=y
 simp [cns]
def isEx (k:Int):Bool:=decide (k=13∨k=14∨k=15∨k=16∨k=17∨k=18∨k=19∨k=21∨k=22)
def isStm (k:Int):Bool:=decide (k=5∨k=6∨k=7∨k=8∨k=9∨k=10∨k=11∨k=12)
def txB (k:Int) (t:ByteArray):Bool:=
 if k=2∨k=3∨k=5∨k=6∨k=14∨k=15∨k=22 then nameL t.data.toList
 else if k=16 then decide (t.toList=[45]) ||decide (t.toList=[33])
 else if k=17 then decide (0<bnS t.toList)
 else if k=20 then decide (t.size≤32)
 else decide (t.toList=[])
def flB (k:Int) (f:Bool):Bool:=decide (k=2) ||!f
def vlB (k:Int) (v:Vl):Bool:=
 if k=13 then
  (if v.kind=0∨v.kind=1∨v.kind=3 then rightB v else if v.kind=2 then decide (0≤v.n) && rightB v else false)
 else decide (v.kind=0) && decide (v.n=0) && decide (v.s.toList=[]) && decide (v.l.length=0) && decide (v.ks.length=0)
def kdB (k:Int) (l:List Int):Bool:=
 if k=1 then l.all (fun x=>decide (x=2))
 else if k=2 then decide (1≤l.length) && (l.take (l.length - 1)).all (fun x=>decide (x=3)) && decide (l[l.length - 1]?=some 4)
 else if k=4 then l.all isStm
 else if k=7 then decide (l.length=2) && (isEx ((l[0]?).getD 0) && decide (l[1]?=some 4)) ||decide (l.length=3) && (isEx ((l[0]?).getD 0) && decide (l[1]?=some 4)) && (decide (l[2]?=some 4) ||decide (l[2]?=some 7))
 else if k=8 then decide (l.length=2) && (isEx ((l[0]?).getD 0) && decide (l[1]?=some 4))
 else if k=5∨k=9 then decide (l.length≤1) && l.all isEx
 else if k=6∨k=12∨k=16∨k=22∨k=20 then decide (l.length=1) && isEx ((l[0]?).getD 0)
 else if k=17∨k=21 then decide (l.length=2) && l.all isEx
 else if k=15∨k=18 then l.all isEx
 else if k=19 then l.all (fun x=>decide (x=20))
 else if k=3∨k=10∨k=11∨k=13∨k=14 then decide (l.length=0)
 else false
def rwB (n:Tn):Bool:=txB n.k n.t && flB n.k n.f && vlB n.k n.v && kdB n.k (n.ks.map (·.k))
def fmL:List Tn→Bool
 |[]=>true
 |.mk k t v f ks p :: r=>rwB (.mk k t v f ks p) && fmL ks && fmL r
def fmB (n:Tn):Bool:=rwB n && fmL n.ks
theorem fmL_cons (n:Tn) (r:List Tn):fmL (n :: r)=(fmB n && fmL r):=by
 obtain⟨k,t,v,f,ks,p⟩:=n
 simp only [fmL,fmB]
theorem fmL_all:∀l:List Tn,fmL l=l.all fmB
 |[]=>by simp only [fmL];rfl
 |n :: r=>by rw [fmL_cons,fmL_all r];rfl
def brk (k:Int) (t:ByteArray) (ky:Int) (ty:ByteArray) (i:Nat):Bool:=
 if k=16 then decide (ky=17) else if k=21∨k=22 then decide (i=0∧(ky=16∨ky=17)) else
 if k=17 then decide (ky=17∧((bnS ty.toList=bnS t.toList∧(i=1∨bnS t.toList=3))∨bnS ty.toList<bnS t.toList)) else false
def opn (k:Int):Nat:=if k=4∨k=15∨k=21∨k=18∨k=19∨k=16 then 1 else 0
def arnd (k:Int) (t:ByteArray) (ky:Int) (ty:ByteArray) (i:Nat):Nat:=(if k=21∧i=0 then 0 else opn k)+(if brk k t ky ty i then 1 else 0)
def dpL (k:Int) (t:ByteArray):Nat→List Tn→Nat
 |_,[]=>0
 |i,.mk ky ty v f ks p :: r=>max (arnd k t ky ty i+max (opn ky) (dpL ky ty 0 ks)) (dpL k t (i+1) r)
def dpN (n:Tn):Nat:=max (opn n.k) (dpL n.k n.t 0 n.ks)
theorem dpL_cons (k:Int) (t:ByteArray) (i:Nat) (y:Tn) (r:List Tn):dpL k t i (y :: r)=max (arnd k t y.k y.t i+dpN y) (dpL k t (i+1) r):=by
 obtain⟨ky,ty,v,f,ks,p⟩:=y
 simp only [dpL,dpN]
def rgB (n:Tn):Bool:=decide (cns [n]≤20000) && fmB n && decide (dpN n≤24)
end Go.Proofs.YtjdpaihhhjdgmaaGreatDoor
