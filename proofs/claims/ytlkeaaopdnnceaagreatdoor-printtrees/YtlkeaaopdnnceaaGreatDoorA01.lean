/-
  trees of nodes, and how they lie in memory, wherever they came from.
  what is made of each node, with a word between, is a text.
  what is made of each node, with a word between, is a text: print.listed.
  listed, name and written.
  names, and how much a sign binds.
  Tokens, as functions of lists of bytes.
  Conditions: where nodes are told of, they lie in memory.
-/
import Derived.Test.YtlkeaaopdnnceaaGreatDoorA00
import Derived.Deep.LoopGhost
import Derived.Deep.Cut
import Derived.WalkKit
set_option linter.unusedVariables false
set_option linter.unusedSimpArgs false
set_option maxRecDepth 100000
set_option maxHeartbeats 8000000
namespace Go.Proofs.YtlkeaaopdnnceaaGreatDoor
open Go.RowKit
set_option linter.unusedVariables false
set_option linter.unusedSimpArgs false
structure Tn where
 mk ::
 k:Int
 t:ByteArray
 v:Vl
 f:Bool
 ks:List Tn
 p:Int
def tnV (k:Int) (t:ByteArray) (c:List Value) (f:Bool) (a:Option Addr) (n cc:Nat) (p:Int):List Value:=.int .i64 k :: .string t :: (c++[.bool f,.slice a n cc,.int .i64 p])
structure NF (w:World) (P:Nat→Prop) (k p:Int) (t:ByteArray) (ks:List Tn) (a:Option Addr) (cc:Nat) (C:Nat→List Value):Prop where
 bk:-9223372036854775808≤k∧k≤9223372036854775807
 bp:-9223372036854775808≤p∧p≤9223372036854775807
 bt:t.size≤140737488351232
 nl:a=none→ks.length=0∧cc=0
 ll:ks.length≤cc
 bl:ks.length≤140737488351232
 hl:∀x,a=some x→∀i,i<ks.length→P x.block∧∀j v,(C i)[j]?=some v→w.cell? ((x.add (i * 10)).add j)=some v
 hv:∀i,i<ks.length→(C i).length=10
def IsNs (w:World) (P:Nat→Prop):List Tn→(Nat→List Value)→Prop
 |[],_=>True
 |.mk k t v f ks p :: r,C=>(∃(c:List Value) (a:Option Addr) (cc:Nat) (C':Nat→List Value),C 0=tnV k t c f a ks.length cc p∧c.length=5∧IsP w P v (.agg c.toArray)∧NF w P k p t ks a cc C'∧IsNs w P ks C')∧IsNs w P r (fun i=>C (i+1))
def IsN (w:World) (P:Nat→Prop) (n:Tn) (x:List Value):Prop:=∃(c:List Value) (a:Option Addr) (cc:Nat) (C:Nat→List Value),x=tnV n.k n.t c n.f a n.ks.length cc n.p∧c.length=5∧IsP w P n.v (.agg c.toArray)∧NF w P n.k n.p n.t n.ks a cc C∧IsNs w P n.ks C
theorem IsNs_iff (w:World) (P:Nat→Prop):∀(l:List Tn) (C:Nat→List Value),IsNs w P l C↔∀i y,l[i]?=some y→IsN w P y (C i)
 |[],C=>by simp [IsNs]
 |.mk k t v f ks p :: r,C=>by
  have ih:=IsNs_iff w P r (fun i=>C (i+1))
  simp only [IsNs]
  constructor
  ·rintro ⟨h1,h2⟩ i y hi
   cases i with
   |zero=>
    simp only [List.getElem?_cons_zero,Option.some.injEq] at hi
    subst hi
    exact h1
   |succ i=>exact ih.1 h2 i y (by simpa using hi)
  ·intro h
   exact⟨h 0 _ rfl,ih.2 (fun i y hi=>h (i+1) y (by simpa using hi))⟩
theorem NF.to {w w':World} {P Q:Nat→Prop} (hw:∀b,P b→w'.heap[b]?=w.heap[b]?) (hP:∀b,P b→Q b) {k p:Int} {t:ByteArray} {ks:List Tn} {a:Option Addr} {cc:Nat} {C:Nat→List Value} (h:NF w P k p t ks a cc C):NF w' Q k p t ks a cc C:=
 ⟨h.bk,h.bp,h.bt,h.nl,h.ll,h.bl,fun x hx i hi=>⟨hP _ (h.hl x hx i hi).1,fun j v hj=>by
  have h1:=(h.hl x hx i hi).2 j v hj
  have e:((x.add (i * 10)).add j).block=x.block:=by unfold Addr.add;split <;> (split <;> rfl)
  have e2:w'.heap[((x.add (i * 10)).add j).block]?=w.heap[((x.add (i * 10)).add j).block]?:=by rw [e];exact hw _ (h.hl x hx i hi).1
  exact(World.cell?_of_block e2).trans h1⟩,h.hv⟩
theorem IsNs.to {w w':World} {P Q:Nat→Prop} (hw:∀b,P b→w'.heap[b]?=w.heap[b]?) (hP:∀b,P b→Q b):∀(l:List Tn) (C:Nat→List Value),IsNs w P l C→IsNs w' Q l C
 |[],_,_=>by simp [IsNs]
 |.mk k t v f ks p :: r,C,h=>by
  simp only [IsNs] at h ⊢
  obtain⟨⟨c,a,cc,C',h1,h5,h2,h3,h4⟩,hr⟩:=h
  exact⟨⟨c,a,cc,C',h1,h5,h2.to hw hP,h3.to hw hP,IsNs.to hw hP ks C' h4⟩,IsNs.to hw hP r _ hr⟩
theorem IsN.to {w w':World} {P Q:Nat→Prop} (hw:∀b,P b→w'.heap[b]?=w.heap[b]?) (hP:∀b,P b→Q b) {n:Tn} {x:List Value} (h:IsN w P n x):IsN w' Q n x:=by
 obtain⟨c,a,cc,C,h1,h5,h2,h3,h4⟩:=h
 exact⟨c,a,cc,C,h1,h5,h2.to hw hP,h3.to hw hP,IsNs.to hw hP _ C h4⟩
theorem IsN.shape {w:World} {P:Nat→Prop} {n:Tn} {x:List Value} (h:IsN w P n x):∃(vk vn:Int) (vs:ByteArray) (al ak a:Option Addr) (ll cl lk ck cc:Nat),x=[.int .i64 n.k,.string n.t,.int .i64 vk,.int .i64 vn,.string vs,.slice al ll cl,.slice ak lk ck,.bool n.f,.slice a n.ks.length cc,.int .i64 n.p]∧n.v.kind=vk∧n.v.n=vn∧n.v.s=vs∧n.v.l.length=ll∧n.v.ks.length=lk:=by
 obtain⟨c,a,cc,C,h1,h5,⟨al,ak,cl,ck,V,hx,_⟩,_⟩:=h
 unfold hd at hx
 injection hx with hx
 have hc:c=[.int .i64 n.v.kind,.int .i64 n.v.n,.string n.v.s,.slice al n.v.l.length cl,.slice ak n.v.ks.length ck]:=by
  have:=congrArg Array.toList hx
  simpa using this
 subst hc
 exact⟨_,_,_,al,ak,a,_,cl,_,ck,cc,h1,rfl,rfl,rfl,rfl,rfl⟩
def jl (s:List UInt8):Bool→List (List UInt8)→List UInt8
 |_,[]=>[]
 |b,x :: r=>(if b then x else s++x)++jl s false r
theorem jl_app (s x:List UInt8):∀(b:Bool) (l:List (List UInt8)),jl s b (l++[x])=jl s b l++(if (b && l.isEmpty)=true then x else s++x)
 |b,[]=>by cases b <;> simp [jl]
 |b,y :: r=>by simp only [List.cons_append,jl,jl_app s x false r];simp
theorem jl_len (s:List UInt8):∀(b:Bool) (l m:List (List UInt8)),(jl s b l).length≤(jl s b (l++m)).length
 |b,[],m=>by simp [jl]
 |b,y :: r,m=>by have:=jl_len s false r m;simp only [List.cons_append,jl,List.length_append];omega
def Put (B0:Nat) (w:World) (v:Value) (ns:List Tn) (T:Tn→List UInt8):Prop:=∃(F:FuncId) (cap:Array Value),v=.func (.func F) #[] cap∧(∀(x:Array Value) (u:World),Sem.run Tryz.prog (callFunc F x) u=.ok (.enter F x) u)∧∀(u:World) (y:Tn) (x:List Value),Kp B0 w u→B0≤u.heap.size→y∈ns→IsN u (fun b=>b<B0) y x →
  Calls Tryz.prog F (#[.agg x.toArray]++cap) u fun e u'=>∃t,e=.returned t∧Txt B0 u' t (T y)∧Below u.heap.size u u'
theorem call_listed (x:Array Value) (u:World):Sem.run Tryz.prog (callFunc 67 x) u=.ok (.enter 67 x) u:=by kernel_rfl
def RowN (w:World) (B0:Nat) (ns:List Tn) (a:Option Addr) (cc:Nat):Prop:=∃C,NF w (fun b=>b<B0) 0 0 ⟨#[]⟩ ns a cc C∧IsNs w (fun b=>b<B0) ns C
theorem RowN.later {w u:World} {B0:Nat} {ns:List Tn} {a:Option Addr} {cc:Nat} (h:RowN w B0 ns a cc) (hb:Below B0 w u):RowN u B0 ns a cc:=by
 obtain⟨C,h1,h2⟩:=h
 exact⟨C,h1.to (fun b hl=>hb.block b hl) (fun _ h=>h),IsNs.to (fun b hl=>hb.block b hl) (fun _ h=>h) _ _ h2⟩
theorem RowN.at {w:World} {B0:Nat} {ns:List Tn} {a:Option Addr} {cc:Nat} (h:RowN w B0 ns a cc) {i:Nat} {y:Tn} (hi:ns[i]?=some y):∃(b:Addr) (z:List Value),a=some b∧ns.length≤cc∧IsN w (fun b=>b<B0) y z∧∀j v,z[j]?=some v→w.cell? ((b.add (i * 10)).add j)=some v:=by
 obtain⟨C,hf,hk⟩:=h
 have hlt:i<ns.length:=(List.getElem?_eq_some_iff.1 hi).1
 cases a with
 |none=>have:=(hf.nl rfl).1;omega
 |some b=>exact⟨b,C i,rfl,hf.ll,(IsNs_iff w _ _ _).1 hk i y hi,(hf.hl b rfl i hlt).2⟩
theorem Put.later {B0:Nat} {w u:World} {v:Value} {ns:List Tn} {T:Tn→List UInt8} (h:Put B0 w v ns T) (k:Kp B0 w u):Put B0 u v ns T:=by
 obtain⟨F,cap,e,hf,h⟩:=h
 exact⟨F,cap,e,hf,fun x y z hk=>h x y z (k.trans hk)⟩
theorem one_box {w:World} {g:Nat} {v:Value} {T:TypeId} (h:w.heap[g]?=some (.cells #[v] T (0,0))):w.cell? ⟨g,0,none⟩=some v:=by rw [cell_of_row w g 0 _ _ (0,0) h];rfl
theorem row_ten {w:World} {g:Nat} {v0 v1 v2 v3 v4 v5 v6 v7 v8 v9:Value} {T:TypeId} (h:w.heap[g]?=some (.cells #[v0,v1,v2,v3,v4,v5,v6,v7,v8,v9] T (0,0))):w.cell? ⟨g,0,none⟩=some v0∧w.cell? ⟨g,1,none⟩=some v1∧w.cell? ⟨g,2,none⟩=some v2∧w.cell? ⟨g,3,none⟩=some v3∧w.cell? ⟨g,4,none⟩=some v4∧w.cell? ⟨g,5,none⟩=some v5∧w.cell? ⟨g,6,none⟩=some v6∧w.cell? ⟨g,7,none⟩=some v7∧w.cell? ⟨g,8,none⟩=some v8∧w.cell? ⟨g,9,none⟩=some v9:=
 ⟨by rw [cell_of_row w g 0 _ _ (0,0) h];rfl,by rw [cell_of_row w g 1 _ _ (0,0) h];rfl,by rw [cell_of_row w g 2 _ _ (0,0) h];rfl,by rw [cell_of_row w g 3 _ _ (0,0) h];rfl,by rw [cell_of_row w g 4 _ _ (0,0) h];rfl,by rw [cell_of_row w g 5 _ _ (0,0) h];rfl,by rw [cell_of_row w g 6 _ _ (0,0) h];rfl,by rw [cell_of_row w g 7 _ _ (0,0) h];rfl,by rw [cell_of_row w g 8 _ _ (0,0) h];rfl,by rw [cell_of_row w g 9 _ _ (0,0) h];rfl⟩
theorem Bd.later {w w':World} {B b:Nat} {l:List UInt8} (h:Bd w B b l) (hb:Below w.heap.size w w'):Bd w' B b l:=by
 have one:∀p,Lib.BuilderAtF 50 5 B b p (Lib.byteCells l) w→Lib.BuilderAtF 50 5 B b p (Lib.byteCells l) w':=fun p hp=>by
  obtain⟨hB,v,hbk,hown,hne⟩:=hp
  refine⟨hB,v,(hb.block b (Array.getElem?_eq_some_iff.1 hbk).1).trans hbk,⟨hown.1,?_⟩,hne⟩
  rcases hown.2 with hn|⟨g,cap,cur,fz,hv,hbg,hg,rest⟩
  ·exact .inl hn
  ·exact .inr ⟨g,cap,cur,fz,hv,hbg,(hb.block g (Array.getElem?_eq_some_iff.1 hg).1).trans hg,rest⟩
 exact h.elim (fun x=>.inl (one _ x)) (fun x=>.inr (one _ x))
theorem Wr.more {w w' u:World} {B b:Nat} {l:List UInt8} (h:Wr B b l w w') (hb:Below w'.heap.size w' u) (hB:B≤w'.heap.size):Wr B b l w u:=
 ⟨h.bd.later hb,h.below.trans (hb.mono hB),fun k o hk hn ho=>by
  have h1:=h.kept k o hk hn ho
  rw [hb.block k (Array.getElem?_eq_some_iff.1 h1).1]
  exact h1⟩
theorem listedC_any (B0 G:Nat) (a:Option Addr) (n cc:Nat) (s:ByteArray) (pv:Value) (ns:List Tn) (T:Tn→List UInt8) (u:World) (B b:Nat) (l:List UInt8) (hG0:u.heap[G]?=some (.cells #[.slice a n cc] 22 (0,0))) (hG1:u.heap[G+1]?=some (.cells #[.string s] 9 (0,0))) (hG2:u.heap[G+2]?=some (.cells #[pv] 40 (0,0)))
  (hr:RowN u B0 ns a cc) (hn:ns.length=n) (hp:Put B0 u pv ns T) (hB0:B0≤B) (hb:Bd u B b l) (hB:B≤u.heap.size) (hn9:n≤140737488351232) (hl:l.length+(jl s.data.toList true (ns.map T)).length≤140737488355328) :
  Calls Tryz.prog 67 #[.pointer (some ⟨b,0,none⟩),.pointer (some ⟨G,0,none⟩),.pointer (some ⟨G+1,0,none⟩),.pointer (some ⟨G+2,0,none⟩)] u fun e u'=>e=.returned (.tuple #[])∧Wr B b (l++jl s.data.toList true (ns.map T)) u u':=by
 have HG:=hZ (And.intro hG0 (And.intro hG1 hG2))
 have HR:=hZ (And.intro hr hp)
 have HB:=hZ hb
 have HL:=hZ (And.intro hn (And.intro hB0 (And.intro hB hl)))
 have c0:=one_box hG0
 clear hG0 hG1 hG2 hr hn hp hb hl hB0 hB
 go_enter Tryz.func67,Tryz.ntmps67
 go_wp2_with fail
 clear c0
 go_loopw [9] (fun x wr=>∃(i:Nat),x=.int .i64 (i:Int)∧i≤n∧Hid (Wr B b (l++jl s.data.toList true ((ns.take i).map T)) u wr)) (fun x _=>n - (intOf x).toNat)
 case atStart=>exact⟨0,rfl,Nat.zero_le _,hZ (by simpa [jl] using Wr.start (uZ HB))⟩
 case round=>
  obtain⟨i,rfl,hin,HW⟩:=hrel
  obtain⟨wq,hwq⟩:∃wq,wq=wr:=⟨_,rfl⟩
  subst hwq
  obtain⟨hn,hB0,hB,hl⟩:=uZ HL
  by_cases hi:i<n
  ·have i2:(i:Int)<(n:Int):=by omega
   obtain⟨y,hy⟩:∃y,ns[i]?=some y:=⟨_,List.getElem?_eq_getElem (by omega)⟩
   have kq:=Kp.wr (uZ HB) hB0 (uZ HW)
   have hyn:y∈ns:=List.mem_of_getElem? hy
   obtain⟨ya0,z,rfl,hcc,hz,hcell⟩:=((uZ HR).1.later kq.bel).at hy
   have hBq:B≤wq.heap.size:=Nat.le_trans hB (uZ HW).below.size
   have htk:(ns.take (i+1)).map T=(ns.take i).map T++[T y]:=by rw [List.take_add_one,hy,List.map_append];rfl
   have hjl:jl s.data.toList true ((ns.take (i+1)).map T)=jl s.data.toList true ((ns.take i).map T)++(if i=0 then T y else s.data.toList++T y):=by
    rw [htk,jl_app]
    by_cases h0:i=0
    ·subst h0;simp
    ·rw [if_neg (by
      rw [Bool.and_eq_true]
      rintro ⟨_,he⟩
      rw [List.isEmpty_iff,List.map_eq_nil_iff,List.take_eq_nil_iff] at he
      rcases he with he|he
      ·exact h0 he
      ·rw [he] at hn;simp at hn;omega),if_neg h0]
   have hlen:l.length+(jl s.data.toList true ((ns.take (i+1)).map T)).length≤140737488355328:=by
    have h1:=jl_len s.data.toList true ((ns.take (i+1)).map T) ((ns.drop (i+1)).map T)
    rw [←List.map_append,List.take_append_drop] at h1
    omega
   rw [hjl,List.length_append] at hlen
   obtain⟨X,hX⟩:∃X,jl s.data.toList true ((ns.take i).map T)=X:=⟨_,rfl⟩
   rw [hX] at hjl hlen HW
   obtain⟨vk,vn,vs,al,ak,ya,ll,cl,lk,ck,yc,hzs,_⟩:=hz.shape
   obtain⟨F,cap,hpv,hpf,hput⟩:=(uZ HR).2
   have HP:=hZ (And.intro hpf (And.intro hput hyn))
   have HZ:=hZ hz
   subst hpv
   have k0:=one_box (kq.cells (uZ HG).1 (by decide) (by decide))
   have HQ:=hZ kq
   subst hzs
   obtain⟨yk,yt,yv,yf,yks,yp⟩:=y
   obtain⟨yn,hyl⟩:∃m,yks.length=m:=⟨_,rfl⟩
   simp only [hyl] at hcell HZ
   obtain⟨e0,e1,e2,e3,e4,e5,e6,e7,e8,e9⟩:=tenC hcell
   obtain⟨w1,hw1⟩:∃w1,wq.alloc (.cells #[.int .i64 yk,.string yt,.int .i64 vk,.int .i64 vn,.string vs,.slice al ll cl,.slice ak lk ck,.bool yf,.slice ya yn yc,.int .i64 yp] 28)=w1:=⟨_,rfl⟩
   obtain⟨g1,hg1⟩:∃g,wq.heap.size=g:=⟨_,rfl⟩
   have A1:w1.heap[g1]?=some (.cells #[.int .i64 yk,.string yt,.int .i64 vk,.int .i64 vn,.string vs,.slice al ll cl,.slice ak lk ck,.bool yf,.slice ya yn yc,.int .i64 yp] 28 (0,0)):=by rw [←hw1,←hg1];exact heap_alloc_new _ _
   have b1:Below wq.heap.size wq w1:=by rw [←hw1];exact(Below.refl _ _).alloc (Nat.le_refl _) _
   have W1:=(uZ HW).more b1 hBq
   have hB1:B≤w1.heap.size:=Nat.le_trans hBq b1.size
   have K1:=hZ (kq.trans (Kp.below b1 (Nat.le_trans hB0 hBq)))
   have HW1:=hZ (And.intro W1 (And.intro A1 hB1))
   have HE:=hZ hjl
   have HN:=hZ hlen
   have HWW:=hZ hw1
   clear hy kq hyn hcc hz hcell htk hjl hlen hX hpf hput hyl A1 b1 W1 hn hl hw1 HW
   go_upto_region 3 with fail
   rw [uZ HWW]
   try rw [hg1]
   clear HWW e0 e1 e2 e3 e4 e5 e6 e7 e8 e9 k0
   have HF:=hZ (uZ HP).1
   have FI:Hid (∀(w2:World) (Y:List UInt8),Wr B b (l++(X++Y)) u w2→Calls Tryz.prog F (#[.agg #[.int .i64 yk,.string yt,.int .i64 vk,.int .i64 vn,.string vs,.slice al ll cl,.slice ak lk ck,.bool yf,.slice ya yn yc,.int .i64 yp]]++cap) w2 fun e u'=>∃(F2:FuncId) (cap2:Array Value),e=.returned (.func (.func F2) #[] cap2)∧Hid (∀(x:Array Value) (u:World),Sem.run Tryz.prog (callFunc F2 x) u=.ok (.enter F2 x) u)∧Hid (l.length+(X.length+(Y.length+(T ⟨yk,yt,yv,yf,yks,yp⟩).length))≤140737488355328→Calls Tryz.prog F2 (#[.pointer (some ⟨b,0,none⟩)]++cap2) u' fun e u2=>e=.returned (.tuple #[])∧Wr B b (l++(X++(Y++T ⟨yk,yt,yv,yf,yks,yp⟩))) u u2)):=hZ (fun w2 Y h2=>by
    have k2:=Kp.wr (uZ HB) hB0 h2
    have hB2:B≤w2.heap.size:=Nat.le_trans hB h2.below.size
    have hz2:=IsN.to (Q:=fun b=>b<B0) (w':=w2) (fun c hc=>(k2.bel.block c hc).trans ((uZ HQ).bel.block c hc).symm) (fun _ h=>h) (uZ HZ)
    refine((uZ HP).2.1 w2 _ _ k2 (Nat.le_trans hB0 hB2) (uZ HP).2.2 hz2).mono (fun e u' h=>?_)
    obtain⟨t,rfl,⟨F2,cap2,rfl,hf2,hc2⟩,b3⟩:=h
    refine⟨F2,cap2,rfl,hZ hf2,hZ (fun hlen=>?_)⟩
    have W3:=h2.more b3 hB2
    refine(hc2 u' B b (l++(X++Y)) (Kp.refl _ _) hB0 W3.bd (Nat.le_trans hB2 b3.size) (by rw [List.length_append,List.length_append];omega)).mono (fun e u2 h=>⟨h.1,?_⟩)
    have:=W3.then h.2
    rw [List.append_assoc,List.append_assoc] at this
    exact this)
   have HC2:Hid (∀w2,Kp B0 u w2→w2.cell? ⟨G+2,0,none⟩=some (.func (.func F) #[] cap)):=hZ (fun w2 k=>one_box (k.cells (uZ HG).2.2 (by decide) (by decide)))
   have c1:=one_box ((uZ K1).cells (uZ HG).2.1 (by decide) (by decide))
   by_cases h0:i=0
   ·subst h0
    have c2:=(uZ HC2) w1 (uZ K1)
    obtain⟨x0,x1,x2,x3,x4,x5,x6,x7,x8,x9⟩:=row_ten (uZ HW1).2.1
    have CP:=hZ ((uZ FI) w1 [] (by simpa using (uZ HW1).1))
    have HY:=hZ (show l.length+(X.length+(([]:List UInt8).length+(T ⟨yk,yt,yv,yf,yks,yp⟩).length))≤140737488355328 by have:=uZ HN;simp only [if_true] at this;simpa using this)
    have HO:=hZ (show jl s.data.toList true ((ns.take (0+1)).map T)=X++([]++T ⟨yk,yt,yv,yf,yks,yp⟩) by have:=uZ HE;simp only [if_true] at this;simpa using this)
    clear HN HE FI HC2 K1 HW1 HQ HZ HP
    go_wp2_with (rw [uZ HF])
    refine(uZ CP).mono ?_
    rintro e w3 ⟨F2,cap2,rfl,hf2,hc2⟩
    have HF2:=hf2
    have CQ:=hZ ((uZ hc2) (uZ HY))
    clear hf2 hc2 CP x0 x1 x2 x3 x4 x5 x6 x7 x8 x9 c2
    go_wp2_with (rw [uZ HF2])
    refine(uZ CQ).mono ?_
    rintro e w4 ⟨rfl,k4⟩
    have H4:=hZ (show Wr B b (l++jl s.data.toList true ((ns.take (0+1)).map T)) u w4 by rw [uZ HO];exact k4)
    clear k4 CQ HY HO
    go_wp2_with fail
    go_roundw
    case rel=>exact⟨0+1,by go_num,by omega,H4⟩
    case measure=>simp [intOf];omega
   ·have h1:(0:Int)<(i:Int):=by omega
    have CW:=hZ (wstr_any B b (l++X) s w1 (uZ HW1).1.bd (by have:=uZ HN;rw [if_neg h0,List.length_append] at this;rw [List.length_append];simp at this ⊢;omega) (uZ HW1).2.2)
    have HY:=hZ (show l.length+(X.length+(s.data.toList.length+(T ⟨yk,yt,yv,yf,yks,yp⟩).length))≤140737488355328 by have:=uZ HN;rw [if_neg h0,List.length_append] at this;exact this)
    have HO:=hZ (show jl s.data.toList true ((ns.take (i+1)).map T)=X++(s.data.toList++T ⟨yk,yt,yv,yf,yks,yp⟩) by have:=uZ HE;rw [if_neg h0] at this;exact this)
    have A9:=hZ (uZ HW1).2.1
    clear HN HE
    go_wp2_with fail
    refine(uZ CW).mono ?_
    rintro e w2 ⟨rfl,k2⟩
    have W2:Wr B b (l++(X++s.data.toList)) u w2:=by have:=(uZ HW1).1.then k2;rw [List.append_assoc] at this;exact this
    have c2:=(uZ HC2) w2 (Kp.wr (uZ HB) hB0 W2)
    have A2:=(Kp.wr (uZ HW1).1.bd hB0 k2).cells (uZ A9) (by decide) (by decide)
    obtain⟨x0,x1,x2,x3,x4,x5,x6,x7,x8,x9⟩:=row_ten A2
    have CP:=hZ ((uZ FI) w2 _ W2)
    clear k2 W2 A2 A9 CW FI HC2 K1 HW1 HQ HZ HP c1
    go_wp2_with (rw [uZ HF])
    refine(uZ CP).mono ?_
    rintro e w3 ⟨F2,cap2,rfl,hf2,hc2⟩
    have HF2:=hf2
    have CQ:=hZ ((uZ hc2) (uZ HY))
    clear hf2 hc2 CP x0 x1 x2 x3 x4 x5 x6 x7 x8 x9 c2
    go_wp2_with (rw [uZ HF2])
    refine(uZ CQ).mono ?_
    rintro e w4 ⟨rfl,k4⟩
    have H4:=hZ (show Wr B b (l++jl s.data.toList true ((ns.take (i+1)).map T)) u w4 by rw [uZ HO];exact k4)
    clear k4 CQ HY HO
    go_wp2_with fail
    go_roundw
    case rel=>exact⟨i+1,by go_num,by omega,H4⟩
    case measure=>simp [intOf];omega
  ·have i2:¬(i:Int)<(n:Int):=by omega
   have hin2:i=n:=by omega
   have H2:=hZ (show Wr B b (l++jl s.data.toList true (ns.map T)) u wq by have h:=uZ HW;rw [hin2,←hn,List.take_length] at h;exact h)
   clear hn hl hB hB0
   go_wp2_with fail
   go_end0
   exact⟨rfl,uZ H2⟩
theorem RowN.len {w:World} {B0:Nat} {ns:List Tn} {a:Option Addr} {cc:Nat} (h:RowN w B0 ns a cc):ns.length≤140737488351232:=by
 obtain⟨C,h1,_⟩:=h
 exact h1.bl
theorem listed_any (B0:Nat) (a:Option Addr) (n cc:Nat) (s:ByteArray) (pv:Value) (ns:List Tn) (T:Tn→List UInt8) (w:World) (hB1:B0≤w.heap.size) (hr:RowN w B0 ns a cc) (hn:ns.length=n) (hp:Put B0 w pv ns T) :
  Calls Tryz.prog 36 #[.slice a n cc,.string s,pv] w fun e w'=>∃t,e=.returned t∧Txt B0 w' t (jl s.data.toList true (ns.map T))∧Below w.heap.size w w':=by
 have hp0:=hp
 obtain⟨F,cap,rfl,_,_⟩:=hp0
 obtain⟨G,hG⟩:∃G,w.heap.size=G:=⟨_,rfl⟩
 obtain⟨w1,hw1⟩:∃w1,w.alloc (.cells #[.slice a n cc] 22)=w1:=⟨_,rfl⟩
 have A1:=(al1 hw1 hG).1
 have B1:Below w.heap.size w w1:=by rw [←hw1];exact(Below.refl _ _).alloc (Nat.le_refl _) _
 have s1:w1.heap.size=G+1:=by rw [←hw1,←hG];simp
 obtain⟨w2,hw2⟩:∃w2,w1.alloc (.cells #[.string s] 9)=w2:=⟨_,rfl⟩
 have A2:w2.heap[G+1]?=some (.cells #[.string s] 9 (0,0)):=by rw [←hw2,←s1];exact heap_alloc_new _ _
 have B2:Below w1.heap.size w1 w2:=by rw [←hw2];exact(Below.refl _ _).alloc (Nat.le_refl _) _
 have s2:w2.heap.size=G+2:=by rw [←hw2];simp [s1]
 obtain⟨w3,hw3⟩:∃w3,w2.alloc (.cells #[.func (.func F) #[] cap] 40)=w3:=⟨_,rfl⟩
 have A3:w3.heap[G+2]?=some (.cells #[.func (.func F) #[] cap] 40 (0,0)):=by rw [←hw3,←s2];exact heap_alloc_new _ _
 have B3:Below w2.heap.size w2 w3:=by rw [←hw3];exact(Below.refl _ _).alloc (Nat.le_refl _) _
 have b3:Below w.heap.size w w3:=(B1.trans (B2.mono B1.size)).trans (B3.mono (Nat.le_trans B1.size B2.size))
 have C1:=(B3.block G (by omega)).trans ((B2.block G (by omega)).trans A1)
 have C2:=(B3.block (G+1) (by omega)).trans A2
 have T1:Txt B0 w3 (.func (.func 67) #[] #[.pointer (some ⟨G,0,none⟩),.pointer (some ⟨G+1,0,none⟩),.pointer (some ⟨G+2,0,none⟩)]) (jl s.data.toList true (ns.map T)):=by
  refine⟨_,_,rfl,call_listed,fun u B b l hk hB0 hb hB hl=>?_⟩
  have k:=(Kp.below b3 hB1).trans hk
  exact listedC_any B0 G a n cc s _ ns T u B b l (hk.cells C1 (by decide) (by decide)) (hk.cells C2 (by decide) (by decide)) (hk.cells A3 (by decide) (by decide)) (hr.later k.bel) hn (hp.later k) hB0 hb hB (by rw [←hn];exact hr.len) hl
 have HT:=hZ (And.intro T1 b3)
 have HW:=hZ (And.intro hw1 (And.intro hw2 hw3))
 have HS:=hZ (And.intro s1 s2)
 clear A1 A2 A3 B1 B2 B3 C1 C2 T1 b3 hw1 hw2 hw3 hr hp hn hB1 s1 s2
 go_enter Tryz.func36,Tryz.ntmps36
 go_wp2_with fail
 go_ret
 rw [(uZ HW).1,(uZ HW).2.1,(uZ HW).2.2]
 try rw [hG]
 refine⟨_,rfl,?_,by first|exact(uZ HT).2|(rw [←hG];exact(uZ HT).2)⟩
 have:=(uZ HT).1
 first|exact this|(simp only [(uZ HS).1,(uZ HS).2];exact this)
theorem written_any (B0:Nat) (t:Value) (L:List UInt8) (w:World) (hB1:B0≤w.heap.size) (h:Txt B0 w t L) (hl:L.length≤140737488355328) :
  Calls Tryz.prog 19 #[t] w fun e w'=>e=.returned (.string ⟨L.toArray⟩)∧Below w.heap.size w w':=by
 obtain⟨F,cap,rfl,hf,hc⟩:=h
 obtain⟨G,hG⟩:∃G,w.heap.size=G:=⟨_,rfl⟩
 obtain⟨w1,hw1⟩:∃w1,w.alloc (.cells #[.pointer none,.slice none 0 0] 50)=w1:=⟨_,rfl⟩
 have A1:=(al1 hw1 hG).1
 have B1:Below w.heap.size w w1:=by rw [←hw1];exact(Below.refl _ _).alloc (Nat.le_refl _) _
 have D1:Bd w1 G G []:=.inl ⟨Nat.le_refl _,_,A1,⟨by simp [Lib.byteCells],.inl ⟨rfl,rfl⟩⟩,by simp [Value.ownBlock]⟩
 have hG1:G≤w1.heap.size:=by rw [←hG];exact B1.size
 have CC:=hZ (hc w1 G G [] (Kp.below B1 hB1) (by omega) D1 hG1 (by simpa using hl))
 have HF:=hZ hf
 have HB:=hZ (And.intro B1 hG1)
 have HW:=hZ hw1
 clear hc hf A1 B1 D1 hw1 hl hG1
 go_enter Tryz.func19,Tryz.ntmps19
 go_upto_region 2 with fail
 rw [uZ HW]
 try rw [hG]
 go_wp2_with (rw [uZ HF])
 refine(uZ CC).mono ?_
 rintro e w2 ⟨rfl,k2⟩
 have CS:=hZ (Tryz.Builder_String_any_k G G L w2 (by simpa using k2.bd) (Nat.le_trans (uZ HB).2 k2.below.size))
 have B2:=hZ ((uZ HB).1.trans (by rw [hG];exact k2.below))
 clear k2 CC
 go_wp2_with fail
 refine(uZ CS).mono ?_
 rintro e w3 ⟨rfl,_,b3,_⟩
 have H3:=hZ ((uZ B2).trans (by rw [hG];exact b3))
 clear b3 CS B2
 go_wp2_with fail
 go_ret
 exact⟨rfl,uZ H3⟩
def bnS (t:List UInt8):Nat:=
 if t=[124,124] then 1 else if t=[38,38] then 2 else
 if t=[61,61]∨t=[33,61]∨t=[60]∨t=[60,61]∨t=[62]∨t=[62,61] then 3 else
 if t=[43]∨t=[45] then 4 else if t=[42]∨t=[47]∨t=[37] then 5 else 0
theorem name_any (B0:Nat) (k vk vn p:Int) (t vs:ByteArray) (al ak a:Option Addr) (ll cl lk ck n cc:Nat) (f:Bool) (w:World):Calls Tryz.prog 43 #[.agg #[.int .i64 k,.string t,.int .i64 vk,.int .i64 vn,.string vs,.slice al ll cl,.slice ak lk ck,.bool f,.slice a n cc,.int .i64 p]] w fun e w'=>∃t',e=.returned t'∧Txt B0 w' t' t.data.toList∧Below w.heap.size w w':=by
 obtain⟨w1,hw1⟩:∃w1,w.alloc (.cells #[.int .i64 k,.string t,.int .i64 vk,.int .i64 vn,.string vs,.slice al ll cl,.slice ak lk ck,.bool f,.slice a n cc,.int .i64 p] 28)=w1:=⟨_,rfl⟩
 obtain⟨G,hG⟩:∃G,w.heap.size=G:=⟨_,rfl⟩
 have A1:=(al1 hw1 hG).1
 have HB:=hZ (show Below w.heap.size w w1 by rw [←hw1];exact(Below.refl _ _).alloc (Nat.le_refl _) _)
 obtain⟨_,c1,_,_,_,_,_,_,_,_⟩:=row_ten A1
 have CW:=hZ (txw_any B0 t w1)
 have HW:=hZ hw1
 clear A1 hw1
 go_enter Tryz.func43,Tryz.ntmps43
 go_upto_region 1 with fail
 rw [uZ HW]
 try rw [hG]
 clear HW
 go_wp2_with fail
 refine(uZ CW).mono ?_
 rintro e w2 ⟨t',rfl,h2,b2⟩
 have H2:=hZ (And.intro h2 ((uZ HB).trans (b2.mono (uZ HB).size)))
 obtain⟨F,cap,rfl,_,_⟩:=h2
 clear b2 CW
 go_wp2_with fail
 go_ret
 exact⟨_,rfl,(uZ H2).1,(uZ H2).2⟩
theorem binds_any (k vk vn p:Int) (t vs:ByteArray) (al ak a:Option Addr) (ll cl lk ck n cc:Nat) (f:Bool) (w:World):Calls Tryz.prog 101 #[.agg #[.int .i64 k,.string t,.int .i64 vk,.int .i64 vn,.string vs,.slice al ll cl,.slice ak lk ck,.bool f,.slice a n cc,.int .i64 p]] w fun e w'=>e=.returned (.int .i64 (bnS t.toList:Int))∧Below w.heap.size w w':=by
 obtain⟨w1,hw1⟩:∃w1,w.alloc (.cells #[.int .i64 k,.string t,.int .i64 vk,.int .i64 vn,.string vs,.slice al ll cl,.slice ak lk ck,.bool f,.slice a n cc,.int .i64 p] 28)=w1:=⟨_,rfl⟩
 obtain⟨G,hG⟩:∃G,w.heap.size=G:=⟨_,rfl⟩
 have A1:=(al1 hw1 hG).1
 have HX:=hZ (show Below w.heap.size w w1 by rw [←hw1];exact(Below.refl _ _).alloc (Nat.le_refl _) _)
 obtain⟨_,c1,_,_,_,_,_,_,_,_⟩:=row_ten A1
 have HW:=hZ hw1
 clear A1 hw1
 go_enter Tryz.func101,Tryz.ntmps101
 go_upto_region 1 with fail
 rw [uZ HW]
 try rw [hG]
 clear HW
 by_cases ht:t.toList=[124,124]
 ·have HV:=hZ (show bnS t.toList=1 by rw [ht];rfl)
  go_wp2_with fail
  go_ret
  exact⟨by rw [uZ HV];rfl,uZ HX⟩
 ·have m0:¬t.toList=[124,124]:=ht
  have n0:(t.toList == [124,124])=false:=beq_eq_false_iff_ne.2 ht
  clear ht
  by_cases ht:t.toList=[38,38]
  ·have HV:=hZ (show bnS t.toList=2 by rw [ht];rfl)
   clear m0
   go_wp2_with fail
   go_ret
   exact⟨by rw [uZ HV];rfl,uZ HX⟩
  ·have m1:¬t.toList=[38,38]:=ht
   have n1:(t.toList == [38,38])=false:=beq_eq_false_iff_ne.2 ht
   clear ht
   by_cases ht:t.toList=[61,61]
   ·have HV:=hZ (show bnS t.toList=3 by rw [ht];rfl)
    clear m0 m1
    go_wp2_with fail
    go_ret
    exact⟨by rw [uZ HV];rfl,uZ HX⟩
   ·have m2:¬t.toList=[61,61]:=ht
    have n2:(t.toList == [61,61])=false:=beq_eq_false_iff_ne.2 ht
    clear ht
    by_cases ht:t.toList=[33,61]
    ·have HV:=hZ (show bnS t.toList=3 by rw [ht];rfl)
     clear m0 m1 m2
     go_wp2_with fail
     go_ret
     exact⟨by rw [uZ HV];rfl,uZ HX⟩
    ·have m3:¬t.toList=[33,61]:=ht
     have n3:(t.toList == [33,61])=false:=beq_eq_false_iff_ne.2 ht
     clear ht
     by_cases ht:t.toList=[60]
     ·have HV:=hZ (show bnS t.toList=3 by rw [ht];rfl)
      clear m0 m1 m2 m3
      go_wp2_with fail
      go_ret
      exact⟨by rw [uZ HV];rfl,uZ HX⟩
     ·have m4:¬t.toList=[60]:=ht
      have n4:(t.toList == [60])=false:=beq_eq_false_iff_ne.2 ht
      clear ht
      by_cases ht:t.toList=[60,61]
      ·have HV:=hZ (show bnS t.toList=3 by rw [ht];rfl)
       clear m0 m1 m2 m3 m4
       go_wp2_with fail
       go_ret
       exact⟨by rw [uZ HV];rfl,uZ HX⟩
      ·have m5:¬t.toList=[60,61]:=ht
       have n5:(t.toList == [60,61])=false:=beq_eq_false_iff_ne.2 ht
       clear ht
       by_cases ht:t.toList=[62]
       ·have HV:=hZ (show bnS t.toList=3 by rw [ht];rfl)
        clear m0 m1 m2 m3 m4 m5
        go_wp2_with fail
        go_ret
        exact⟨by rw [uZ HV];rfl,uZ HX⟩
       ·have m6:¬t.toList=[62]:=ht
        have n6:(t.toList == [62])=false:=beq_eq_false_iff_ne.2 ht
        clear ht
        by_cases ht:t.toList=[62,61]
        ·have HV:=hZ (show bnS t.toList=3 by rw [ht];rfl)
         clear m0 m1 m2 m3 m4 m5 m6
         go_wp2_with fail
         go_ret
         exact⟨by rw [uZ HV];rfl,uZ HX⟩
        ·have m7:¬t.toList=[62,61]:=ht
         have n7:(t.toList == [62,61])=false:=beq_eq_false_iff_ne.2 ht
         clear ht
         by_cases ht:t.toList=[43]
         ·have HV:=hZ (show bnS t.toList=4 by rw [ht];rfl)
          clear m0 m1 m2 m3 m4 m5 m6 m7
          go_wp2_with fail
          go_ret
          exact⟨by rw [uZ HV];rfl,uZ HX⟩
         ·have m8:¬t.toList=[43]:=ht
          have n8:(t.toList == [43])=false:=beq_eq_false_iff_ne.2 ht
          clear ht
          by_cases ht:t.toList=[45]
          ·have HV:=hZ (show bnS t.toList=4 by rw [ht];rfl)
           clear m0 m1 m2 m3 m4 m5 m6 m7 m8
           go_wp2_with fail
           go_ret
           exact⟨by rw [uZ HV];rfl,uZ HX⟩
          ·have m9:¬t.toList=[45]:=ht
           have n9:(t.toList == [45])=false:=beq_eq_false_iff_ne.2 ht
           clear ht
           by_cases ht:t.toList=[42]
           ·have HV:=hZ (show bnS t.toList=5 by rw [ht];rfl)
            clear m0 m1 m2 m3 m4 m5 m6 m7 m8 m9
            go_wp2_with fail
            go_ret
            exact⟨by rw [uZ HV];rfl,uZ HX⟩
           ·have m10:¬t.toList=[42]:=ht
            have n10:(t.toList == [42])=false:=beq_eq_false_iff_ne.2 ht
            clear ht
            by_cases ht:t.toList=[47]
            ·have HV:=hZ (show bnS t.toList=5 by rw [ht];rfl)
             clear m0 m1 m2 m3 m4 m5 m6 m7 m8 m9 m10
             go_wp2_with fail
             go_ret
             exact⟨by rw [uZ HV];rfl,uZ HX⟩
            ·have m11:¬t.toList=[47]:=ht
             have n11:(t.toList == [47])=false:=beq_eq_false_iff_ne.2 ht
             clear ht
             by_cases ht:t.toList=[37]
             ·have HV:=hZ (show bnS t.toList=5 by rw [ht];rfl)
              clear m0 m1 m2 m3 m4 m5 m6 m7 m8 m9 m10 m11
              go_wp2_with fail
              go_ret
              exact⟨by rw [uZ HV];rfl,uZ HX⟩
             ·have m12:¬t.toList=[37]:=ht
              have n12:(t.toList == [37])=false:=beq_eq_false_iff_ne.2 ht
              clear ht
              have HV:=hZ (show bnS t.toList=0 by unfold bnS;simp only [m0,m1,m2,m3,m4,m5,m6,m7,m8,m9,m10,m11,m12,or_self,if_false,reduceIte])
              clear m0 m1 m2 m3 m4 m5 m6 m7 m8 m9 m10 m11 m12
              go_wp2_with fail
              go_ret
              exact⟨by rw [uZ HV];rfl,uZ HX⟩
def lxDig (c:UInt8):Bool:=decide (48≤c.toNat∧c.toNat≤57)
def lxLet (c:UInt8):Bool:=decide (97≤c.toNat∧c.toNat≤122∨65≤c.toNat∧c.toNat≤90∨c.toNat=95)
def lxW (c:UInt8):Bool:=lxLet c ||lxDig c
def keyL:List (List UInt8):=[[102,110],[101,120,112,111,114,116],[108,101,116],[105,102],[101,108,115,101],[119,104,105,108,101],[114,101,116,117,114,110],[98,114,101,97,107],[99,111,110,116,105,110,117,101],[116,114,117,101],[102,97,108,115,101],[117,110,105,116]]
def keyB (w:List UInt8):Bool:=keyL.contains w
end Go.Proofs.YtlkeaaopdnnceaaGreatDoor
