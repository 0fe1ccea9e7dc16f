/-
  Values in memory: a value as a tree, how it lies in a world, which are right, how heavy and how deep they are; no conditions.
  Layer 18 (print): trees of nodes, and how they lie in memory, wherever they came from; no conditions.
  Layer 18 (print): what is made of each node, with a word between, is a text; conditions: the nodes lie in memory.
  Layer 19 (check): first: a row of nodes is gone through up to the first fault; conditions: the nodes lie in memory.
-/
import Derived.Test.YtjdpaihhhjdgmaaGreatDoorChecked
import Derived.Test.YtjdpaihhhjdgmaaGreatDoorA00
import Derived.WalkKit
import Derived.Below
import Derived.Deep.MidRow
import Derived.Deep.Strs
import Derived.Laws.Strings
import Derived.Laws.Cover1
import Derived.Deep.LoopGhost
import Derived.Test.YtjdpaihhhjdgmaaGreatDoorA04
set_option linter.unusedVariables false
set_option linter.unusedSimpArgs false
set_option maxRecDepth 100000
set_option maxHeartbeats 8000000
namespace Go.Proofs.YtjdpaihhhjdgmaaGreatDoor
open Go.RowKit
structure Vl where
 mk ::
 kind:Int
 n:Int
 s:ByteArray
 l:List Vl
 ks:List ByteArray
structure VF (w:World) (P:Nat→Prop) (kind n:Int) (s:ByteArray) (l:List Vl) (ks:List ByteArray) (al ak:Option Addr) (cl ck:Nat) (V:Nat→List Value):Prop where
 bk:-9223372036854775808≤kind∧kind≤9223372036854775807
 bn:-9223372036854775808≤n∧n≤9223372036854775807
 bs:s.size≤140737488351232
 nl:al=none→l.length=0∧cl=0
 nk:ak=none→ks.length=0∧ck=0
 ll:l.length≤cl
 lk:ks.length≤ck
 bl:l.length≤140737488351232
 bc:ks.length≤140737488351232
 bq:16 * ks.length≤140737488351232
 hl:∀a,al=some a→∀i,i<l.length→P a.block∧∀j v,(V i)[j]?=some v→w.cell? ((a.add (i * 5)).add j)=some v
 hv:∀i,i<l.length→(V i).length=5
 hk:∀a,ak=some a→∀i t,ks[i]?=some t→P a.block∧w.cell? (a.add i)=some (.string t)
 bt:∀t∈ks,t.size≤140737488351232
def hd (kind n:Int) (s:ByteArray) (al ak:Option Addr) (ll m cl ck:Nat):Value:=.agg #[.int .i64 kind,.int .i64 n,.string s,.slice al ll cl,.slice ak m ck]
def IsPL (w:World) (P:Nat→Prop):List Vl→(Nat→List Value)→Prop
 |[],_=>True
 |.mk kind n s l ks :: r,V=>(∃(al ak:Option Addr) (cl ck:Nat) (V':Nat→List Value),(.agg (V 0).toArray:Value)=hd kind n s al ak l.length ks.length cl ck∧VF w P kind n s l ks al ak cl ck V'∧IsPL w P l V')∧IsPL w P r (fun i=>V (i+1))
def IsP (w:World) (P:Nat→Prop) (v:Vl) (x:Value):Prop:=
 ∃(al ak:Option Addr) (cl ck:Nat) (V:Nat→List Value),x=hd v.kind v.n v.s al ak v.l.length v.ks.length cl ck∧VF w P v.kind v.n v.s v.l v.ks al ak cl ck V∧IsPL w P v.l V
def IsV (w:World) (B:Nat) (v:Vl) (x:Value):Prop:=IsP w (fun b=>b<B) v x
theorem IsPL_iff (w:World) (P:Nat→Prop):∀(l:List Vl) (V:Nat→List Value),IsPL w P l V↔∀i y,l[i]?=some y→IsP w P y (.agg (V i).toArray)
 |[],V=>by simp [IsPL]
 |.mk kind n s l ks :: r,V=>by
  have ih:=IsPL_iff w P r (fun i=>V (i+1))
  simp only [IsPL]
  rw [ih]
  constructor
  ·rintro ⟨h1,h2⟩ i y hy
   cases i with
   |zero=>simp at hy;subst hy;exact h1
   |succ i=>exact h2 i y (by simpa using hy)
  ·intro h
   exact⟨h 0 (.mk kind n s l ks) (by simp),fun i y hy=>h (i+1) y (by simpa using hy)⟩
theorem IsP.inv {w:World} {P:Nat→Prop} {v:Vl} {x:Value} (h:IsP w P v x):∃(kind n:Int) (s:ByteArray) (l:List Vl) (ks:List ByteArray) (al ak:Option Addr) (cl ck:Nat) (V:Nat→List Value),v=.mk kind n s l ks∧x=.agg #[.int .i64 kind,.int .i64 n,.string s,.slice al l.length cl,.slice ak ks.length ck]∧VF w P kind n s l ks al ak cl ck V∧∀i y,l[i]?=some y→IsP w P y (.agg (V i).toArray):=by
 obtain⟨al,ak,cl,ck,V,hx,hf,hl⟩:=h
 cases v with
 |mk kind n s l ks=>exact⟨kind,n,s,l,ks,al,ak,cl,ck,V,rfl,hx,hf,(IsPL_iff w P l V).1 hl⟩
theorem IsV.inv {w:World} {B:Nat} {v:Vl} {x:Value} (h:IsV w B v x):∃(kind n:Int) (s:ByteArray) (l:List Vl) (ks:List ByteArray) (al ak:Option Addr) (cl ck:Nat) (V:Nat→List Value),v=.mk kind n s l ks∧x=.agg #[.int .i64 kind,.int .i64 n,.string s,.slice al l.length cl,.slice ak ks.length ck]∧VF w (fun b=>b<B) kind n s l ks al ak cl ck V∧∀i y,l[i]?=some y→IsV w B y (.agg (V i).toArray):=IsP.inv h
theorem IsP.at {w:World} {P:Nat→Prop} {kind n:Int} {s:ByteArray} {l:List Vl} {ks:List ByteArray} {k' n':Int} {s':ByteArray} {al ak:Option Addr} {ll m cl ck:Nat} (h:IsP w P (.mk kind n s l ks) (.agg #[.int .i64 k',.int .i64 n',.string s',.slice al ll cl,.slice ak m ck])) :
  k'=kind∧n'=n∧s'=s∧ll=l.length∧m=ks.length∧∃V,VF w P kind n s l ks al ak cl ck V∧∀i y,l[i]?=some y→IsP w P y (.agg (V i).toArray):=by
 obtain⟨_,_,_,_,_,al',ak',cl',ck',V,hv,hx,hf,el⟩:=h.inv
 cases hv
 simp only [Value.agg.injEq,Array.mk.injEq,List.cons.injEq,Value.int.injEq,Value.string.injEq,Value.slice.injEq,and_true,true_and] at hx
 obtain⟨rfl,rfl,rfl,⟨rfl,rfl,rfl⟩,rfl,rfl,rfl⟩:=hx
 exact⟨rfl,rfl,rfl,rfl,rfl,V,hf,el⟩
theorem block_add (a:Addr) (j:Nat):(a.add j).block=a.block:=by unfold Addr.add;split <;> rfl
theorem VF.to {w w':World} {P Q:Nat→Prop} (hw:∀b,P b→w'.heap[b]?=w.heap[b]?) (hP:∀b,P b→Q b) {kind n:Int} {s:ByteArray} {l:List Vl} {ks:List ByteArray} {al ak:Option Addr} {cl ck:Nat} {V:Nat→List Value} (h:VF w P kind n s l ks al ak cl ck V):VF w' Q kind n s l ks al ak cl ck V where
 bk:=h.bk
 bn:=h.bn
 bs:=h.bs
 nl:=h.nl
 nk:=h.nk
 ll:=h.ll
 lk:=h.lk
 bl:=h.bl
 bc:=h.bc
 bq:=h.bq
 hl:=fun a ha i hi=>⟨hP _ (h.hl a ha i hi).1,fun j u hu=>by
  have e:w'.cell? ((a.add (i * 5)).add j)=w.cell? ((a.add (i * 5)).add j):=World.cell?_of_block (by rw [block_add,block_add];exact hw _ (h.hl a ha i hi).1)
  rw [e]
  exact(h.hl a ha i hi).2 j u hu⟩
 hv:=h.hv
 hk:=fun a ha i t ht=>⟨hP _ (h.hk a ha i t ht).1,by
  have e:w'.cell? (a.add i)=w.cell? (a.add i):=World.cell?_of_block (by rw [block_add];exact hw _ (h.hk a ha i t ht).1)
  rw [e]
  exact(h.hk a ha i t ht).2⟩
 bt:=h.bt
theorem IsPL.to {w w':World} {P Q:Nat→Prop} (hw:∀b,P b→w'.heap[b]?=w.heap[b]?) (hP:∀b,P b→Q b):∀(l:List Vl) (V:Nat→List Value),IsPL w P l V→IsPL w' Q l V
 |[],V,_=>by simp only [IsPL]
 |.mk kind n s l ks :: r,V,h=>by
  simp only [IsPL] at h ⊢
  obtain⟨⟨al,ak,cl,ck,V',hx,hf,hl⟩,hr⟩:=h
  exact⟨⟨al,ak,cl,ck,V',hx,hf.to hw hP,IsPL.to hw hP l V' hl⟩,IsPL.to hw hP r _ hr⟩
theorem IsP.to {w w':World} {P Q:Nat→Prop} (hw:∀b,P b→w'.heap[b]?=w.heap[b]?) (hP:∀b,P b→Q b) {v:Vl} {x:Value} (h:IsP w P v x):IsP w' Q v x:=by
 obtain⟨al,ak,cl,ck,V,hx,hf,hl⟩:=h
 exact⟨al,ak,cl,ck,V,hx,hf.to hw hP,IsPL.to hw hP v.l V hl⟩
theorem IsP.weak {w:World} {P Q:Nat→Prop} (hP:∀b,P b→Q b) {v:Vl} {x:Value} (h:IsP w P v x):IsP w Q v x:=h.to (fun _ _=>rfl) hP
theorem IsP.move {w w':World} {P:Nat→Prop} (hw:∀b,P b→w'.heap[b]?=w.heap[b]?) {v:Vl} {x:Value} (h:IsP w P v x):IsP w' P v x:=h.to hw (fun _ h=>h)
theorem IsV.mono {w w':World} {B:Nat} (hb:Below B w w') {v:Vl} {x:Value} (h:IsV w B v x):IsV w' B v x:=IsP.move (fun b hl=>hb.block b hl) h
theorem IsV.lift {w:World} {B C:Nat} (hBC:B≤C) {v:Vl} {x:Value} (h:IsV w B v x):IsV w C v x:=IsP.weak (fun _ hl=>Nat.lt_of_lt_of_le hl hBC) h
theorem IsP.shape {w:World} {P:Nat→Prop} {y:Vl} {x:Value} (h:IsP w P y x):∃kind n s l ks al ak cl ck,y=.mk kind n s l ks∧x=.agg #[.int .i64 kind,.int .i64 n,.string s,.slice al l.length cl,.slice ak ks.length ck]:=by
 obtain⟨kind,n,s,l,ks,al,ak,cl,ck,_,h1,h2,_⟩:=h.inv
 exact⟨kind,n,s,l,ks,al,ak,cl,ck,h1,h2⟩
theorem IsV.shape {w:World} {B:Nat} {y:Vl} {x:Value} (h:IsV w B y x):∃kind n s l ks al ak cl ck,y=.mk kind n s l ks∧x=.agg #[.int .i64 kind,.int .i64 n,.string s,.slice al l.length cl,.slice ak ks.length ck]:=IsP.shape h
structure Box (w w1:World) (x0 x1 x2 x3 x4:Value):Prop where
 row:w1.heap[w.heap.size]?=some (.cells #[x0,x1,x2,x3,x4] 25 (0,0))
 size:w1.heap.size=w.heap.size+1
 below:Below w.heap.size w w1
theorem Box.mk' (w:World) (x0 x1 x2 x3 x4:Value):Box w (w.alloc (.cells #[x0,x1,x2,x3,x4] 25)) x0 x1 x2 x3 x4:=
 ⟨heap_alloc_new w _,by simp,(Below.refl _ _).alloc (Nat.le_refl _) _⟩
theorem row_cell {w:World} {g:Nat} {x0 x1 x2 x3 x4:Value} (h:w.heap[g]?=some (.cells #[x0,x1,x2,x3,x4] 25 (0,0))) :
  w.cell? ⟨g,0,none⟩=some x0∧w.cell? ⟨g,1,none⟩=some x1∧w.cell? ⟨g,2,none⟩=some x2∧w.cell? ⟨g,3,none⟩=some x3∧w.cell? ⟨g,4,none⟩=some x4:=
 ⟨by rw [cell_of_row w g 0 _ _ (0,0) h];rfl,by rw [cell_of_row w g 1 _ _ (0,0) h];rfl,by rw [cell_of_row w g 2 _ _ (0,0) h];rfl,by rw [cell_of_row w g 3 _ _ (0,0) h];rfl,by rw [cell_of_row w g 4 _ _ (0,0) h];rfl⟩
/-! ### Which are right, how heavy, how deep -/
def risingFrom (p:Option ByteArray):List ByteArray→Bool
 |[]=>true
 |t :: r=>decide (t.size≤32) && (match p with|none=>true|some q=>Op.bytesLess q.toList t.toList) && risingFrom (some t) r
def formM (kind n:Int) (s:ByteArray) (ll m:Nat) (R:Bool):Bool:=
 if kind=0 then decide (n=0) && s.toList.isEmpty && decide (ll=0) && decide (m=0)
 else if kind=1 then (decide (n=0) ||decide (n=1)) && s.toList.isEmpty && decide (ll=0) && decide (m=0)
 else if kind=2 then s.toList.isEmpty && decide (ll=0) && decide (m=0)
 else if kind=3 then decide (n=0) && decide (ll=0) && decide (m=0)
 else if kind=4 then decide (n=0) && s.toList.isEmpty && decide (m=0)
 else if kind=5 then decide (n=0) && s.toList.isEmpty && decide (m=ll) && R
 else false
def formB (kind n:Int) (s:ByteArray) (ll:Nat) (ks:List ByteArray):Bool:=formM kind n s ll ks.length (risingFrom none ks)
theorem formB_is (kind n:Int) (s:ByteArray) (ll:Nat) (ks:List ByteArray):formB kind n s ll ks=formM kind n s ll ks.length (risingFrom none ks):=rfl
def keysW:List ByteArray→Nat
 |[]=>0
 |t :: r=>1+t.size+keysW r
def wtL:List Vl→Nat
 |[]=>0
 |.mk _ _ s l ks :: r=>(1+s.size+keysW ks+wtL l)+wtL r
def wt:Vl→Nat
 |.mk _ _ s l ks=>1+s.size+keysW ks+wtL l
theorem wtL_nil:wtL []=0:=by simp only [wtL]
theorem wtL_cons (x:Vl) (r:List Vl):wtL (x :: r)=wt x+wtL r:=by cases x;simp only [wtL,wt]
def depL:List Vl→Nat
 |[]=>0
 |.mk _ _ _ l _ :: r=>max (1+depL l) (depL r)
def dep:Vl→Nat
 |.mk _ _ _ l _=>1+depL l
theorem depL_nil:depL []=0:=by simp only [depL]
theorem depL_cons (x:Vl) (r:List Vl):depL (x :: r)=max (dep x) (depL r):=by cases x;simp only [depL,dep]
def okL:Nat→List Vl→Bool
 |_,[]=>true
 |0,_ :: _=>false
 |b+1,.mk kind n s l ks :: r=>(formB kind n s l.length ks && okL b l) && okL (b+1) r
def okB:Nat→Vl→Bool
 |0,_=>false
 |b+1,.mk kind n s l ks=>formB kind n s l.length ks && okL b l
theorem okL_nil (b:Nat):okL b []=true:=by simp only [okL]
theorem okL_cons (b:Nat) (x:Vl) (r:List Vl):okL b (x :: r)=(okB b x && okL b r):=by
 cases x
 cases b <;> simp only [okL,okB,Bool.false_and]
theorem wtL_app (a b:List Vl):wtL (a++b)=wtL a+wtL b:=by
 induction a with
 |nil=>simp [wtL_nil]
 |cons x r ih=>simp [wtL_cons,ih];omega
theorem depL_app (a b:List Vl):depL (a++b)=max (depL a) (depL b):=by
 induction a with
 |nil=>simp [depL_nil]
 |cons x r ih=>simp [depL_cons,ih,Nat.max_assoc]
theorem okL_app (n:Nat) (a b:List Vl):okL n (a++b)=(okL n a && okL n b):=by
 induction a with
 |nil=>simp [okL_nil]
 |cons x r ih=>simp [okL_cons,ih,Bool.and_assoc]
theorem wtL_next (l:List Vl) (i:Nat) (x:Vl) (h:l[i]?=some x):wtL (l.take (i+1))=wtL (l.take i)+wt x:=by
 obtain⟨hi,rfl⟩:=List.getElem?_eq_some_iff.1 h
 rw [List.take_succ_eq_append_getElem hi,wtL_app,wtL_cons,wtL_nil,Nat.add_zero]
theorem depL_next (l:List Vl) (i:Nat) (x:Vl) (h:l[i]?=some x):depL (l.take (i+1))=max (depL (l.take i)) (dep x):=by
 obtain⟨hi,rfl⟩:=List.getElem?_eq_some_iff.1 h
 rw [List.take_succ_eq_append_getElem hi,depL_app,depL_cons,depL_nil,Nat.max_zero]
theorem okL_next (n:Nat) (l:List Vl) (i:Nat) (x:Vl) (h:l[i]?=some x):okL n (l.take (i+1))=(okL n (l.take i) && okB n x):=by
 obtain⟨hi,rfl⟩:=List.getElem?_eq_some_iff.1 h
 rw [List.take_succ_eq_append_getElem hi,okL_app,okL_cons,okL_nil,Bool.and_true]
theorem wtL_take_le (l:List Vl) (i:Nat):wtL (l.take i)≤wtL l:=by
 have h:=wtL_app (l.take i) (l.drop i)
 rw [List.take_append_drop] at h
 omega
theorem okL_all (n:Nat) (l:List Vl) (h:okL n l=true):∀x∈l,okB n x=true:=by
 induction l with
 |nil=>intro x hx;cases hx
 |cons y r ih=>
  intro x hx
  rw [okL_cons,Bool.and_eq_true] at h
  rcases List.mem_cons.1 hx with rfl|hx
  ·exact h.1
  ·exact ih h.2 x hx
theorem okL_of_take (n:Nat) (l:List Vl) (i:Nat) (x:Vl) (h:l[i]?=some x) (hx:okB n x=false):okL n l=false:=by
 cases ho:okL n l with
 |false=>rfl
 |true=>
  have:=okL_all n l ho x (List.mem_of_getElem? h)
  rw [hx] at this
  cases this
theorem wt_pos (v:Vl):0<wt v:=by cases v;simp [wt];omega
theorem wt_le_wtL (l:List Vl) (i:Nat) (x:Vl) (h:l[i]?=some x):wtL (l.take i)+wt x≤wtL l:=by
 have:=wtL_take_le l (i+1)
 rw [wtL_next l i x h] at this
 exact this
set_option linter.unusedVariables false
set_option linter.unusedSimpArgs false
structure Tn where
 mk ::
 k:Int
 t:ByteArray
 v:Vl
 f:Bool
 ks:List Tn
 p:Int
def tnV (k:Int) (t:ByteArray) (c:List Value) (f:Bool) (a:Option Addr) (n cc:Nat) (p:Int):List Value:=.int .i64 k :: .string t :: (c++[.bool f,.slice a n cc,.int .i64 p])
structure NF (w:World) (P:Nat→Prop) (k p:Int) (t:ByteArray) (ks:List Tn) (a:Option Addr) (cc:Nat) (C:Nat→List Value):Prop where
 bk:-9223372036854775808≤k∧k≤9223372036854775807
 bp:-9223372036854775808≤p∧p≤9223372036854775807
 bt:t.size≤140737488351232
 nl:a=none→ks.length=0∧cc=0
 ll:ks.length≤cc
 bl:ks.length≤140737488351232
 hl:∀x,a=some x→∀i,i<ks.length→P x.block∧∀j v,(C i)[j]?=some v→w.cell? ((x.add (i * 10)).add j)=some v
 hv:∀i,i<ks.length→(C i).length=10
def IsNs (w:World) (P:Nat→Prop):List Tn→(Nat→List Value)→Prop
 |[],_=>True
 |.mk k t v f ks p :: r,C=>(∃(c:List Value) (a:Option Addr) (cc:Nat) (C':Nat→List Value),C 0=tnV k t c f a ks.length cc p∧c.length=5∧IsP w P v (.agg c.toArray)∧NF w P k p t ks a cc C'∧IsNs w P ks C')∧IsNs w P r (fun i=>C (i+1))
def IsN (w:World) (P:Nat→Prop) (n:Tn) (x:List Value):Prop:=∃(c:List Value) (a:Option Addr) (cc:Nat) (C:Nat→List Value),x=tnV n.k n.t c n.f a n.ks.length cc n.p∧c.length=5∧IsP w P n.v (.agg c.toArray)∧NF w P n.k n.p n.t n.ks a cc C∧IsNs w P n.ks C
theorem IsNs_iff (w:World) (P:Nat→Prop):∀(l:List Tn) (C:Nat→List Value),IsNs w P l C↔∀i y,l[i]?=some y→IsN w P y (C i)
 |[],C=>by simp [IsNs]
 |.mk k t v f ks p :: r,C=>by
  have ih:=IsNs_iff w P r (fun i=>C (i+1))
  simp only [IsNs]
  constructor
  ·rintro ⟨h1,h2⟩ i y hi
   cases i with
   |zero=>
    simp only [List.getElem?_cons_zero,Option.some.injEq] at hi
    subst hi
    exact h1
   |succ i=>exact ih.1 h2 i y (by simpa using hi)
  ·intro h
   exact⟨h 0 _ rfl,ih.2 (fun i y hi=>h (i+1) y (by simpa using hi))⟩
theorem NF.to {w w':World} {P Q:Nat→Prop} (hw:∀b,P b→w'.heap[b]?=w.heap[b]?) (hP:∀b,P b→Q b) {k p:Int} {t:ByteArray} {ks:List Tn} {a:Option Addr} {cc:Nat} {C:Nat→List Value} (h:NF w P k p t ks a cc C):NF w' Q k p t ks a cc C:=
 ⟨h.bk,h.bp,h.bt,h.nl,h.ll,h.bl,fun x hx i hi=>⟨hP _ (h.hl x hx i hi).1,fun j v hj=>by
  have h1:=(h.hl x hx i hi).2 j v hj
  have e:((x.add (i * 10)).add j).block=x.block:=by unfold Addr.add;split <;> (split <;> rfl)
  have e2:w'.heap[((x.add (i * 10)).add j).block]?=w.heap[((x.add (i * 10)).add j).block]?:=by rw [e];exact hw _ (h.hl x hx i hi).1
  exact(World.cell?_of_block e2).trans h1⟩,h.hv⟩
theorem IsNs.to {w w':World} {P Q:Nat→Prop} (hw:∀b,P b→w'.heap[b]?=w.heap[b]?) (hP:∀b,P b→Q b):∀(l:List Tn) (C:Nat→List Value),IsNs w P l C→IsNs w' Q l C
 |[],_,_=>by simp [IsNs]
 |.mk k t v f ks p :: r,C,h=>by
  simp only [IsNs] at h ⊢
  obtain⟨⟨c,a,cc,C',h1,h5,h2,h3,h4⟩,hr⟩:=h
  exact⟨⟨c,a,cc,C',h1,h5,h2.to hw hP,h3.to hw hP,IsNs.to hw hP ks C' h4⟩,IsNs.to hw hP r _ hr⟩
theorem IsN.to {w w':World} {P Q:Nat→Prop} (hw:∀b,P b→w'.heap[b]?=w.heap[b]?) (hP:∀b,P b→Q b) {n:Tn} {x:List Value} (h:IsN w P n x):IsN w' Q n x:=by
 obtain⟨c,a,cc,C,h1,h5,h2,h3,h4⟩:=h
 exact⟨c,a,cc,C,h1,h5,h2.to hw hP,h3.to hw hP,IsNs.to hw hP _ C h4⟩
theorem IsN.shape {w:World} {P:Nat→Prop} {n:Tn} {x:List Value} (h:IsN w P n x):∃(vk vn:Int) (vs:ByteArray) (al ak a:Option Addr) (ll cl lk ck cc:Nat),x=[.int .i64 n.k,.string n.t,.int .i64 vk,.int .i64 vn,.string vs,.slice al ll cl,.slice ak lk ck,.bool n.f,.slice a n.ks.length cc,.int .i64 n.p]∧n.v.kind=vk∧n.v.n=vn∧n.v.s=vs∧n.v.l.length=ll∧n.v.ks.length=lk:=by
 obtain⟨c,a,cc,C,h1,h5,⟨al,ak,cl,ck,V,hx,_⟩,_⟩:=h
 unfold hd at hx
 injection hx with hx
 have hc:c=[.int .i64 n.v.kind,.int .i64 n.v.n,.string n.v.s,.slice al n.v.l.length cl,.slice ak n.v.ks.length ck]:=by
  have:=congrArg Array.toList hx
  simpa using this
 subst hc
 exact⟨_,_,_,al,ak,a,_,cl,_,ck,cc,h1,rfl,rfl,rfl,rfl,rfl⟩
def RowN (w:World) (B0:Nat) (ns:List Tn) (a:Option Addr) (cc:Nat):Prop:=∃C,NF w (fun b=>b<B0) 0 0 ⟨#[]⟩ ns a cc C∧IsNs w (fun b=>b<B0) ns C
theorem RowN.later {w u:World} {B0:Nat} {ns:List Tn} {a:Option Addr} {cc:Nat} (h:RowN w B0 ns a cc) (hb:Below B0 w u):RowN u B0 ns a cc:=by
 obtain⟨C,h1,h2⟩:=h
 exact⟨C,h1.to (fun b hl=>hb.block b hl) (fun _ h=>h),IsNs.to (fun b hl=>hb.block b hl) (fun _ h=>h) _ _ h2⟩
theorem RowN.at {w:World} {B0:Nat} {ns:List Tn} {a:Option Addr} {cc:Nat} (h:RowN w B0 ns a cc) {i:Nat} {y:Tn} (hi:ns[i]?=some y):∃(b:Addr) (z:List Value),a=some b∧ns.length≤cc∧IsN w (fun b=>b<B0) y z∧∀j v,z[j]?=some v→w.cell? ((b.add (i * 10)).add j)=some v:=by
 obtain⟨C,hf,hk⟩:=h
 have hlt:i<ns.length:=(List.getElem?_eq_some_iff.1 hi).1
 cases a with
 |none=>have:=(hf.nl rfl).1;omega
 |some b=>exact⟨b,C i,rfl,hf.ll,(IsNs_iff w _ _ _).1 hk i y hi,(hf.hl b rfl i hlt).2⟩
theorem row_ten {w:World} {g:Nat} {v0 v1 v2 v3 v4 v5 v6 v7 v8 v9:Value} {T:TypeId} (h:w.heap[g]?=some (.cells #[v0,v1,v2,v3,v4,v5,v6,v7,v8,v9] T (0,0))):w.cell? ⟨g,0,none⟩=some v0∧w.cell? ⟨g,1,none⟩=some v1∧w.cell? ⟨g,2,none⟩=some v2∧w.cell? ⟨g,3,none⟩=some v3∧w.cell? ⟨g,4,none⟩=some v4∧w.cell? ⟨g,5,none⟩=some v5∧w.cell? ⟨g,6,none⟩=some v6∧w.cell? ⟨g,7,none⟩=some v7∧w.cell? ⟨g,8,none⟩=some v8∧w.cell? ⟨g,9,none⟩=some v9:=
 ⟨by rw [cell_of_row w g 0 _ _ (0,0) h];rfl,by rw [cell_of_row w g 1 _ _ (0,0) h];rfl,by rw [cell_of_row w g 2 _ _ (0,0) h];rfl,by rw [cell_of_row w g 3 _ _ (0,0) h];rfl,by rw [cell_of_row w g 4 _ _ (0,0) h];rfl,by rw [cell_of_row w g 5 _ _ (0,0) h];rfl,by rw [cell_of_row w g 6 _ _ (0,0) h];rfl,by rw [cell_of_row w g 7 _ _ (0,0) h];rfl,by rw [cell_of_row w g 8 _ _ (0,0) h];rfl,by rw [cell_of_row w g 9 _ _ (0,0) h];rfl⟩
theorem RowN.len {w:World} {B0:Nat} {ns:List Tn} {a:Option Addr} {cc:Nat} (h:RowN w B0 ns a cc):ns.length≤140737488351232:=by
 obtain⟨C,h1,_⟩:=h
 exact h1.bl
def fltV (f:Ft):Value:=.agg #[.int .i64 f.1,.int .i64 f.2]
def Fp (B:Nat) (u:World) (k:Nat):Prop:=B≤k∧∃c fz,u.heap[k]?=some (.cells c 42 fz)
def KeepF (u u':World):Prop:=∀(k:Nat) (c:Array Value) (T:TypeId),T≠9→T≠4→T≠61→u.heap[k]?=some (.cells c T (0,0))→u'.heap[k]?=some (.cells c T (0,0))
def fF (r:Nat→Ft):Nat→Nat→Ft
 |0,_=>(0,0)
 |m+1,i=>if (r i).2=0 then fF r m (i+1) else r i
theorem first_gen (B0:Nat) (a:Option Addr) (n cc:Nat) (ns:List Tn) (F:FuncId) (Bd cap:Array Value) (r:Nat→Ft) (I:Nat→World→Prop) (J:Ft→World→Prop) (w:World)
  (hf:∀(x:Array Value) (u:World),Sem.run Tryz.prog (callFunc F x) u=.ok (.enter F x) u)
  (hr:RowN w B0 ns a cc) (hn:ns.length=n) (hI0:I 0 w) (hIb:∀i u,I i u→Below B0 w u) (hB:B0≤w.heap.size)
  (hIs:∀i u u',I i u→Besk (Fp w.heap.size u) u u'→I i u') (hJs:∀f u u',J f u→Besk (Fp w.heap.size u) u u'→J f u')
  (hst:∀i y u x,ns[i]?=some y→I i u→B0≤u.heap.size→IsN u (fun b=>b<B0) y x→Calls Tryz.prog F (Bd++#[.agg x.toArray]++cap) u fun e u'=>e=.returned (fltV (r i))∧KeepF u u'∧((r i).2=0→I (i+1) u')∧((r i).2≠0→J (r i) u')) :
  Calls Tryz.prog 13 #[.slice a n cc,.func (.func F) Bd cap] w fun e w'=>e=.returned (fltV (fF r n 0))∧((fF r n 0).2=0→I n w')∧((fF r n 0).2≠0→J (fF r n 0) w'):=by
 have hnb:n≤140737488351232:=by rw [←hn];exact hr.len
 obtain⟨G,hG⟩:=eX (w.heap.size)
 obtain⟨w1,hw1⟩:=eX (w.alloc (.cells #[.int .i64 0,.int .i64 0] 42))
 have b1:=alB hw1
 have r1:w1.heap[G]?=some (.cells #[.int .i64 0,.int .i64 0] 42 (0,0)):=alN hw1 hG
 have H0:=hZ (hIs 0 w w1 hI0 (Besk.of_below b1))
 have HH:=hZ (And.intro hr (And.intro hn (And.intro hIb (And.intro hB (And.intro hIs (And.intro hJs hst))))))
 have HF:=hZ hf
 have HR1:=hZ r1
 have HGw:=hZ hG
 obtain⟨R,hR⟩:=eX (fF r n 0)
 rw [hR]
 have HR:=hZ hR
 clear hf hr hn hI0 hIb hB hIs hJs hst hR r1 b1
 go_enter Tryz.func13,Tryz.ntmps13
 go_upto_region 1 with fail
 try rw [hw1]
 try rw [hG]
 clear hw1 hG
 go_wp2_with fail
 go_loopw [10] (fun x wr=>∃(i:Nat),x=.int .i64 (i:Int)∧i≤n∧Hid (I i wr)∧Hid (fF r (n - i) i=R)∧Hid (wr.heap[G]?=some (.cells #[.int .i64 0,.int .i64 0] 42 (0,0)))) (fun x _=>n - (intOf x).toNat)
 case atStart=>exact⟨0,rfl,Nat.zero_le _,H0,HR,HR1⟩
 case round=>
  obtain⟨i,rfl,hin,HI,HT,HG⟩:=hrel
  obtain⟨wq,hwq⟩:∃wq,wq=wr:=⟨_,rfl⟩
  subst hwq
  clear H0 HR1
  by_cases hi:i<n
  ·have i2:(i:Int)<(n:Int):=by omega
   obtain⟨hr,hn,hIb,hB,hIs,hJs,hst⟩:=uZ HH
   have bq:=hIb i wq (uZ HI)
   obtain⟨y,hy⟩:∃y,ns[i]?=some y:=⟨_,List.getElem?_eq_getElem (by omega)⟩
   obtain⟨ya0,z,rfl,hcc,hz,hcell⟩:=(hr.later bq).at hy
   obtain⟨vk,vn,vs,al,ak,ya,ll,cl,lk,ck,yc,hzs,_⟩:=hz.shape
   subst hzs
   obtain⟨yk,yt,yv,yf,yks,yp⟩:=y
   obtain⟨yn,hyl⟩:=eX (yks.length)
   simp only [hyl] at hcell hz
   obtain⟨e0,e1,e2,e3,e4,e5,e6,e7,e8,e9⟩:=tenC hcell
   obtain⟨w1,hw1⟩:=eX (wq.alloc (.cells #[.int .i64 yk,.string yt,.int .i64 vk,.int .i64 vn,.string vs,.slice al ll cl,.slice ak lk ck,.bool yf,.slice ya yn yc,.int .i64 yp] 28))
   obtain⟨g1,hg1⟩:=eX (wq.heap.size)
   have A1:w1.heap[g1]?=some (.cells #[.int .i64 yk,.string yt,.int .i64 vk,.int .i64 vn,.string vs,.slice al ll cl,.slice ak lk ck,.bool yf,.slice ya yn yc,.int .i64 yp] 28 (0,0)):=alN hw1 hg1
   have b1:=alB hw1
   have hBq:B0≤wq.heap.size:=Nat.le_trans hB bq.size
   have hz1:=IsN.to (Q:=fun b=>b<B0) (w':=w1) (fun c hc=>b1.block c (Nat.lt_of_lt_of_le hc hBq)) (fun _ h=>h) hz
   have CP:=hZ (hst i _ w1 _ hy (hIs i wq w1 (uZ HI) (Besk.of_below b1)) (Nat.le_trans hBq b1.size) hz1)
   have HG1:=hZ ((b1.block G (ltR (uZ HG))).trans (uZ HG))
   have HA:=hZ A1
   have HWW:=hZ hw1
   clear hcc hz hz1 hcell hyl A1 b1 hw1 hy HI bq hBq hr hn hIb hB hIs hJs hst HG
   go_upto_region 4 with fail
   rw [uZ HWW]
   try rw [hg1]
   clear HWW e0 e1 e2 e3 e4 e5 e6 e7 e8 e9
   obtain⟨x0,x1,x2,x3,x4,x5,x6,x7,x8,x9⟩:=row_ten (uZ HA)
   obtain⟨⟨f1,f2⟩,hq⟩:∃q:Ft,r i=q:=⟨_,rfl⟩
   rw [hq] at CP
   have HQ:=hZ hq
   clear hq HA
   go_wp2_with (rw [uZ HF])
   refine(uZ CP).mono ?_
   rintro e w3 ⟨rfl,hkf,h1,h2⟩
   have HG3:=hZ (hkf G _ _ (by decide) (by decide) (by decide) (uZ HG1))
   have H1:=hZ h1
   have H2:=hZ h2
   obtain⟨g3,hg3⟩:=eX (w3.heap.size)
   have hgG:G<g3:=by rw [←hg3];exact ltR (uZ HG3)
   have HGG:=hZ hgG
   clear h1 h2 CP x0 x1 x2 x3 x4 x5 x6 x7 x8 x9 hkf hgG
   unfold fltV
   go_upto_region 5 with fail
   obtain⟨w4,hw4⟩:=eX (w3.alloc (.cells #[.int .i64 f1,.int .i64 f2] 42))
   have b4:=alB hw4
   have n4:w4.heap[g3]?=some (.cells #[.int .i64 f1,.int .i64 f2] 42 (0,0)):=alN hw4 hg3
   obtain⟨k0,k1⟩:=two_at n4
   have HG4:=hZ ((b4.block G (ltR (uZ HG3))).trans (uZ HG3))
   have B4:=hZ b4
   try rw [hw4]
   try rw [hg3]
   clear b4 n4 hw4 hg3
   by_cases hf2:f2=0
   ·have hq2:(r i).2=0:=by rw [uZ HQ];exact hf2
    have hT:fF r (n - (i+1)) (i+1)=R:=by
     rw [←uZ HT,show n - i=(n - (i+1))+1 by omega,fF,if_pos hq2]
    have HT2:=hZ hT
    have HI2:=hZ ((uZ HH).2.2.2.2.1 (i+1) w3 w4 (uZ H1 hf2) (Besk.of_below (uZ B4)))
    subst hf2
    clear H1 H2 HT hT hq2 HQ
    go_wp2_with fail
    go_roundw
    case rel=>exact⟨i+1,by go_num,by omega,HI2,HT2,HG4⟩
    case measure=>simp [intOf];omega
   ·have hq2:¬(r i).2=0:=by rw [uZ HQ];exact hf2
    have hT:R=(f1,f2):=by
     rw [←uZ HT,show n - i=(n - (i+1))+1 by omega,fF,if_neg hq2,uZ HQ]
    subst hT
    have hne:(f2 == 0)=false:=by simpa using hf2
    obtain⟨j0,j1⟩:=two_at (uZ HG4)
    have y0:=frozen_of_row w4 G 0 _ _ (uZ HG4)
    have y1:=frozen_of_row w4 G 1 _ _ (uZ HG4)
    have hP:Fp w.heap.size w3 G:=⟨Nat.le_of_eq (uZ HGw),_,_,uZ HG3⟩
    have HE:=hZ (And.intro (put2 (uZ HG4) (.int .i64 f1) (.int .i64 f2)) ((uZ HH).2.2.2.2.2.1 (f1,f2) w3 _ (uZ H2 hf2) (((Besk.of_below (P:=Fp w.heap.size w3) (uZ B4)).set (p:=⟨G,0,none⟩) (Or.inl hP) (.int .i64 f1)).set (p:=⟨G,1,none⟩) (Or.inl hP) (.int .i64 f2))))
    clear hP hq2
    go_wp2_with fail
    exact rtF (p:=4) rfl rfl (uZ HE).1 rfl ⟨rfl,(uZ HE).2⟩
  ·have i2:¬(i:Int)<(n:Int):=by omega
   have hin2:i=n:=by omega
   have hT:R=(0,0):=by
    rw [←uZ HT,hin2,Nat.sub_self]
    rfl
   subst hT
   obtain⟨j0,j1⟩:=two_at (uZ HG)
   have y0:=frozen_of_row wq G 0 _ _ (uZ HG)
   have y1:=frozen_of_row wq G 1 _ _ (uZ HG)
   have hP:Fp w.heap.size wq G:=⟨Nat.le_of_eq (uZ HGw),_,_,uZ HG⟩
   have HE:=hZ (And.intro (put2 (uZ HG) (.int .i64 0) (.int .i64 0)) ((uZ HH).2.2.2.2.1 n wq _ (by rw [←hin2];exact uZ HI) (((Besk.refl (Fp w.heap.size wq) wq).set (p:=⟨G,0,none⟩) (Or.inl hP) (.int .i64 0)).set (p:=⟨G,1,none⟩) (Or.inl hP) (.int .i64 0))))
   clear hP hin2
   go_wp2_with fail
   exact rtF (p:=4) rfl rfl (uZ HE).1 rfl ⟨rfl,(uZ HE).2⟩
end Go.Proofs.YtjdpaihhhjdgmaaGreatDoor
