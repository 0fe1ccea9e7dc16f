/-
  Layer 18 (print): what a text is (a function that puts bytes into a builder), and how it lasts; no conditions.
  Layer 18 (print): a row of texts is a text; no conditions.
  Layer 18 (print): trees of nodes, and how they lie in memory, wherever they came from; no conditions.
  Layer 18 (print): what is made of each node, with a word between, is a text; conditions: the nodes lie in memory.
-/
import Derived.Test.YtekbmfppfjlboaaGreatDoorA03
import Derived.Deep.LoopGhost
import Derived.Test.YtekbmfppfjlboaaGreatDoorA00
set_option linter.unusedVariables false
set_option linter.unusedSimpArgs false
namespace Go.Proofs.YtekbmfppfjlboaaGreatDoor
open Go.RowKit
set_option linter.unusedVariables false
set_option linter.unusedSimpArgs false
structure Kp (B0:Nat) (w u:World):Prop where
 bel:Below B0 w u
 keep:∀(k:Nat) (o:Obj),w.heap[k]?=some o→(∀c fz,o≠.cells c 5 fz)→(∀c fz,o≠.cells c 50 fz)→u.heap[k]?=some o
theorem Kp.refl (B0:Nat) (w:World):Kp B0 w w:=⟨Below.refl _ _,fun _ _ h _ _=>h⟩
theorem Kp.trans {B0:Nat} {a b c:World} (h:Kp B0 a b) (k:Kp B0 b c):Kp B0 a c:=⟨h.bel.trans k.bel,fun i o hi h1 h2=>k.keep i o (h.keep i o hi h1 h2) h1 h2⟩
theorem Kp.below {B0:Nat} {w u:World} (h:Below w.heap.size w u) (hB:B0≤w.heap.size):Kp B0 w u:=⟨h.mono hB,fun k o hk _ _=>(h.block k (Array.getElem?_eq_some_iff.1 hk).1).trans hk⟩
theorem Bd.box {w:World} {B b:Nat} {l:List UInt8} (h:Bd w B b l):∃c,w.heap[b]?=some (.cells c 50 (0,0)):=by
 rcases h with ⟨_,v,hb,_⟩|⟨_,v,hb,_⟩ <;> exact⟨_,hb⟩
theorem Kp.wr {w u:World} {B0 B b:Nat} {l l':List UInt8} (h:Bd w B b l) (hB:B0≤B) (k:Wr B b l' w u):Kp B0 w u:=by
 refine⟨k.below.mono hB,fun i o hi h1 h2=>k.kept i o hi (fun e=>?_) h1⟩
 obtain⟨c,hc⟩:=h.box
 cases e
 rw [hi] at hc
 exact h2 c (0,0) (Option.some.inj hc)
theorem Kp.cells {B0:Nat} {w u:World} (h:Kp B0 w u) {g:Nat} {c:Array Value} {T:TypeId} {fz:Nat × Nat} (hg:w.heap[g]?=some (.cells c T fz)) (h1:¬T=5) (h2:¬T=50):u.heap[g]?=some (.cells c T fz):=
 h.keep g _ hg (fun c' z e=>by injection e with _ e _;exact h1 e) (fun c' z e=>by injection e with _ e _;exact h2 e)
theorem Wr.then {w u v:World} {B b:Nat} {l l':List UInt8} (h:Wr B b l w u) (k:Wr B b l' u v):Wr B b l' w v:=⟨k.bd,h.below.trans k.below,h.kept.trans k.kept⟩
def Txt (B0:Nat) (w:World) (t:Value) (L:List UInt8):Prop:=∃(F:FuncId) (cap:Array Value),t=.func (.func F) #[] cap∧(∀(x:Array Value) (u:World),Sem.run Tryz.prog (callFunc F x) u=.ok (.enter F x) u)∧∀(u:World) (B b:Nat) (l:List UInt8),Kp B0 w u→B0≤B→Bd u B b l→B≤u.heap.size→l.length+L.length≤140737488355328 →
  Calls Tryz.prog F (#[.pointer (some ⟨b,0,none⟩)]++cap) u fun e u'=>e=.returned (.tuple #[])∧Wr B b (l++L) u u'
theorem Txt.later {B0:Nat} {w u:World} {t:Value} {L:List UInt8} (h:Txt B0 w t L) (k:Kp B0 w u):Txt B0 u t L:=by
 obtain⟨F,cap,e,hf,h⟩:=h
 exact⟨F,cap,e,hf,fun v B b l hk=>h v B b l (k.trans hk)⟩
theorem Wr.start {w:World} {B b:Nat} {l:List UInt8} (h:Bd w B b l):Wr B b l w w:=⟨h,Below.refl _ _,Lib.OthersKept.refl _ _ _⟩
theorem call_word (x:Array Value) (u:World):Sem.run Tryz.prog (callFunc 76 x) u=.ok (.enter 76 x) u:=by kernel_rfl
set_option maxRecDepth 100000 in
set_option maxHeartbeats 1000000 in
theorem txw_any (B0:Nat) (s:ByteArray) (w:World):Calls Tryz.prog 40 #[.string s] w fun e w'=>∃t,e=.returned t∧Txt B0 w' t s.data.toList∧Below w.heap.size w w':=by
 obtain⟨w1,hw1⟩:∃w1,w.alloc (.cells #[.string s] 9)=w1:=⟨_,rfl⟩
 obtain⟨G,hG⟩:∃G,w.heap.size=G:=⟨_,rfl⟩
 have A1:w1.heap[G]?=some (.cells #[.string s] 9 (0,0)):=by rw [←hw1,←hG];exact heap_alloc_new _ _
 have B1:Below w.heap.size w w1:=by rw [←hw1];exact(Below.refl _ _).alloc (Nat.le_refl _) _
 have T1:Txt B0 w1 (.func (.func 76) #[] #[.pointer (some ⟨G,0,none⟩)]) s.data.toList:=by
  refine⟨_,_,rfl,call_word,fun u B b l hk hB0 hb hB hl=>?_⟩
  have C:=hk.cells A1 (by decide) (by decide)
  have c0:u.cell? ⟨G,0,none⟩=some (.string s):=by rw [cell_of_row u G 0 _ _ (0,0) C];rfl
  have CW:=hide (wstr_any B b l s u hb (by simpa using hl) hB)
  clear hw1 A1 B1 C hb hk
  show Calls Tryz.prog 76 #[.pointer (some ⟨b,0,none⟩),.pointer (some ⟨G,0,none⟩)] u _
  go_enter Tryz.func76,Tryz.ntmps76
  go_wp2_with fail
  refine(unhide CW).mono ?_
  rintro e u' ⟨rfl,k⟩
  have HK:=hide k
  clear k CW c0
  go_wp2_with fail
  go_end0
  exact⟨rfl,unhide HK⟩
 have HT:=hide T1
 have HB:=hide B1
 have HW:=hide hw1
 clear A1 B1 T1 hw1
 go_enter Tryz.func40,Tryz.ntmps40
 go_wp2_with fail
 go_ret
 rw [unhide HW]
 try rw [hG]
 exact⟨_,rfl,unhide HT,by first|exact unhide HB|(rw [←hG];exact unhide HB)⟩
structure Txs (B0:Nat) (w:World) (q:Nat) (Ls:List (List UInt8)):Prop where
 row:∃cur,w.heap[q]?=some (.cells cur 39 (0,0))∧∀(i:Nat) (L:List UInt8),Ls[i]?=some L→∃t,cur[i]?=some t∧Txt B0 w t L
theorem Txs.at {B0:Nat} {w u:World} {q:Nat} {Ls:List (List UInt8)} (h:Txs B0 w q Ls) (k:Kp B0 w u) {i:Nat} {L:List UInt8} (hi:Ls[i]?=some L):∃F cap,u.cell? ⟨q,i,none⟩=some (.func (.func F) #[] cap)∧Txt B0 u (.func (.func F) #[] cap) L:=by
 obtain⟨cur,h1,h2⟩:=h.row
 obtain⟨t,h3,h4⟩:=h2 i L hi
 have h5:=h4.later k
 obtain⟨F,cap,rfl,_,_⟩:=h4
 refine⟨F,cap,?_,h5⟩
 rw [cell_of_row u q i _ _ (0,0) (k.cells h1 (by decide) (by decide))]
 exact h3
theorem call_row (x:Array Value) (u:World):Sem.run Tryz.prog (callFunc 79 x) u=.ok (.enter 79 x) u:=by kernel_rfl
set_option maxRecDepth 100000 in
set_option maxHeartbeats 1000000 in
theorem row_any (B0 q n cap:Nat) (Ls:List (List UInt8)) (w:World) (hB1:B0≤w.heap.size) (h:Txs B0 w q Ls) (hn:Ls.length=n) (hn9:n≤1000):Calls Tryz.prog 42 #[.slice (some ⟨q,0,none⟩) n cap] w fun e w'=>∃t,e=.returned t∧Txt B0 w' t Ls.flatten∧Below w.heap.size w w':=by
 obtain⟨w1,hw1⟩:∃w1,w.alloc (.cells #[.slice (some ⟨q,0,none⟩) n cap] 73)=w1:=⟨_,rfl⟩
 obtain⟨G,hG⟩:∃G,w.heap.size=G:=⟨_,rfl⟩
 have A1:w1.heap[G]?=some (.cells #[.slice (some ⟨q,0,none⟩) n cap] 73 (0,0)):=by rw [←hw1,←hG];exact heap_alloc_new _ _
 have B1:Below w.heap.size w w1:=by rw [←hw1];exact(Below.refl _ _).alloc (Nat.le_refl _) _
 have T1:Txt B0 w1 (.func (.func 79) #[] #[.pointer (some ⟨G,0,none⟩)]) Ls.flatten:=by
  refine⟨_,_,rfl,call_row,fun u B b l hk hB0 hb hB hl=>?_⟩
  have C:=hk.cells A1 (by decide) (by decide)
  have c0:u.cell? ⟨G,0,none⟩=some (.slice (some ⟨q,0,none⟩) n cap):=by rw [cell_of_row u G 0 _ _ (0,0) C];rfl
  have HK:=hide ((Kp.below B1 hB1).trans hk)
  have HX:=hide h
  have HB:=hide hb
  have HL:=hide (And.intro hn (And.intro hl hB))
  clear hw1 A1 B1 C hb hk h hn hl
  show Calls Tryz.prog 79 #[.pointer (some ⟨b,0,none⟩),.pointer (some ⟨G,0,none⟩)] u _
  go_enter Tryz.func79,Tryz.ntmps79
  go_wp2_with fail
  go_loopw [7] (fun x wr=>∃(i:Nat),x=.int .i64 (i:Int)∧i≤n∧Hid (Wr B b (l++(Ls.take i).flatten) u wr)) (fun x _=>n - (intOf x).toNat)
  case atStart=>exact⟨0,rfl,Nat.zero_le _,hide (by simpa using Wr.start (unhide HB))⟩
  case round=>
   obtain⟨i,rfl,hin,HW⟩:=hrel
   obtain⟨wq,hwq⟩:∃wq,wq=wr:=⟨_,rfl⟩
   subst hwq
   obtain⟨hn,hl,hB⟩:=unhide HL
   by_cases hi:i<n
   ·have i2:(i:Int)<(n:Int):=by omega
    obtain⟨L,hLi⟩:∃L,Ls[i]?=some L:=⟨_,List.getElem?_eq_getElem (by omega)⟩
    have kq:=(unhide HK).trans (Kp.wr (unhide HB) hB0 (unhide HW))
    obtain⟨F,cp,hc,htx⟩:=(unhide HX).at kq hLi
    obtain⟨F',cp',e,hf,hcall⟩:=htx
    injection e with e1 e2 e3
    injection e1 with e1
    subst e1 e3
    have htk:Ls.take (i+1)=Ls.take i++[L]:=by rw [List.take_add_one,hLi];rfl
    have hlen:(l++(Ls.take i).flatten).length+L.length≤140737488355328:=by
     have e1:Ls.flatten=(Ls.take (i+1)).flatten++(Ls.drop (i+1)).flatten:=by rw [←List.flatten_append,List.take_append_drop]
     rw [e1,htk,List.flatten_append,List.length_append,List.length_append] at hl
     simp only [List.flatten_cons,List.flatten_nil,List.append_nil] at hl
     rw [List.length_append]
     omega
    have CC:=hide (hcall wq B b (l++(Ls.take i).flatten) (Kp.refl _ _) hB0 (unhide HW).bd (Nat.le_trans hB (unhide HW).below.size) hlen)
    have HE:=hide htk
    have HF:=hide hf
    have rr:(⟨q,0,none⟩:Addr).add (i * 1)=⟨q,i,none⟩:=by unfold Addr.add;split <;> simp_all
    have r2:(⟨q,0,none⟩:Addr).add i=⟨q,i,none⟩:=by unfold Addr.add;split <;> simp_all
    clear htk hlen hcall kq hLi hn hl hB hf
    go_wp2_with (rw [unhide HF])
    refine(unhide CC).mono ?_
    rintro e w2 ⟨rfl,k2⟩
    have H2:=hide (show Wr B b (l++(Ls.take (i+1)).flatten) u w2 by rw [unhide HE,List.flatten_append];simpa using (unhide HW).then k2)
    clear k2 CC
    go_wp2_with fail
    go_roundw
    case rel=>exact⟨i+1,by go_num,by omega,H2⟩
    case measure=>simp [intOf];omega
   ·have i2:¬(i:Int)<(n:Int):=by omega
    have hin2:i=n:=by omega
    have H2:=hide (show Wr B b (l++Ls.flatten) u wq by have h:=unhide HW;rw [hin2,←hn,List.take_length] at h;exact h)
    clear hn hl hB
    go_wp2_with fail
    go_end0
    exact⟨rfl,unhide H2⟩
 have HT:=hide T1
 have HB:=hide B1
 have HW:=hide hw1
 clear A1 B1 T1 hw1 h
 go_enter Tryz.func42,Tryz.ntmps42
 go_wp2_with fail
 go_ret
 rw [unhide HW]
 try rw [hG]
 exact⟨_,rfl,unhide HT,by first|exact unhide HB|(rw [←hG];exact unhide HB)⟩
structure Tn where
 mk ::
 k:Int
 t:ByteArray
 v:Vl
 f:Bool
 ks:List Tn
 p:Int
def tnV (k:Int) (t:ByteArray) (c:List Value) (f:Bool) (a:Option Addr) (n cc:Nat) (p:Int):List Value:=.int .i64 k :: .string t :: (c++[.bool f,.slice a n cc,.int .i64 p])
structure NF (w:World) (P:Nat→Prop) (k p:Int) (t:ByteArray) (ks:List Tn) (a:Option Addr) (cc:Nat) (C:Nat→List Value):Prop where
 bk:-9223372036854775808≤k∧k≤9223372036854775807
 bp:-9223372036854775808≤p∧p≤9223372036854775807
 bt:t.size≤140737488351232
 nl:a=none→ks.length=0∧cc=0
 ll:ks.length≤cc
 bl:ks.length≤140737488351232
 hl:∀x,a=some x→∀i,i<ks.length→P x.block∧∀j v,(C i)[j]?=some v→w.cell? ((x.add (i * 10)).add j)=some v
 hv:∀i,i<ks.length→(C i).length=10
def IsNs (w:World) (P:Nat→Prop):List Tn→(Nat→List Value)→Prop
 |[],_=>True
 |.mk k t v f ks p :: r,C=>(∃(c:List Value) (a:Option Addr) (cc:Nat) (C':Nat→List Value),C 0=tnV k t c f a ks.length cc p∧c.length=5∧IsP w P v (.agg c.toArray)∧NF w P k p t ks a cc C'∧IsNs w P ks C')∧IsNs w P r (fun i=>C (i+1))
def IsN (w:World) (P:Nat→Prop) (n:Tn) (x:List Value):Prop:=∃(c:List Value) (a:Option Addr) (cc:Nat) (C:Nat→List Value),x=tnV n.k n.t c n.f a n.ks.length cc n.p∧c.length=5∧IsP w P n.v (.agg c.toArray)∧NF w P n.k n.p n.t n.ks a cc C∧IsNs w P n.ks C
theorem IsNs_iff (w:World) (P:Nat→Prop):∀(l:List Tn) (C:Nat→List Value),IsNs w P l C↔∀i y,l[i]?=some y→IsN w P y (C i)
 |[],C=>by simp [IsNs]
 |.mk k t v f ks p :: r,C=>by
  have ih:=IsNs_iff w P r (fun i=>C (i+1))
  simp only [IsNs]
  constructor
  ·rintro ⟨h1,h2⟩ i y hi
   cases i with
   |zero=>
    simp only [List.getElem?_cons_zero,Option.some.injEq] at hi
    subst hi
    exact h1
   |succ i=>exact ih.1 h2 i y (by simpa using hi)
  ·intro h
   exact⟨h 0 _ rfl,ih.2 (fun i y hi=>h (i+1) y (by simpa using hi))⟩
theorem NF.to {w w':World} {P Q:Nat→Prop} (hw:∀b,P b→w'.heap[b]?=w.heap[b]?) (hP:∀b,P b→Q b) {k p:Int} {t:ByteArray} {ks:List Tn} {a:Option Addr} {cc:Nat} {C:Nat→List Value} (h:NF w P k p t ks a cc C):NF w' Q k p t ks a cc C:=
 ⟨h.bk,h.bp,h.bt,h.nl,h.ll,h.bl,fun x hx i hi=>⟨hP _ (h.hl x hx i hi).1,fun j v hj=>by
  have h1:=(h.hl x hx i hi).2 j v hj
  have e:((x.add (i * 10)).add j).block=x.block:=by unfold Addr.add;split <;> (split <;> rfl)
  have e2:w'.heap[((x.add (i * 10)).add j).block]?=w.heap[((x.add (i * 10)).add j).block]?:=by rw [e];exact hw _ (h.hl x hx i hi).1
  exact(World.cell?_of_block e2).trans h1⟩,h.hv⟩
theorem IsNs.to {w w':World} {P Q:Nat→Prop} (hw:∀b,P b→w'.heap[b]?=w.heap[b]?) (hP:∀b,P b→Q b):∀(l:List Tn) (C:Nat→List Value),IsNs w P l C→IsNs w' Q l C
 |[],_,_=>by simp [IsNs]
 |.mk k t v f ks p :: r,C,h=>by
  simp only [IsNs] at h ⊢
  obtain⟨⟨c,a,cc,C',h1,h5,h2,h3,h4⟩,hr⟩:=h
  exact⟨⟨c,a,cc,C',h1,h5,h2.to hw hP,h3.to hw hP,IsNs.to hw hP ks C' h4⟩,IsNs.to hw hP r _ hr⟩
theorem IsN.to {w w':World} {P Q:Nat→Prop} (hw:∀b,P b→w'.heap[b]?=w.heap[b]?) (hP:∀b,P b→Q b) {n:Tn} {x:List Value} (h:IsN w P n x):IsN w' Q n x:=by
 obtain⟨c,a,cc,C,h1,h5,h2,h3,h4⟩:=h
 exact⟨c,a,cc,C,h1,h5,h2.to hw hP,h3.to hw hP,IsNs.to hw hP _ C h4⟩
theorem IsN.shape {w:World} {P:Nat→Prop} {n:Tn} {x:List Value} (h:IsN w P n x):∃(vk vn:Int) (vs:ByteArray) (al ak a:Option Addr) (ll cl lk ck cc:Nat),x=[.int .i64 n.k,.string n.t,.int .i64 vk,.int .i64 vn,.string vs,.slice al ll cl,.slice ak lk ck,.bool n.f,.slice a n.ks.length cc,.int .i64 n.p]∧n.v.kind=vk∧n.v.n=vn∧n.v.s=vs∧n.v.l.length=ll∧n.v.ks.length=lk:=by
 obtain⟨c,a,cc,C,h1,h5,⟨al,ak,cl,ck,V,hx,_⟩,_⟩:=h
 unfold hd at hx
 injection hx with hx
 have hc:c=[.int .i64 n.v.kind,.int .i64 n.v.n,.string n.v.s,.slice al n.v.l.length cl,.slice ak n.v.ks.length ck]:=by
  have:=congrArg Array.toList hx
  simpa using this
 subst hc
 exact⟨_,_,_,al,ak,a,_,cl,_,ck,cc,h1,rfl,rfl,rfl,rfl,rfl⟩
def jl (s:List UInt8):Bool→List (List UInt8)→List UInt8
 |_,[]=>[]
 |b,x :: r=>(if b then x else s++x)++jl s false r
theorem jl_app (s x:List UInt8):∀(b:Bool) (l:List (List UInt8)),jl s b (l++[x])=jl s b l++(if (b && l.isEmpty)=true then x else s++x)
 |b,[]=>by cases b <;> simp [jl]
 |b,y :: r=>by simp only [List.cons_append,jl,jl_app s x false r];simp
theorem jl_len (s:List UInt8):∀(b:Bool) (l m:List (List UInt8)),(jl s b l).length≤(jl s b (l++m)).length
 |b,[],m=>by simp [jl]
 |b,y :: r,m=>by have:=jl_len s false r m;simp only [List.cons_append,jl,List.length_append];omega
def Put (B0:Nat) (w:World) (v:Value) (ns:List Tn) (T:Tn→List UInt8):Prop:=∃(F:FuncId) (cap:Array Value),v=.func (.func F) #[] cap∧(∀(x:Array Value) (u:World),Sem.run Tryz.prog (callFunc F x) u=.ok (.enter F x) u)∧∀(u:World) (y:Tn) (x:List Value),Kp B0 w u→B0≤u.heap.size→y∈ns→IsN u (fun b=>b<B0) y x →
  Calls Tryz.prog F (#[.agg x.toArray]++cap) u fun e u'=>∃t,e=.returned t∧Txt B0 u' t (T y)∧Below u.heap.size u u'
theorem call_listed (x:Array Value) (u:World):Sem.run Tryz.prog (callFunc 67 x) u=.ok (.enter 67 x) u:=by kernel_rfl
def RowN (w:World) (B0:Nat) (ns:List Tn) (a:Option Addr) (cc:Nat):Prop:=∃C,NF w (fun b=>b<B0) 0 0 ⟨#[]⟩ ns a cc C∧IsNs w (fun b=>b<B0) ns C
theorem RowN.later {w u:World} {B0:Nat} {ns:List Tn} {a:Option Addr} {cc:Nat} (h:RowN w B0 ns a cc) (hb:Below B0 w u):RowN u B0 ns a cc:=by
 obtain⟨C,h1,h2⟩:=h
 exact⟨C,h1.to (fun b hl=>hb.block b hl) (fun _ h=>h),IsNs.to (fun b hl=>hb.block b hl) (fun _ h=>h) _ _ h2⟩
theorem RowN.at {w:World} {B0:Nat} {ns:List Tn} {a:Option Addr} {cc:Nat} (h:RowN w B0 ns a cc) {i:Nat} {y:Tn} (hi:ns[i]?=some y):∃(b:Addr) (z:List Value),a=some b∧ns.length≤cc∧IsN w (fun b=>b<B0) y z∧∀j v,z[j]?=some v→w.cell? ((b.add (i * 10)).add j)=some v:=by
 obtain⟨C,hf,hk⟩:=h
 have hlt:i<ns.length:=(List.getElem?_eq_some_iff.1 hi).1
 cases a with
 |none=>have:=(hf.nl rfl).1;omega
 |some b=>exact⟨b,C i,rfl,hf.ll,(IsNs_iff w _ _ _).1 hk i y hi,(hf.hl b rfl i hlt).2⟩
theorem Put.later {B0:Nat} {w u:World} {v:Value} {ns:List Tn} {T:Tn→List UInt8} (h:Put B0 w v ns T) (k:Kp B0 w u):Put B0 u v ns T:=by
 obtain⟨F,cap,e,hf,h⟩:=h
 exact⟨F,cap,e,hf,fun x y z hk=>h x y z (k.trans hk)⟩
theorem one_box {w:World} {g:Nat} {v:Value} {T:TypeId} (h:w.heap[g]?=some (.cells #[v] T (0,0))):w.cell? ⟨g,0,none⟩=some v:=by rw [cell_of_row w g 0 _ _ (0,0) h];rfl
theorem row_ten {w:World} {g:Nat} {v0 v1 v2 v3 v4 v5 v6 v7 v8 v9:Value} {T:TypeId} (h:w.heap[g]?=some (.cells #[v0,v1,v2,v3,v4,v5,v6,v7,v8,v9] T (0,0))):w.cell? ⟨g,0,none⟩=some v0∧w.cell? ⟨g,1,none⟩=some v1∧w.cell? ⟨g,2,none⟩=some v2∧w.cell? ⟨g,3,none⟩=some v3∧w.cell? ⟨g,4,none⟩=some v4∧w.cell? ⟨g,5,none⟩=some v5∧w.cell? ⟨g,6,none⟩=some v6∧w.cell? ⟨g,7,none⟩=some v7∧w.cell? ⟨g,8,none⟩=some v8∧w.cell? ⟨g,9,none⟩=some v9:=
 ⟨by rw [cell_of_row w g 0 _ _ (0,0) h];rfl,by rw [cell_of_row w g 1 _ _ (0,0) h];rfl,by rw [cell_of_row w g 2 _ _ (0,0) h];rfl,by rw [cell_of_row w g 3 _ _ (0,0) h];rfl,by rw [cell_of_row w g 4 _ _ (0,0) h];rfl,by rw [cell_of_row w g 5 _ _ (0,0) h];rfl,by rw [cell_of_row w g 6 _ _ (0,0) h];rfl,by rw [cell_of_row w g 7 _ _ (0,0) h];rfl,by rw [cell_of_row w g 8 _ _ (0,0) h];rfl,by rw [cell_of_row w g 9 _ _ (0,0) h];rfl⟩
end Go.Proofs.YtekbmfppfjlboaaGreatDoor
