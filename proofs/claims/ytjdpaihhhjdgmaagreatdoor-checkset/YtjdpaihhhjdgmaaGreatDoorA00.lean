/-
  A fact put out of the walk's sight, and taken out again; no conditions.
  A map from texts to ints: made, asked, written, struck from; conditions: the texts are of any memory's size.
  Layer 19 (check): what is known at a place of a function, as a value; no conditions.
  Tokens, as functions of lists of bytes; no conditions.
-/
import Derived.WalkKit
import Derived.Below
import Derived.Laws.Rows
import Derived.Test.YtjdpaihhhjdgmaaGreatDoorChecked
import Derived.Maps.OwnSet
import Derived.Maps.OwnOps
set_option linter.unusedVariables false
set_option linter.unusedSimpArgs false
set_option maxRecDepth 100000
set_option maxHeartbeats 8000000
namespace Go.Proofs.YtjdpaihhhjdgmaaGreatDoor
open Go.RowKit
theorem hZ {p:Prop} (h:p):Hid p:=h
theorem uZ {p:Prop} (h:Hid p):p:=h
theorem sA {α:Type} (l:List α) (i:Nat) (a:α):l.toArray.setIfInBounds i a=(l.set i a).toArray:=by simp
theorem sB {α:Type} (x y:α) (l:List α):(x :: l).set 0 y=y :: l:=rfl
theorem sC {α:Type} (x y:α) (l:List α) (i:Nat):(x :: l).set (i+1) y=x :: l.set i y:=rfl
theorem eX {α : Sort _} (a : α) : ∃ b, a = b := ⟨a, rfl⟩
theorem alB {w u : World} {o : Obj} (h : w.alloc o = u) : Below w.heap.size w u := by rw [← h]; exact (Below.refl _ _).alloc (Nat.le_refl _) _
theorem alN {w u : World} {o : Obj} {G : Nat} (h : w.alloc o = u) (g : w.heap.size = G) : u.heap[G]? = some o := by rw [← h, ← g]; exact heap_alloc_new _ _
theorem al1 {w w1:World} {C:Array Value} {T:TypeId} {G:Nat} (h:w.alloc (.cells C T)=w1) (hG:w.heap.size=G):w1.heap[G]?=some (.cells C T (0,0))∧Below G w w1:=by
 subst h
 subst hG
 exact⟨heap_alloc_new _ _,(Below.refl _ _).alloc (Nat.le_refl _) _⟩
theorem tenC {w:World} {A:Addr} {v0 v1 v2 v3 v4 v5 v6 v7 v8 v9:Value} (h:∀ (j:Nat) (v:Value),([v0,v1,v2,v3,v4,v5,v6,v7,v8,v9]:List Value)[j]?=some v→w.cell? (A.add j)=some v):w.cell? A=some v0∧w.cell? ⟨A.block,A.off+1,none⟩=some v1∧w.cell? ⟨A.block,A.off+2,none⟩=some v2∧w.cell? ⟨A.block,A.off+3,none⟩=some v3∧w.cell? ⟨A.block,A.off+4,none⟩=some v4∧w.cell? ⟨A.block,A.off+5,none⟩=some v5∧w.cell? ⟨A.block,A.off+6,none⟩=some v6∧w.cell? ⟨A.block,A.off+7,none⟩=some v7∧w.cell? ⟨A.block,A.off+8,none⟩=some v8∧w.cell? ⟨A.block,A.off+9,none⟩=some v9:=⟨h 0 _ rfl,h 1 _ rfl,h 2 _ rfl,h 3 _ rfl,h 4 _ rfl,h 5 _ rfl,h 6 _ rfl,h 7 _ rfl,h 8 _ rfl,h 9 _ rfl⟩
def NF10 (w1:World) (G:Nat) (a0 a1 a2 a3 a4 a5 a6 a7 a8 a9:Value):Prop:=∀u,Below w1.heap.size w1 u→u.cell? ⟨G,0,none⟩=some a0∧u.cell? ⟨G,1,none⟩=some a1∧u.cell? ⟨G,2,none⟩=some a2∧u.cell? ⟨G,3,none⟩=some a3∧u.cell? ⟨G,4,none⟩=some a4∧u.cell? ⟨G,5,none⟩=some a5∧u.cell? ⟨G,6,none⟩=some a6∧u.cell? ⟨G,7,none⟩=some a7∧u.cell? ⟨G,8,none⟩=some a8∧u.cell? ⟨G,9,none⟩=some a9
set_option linter.unusedVariables false
set_option linter.unusedSimpArgs false
theorem keyedS:Maps.Keyed Tryz.prog 9:=Maps.string_keyed Tryz.underlying9
def i64C (x:Int):Prop:=-9223372036854775808≤x∧x≤9223372036854775807
theorem wf64C {k:Int} (h:i64C k):(Lit.int .i64 k).wf=true:=by
 unfold i64C at h
 have h1:IntKind.i64.min=-9223372036854775808:=by decide
 have h2:IntKind.i64.max=9223372036854775807:=by decide
 simp [Lit.wf,h1,h2]
 omega
theorem keyS {s:ByteArray} (h:s.size≤maxLen):keyOf Tryz.prog 9 (.string s)=some (.string s.data.toList):=by
 rw [keyOf_string Tryz.underlying9]
 unfold mapKey
 simp [Tryz.underlying9,h]
theorem infoIntC:(Tryz.prog.info? 3).map (fun i=>(i.zero,i.size,i.bytes))=some (some (.int .i64 0),1,8):=by kernel_rfl
theorem zeroIC (w:World):(zeroValue 3).run Tryz.prog w=.ok (.int .i64 0) w:=by
 obtain⟨i0,hi,hz0,hz1,hz2⟩:=info_parts infoIntC
 simp [zeroValue,typeInfo,hi,hz0]
def Nms (w:World) (b n:Nat) (f:List UInt8→Option Int):Prop:=
 ∃D:DataW Unit,w.ownsMap Tryz.prog 9 (plainElem Tryz.prog 3) b n D∧∀s,Maps.has D (.string s)=(f s).isSome∧∀x,f s=some x→D.atKey (.string s) (.lit (.int .i64 0))=.lit (.int .i64 x)
theorem Nms.ext {w:World} {b n:Nat} {f g:List UInt8→Option Int} (h:Nms w b n f) (e:∀s,f s=g s):Nms w b n g:=by
 obtain⟨D,h1,h2⟩:=h
 exact⟨D,h1,fun s=>by rw [←e s];exact h2 s⟩
theorem Nms.later {w w':World} {b n:Nat} {f:List UInt8→Option Int} (h:Nms w b n f) (hb:w'.heap[b]?=w.heap[b]?):Nms w' b n f:=by
 obtain⟨D,⟨es,ck,h1,h2⟩,h3⟩:=h
 exact⟨D,⟨es,ck,hb.trans h1,h2⟩,h3⟩
theorem Nms.isMap {w:World} {b n:Nat} {f:List UInt8→Option Int} (h:Nms w b n f):∃es ck,w.heap[b]?=some (.map es ck):=by
 obtain⟨D,⟨es,ck,h1,h2⟩,h3⟩:=h
 exact⟨es,ck,h1⟩
theorem Nms.lt {w:World} {b n:Nat} {f:List UInt8→Option Int} (h:Nms w b n f):b<w.heap.size:=by
 obtain⟨es,ck,h1⟩:=h.isMap
 exact(Array.getElem?_eq_some_iff.1 h1).1
theorem Nms.made (w:World):Nms (w.alloc (.map #[] 0)) w.heap.size 0 (fun _=>none):=⟨.map [],World.ownsMap_made w _ _ _,fun s=>⟨rfl,fun h hh=>by cases hh⟩⟩
theorem Nms.get {w:World} {b n:Nat} {f:List UInt8→Option Int} (h:Nms w b n f) {s:ByteArray} (hs:s.size≤maxLen) (t:TypeId) (ht:Tryz.prog.underlying t=some (.map 9 3)) :
  (Instr.lookup t (.map (some b)) (.string s) false).run Tryz.prog w=.ok (.int .i64 ((f s.data.toList).getD 0)) w:=by
 obtain⟨D,h1,h2⟩:=h
 obtain⟨c,hrun,hat,_⟩:=h1.lookup_int keyedS ht Tryz.underlying3 (zeroIC w) (keyS hs)
 rw [hrun]
 obtain⟨h3,h4⟩:=h2 s.data.toList
 cases e:f s.data.toList with
 |none=>
  rw [e] at h3
  rw [Maps.atKey_of_not_has h3] at hat
  cases hat
  rfl
 |some x=>
  rw [h4 x e] at hat
  cases hat
  rfl
theorem Nms.ask {w:World} {b n:Nat} {f:List UInt8→Option Int} (h:Nms w b n f) {s:ByteArray} (hs:s.size≤maxLen) (t:TypeId) (ht:Tryz.prog.underlying t=some (.map 9 3)) :
  (Instr.lookup t (.map (some b)) (.string s) true).run Tryz.prog w=.ok (.tuple #[.int .i64 ((f s.data.toList).getD 0),.bool (f s.data.toList).isSome]) w:=by
 obtain⟨D,h1,h2⟩:=h
 obtain⟨v,ps,hrun,hv⟩:=h1.look_ok keyedS ht (zeroIC w) (plainElem_int Tryz.underlying3 (a:=0) (by decide)) (keyS hs)
 obtain⟨c,rfl,hc,_⟩:=plainElem_int_inv Tryz.underlying3 hv
 have hat:=congrArg Prod.fst hc
 simp only [] at hat
 rw [hrun]
 obtain⟨h3,h4⟩:=h2 s.data.toList
 cases e:f s.data.toList with
 |none=>
  rw [e] at h3
  rw [Maps.atKey_of_not_has h3] at hat
  cases hat
  rw [h3]
  rfl
 |some x=>
  rw [h4 x e] at hat
  cases hat
  rw [h3,e]
  rfl
theorem Nms.put {w:World} {b n:Nat} {f:List UInt8→Option Int} (h:Nms w b n f) {s:ByteArray} (hs:s.size≤maxLen) {x:Int} (hx:i64C x) (hl:n<maxLen) (t:TypeId) (ht:Tryz.prog.underlying t=some (.map 9 3)) :
  ∃w',(Instr.mapUpdate t (.map (some b)) (.string s) (.int .i64 x)).run Tryz.prog w=.ok () w'∧Nms w' b (n+1) (fun z=>if z=s.data.toList then some x else f z)∧w.grownBy w' (some b):=by
 obtain⟨D,h1,h2⟩:=h
 obtain⟨w',hrun,ho,hg⟩:=h1.update keyedS ht hl (keyS hs) (plainElem_int Tryz.underlying3 (wf64C hx))
 refine⟨w',hrun,⟨_,ho,fun z=>?_⟩,hg⟩
 have hm:=h1.isMap
 have hkl:WideAt.IsKeyLit (.string s.data.toList):=by first|trivial|exact⟨_,_,rfl⟩|simp [WideAt.IsKeyLit]
 by_cases e:z=s.data.toList
 ·subst e
  simp only [if_true]
  exact⟨Maps.has_put_same hm hkl _,fun h hh=>by cases hh;exact Maps.atKey_put_same hm hkl _ _⟩
 ·simp only [if_neg e]
  have hne:(Lit.string z)≠.string s.data.toList:=fun hc=>e (by cases hc;rfl)
  rw [Maps.has_put_other hne]
  exact⟨(h2 z).1,fun h hh=>by rw [Maps.atKey_put_other hne];exact(h2 z).2 h hh⟩
theorem Nms.del {w:World} {b n:Nat} {f:List UInt8→Option Int} (h:Nms w b n f) {s:ByteArray} (hs:s.size≤maxLen) (t:TypeId) (ht:Tryz.prog.underlying t=some (.map 9 3)) (ty:TypeId) :
  ∃w',(Builtin.delete_ #[t,9] ty #[.map (some b),.string s]).run Tryz.prog w=.ok (.tuple #[]) w'∧Nms w' b n (fun z=>if z=s.data.toList then none else f z)∧w.mapTurned w' b:=by
 obtain⟨D,h1,h2⟩:=h
 obtain⟨w',hrun,ho,hg⟩:=h1.drop keyedS ht (keyS hs) ty
 refine⟨w',hrun,⟨_,ho,fun z=>?_⟩,hg⟩
 by_cases e:z=s.data.toList
 ·subst e
  simp only [if_true]
  exact⟨Maps.has_del_same,fun h hh=>by cases hh⟩
 ·simp only [if_neg e]
  have hne:(Lit.string z)≠.string s.data.toList:=fun hc=>e (by cases hc;rfl)
  rw [Maps.has_del_other hne]
  exact⟨(h2 z).1,fun h hh=>by rw [Maps.atKey_del_other hne];exact(h2 z).2 h hh⟩
def ixL:List (List UInt8)→Nat→List UInt8→Option Int
 |[],_,_=>none
 |x :: r,i,s=>if s=x then some (i:Int) else ixL r (i+1) s
theorem ixL_none:∀(l:List (List UInt8)) (i:Nat) (s:List UInt8),ixL l i s=none↔s∉l
 |[],i,s=>by simp [ixL]
 |x :: r,i,s=>by
  have ih:=ixL_none r (i+1) s
  unfold ixL
  by_cases e:s=x
  ·simp [e]
  ·simp [e,ih]
theorem ixL_app:∀(l:List (List UInt8)) (i:Nat) (t s:List UInt8),t∉l→ixL (l++[t]) i s=if s=t then some ((i+l.length:Nat):Int) else ixL l i s
 |[],i,t,s,h=>by
  by_cases e:s=t
  ·simp [ixL,e]
  ·simp [ixL,e]
 |x :: r,i,t,s,h=>by
  have hx:t≠x:=fun e=>h (by rw [e];exact List.mem_cons_self)
  have ih:=ixL_app r (i+1) t s (fun hm=>h (List.mem_cons_of_mem _ hm))
  rw [List.cons_append]
  unfold ixL
  by_cases e:s=x
  ·have hst:¬s=t:=fun e2=>hx (by rw [←e2,e])
   simp [e,hst]
   intro e3
   exact absurd e3.symm hx
  ·simp only [if_neg e,ih,List.length_cons]
   by_cases e2:s=t
   ·simp only [if_pos e2]
    congr 2
    omega
   ·simp only [if_neg e2]
theorem ixL_bound:∀(l:List (List UInt8)) (i:Nat) (s:List UInt8) (x:Int),ixL l i s=some x→∃j:Nat,x=((i+j:Nat):Int)∧l[j]?=some s
 |[],i,s,x,h=>by simp [ixL] at h
 |y :: r,i,s,x,h=>by
  unfold ixL at h
  by_cases e:s=y
  ·rw [if_pos e] at h
   cases h
   exact⟨0,by simp,by simp [e]⟩
  ·rw [if_neg e] at h
   obtain⟨j,hj,hr⟩:=ixL_bound r (i+1) s x h
   exact⟨j+1,by rw [hj];congr 1;omega,by simpa using hr⟩
structure Sco where
 vars:List (List UInt8)
 set:List Bool
 all:Bool
 loops:Int
abbrev Ft:=Int × Int
def dclS (s:Sco) (t:List UInt8) (p:Int) (b:Bool):Ft × Sco:=if t∈s.vars then ((p,191),s) else ((0,0),{ s with vars:=s.vars++[t],set:=s.set++[b] })
def asgS (s:Sco) (t:List UInt8) (p:Int):Ft × Sco:=match ixL s.vars 0 t with
 |none=>((p,192),s)
 |some i=>((0,0),{ s with set:=s.set.set i.toNat true })
def redS (s:Sco) (t:List UInt8) (p:Int):Ft:=match ixL s.vars 0 t with
 |none=>(p,192)
 |some i=>if !s.all && !(s.set.getD i.toNat false) then (p,194) else (0,0)
def inlS (s:Sco) (p:Int):Ft:=if s.loops=0 then (p,195) else (0,0)
def endS (s:Sco):Sco:={ s with all:=true }
def leaveS (s:Sco) (k:Nat):Sco:={ s with vars:=s.vars.take k,set:=s.set.take k }
def andL:List Bool→List Bool→List Bool
 |a :: r,b :: q=>(a && b) :: andL r q
 |l,[]=>l
 |[],_=>[]
def joinS (a b:List Bool × Bool):List Bool × Bool:=if a.2 then b else if b.2 then a else (andL a.1 b.1,false)
def ckL {α:Type} (g:α→Sco→Ft × Sco):List α→Sco→Ft × Sco
 |[],s=>((0,0),s)
 |n :: r,s=>if (g n s).1.2=0 then ckL g r (g n s).2 else g n s
def lxDig (c:UInt8):Bool:=decide (48≤c.toNat∧c.toNat≤57)
def lxLet (c:UInt8):Bool:=decide (97≤c.toNat∧c.toNat≤122∨65≤c.toNat∧c.toNat≤90∨c.toNat=95)
def lxW (c:UInt8):Bool:=lxLet c ||lxDig c
def lxB (c:UInt8):Bool:=decide (c.toNat=32∨c.toNat=9∨c.toNat=10∨c.toNat=13)
def blk:Bool→List UInt8→Nat
 |_,[]=>0
 |true,c :: r=>blk (decide (c.toNat≠10)) r+1
 |false,c :: r=>if lxB c=true then blk false r+1 else if c.toNat=47∧r.head?=some 47 then blk true r+1 else 0
def keyL:List (List UInt8):=[[102,110],[101,120,112,111,114,116],[108,101,116],[105,102],[101,108,115,101],[119,104,105,108,101],[114,101,116,117,114,110],[98,114,101,97,107],[99,111,110,116,105,110,117,101],[116,114,117,101],[102,97,108,115,101],[117,110,105,116]]
def keyB (w:List UInt8):Bool:=keyL.contains w
def sgL:List (List UInt8):=[[61,61],[33,61],[60,61],[62,61],[38,38],[124,124],[40],[41],[123],[125],[91],[93],[44],[59],[58],[46],[61],[60],[62],[43],[45],[42],[47],[37],[33]]
def sgB (w:List UInt8):Bool:=sgL.contains w
def sgN (l:List UInt8):Nat:=if 2≤l.length∧sgB (l.take 2)=true then 2 else if sgB (l.take 1)=true then 1 else 0
def valD (w:List UInt8):Nat:=w.foldl (fun n c=>10 * n+(c.toNat - 48)) 0
def intV (w:List UInt8):Option Nat:=if w.all lxDig=true∧(w.length≤1∨w.head?≠some 48)∧valD w≤9223372036854775807 then some (valD w) else none
def hexV (c:UInt8):Option Nat:=if 48≤c.toNat∧c.toNat≤57 then some (c.toNat - 48) else if 97≤c.toNat∧c.toNat≤102 then some (c.toNat - 87) else none
def hexP:List UInt8→Option (UInt8 × Nat)
 |e :: f :: _=>match hexV e,hexV f with
  |some a,some b=>some (UInt8.ofNat (16 * a+b),4)
  |_,_=>none
 |_=>none
def escP:List UInt8→Option (UInt8 × Nat)
 |[]=>none
 |d :: r=>if d.toNat=34∨d.toNat=92 then some (d,2) else if d.toNat=120 then hexP r else none
def pcL:List UInt8→Option (UInt8 × Nat)
 |[]=>none
 |c :: r=>if c.toNat<32∨126<c.toNat then none else if c.toNat=92 then escP r else some (c,1)
def pcs:Nat→List UInt8→Option (List UInt8 × Nat)
 |0,_=>none
 |_+1,[]=>none
 |f+1,c :: r=>if c.toNat=34 then some ([],1) else match pcL (c :: r) with
  |none=>none
  |some (b,n)=>match pcs f ((c :: r).drop n) with
   |none=>none
   |some (bs,m)=>some (b :: bs,n+m)
def bytC:Option (List UInt8 × Nat)→Option (List UInt8 × Nat)
 |none=>none
 |some (bs,m)=>if bs.length≤2047 then some (bs,m+1) else none
def bytV (l:List UInt8):Option (List UInt8 × Nat):=bytC (pcs (l.length+1) l)
structure Tk where
 k:Nat
 t:List UInt8
 n:Nat
 p:Nat
def wrdT (w:List UInt8):Except Nat (Tk × Nat):=if keyB w=true then .ok (⟨2,w,0,0⟩,w.length) else if 20<w.length then .error 164 else .ok (⟨1,w,0,0⟩,w.length)
def numT (w:List UInt8):Except Nat (Tk × Nat):=match intV w with
 |none=>.error 162
 |some n=>.ok (⟨3,[],n,0⟩,w.length)
def bytT (l:List UInt8):Except Nat (Tk × Nat):=match bytV l with
 |none=>.error 163
 |some (bs,m)=>.ok (⟨4,bs,0,0⟩,m)
def sgnT (l:List UInt8):Except Nat (Tk × Nat):=if sgN l=0 then .error 161 else .ok (⟨5,l.take (sgN l),0,0⟩,sgN l)
def fstT:List UInt8→Except Nat (Tk × Nat)
 |[]=>.error 161
 |c :: r=>if lxLet c=true then wrdT ((c :: r).takeWhile lxW) else if lxDig c=true then numT ((c :: r).takeWhile lxW) else if c.toNat=34 then bytT r else sgnT (c :: r)
def Tk.at (t:Tk) (p:Nat):Tk:=⟨t.k,t.t,t.n,p⟩
def endT (p:Nat):Tk:=⟨0,[],0,p⟩
def preT (ts:List Tk):Except (Nat × Nat) (List Tk)→Except (Nat × Nat) (List Tk)
 |.error e=>.error e
 |.ok us=>.ok (ts++us)
def lpT:Nat→Nat→List UInt8→Except (Nat × Nat) (List Tk)
 |0,_,_=>.error (0,0)
 |_+1,p,[]=>.ok [endT p]
 |f+1,p,c :: r=>match fstT (c :: r) with
  |.error e=>.error (p,e)
  |.ok (t,n)=>preT [t.at p] (lpT f (p+n+blk false ((c :: r).drop n)) (((c :: r).drop n).drop (blk false ((c :: r).drop n))))
def allT (l:List UInt8):Except (Nat × Nat) (List Tk):=if 8192<l.length then .error (0,160) else lpT (l.length+1) (blk false l) (l.drop (blk false l))
theorem fst_cons (c:UInt8) (r:List UInt8):fstT (c :: r)=if lxLet c=true then wrdT ((c :: r).takeWhile lxW) else if lxDig c=true then numT ((c :: r).takeWhile lxW) else if c.toNat=34 then bytT r else sgnT (c :: r):=rfl
theorem pcL_cons (c:UInt8) (r:List UInt8):pcL (c :: r)=if c.toNat<32∨126<c.toNat then none else if c.toNat=92 then escP r else some (c,1):=rfl
theorem escP_cons (d:UInt8) (r:List UInt8):escP (d :: r)=if d.toNat=34∨d.toNat=92 then some (d,2) else if d.toNat=120 then hexP r else none:=rfl
theorem preT_nil (r:Except (Nat × Nat) (List Tk)):preT [] r=r:=by cases r <;> rfl
theorem preT_add (a b:List Tk) (r:Except (Nat × Nat) (List Tk)):preT a (preT b r)=preT (a++b) r:=by
 cases r with
 |error e=>rfl
 |ok us=>simp [preT]
theorem blk_le:∀(b:Bool) (l:List UInt8),blk b l≤l.length
 |_,[]=>by simp [blk]
 |true,c :: r=>by have:=blk_le (decide (c.toNat≠10)) r;simp only [blk,List.length_cons];omega
 |false,c :: r=>by
  have h1:=blk_le false r
  have h2:=blk_le true r
  simp only [blk,List.length_cons]
  split
  ·omega
  ·split <;> omega
theorem blk_take:∀(b:Bool) (l:List UInt8) (m:Nat),blk b l≤m→blk b (l.take m)=blk b l
 |_,[],m,_=>by simp
 |true,c :: r,m,h=>by
  simp only [blk] at h ⊢
  obtain⟨q,rfl⟩:∃q,m=q+1:=⟨m - 1,by omega⟩
  rw [List.take_succ_cons]
  simp only [blk]
  rw [blk_take _ r q (by omega)]
 |false,c :: r,m,h=>by
  by_cases h1:lxB c=true
  ·simp only [blk,h1,if_true] at h ⊢
   obtain⟨q,rfl⟩:∃q,m=q+1:=⟨m - 1,by omega⟩
   rw [List.take_succ_cons]
   simp only [blk,h1,if_true]
   rw [blk_take _ r q (by omega)]
  ·by_cases h2:c.toNat=47∧r.head?=some 47
   ·simp only [blk,h1,h2,if_true,and_self,if_false,Bool.false_eq_true] at h ⊢
    obtain⟨q,rfl⟩:∃q,m=q+1:=⟨m - 1,by omega⟩
    have hb:1≤blk true r:=by
     cases r with
     |nil=>simp at h2
     |cons d r=>simp [blk]
    obtain⟨q',rfl⟩:∃q',q=q'+1:=⟨q - 1,by omega⟩
    rw [List.take_succ_cons]
    have hh:(r.take (q'+1)).head?=some 47:=by
     cases r with
     |nil=>simp at h2
     |cons d r=>simpa using h2.2
    simp only [blk,h1,h2.1,hh,if_true,and_self,if_false,Bool.false_eq_true]
    rw [blk_take _ r (q'+1) (by omega)]
   ·have h0:blk false (c :: r)=0:=by simp only [blk,h1,h2,if_false,Bool.false_eq_true]
    rw [h0]
    cases m with
    |zero=>simp [blk]
    |succ q=>
     rw [List.take_succ_cons]
     have hh:¬(c.toNat=47∧(r.take q).head?=some 47):=fun ⟨a,b⟩=>h2 ⟨a,by
      cases r with
      |nil=>simp at b
      |cons d r=>
       cases q with
       |zero=>simp at b
       |succ q=>simpa using b⟩
     simp only [blk,h1,hh,if_false,Bool.false_eq_true]
theorem tw_take (p:UInt8→Bool):∀(l:List UInt8) (m:Nat),(l.takeWhile p).length≤m→(l.take m).takeWhile p=l.takeWhile p
 |[],_,_=>by simp
 |c :: r,m,h=>by
  cases hc:p c with
  |false=>
   cases m with
   |zero=>simp [List.takeWhile_cons,hc]
   |succ q=>simp [List.takeWhile_cons,hc]
  |true=>
   rw [List.takeWhile_cons,if_pos hc] at h ⊢
   cases m with
   |zero=>simp at h
   |succ q=>
    rw [List.take_succ_cons,List.takeWhile_cons,if_pos hc,tw_take p r q (by simpa using h)]
theorem tw_le (p:UInt8→Bool):∀(l:List UInt8),(l.takeWhile p).length≤l.length
 |[]=>by simp
 |c :: r=>by
  rw [List.takeWhile_cons]
  split
  ·have:=tw_le p r;simp;exact this
  ·simp
theorem pcL_pos {l:List UInt8} {b:UInt8} {n:Nat} (h:pcL l=some (b,n)):1≤n∧n≤l.length:=by
 cases l with
 |nil=>simp [pcL] at h
 |cons c r=>
  rw [pcL_cons] at h
  split at h
  ·simp at h
  ·split at h
   ·cases r with
    |nil=>simp [escP] at h
    |cons d r=>
     rw [escP_cons] at h
     split at h
     ·simp at h;simp;omega
     ·split at h
      ·unfold hexP at h
       split at h
       ·split at h
        ·simp at h;simp;omega
        ·simp at h
       ·simp at h
      ·simp at h
   ·simp at h;simp;omega
theorem pcL_take {l:List UInt8} {b:UInt8} {n m:Nat} (h:pcL l=some (b,n)) (hm:n≤m):pcL (l.take m)=some (b,n):=by
 cases l with
 |nil=>simp [pcL] at h
 |cons c r=>
  have hp:=pcL_pos h
  obtain⟨q,rfl⟩:∃q,m=q+1:=⟨m - 1,by omega⟩
  rw [List.take_succ_cons]
  rw [pcL_cons] at h ⊢
  split
  ·rename_i g;rw [if_pos g] at h;exact h
  ·rename_i g
   rw [if_neg g] at h
   split
   ·rename_i g2
    rw [if_pos g2] at h
    cases r with
    |nil=>simp [escP] at h
    |cons d r=>
     rw [escP_cons] at h
     by_cases g3:d.toNat=34∨d.toNat=92
     ·rw [if_pos g3] at h
      simp at h
      obtain⟨q',rfl⟩:∃q',q=q'+1:=⟨q - 1,by omega⟩
      rw [List.take_succ_cons,escP_cons,if_pos g3]
      simpa using h
     ·rw [if_neg g3] at h
      by_cases g4:d.toNat=120
      ·rw [if_pos g4] at h
       unfold hexP at h
       split at h
       ·rename_i e f r'
        have hn:n=4:=by
         split at h
         ·simp at h;omega
         ·simp at h
        subst hn
        obtain⟨q',rfl⟩:∃q',q=q'+1+1+1:=⟨q - 3,by omega⟩
        simp only [List.take_succ_cons]
        rw [escP_cons,if_neg g3,if_pos g4]
        unfold hexP
        exact h
       ·simp at h
      ·rw [if_neg g4] at h
       simp at h
   ·rename_i g2
    rw [if_neg g2] at h
    exact h
theorem pcs_pos:∀(f:Nat) {l:List UInt8} {bs:List UInt8} {n:Nat},pcs f l=some (bs,n)→bs.length+1≤n∧n≤l.length
 |0,_,_,_,h=>by simp [pcs] at h
 |f+1,[],_,_,h=>by simp [pcs] at h
 |f+1,c :: r,bs,n,h=>by
  unfold pcs at h
  split at h
  ·simp at h;obtain⟨rfl,rfl⟩:=h;simp
  ·cases hp:pcL (c :: r) with
   |none=>rw [hp] at h;simp at h
   |some x=>
    obtain⟨b,k⟩:=x
    rw [hp] at h
    simp only at h
    cases hq:pcs f ((c :: r).drop k) with
    |none=>rw [hq] at h;simp at h
    |some y=>
     obtain⟨bs',m⟩:=y
     rw [hq] at h
     simp at h
     obtain⟨rfl,rfl⟩:=h
     have h1:=pcs_pos f hq
     have h2:=pcL_pos hp
     rw [List.length_drop] at h1
     simp only [List.length_cons] at h1 h2 ⊢
     omega
theorem pcs_take:∀(f:Nat) {l:List UInt8} {bs:List UInt8} {n:Nat} (f' m:Nat),pcs f l=some (bs,n)→n≤m→(l.take m).length<f'→pcs f' (l.take m)=some (bs,n)
 |0,_,_,_,_,_,h,_,_=>by simp [pcs] at h
 |f+1,[],_,_,_,_,h,_,_=>by simp [pcs] at h
 |f+1,c :: r,bs,n,f',m,h,hm,hf=>by
  have hpos:=pcs_pos _ h
  obtain⟨q,rfl⟩:∃q,m=q+1:=⟨m - 1,by omega⟩
  obtain⟨g,rfl⟩:∃g,f'=g+1:=⟨f' - 1,by omega⟩
  unfold pcs at h
  rw [List.take_succ_cons] at hf ⊢
  unfold pcs
  by_cases h0:c.toNat=34
  ·rw [if_pos h0] at h ⊢;exact h
  ·rw [if_neg h0] at h ⊢
   cases hp:pcL (c :: r) with
   |none=>rw [hp] at h;simp at h
   |some x=>
    obtain⟨b,k⟩:=x
    rw [hp] at h
    simp only at h
    cases hq:pcs f ((c :: r).drop k) with
    |none=>rw [hq] at h;simp at h
    |some y=>
     obtain⟨bs',j⟩:=y
     rw [hq] at h
     simp at h
     obtain⟨rfl,rfl⟩:=h
     have hk:=pcL_pos hp
     have hj:=pcs_pos f hq
     have h1:pcL (c :: r.take q)=some (b,k):=by
      have:=pcL_take (m:=q+1) hp (by omega)
      rwa [List.take_succ_cons] at this
     rw [h1]
     simp only
     have h2:(c :: r.take q).drop k=((c :: r).drop k).take (q+1 - k):=by
      rw [←List.take_succ_cons,List.drop_take]
     rw [h2,pcs_take f g (q+1 - k) hq (by omega) (by
      rw [←h2,List.length_drop]
      simp only [List.length_cons] at hf ⊢
      omega)]
theorem sgN_le (l:List UInt8):sgN l≤l.length:=by
 unfold sgN
 split
 ·rename_i h;exact h.1
 ·split
  ·rename_i h
   cases l with
   |nil=>simp [sgB,sgL] at h
   |cons c r=>simp
  ·omega
theorem sgN_take (l:List UInt8) (m:Nat) (h1:1≤sgN l) (h2:sgN l≤m):sgN (l.take m)=sgN l:=by
 have hl:=sgN_le l
 by_cases hm:2≤m
 ·have t2:(l.take m).take 2=l.take 2:=by rw [List.take_take,Nat.min_eq_left hm]
  have t1:(l.take m).take 1=l.take 1:=by rw [List.take_take,Nat.min_eq_left (by omega)]
  have hi:(2≤(l.take m).length)↔2≤l.length:=by rw [List.length_take];omega
  unfold sgN
  rw [t2,t1]
  simp only [hi]
 ·have h3:sgN l=1:=by omega
  have h4:m=1:=by omega
  subst h4
  have h5:sgB (l.take 1)=true:=by
   unfold sgN at h3
   split at h3
   ·omega
   ·split at h3
    ·assumption
    ·omega
  rw [h3]
  unfold sgN
  rw [if_neg (by rw [List.length_take];omega),List.take_take,Nat.min_eq_left (Nat.le_refl _),if_pos h5]
theorem fst_take {l:List UInt8} {t:Tk} {n:Nat} (m:Nat) (h:fstT l=.ok (t,n)) (hm:n≤m):1≤n∧n≤l.length∧fstT (l.take m)=.ok (t,n):=by
 cases l with
 |nil=>simp [fstT] at h
 |cons c r=>
  rw [fst_cons] at h
  by_cases h1:lxLet c=true
  ·rw [if_pos h1] at h
   have hn:n=((c :: r).takeWhile lxW).length:=by
    unfold wrdT at h
    split at h
    ·simp at h;omega
    ·split at h
     ·simp at h
     ·simp at h;omega
   have hw:lxW c=true:=by unfold lxW;rw [h1];rfl
   have h3:1≤n:=by rw [hn,List.takeWhile_cons,if_pos hw];simp
   have h4:n≤(c :: r).length:=by rw [hn];exact tw_le _ _
   refine⟨h3,h4,?_⟩
   have ht:=tw_take lxW (c :: r) m (by omega)
   obtain⟨q,rfl⟩:∃q,m=q+1:=⟨m - 1,by omega⟩
   rw [List.take_succ_cons] at ht ⊢
   rw [fst_cons]
   rw [if_pos h1,ht]
   exact h
  ·rw [if_neg h1] at h
   by_cases h2:lxDig c=true
   ·rw [if_pos h2] at h
    have hn:n=((c :: r).takeWhile lxW).length:=by
     unfold numT at h
     split at h
     ·simp at h
     ·simp at h;omega
    have hw:lxW c=true:=by unfold lxW;rw [h2];simp
    have h3:1≤n:=by rw [hn,List.takeWhile_cons,if_pos hw];simp
    have h4:n≤(c :: r).length:=by rw [hn];exact tw_le _ _
    refine⟨h3,h4,?_⟩
    have ht:=tw_take lxW (c :: r) m (by omega)
    obtain⟨q,rfl⟩:∃q,m=q+1:=⟨m - 1,by omega⟩
    rw [List.take_succ_cons] at ht ⊢
    rw [fst_cons]
    rw [if_neg h1,if_pos h2,ht]
    exact h
   ·rw [if_neg h2] at h
    by_cases h3:c.toNat=34
    ·rw [if_pos h3] at h
     unfold bytT bytV at h
     cases hp:pcs (r.length+1) r with
     |none=>rw [hp] at h;simp [bytC] at h
     |some x=>
      obtain⟨bs,k⟩:=x
      rw [hp] at h
      by_cases hl:bs.length≤2047
      ·simp [bytC,hl] at h
       obtain⟨rfl,rfl⟩:=h
       have hk:=pcs_pos _ hp
       refine⟨by omega,by simp;omega,?_⟩
       obtain⟨q,rfl⟩:∃q,m=q+1:=⟨m - 1,by omega⟩
       rw [List.take_succ_cons]
       rw [fst_cons]
       rw [if_neg h1,if_neg h2,if_pos h3]
       unfold bytT bytV
       rw [pcs_take _ _ q hp (by omega) (Nat.lt_succ_self _)]
       simp [bytC,hl]
      ·simp [bytC,hl] at h
    ·rw [if_neg h3] at h
     unfold sgnT at h
     by_cases h4:sgN (c :: r)=0
     ·rw [if_pos h4] at h;simp at h
     ·rw [if_neg h4] at h
      simp at h
      obtain⟨rfl,rfl⟩:=h
      refine⟨by omega,sgN_le _,?_⟩
      have ht:=sgN_take (c :: r) m (by omega) hm
      have hk:((c :: r).take m).take (sgN (c :: r))=(c :: r).take (sgN (c :: r)):=by rw [List.take_take,Nat.min_eq_left hm]
      obtain⟨q,rfl⟩:∃q,m=q+1:=⟨m - 1,by omega⟩
      rw [List.take_succ_cons] at ht hk ⊢
      rw [fst_cons]
      rw [if_neg h1,if_neg h2,if_neg h3]
      unfold sgnT
      rw [ht,if_neg h4,hk]
theorem fst_pos {l:List UInt8} {t:Tk} {n:Nat} (h:fstT l=.ok (t,n)):1≤n∧n≤l.length:=by
 have:=fst_take n h (Nat.le_refl _)
 exact⟨this.1,this.2.1⟩
theorem fst_zero {l:List UInt8} {t:Tk} {n:Nat} (h:fstT l=.ok (t,n)):t.p=0∧1≤t.k:=by
 cases l with
 |nil=>simp [fstT] at h
 |cons c r=>
  rw [fst_cons] at h
  split at h
  ·unfold wrdT at h
   split at h
   ·simp at h;rw [←h.1];simp
   ·split at h
    ·simp at h
    ·simp at h;rw [←h.1];simp
  ·split at h
   ·unfold numT at h
    split at h
    ·simp at h
    ·simp at h;rw [←h.1];simp
   ·split at h
    ·unfold bytT at h
     split at h
     ·simp at h
     ·simp at h;rw [←h.1];simp
    ·unfold sgnT at h
     split at h
     ·simp at h
     ·simp at h;rw [←h.1];simp
end Go.Proofs.YtjdpaihhhjdgmaaGreatDoor
