/-
  Layer 17 (parse): trees in memory; the reader's state; no conditions.
  Layer 19 (check): a tree that was read lies in memory as trees do; conditions: how great its numbers and texts are.
  Layer 17 (parse): the reader's small steps: the next token, what is seen; conditions: the reader's state.
-/
import Derived.Test.YtjdpaihhhjdgmaaGreatDoorA26
import Derived.Test.YtjdpaihhhjdgmaaGreatDoorA30
import Derived.Deep.QuietTactic
import Derived.BigQuiet
import Derived.Test.YtjdpaihhhjdgmaaGreatDoorA05
set_option linter.unusedVariables false
set_option linter.unusedSimpArgs false
set_option maxRecDepth 100000
set_option maxHeartbeats 8000000
namespace Go.Proofs.YtjdpaihhhjdgmaaGreatDoor
open Go.RowKit
set_option linter.unusedVariables false
set_option linter.unusedSimpArgs false
structure Beside (gr:Nat) (w w':World):Prop where
 os:w'.os=w.os
 tape:w'.tape=w.tape
 output:w'.output=w.output
 size:w.heap.size≤w'.heap.size
 block:∀k,k<w.heap.size→k≠gr→w'.heap[k]?=w.heap[k]?
theorem Beside.refl (gr:Nat) (w:World):Beside gr w w:=⟨rfl,rfl,rfl,Nat.le_refl _,fun _ _ _=>rfl⟩
theorem Beside.trans {gr:Nat} {w w1 w2:World} (h:Beside gr w w1) (h':Beside gr w1 w2):Beside gr w w2:=
 ⟨h'.os.trans h.os,h'.tape.trans h.tape,h'.output.trans h.output,Nat.le_trans h.size h'.size,fun k hk hn=>(h'.block k (Nat.lt_of_lt_of_le hk h.size) hn).trans (h.block k hk hn)⟩
theorem Beside.of_below {gr:Nat} {w w':World} (h:Below w.heap.size w w'):Beside gr w w':=
 ⟨h.os,h.tape,h.output,h.size,fun k hk _=>h.block k hk⟩
theorem Beside.set {gr f:Nat} {w w':World} {v:Value} (h:Beside gr w w'):Beside gr w (w'.setCell ⟨gr,f,none⟩ v):=by
 have hb:=(Below.refl 0 w').setCell (p:=⟨gr,f,none⟩) (Nat.zero_le _) v
 exact⟨hb.os.trans h.os,hb.tape.trans h.tape,hb.output.trans h.output,Nat.le_trans h.size hb.size,fun k hk hn=>by rw [heap_setCell_other _ _ _ _ hn];exact h.block k hk hn⟩
theorem Beside.setN {gr q f:Nat} {w w':World} {v:Value} (h:Beside gr w w') (hq:w.heap.size≤q):Beside gr w (w'.setCell ⟨q,f,none⟩ v):=by
 have hb:=(Below.refl 0 w').setCell (p:=⟨q,f,none⟩) (Nat.zero_le _) v
 exact⟨hb.os.trans h.os,hb.tape.trans h.tape,hb.output.trans h.output,Nat.le_trans h.size hb.size,fun k hk hn=>by rw [heap_setCell_other _ _ _ _ (show k≠q by omega)];exact h.block k hk hn⟩
def ndC (k:Nat) (t:List UInt8) (vk vn:Nat) (vs:List UInt8) (f:Bool) (n:Nat) (ak:Option Addr) (ck p:Nat):List Value:=
 [.int .i64 (k:Int),.string (bA t),.int .i64 (vk:Int),.int .i64 (vn:Int),.string (bA vs),.slice none 0 0,.slice none 0 0,.bool f,.slice ak n ck,.int .i64 (p:Int)]
def blkO:Option Addr→List Nat
 |none=>[]
 |some a=>[a.block]
def IsNL (w:World):List Nd→List Value→List Nat→Prop
 |[],C,S=>C=[]∧S=[]
 |.mk k t vk vn vs f ks p :: r,C,S=>∃(ak:Option Addr) (ck:Nat) (C' R:List Value) (S1 S2:List Nat),C=ndC k t vk vn vs f ks.length ak ck p++R∧S=blkO ak++(S1++S2)∧w.ownsRow 0 28 10 (.slice ak ks.length ck) ks.length C'∧IsNL w ks C' S1∧IsNL w r R S2
theorem own_mem {w:World} {lo:Nat} {ak:Option Addr} {n ck:Nat} {C:List Value} (h:w.ownsRow lo 28 10 (.slice ak n ck) n C) (b:Nat) (hb:(Value.slice ak n ck).ownBlock=some b):b∈blkO ak:=by
 rcases h.2 with ⟨e,_⟩|⟨q,cap,cur,e,_⟩
 ·injection e with e1 e2 e3
  subst e1
  cases hb
 ·injection e with e1 e2 e3
  subst e1
  cases hb
  exact List.mem_singleton.2 rfl
theorem blk_own {w:World} {lo:Nat} {ak:Option Addr} {n ck:Nat} {C:List Value} (h:w.ownsRow lo 28 10 (.slice ak n ck) n C) (b:Nat) (hb:b∈blkO ak):(Value.slice ak n ck).ownBlock=some b:=by
 rcases h.2 with ⟨e,_⟩|⟨q,cap,cur,e,_⟩
 ·injection e with e1 e2 e3
  subst e1
  cases hb
 ·injection e with e1 e2 e3
  subst e1
  rw [List.mem_singleton.1 hb]
  rfl
theorem own_at {w w':World} {base:Nat} {e:TypeId} {size:Nat} {v:Value} {n:Nat} {xs:List Value} (h:w.ownsRow base e size v n xs) (hb:∀b,v.ownBlock=some b→w'.heap[b]?=w.heap[b]?):w'.ownsRow base e size v n xs:=by
 refine⟨h.1,?_⟩
 rcases h.2 with ⟨e1,e2⟩|⟨q,cap,cur,e1,e2,e3,r⟩
 ·exact .inl ⟨e1,e2⟩
 ·subst e1
  exact .inr ⟨q,cap,cur,rfl,e2,(hb q rfl).trans e3,r⟩
theorem own_lo {w:World} {base lo:Nat} {e:TypeId} {size:Nat} {v:Value} {n:Nat} {xs:List Value} (h:w.ownsRow base e size v n xs) (hb:∀b,v.ownBlock=some b→lo≤b):w.ownsRow lo e size v n xs:=by
 refine⟨h.1,?_⟩
 rcases h.2 with ⟨e1,e2⟩|⟨q,cap,cur,e1,e2,r⟩
 ·exact .inl ⟨e1,e2⟩
 ·subst e1
  exact .inr ⟨q,cap,cur,rfl,hb q rfl,r⟩
theorem IsNL.to {w w':World}:∀(ks:List Nd) (C:List Value) (S:List Nat),IsNL w ks C S→(∀b∈S,w'.heap[b]?=w.heap[b]?)→IsNL w' ks C S
 |[],C,S,h,_=>by simp only [IsNL] at h ⊢;exact h
 |.mk k t vk vn vs f ks p :: r,C,S,h,hw=>by
  simp only [IsNL] at h ⊢
  obtain⟨ak,ck,C',R,S1,S2,hC,hS,ho,h1,h2⟩:=h
  subst hS
  exact⟨ak,ck,C',R,S1,S2,hC,rfl,own_at ho (fun b hb=>hw b (List.mem_append_left _ (own_mem ho b hb))),
   IsNL.to ks C' S1 h1 (fun b hb=>hw b (List.mem_append_right _ (List.mem_append_left _ hb))),IsNL.to r R S2 h2 (fun b hb=>hw b (List.mem_append_right _ (List.mem_append_right _ hb)))⟩
theorem IsNL.app {w:World}:∀(a b:List Nd) (C1 C2:List Value) (S1 S2:List Nat),IsNL w a C1 S1→IsNL w b C2 S2→IsNL w (a++b) (C1++C2) (S1++S2)
 |[],b,C1,C2,S1,S2,h,h'=>by
  simp only [IsNL] at h
  obtain⟨rfl,rfl⟩:=h
  exact h'
 |.mk k t vk vn vs f ks p :: r,b,C1,C2,S1,S2,h,h'=>by
  simp only [IsNL] at h
  obtain⟨ak,ck,C',R,T1,T2,hC,hS,ho,h1,h2⟩:=h
  have ih:=IsNL.app r b R C2 T2 S2 h2 h'
  simp only [List.cons_append,IsNL]
  exact⟨ak,ck,C',R++C2,T1,T2++S2,by rw [hC,List.append_assoc],by rw [hS];simp only [List.append_assoc],ho,h1,ih⟩
theorem ndC_len (k:Nat) (t:List UInt8) (vk vn:Nat) (vs:List UInt8) (f:Bool) (n:Nat) (ak:Option Addr) (ck p:Nat):(ndC k t vk vn vs f n ak ck p).length=10:=rfl
theorem IsNL.len {w:World}:∀(ks:List Nd) (C:List Value) (S:List Nat),IsNL w ks C S→C.length=ks.length * 10
 |[],C,S,h=>by simp only [IsNL] at h;rw [h.1];rfl
 |.mk k t vk vn vs f ks p :: r,C,S,h=>by
  simp only [IsNL] at h
  obtain⟨ak,ck,C',R,S1,S2,hC,hS,ho,h1,h2⟩:=h
  have ih:=IsNL.len r R S2 h2
  rw [hC,List.length_append,ndC_len,ih,List.length_cons]
  omega
structure NdOk (lo:Nat) (w:World) (ks:List Nd) (C:List Value) (S:List Nat):Prop where
 nl:IsNL w ks C S
 nd:S.Nodup
 rg:∀b∈S,lo≤b∧b<w.heap.size
 le:lo≤w.heap.size
theorem NdOk.nil {lo:Nat} {w:World} (hl:lo≤w.heap.size):NdOk lo w [] [] []:=⟨by simp [IsNL],List.nodup_nil,(fun b h=>by cases h),hl⟩
theorem NdOk.to {lo:Nat} {w w':World} {ks:List Nd} {C:List Value} {S:List Nat} (h:NdOk lo w ks C S) (hw:∀b,lo≤b→b<w.heap.size→b∈S→w'.heap[b]?=w.heap[b]?) (hs:w.heap.size≤w'.heap.size):NdOk lo w' ks C S:=
 ⟨IsNL.to ks C S h.nl (fun b hb=>hw b (h.rg b hb).1 (h.rg b hb).2 hb),h.nd,fun b hb=>⟨(h.rg b hb).1,Nat.lt_of_lt_of_le (h.rg b hb).2 hs⟩,Nat.le_trans h.le hs⟩
theorem NdOk.low {lo lo':Nat} {w:World} {ks:List Nd} {C:List Value} {S:List Nat} (h:NdOk lo w ks C S) (hl:lo'≤lo):NdOk lo' w ks C S:=
 ⟨h.nl,h.nd,fun b hb=>⟨Nat.le_trans hl (h.rg b hb).1,(h.rg b hb).2⟩,Nat.le_trans hl h.le⟩
theorem NdOk.beside {lo g:Nat} {w w':World} {ks:List Nd} {C:List Value} {S:List Nat} (h:NdOk lo w ks C S) (hb:Beside g w w') (hg:g<lo):NdOk lo w' ks C S:=
 h.to (fun b h1 h2 _=>hb.block b h2 (by omega)) hb.size
theorem NdOk.app {lo mid:Nat} {w:World} {a b:List Nd} {C1 C2:List Value} {S1 S2:List Nat} (h1:NdOk lo w a C1 S1) (hm:∀x∈S1,x<mid) (h2:NdOk mid w b C2 S2) (hl:lo≤mid):NdOk lo w (a++b) (C1++C2) (S1++S2):=
 ⟨IsNL.app a b C1 C2 S1 S2 h1.nl h2.nl,List.nodup_append.2 ⟨h1.nd,h2.nd,fun x hx y hy e=>by have:=hm x hx;have:=(h2.rg y hy).1;omega⟩,fun x hx=>by
  rcases List.mem_append.1 hx with hx|hx
  ·exact h1.rg x hx
  ·exact⟨Nat.le_trans hl (h2.rg x hx).1,(h2.rg x hx).2⟩,h1.le⟩
structure Kr (lo:Nat) (w:World) (ks:List Nd) (v:Value) (C:List Value) (S:List Nat):Prop where
 own:w.ownsRow lo 28 10 v ks.length C
 ok:NdOk lo w ks C S
 apart:∀b,v.ownBlock=some b→b∉S
theorem Kr.nil {lo:Nat} {w:World} (hl:lo≤w.heap.size):Kr lo w [] (.slice none 0 0) [] []:=⟨World.ownsRow_nil _ _ _ _,NdOk.nil hl,fun b h=>by cases h⟩
theorem Kr.beside {lo g:Nat} {w w':World} {ks:List Nd} {v:Value} {C:List Value} {S:List Nat} (h:Kr lo w ks v C S) (hb:Beside g w w') (hg:g<lo):Kr lo w' ks v C S:=
 ⟨own_at h.own (fun b hv=>hb.block b (h.own.lt b hv).2 (by have:=(h.own.lt b hv).1;omega)),h.ok.beside hb hg,h.apart⟩
theorem Kr.low {lo lo':Nat} {w:World} {ks:List Nd} {v:Value} {C:List Value} {S:List Nat} (h:Kr lo w ks v C S) (hl:lo'≤lo):Kr lo' w ks v C S:=
 ⟨own_lo h.own (fun b hv=>Nat.le_trans hl (h.own.lt b hv).1),h.ok.low hl,h.apart⟩
theorem Kr.but {lo q:Nat} {w w':World} {ks:List Nd} {v:Value} {C:List Value} {S:List Nat} (h:Kr lo w ks v C S) (hw:∀b,b<w.heap.size→b≠q→w'.heap[b]?=w.heap[b]?) (hs:w.heap.size≤w'.heap.size) (hq:q<lo):Kr lo w' ks v C S:=
 ⟨own_at h.own (fun b hv=>hw b (h.own.lt b hv).2 (by have:=(h.own.lt b hv).1;omega)),h.ok.to (fun b h1 h2 _=>hw b h2 (by omega)) hs,h.apart⟩
theorem Kr.node {lo:Nat} {w:World} {ks:List Nd} {ak:Option Addr} {ck:Nat} {C:List Value} {S:List Nat} (h:Kr lo w ks (.slice ak ks.length ck) C S) (k:Nat) (t:List UInt8) (vk vn:Nat) (vs:List UInt8) (f:Bool) (p:Nat) :
  NdOk lo w [⟨k,t,vk,vn,vs,f,ks,p⟩] (ndC k t vk vn vs f ks.length ak ck p) (blkO ak++S):=by
 refine⟨?_,?_,?_,h.ok.le⟩
 ·simp only [IsNL]
  exact⟨ak,ck,C,[],S,[],by simp,by simp,own_lo h.own (fun b _=>Nat.zero_le _),h.ok.nl,rfl,rfl⟩
 ·refine List.nodup_append.2 ⟨?_,h.ok.nd,fun x hx y hy e=>?_⟩
  ·cases ak with
   |none=>exact List.nodup_nil
   |some a=>simp [blkO]
  ·subst e
   exact h.apart x (blk_own h.own x hx) hy
 ·intro b hb
  rcases List.mem_append.1 hb with hb|hb
  ·exact h.own.lt b (blk_own h.own b hb)
  ·exact h.ok.rg b hb
structure Cx where
 g:Nat
 tb:Nat
 ct:Nat
 ts:List Tk
structure Rd (w:World) (c:Cx) (l:List Tk) (d:Nat):Prop where
 box:w.heap[c.g]?=some (.cells #[.slice (some ⟨c.tb,0,none⟩) c.ts.length c.ct,.int .i64 ((c.ts.length - l.length:Nat):Int),.int .i64 (d:Int)] 83 (0,0))
 suf:l=c.ts.drop (c.ts.length - l.length)
 ne:l≠[]
 row:TR w (some ⟨c.tb,0,none⟩) c.ts
 apart:c.tb≠c.g
 cap:c.ts.length≤c.ct
 len:c.ts.length≤10000
 low:d≤24
 fin:∃us p,c.ts=us++[endT p]
def tkA (t:Tk):Array Value:=#[.int .i64 (t.k:Int),.string (bA t.t),.int .i64 (t.n:Int),.int .i64 (t.p:Int)]
def fltP (c p:Nat):Ending:=.panicked [{ v:=.iface 81 (.agg #[.int .i64 (c:Int),.int .i64 (p:Int)]),recovered:=false }]
theorem Rd.head {w:World} {c:Cx} {l:List Tk} {d:Nat} (h:Rd w c l d):c.ts[c.ts.length - l.length]?=some (hdT l)∧0<l.length∧l.length≤c.ts.length:=by
 have h1:=h.suf
 have hne:=h.ne
 have hl:0<l.length:=List.length_pos_iff.2 hne
 have hle:l.length≤c.ts.length:=by
  have:=congrArg List.length h1
  rw [List.length_drop] at this
  omega
 refine⟨?_,hl,hle⟩
 have h2:(c.ts.drop (c.ts.length - l.length))[0]?=l[0]?:=by rw [←h1]
 rw [List.getElem?_drop,Nat.add_zero] at h2
 rw [h2]
 cases l with
 |nil=>exact absurd rfl hne
 |cons a r=>rfl
theorem Rd.cells {w:World} {c:Cx} {l:List Tk} {d:Nat} (h:Rd w c l d) :
  w.cell? ⟨c.g,0,none⟩=some (.slice (some ⟨c.tb,0,none⟩) c.ts.length c.ct)∧w.cell? ⟨c.g,1,none⟩=some (.int .i64 ((c.ts.length - l.length:Nat):Int))∧w.cell? ⟨c.g,2,none⟩=some (.int .i64 (d:Int))∧w.frozen? ⟨c.g,1,none⟩=false∧w.frozen? ⟨c.g,2,none⟩=false∧c.g<w.heap.size:=by
 have hb:=h.box
 refine⟨?_,?_,?_,frozen_of_row w c.g 1 _ _ hb,frozen_of_row w c.g 2 _ _ hb,(Array.getElem?_eq_some_iff.1 hb).1⟩ <;> simp [World.cell?,hb]
theorem Rd.tok {w:World} {c:Cx} {l:List Tk} {d:Nat} (h:Rd w c l d):c.tb<w.heap.size∧w.cell? ⟨c.tb,(c.ts.length - l.length) * 4,none⟩=some (.int .i64 ((hdT l).k:Int))∧w.cell? ⟨c.tb,(c.ts.length - l.length) * 4+1,none⟩=some (.string (bA (hdT l).t))∧w.cell? ⟨c.tb,(c.ts.length - l.length) * 4+2,none⟩=some (.int .i64 ((hdT l).n:Int))∧w.cell? ⟨c.tb,(c.ts.length - l.length) * 4+3,none⟩=some (.int .i64 ((hdT l).p:Int)):=by
 obtain⟨b,e,h1,h2⟩:=h.row _ _ h.head.1
 injection e with e
 injection e with e
 subst e
 exact⟨h1,h2⟩
theorem Rd.below {w w':World} {c:Cx} {l:List Tk} {d:Nat} (h:Rd w c l d) (hb:Below w.heap.size w w'):Rd w' c l d:=
 ⟨(hb.block _ h.cells.2.2.2.2.2).trans h.box,h.suf,h.ne,h.row.later hb,h.apart,h.cap,h.len,h.low,h.fin⟩
theorem Rd.setN {w:World} {c:Cx} {l:List Tk} {d q f:Nat} {v:Value} (h:Rd w c l d) (hq:q≠c.g) (hq2:q≠c.tb):Rd (w.setCell ⟨q,f,none⟩ v) c l d:=by
 have hs:(w.setCell ⟨q,f,none⟩ v).heap.size=w.heap.size:=by simp
 refine⟨by rw [heap_setCell_other _ _ _ _ (Ne.symm hq)];exact h.box,h.suf,h.ne,fun i t ht=>?_,h.apart,h.cap,h.len,h.low,h.fin⟩
 obtain⟨b,e,h1,h2,h3,h4,h5⟩:=h.row i t ht
 injection e with e0
 injection e0 with e0
 subst e0
 have hh:(w.setCell ⟨q,f,none⟩ v).heap[c.tb]?=w.heap[c.tb]?:=heap_setCell_other _ _ _ _ (Ne.symm hq2)
 exact⟨c.tb,rfl,by rw [hs];exact h1,(World.cell?_of_block hh).trans h2,(World.cell?_of_block hh).trans h3,(World.cell?_of_block hh).trans h4,(World.cell?_of_block hh).trans h5⟩
theorem Rd.set {w:World} {c:Cx} {l l':List Tk} {d d' f:Nat} {v:Value} (h:Rd w c l d) (hb:(w.setCell ⟨c.g,f,none⟩ v).heap[c.g]?=some (.cells #[.slice (some ⟨c.tb,0,none⟩) c.ts.length c.ct,.int .i64 ((c.ts.length - l'.length:Nat):Int),.int .i64 (d':Int)] 83 (0,0))) (hs:l'=c.ts.drop (c.ts.length - l'.length)) (hn:l'≠[]) (hd:d'≤24):Rd (w.setCell ⟨c.g,f,none⟩ v) c l' d':=by
 refine⟨hb,hs,hn,fun i t ht=>?_,h.apart,h.cap,h.len,hd,h.fin⟩
 obtain⟨b,e,h1,h2,h3,h4,h5⟩:=h.row i t ht
 injection e with e0
 injection e0 with e0
 subst e0
 have hh:(w.setCell ⟨c.g,f,none⟩ v).heap[c.tb]?=w.heap[c.tb]?:=heap_setCell_other _ _ _ _ h.apart
 exact⟨c.tb,rfl,by simpa using h1,(World.cell?_of_block hh).trans h2,(World.cell?_of_block hh).trans h3,(World.cell?_of_block hh).trans h4,(World.cell?_of_block hh).trans h5⟩
theorem Rd.open {w:World} {c:Cx} {l:List Tk} {d:Nat} (h:Rd w c l d) (d':Nat) (hd:d'≤24):Rd (w.setCell ⟨c.g,2,none⟩ (.int .i64 (d':Int))) c l d':=
 h.set (by rw [heap_setCell_same w c.g 2 _ _ _ h.box];rfl) h.suf h.ne hd
theorem Rd.more {w:World} {c:Cx} {l:List Tk} {d:Nat} (h:Rd w c l d) (hk:¬(hdT l).k=0):l.tail≠[]∧l.tail.length+1=l.length∧l.tail=c.ts.drop (c.ts.length - l.tail.length):=by
 obtain⟨h1,h2,h3⟩:=h.head
 have hs:=h.suf
 have ht:l.tail.length+1=l.length:=by rw [List.length_tail];omega
 have hd:l.tail=c.ts.drop (c.ts.length - l.tail.length):=by
  have h5:=congrArg List.tail hs
  rw [List.tail_drop] at h5
  rw [show c.ts.length - l.tail.length=c.ts.length - l.length+1 by omega]
  exact h5
 refine⟨fun e=>?_,ht,hd⟩
 obtain⟨us,p,hu⟩:=h.fin
 have hl1:l.length=1:=by rw [e] at ht;simpa using ht.symm
 rw [hl1,hu,List.length_append,List.length_singleton,show us.length+1 - 1=us.length by omega,List.getElem?_append_right (Nat.le_refl _),Nat.sub_self] at h1
 simp at h1
 rw [←h1] at hk
 exact hk rfl
theorem Rd.passed {w:World} {c:Cx} {l:List Tk} {d:Nat} (h:Rd w c l d) (hk:¬(hdT l).k=0) (z:Int) (hz:z=((c.ts.length - l.length:Nat):Int)+1):Rd (w.setCell ⟨c.g,1,none⟩ (.int .i64 z)) c l.tail d:=by
 obtain⟨m1,m2,m3⟩:=h.more hk
 obtain⟨_,h2,h3⟩:=h.head
 have hz':z=((c.ts.length - l.tail.length:Nat):Int):=by omega
 subst hz'
 exact h.set (by rw [heap_setCell_same w c.g 1 _ _ _ h.box];rfl) m3 m1 h.low
def tnL:List Nd→List Tn
 |[]=>[]
 |.mk k t vk vn vs f ks p :: r=>.mk (k:Int) (bA t) (.mk (vk:Int) (vn:Int) (bA vs) [] []) f (tnL ks) (p:Int) :: tnL r
def bdN:List Nd→Prop
 |[]=>True
 |.mk k t vk vn vs f ks p :: r=>(k≤9223372036854775807∧p≤9223372036854775807∧vk≤9223372036854775807∧vn≤9223372036854775807∧t.length≤140737488351232∧vs.length≤140737488351232∧ks.length≤140737488351232)∧bdN ks∧bdN r
theorem tnL_len:∀(ks:List Nd),(tnL ks).length=ks.length
 |[]=>by simp [tnL]
 |.mk k t vk vn vs f ks p :: r=>by simp only [tnL,List.length_cons,tnL_len r]
theorem leaf_isP (w:World) (P:Nat→Prop) (vk vn:Nat) (vs:List UInt8) (h1:vk≤9223372036854775807) (h2:vn≤9223372036854775807) (h3:vs.length≤140737488351232):IsP w P (.mk (vk:Int) (vn:Int) (bA vs) [] []) (.agg #[.int .i64 (vk:Int),.int .i64 (vn:Int),.string (bA vs),.slice none 0 0,.slice none 0 0]):=
 ⟨none,none,0,0,fun _=>[],rfl,⟨⟨by show _≤(vk:Int);omega,by show (vk:Int)≤_;omega⟩,⟨by show _≤(vn:Int);omega,by show (vn:Int)≤_;omega⟩,h3,fun _=>⟨rfl,rfl⟩,fun _=>⟨rfl,rfl⟩,Nat.le_refl _,Nat.le_refl _,Nat.zero_le _,Nat.zero_le _,Nat.zero_le _,fun a h=>(by cases h),fun i h=>absurd h (Nat.not_lt_zero _),fun a h=>(by cases h),fun t h=>(by cases h)⟩,by simp [IsPL]⟩
theorem isNs_of {w:World} {B:Nat}:∀(ks:List Nd) (C:List Value) (S:List Nat),IsNL w ks C S→bdN ks→(∀b∈S,b<B)→IsNs w (fun b=>b<B) (tnL ks) (fun i=>(C.drop (i * 10)).take 10)
 |[],C,S,_,_,_=>by simp [tnL,IsNs]
 |.mk k t vk vn vs f ks p :: r,C,S,h,hb,hS=>by
  simp only [IsNL] at h
  obtain⟨ak,ck,C',R,S1,S2,rfl,rfl,ho,h1,h2⟩:=h
  simp only [bdN] at hb
  obtain⟨⟨b1,b2,b3,b4,b5,b6,b7⟩,hb1,hb2⟩:=hb
  have ih1:=isNs_of ks C' S1 h1 hb1 (fun b hh=>hS b (List.mem_append_right _ (List.mem_append_left _ hh)))
  have ih2:=isNs_of r R S2 h2 hb2 (fun b hh=>hS b (List.mem_append_right _ (List.mem_append_right _ hh)))
  have hl:=IsNL.len ks C' S1 h1
  simp only [tnL,IsNs]
  refine⟨⟨[.int .i64 (vk:Int),.int .i64 (vn:Int),.string (bA vs),.slice none 0 0,.slice none 0 0],ak,ck,fun i=>(C'.drop (i * 10)).take 10,?_,rfl,leaf_isP w _ vk vn vs b3 b4 b6,?_,ih1⟩,?_⟩
  ·rw [tnL_len]
   rfl
  ·have hcells:∀x,ak=some x→∃cur:Array Value,x=⟨x.block,0,none⟩∧x.block<B∧w.heap[x.block]?=some (.cells cur 28 (0,0))∧cur.toList.take (ks.length * 10)=C':=by
    intro x hx
    subst hx
    rcases ho.2 with ⟨e,_⟩|⟨g,cap,cur,e,_,hg,_,_,_,ht⟩
    ·cases e
    ·injection e with e1 e2 e3
     injection e1 with e1
     subst e1
     exact⟨cur,rfl,hS g (List.mem_append_left _ (List.mem_singleton.2 rfl)),hg,ht⟩
   refine⟨⟨by omega,by omega⟩,⟨by omega,by omega⟩,b5,?_,?_,?_,?_,?_⟩
   ·intro e
    subst e
    rw [tnL_len]
    rcases ho.2 with ⟨e,e2⟩|⟨g,cap,cur,e,_⟩
    ·injection e with e1 e2 e3
     exact⟨e2,e3⟩
    ·cases e
   ·rw [tnL_len]
    rcases ho.2 with ⟨e,e2⟩|⟨g,cap,cur,e,_,_,hc,_⟩
    ·omega
    ·injection e with e1 e2 e3
     omega
   ·rw [tnL_len]
    exact b7
   ·intro x hx i hi
    rw [tnL_len] at hi
    obtain⟨cur,hx0,hxB,hg,ht⟩:=hcells x hx
    refine⟨hxB,fun j v hv=>?_⟩
    have hj:j<10:=by
     have:=(List.getElem?_eq_some_iff.1 hv).1
     simp only [List.length_take] at this
     omega
    rw [List.getElem?_take_of_lt hj,List.getElem?_drop,←ht,List.getElem?_take_of_lt (by omega)] at hv
    have e:((x.add (i * 10)).add j)=⟨x.block,i * 10+j,none⟩:=by
     rw [hx0]
     unfold Addr.add
     by_cases h1:i * 10=0
     ·by_cases h2:j=0
      ·simp [h1,h2]
      ·simp [h1,h2]
     ·by_cases h2:j=0
      ·simp [h1,h2]
      ·simp [h1,h2]
    rw [e,cell_of_row w x.block (i * 10+j) _ _ (0,0) hg]
    simpa using hv
   ·intro i hi
    rw [tnL_len] at hi
    simp only [List.length_take,List.length_drop,hl]
    omega
  ·have e:(fun i=>(((ndC k t vk vn vs f ks.length ak ck p++R).drop ((i+1) * 10)).take 10))=(fun i=>(R.drop (i * 10)).take 10):=by
    funext i
    rw [show (i+1) * 10=(ndC k t vk vn vs f ks.length ak ck p).length+i * 10 by rw [ndC_len];omega,List.drop_length_add_append]
   rw [e]
   exact ih2
theorem isN_of {lo:Nat} {w:World} {n:Nd} {C:List Value} {S:List Nat} (h:NdOk lo w [n] C S) (hb:bdN [n]):∃y,tnL [n]=[y]∧IsN w (fun b=>b<w.heap.size) y C:=by
 have h1:=isNs_of [n] C S h.nl hb (fun b hh=>(h.rg b hh).2)
 have hl:=IsNL.len _ _ _ h.nl
 obtain⟨k,t,vk,vn,vs,f,ks,p⟩:=n
 refine⟨.mk (k:Int) (bA t) (.mk (vk:Int) (vn:Int) (bA vs) [] []) f (tnL ks) (p:Int),by simp only [tnL],?_⟩
 simp only [tnL] at h1
 have h2:=(IsNs_iff _ _ _ _).1 h1 0 _ rfl
 have e:(C.drop (0 * 10)).take 10=C:=by
  rw [Nat.zero_mul,List.drop_zero,List.take_of_length_le (by rw [hl];simp)]
 rw [e] at h2
 exact h2
theorem ret_c1 {P:Program} {fn:Func} {p:Tmp} {T:TypeId} (h:fn.results=#[.cell p T]) (tmps:Array Value) (w:World) (g:Nat) (c:Array Value) (d:TypeDesc) (t:TypeId)
  (hp:tmps.getD p undef=.pointer (some ⟨g,0,none⟩)) (hb:w.heap[g]?=some (.cells c t (0,0))) (hu:P.underlying T=some d) (hd:(match d with|.struct _|.array _ _=>true|_=>false)=true) (hi:(P.info? T).map (·.size)=some c.size) :
  (results fn tmps).run P w=.ok (.agg c) w:=by
 have hl:=run_loadVar_row (P:=P) w g t T c (0,0) _ hb hu hd hi
 have hp':tmps[p]?.getD undef=.pointer (some ⟨g,0,none⟩):=by simpa using hp
 simp [results,h,hp',asAddr,hl]
theorem size_tk:(Tryz.prog.info? 85).map (·.size)=some 4:=by kernel_rfl
theorem size_nd:(Tryz.prog.info? 28).map (·.size)=some 10:=by kernel_rfl
theorem rtN {fn : Func} {R : Ending → World → Prop} {a : Act} {w : World} {p : Tmp} {g : Nat} {c : Array Value} (h : fn.results = #[.cell p 28]) (hp : a.tmps.getD p undef = .pointer (some ⟨g, 0, none⟩)) (hb : w.heap[g]? = some (.cells c 28 (0, 0))) (hc : c.size = 10) (hd : a.defers = []) (hR : R (.returned (.agg c)) w) : bodyPost Tryz.prog fn R .ret a w := bodyPost_ret (ret_c1 (p := p) (T := 28) h _ _ g _ _ _ hp hb Tryz.underlying28 rfl (by rw [hc]; exact size_nd)) hd hR
theorem set4 {w:World} {q:Nat} {x0 x1 x2 x3:Value} {T:TypeId} (h:w.heap[q]?=some (.cells #[x0,x1,x2,x3] T (0,0))) (y0 y1 y2 y3:Value) :
  ((((w.setCell ⟨q,0,none⟩ y0).setCell ⟨q,1,none⟩ y1).setCell ⟨q,2,none⟩ y2).setCell ⟨q,3,none⟩ y3).heap[q]?=some (.cells #[y0,y1,y2,y3] T (0,0)):=by
 have e0:=heap_setCell_same w q 0 _ T y0 h
 have e1:=heap_setCell_same _ q 1 _ T y1 e0
 have e2:=heap_setCell_same _ q 2 _ T y2 e1
 have e3:=heap_setCell_same _ q 3 _ T y3 e2
 simpa only [sA,sB,sC] using e3
theorem set4_below {w w0:World} {B q:Nat} (h:Below B w0 w) (hq:B≤q) (y0 y1 y2 y3:Value):Below B w0 ((((w.setCell ⟨q,0,none⟩ y0).setCell ⟨q,1,none⟩ y1).setCell ⟨q,2,none⟩ y2).setCell ⟨q,3,none⟩ y3):=
 (((h.setCell (p:=⟨q,0,none⟩) hq _).setCell (p:=⟨q,1,none⟩) hq _).setCell (p:=⟨q,2,none⟩) hq _).setCell (p:=⟨q,3,none⟩) hq _
theorem run_tk0 (y0 y1 y2 y3:Value) (w:World):(Instr.field 85 (.agg #[y0,y1,y2,y3]) 0).run Tryz.prog w=.ok y0 w:=by kernel_rfl
theorem wpl_tk0 {w:World} {ops:Array Oper} {rest:List Oper} {o:Oper} {a:Act} {Q:Exit→Act→World→Prop} (hgd:o.guard=none) (x:Operand) (ho:o.op=.field 85 x 0) (y0 y1 y2 y3:Value) (hx:a.eval x=.agg #[y0,y1,y2,y3])
  (h:wpList Tryz.prog ops Q rest (a.put o.dst y0) w):wpList Tryz.prog ops Q (o :: rest) a w:=by
 refine wpList_plain hgd fun K hK=>?_
 have hr:=run_tk0 y0 y1 y2 y3 w
 unfold Oper.wp
 simp [execOp,ho,hx,hr,Result.andThen]
 exact hK _ _ h
theorem run_tk1 (y0 y1 y2 y3:Value) (w:World):(Instr.field 85 (.agg #[y0,y1,y2,y3]) 1).run Tryz.prog w=.ok y1 w:=by kernel_rfl
theorem wpl_tk1 {w:World} {ops:Array Oper} {rest:List Oper} {o:Oper} {a:Act} {Q:Exit→Act→World→Prop} (hgd:o.guard=none) (x:Operand) (ho:o.op=.field 85 x 1) (y0 y1 y2 y3:Value) (hx:a.eval x=.agg #[y0,y1,y2,y3])
  (h:wpList Tryz.prog ops Q rest (a.put o.dst y1) w):wpList Tryz.prog ops Q (o :: rest) a w:=by
 refine wpList_plain hgd fun K hK=>?_
 have hr:=run_tk1 y0 y1 y2 y3 w
 unfold Oper.wp
 simp [execOp,ho,hx,hr,Result.andThen]
 exact hK _ _ h
theorem run_tk3 (y0 y1 y2 y3:Value) (w:World):(Instr.field 85 (.agg #[y0,y1,y2,y3]) 3).run Tryz.prog w=.ok y3 w:=by kernel_rfl
theorem wpl_tk3 {w:World} {ops:Array Oper} {rest:List Oper} {o:Oper} {a:Act} {Q:Exit→Act→World→Prop} (hgd:o.guard=none) (x:Operand) (ho:o.op=.field 85 x 3) (y0 y1 y2 y3:Value) (hx:a.eval x=.agg #[y0,y1,y2,y3])
  (h:wpList Tryz.prog ops Q rest (a.put o.dst y3) w):wpList Tryz.prog ops Q (o :: rest) a w:=by
 refine wpList_plain hgd fun K hK=>?_
 have hr:=run_tk3 y0 y1 y2 y3 w
 unfold Oper.wp
 simp [execOp,ho,hx,hr,Result.andThen]
 exact hK _ _ h
theorem token_any {c:Cx} {l:List Tk} {d:Nat} {w:World} (h:Rd w c l d) :
  Calls Tryz.prog 36 #[.pointer (some ⟨c.g,0,none⟩)] w fun e w'=>e=.returned (.agg (tkA (hdT l)))∧Below w.heap.size w w':=by
 obtain⟨hd1,hd2,hd3⟩:=h.head
 obtain⟨c0,c1,c2,f1,f2,hgl⟩:=h.cells
 obtain⟨htl,t0,t1,t2,t3⟩:=h.tok
 have hln:=h.len
 have hcp:=h.cap
 have hap:=h.apart
 obtain⟨g,tb,ct,ts⟩:=c
 obtain⟨⟨k,t,n,p⟩,ht⟩:∃t,hdT l=t:=⟨_,rfl⟩
 simp only [] at c0 c1 c2 f1 f2 hgl htl t0 t1 t2 t3 hln hcp hap hd1 hd2 hd3 ht ⊢
 rw [ht] at t0 t1 t2 t3
 rw [ht]
 obtain⟨N,hN⟩:=eX (ts.length)
 rw [hN] at c0 c1 t0 t1 t2 t3 hln hcp hd3
 obtain⟨i,hi⟩:=eX (N - l.length)
 rw [hi] at c1 t0 t1 t2 t3
 have j0:(0:Int)≤(i:Int):=by omega
 have j1:(i:Int)<(N:Int):=by omega
 obtain⟨o,ho⟩:=eX (i * 4)
 have r1:=add_row tb (i * 4)
 rw [ho] at r1 t0 t1 t2 t3
 obtain⟨G,hG⟩:=eX (w.heap.size)
 obtain⟨w1,hw1⟩:=eX (w.alloc (.cells #[.int .i64 0,.string ⟨#[]⟩,.int .i64 0,.int .i64 0] 85))
 have A1:=(al1 hw1 hG).1
 have B1:=alB hw1
 have c0:=cell_later B1 c0
 have c1:=cell_later B1 c1
 have t0:=cell_later B1 t0
 have t1:=cell_later B1 t1
 have t2:=cell_later B1 t2
 have t3:=cell_later B1 t3
 obtain⟨a0,a1,a2,a3⟩:=row_cell4 A1
 have y0:=frozen_of_row w1 G 0 _ _ A1
 have y1:=frozen_of_row w1 G 1 _ _ A1
 have y2:=frozen_of_row w1 G 2 _ _ A1
 have y3:=frozen_of_row w1 G 3 _ _ A1
 have HA:=hZ A1
 have HB:=hZ B1
 clear h hN hi ht hd1 c2 f1 f2 A1 B1
 go_enter Tryz.func36,Tryz.ntmps36
 go_upto_region 1 with fail
 go_region
 go_wp2_with fail
 exact bodyPost_ret (ret_c1 (p:=2) (T:=85) rfl _ _ G _ _ _ rfl (set4 (uZ HA) _ _ _ _) Tryz.underlying85 rfl size_tk) rfl ⟨rfl,by first|exact set4_below (uZ HB) (by omega) _ _ _ _|exact(set4_below (uZ HB) (by omega) _ _ _ _).drew|(have hq:=uZ HB;rw [hG] at hq;exact(set4_below hq (Nat.le_refl _) _ _ _ _).drew)⟩
theorem sees_any {c:Cx} {l:List Tk} {d:Nat} {w:World} (h:Rd w c l d) (kd:Nat) (s:List UInt8) :
  Calls Tryz.prog 110 #[.pointer (some ⟨c.g,0,none⟩),.int .i64 (kd:Int),.string (bA s)] w fun e w'=>e=.returned (.bool (isT kd s l))∧Below w.heap.size w w':=by
 have CT:=hZ (token_any h)
 obtain⟨g,tb,ct,ts⟩:=c
 unfold isT
 obtain⟨⟨k,t,n,p⟩,ht⟩:∃t,hdT l=t:=⟨_,rfl⟩
 rw [ht] at CT
 rw [ht]
 simp only [tkA] at CT ⊢
 clear h ht
 go_enter Tryz.func110,Tryz.ntmps110
 go_wp2_with fail
 refine(uZ CT).mono ?_
 rintro e w1 ⟨rfl,b1⟩
 have HB:=hZ b1
 clear b1 CT
 go_upto_region 2 with fail
 obtain⟨w2,hw2⟩:=eX (w1.alloc (.cells #[.int .i64 (k:Int),.string (bA t),.int .i64 (n:Int),.int .i64 (p:Int)] 85))
 have A2:w2.heap[w1.heap.size]?=some (.cells #[.int .i64 (k:Int),.string (bA t),.int .i64 (n:Int),.int .i64 (p:Int)] 85 (0,0)):=by rw [←hw2];exact heap_alloc_new _ _
 have B2:=alB hw2
 have H2:Hid (Below w.heap.size w w2):=hZ ((uZ HB).trans (B2.mono (uZ HB).size))
 obtain⟨a0,a1,a2,a3⟩:=row_cell4 A2
 rw [hw2]
 clear hw2 A2 B2
 by_cases hk:k=kd
 ·subst hk
  by_cases hs:t=s
  ·subst hs
   go_wp2_with fail
   go_ret
   exact⟨by simp,uZ H2⟩
  ·have hs':¬bA t=bA s:=fun e=>hs (bA_inj.1 e)
   have hs2:¬(bA t).toList=(bA s).toList:=fun e=>hs' (bytes_inj.1 e)
   go_wp2_with fail
   go_ret
   exact⟨by simp [hs,hs2],uZ H2⟩
 ·have hk1:¬(k:Int)=(kd:Int):=by omega
  have hk2:((k:Int) == (kd:Int))=false:=by simpa using hk1
  go_wp2_with fail
  go_ret
  exact⟨by simp [hk],uZ H2⟩
theorem seesSign_any {c:Cx} {l:List Tk} {d:Nat} {w:World} (h:Rd w c l d) (s:List UInt8) :
  Calls Tryz.prog 111 #[.pointer (some ⟨c.g,0,none⟩),.string (bA s)] w fun e w'=>e=.returned (.bool (isS s l))∧Below w.heap.size w w':=by
 have CT:=hZ (sees_any h 5 s)
 unfold isS
 obtain⟨b,hb⟩:=eX (isT 5 s l)
 rw [hb] at CT
 rw [hb]
 clear h hb
 go_enter Tryz.func111,Tryz.ntmps111
 go_wp2_with fail
 refine(uZ CT).mono ?_
 rintro e w1 ⟨rfl,b1⟩
 have HB:=hZ b1
 clear b1 CT
 go_wp2_with fail
 go_ret
 exact⟨rfl,uZ HB⟩
theorem seesKey_any {c:Cx} {l:List Tk} {d:Nat} {w:World} (h:Rd w c l d) (s:List UInt8) :
  Calls Tryz.prog 73 #[.pointer (some ⟨c.g,0,none⟩),.string (bA s)] w fun e w'=>e=.returned (.bool (isK s l))∧Below w.heap.size w w':=by
 have CT:=hZ (sees_any h 2 s)
 unfold isK
 obtain⟨b,hb⟩:=eX (isT 2 s l)
 rw [hb] at CT
 rw [hb]
 clear h hb
 go_enter Tryz.func73,Tryz.ntmps73
 go_wp2_with fail
 refine(uZ CT).mono ?_
 rintro e w1 ⟨rfl,b1⟩
 have HB:=hZ b1
 clear b1 CT
 go_wp2_with fail
 go_ret
 exact⟨rfl,uZ HB⟩
theorem refuse_any {c:Cx} {l:List Tk} {d:Nat} {w:World} (h:Rd w c l d) :
  Calls Tryz.prog 37 #[.pointer (some ⟨c.g,0,none⟩)] w fun e w'=>e=fltP 170 (hdT l).p∧Below w.heap.size w w':=by
 have CT:=hZ (token_any h)
 obtain⟨⟨k,t,n,p⟩,ht⟩:∃t,hdT l=t:=⟨_,rfl⟩
 rw [ht] at CT
 rw [ht]
 simp only [tkA] at CT ⊢
 clear h ht
 go_enter Tryz.func37,Tryz.ntmps37
 go_wp2_with fail
 refine(uZ CT).mono ?_
 rintro e w1 ⟨rfl,b1⟩
 have HB:=hZ b1
 clear b1 CT
 go_wp2_with (first|(refine wpl_tk3 rfl _ rfl _ _ _ _ rfl ?_))
 exact⟨rfl,rfl,uZ HB⟩
theorem pass_any {c:Cx} {l:List Tk} {d:Nat} {w:World} (h:Rd w c l d) (hk:¬(hdT l).k=0) :
  Calls Tryz.prog 74 #[.pointer (some ⟨c.g,0,none⟩)] w fun e w'=>e=.returned (.agg (tkA (hdT l)))∧Rd w' c l.tail d∧Beside c.g w w':=by
 obtain⟨G,hG⟩:=eX (w.heap.size)
 obtain⟨w1,hw1⟩:=eX (w.alloc (.cells #[.int .i64 0,.string ⟨#[]⟩,.int .i64 0,.int .i64 0] 85))
 have A1:=(al1 hw1 hG).1
 have B1:=alB hw1
 have h1:=h.below B1
 have CT:=hZ (token_any h1)
 have HR:=hZ (And.intro h1 hk)
 have hgl:=h.cells.2.2.2.2.2
 have htl:=h.tok.1
 have hcl:=h1.head
 have hln:=h.len
 obtain⟨⟨k,t,n,p⟩,ht⟩:∃t,hdT l=t:=⟨_,rfl⟩
 rw [ht] at CT
 rw [ht]
 simp only [tkA] at CT ⊢
 have HA:=hZ A1
 have HB:=hZ B1
 clear h h1 ht A1 B1
 go_enter Tryz.func74,Tryz.ntmps74
 go_wp2_with fail
 refine(uZ CT).mono ?_
 rintro e w2 ⟨rfl,b2⟩
 have H2:=hZ b2
 clear b2 CT
 go_upto_region 2 with fail
 obtain⟨w3,hw3⟩:=eX (w2.alloc (.cells #[.int .i64 (k:Int),.string (bA t),.int .i64 (n:Int),.int .i64 (p:Int)] 85))
 have A3:w3.heap[w2.heap.size]?=some (.cells #[.int .i64 (k:Int),.string (bA t),.int .i64 (n:Int),.int .i64 (p:Int)] 85 (0,0)):=by rw [←hw3];exact heap_alloc_new _ _
 have B3:=alB hw3
 have X3:Below w1.heap.size w1 w3:=(uZ H2).trans (B3.mono (uZ H2).size)
 have R3:=(uZ HR).1.below X3
 obtain⟨c0,c1,c2,f1,f2,hg3⟩:=R3.cells
 have HR3:=hZ R3
 have HG3:Hid (w3.heap[G]?=some (.cells #[.int .i64 0,.string ⟨#[]⟩,.int .i64 0,.int .i64 0] 85 (0,0))∧Below w.heap.size w w3):=hZ ⟨(X3.block G (Array.getElem?_eq_some_iff.1 (uZ HA)).1).trans (uZ HA),(uZ HB).trans (X3.mono (uZ HB).size)⟩
 have hq:G<w2.heap.size:=Nat.lt_of_lt_of_le (Array.getElem?_eq_some_iff.1 (uZ HA)).1 (uZ H2).size
 obtain⟨Q,hQ⟩:=eX (w2.heap.size)
 rw [hw3]
 rw [hQ] at A3 hq
 rw [hQ]
 have HA3:=hZ A3
 obtain⟨i,hi⟩:=eX (c.ts.length - l.length)
 rw [hi] at c1
 have j1:IntKind.i64.wrap ((i:Int)+1)=(i:Int)+1:=by rw [IntKind.wrap_i64];omega
 have HI:=hZ hi
 clear R3 X3 B3 A3 hw3 hi
 obtain⟨g,tb,ct,ts⟩:=c
 simp only [] at c0 c1 c2 f1 f2 hg3 hgl htl hcl hln HR HR3 HI ⊢
 go_upto_region 3 with fail
 have hgG:g<G:=by omega
 obtain⟨w4,hw4⟩:=eX (w3.setCell ⟨g,1,none⟩ (.int .i64 ((i:Int)+1)))
 have R4:Hid (Rd w4 ⟨g,tb,ct,ts⟩ l.tail d):=hZ (by rw [←hw4];exact(uZ HR3).passed (uZ HR).2 _ (by rw [uZ HI]))
 have hG4:w4.heap[G]?=some (.cells #[.int .i64 0,.string ⟨#[]⟩,.int .i64 0,.int .i64 0] 85 (0,0)):=by rw [←hw4,heap_setCell_other _ _ _ _ (show G≠g by omega)];exact(uZ HG3).1
 have hQ4:w4.heap[Q]?=some (.cells #[.int .i64 (k:Int),.string (bA t),.int .i64 (n:Int),.int .i64 (p:Int)] 85 (0,0)):=by rw [←hw4,heap_setCell_other _ _ _ _ (show Q≠g by omega)];exact uZ HA3
 have HX4:Hid (Beside g w w4):=hZ (by rw [←hw4];exact(Beside.of_below (uZ HG3).2).set)
 obtain⟨a0,a1,a2,a3⟩:=row_cell4 hQ4
 obtain⟨b0,b1,b2,b3⟩:=row_cell4 hG4
 have y0:=frozen_of_row w4 G 0 _ _ hG4
 have y1:=frozen_of_row w4 G 1 _ _ hG4
 have y2:=frozen_of_row w4 G 2 _ _ hG4
 have y3:=frozen_of_row w4 G 3 _ _ hG4
 have HG4:=hZ hG4
 rw [hw4]
 clear hw4 hG4 hQ4 c0 c1 c2 f1 f2
 go_wp2_with fail
 have n1:G≠(⟨g,tb,ct,ts⟩:Cx).g:=show G≠g by omega
 have n2:G≠(⟨g,tb,ct,ts⟩:Cx).tb:=show G≠tb by omega
 exact bodyPost_ret (ret_c1 (p:=2) (T:=85) rfl _ _ G _ _ _ rfl (set4 (uZ HG4) _ _ _ _) Tryz.underlying85 rfl size_tk) rfl ⟨rfl,((((uZ R4).setN n1 n2).setN n1 n2).setN n1 n2).setN n1 n2,((((uZ HX4).setN (by omega)).setN (by omega)).setN (by omega)).setN (by omega)⟩
end Go.Proofs.YtjdpaihhhjdgmaaGreatDoor
