/-
  Layer 17 (parse): what a function of the reader answers: a node, or a fault that is panicked with; no conditions.
  Layer 17 (parse): what a job reads it takes off; with fuel enough a job comes to an end; plain lists, no conditions.
-/
import Derived.Test.YtilhlmmcdfoaoaaGreatDoorE09
import Derived.Test.YtilhlmmcdfoaoaaGreatDoorE00
set_option linter.unusedVariables false
set_option linter.unusedSimpArgs false
namespace Go.Proofs.YtilhlmmcdfoaoaaGreatDoor
open Go.RowKit
set_option linter.unusedVariables false
set_option linter.unusedSimpArgs false
def NdP (c:Cx) (w:World) (d:Nat):Rs (List Nd)→Ending→World→Prop
 |.error (a,p),e,w'=>e=fltP a p∧Beside c.g w w'
 |.ok (ns,l),e,w'=>∃(k:Nat) (t:List UInt8) (vk vn:Nat) (vs:List UInt8) (f:Bool) (n:Nat) (ak:Option Addr) (ck p:Nat) (S:List Nat),e=.returned (.agg #[.int .i64 (k:Int),.string (bA t),.int .i64 (vk:Int),.int .i64 (vn:Int),.string (bA vs),.slice none 0 0,.slice none 0 0,.bool f,.slice ak n ck,.int .i64 (p:Int)])∧ns.length=1∧NdOk w.heap.size w' ns (ndC k t vk vn vs f n ak ck p) S∧Rd w' c l d∧Beside c.g w w'
def KsP (c:Cx) (w:World) (d:Nat):Rs (List Nd)→Ending→World→Prop
 |.error (a,p),e,w'=>e=fltP a p∧Beside c.g w w'
 |.ok (ns,l),e,w'=>∃(ak:Option Addr) (ck:Nat) (C:List Value) (S:List Nat),e=.returned (.slice ak ns.length ck)∧Kr w.heap.size w' ns (.slice ak ns.length ck) C S∧Rd w' c l d∧Beside c.g w w'
theorem bnd_some {α β:Type} {x:Option (Rs α)} {k:α→List Tk→Option (Rs β)} {r:Rs β} (h:bnd x k=some r):∃y,x=some y∧thn y k=some r:=by
 cases x with
 |none=>cases h
 |some y=>exact⟨y,rfl,h⟩
theorem thn_err {α β:Type} {e:Nat × Nat} {k:α→List Tk→Option (Rs β)} {r:Rs β} (h:thn (.error e) k=some r):r=.error e:=by cases h;rfl
theorem thn_ok {α β:Type} {a:α} {l:List Tk} {k:α→List Tk→Option (Rs β)} {r:Rs β} (h:thn (.ok (a,l)) k=some r):k a l=some r:=h
theorem okN_some {n:List Nd} {l:List Tk} {r:Rs (List Nd)} (h:okN n l=some r):r=.ok (n,l):=by cases h;rfl
theorem thn_sg {β:Type} {s:List UInt8} {l:List Tk} {k:Tk→List Tk→Option (Rs β)} {r:Rs β} (hs:isS s l=true) (h:thn (pSg s l) k=some r):k (hdT l) l.tail=some r:=by unfold pSg at h;rw [if_pos hs] at h;exact h
theorem thn_sgb {β:Type} {s:List UInt8} {l:List Tk} {k:Tk→List Tk→Option (Rs β)} {r:Rs β} (hs:isS s l=false) (h:thn (pSg s l) k=some r):r=.error (170,(hdT l).p):=by unfold pSg at h;rw [if_neg (by rw [hs];decide)] at h;exact thn_err h
theorem thn_ky {β:Type} {s:List UInt8} {l:List Tk} {k:Tk→List Tk→Option (Rs β)} {r:Rs β} (hs:isK s l=true) (h:thn (pKy s l) k=some r):k (hdT l) l.tail=some r:=by unfold pKy at h;rw [if_pos hs] at h;exact h
theorem thn_kyb {β:Type} {s:List UInt8} {l:List Tk} {k:Tk→List Tk→Option (Rs β)} {r:Rs β} (hs:isK s l=false) (h:thn (pKy s l) k=some r):r=.error (170,(hdT l).p):=by unfold pKy at h;rw [if_neg (by rw [hs];decide)] at h;exact thn_err h
theorem thn_nm {β:Type} {l:List Tk} {k:Tk→List Tk→Option (Rs β)} {r:Rs β} (hs:(hdT l).k=1) (h:thn (pNm l) k=some r):k (hdT l) l.tail=some r:=by unfold pNm at h;rw [if_pos hs] at h;exact h
theorem thn_nmb {β:Type} {l:List Tk} {k:Tk→List Tk→Option (Rs β)} {r:Rs β} (hs:¬(hdT l).k=1) (h:thn (pNm l) k=some r):r=.error (170,(hdT l).p):=by unfold pNm at h;rw [if_neg hs] at h;exact thn_err h
theorem thn_en {β:Type} {s:List UInt8} {d:Nat} {l:List Tk} {k:Tk→List Tk→Option (Rs β)} {r:Rs β} (hs:isS s l=true) (hd:d<24) (h:thn (ent s d l) k=some r):k (hdT l) l.tail=some r:=by unfold ent at h;rw [if_pos hs,if_neg (by omega)] at h;exact h
theorem thn_enb {β:Type} {s:List UInt8} {d:Nat} {l:List Tk} {k:Tk→List Tk→Option (Rs β)} {r:Rs β} (hs:isS s l=false) (h:thn (ent s d l) k=some r):r=.error (170,(hdT l).p):=by unfold ent at h;rw [if_neg (by rw [hs];decide)] at h;exact thn_err h
theorem thn_end {β:Type} {s:List UInt8} {d:Nat} {l:List Tk} {k:Tk→List Tk→Option (Rs β)} {r:Rs β} (hs:isS s l=true) (hd:d=24) (h:thn (ent s d l) k=some r):r=.error (171,(hdT l).p):=by unfold ent at h;rw [if_pos hs,if_pos hd] at h;exact thn_err h
theorem Kr.mk' {lo:Nat} {u:World} {ks:List Nd} {C:List Value} {S:List Nat} (h:NdOk lo u ks C S) (hn:ks.length≤10000):Kr lo (u.alloc (.cells C.toArray 29)) ks (.slice (some ⟨u.heap.size,0,none⟩) ks.length ks.length) C S:=by
 have b:Below u.heap.size u (u.alloc (.cells C.toArray 29)):=(Below.refl _ _).alloc (Nat.le_refl _) _
 refine⟨⟨IsNL.len ks C S h.nl,.inr ⟨u.heap.size,ks.length,C.toArray,rfl,h.le,heap_alloc_new _ _,Nat.le_refl _,by unfold maxLen;omega,by simpa using IsNL.len ks C S h.nl,?_⟩⟩,h.to (fun x _ h2 _=>b.block x h2) b.size,fun x hx hm=>?_⟩
 ·rw [List.take_of_length_le (by have:=IsNL.len ks C S h.nl;simpa using Nat.le_of_eq this)]
 ·have:=(h.rg x hm).2
  have e:u.heap.size=x:=by simpa [Value.ownBlock] using hx
  omega
theorem Kr.node' {lo m:Nat} {w:World} {ks:List Nd} {ak:Option Addr} {ck:Nat} {C:List Value} {S:List Nat} (h:Kr lo w ks (.slice ak m ck) C S) (hm:ks.length=m) (k:Nat) (t:List UInt8) (vk vn:Nat) (vs:List UInt8) (f:Bool) (p:Nat) :
  NdOk lo w [⟨k,t,vk,vn,vs,f,ks,p⟩] (ndC k t vk vn vs f m ak ck p) (blkO ak++S):=by
 subst hm
 exact h.node k t vk vn vs f p
theorem Kr.but2 {lo q:Nat} {w w':World} {ks:List Nd} {v:Value} {C:List Value} {S:List Nat} (h:Kr lo w ks v C S) (hw:∀b,b<w.heap.size→b≠q→w'.heap[b]?=w.heap[b]?) (hs:w.heap.size≤w'.heap.size) (h1:q∉S) (h2:v.ownBlock≠some q):Kr lo w' ks v C S:=
 ⟨own_at h.own (fun b hv=>hw b (h.own.lt b hv).2 (fun e=>h2 (by rw [←e];exact hv))),h.ok.to (fun b _ hb hm=>hw b hb (fun e=>h1 (by rw [←e];exact hm))) hs,h.apart⟩
theorem Kr.fresh {lo q:Nat} {w:World} {ks:List Nd} {v:Value} {C:List Value} {S:List Nat} (h:Kr lo w ks v C S) (hq:w.heap.size=q):q∉S∧v.ownBlock≠some q:=
 ⟨fun hm=>by have:=(h.ok.rg _ hm).2;omega,fun hv=>by have:=(h.own.lt _ hv).2;omega⟩
theorem NdOk.fresh {lo q:Nat} {w:World} {ks:List Nd} {C:List Value} {S:List Nat} (h:NdOk lo w ks C S) (hq:w.heap.size=q):q∉S:=fun hm=>by have:=(h.rg _ hm).2;omega
theorem own_ne {q r n m:Nat} (h:q<r):(Value.slice (some ⟨r,0,none⟩) n m).ownBlock≠some q:=fun e=>by
 have:r=q:=by simpa [Value.ownBlock] using e
 omega
theorem NdOk.but {lo q:Nat} {w w':World} {ks:List Nd} {C:List Value} {S:List Nat} (h:NdOk lo w ks C S) (hw:∀b,b<w.heap.size→b≠q→w'.heap[b]?=w.heap[b]?) (hs:w.heap.size≤w'.heap.size) (h1:q∉S):NdOk lo w' ks C S:=
 h.to (fun b _ hb hm=>hw b hb (fun e=>h1 (by rw [←e];exact hm))) hs
theorem bx_go {g Q:Nat} {u u':World} {c:Array Value} {T:TypeId} (h:Hid (u.heap[Q]?=some (.cells c T (0,0)))) (b:Beside g u u') (hq:g<Q):Hid (u'.heap[Q]?=some (.cells c T (0,0))):=
 hZ ((b.block Q (Array.getElem?_eq_some_iff.1 (uZ h)).1 (by omega)).trans (uZ h))
theorem bx_be {Q:Nat} {u u':World} {c:Array Value} {T:TypeId} (h:Hid (u.heap[Q]?=some (.cells c T (0,0)))) (b:Below u.heap.size u u'):Hid (u'.heap[Q]?=some (.cells c T (0,0))):=
 hZ ((b.block Q (Array.getElem?_eq_some_iff.1 (uZ h)).1).trans (uZ h))
theorem bx_ne {Q q f:Nat} {u:World} {c:Array Value} {T:TypeId} {v:Value} (h:Hid (u.heap[Q]?=some (.cells c T (0,0)))) (hq:Q≠q):Hid ((u.setCell ⟨q,f,none⟩ v).heap[Q]?=some (.cells c T (0,0))):=
 hZ (by rw [heap_setCell_other _ _ _ _ hq];exact uZ h)
theorem St.done {w:World} {c:Cx} {G:Nat} {x0 x1 x2 x3 x4 x5 x6 x7 x8 x9:Value} {u:World} {l:List Tk} {d:Nat} (h:St w c 29 #[x0,x1,x2,x3,x4,x5,x6,x7,x8,x9] u l d) {ns:List Nd} {k:Nat} {t:List UInt8} {vk vn:Nat} {vs:List UInt8} {f:Bool} {n:Nat} {ak:Option Addr} {ck p:Nat} {S:List Nat} (hk:NdOk (w.heap.size+1) u ns (ndC k t vk vn vs f n ak ck p) S) (hn:ns.length=1) (hG:w.heap.size=G) :
  ((((((((((u.setCell ⟨G,0,none⟩ (.int .i64 (k:Int))).setCell ⟨G,1,none⟩ (.string (bA t))).setCell ⟨G,2,none⟩ (.int .i64 (vk:Int))).setCell ⟨G,3,none⟩ (.int .i64 (vn:Int))).setCell ⟨G,4,none⟩ (.string (bA vs))).setCell ⟨G,5,none⟩ (.slice none 0 0)).setCell ⟨G,6,none⟩ (.slice none 0 0)).setCell ⟨G,7,none⟩ (.bool f)).setCell ⟨G,8,none⟩ (.slice ak n ck)).setCell ⟨G,9,none⟩ (.int .i64 (p:Int))).heap[G]?=some (.cells #[.int .i64 (k:Int),.string (bA t),.int .i64 (vk:Int),.int .i64 (vn:Int),.string (bA vs),.slice none 0 0,.slice none 0 0,.bool f,.slice ak n ck,.int .i64 (p:Int)] 29 (0,0))∧NdP c w d (.ok (ns,l)) (.returned (.agg #[.int .i64 (k:Int),.string (bA t),.int .i64 (vk:Int),.int .i64 (vn:Int),.string (bA vs),.slice none 0 0,.slice none 0 0,.bool f,.slice ak n ck,.int .i64 (p:Int)])) ((((((((((u.setCell ⟨G,0,none⟩ (.int .i64 (k:Int))).setCell ⟨G,1,none⟩ (.string (bA t))).setCell ⟨G,2,none⟩ (.int .i64 (vk:Int))).setCell ⟨G,3,none⟩ (.int .i64 (vn:Int))).setCell ⟨G,4,none⟩ (.string (bA vs))).setCell ⟨G,5,none⟩ (.slice none 0 0)).setCell ⟨G,6,none⟩ (.slice none 0 0)).setCell ⟨G,7,none⟩ (.bool f)).setCell ⟨G,8,none⟩ (.slice ak n ck)).setCell ⟨G,9,none⟩ (.int .i64 (p:Int))):=by
 subst hG
 obtain⟨h1,h2,h3,h4,h5⟩:=h.fin (.int .i64 (k:Int)) (.string (bA t)) (.int .i64 (vk:Int)) (.int .i64 (vn:Int)) (.string (bA vs)) (.slice none 0 0) (.slice none 0 0) (.bool f) (.slice ak n ck) (.int .i64 (p:Int))
 exact⟨h1,k,t,vk,vn,vs,f,n,ak,ck,p,S,rfl,hn,(hk.to (fun b hb1 hb2 _=>h4 b (by omega)) (Nat.le_of_eq h5.symm)).low (Nat.le_succ _),h2,h3⟩
theorem St.own10 {w:World} {c:Cx} {T:TypeId} {z:Array Value} {u:World} {l:List Tk} {d:Nat} (h:St w c T z u l d) {q:Nat} (hq:w.heap.size<q) (v0 v1 v2 v3 v4 v5 v6 v7 v8 v9:Value) :
  St w c T z ((((((((((u.setCell ⟨q,0,none⟩ v0).setCell ⟨q,1,none⟩ v1).setCell ⟨q,2,none⟩ v2).setCell ⟨q,3,none⟩ v3).setCell ⟨q,4,none⟩ v4).setCell ⟨q,5,none⟩ v5).setCell ⟨q,6,none⟩ v6).setCell ⟨q,7,none⟩ v7).setCell ⟨q,8,none⟩ v8).setCell ⟨q,9,none⟩ v9) l d∧(∀b,b≠q→((((((((((u.setCell ⟨q,0,none⟩ v0).setCell ⟨q,1,none⟩ v1).setCell ⟨q,2,none⟩ v2).setCell ⟨q,3,none⟩ v3).setCell ⟨q,4,none⟩ v4).setCell ⟨q,5,none⟩ v5).setCell ⟨q,6,none⟩ v6).setCell ⟨q,7,none⟩ v7).setCell ⟨q,8,none⟩ v8).setCell ⟨q,9,none⟩ v9).heap[b]?=u.heap[b]?)∧((((((((((u.setCell ⟨q,0,none⟩ v0).setCell ⟨q,1,none⟩ v1).setCell ⟨q,2,none⟩ v2).setCell ⟨q,3,none⟩ v3).setCell ⟨q,4,none⟩ v4).setCell ⟨q,5,none⟩ v5).setCell ⟨q,6,none⟩ v6).setCell ⟨q,7,none⟩ v7).setCell ⟨q,8,none⟩ v8).setCell ⟨q,9,none⟩ v9).heap.size=u.heap.size:=by
 refine⟨((((((((((h.own q 0 _ hq).own q 1 _ hq).own q 2 _ hq).own q 3 _ hq).own q 4 _ hq).own q 5 _ hq).own q 6 _ hq).own q 7 _ hq).own q 8 _ hq).own q 9 _ hq),fun b hb=>?_,by simp⟩
 rw [heap_setCell_other _ _ _ _ hb,heap_setCell_other _ _ _ _ hb,heap_setCell_other _ _ _ _ hb,heap_setCell_other _ _ _ _ hb,heap_setCell_other _ _ _ _ hb,heap_setCell_other _ _ _ _ hb,heap_setCell_other _ _ _ _ hb,heap_setCell_other _ _ _ _ hb,heap_setCell_other _ _ _ _ hb,heap_setCell_other _ _ _ _ hb]
theorem NdOk.leaf {lo:Nat} {w:World} (hl:lo≤w.heap.size) (k:Nat) (t:List UInt8) (vk vn:Nat) (vs:List UInt8) (f:Bool) (p:Nat):NdOk lo w [⟨k,t,vk,vn,vs,f,[],p⟩] (ndC k t vk vn vs f 0 none 0 p) []:=(Kr.nil hl).node k t vk vn vs f p
theorem thnE {α β:Type} {y:Rs α} {k:α→List Tk→Option (Rs β)} {r:β × List Tk} (h:thn y k=some (.ok r)):∃a l,y=.ok (a,l)∧k a l=some (.ok r):=by
 cases y with
 |error e=>cases h
 |ok x=>exact⟨x.1,x.2,rfl,h⟩
theorem bndE {α β:Type} {y:Option (Rs α)} {k:α→List Tk→Option (Rs β)} {r:β × List Tk} (h:bnd y k=some (.ok r)):∃a l,y=some (.ok (a,l))∧k a l=some (.ok r):=by
 cases y with
 |none=>cases h
 |some x=>
  obtain⟨a,l,rfl,h2⟩:=thnE h
  exact⟨a,l,rfl,h2⟩
theorem okE {n m:List Nd} {l l':List Tk} (h:okN n l=some (.ok (m,l'))):n=m∧l=l':=by cases h;exact⟨rfl,rfl⟩
theorem hd_len {l:List Tk} (h:¬(hdT l).k=0):l.tail.length+1=l.length:=by
 cases l with
 |nil=>exact absurd rfl h
 |cons a r=>rfl
theorem tail_le (l:List Tk):l.tail.length≤l.length:=by rw [List.length_tail];omega
theorem isT_len {k:Nat} {s:List UInt8} {l:List Tk} (hk:¬k=0) (h:isT k s l=true):l.tail.length+1=l.length:=hd_len (by unfold isT at h;have:=of_decide_eq_true h;omega)
theorem isS_len {s:List UInt8} {l:List Tk} (h:isS s l=true):l.tail.length+1=l.length:=isT_len (by decide) h
theorem isK_len {s:List UInt8} {l:List Tk} (h:isK s l=true):l.tail.length+1=l.length:=isT_len (by decide) h
theorem pSg_len {s:List UInt8} {l l':List Tk} {t:Tk} (h:pSg s l=.ok (t,l')):l'.length+1=l.length:=by
 unfold pSg at h
 split at h
 ·rename_i hs;cases h;exact isS_len hs
 ·cases h
theorem pKy_len {s:List UInt8} {l l':List Tk} {t:Tk} (h:pKy s l=.ok (t,l')):l'.length+1=l.length:=by
 unfold pKy at h
 split at h
 ·rename_i hs;cases h;exact isK_len hs
 ·cases h
theorem pNm_len {l l':List Tk} {t:Tk} (h:pNm l=.ok (t,l')):l'.length+1=l.length:=by
 unfold pNm at h
 split at h
 ·rename_i hs;cases h;exact hd_len (by omega)
 ·cases h
theorem ent_len {s:List UInt8} {d:Nat} {l l':List Tk} {t:Tk} (h:ent s d l=.ok (t,l')):l'.length+1=l.length:=by
 unfold ent at h
 split at h
 ·rename_i hs
  split at h
  ·cases h
  ·cases h;exact isS_len hs
 ·cases h
def twoJ (j:Nat):Nat:=if j=20 then 2 else 0
def szL:List Nd→Nat
 |[]=>0
 |.mk _ _ _ _ _ _ ks _ :: r=>1+szL ks+szL r
theorem szL_app:∀(a b:List Nd),szL (a++b)=szL a+szL b
 |[],b=>by simp [szL]
 |.mk k t vk vn vs f ks p :: r,b=>by simp only [List.cons_append,szL,szL_app r b];omega
theorem szL_map (t:List UInt8) (p:Nat):∀(a:List Nd),szL (a.map (fun n=>(⟨n.k,t,n.vk,n.vn,n.vs,n.f,n.ks,p⟩:Nd)))=szL a
 |[]=>rfl
 |.mk k t' vk vn vs f ks p' :: r=>by simp only [List.map_cons,szL,szL_map t p r]
theorem szL_len:∀(a:List Nd),a.length≤szL a
 |[]=>by simp
 |.mk k t vk vn vs f ks p :: r=>by have:=szL_len r;simp only [List.length_cons,szL];omega
def SzJ (r:Jb):Prop:=∀j x acc l d ns l',(¬j=27∧(j=2∨j=3→1≤x))→r j x acc l d=some (.ok (ns,l'))→szL ns+l'.length+twoJ j≤szL acc+l.length
theorem lit_sz {vk vn:Nat} {vs:List UInt8} {l l':List Tk} {ns:List Nd} (hl:l.tail.length+1=l.length) (h:litN vk vn vs l=some (.ok (ns,l'))):szL ns+l'.length≤l.length:=by
 obtain⟨rfl,rfl⟩:=okE h
 simp only [szL]
 omega
theorem part_sz {r:Jb} (ih:SzJ r) {x:Nat} {l l':List Tk} {d:Nat} {ns:List Nd} (h:jPart r x l d=some (.ok (ns,l'))):szL ns+l'.length≤l.length:=by
 unfold jPart at h
 split at h
 ·have:=ih 25 0 [] l d ns l' ⟨by decide,by omega⟩ h;simpa [twoJ,szL] using this
 ·split at h
  ·have:=ih 8 0 [] l d ns l' ⟨by decide,by omega⟩ h;simpa [twoJ,szL] using this
  ·have:=ih 0 0 [] l d ns l' ⟨by decide,by omega⟩ h;simpa [twoJ,szL] using this
theorem fn_sz {r:Jb} (ih:SzJ r) {b:Bool} {p:Nat} {l l':List Tk} {d:Nat} {ns:List Nd} (h:jFn r b p l d=some (.ok (ns,l'))):szL ns+l'.length≤l.length:=by
 unfold jFn at h
 obtain⟨t1,l1,h1,h⟩:=thnE h
 obtain⟨t2,l2,h2,h⟩:=thnE h
 obtain⟨t3,l3,h3,h⟩:=thnE h
 obtain⟨n4,l4,h4,h⟩:=bndE h
 obtain⟨t5,l5,h5,h⟩:=thnE h
 obtain⟨n6,l6,h6,h⟩:=bndE h
 obtain⟨rfl,rfl⟩:=okE h
 have a1:=pKy_len h1
 have a2:=pNm_len h2
 have a3:=pSg_len h3
 have a4:=ih 6 0 [] l3 d n4 l4 ⟨by decide,by omega⟩ h4
 have a5:=pSg_len h5
 have a6:=ih 10 0 [] l5 d n6 l6 ⟨by decide,by omega⟩ h6
 simp only [twoJ,szL,nd0,szL_app,szL_map,Nat.reduceEqDiff,if_false,if_true,Nat.add_zero,reduceIte] at *
 omega
theorem step_sz {r:Jb} (ih:SzJ r):SzJ (stepJ r):=by
 intro j x acc l d ns l' hj h
 match j,hj,h with
 |0,_,h=>
  simp only [stepJ] at h
  have a0:=ih 2 1 [] l d ns l' ⟨by decide,by omega⟩ h
  try simp only [twoJ,szL,nd0,szL_app,szL_map,Nat.reduceEqDiff,if_false,if_true,Nat.add_zero,reduceIte] at *
  omega
 |1,_,h=>
  simp only [stepJ,jUnary] at h
  split at h
  ·obtain⟨t,l1,h1,h⟩:=thnE h
   obtain⟨n2,l2,h2,h⟩:=bndE h
   obtain⟨rfl,rfl⟩:=okE h
   have a1:=ent_len h1
   have a2:=ih 1 0 [] l1 (d+1) n2 l2 ⟨by decide,by omega⟩ h2
   try simp only [twoJ,szL,nd0,szL_app,szL_map,Nat.reduceEqDiff,if_false,if_true,Nat.add_zero,reduceIte] at *
   omega
  ·have a0:=ih 24 0 [] l d ns l' ⟨by decide,by omega⟩ h
   try simp only [twoJ,szL,nd0,szL_app,szL_map,Nat.reduceEqDiff,if_false,if_true,Nat.add_zero,reduceIte] at *
   omega
 |2,hj,h=>
  have hx:=hj.2 (Or.inl rfl)
  simp only [stepJ,jBinary] at h
  split at h
  ·have a0:=ih 1 0 [] l d ns l' ⟨by decide,by omega⟩ h
   try simp only [twoJ,szL,nd0,szL_app,szL_map,Nat.reduceEqDiff,if_false,if_true,Nat.add_zero,reduceIte] at *
   omega
  ·obtain⟨n1,l1,h1,h⟩:=bndE h
   have a1:=ih 2 (x+1) [] l d n1 l1 ⟨by decide,by omega⟩ h1
   have a2:=ih 3 x n1 l1 d ns l' ⟨by decide,fun _=>hx⟩ h
   try simp only [twoJ,szL,nd0,szL_app,szL_map,Nat.reduceEqDiff,if_false,if_true,Nat.add_zero,reduceIte] at *
   omega
 |3,hj,h=>
  have hx:=hj.2 (Or.inr rfl)
  simp only [stepJ,jBinL] at h
  split at h
  ·rename_i hr
   have hl:l.tail.length+1=l.length:=hd_len (fun e=>by unfold rowT at hr;rw [e] at hr;simp at hr;omega)
   obtain⟨n1,l1,h1,h⟩:=bndE h
   have a1:=ih 2 (x+1) [] l.tail d n1 l1 ⟨by decide,by omega⟩ h1
   split at h
   ·obtain⟨rfl,rfl⟩:=okE h
    try simp only [twoJ,szL,nd0,szL_app,szL_map,Nat.reduceEqDiff,if_false,if_true,Nat.add_zero,reduceIte] at *
    omega
   ·have a2:=ih 3 x _ l1 d ns l' ⟨by decide,fun _=>hx⟩ h
    try simp only [twoJ,szL,nd0,szL_app,szL_map,Nat.reduceEqDiff,if_false,if_true,Nat.add_zero,reduceIte] at *
    omega
  ·obtain⟨rfl,rfl⟩:=okE h
   try simp only [twoJ,szL,nd0,szL_app,szL_map,Nat.reduceEqDiff,if_false,if_true,Nat.add_zero,reduceIte] at *
   omega
 |4,_,h=>
  simp only [stepJ,jReL] at h
  split at h
  ·obtain⟨t,l1,h1,h⟩:=thnE h
   obtain⟨n2,l2,h2,h⟩:=bndE h
   obtain⟨t3,l3,h3,h⟩:=thnE h
   have a1:=ent_len h1
   have a2:=ih 0 0 [] l1 (d+1) n2 l2 ⟨by decide,by omega⟩ h2
   have a3:=pSg_len h3
   have a4:=ih 4 0 _ l3 d ns l' ⟨by decide,by omega⟩ h
   try simp only [twoJ,szL,nd0,szL_app,szL_map,Nat.reduceEqDiff,if_false,if_true,Nat.add_zero,reduceIte] at *
   omega
  ·split at h
   ·rename_i hs
    obtain⟨t,l1,h1,h⟩:=thnE h
    have a0:=isS_len hs
    have a1:=pNm_len h1
    have a4:=ih 4 0 _ l1 d ns l' ⟨by decide,by omega⟩ h
    try simp only [twoJ,szL,nd0,szL_app,szL_map,Nat.reduceEqDiff,if_false,if_true,Nat.add_zero,reduceIte] at *
    omega
   ·obtain⟨rfl,rfl⟩:=okE h
    try simp only [twoJ,szL,nd0,szL_app,szL_map,Nat.reduceEqDiff,if_false,if_true,Nat.add_zero,reduceIte] at *
    omega
 |5,_,h=>
  simp only [stepJ,jOperand] at h
  split at h
  ·have a0:=ih 21 0 [] l d ns l' ⟨by decide,by omega⟩ h
   try simp only [twoJ,szL,nd0,szL_app,szL_map,Nat.reduceEqDiff,if_false,if_true,Nat.add_zero,reduceIte] at *
   omega
  ·split at h
   ·rename_i hk
    have a0:=lit_sz (hd_len (by omega)) h
    try simp only [twoJ,szL,nd0,szL_app,szL_map,Nat.reduceEqDiff,if_false,if_true,Nat.add_zero,reduceIte] at *
    omega
   ·split at h
    ·rename_i hk
     have a0:=lit_sz (hd_len (by omega)) h
     try simp only [twoJ,szL,nd0,szL_app,szL_map,Nat.reduceEqDiff,if_false,if_true,Nat.add_zero,reduceIte] at *
     omega
    ·split at h
     ·rename_i hk
      have a0:=lit_sz (isK_len hk) h
      try simp only [twoJ,szL,nd0,szL_app,szL_map,Nat.reduceEqDiff,if_false,if_true,Nat.add_zero,reduceIte] at *
      omega
     ·split at h
      ·rename_i hk
       have a0:=lit_sz (isK_len hk) h
       try simp only [twoJ,szL,nd0,szL_app,szL_map,Nat.reduceEqDiff,if_false,if_true,Nat.add_zero,reduceIte] at *
       omega
      ·split at h
       ·rename_i hk
        have a0:=lit_sz (isK_len hk) h
        try simp only [twoJ,szL,nd0,szL_app,szL_map,Nat.reduceEqDiff,if_false,if_true,Nat.add_zero,reduceIte] at *
        omega
       ·split at h
        ·have a0:=ih 22 2 [] l d ns l' ⟨by decide,by omega⟩ h
         try simp only [twoJ,szL,nd0,szL_app,szL_map,Nat.reduceEqDiff,if_false,if_true,Nat.add_zero,reduceIte] at *
         omega
        ·split at h
         ·have a0:=ih 22 3 [] l d ns l' ⟨by decide,by omega⟩ h
          try simp only [twoJ,szL,nd0,szL_app,szL_map,Nat.reduceEqDiff,if_false,if_true,Nat.add_zero,reduceIte] at *
          omega
         ·have a0:=ih 23 0 [] l d ns l' ⟨by decide,by omega⟩ h
          try simp only [twoJ,szL,nd0,szL_app,szL_map,Nat.reduceEqDiff,if_false,if_true,Nat.add_zero,reduceIte] at *
          omega
 |6,_,h=>
  simp only [stepJ,jParts] at h
  split at h
  ·obtain⟨rfl,rfl⟩:=okE h
   try simp only [twoJ,szL,nd0,szL_app,szL_map,Nat.reduceEqDiff,if_false,if_true,Nat.add_zero,reduceIte] at *
   omega
  ·obtain⟨n1,l1,h1,h⟩:=bndE h
   have a1:=part_sz ih h1
   have a2:=ih 7 x n1 l1 d ns l' ⟨by decide,by omega⟩ h
   try simp only [twoJ,szL,nd0,szL_app,szL_map,Nat.reduceEqDiff,if_false,if_true,Nat.add_zero,reduceIte] at *
   omega
 |7,_,h=>
  simp only [stepJ,jPaL] at h
  split at h
  ·obtain⟨n1,l1,h1,h⟩:=bndE h
   have a1:=part_sz ih h1
   have a0:=tail_le l
   have a2:=ih 7 x _ l1 d ns l' ⟨by decide,by omega⟩ h
   try simp only [twoJ,szL,nd0,szL_app,szL_map,Nat.reduceEqDiff,if_false,if_true,Nat.add_zero,reduceIte] at *
   omega
  ·obtain⟨rfl,rfl⟩:=okE h
   try simp only [twoJ,szL,nd0,szL_app,szL_map,Nat.reduceEqDiff,if_false,if_true,Nat.add_zero,reduceIte] at *
   omega
 |8,_,h=>
  simp only [stepJ,jPair] at h
  split at h
  ·cases h
  ·obtain⟨t,l1,h1,h⟩:=thnE h
   obtain⟨n2,l2,h2,h⟩:=bndE h
   obtain⟨rfl,rfl⟩:=okE h
   have a1:=pSg_len h1
   have a0:=tail_le l
   have a2:=ih 0 0 [] l1 d n2 l2 ⟨by decide,by omega⟩ h2
   try simp only [twoJ,szL,nd0,szL_app,szL_map,Nat.reduceEqDiff,if_false,if_true,Nat.add_zero,reduceIte] at *
   omega
 |9,_,h=>
  simp only [stepJ,jStat] at h
  split at h
  ·have a0:=ih 16 0 [] l d ns l' ⟨by decide,by omega⟩ h
   try simp only [twoJ,szL,nd0,szL_app,szL_map,Nat.reduceEqDiff,if_false,if_true,Nat.add_zero,reduceIte] at *
   omega
  ·split at h
   ·have a0:=ih 15 0 [] l d ns l' ⟨by decide,by omega⟩ h
    try simp only [twoJ,szL,nd0,szL_app,szL_map,Nat.reduceEqDiff,if_false,if_true,Nat.add_zero,reduceIte] at *
    omega
   ·split at h
    ·have a0:=ih 12 0 [] l d ns l' ⟨by decide,by omega⟩ h
     try simp only [twoJ,szL,nd0,szL_app,szL_map,Nat.reduceEqDiff,if_false,if_true,Nat.add_zero,reduceIte] at *
     omega
    ·split at h
     ·have a0:=ih 17 0 [] l d ns l' ⟨by decide,by omega⟩ h
      try simp only [twoJ,szL,nd0,szL_app,szL_map,Nat.reduceEqDiff,if_false,if_true,Nat.add_zero,reduceIte] at *
      omega
     ·split at h
      ·have a0:=ih 18 0 [] l d ns l' ⟨by decide,by omega⟩ h
       try simp only [twoJ,szL,nd0,szL_app,szL_map,Nat.reduceEqDiff,if_false,if_true,Nat.add_zero,reduceIte] at *
       omega
      ·split at h
       ·have a0:=ih 26 10 [] l d ns l' ⟨by decide,by omega⟩ h
        try simp only [twoJ,szL,nd0,szL_app,szL_map,Nat.reduceEqDiff,if_false,if_true,Nat.add_zero,reduceIte] at *
        omega
       ·split at h
        ·have a0:=ih 26 11 [] l d ns l' ⟨by decide,by omega⟩ h
         try simp only [twoJ,szL,nd0,szL_app,szL_map,Nat.reduceEqDiff,if_false,if_true,Nat.add_zero,reduceIte] at *
         omega
        ·have a0:=ih 19 0 [] l d ns l' ⟨by decide,by omega⟩ h
         try simp only [twoJ,szL,nd0,szL_app,szL_map,Nat.reduceEqDiff,if_false,if_true,Nat.add_zero,reduceIte] at *
         omega
 |10,_,h=>
  simp only [stepJ,jBlock] at h
  obtain⟨t,l1,h1,h⟩:=thnE h
  obtain⟨n2,l2,h2,h⟩:=bndE h
  obtain⟨t3,l3,h3,h⟩:=thnE h
  obtain⟨rfl,rfl⟩:=okE h
  have a1:=ent_len h1
  have a2:=ih 11 0 [] l1 (d+1) n2 l2 ⟨by decide,by omega⟩ h2
  have a3:=pSg_len h3
  try simp only [twoJ,szL,nd0,szL_app,szL_map,Nat.reduceEqDiff,if_false,if_true,Nat.add_zero,reduceIte] at *
  omega
 |11,_,h=>
  simp only [stepJ,jBlL] at h
  split at h
  ·obtain⟨rfl,rfl⟩:=okE h
   try simp only [twoJ,szL,nd0,szL_app,szL_map,Nat.reduceEqDiff,if_false,if_true,Nat.add_zero,reduceIte] at *
   omega
  ·obtain⟨n1,l1,h1,h⟩:=bndE h
   have a1:=ih 9 0 [] l d n1 l1 ⟨by decide,by omega⟩ h1
   have a2:=ih 11 0 _ l1 d ns l' ⟨by decide,by omega⟩ h
   try simp only [twoJ,szL,nd0,szL_app,szL_map,Nat.reduceEqDiff,if_false,if_true,Nat.add_zero,reduceIte] at *
   omega
 |12,_,h=>
  simp only [stepJ,jChoice] at h
  obtain⟨n1,l1,h1,h⟩:=bndE h
  have a1:=ih 20 0 [] l.tail d n1 l1 ⟨by decide,by omega⟩ h1
  have a0:=tail_le l
  have a5:=tail_le l1
  split at h
  ·rename_i he
   have a6:=isK_len he
   split at h
   ·obtain⟨n2,l2,h2,h⟩:=bndE h
    obtain⟨rfl,rfl⟩:=okE h
    have a2:=ih 12 0 [] l1.tail d n2 l2 ⟨by decide,by omega⟩ h2
    try simp only [twoJ,szL,nd0,szL_app,szL_map,Nat.reduceEqDiff,if_false,if_true,Nat.add_zero,reduceIte] at *
    omega
   ·obtain⟨n2,l2,h2,h⟩:=bndE h
    obtain⟨rfl,rfl⟩:=okE h
    have a2:=ih 10 0 [] l1.tail d n2 l2 ⟨by decide,by omega⟩ h2
    try simp only [twoJ,szL,nd0,szL_app,szL_map,Nat.reduceEqDiff,if_false,if_true,Nat.add_zero,reduceIte] at *
    omega
  ·obtain⟨rfl,rfl⟩:=okE h
   try simp only [twoJ,szL,nd0,szL_app,szL_map,Nat.reduceEqDiff,if_false,if_true,Nat.add_zero,reduceIte] at *
   omega
 |13,_,h=>
  simp only [stepJ,jFun] at h
  split at h
  ·have a0:=fn_sz ih h
   have a1:=tail_le l
   try simp only [twoJ,szL,nd0,szL_app,szL_map,Nat.reduceEqDiff,if_false,if_true,Nat.add_zero,reduceIte] at *
   omega
  ·have a0:=fn_sz ih h
   try simp only [twoJ,szL,nd0,szL_app,szL_map,Nat.reduceEqDiff,if_false,if_true,Nat.add_zero,reduceIte] at *
   omega
 |14,_,h=>
  simp only [stepJ,jPrL] at h
  split at h
  ·obtain⟨rfl,rfl⟩:=okE h
   try simp only [twoJ,szL,nd0,szL_app,szL_map,Nat.reduceEqDiff,if_false,if_true,Nat.add_zero,reduceIte] at *
   omega
  ·obtain⟨n1,l1,h1,h⟩:=bndE h
   have a1:=ih 13 0 [] l d n1 l1 ⟨by decide,by omega⟩ h1
   have a2:=ih 14 0 _ l1 d ns l' ⟨by decide,by omega⟩ h
   try simp only [twoJ,szL,nd0,szL_app,szL_map,Nat.reduceEqDiff,if_false,if_true,Nat.add_zero,reduceIte] at *
   omega
 |15,_,h=>
  simp only [stepJ,jLet] at h
  obtain⟨t,l1,h1,h⟩:=thnE h
  have a1:=pNm_len h1
  have a0:=tail_le l
  split at h
  ·obtain⟨n2,l2,h2,h⟩:=bndE h
   obtain⟨t3,l3,h3,h⟩:=thnE h
   obtain⟨rfl,rfl⟩:=okE h
   have a5:=tail_le l1
   have a2:=ih 0 0 [] l1.tail d n2 l2 ⟨by decide,by omega⟩ h2
   have a3:=pSg_len h3
   try simp only [twoJ,szL,nd0,szL_app,szL_map,Nat.reduceEqDiff,if_false,if_true,Nat.add_zero,reduceIte] at *
   omega
  ·obtain⟨t3,l3,h3,h⟩:=thnE h
   obtain⟨rfl,rfl⟩:=okE h
   have a3:=pSg_len h3
   try simp only [twoJ,szL,nd0,szL_app,szL_map,Nat.reduceEqDiff,if_false,if_true,Nat.add_zero,reduceIte] at *
   omega
 |16,_,h=>
  simp only [stepJ,jSet] at h
  obtain⟨t,l1,h1,h⟩:=thnE h
  obtain⟨t5,l5,h5,h⟩:=thnE h
  obtain⟨n2,l2,h2,h⟩:=bndE h
  obtain⟨t3,l3,h3,h⟩:=thnE h
  obtain⟨rfl,rfl⟩:=okE h
  have a1:=pNm_len h1
  have a5:=pSg_len h5
  have a2:=ih 0 0 [] l5 d n2 l2 ⟨by decide,by omega⟩ h2
  have a3:=pSg_len h3
  try simp only [twoJ,szL,nd0,szL_app,szL_map,Nat.reduceEqDiff,if_false,if_true,Nat.add_zero,reduceIte] at *
  omega
 |17,_,h=>
  simp only [stepJ,jLoop] at h
  obtain⟨n1,l1,h1,h⟩:=bndE h
  obtain⟨rfl,rfl⟩:=okE h
  have a1:=ih 20 0 [] l.tail d n1 l1 ⟨by decide,by omega⟩ h1
  have a0:=tail_le l
  try simp only [twoJ,szL,nd0,szL_app,szL_map,Nat.reduceEqDiff,if_false,if_true,Nat.add_zero,reduceIte] at *
  omega
 |18,_,h=>
  simp only [stepJ,jGive] at h
  split at h
  ·obtain⟨t3,l3,h3,h⟩:=thnE h
   obtain⟨rfl,rfl⟩:=okE h
   have a3:=pSg_len h3
   have a0:=tail_le l
   try simp only [twoJ,szL,nd0,szL_app,szL_map,Nat.reduceEqDiff,if_false,if_true,Nat.add_zero,reduceIte] at *
   omega
  ·obtain⟨n2,l2,h2,h⟩:=bndE h
   obtain⟨t3,l3,h3,h⟩:=thnE h
   obtain⟨rfl,rfl⟩:=okE h
   have a0:=tail_le l
   have a2:=ih 0 0 [] l.tail d n2 l2 ⟨by decide,by omega⟩ h2
   have a3:=pSg_len h3
   try simp only [twoJ,szL,nd0,szL_app,szL_map,Nat.reduceEqDiff,if_false,if_true,Nat.add_zero,reduceIte] at *
   omega
 |19,_,h=>
  simp only [stepJ,jDo] at h
  obtain⟨n2,l2,h2,h⟩:=bndE h
  obtain⟨t3,l3,h3,h⟩:=thnE h
  obtain⟨rfl,rfl⟩:=okE h
  have a2:=ih 0 0 [] l d n2 l2 ⟨by decide,by omega⟩ h2
  have a3:=pSg_len h3
  try simp only [twoJ,szL,nd0,szL_app,szL_map,Nat.reduceEqDiff,if_false,if_true,Nat.add_zero,reduceIte] at *
  omega
 |20,_,h=>
  simp only [stepJ,jGuard] at h
  obtain⟨t,l1,h1,h⟩:=thnE h
  obtain⟨n2,l2,h2,h⟩:=bndE h
  obtain⟨t3,l3,h3,h⟩:=thnE h
  obtain⟨n4,l4,h4,h⟩:=bndE h
  obtain⟨rfl,rfl⟩:=okE h
  have a1:=pSg_len h1
  have a2:=ih 0 0 [] l1 d n2 l2 ⟨by decide,by omega⟩ h2
  have a3:=pSg_len h3
  have a4:=ih 10 0 [] l3 d n4 l4 ⟨by decide,by omega⟩ h4
  try simp only [twoJ,szL,nd0,szL_app,szL_map,Nat.reduceEqDiff,if_false,if_true,Nat.add_zero,reduceIte] at *
  omega
 |21,_,h=>
  simp only [stepJ,jName] at h
  obtain⟨t,l1,h1,h⟩:=thnE h
  have a1:=pNm_len h1
  split at h
  ·obtain⟨n2,l2,h2,h⟩:=bndE h
   obtain⟨rfl,rfl⟩:=okE h
   have a2:=ih 22 1 [] l1 d n2 l2 ⟨by decide,by omega⟩ h2
   try simp only [twoJ,szL,nd0,szL_app,szL_map,Nat.reduceEqDiff,if_false,if_true,Nat.add_zero,reduceIte] at *
   omega
  ·obtain⟨rfl,rfl⟩:=okE h
   try simp only [twoJ,szL,nd0,szL_app,szL_map,Nat.reduceEqDiff,if_false,if_true,Nat.add_zero,reduceIte] at *
   omega
 |22,_,h=>
  simp only [stepJ,jWithin] at h
  obtain⟨t,l1,h1,h⟩:=thnE h
  obtain⟨n2,l2,h2,h⟩:=bndE h
  obtain⟨t3,l3,h3,h⟩:=thnE h
  obtain⟨rfl,rfl⟩:=okE h
  have a1:=ent_len h1
  have a2:=ih 6 x [] l1 (d+1) n2 l2 ⟨by decide,by omega⟩ h2
  have a3:=pSg_len h3
  try simp only [twoJ,szL,nd0,szL_app,szL_map,Nat.reduceEqDiff,if_false,if_true,Nat.add_zero,reduceIte] at *
  omega
 |23,_,h=>
  simp only [stepJ,jGroup] at h
  obtain⟨t,l1,h1,h⟩:=thnE h
  obtain⟨n2,l2,h2,h⟩:=bndE h
  obtain⟨t3,l3,h3,h⟩:=thnE h
  obtain⟨rfl,rfl⟩:=okE h
  have a1:=ent_len h1
  have a2:=ih 0 0 [] l1 (d+1) n2 l2 ⟨by decide,by omega⟩ h2
  have a3:=pSg_len h3
  try simp only [twoJ,szL,nd0,szL_app,szL_map,Nat.reduceEqDiff,if_false,if_true,Nat.add_zero,reduceIte] at *
  omega
 |24,_,h=>
  simp only [stepJ,jReached] at h
  obtain⟨n1,l1,h1,h⟩:=bndE h
  have a1:=ih 5 0 [] l d n1 l1 ⟨by decide,by omega⟩ h1
  have a2:=ih 4 0 n1 l1 d ns l' ⟨by decide,by omega⟩ h
  try simp only [twoJ,szL,nd0,szL_app,szL_map,Nat.reduceEqDiff,if_false,if_true,Nat.add_zero,reduceIte] at *
  omega
 |25,_,h=>
  simp only [stepJ,jParam] at h
  obtain⟨t,l1,h1,h⟩:=thnE h
  obtain⟨rfl,rfl⟩:=okE h
  have a1:=pNm_len h1
  try simp only [twoJ,szL,nd0,szL_app,szL_map,Nat.reduceEqDiff,if_false,if_true,Nat.add_zero,reduceIte] at *
  omega
 |26,_,h=>
  simp only [stepJ,jWord] at h
  obtain⟨t3,l3,h3,h⟩:=thnE h
  obtain⟨rfl,rfl⟩:=okE h
  have a3:=pSg_len h3
  have a0:=tail_le l
  try simp only [twoJ,szL,nd0,szL_app,szL_map,Nat.reduceEqDiff,if_false,if_true,Nat.add_zero,reduceIte] at *
  omega
 |27,hj,h=>exact absurd rfl hj.1
 |j+28,_,h=>cases h
theorem PJ_sz:∀f,SzJ (PJ f)
 |0=>fun j x acc l d ns l' _ h=>by cases h
 |f+1=>step_sz (PJ_sz f)
theorem PJ_len (f j x:Nat) (acc:List Nd) (l:List Tk) (d:Nat) (ns:List Nd) (l':List Tk) (hj:¬j=27∧(j=2∨j=3→1≤x)) (h:PJ f j x [] l d=some (.ok (ns,l'))):ns.length+l'.length+twoJ j≤([]:List Nd).length+l.length:=by
 have h1:=PJ_sz f j x [] l d ns l' hj h
 have h2:=szL_len ns
 simp only [szL,List.length_nil] at h1 ⊢
 omega
theorem part_len {f x:Nat} {l l':List Tk} {d:Nat} {ns:List Nd} (h:jPart (PJ f) x l d=some (.ok (ns,l'))):ns.length+l'.length≤l.length:=by
 have h1:=part_sz (PJ_sz f) h
 have h2:=szL_len ns
 omega
end Go.Proofs.YtilhlmmcdfoaoaaGreatDoor
