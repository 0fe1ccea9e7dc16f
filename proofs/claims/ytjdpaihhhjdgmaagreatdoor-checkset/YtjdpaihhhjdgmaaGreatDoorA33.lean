/-
  Layer 17 (parse): what a function of the reader answers: a node, or a fault that is panicked with; no conditions.
  Layer 17 (parse): what read defers: a fault that was panicked with becomes the answer; no conditions.
-/
import Derived.Test.YtjdpaihhhjdgmaaGreatDoorA32
import Derived.Defers
import Derived.Recover
import Derived.Laws.Pointers
set_option linter.unusedVariables false
set_option linter.unusedSimpArgs false
set_option maxRecDepth 100000
set_option maxHeartbeats 8000000
namespace Go.Proofs.YtjdpaihhhjdgmaaGreatDoor
open Go.RowKit
set_option linter.unusedVariables false
set_option linter.unusedSimpArgs false
def NdP (c:Cx) (w:World) (d:Nat):Rs (List Nd)→Ending→World→Prop
 |.error (a,p),e,w'=>e=fltP a p∧Beside c.g w w'
 |.ok (ns,l),e,w'=>∃(k:Nat) (t:List UInt8) (vk vn:Nat) (vs:List UInt8) (f:Bool) (n:Nat) (ak:Option Addr) (ck p:Nat) (S:List Nat),e=.returned (.agg #[.int .i64 (k:Int),.string (bA t),.int .i64 (vk:Int),.int .i64 (vn:Int),.string (bA vs),.slice none 0 0,.slice none 0 0,.bool f,.slice ak n ck,.int .i64 (p:Int)])∧ns.length=1∧NdOk w.heap.size w' ns (ndC k t vk vn vs f n ak ck p) S∧Rd w' c l d∧Beside c.g w w'
def KsP (c:Cx) (w:World) (d:Nat):Rs (List Nd)→Ending→World→Prop
 |.error (a,p),e,w'=>e=fltP a p∧Beside c.g w w'
 |.ok (ns,l),e,w'=>∃(ak:Option Addr) (ck:Nat) (C:List Value) (S:List Nat),e=.returned (.slice ak ns.length ck)∧Kr w.heap.size w' ns (.slice ak ns.length ck) C S∧Rd w' c l d∧Beside c.g w w'
theorem bnd_some {α β:Type} {x:Option (Rs α)} {k:α→List Tk→Option (Rs β)} {r:Rs β} (h:bnd x k=some r):∃y,x=some y∧thn y k=some r:=by
 cases x with
 |none=>cases h
 |some y=>exact⟨y,rfl,h⟩
theorem thn_err {α β:Type} {e:Nat × Nat} {k:α→List Tk→Option (Rs β)} {r:Rs β} (h:thn (.error e) k=some r):r=.error e:=by cases h;rfl
theorem thn_ok {α β:Type} {a:α} {l:List Tk} {k:α→List Tk→Option (Rs β)} {r:Rs β} (h:thn (.ok (a,l)) k=some r):k a l=some r:=h
theorem okN_some {n:List Nd} {l:List Tk} {r:Rs (List Nd)} (h:okN n l=some r):r=.ok (n,l):=by cases h;rfl
theorem thn_sg {β:Type} {s:List UInt8} {l:List Tk} {k:Tk→List Tk→Option (Rs β)} {r:Rs β} (hs:isS s l=true) (h:thn (pSg s l) k=some r):k (hdT l) l.tail=some r:=by unfold pSg at h;rw [if_pos hs] at h;exact h
theorem thn_sgb {β:Type} {s:List UInt8} {l:List Tk} {k:Tk→List Tk→Option (Rs β)} {r:Rs β} (hs:isS s l=false) (h:thn (pSg s l) k=some r):r=.error (170,(hdT l).p):=by unfold pSg at h;rw [if_neg (by rw [hs];decide)] at h;exact thn_err h
theorem thn_ky {β:Type} {s:List UInt8} {l:List Tk} {k:Tk→List Tk→Option (Rs β)} {r:Rs β} (hs:isK s l=true) (h:thn (pKy s l) k=some r):k (hdT l) l.tail=some r:=by unfold pKy at h;rw [if_pos hs] at h;exact h
theorem thn_kyb {β:Type} {s:List UInt8} {l:List Tk} {k:Tk→List Tk→Option (Rs β)} {r:Rs β} (hs:isK s l=false) (h:thn (pKy s l) k=some r):r=.error (170,(hdT l).p):=by unfold pKy at h;rw [if_neg (by rw [hs];decide)] at h;exact thn_err h
theorem thn_nm {β:Type} {l:List Tk} {k:Tk→List Tk→Option (Rs β)} {r:Rs β} (hs:(hdT l).k=1) (h:thn (pNm l) k=some r):k (hdT l) l.tail=some r:=by unfold pNm at h;rw [if_pos hs] at h;exact h
theorem thn_nmb {β:Type} {l:List Tk} {k:Tk→List Tk→Option (Rs β)} {r:Rs β} (hs:¬(hdT l).k=1) (h:thn (pNm l) k=some r):r=.error (170,(hdT l).p):=by unfold pNm at h;rw [if_neg hs] at h;exact thn_err h
theorem thn_en {β:Type} {s:List UInt8} {d:Nat} {l:List Tk} {k:Tk→List Tk→Option (Rs β)} {r:Rs β} (hs:isS s l=true) (hd:d<24) (h:thn (ent s d l) k=some r):k (hdT l) l.tail=some r:=by unfold ent at h;rw [if_pos hs,if_neg (by omega)] at h;exact h
theorem thn_enb {β:Type} {s:List UInt8} {d:Nat} {l:List Tk} {k:Tk→List Tk→Option (Rs β)} {r:Rs β} (hs:isS s l=false) (h:thn (ent s d l) k=some r):r=.error (170,(hdT l).p):=by unfold ent at h;rw [if_neg (by rw [hs];decide)] at h;exact thn_err h
theorem thn_end {β:Type} {s:List UInt8} {d:Nat} {l:List Tk} {k:Tk→List Tk→Option (Rs β)} {r:Rs β} (hs:isS s l=true) (hd:d=24) (h:thn (ent s d l) k=some r):r=.error (171,(hdT l).p):=by unfold ent at h;rw [if_pos hs,if_pos hd] at h;exact thn_err h
theorem Kr.mk' {lo:Nat} {u:World} {ks:List Nd} {C:List Value} {S:List Nat} (h:NdOk lo u ks C S) (hn:ks.length≤10000):Kr lo (u.alloc (.cells C.toArray 28)) ks (.slice (some ⟨u.heap.size,0,none⟩) ks.length ks.length) C S:=by
 have b:Below u.heap.size u (u.alloc (.cells C.toArray 28)):=(Below.refl _ _).alloc (Nat.le_refl _) _
 refine⟨⟨IsNL.len ks C S h.nl,.inr ⟨u.heap.size,ks.length,C.toArray,rfl,h.le,heap_alloc_new _ _,Nat.le_refl _,by unfold maxLen;omega,by simpa using IsNL.len ks C S h.nl,?_⟩⟩,h.to (fun x _ h2 _=>b.block x h2) b.size,fun x hx hm=>?_⟩
 ·rw [List.take_of_length_le (by have:=IsNL.len ks C S h.nl;simpa using Nat.le_of_eq this)]
 ·have:=(h.rg x hm).2
  have e:u.heap.size=x:=by simpa [Value.ownBlock] using hx
  omega
theorem Kr.node' {lo m:Nat} {w:World} {ks:List Nd} {ak:Option Addr} {ck:Nat} {C:List Value} {S:List Nat} (h:Kr lo w ks (.slice ak m ck) C S) (hm:ks.length=m) (k:Nat) (t:List UInt8) (vk vn:Nat) (vs:List UInt8) (f:Bool) (p:Nat) :
  NdOk lo w [⟨k,t,vk,vn,vs,f,ks,p⟩] (ndC k t vk vn vs f m ak ck p) (blkO ak++S):=by
 subst hm
 exact h.node k t vk vn vs f p
theorem Kr.but2 {lo q:Nat} {w w':World} {ks:List Nd} {v:Value} {C:List Value} {S:List Nat} (h:Kr lo w ks v C S) (hw:∀b,b<w.heap.size→b≠q→w'.heap[b]?=w.heap[b]?) (hs:w.heap.size≤w'.heap.size) (h1:q∉S) (h2:v.ownBlock≠some q):Kr lo w' ks v C S:=
 ⟨own_at h.own (fun b hv=>hw b (h.own.lt b hv).2 (fun e=>h2 (by rw [←e];exact hv))),h.ok.to (fun b _ hb hm=>hw b hb (fun e=>h1 (by rw [←e];exact hm))) hs,h.apart⟩
theorem Kr.fresh {lo q:Nat} {w:World} {ks:List Nd} {v:Value} {C:List Value} {S:List Nat} (h:Kr lo w ks v C S) (hq:w.heap.size=q):q∉S∧v.ownBlock≠some q:=
 ⟨fun hm=>by have:=(h.ok.rg _ hm).2;omega,fun hv=>by have:=(h.own.lt _ hv).2;omega⟩
theorem NdOk.fresh {lo q:Nat} {w:World} {ks:List Nd} {C:List Value} {S:List Nat} (h:NdOk lo w ks C S) (hq:w.heap.size=q):q∉S:=fun hm=>by have:=(h.rg _ hm).2;omega
theorem own_ne {q r n m:Nat} (h:q<r):(Value.slice (some ⟨r,0,none⟩) n m).ownBlock≠some q:=fun e=>by
 have:r=q:=by simpa [Value.ownBlock] using e
 omega
theorem NdOk.but {lo q:Nat} {w w':World} {ks:List Nd} {C:List Value} {S:List Nat} (h:NdOk lo w ks C S) (hw:∀b,b<w.heap.size→b≠q→w'.heap[b]?=w.heap[b]?) (hs:w.heap.size≤w'.heap.size) (h1:q∉S):NdOk lo w' ks C S:=
 h.to (fun b _ hb hm=>hw b hb (fun e=>h1 (by rw [←e];exact hm))) hs
theorem bx_go {g Q:Nat} {u u':World} {c:Array Value} {T:TypeId} (h:Hid (u.heap[Q]?=some (.cells c T (0,0)))) (b:Beside g u u') (hq:g<Q):Hid (u'.heap[Q]?=some (.cells c T (0,0))):=
 hZ ((b.block Q (Array.getElem?_eq_some_iff.1 (uZ h)).1 (by omega)).trans (uZ h))
theorem bx_be {Q:Nat} {u u':World} {c:Array Value} {T:TypeId} (h:Hid (u.heap[Q]?=some (.cells c T (0,0)))) (b:Below u.heap.size u u'):Hid (u'.heap[Q]?=some (.cells c T (0,0))):=
 hZ ((b.block Q (Array.getElem?_eq_some_iff.1 (uZ h)).1).trans (uZ h))
theorem bx_ne {Q q f:Nat} {u:World} {c:Array Value} {T:TypeId} {v:Value} (h:Hid (u.heap[Q]?=some (.cells c T (0,0)))) (hq:Q≠q):Hid ((u.setCell ⟨q,f,none⟩ v).heap[Q]?=some (.cells c T (0,0))):=
 hZ (by rw [heap_setCell_other _ _ _ _ hq];exact uZ h)
theorem St.done {w:World} {c:Cx} {G:Nat} {x0 x1 x2 x3 x4 x5 x6 x7 x8 x9:Value} {u:World} {l:List Tk} {d:Nat} (h:St w c 28 #[x0,x1,x2,x3,x4,x5,x6,x7,x8,x9] u l d) {ns:List Nd} {k:Nat} {t:List UInt8} {vk vn:Nat} {vs:List UInt8} {f:Bool} {n:Nat} {ak:Option Addr} {ck p:Nat} {S:List Nat} (hk:NdOk (w.heap.size+1) u ns (ndC k t vk vn vs f n ak ck p) S) (hn:ns.length=1) (hG:w.heap.size=G) :
  ((((((((((u.setCell ⟨G,0,none⟩ (.int .i64 (k:Int))).setCell ⟨G,1,none⟩ (.string (bA t))).setCell ⟨G,2,none⟩ (.int .i64 (vk:Int))).setCell ⟨G,3,none⟩ (.int .i64 (vn:Int))).setCell ⟨G,4,none⟩ (.string (bA vs))).setCell ⟨G,5,none⟩ (.slice none 0 0)).setCell ⟨G,6,none⟩ (.slice none 0 0)).setCell ⟨G,7,none⟩ (.bool f)).setCell ⟨G,8,none⟩ (.slice ak n ck)).setCell ⟨G,9,none⟩ (.int .i64 (p:Int))).heap[G]?=some (.cells #[.int .i64 (k:Int),.string (bA t),.int .i64 (vk:Int),.int .i64 (vn:Int),.string (bA vs),.slice none 0 0,.slice none 0 0,.bool f,.slice ak n ck,.int .i64 (p:Int)] 28 (0,0))∧NdP c w d (.ok (ns,l)) (.returned (.agg #[.int .i64 (k:Int),.string (bA t),.int .i64 (vk:Int),.int .i64 (vn:Int),.string (bA vs),.slice none 0 0,.slice none 0 0,.bool f,.slice ak n ck,.int .i64 (p:Int)])) ((((((((((u.setCell ⟨G,0,none⟩ (.int .i64 (k:Int))).setCell ⟨G,1,none⟩ (.string (bA t))).setCell ⟨G,2,none⟩ (.int .i64 (vk:Int))).setCell ⟨G,3,none⟩ (.int .i64 (vn:Int))).setCell ⟨G,4,none⟩ (.string (bA vs))).setCell ⟨G,5,none⟩ (.slice none 0 0)).setCell ⟨G,6,none⟩ (.slice none 0 0)).setCell ⟨G,7,none⟩ (.bool f)).setCell ⟨G,8,none⟩ (.slice ak n ck)).setCell ⟨G,9,none⟩ (.int .i64 (p:Int))):=by
 subst hG
 obtain⟨h1,h2,h3,h4,h5⟩:=h.fin (.int .i64 (k:Int)) (.string (bA t)) (.int .i64 (vk:Int)) (.int .i64 (vn:Int)) (.string (bA vs)) (.slice none 0 0) (.slice none 0 0) (.bool f) (.slice ak n ck) (.int .i64 (p:Int))
 exact⟨h1,k,t,vk,vn,vs,f,n,ak,ck,p,S,rfl,hn,(hk.to (fun b hb1 hb2 _=>h4 b (by omega)) (Nat.le_of_eq h5.symm)).low (Nat.le_succ _),h2,h3⟩
theorem St.own10 {w:World} {c:Cx} {T:TypeId} {z:Array Value} {u:World} {l:List Tk} {d:Nat} (h:St w c T z u l d) {q:Nat} (hq:w.heap.size<q) (v0 v1 v2 v3 v4 v5 v6 v7 v8 v9:Value) :
  St w c T z ((((((((((u.setCell ⟨q,0,none⟩ v0).setCell ⟨q,1,none⟩ v1).setCell ⟨q,2,none⟩ v2).setCell ⟨q,3,none⟩ v3).setCell ⟨q,4,none⟩ v4).setCell ⟨q,5,none⟩ v5).setCell ⟨q,6,none⟩ v6).setCell ⟨q,7,none⟩ v7).setCell ⟨q,8,none⟩ v8).setCell ⟨q,9,none⟩ v9) l d∧(∀b,b≠q→((((((((((u.setCell ⟨q,0,none⟩ v0).setCell ⟨q,1,none⟩ v1).setCell ⟨q,2,none⟩ v2).setCell ⟨q,3,none⟩ v3).setCell ⟨q,4,none⟩ v4).setCell ⟨q,5,none⟩ v5).setCell ⟨q,6,none⟩ v6).setCell ⟨q,7,none⟩ v7).setCell ⟨q,8,none⟩ v8).setCell ⟨q,9,none⟩ v9).heap[b]?=u.heap[b]?)∧((((((((((u.setCell ⟨q,0,none⟩ v0).setCell ⟨q,1,none⟩ v1).setCell ⟨q,2,none⟩ v2).setCell ⟨q,3,none⟩ v3).setCell ⟨q,4,none⟩ v4).setCell ⟨q,5,none⟩ v5).setCell ⟨q,6,none⟩ v6).setCell ⟨q,7,none⟩ v7).setCell ⟨q,8,none⟩ v8).setCell ⟨q,9,none⟩ v9).heap.size=u.heap.size:=by
 refine⟨((((((((((h.own q 0 _ hq).own q 1 _ hq).own q 2 _ hq).own q 3 _ hq).own q 4 _ hq).own q 5 _ hq).own q 6 _ hq).own q 7 _ hq).own q 8 _ hq).own q 9 _ hq),fun b hb=>?_,by simp⟩
 rw [heap_setCell_other _ _ _ _ hb,heap_setCell_other _ _ _ _ hb,heap_setCell_other _ _ _ _ hb,heap_setCell_other _ _ _ _ hb,heap_setCell_other _ _ _ _ hb,heap_setCell_other _ _ _ _ hb,heap_setCell_other _ _ _ _ hb,heap_setCell_other _ _ _ _ hb,heap_setCell_other _ _ _ _ hb,heap_setCell_other _ _ _ _ hb]
theorem NdOk.leaf {lo:Nat} {w:World} (hl:lo≤w.heap.size) (k:Nat) (t:List UInt8) (vk vn:Nat) (vs:List UInt8) (f:Bool) (p:Nat):NdOk lo w [⟨k,t,vk,vn,vs,f,[],p⟩] (ndC k t vk vn vs f 0 none 0 p) []:=(Kr.nil hl).node k t vk vn vs f p
theorem as_flt (v:Value) (w:World):(Instr.typeAssert (.iface 81 v) 20 81 false).run Tryz.prog w=.ok v w:=by kernel_rfl
def ndZ:Array Value:=#[.int .i64 0,.string ⟨#[]⟩,.int .i64 0,.int .i64 0,.string ⟨#[]⟩,.slice none 0 0,.slice none 0 0,.bool false,.slice none 0 0,.int .i64 0]
structure B3 (g:Nat) (n:Array Value) (p c:Int) (w:World):Prop where
 b0:w.heap[g]?=some (.cells n 28 (0,0))
 b1:w.heap[g+1]?=some (.cells #[.int .i64 p] 3 (0,0))
 b2:w.heap[g+2]?=some (.cells #[.int .i64 c] 30 (0,0))
theorem B3.drew {g:Nat} {n:Array Value} {p c:Int} {w:World} (h:B3 g n p c w):B3 g n p c w.drew:=⟨h.b0,h.b1,h.b2⟩
theorem b3_set {g:Nat} {x0 x1 x2 x3 x4 x5 x6 x7 x8 x9:Value} {p0 c0:Int} {w1:World} (h:B3 g #[x0,x1,x2,x3,x4,x5,x6,x7,x8,x9] p0 c0 w1) (v0 v1 v2 v3 v4 v5 v6 v7 v8 v9:Value) (q c:Int) :
  B3 g #[v0,v1,v2,v3,v4,v5,v6,v7,v8,v9] q c ((((((((((((w1.setCell ⟨g,0,none⟩ v0).setCell ⟨g,1,none⟩ v1).setCell ⟨g,2,none⟩ v2).setCell ⟨g,3,none⟩ v3).setCell ⟨g,4,none⟩ v4).setCell ⟨g,5,none⟩ v5).setCell ⟨g,6,none⟩ v6).setCell ⟨g,7,none⟩ v7).setCell ⟨g,8,none⟩ v8).setCell ⟨g,9,none⟩ v9).setCell ⟨g+1,0,none⟩ (.int .i64 q)).setCell ⟨g+2,0,none⟩ (.int .i64 c)):=by
 have P0:=set10 h.b0 v0 v1 v2 v3 v4 v5 v6 v7 v8 v9
 have P1:∀b,b≠g→((((((((((w1.setCell ⟨g,0,none⟩ v0).setCell ⟨g,1,none⟩ v1).setCell ⟨g,2,none⟩ v2).setCell ⟨g,3,none⟩ v3).setCell ⟨g,4,none⟩ v4).setCell ⟨g,5,none⟩ v5).setCell ⟨g,6,none⟩ v6).setCell ⟨g,7,none⟩ v7).setCell ⟨g,8,none⟩ v8).setCell ⟨g,9,none⟩ v9).heap[b]?=w1.heap[b]?:=fun b hb=>by
  iterate 10 rw [heap_setCell_other _ _ _ _ hb]
 generalize ((((((((((w1.setCell ⟨g,0,none⟩ v0).setCell ⟨g,1,none⟩ v1).setCell ⟨g,2,none⟩ v2).setCell ⟨g,3,none⟩ v3).setCell ⟨g,4,none⟩ v4).setCell ⟨g,5,none⟩ v5).setCell ⟨g,6,none⟩ v6).setCell ⟨g,7,none⟩ v7).setCell ⟨g,8,none⟩ v8).setCell ⟨g,9,none⟩ v9)=u at P0 P1 ⊢
 have D1:=(P1 (g+1) (by omega)).trans h.b1
 have D2:=(P1 (g+2) (by omega)).trans h.b2
 refine⟨?_,?_,?_⟩
 ·rw [heap_setCell_other _ _ _ _ (show g≠g+2 by omega),heap_setCell_other _ _ _ _ (show g≠g+1 by omega)]
  exact P0
 ·rw [heap_setCell_other _ _ _ _ (show g+1≠g+2 by omega),heap_setCell_same _ (g+1) 0 _ _ _ D1]
  rfl
 ·have D3:(u.setCell ⟨g+1,0,none⟩ (.int .i64 q)).heap[g+2]?=some (.cells #[.int .i64 c0] 30 (0,0)):=by rw [heap_setCell_other _ _ _ _ (show g+2≠g+1 by omega)];exact D2
  rw [heap_setCell_same _ (g+2) 0 _ _ _ D3]
  rfl
theorem b3_oth {g:Nat} {w1:World} (v0 v1 v2 v3 v4 v5 v6 v7 v8 v9 y z:Value):(∀b,b≠g→b≠g+1→b≠g+2→((((((((((((w1.setCell ⟨g,0,none⟩ v0).setCell ⟨g,1,none⟩ v1).setCell ⟨g,2,none⟩ v2).setCell ⟨g,3,none⟩ v3).setCell ⟨g,4,none⟩ v4).setCell ⟨g,5,none⟩ v5).setCell ⟨g,6,none⟩ v6).setCell ⟨g,7,none⟩ v7).setCell ⟨g,8,none⟩ v8).setCell ⟨g,9,none⟩ v9).setCell ⟨g+1,0,none⟩ y).setCell ⟨g+2,0,none⟩ z).heap[b]?=w1.heap[b]?)∧Below g w1 ((((((((((((w1.setCell ⟨g,0,none⟩ v0).setCell ⟨g,1,none⟩ v1).setCell ⟨g,2,none⟩ v2).setCell ⟨g,3,none⟩ v3).setCell ⟨g,4,none⟩ v4).setCell ⟨g,5,none⟩ v5).setCell ⟨g,6,none⟩ v6).setCell ⟨g,7,none⟩ v7).setCell ⟨g,8,none⟩ v8).setCell ⟨g,9,none⟩ v9).setCell ⟨g+1,0,none⟩ y).setCell ⟨g+2,0,none⟩ z):=by
 refine⟨fun b h0 h1 h2=>?_,?_⟩
 ·rw [heap_setCell_other _ _ _ _ h2,heap_setCell_other _ _ _ _ h1]
  iterate 10 rw [heap_setCell_other _ _ _ _ h0]
 ·have e:∀(x:World) (b f:Nat) (v:Value),g≤b→Below g w1 x→Below g w1 (x.setCell ⟨b,f,none⟩ v):=fun x b f v hb hx=>hx.setCell (p:=⟨b,f,none⟩) hb v
  refine e _ _ _ _ (by omega) (e _ _ _ _ (by omega) ?_)
  iterate 10 refine e _ _ _ _ (Nat.le_refl _) ?_
  exact Below.refl _ _
theorem catch_flt (g:Nat) (x0 x1 x2 x3 x4 x5 x6 x7 x8 x9:Value) (p0 c0:Int) (c q:Int) (older:List PanicEntry) (w:World) (h:B3 g #[x0,x1,x2,x3,x4,x5,x6,x7,x8,x9] p0 c0 w) :
  CallsD Tryz.prog 35 #[.pointer (some ⟨g,0,none⟩),.pointer (some ⟨g+1,0,none⟩),.pointer (some ⟨g+2,0,none⟩)] (.panicking ({ v:=.iface 81 (.agg #[.int .i64 c,.int .i64 q]),recovered:=false } :: older)) w fun e u' w'=>
   e=.returned (.tuple #[])∧u'=.panicking ({ v:=.iface 81 (.agg #[.int .i64 c,.int .i64 q]),recovered:=true } :: older)∧B3 g ndZ q c w'∧Below g w w':=by
 obtain⟨G,hG⟩:=eX (w.heap.size)
 have z0:g<G:=by rw [←hG];exact(Array.getElem?_eq_some_iff.1 h.b0).1
 have z1:g+1<G:=by rw [←hG];exact(Array.getElem?_eq_some_iff.1 h.b1).1
 have z2:g+2<G:=by rw [←hG];exact(Array.getElem?_eq_some_iff.1 h.b2).1
 refine callsD_of_wpS Tryz.func35 rfl fun c₀ cs hu=>?_
 apply wpS_seq
 apply wpS_region
 simp [wpOpsS,go_sem,recoverD,hu,Tryz.ntmps35,Exit.thenS]
 apply wpS_seq
 apply wpS_region
 simp [wpOpsS,go_sem,Exit.thenS,Array.replicate]
 refine wpS_cond (t:=true) (by simp [Act.eval]) ?_
 simp only [if_true]
 apply wpS_seq
 apply wpS_region
 simp [wpOpsS,go_sem,as_flt,Exit.thenS]
 obtain⟨w1,hw1⟩:=eX (w.alloc (.cells #[.int .i64 c,.int .i64 q] 81))
 have A1:=(al1 hw1 hG).1
 have B1:=alB hw1
 have D0:=(B1.block g (by omega)).trans h.b0
 have D1:=(B1.block (g+1) (by omega)).trans h.b1
 have D2:=(B1.block (g+2) (by omega)).trans h.b2
 rw [hw1,hG]
 have a0:w1.cell? ⟨G,0,none⟩=some (.int .i64 c):=by simp [World.cell?,A1]
 have a1:w1.cell? ⟨G,1,none⟩=some (.int .i64 q):=by simp [World.cell?,A1]
 obtain⟨e0,e1,e2,e3,e4,e5,e6,e7,e8,e9⟩:=row_cell10 D0
 obtain⟨f0,f1,f2,f3,f4,f5,f6,f7,f8,f9⟩:=frozen10 D0
 have k1:w1.cell? ⟨g+1,0,none⟩=some (.int .i64 p0):=by simp [World.cell?,D1]
 have k2:w1.cell? ⟨g+2,0,none⟩=some (.int .i64 c0):=by simp [World.cell?,D2]
 have m1:=frozen_of_row w1 (g+1) 0 _ _ D1
 have m2:=frozen_of_row w1 (g+2) 0 _ _ D2
 have HD:=hZ (And.intro D0 (And.intro D1 (And.intro D2 B1)))
 have HZ:=hZ (And.intro z0 (And.intro z1 (And.intro z2 hG)))
 clear D0 D1 D2 A1 B1 h hw1
 refine wpS_of_wp ?_
 go_region
 obtain⟨D0,D1,D2,B1⟩:=uZ HD
 clear HD HZ
 simp [bodyPostS,results,Tryz.results35]
 have b3:Below g w w1:=⟨B1.os,B1.tape,B1.output,B1.size,fun k hk=>B1.block k (by omega)⟩
 exact⟨(b3_set ⟨D0,D1,D2⟩ _ _ _ _ _ _ _ _ _ _ _ _).drew,(b3.trans (b3_oth _ _ _ _ _ _ _ _ _ _ _ _).2).drew⟩
theorem catch_none (g:Nat) (w:World) :
  CallsD Tryz.prog 35 #[.pointer (some ⟨g,0,none⟩),.pointer (some ⟨g+1,0,none⟩),.pointer (some ⟨g+2,0,none⟩)] .returning w fun e u' w'=>e=.returned (.tuple #[])∧u'=.returning∧w'=w:=by
 refine callsD_of_wpS Tryz.func35 rfl fun c₀ cs hu=>?_
 apply wpS_seq
 apply wpS_region
 simp [wpOpsS,go_sem,recoverD,hu,Tryz.ntmps35,Exit.thenS]
 apply wpS_seq
 apply wpS_region
 simp [wpOpsS,go_sem,Exit.thenS,Array.replicate]
 refine wpS_cond (t:=false) (by simp [Act.eval]) ?_
 simp only [Bool.false_eq_true,if_false]
 refine wpS_of_wp (wp_skip ?_)
 cases c₀
 simp_all [bodyPostS,results,Tryz.results35]
end Go.Proofs.YtjdpaihhhjdgmaaGreatDoor
