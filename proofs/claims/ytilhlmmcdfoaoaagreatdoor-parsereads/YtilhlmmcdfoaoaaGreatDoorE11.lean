/-
  Layer 17 (parse): a row of nodes grows; fields of a token in a drawn region; no conditions.
  Layer 17 (parse): the state while a function without a box for its result runs; no conditions.
  Layer 17 (parse): the state of the document's reader in memory; no conditions.
-/
import Derived.Test.YtilhlmmcdfoaoaaGreatDoorE10
import Derived.Deep.AppendLies
import Derived.Test.YtilhlmmcdfoaoaaGreatDoorE00
set_option linter.unusedVariables false
set_option linter.unusedSimpArgs false
namespace Go.Proofs.YtilhlmmcdfoaoaaGreatDoor
open Go.RowKit
set_option linter.unusedVariables false
set_option linter.unusedSimpArgs false
theorem infoNd:(Tryz.prog.info? 29).map (fun i=>(i.zero,i.size,i.bytes))=some (some (.agg #[.int .i64 0,.string ⟨#[]⟩,.int .i64 0,.int .i64 0,.string ⟨#[]⟩,.slice none 0 0,.slice none 0 0,.bool false,.slice none 0 0,.int .i64 0]),10,144):=by kernel_rfl
theorem info_nd:∃i,Tryz.prog.info? 29=some i∧i.zero=some (.agg #[.int .i64 0,.string ⟨#[]⟩,.int .i64 0,.int .i64 0,.string ⟨#[]⟩,.slice none 0 0,.slice none 0 0,.bool false,.slice none 0 0,.int .i64 0])∧i.size=10∧i.bytes=144:=by
 obtain⟨i,hi,he⟩:=Option.map_eq_some_iff.1 infoNd
 injection he with h1 h2
 injection h2 with h2 h3
 exact⟨i,hi,h1,h2,h3⟩
theorem Kr.push {lo lo2:Nat} {u u':World} {ks ns:List Nd} {v:Value} {C C2:List Value} {S S2:List Nat} {g cap m:Nat} (h:Kr lo u ks v C S) (h2:NdOk lo2 u ns C2 S2) (hll:lo≤lo2) (hS:∀b∈S,b<lo2) (hv:∀b,v.ownBlock=some b→b<lo2)
  (ho:u'.ownsRow lo 29 10 (.slice (some ⟨g,0,none⟩) m cap) m (C++C2)) (hm:(ks++ns).length=m) (hg:u.grownBy u' v.ownBlock) (hat:v.ownBlock=some g∨g=u.heap.size):Kr lo u' (ks++ns) (.slice (some ⟨g,0,none⟩) m cap) (C++C2) (S++S2):=by
 have k1:NdOk lo u' ks C S:=h.ok.to (fun b _ hb hm=>hg.block b hb (fun e=>h.apart b e.symm hm)) hg.size
 have k2:NdOk lo2 u' ns C2 S2:=h2.to (fun b hb1 hb _=>hg.block b hb (fun e=>by have:=hv b e.symm;omega)) hg.size
 refine⟨by rw [hm];exact ho,k1.app hS k2 hll,fun b hb hmem=>?_⟩
 have hbg:b=g:=by
  have:g=b:=by simpa [Value.ownBlock] using hb
  exact this.symm
 subst hbg
 rcases hat with hat|hat
 ·rcases List.mem_append.1 hmem with hx|hx
  ·exact h.apart b hat hx
  ·have:=hv b hat
   have:=(h2.rg b hx).1
   omega
 ·rcases List.mem_append.1 hmem with hx|hx
  ·have:=(h.ok.rg b hx).2
   omega
  ·have:=(h2.rg b hx).2
   omega
theorem Kr.vlt {lo q:Nat} {w:World} {ks:List Nd} {v:Value} {C:List Value} {S:List Nat} (h:Kr lo w ks v C S) (hq:w.heap.size=q):(∀b,v.ownBlock=some b→b<q)∧∀b∈S,b<q:=
 ⟨fun b hb=>by rw [←hq];exact(h.own.lt b hb).2,fun b hb=>by rw [←hq];exact(h.ok.rg b hb).2⟩
theorem PJ_fuel {f j x d:Nat} {acc:List Nd} {l:List Tk} {r:Rs (List Nd)} (h:PJ f j x acc l d=some r):∃g,f=g+1:=by
 cases f with
 |zero=>cases h
 |succ g=>exact⟨g,rfl⟩
theorem step_tk3 {ops:Array Oper} {o:Oper} {a:Act} {w:World} {K:Act→World→Prop} {Q:Exit→Act→World→Prop} {E:Prop} (hgd:o.guard=none) (x:Operand) (ho:o.op=.field 52 x 3) (y0 y1 y2 y3:Value) (hx:a.eval x=.agg #[y0,y1,y2,y3]) (h:K (a.put o.dst y3) w) :
  if Region.wanted o (yielded ops a.tmps)=true then Oper.wp Tryz.prog o a w K Q else E:=by
 have hw:Region.wanted o (yielded ops a.tmps)=true:=by simp [Region.wanted,hgd]
 rw [if_pos hw]
 have hr:=run_tk3 y0 y1 y2 y3 w
 unfold Oper.wp
 simp [execOp,ho,hx,hr,Result.andThen]
 exact h
theorem step_tk1 {ops:Array Oper} {o:Oper} {a:Act} {w:World} {K:Act→World→Prop} {Q:Exit→Act→World→Prop} {E:Prop} (hgd:o.guard=none) (x:Operand) (ho:o.op=.field 52 x 1) (y0 y1 y2 y3:Value) (hx:a.eval x=.agg #[y0,y1,y2,y3]) (h:K (a.put o.dst y1) w) :
  if Region.wanted o (yielded ops a.tmps)=true then Oper.wp Tryz.prog o a w K Q else E:=by
 have hw:Region.wanted o (yielded ops a.tmps)=true:=by simp [Region.wanted,hgd]
 rw [if_pos hw]
 have hr:=run_tk1 y0 y1 y2 y3 w
 unfold Oper.wp
 simp [execOp,ho,hx,hr,Result.andThen]
 exact h
theorem Rd.two {w w':World} {c:Cx} {l:List Tk} {d:Nat} (h:Rd w c l d) (hg:w'.heap[c.g]?=w.heap[c.g]?) (ht:w'.heap[c.tb]?=w.heap[c.tb]?) (hs:w.heap.size≤w'.heap.size):Rd w' c l d:=by
 refine⟨hg.trans h.box,h.suf,h.ne,fun i t hti=>?_,h.apart,h.cap,h.len,h.low,h.fin⟩
 obtain⟨b,e,h1,h2,h3,h4,h5⟩:=h.row i t hti
 injection e with e0
 injection e0 with e0
 subst e0
 exact⟨c.tb,rfl,Nat.lt_of_lt_of_le h1 hs,(World.cell?_of_block ht).trans h2,(World.cell?_of_block ht).trans h3,(World.cell?_of_block ht).trans h4,(World.cell?_of_block ht).trans h5⟩
theorem St.below2 {w:World} {c:Cx} {T:TypeId} {z:Array Value} {u u':World} {l:List Tk} {d B:Nat} (h:St w c T z u l d) (b:Below B u u') (hB:w.heap.size<B):St w c T z u' l d:=
 ⟨h.rd.two (b.block _ (by have:=h.g1;omega)) (b.block _ (by have:=h.t1;omega)) b.size,⟨b.os.trans h.bs.os,b.tape.trans h.bs.tape,b.output.trans h.bs.output,Nat.le_trans h.bs.size b.size,fun k hk hn=>(b.block k (by omega)).trans (h.bs.block k hk hn)⟩,(b.block _ hB).trans h.bx,h.g1,h.t1⟩
theorem ndC_one (k:Nat) (t:List UInt8) (vk vn:Nat) (vs:List UInt8) (f:Bool) (n:Nat) (ak:Option Addr) (ck p:Nat):∀u∈ndC k t vk vn vs f n ak ck p,u.oneCell'=true:=by
 intro u hu
 simp only [ndC,List.mem_cons,List.not_mem_nil,or_false] at hu
 rcases hu with rfl|rfl|rfl|rfl|rfl|rfl|rfl|rfl|rfl|rfl <;> rfl
structure St0 (w:World) (c:Cx) (u:World) (l:List Tk) (d:Nat):Prop where
 rd:Rd u c l d
 bs:Beside c.g w u
 g1:c.g<w.heap.size
 t1:c.tb<w.heap.size
theorem St0.start {w w1:World} {c:Cx} {l:List Tk} {d:Nat} (e:w=w1) (h:Rd w1 c l d):St0 w c w1 l d:=by
 subst e
 exact⟨h,Beside.refl _ _,h.cells.2.2.2.2.2,h.tok.1⟩
theorem St0.lt {w:World} {c:Cx} {u:World} {l:List Tk} {d:Nat} (h:St0 w c u l d):w.heap.size≤u.heap.size:=h.bs.size
theorem St0.go {w:World} {c:Cx} {u u':World} {l l':List Tk} {d d':Nat} (h:St0 w c u l d) (b:Beside c.g u u') (r:Rd u' c l' d'):St0 w c u' l' d':=⟨r,h.bs.trans b,h.g1,h.t1⟩
theorem St0.below {w:World} {c:Cx} {u u':World} {l:List Tk} {d:Nat} (h:St0 w c u l d) (b:Below u.heap.size u u'):St0 w c u' l d:=h.go (Beside.of_below b) (h.rd.below b)
theorem St0.bad {w:World} {c:Cx} {u u':World} {l:List Tk} {d:Nat} (h:St0 w c u l d) (b:Beside c.g u u'):Beside c.g w u':=h.bs.trans b
theorem St0.below2 {w:World} {c:Cx} {u u':World} {l:List Tk} {d B:Nat} (h:St0 w c u l d) (b:Below B u u') (hB:w.heap.size≤B):St0 w c u' l d:=
 ⟨h.rd.two (b.block _ (by have:=h.g1;omega)) (b.block _ (by have:=h.t1;omega)) b.size,⟨b.os.trans h.bs.os,b.tape.trans h.bs.tape,b.output.trans h.bs.output,Nat.le_trans h.bs.size b.size,fun k hk hn=>(b.block k (by omega)).trans (h.bs.block k hk hn)⟩,h.g1,h.t1⟩
theorem wpl_appN {w:World} {ops:Array Oper} {rest:List Oper} {o:Oper} {a:Act} {Q:Exit→Act→World→Prop} (hgd:o.guard=none) (s x:Operand) (ho:o.op=.call { callee:=.builtin .append,args:=#[s,x],argTypes:=#[27,27] })
  (base:Nat) (v:Value) (n:Nat) (xs:List Value) (hs:a.eval s=v) (hown:w.ownsRow base 29 10 v n xs) (q:Nat) (cs:Array Value) (hx:a.eval x=.slice (some ⟨q,0,none⟩) 1 1) (hq:w.heap[q]?=some (.cells cs 29 (0,0))) (hl:cs.toList.length=1 * 10) (h1:∀u∈cs.toList,u.oneCell'=true)
  (hn:n+1≤20000) (hbase:base≤w.heap.size)
  (h:∀g cap w',Hid (w'.ownsRow base 29 10 (.slice (some ⟨g,0,none⟩) (n+1) cap) (n+1) (xs++cs.toList)∧w.grownBy w' v.ownBlock∧(v.ownBlock=some g∨g=w.heap.size))→wpList Tryz.prog ops Q rest (a.put o.dst (.slice (some ⟨g,0,none⟩) (n+1) cap)) w'):wpList Tryz.prog ops Q (o :: rest) a w:=by
 obtain⟨ind,hi0,hi1,hi2,hi3⟩:=info_nd
 refine wpList_step fun K hK=>?_
 exact step_append_lies w hgd s x 27 ho base 29 ind _ 10 144 Tryz.underlying27 hi0 hi1 hi2 hi3 rfl (by omega) v n xs hs hown ⟨q,0,none⟩ 1 1 cs.toList hx hl (World.news_of_block hq) h1 (by omega) (by unfold maxLen;omega) (by omega) hbase _ rfl (fun g cap w' a b c _=>hK _ _ (h g cap w' (hZ ⟨a,b,c⟩)))
theorem NdOk.retext {lo:Nat} {w:World} {ns:List Nd} {k:Nat} {t:List UInt8} {vk vn:Nat} {vs:List UInt8} {f:Bool} {n:Nat} {ak:Option Addr} {ck p:Nat} {S:List Nat} (h:NdOk lo w ns (ndC k t vk vn vs f n ak ck p) S) (hl:ns.length=1) (t2:List UInt8) (p2:Nat) :
  NdOk lo w (ns.map fun m=>⟨m.k,t2,m.vk,m.vn,m.vs,m.f,m.ks,p2⟩) (ndC k t2 vk vn vs f n ak ck p2) S:=by
 obtain⟨⟨k',t',vk',vn',vs',f',ks',p'⟩,rfl⟩:=List.length_eq_one_iff.1 hl
 have hn:=h.nl
 simp only [IsNL] at hn
 obtain⟨ak1,ck1,C',R,S1,S2,hC,hS,ho,h1,h2,h3⟩:=hn
 subst h2 h3
 simp only [ndC,List.append_nil,List.cons.injEq,Value.int.injEq,Value.string.injEq,Value.slice.injEq,Value.bool.injEq,true_and,and_true] at hC
 obtain⟨e1,e2,e3,e4,e5,e6,⟨e7,e8,e9⟩,e10⟩:=hC
 refine⟨?_,h.nd,h.rg,h.le⟩
 simp only [List.map_cons,List.map_nil,IsNL]
 exact⟨ak1,ck1,C',[],S1,[],by simp only [ndC,List.append_nil];rw [e1,e3,e4,e5,e6,e7,e8,e9],hS,ho,h1,rfl,rfl⟩
structure Rq (w:World) (c:Cx) (σ:Sg):Prop where
 box:w.heap[c.g]?=some (.cells #[.slice (some ⟨c.tb,0,none⟩) c.ts.length c.ct,.int .i64 (σ.i:Int),.int .i64 σ.o,.int .i64 (σ.e:Int),.int .i64 (σ.a:Int)] 45 (0,0))
 ix:σ.i<c.ts.length
 row:TR w (some ⟨c.tb,0,none⟩) c.ts
 apart:c.tb≠c.g
 cap:c.ts.length≤c.ct
 len:c.ts.length≤10000
theorem tkQ_at {T:List Tk} {σ:Sg} (h:σ.i<T.length):T[σ.i]?=some (tkQ T σ):=by
 unfold tkQ hdT
 rw [List.getElem?_eq_getElem h,←List.getElem_cons_drop h]
 rfl
theorem Rq.cells {w:World} {c:Cx} {σ:Sg} (h:Rq w c σ) :
  w.cell? ⟨c.g,0,none⟩=some (.slice (some ⟨c.tb,0,none⟩) c.ts.length c.ct)∧w.cell? ⟨c.g,1,none⟩=some (.int .i64 (σ.i:Int))∧w.cell? ⟨c.g,2,none⟩=some (.int .i64 σ.o)∧w.cell? ⟨c.g,3,none⟩=some (.int .i64 (σ.e:Int))∧w.cell? ⟨c.g,4,none⟩=some (.int .i64 (σ.a:Int)):=by
 have hb:=h.box
 refine⟨?_,?_,?_,?_,?_⟩ <;> simp [World.cell?,hb]
theorem Rq.frz {w:World} {c:Cx} {σ:Sg} (h:Rq w c σ):w.frozen? ⟨c.g,1,none⟩=false∧w.frozen? ⟨c.g,2,none⟩=false∧w.frozen? ⟨c.g,3,none⟩=false∧w.frozen? ⟨c.g,4,none⟩=false∧c.g<w.heap.size:=
 ⟨frozen_of_row w c.g 1 _ _ h.box,frozen_of_row w c.g 2 _ _ h.box,frozen_of_row w c.g 3 _ _ h.box,frozen_of_row w c.g 4 _ _ h.box,(Array.getElem?_eq_some_iff.1 h.box).1⟩
theorem Rq.tok {w:World} {c:Cx} {σ:Sg} (h:Rq w c σ):c.tb<w.heap.size∧w.cell? ⟨c.tb,σ.i * 4,none⟩=some (.int .i64 ((tkQ c.ts σ).k:Int))∧w.cell? ⟨c.tb,σ.i * 4+1,none⟩=some (.string (bA (tkQ c.ts σ).t))∧w.cell? ⟨c.tb,σ.i * 4+2,none⟩=some (.int .i64 ((tkQ c.ts σ).n:Int))∧w.cell? ⟨c.tb,σ.i * 4+3,none⟩=some (.int .i64 ((tkQ c.ts σ).p:Int)):=by
 obtain⟨b,e,h1,h2⟩:=h.row _ _ (tkQ_at h.ix)
 injection e with e
 injection e with e
 subst e
 exact⟨h1,h2⟩
theorem Rq.below {w w':World} {c:Cx} {σ:Sg} (h:Rq w c σ) (hb:Below w.heap.size w w'):Rq w' c σ:=
 ⟨(hb.block _ h.frz.2.2.2.2).trans h.box,h.ix,h.row.later hb,h.apart,h.cap,h.len⟩
theorem Rq.setN {w:World} {c:Cx} {σ:Sg} {q f:Nat} {v:Value} (h:Rq w c σ) (hq:q≠c.g) (hq2:q≠c.tb):Rq (w.setCell ⟨q,f,none⟩ v) c σ:=by
 have hs:(w.setCell ⟨q,f,none⟩ v).heap.size=w.heap.size:=by simp
 refine⟨by rw [heap_setCell_other _ _ _ _ (Ne.symm hq)];exact h.box,h.ix,fun i t ht=>?_,h.apart,h.cap,h.len⟩
 obtain⟨b,e,h1,h2,h3,h4,h5⟩:=h.row i t ht
 injection e with e0
 injection e0 with e0
 subst e0
 have hh:(w.setCell ⟨q,f,none⟩ v).heap[c.tb]?=w.heap[c.tb]?:=heap_setCell_other _ _ _ _ (Ne.symm hq2)
 exact⟨c.tb,rfl,by rw [hs];exact h1,(World.cell?_of_block hh).trans h2,(World.cell?_of_block hh).trans h3,(World.cell?_of_block hh).trans h4,(World.cell?_of_block hh).trans h5⟩
theorem Rq.set {w:World} {c:Cx} {σ σ':Sg} {f:Nat} {v:Value} (h:Rq w c σ) (hb:(w.setCell ⟨c.g,f,none⟩ v).heap[c.g]?=some (.cells #[.slice (some ⟨c.tb,0,none⟩) c.ts.length c.ct,.int .i64 (σ'.i:Int),.int .i64 σ'.o,.int .i64 (σ'.e:Int),.int .i64 (σ'.a:Int)] 45 (0,0))) (hi:σ'.i<c.ts.length):Rq (w.setCell ⟨c.g,f,none⟩ v) c σ':=by
 refine⟨hb,hi,fun i t ht=>?_,h.apart,h.cap,h.len⟩
 obtain⟨b,e,h1,h2,h3,h4,h5⟩:=h.row i t ht
 injection e with e0
 injection e0 with e0
 subst e0
 have hh:(w.setCell ⟨c.g,f,none⟩ v).heap[c.tb]?=w.heap[c.tb]?:=heap_setCell_other _ _ _ _ h.apart
 exact⟨c.tb,rfl,by simpa using h1,(World.cell?_of_block hh).trans h2,(World.cell?_of_block hh).trans h3,(World.cell?_of_block hh).trans h4,(World.cell?_of_block hh).trans h5⟩
theorem Rq.seti {w:World} {c:Cx} {σ:Sg} (h:Rq w c σ) (j:Nat) (z:Int) (hz:z=(j:Int)) (hj:j<c.ts.length):Rq (w.setCell ⟨c.g,1,none⟩ (.int .i64 z)) c ⟨j,σ.o,σ.e,σ.a⟩:=by
 subst hz
 exact h.set (by rw [heap_setCell_same w c.g 1 _ _ _ h.box];rfl) hj
theorem Rq.seto {w:World} {c:Cx} {σ:Sg} (h:Rq w c σ) (z:Int):Rq (w.setCell ⟨c.g,2,none⟩ (.int .i64 z)) c ⟨σ.i,z,σ.e,σ.a⟩:=
 h.set (by rw [heap_setCell_same w c.g 2 _ _ _ h.box];rfl) h.ix
theorem Rq.sete {w:World} {c:Cx} {σ:Sg} (h:Rq w c σ) (e:Nat) (z:Int) (hz:z=(e:Int)):Rq (w.setCell ⟨c.g,3,none⟩ (.int .i64 z)) c ⟨σ.i,σ.o,e,σ.a⟩:=by
 subst hz
 exact h.set (by rw [heap_setCell_same w c.g 3 _ _ _ h.box];rfl) h.ix
theorem Rq.seta {w:World} {c:Cx} {σ:Sg} (h:Rq w c σ) (a:Nat):Rq (w.setCell ⟨c.g,4,none⟩ (.int .i64 (a:Int))) c ⟨σ.i,σ.o,σ.e,a⟩:=
 h.set (by rw [heap_setCell_same w c.g 4 _ _ _ h.box];rfl) h.ix
theorem Rq.drew {w:World} {c:Cx} {σ:Sg} (h:Rq w c σ):Rq w.drew c σ:=h.below (Below.refl _ _).drew
structure Sq (w:World) (c:Cx) (T:TypeId) (z:Array Value) (u:World) (σ:Sg) (d:Nat):Prop where
 rd:Rq u c σ
 bs:Beside c.g w u
 bx:u.heap[w.heap.size]?=some (.cells z T (0,0))
 g1:c.g<w.heap.size
 t1:c.tb<w.heap.size
theorem Sq.start {w:World} {c:Cx} {σ:Sg} {d:Nat} (h:Rq w c σ) (T:TypeId) (z:Array Value):Sq w c T z (w.alloc (.cells z T)) σ d:=by
 have b:Below w.heap.size w (w.alloc (.cells z T)):=(Below.refl _ _).alloc (Nat.le_refl _) _
 exact⟨h.below b,Beside.of_below b,heap_alloc_new _ _,h.frz.2.2.2.2,h.tok.1⟩
theorem Sq.lt {w:World} {c:Cx} {T:TypeId} {z:Array Value} {u:World} {σ:Sg} {d:Nat} (h:Sq w c T z u σ d):w.heap.size<u.heap.size:=(Array.getElem?_eq_some_iff.1 h.bx).1
theorem Sq.go {w:World} {c:Cx} {T:TypeId} {z:Array Value} {u u':World} {σ σ':Sg} {d d':Nat} (h:Sq w c T z u σ d) (b:Beside c.g u u') (r:Rq u' c σ'):Sq w c T z u' σ' d':=
 ⟨r,h.bs.trans b,(b.block _ h.lt (by have:=h.g1;omega)).trans h.bx,h.g1,h.t1⟩
theorem Sq.below {w:World} {c:Cx} {T:TypeId} {z:Array Value} {u u':World} {σ:Sg} {d:Nat} (h:Sq w c T z u σ d) (b:Below u.heap.size u u'):Sq w c T z u' σ d:=
 h.go (Beside.of_below b) (h.rd.below b)
theorem Sq.own {w:World} {c:Cx} {T:TypeId} {z:Array Value} {u:World} {σ:Sg} {d:Nat} (h:Sq w c T z u σ d) (q f:Nat) (v:Value) (hq:w.heap.size<q):Sq w c T z (u.setCell ⟨q,f,none⟩ v) σ d:=
 ⟨h.rd.setN (by have:=h.g1;omega) (by have:=h.t1;omega),h.bs.setN (by omega),by rw [heap_setCell_other _ _ _ _ (show w.heap.size≠q by omega)];exact h.bx,h.g1,h.t1⟩
theorem Sq.fin {w:World} {c:Cx} {x0 x1 x2 x3 x4 x5 x6 x7 x8 x9:Value} {T:TypeId} {u:World} {σ:Sg} {d:Nat} (h:Sq w c T #[x0,x1,x2,x3,x4,x5,x6,x7,x8,x9] u σ d) (v0 v1 v2 v3 v4 v5 v6 v7 v8 v9:Value) :
  ((((((((((u.setCell ⟨w.heap.size,0,none⟩ v0).setCell ⟨w.heap.size,1,none⟩ v1).setCell ⟨w.heap.size,2,none⟩ v2).setCell ⟨w.heap.size,3,none⟩ v3).setCell ⟨w.heap.size,4,none⟩ v4).setCell ⟨w.heap.size,5,none⟩ v5).setCell ⟨w.heap.size,6,none⟩ v6).setCell ⟨w.heap.size,7,none⟩ v7).setCell ⟨w.heap.size,8,none⟩ v8).setCell ⟨w.heap.size,9,none⟩ v9).heap[w.heap.size]?=some (.cells #[v0,v1,v2,v3,v4,v5,v6,v7,v8,v9] T (0,0))∧Rq ((((((((((u.setCell ⟨w.heap.size,0,none⟩ v0).setCell ⟨w.heap.size,1,none⟩ v1).setCell ⟨w.heap.size,2,none⟩ v2).setCell ⟨w.heap.size,3,none⟩ v3).setCell ⟨w.heap.size,4,none⟩ v4).setCell ⟨w.heap.size,5,none⟩ v5).setCell ⟨w.heap.size,6,none⟩ v6).setCell ⟨w.heap.size,7,none⟩ v7).setCell ⟨w.heap.size,8,none⟩ v8).setCell ⟨w.heap.size,9,none⟩ v9) c σ∧Beside c.g w ((((((((((u.setCell ⟨w.heap.size,0,none⟩ v0).setCell ⟨w.heap.size,1,none⟩ v1).setCell ⟨w.heap.size,2,none⟩ v2).setCell ⟨w.heap.size,3,none⟩ v3).setCell ⟨w.heap.size,4,none⟩ v4).setCell ⟨w.heap.size,5,none⟩ v5).setCell ⟨w.heap.size,6,none⟩ v6).setCell ⟨w.heap.size,7,none⟩ v7).setCell ⟨w.heap.size,8,none⟩ v8).setCell ⟨w.heap.size,9,none⟩ v9)∧(∀b,b≠w.heap.size→((((((((((u.setCell ⟨w.heap.size,0,none⟩ v0).setCell ⟨w.heap.size,1,none⟩ v1).setCell ⟨w.heap.size,2,none⟩ v2).setCell ⟨w.heap.size,3,none⟩ v3).setCell ⟨w.heap.size,4,none⟩ v4).setCell ⟨w.heap.size,5,none⟩ v5).setCell ⟨w.heap.size,6,none⟩ v6).setCell ⟨w.heap.size,7,none⟩ v7).setCell ⟨w.heap.size,8,none⟩ v8).setCell ⟨w.heap.size,9,none⟩ v9).heap[b]?=u.heap[b]?)∧((((((((((u.setCell ⟨w.heap.size,0,none⟩ v0).setCell ⟨w.heap.size,1,none⟩ v1).setCell ⟨w.heap.size,2,none⟩ v2).setCell ⟨w.heap.size,3,none⟩ v3).setCell ⟨w.heap.size,4,none⟩ v4).setCell ⟨w.heap.size,5,none⟩ v5).setCell ⟨w.heap.size,6,none⟩ v6).setCell ⟨w.heap.size,7,none⟩ v7).setCell ⟨w.heap.size,8,none⟩ v8).setCell ⟨w.heap.size,9,none⟩ v9).heap.size=u.heap.size:=by
 have n1:w.heap.size≠c.g:=by have:=h.g1;omega
 have n2:w.heap.size≠c.tb:=by have:=h.t1;omega
 refine⟨set10 h.bx _ _ _ _ _ _ _ _ _ _,?_,?_,?_,by simp⟩
 ·exact((((((((((h.rd.setN n1 n2).setN n1 n2).setN n1 n2).setN n1 n2).setN n1 n2).setN n1 n2).setN n1 n2).setN n1 n2).setN n1 n2).setN n1 n2)
 ·exact((((((((((h.bs.setN (Nat.le_refl _)).setN (Nat.le_refl _)).setN (Nat.le_refl _)).setN (Nat.le_refl _)).setN (Nat.le_refl _)).setN (Nat.le_refl _)).setN (Nat.le_refl _)).setN (Nat.le_refl _)).setN (Nat.le_refl _)).setN (Nat.le_refl _))
 ·intro b hb
  rw [heap_setCell_other _ _ _ _ hb,heap_setCell_other _ _ _ _ hb,heap_setCell_other _ _ _ _ hb,heap_setCell_other _ _ _ _ hb,heap_setCell_other _ _ _ _ hb,heap_setCell_other _ _ _ _ hb,heap_setCell_other _ _ _ _ hb,heap_setCell_other _ _ _ _ hb,heap_setCell_other _ _ _ _ hb,heap_setCell_other _ _ _ _ hb]
theorem Sq.fin4 {w:World} {c:Cx} {x0 x1 x2 x3:Value} {T:TypeId} {u:World} {σ:Sg} {d:Nat} (h:Sq w c T #[x0,x1,x2,x3] u σ d) (v0 v1 v2 v3:Value) :
  ((((u.setCell ⟨w.heap.size,0,none⟩ v0).setCell ⟨w.heap.size,1,none⟩ v1).setCell ⟨w.heap.size,2,none⟩ v2).setCell ⟨w.heap.size,3,none⟩ v3).heap[w.heap.size]?=some (.cells #[v0,v1,v2,v3] T (0,0))∧Rq ((((u.setCell ⟨w.heap.size,0,none⟩ v0).setCell ⟨w.heap.size,1,none⟩ v1).setCell ⟨w.heap.size,2,none⟩ v2).setCell ⟨w.heap.size,3,none⟩ v3) c σ∧Beside c.g w ((((u.setCell ⟨w.heap.size,0,none⟩ v0).setCell ⟨w.heap.size,1,none⟩ v1).setCell ⟨w.heap.size,2,none⟩ v2).setCell ⟨w.heap.size,3,none⟩ v3):=by
 have n1:w.heap.size≠c.g:=by have:=h.g1;omega
 have n2:w.heap.size≠c.tb:=by have:=h.t1;omega
 refine⟨set4 h.bx _ _ _ _,?_,?_⟩
 ·exact((((h.rd.setN n1 n2).setN n1 n2).setN n1 n2).setN n1 n2)
 ·exact((((h.bs.setN (Nat.le_refl _)).setN (Nat.le_refl _)).setN (Nat.le_refl _)).setN (Nat.le_refl _))
def NqP (c:Cx) (w:World) (r:List Nd × Sg) (e:Ending) (w':World):Prop:=∃(k:Nat) (t:List UInt8) (vk vn:Nat) (vs:List UInt8) (f:Bool) (n:Nat) (ak:Option Addr) (ck p:Nat) (S:List Nat),e=.returned (.agg #[.int .i64 (k:Int),.string (bA t),.int .i64 (vk:Int),.int .i64 (vn:Int),.string (bA vs),.slice none 0 0,.slice none 0 0,.bool f,.slice ak n ck,.int .i64 (p:Int)])∧r.1.length=1∧NdOk w.heap.size w' r.1 (ndC k t vk vn vs f n ak ck p) S∧Rq w' c r.2∧Beside c.g w w'
def KqP (c:Cx) (w:World) (r:List Nd × Sg) (e:Ending) (w':World):Prop:=∃(ak:Option Addr) (ck:Nat) (C:List Value) (S:List Nat),e=.returned (.slice ak r.1.length ck)∧Kr w.heap.size w' r.1 (.slice ak r.1.length ck) C S∧Rq w' c r.2∧Beside c.g w w'
theorem Sq.done {w:World} {c:Cx} {G:Nat} {x0 x1 x2 x3 x4 x5 x6 x7 x8 x9:Value} {u:World} {σ:Sg} {d:Nat} (h:Sq w c 29 #[x0,x1,x2,x3,x4,x5,x6,x7,x8,x9] u σ d) {ns:List Nd} {k:Nat} {t:List UInt8} {vk vn:Nat} {vs:List UInt8} {f:Bool} {n:Nat} {ak:Option Addr} {ck p:Nat} {S:List Nat} (hk:NdOk (w.heap.size+1) u ns (ndC k t vk vn vs f n ak ck p) S) (hn:ns.length=1) (hG:w.heap.size=G) :
  ((((((((((u.setCell ⟨G,0,none⟩ (.int .i64 (k:Int))).setCell ⟨G,1,none⟩ (.string (bA t))).setCell ⟨G,2,none⟩ (.int .i64 (vk:Int))).setCell ⟨G,3,none⟩ (.int .i64 (vn:Int))).setCell ⟨G,4,none⟩ (.string (bA vs))).setCell ⟨G,5,none⟩ (.slice none 0 0)).setCell ⟨G,6,none⟩ (.slice none 0 0)).setCell ⟨G,7,none⟩ (.bool f)).setCell ⟨G,8,none⟩ (.slice ak n ck)).setCell ⟨G,9,none⟩ (.int .i64 (p:Int))).heap[G]?=some (.cells #[.int .i64 (k:Int),.string (bA t),.int .i64 (vk:Int),.int .i64 (vn:Int),.string (bA vs),.slice none 0 0,.slice none 0 0,.bool f,.slice ak n ck,.int .i64 (p:Int)] 29 (0,0))∧NqP c w (ns,σ) (.returned (.agg #[.int .i64 (k:Int),.string (bA t),.int .i64 (vk:Int),.int .i64 (vn:Int),.string (bA vs),.slice none 0 0,.slice none 0 0,.bool f,.slice ak n ck,.int .i64 (p:Int)])) ((((((((((u.setCell ⟨G,0,none⟩ (.int .i64 (k:Int))).setCell ⟨G,1,none⟩ (.string (bA t))).setCell ⟨G,2,none⟩ (.int .i64 (vk:Int))).setCell ⟨G,3,none⟩ (.int .i64 (vn:Int))).setCell ⟨G,4,none⟩ (.string (bA vs))).setCell ⟨G,5,none⟩ (.slice none 0 0)).setCell ⟨G,6,none⟩ (.slice none 0 0)).setCell ⟨G,7,none⟩ (.bool f)).setCell ⟨G,8,none⟩ (.slice ak n ck)).setCell ⟨G,9,none⟩ (.int .i64 (p:Int))):=by
 subst hG
 obtain⟨h1,h2,h3,h4,h5⟩:=h.fin (.int .i64 (k:Int)) (.string (bA t)) (.int .i64 (vk:Int)) (.int .i64 (vn:Int)) (.string (bA vs)) (.slice none 0 0) (.slice none 0 0) (.bool f) (.slice ak n ck) (.int .i64 (p:Int))
 exact⟨h1,k,t,vk,vn,vs,f,n,ak,ck,p,S,rfl,hn,(hk.to (fun b hb1 hb2 _=>h4 b (by omega)) (Nat.le_of_eq h5.symm)).low (Nat.le_succ _),h2,h3⟩
theorem Sq.own10 {w:World} {c:Cx} {T:TypeId} {z:Array Value} {u:World} {σ:Sg} {d:Nat} (h:Sq w c T z u σ d) {q:Nat} (hq:w.heap.size<q) (v0 v1 v2 v3 v4 v5 v6 v7 v8 v9:Value) :
  Sq w c T z ((((((((((u.setCell ⟨q,0,none⟩ v0).setCell ⟨q,1,none⟩ v1).setCell ⟨q,2,none⟩ v2).setCell ⟨q,3,none⟩ v3).setCell ⟨q,4,none⟩ v4).setCell ⟨q,5,none⟩ v5).setCell ⟨q,6,none⟩ v6).setCell ⟨q,7,none⟩ v7).setCell ⟨q,8,none⟩ v8).setCell ⟨q,9,none⟩ v9) σ d∧(∀b,b≠q→((((((((((u.setCell ⟨q,0,none⟩ v0).setCell ⟨q,1,none⟩ v1).setCell ⟨q,2,none⟩ v2).setCell ⟨q,3,none⟩ v3).setCell ⟨q,4,none⟩ v4).setCell ⟨q,5,none⟩ v5).setCell ⟨q,6,none⟩ v6).setCell ⟨q,7,none⟩ v7).setCell ⟨q,8,none⟩ v8).setCell ⟨q,9,none⟩ v9).heap[b]?=u.heap[b]?)∧((((((((((u.setCell ⟨q,0,none⟩ v0).setCell ⟨q,1,none⟩ v1).setCell ⟨q,2,none⟩ v2).setCell ⟨q,3,none⟩ v3).setCell ⟨q,4,none⟩ v4).setCell ⟨q,5,none⟩ v5).setCell ⟨q,6,none⟩ v6).setCell ⟨q,7,none⟩ v7).setCell ⟨q,8,none⟩ v8).setCell ⟨q,9,none⟩ v9).heap.size=u.heap.size:=by
 refine⟨((((((((((h.own q 0 _ hq).own q 1 _ hq).own q 2 _ hq).own q 3 _ hq).own q 4 _ hq).own q 5 _ hq).own q 6 _ hq).own q 7 _ hq).own q 8 _ hq).own q 9 _ hq),fun b hb=>?_,by simp⟩
 rw [heap_setCell_other _ _ _ _ hb,heap_setCell_other _ _ _ _ hb,heap_setCell_other _ _ _ _ hb,heap_setCell_other _ _ _ _ hb,heap_setCell_other _ _ _ _ hb,heap_setCell_other _ _ _ _ hb,heap_setCell_other _ _ _ _ hb,heap_setCell_other _ _ _ _ hb,heap_setCell_other _ _ _ _ hb,heap_setCell_other _ _ _ _ hb]
structure Sq0 (w:World) (c:Cx) (u:World) (σ:Sg) (d:Nat):Prop where
 rd:Rq u c σ
 bs:Beside c.g w u
 g1:c.g<w.heap.size
 t1:c.tb<w.heap.size
theorem Sq0.start {w w1:World} {c:Cx} {σ:Sg} {d:Nat} (e:w=w1) (h:Rq w1 c σ):Sq0 w c w1 σ d:=by
 subst e
 exact⟨h,Beside.refl _ _,h.frz.2.2.2.2,h.tok.1⟩
theorem Sq0.lt {w:World} {c:Cx} {u:World} {σ:Sg} {d:Nat} (h:Sq0 w c u σ d):w.heap.size≤u.heap.size:=h.bs.size
theorem Sq0.go {w:World} {c:Cx} {u u':World} {σ σ':Sg} {d d':Nat} (h:Sq0 w c u σ d) (b:Beside c.g u u') (r:Rq u' c σ'):Sq0 w c u' σ' d':=⟨r,h.bs.trans b,h.g1,h.t1⟩
theorem Sq0.below {w:World} {c:Cx} {u u':World} {σ:Sg} {d:Nat} (h:Sq0 w c u σ d) (b:Below u.heap.size u u'):Sq0 w c u' σ d:=h.go (Beside.of_below b) (h.rd.below b)
end Go.Proofs.YtilhlmmcdfoaoaaGreatDoor
