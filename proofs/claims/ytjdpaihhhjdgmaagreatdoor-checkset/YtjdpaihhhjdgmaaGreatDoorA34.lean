/-
  Layer 17 (parse): the walk of read, with what it defers; of Program and Expr; conditions: what the variables of strconv hold.
  Layer 17 (parse): the walk of read where a source has no tokens; conditions: what the variables of strconv hold.
  Layer 17 (parse): expressions in brackets, statements that are an expression, words; conditions: the reader's state.
-/
import Derived.Test.YtjdpaihhhjdgmaaGreatDoorA33
import Derived.Test.YtjdpaihhhjdgmaaGreatDoorA30
set_option linter.unusedVariables false
set_option linter.unusedSimpArgs false
set_option maxRecDepth 100000
set_option maxHeartbeats 8000000
namespace Go.Proofs.YtjdpaihhhjdgmaaGreatDoor
open Go.RowKit
set_option linter.unusedVariables false
set_option linter.unusedSimpArgs false
def RdR (w:World) (r:Rs (List Nd)) (e:Ending) (w':World):Prop:=match r with
 |.error (a,p)=>e=.returned (.tuple #[.agg ndZ,.int .i64 (p:Int),.int .i64 (a:Int)])
 |.ok (ns,l)=>(((hdT l).k=0)→∃(k:Nat) (t:List UInt8) (vk vn:Nat) (vs:List UInt8) (f:Bool) (n:Nat) (ak:Option Addr) (ck p:Nat) (S:List Nat),e=.returned (.tuple #[.agg #[.int .i64 (k:Int),.string (bA t),.int .i64 (vk:Int),.int .i64 (vn:Int),.string (bA vs),.slice none 0 0,.slice none 0 0,.bool f,.slice ak n ck,.int .i64 (p:Int)],.int .i64 0,.int .i64 0])∧ns.length=1∧NdOk w.heap.size w' ns (ndC k t vk vn vs f n ak ck p) S) ∧
  (¬(hdT l).k=0→e=.returned (.tuple #[.agg ndZ,.int .i64 ((hdT l).p:Int),.int .i64 170]))
theorem b3_new (w:World):B3 w.heap.size ndZ 0 0 (((w.alloc (.cells ndZ 28)).alloc (.cells #[.int .i64 0] 3)).alloc (.cells #[.int .i64 0] 30))∧Below w.heap.size w (((w.alloc (.cells ndZ 28)).alloc (.cells #[.int .i64 0] 3)).alloc (.cells #[.int .i64 0] 30)):=by
 have s1:(w.alloc (.cells ndZ 28)).heap.size=w.heap.size+1:=by simp
 have s2:((w.alloc (.cells ndZ 28)).alloc (.cells #[.int .i64 0] 3)).heap.size=w.heap.size+2:=by simp
 have n1:=heap_alloc_new w (.cells ndZ 28)
 have n2:=heap_alloc_new (w.alloc (.cells ndZ 28)) (.cells #[.int .i64 0] 3)
 have n3:=heap_alloc_new ((w.alloc (.cells ndZ 28)).alloc (.cells #[.int .i64 0] 3)) (.cells #[.int .i64 0] 30)
 have b1:Below w.heap.size w (w.alloc (.cells ndZ 28)):=(Below.refl _ _).alloc (Nat.le_refl _) _
 generalize w.alloc (.cells ndZ 28)=w1 at *
 have b2:Below w1.heap.size w1 (w1.alloc (.cells #[.int .i64 0] 3)):=(Below.refl _ _).alloc (Nat.le_refl _) _
 generalize w1.alloc (.cells #[.int .i64 0] 3)=w2 at *
 have b3:Below w2.heap.size w2 (w2.alloc (.cells #[.int .i64 0] 30)):=(Below.refl _ _).alloc (Nat.le_refl _) _
 generalize w2.alloc (.cells #[.int .i64 0] 30)=w3 at *
 rw [s1] at n2
 rw [s2] at n3
 refine⟨⟨?_,?_,n3⟩,?_⟩
 ·rw [b3.block _ (by omega),b2.block _ (by omega)];exact n1
 ·rw [b3.block _ (by omega)];exact n2
 ·refine⟨b3.os.trans (b2.os.trans b1.os),b3.tape.trans (b2.tape.trans b1.tape),b3.output.trans (b2.output.trans b1.output),Nat.le_trans b1.size (Nat.le_trans b2.size b3.size),fun k hk=>?_⟩
  rw [b3.block _ (by omega),b2.block _ (by omega),b1.block _ hk]
theorem B3.at {g:Nat} {n:Array Value} {p c:Int} {w w':World} (h:B3 g n p c w) (hb:∀k,g≤k→k≤g+2→w'.heap[k]?=w.heap[k]?):B3 g n p c w':=
 ⟨(hb _ (by omega) (by omega)).trans h.b0,(hb _ (by omega) (by omega)).trans h.b1,(hb _ (by omega) (by omega)).trans h.b2⟩
theorem B3.lt {g:Nat} {n:Array Value} {p c:Int} {w:World} (h:B3 g n p c w):g+2<w.heap.size:=(Array.getElem?_eq_some_iff.1 h.b2).1
theorem B3.cells {g:Nat} {n:Array Value} {p c:Int} {w:World} (h:B3 g n p c w):w.cell? ⟨g+1,0,none⟩=some (.int .i64 p)∧w.cell? ⟨g+2,0,none⟩=some (.int .i64 c)∧w.frozen? ⟨g+1,0,none⟩=false∧w.frozen? ⟨g+2,0,none⟩=false:=
 ⟨by simp [World.cell?,h.b1],by simp [World.cell?,h.b2],frozen_of_row _ _ 0 _ _ h.b1,frozen_of_row _ _ 0 _ _ h.b2⟩
theorem b3_two {g:Nat} {n:Array Value} {p0 c0:Int} {w:World} (h:B3 g n p0 c0 w) (p c:Int):B3 g n p c ((w.setCell ⟨g+1,0,none⟩ (.int .i64 p)).setCell ⟨g+2,0,none⟩ (.int .i64 c))∧(∀b,b≠g+1→b≠g+2→((w.setCell ⟨g+1,0,none⟩ (.int .i64 p)).setCell ⟨g+2,0,none⟩ (.int .i64 c)).heap[b]?=w.heap[b]?)∧((w.setCell ⟨g+1,0,none⟩ (.int .i64 p)).setCell ⟨g+2,0,none⟩ (.int .i64 c)).heap.size=w.heap.size∧Below g w ((w.setCell ⟨g+1,0,none⟩ (.int .i64 p)).setCell ⟨g+2,0,none⟩ (.int .i64 c)):=by
 refine⟨⟨?_,?_,?_⟩,fun b h1 h2=>?_,by simp,?_⟩
 ·rw [heap_setCell_other _ _ _ _ (show g≠g+2 by omega),heap_setCell_other _ _ _ _ (show g≠g+1 by omega)]
  exact h.b0
 ·rw [heap_setCell_other _ _ _ _ (show g+1≠g+2 by omega),heap_setCell_same _ (g+1) 0 _ _ _ h.b1]
  rfl
 ·have D3:(w.setCell ⟨g+1,0,none⟩ (.int .i64 p)).heap[g+2]?=some (.cells #[.int .i64 c0] 30 (0,0)):=by rw [heap_setCell_other _ _ _ _ (show g+2≠g+1 by omega)];exact h.b2
  rw [heap_setCell_same _ (g+2) 0 _ _ _ D3]
  rfl
 ·rw [heap_setCell_other _ _ _ _ h2,heap_setCell_other _ _ _ _ h1]
 ·exact((Below.refl g w).setCell (p:=⟨g+1,0,none⟩) (show g≤g+1 by omega) _).setCell (p:=⟨g+2,0,none⟩) (show g≤g+2 by omega) _
theorem rd_new {w u:World} {B:Nat} {q cap:Nat} {ts:List Tk} (ho:w.ownsRow B 85 4 (.slice (some ⟨q,0,none⟩) ts.length cap) ts.length (flT ts)) (hlen:ts.length≤10000) (hfin:∃us p,ts=us++[endT p]) (hq:u.heap[q]?=w.heap[q]?) (hs:u.heap.size=w.heap.size) :
  Rd (u.alloc (.cells #[.slice (some ⟨q,0,none⟩) ts.length cap,.int .i64 0,.int .i64 0] 83)) ⟨w.heap.size,q,cap,ts⟩ ts 0:=by
 have ho':u.ownsRow B 85 4 (.slice (some ⟨q,0,none⟩) ts.length cap) ts.length (flT ts):=own_at ho (fun b hb=>by cases hb;exact hq)
 have hlt:=(ho.lt q rfl).2
 have b1:Below u.heap.size u (u.alloc (.cells #[.slice (some ⟨q,0,none⟩) ts.length cap,.int .i64 0,.int .i64 0] 83)):=(Below.refl _ _).alloc (Nat.le_refl _) _
 have hne:ts≠[]:=by obtain⟨us,p,rfl⟩:=hfin;simp
 refine⟨?_,?_,hne,(TR.of ho' rfl).later b1,?_,?_,hlen,by omega,hfin⟩
 ·have:=heap_alloc_new u (.cells #[.slice (some ⟨q,0,none⟩) ts.length cap,.int .i64 0,.int .i64 0] 83)
  rw [hs] at this
  simpa using this
 ·simp
 ·show q≠w.heap.size
  omega
 ·rcases ho.2 with ⟨e,_⟩|⟨q',cap',cur,e,_,_,h3,_⟩
  ·cases e
  ·cases e
   exact h3
theorem read_p (s:ByteArray) (w:World) (he:Ev w) (hw6:5<w.heap.size) {ts:List Tk} (ha:allT s.data.toList=.ok ts) (hlen:ts.length≤10000) (hfin:∃us p,ts=us++[endT p]) {r:Rs (List Nd)}
  (CW:∀(c:Cx) (w:World),Rd w c ts 0→Calls Tryz.prog 20 #[.pointer (some ⟨c.g,0,none⟩)] w fun e w'=>NdP c w 0 r e w') :
  Calls Tryz.prog 19 #[.string s,.func (Fn.func 20) #[] #[]] w fun e w'=>RdR w r e w'∧Below w.heap.size w w':=by
 have hmf:∀(fn:Fn) (first cap:Array Value) (w:World),(Instr.makeFunc fn first cap).run Tryz.prog w=.ok (.func fn first cap) w:=fun _ _ _ _=>rfl
 obtain⟨R,hR⟩:∃R:Ending→World→Prop,∀e w',R e w'↔RdR w r e w':=⟨fun e w'=>RdR w r e w',fun _ _=>Iff.rfl⟩
 have HR:=hZ hR
 suffices hX:Calls Tryz.prog 19 #[.string s,.func (Fn.func 20) #[] #[]] w fun e w'=>R e w'∧Below w.heap.size w w' from hX.mono (fun e w' h=>⟨(hR e w').1 h.1,h.2⟩)
 clear hR
 obtain⟨hB3,hb3⟩:=b3_new w
 obtain⟨G,hG⟩:=eX (w.heap.size)
 obtain⟨w3,hw3⟩:=eX ((((w.alloc (.cells ndZ 28)).alloc (.cells #[.int .i64 0] 3)).alloc (.cells #[.int .i64 0] 30)))
 have HW:=hZ hw3
 rw [hw3] at hB3 hb3
 have CA:=hZ (all_any s w3 (he.below hb3 hw6) (by have:=hb3.size;omega))
 rw [ha] at CA
 rw [hG] at hB3
 have H3:=hZ (And.intro hB3 hb3)
 have HL:=hZ (And.intro hlen (And.intro hfin hG))
 have HC:=hZ CW
 clear he hw6 ha CW hB3 hb3 hlen hfin hw3
 go_enter_defers Tryz.func19,Tryz.ntmps19
 go_upto_region 1 with fail
 have e3:=uZ HW
 unfold ndZ at e3
 rw [e3]
 clear e3 HW
 go_wp2_with fail
 refine(uZ CA).mono ?_
 rintro e w4 ⟨⟨v,rfl,ho⟩,b4⟩
 obtain⟨hlen,hfin,hG2⟩:=uZ HL
 obtain⟨q,cap,hv⟩:∃q cap,v=.slice (some ⟨q,0,none⟩) ts.length cap:=by
  rcases ho.2 with ⟨_,e2⟩|⟨q,cap,cur,e1,_⟩
  ·obtain⟨us,p,rfl⟩:=hfin
   simp at e2
  ·exact⟨q,cap,e1⟩
 subst hv
 have hq1:=ho.lt q rfl
 have hlt3:=(uZ H3).1.lt
 have D4:B3 G ndZ 0 0 w4:=(uZ H3).1.at (fun k _ _=>b4.block k (by omega))
 obtain⟨c1,c2,f1,f2⟩:=D4.cells
 obtain⟨T1,T2,T3,T4⟩:=b3_two D4 0 0
 have R6:=rd_new (u:=(w4.setCell ⟨G+1,0,none⟩ (.int .i64 0)).setCell ⟨G+2,0,none⟩ (.int .i64 0)) ho hlen hfin (T2 q (by omega) (by omega)) T3
 have B6:Below ((w4.setCell ⟨G+1,0,none⟩ (.int .i64 0)).setCell ⟨G+2,0,none⟩ (.int .i64 0)).heap.size ((w4.setCell ⟨G+1,0,none⟩ (.int .i64 0)).setCell ⟨G+2,0,none⟩ (.int .i64 0)) (((w4.setCell ⟨G+1,0,none⟩ (.int .i64 0)).setCell ⟨G+2,0,none⟩ (.int .i64 0)).alloc (.cells #[.slice (some ⟨q,0,none⟩) ts.length cap,.int .i64 0,.int .i64 0] 83)):=(Below.refl _ _).alloc (Nat.le_refl _) _
 rw [T3] at B6
 obtain⟨w6,hw6⟩:=eX ((((w4.setCell ⟨G+1,0,none⟩ (.int .i64 0)).setCell ⟨G+2,0,none⟩ (.int .i64 0)).alloc (.cells #[.slice (some ⟨q,0,none⟩) ts.length cap,.int .i64 0,.int .i64 0] 83)))
 rw [hw6] at R6 B6
 have D6:B3 G ndZ 0 0 w6:=T1.at (fun k _ _=>B6.block k (by omega))
 have bel6:Below w.heap.size w w6:=by
  have h3:=(uZ H3).2
  have e4:Below w.heap.size w w4:=⟨b4.os.trans h3.os,b4.tape.trans h3.tape,b4.output.trans h3.output,Nat.le_trans h3.size b4.size,fun k hk=>(b4.block k (by omega)).trans (h3.block k hk)⟩
  exact⟨B6.os.trans (T4.os.trans e4.os),B6.tape.trans (T4.tape.trans e4.tape),B6.output.trans (T4.output.trans e4.output),by have:=B6.size;have:=T4.size;have:=e4.size;omega,fun k hk=>by rw [B6.block k (by omega),T4.block k (by omega),e4.block k hk]⟩
 obtain⟨g,hg⟩:=eX (w4.heap.size)
 rw [hg] at R6
 have CX:=hZ ((uZ HC) ⟨g,q,cap,ts⟩ w6 R6)
 have HG:Hid (G+2<g∧g<w6.heap.size∧q≠G∧w.heap.size=G):=hZ ⟨by omega,R6.cells.2.2.2.2.2,by omega,hG2⟩
 have HW6:=hZ hw6
 have H6:=hZ (And.intro D6 bel6)
 clear H3 HL HC ho b4 hlen hfin hG2 hq1 hlt3 D4 T1 T2 T3 T4 R6 B6 hw6 D6 bel6
 go_upto_region 6 with fail
 rw [uZ HW6]
 clear HW6 c1 c2 f1 f2 hg CA
 match r,CX,HR with
 |.error (a,p),CX,HR=>
  clear hG
  go_wp2_with fail
  refine(uZ CX).mono ?_
  rintro e u ⟨rfl,b7⟩
  unfold fltP
  go_wp2_with fail
  obtain⟨D6,bel6⟩:=uZ H6
  obtain⟨z1,z2,z3,z4⟩:=uZ HG
  have D7:B3 G ndZ 0 0 u:=D6.at (fun k _ _=>b7.block k (by omega) (show k≠g by omega))
  refine leaves_cons (f:=35) (args:=#[.pointer (some ⟨G,0,none⟩),.pointer (some ⟨G+1,0,none⟩),.pointer (some ⟨G+2,0,none⟩)]) (by simp) (by simp [go_sem]) ?_
  refine(catch_flt G _ _ _ _ _ _ _ _ _ _ 0 0 a p [] u D7).mono ?_
  rintro e u' w9 ⟨rfl,rfl,R9,B9⟩
  obtain⟨r0,r1,r2,r3,r4,r5,r6,r7,r8,r9⟩:=row_cell10 R9.b0
  obtain⟨k1,k2,_,_⟩:=R9.cells
  have QB:Below w.heap.size w w9:=by
   rw [z4]
   rw [z4] at bel6
   exact⟨B9.os.trans (b7.os.trans bel6.os),B9.tape.trans (b7.tape.trans bel6.tape),B9.output.trans (b7.output.trans bel6.output),Nat.le_trans bel6.size (Nat.le_trans b7.size B9.size),fun k hk=>by rw [B9.block k hk,b7.block k (by omega) (show k≠g by omega),bel6.block k hk]⟩
  simp [Leaves,settle,results,Tryz.results19,go_sem,r0,r1,r2,r3,r4,r5,r6,r7,r8,r9,k1,k2]
  exact⟨((uZ HR) _ _).2 rfl,QB⟩
 |.ok (ns,l),CX,HR=>
  clear hG
  go_wp2_with fail
  refine(uZ CX).mono ?_
  rintro e u ⟨k,t,vk,vn,vs,f,n,ak,ck,p,S,rfl,hn1,nok,rd,b7⟩
  simp only [] at b7
  obtain⟨D6,bel6⟩:=uZ H6
  obtain⟨z1,z2,z3,z4⟩:=uZ HG
  have D7:B3 G ndZ 0 0 u:=D6.at (fun k _ _=>b7.block k (by omega) (show k≠g by omega))
  have bel7:Below w.heap.size w u:=by
   rw [z4]
   rw [z4] at bel6
   exact⟨b7.os.trans bel6.os,b7.tape.trans bel6.tape,b7.output.trans bel6.output,Nat.le_trans bel6.size b7.size,fun k hk=>by rw [b7.block k (by omega) (show k≠g by omega),bel6.block k hk]⟩
  obtain⟨e0,e1,e2,e3,e4,e5,e6,e7,e8,e9⟩:=row_cell10 D7.b0
  obtain⟨f0,f1,f2,f3,f4,f5,f6,f7,f8,f9⟩:=frozen10 D7.b0
  have W8:=set10 D7.b0 (.int .i64 (k:Int)) (.string (bA t)) (.int .i64 (vk:Int)) (.int .i64 (vn:Int)) (.string (bA vs)) (.slice none 0 0) (.slice none 0 0) (.bool f) (.slice ak n ck) (.int .i64 (p:Int))
  have O8:∀b,b≠G→((((((((((u.setCell ⟨G,0,none⟩ (.int .i64 (k:Int))).setCell ⟨G,1,none⟩ (.string (bA t))).setCell ⟨G,2,none⟩ (.int .i64 (vk:Int))).setCell ⟨G,3,none⟩ (.int .i64 (vn:Int))).setCell ⟨G,4,none⟩ (.string (bA vs))).setCell ⟨G,5,none⟩ (.slice none 0 0)).setCell ⟨G,6,none⟩ (.slice none 0 0)).setCell ⟨G,7,none⟩ (.bool f)).setCell ⟨G,8,none⟩ (.slice ak n ck)).setCell ⟨G,9,none⟩ (.int .i64 (p:Int))).heap[b]?=u.heap[b]?:=fun b hb=>by
   iterate 10 rw [heap_setCell_other _ _ _ _ hb]
  have n1:G≠(⟨g,q,cap,ts⟩:Cx).g:=by show G≠g;omega
  have n2:G≠(⟨g,q,cap,ts⟩:Cx).tb:=by show G≠q;omega
  have R8:Rd ((((((((((u.setCell ⟨G,0,none⟩ (.int .i64 (k:Int))).setCell ⟨G,1,none⟩ (.string (bA t))).setCell ⟨G,2,none⟩ (.int .i64 (vk:Int))).setCell ⟨G,3,none⟩ (.int .i64 (vn:Int))).setCell ⟨G,4,none⟩ (.string (bA vs))).setCell ⟨G,5,none⟩ (.slice none 0 0)).setCell ⟨G,6,none⟩ (.slice none 0 0)).setCell ⟨G,7,none⟩ (.bool f)).setCell ⟨G,8,none⟩ (.slice ak n ck)).setCell ⟨G,9,none⟩ (.int .i64 (p:Int))) ⟨g,q,cap,ts⟩ l 0:=
   ((((((((((rd.setN n1 n2).setN n1 n2).setN n1 n2).setN n1 n2).setN n1 n2).setN n1 n2).setN n1 n2).setN n1 n2).setN n1 n2).setN n1 n2)
  have E8:Below G u ((((((((((u.setCell ⟨G,0,none⟩ (.int .i64 (k:Int))).setCell ⟨G,1,none⟩ (.string (bA t))).setCell ⟨G,2,none⟩ (.int .i64 (vk:Int))).setCell ⟨G,3,none⟩ (.int .i64 (vn:Int))).setCell ⟨G,4,none⟩ (.string (bA vs))).setCell ⟨G,5,none⟩ (.slice none 0 0)).setCell ⟨G,6,none⟩ (.slice none 0 0)).setCell ⟨G,7,none⟩ (.bool f)).setCell ⟨G,8,none⟩ (.slice ak n ck)).setCell ⟨G,9,none⟩ (.int .i64 (p:Int))):=by
   have e:∀(x:World) (f:Nat) (v:Value),Below G u x→Below G u (x.setCell ⟨G,f,none⟩ v):=fun x f v hx=>hx.setCell (p:=⟨G,f,none⟩) (Nat.le_refl _) v
   iterate 10 refine e _ _ _ ?_
   exact Below.refl _ _
  have Z8:((((((((((u.setCell ⟨G,0,none⟩ (.int .i64 (k:Int))).setCell ⟨G,1,none⟩ (.string (bA t))).setCell ⟨G,2,none⟩ (.int .i64 (vk:Int))).setCell ⟨G,3,none⟩ (.int .i64 (vn:Int))).setCell ⟨G,4,none⟩ (.string (bA vs))).setCell ⟨G,5,none⟩ (.slice none 0 0)).setCell ⟨G,6,none⟩ (.slice none 0 0)).setCell ⟨G,7,none⟩ (.bool f)).setCell ⟨G,8,none⟩ (.slice ak n ck)).setCell ⟨G,9,none⟩ (.int .i64 (p:Int))).heap.size=u.heap.size:=by simp
  obtain⟨w8,hw8⟩:=eX (((((((((((u.setCell ⟨G,0,none⟩ (.int .i64 (k:Int))).setCell ⟨G,1,none⟩ (.string (bA t))).setCell ⟨G,2,none⟩ (.int .i64 (vk:Int))).setCell ⟨G,3,none⟩ (.int .i64 (vn:Int))).setCell ⟨G,4,none⟩ (.string (bA vs))).setCell ⟨G,5,none⟩ (.slice none 0 0)).setCell ⟨G,6,none⟩ (.slice none 0 0)).setCell ⟨G,7,none⟩ (.bool f)).setCell ⟨G,8,none⟩ (.slice ak n ck)).setCell ⟨G,9,none⟩ (.int .i64 (p:Int))))
  rw [hw8] at W8 O8 R8 E8 Z8
  have D8:B3 G #[.int .i64 (k:Int),.string (bA t),.int .i64 (vk:Int),.int .i64 (vn:Int),.string (bA vs),.slice none 0 0,.slice none 0 0,.bool f,.slice ak n ck,.int .i64 (p:Int)] 0 0 w8:=⟨W8,(O8 _ (by omega)).trans D7.b1,(O8 _ (by omega)).trans D7.b2⟩
  have N8:NdOk w6.heap.size w8 ns (ndC k t vk vn vs f n ak ck p) S:=nok.to (fun b h1 h2 _=>O8 b (by omega)) (by omega)
  have bel8:Below w.heap.size w w8:=by
   rw [z4]
   rw [z4] at bel7
   exact bel7.trans E8
  have z8:w6.heap.size≤w8.heap.size:=by have:=b7.size;omega
  have CT:=hZ (token_any R8)
  have HR8:=hZ R8
  have H8:=hZ (And.intro D8 (And.intro N8 (And.intro bel8 z8)))
  have HW8:=hZ hw8
  clear D6 bel6 z1 z2 z3 z4 z8 D7 bel7 W8 O8 n1 n2 R8 E8 Z8 hw8 D8 N8 bel8 nok rd b7 H6 CX
  go_upto_region 7 with fail
  rw [uZ HW8]
  clear HW8 e0 e1 e2 e3 e4 e5 e6 e7 e8 e9 f0 f1 f2 f3 f4 f5 f6 f7 f8 f9
  obtain⟨⟨tk,tt,tn,tp⟩,ht⟩:∃t,hdT l=t:=⟨_,rfl⟩
  have HT:=hZ ht
  rw [ht] at CT
  simp only [tkA] at CT
  clear ht
  by_cases hk:tk=0
  ·subst hk
   go_wp2_with (first|(refine wpl_tk0 rfl _ rfl _ _ _ _ rfl ?_))
   refine(uZ CT).mono ?_
   rintro e w9 ⟨rfl,b9⟩
   obtain⟨D8,N8,bel8,z8⟩:=uZ H8
   have hl8:=D8.lt
   have D9:B3 G #[.int .i64 (k:Int),.string (bA t),.int .i64 (vk:Int),.int .i64 (vn:Int),.string (bA vs),.slice none 0 0,.slice none 0 0,.bool f,.slice ak n ck,.int .i64 (p:Int)] 0 0 w9:=D8.at (fun k _ _=>b9.block k (by omega))
   obtain⟨e0,e1,e2,e3,e4,e5,e6,e7,e8,e9⟩:=row_cell10 D9.b0
   obtain⟨f0,f1,f2,f3,f4,f5,f6,f7,f8,f9⟩:=frozen10 D9.b0
   obtain⟨k1,k2,m1,m2⟩:=D9.cells
   have H9:=hZ (And.intro D9 b9)
   clear D8 N8 bel8 z8 hl8 D9 b9 CT
   go_wp2_with (first|(refine wpl_tk0 rfl _ rfl _ _ _ _ rfl ?_))
   refine leaves_cons (f:=35) (args:=#[.pointer (some ⟨G,0,none⟩),.pointer (some ⟨G+1,0,none⟩),.pointer (some ⟨G+2,0,none⟩)]) (by simp) (by simp [go_sem]) ?_
   refine(catch_none G _).mono ?_
   rintro e u' wa ⟨rfl,rfl,hwa⟩
   obtain⟨D9,b9⟩:=uZ H9
   obtain⟨D8,N8,bel8,z8⟩:=uZ H8
   obtain⟨z1,z2,z3,z4⟩:=uZ HG
   have DA:=b3_set D9 (.int .i64 (k:Int)) (.string (bA t)) (.int .i64 (vk:Int)) (.int .i64 (vn:Int)) (.string (bA vs)) (.slice none 0 0) (.slice none 0 0) (.bool f) (.slice ak n ck) (.int .i64 (p:Int)) 0 0
   obtain⟨OA,BA⟩:=b3_oth (g:=G) (w1:=w9) (.int .i64 (k:Int)) (.string (bA t)) (.int .i64 (vk:Int)) (.int .i64 (vn:Int)) (.string (bA vs)) (.slice none 0 0) (.slice none 0 0) (.bool f) (.slice ak n ck) (.int .i64 (p:Int)) (.int .i64 0) (.int .i64 0)
   rw [←hwa] at DA OA BA
   clear hwa
   have N9:NdOk w6.heap.size w9 ns (ndC k t vk vn vs f n ak ck p) S:=N8.to (fun b _ h2 _=>b9.block b h2) b9.size
   have NA:NdOk w.heap.size wa ns (ndC k t vk vn vs f n ak ck p) S:=(N9.to (fun b h1 h2 _=>OA b (by omega) (by omega) (by omega)) BA.size).low (by omega)
   have belA:Below w.heap.size w wa:=by
    rw [z4]
    rw [z4] at bel8
    have:=bel8.size
    have b9':Below G w8 w9:=⟨b9.os,b9.tape,b9.output,b9.size,fun k hk=>b9.block k (by omega)⟩
    exact(bel8.trans b9').trans BA
   obtain⟨r0,r1,r2,r3,r4,r5,r6,r7,r8,r9⟩:=row_cell10 DA.b0
   obtain⟨s1,s2,_,_⟩:=DA.cells
   clear k1 k2 e0 e1 e2 e3 e4 e5 e6 e7 e8 e9 f0 f1 f2 f3 f4 f5 f6 f7 f8 f9 m1 m2
   simp [Leaves,settle,results,Tryz.results19,go_sem,r0,r1,r2,r3,r4,r5,r6,r7,r8,r9,s1,s2]
   exact⟨((uZ HR) _ _).2 ⟨fun _=>⟨k,t,vk,vn,vs,f,n,ak,ck,p,S,rfl,hn1,NA⟩,fun h=>absurd (by rw [uZ HT]) h⟩,belA⟩
  ·have hk1:¬(tk:Int)=0:=by omega
   have hk2:((tk:Int) == 0)=false:=by simpa using hk1
   have HK:=hZ hk
   clear hk
   go_wp2_with (first|(refine wpl_tk0 rfl _ rfl _ _ _ _ rfl ?_))
   refine(uZ CT).mono ?_
   rintro e w9 ⟨rfl,b9⟩
   have R9:=(uZ HR8).below b9
   have CF:=hZ (refuse_any R9)
   rw [uZ HT] at CF
   simp only [] at CF
   have H9:=hZ b9
   clear b9 R9 CT HR8
   go_wp2_with (first|(refine wpl_tk0 rfl _ rfl _ _ _ _ rfl ?_))
   refine(uZ CF).mono ?_
   rintro e wb ⟨rfl,bb⟩
   unfold fltP
   go_wp2_with fail
   obtain⟨D8,N8,bel8,z8⟩:=uZ H8
   obtain⟨z1,z2,z3,z4⟩:=uZ HG
   have b9:=uZ H9
   have hl8:=D8.lt
   have h9:=b9.size
   have DB:B3 G #[.int .i64 (k:Int),.string (bA t),.int .i64 (vk:Int),.int .i64 (vn:Int),.string (bA vs),.slice none 0 0,.slice none 0 0,.bool f,.slice ak n ck,.int .i64 (p:Int)] 0 0 wb:=(D8.at (fun k _ _=>b9.block k (by omega))).at (fun k _ _=>bb.block k (by omega))
   refine leaves_cons (f:=35) (args:=#[.pointer (some ⟨G,0,none⟩),.pointer (some ⟨G+1,0,none⟩),.pointer (some ⟨G+2,0,none⟩)]) (by simp) (by simp [go_sem]) ?_
   refine(catch_flt G _ _ _ _ _ _ _ _ _ _ 0 0 170 tp [] wb DB).mono ?_
   rintro e u' wa ⟨rfl,rfl,RA,BA⟩
   obtain⟨r0,r1,r2,r3,r4,r5,r6,r7,r8,r9⟩:=row_cell10 RA.b0
   obtain⟨k1,k2,_,_⟩:=RA.cells
   have belA:Below w.heap.size w wa:=by
    rw [z4]
    rw [z4] at bel8
    have b9':Below G w8 w9:=⟨b9.os,b9.tape,b9.output,b9.size,fun k hk=>b9.block k (by omega)⟩
    have bb':Below G w9 wb:=⟨bb.os,bb.tape,bb.output,bb.size,fun k hk=>bb.block k (by omega)⟩
    exact((bel8.trans b9').trans bb').trans BA
   simp [Leaves,settle,results,Tryz.results19,go_sem,r0,r1,r2,r3,r4,r5,r6,r7,r8,r9,k1,k2]
   exact⟨((uZ HR) _ _).2 ⟨fun h=>absurd h (by rw [uZ HT];exact uZ HK),fun _=>by rw [uZ HT];rfl⟩,belA⟩
theorem read_bad (s:ByteArray) (wv:Value) (w:World) (he:Ev w) (hw6:5<w.heap.size) {p er:Nat} (ha:allT s.data.toList=.error (p,er)) (hz:¬er=0) :
  Calls Tryz.prog 19 #[.string s,wv] w fun e w'=>e=.returned (.tuple #[.agg ndZ,.int .i64 (p:Int),.int .i64 (er:Int)])∧Below w.heap.size w w':=by
 obtain⟨hB3,hb3⟩:=b3_new w
 obtain⟨G,hG⟩:=eX (w.heap.size)
 obtain⟨w3,hw3⟩:=eX ((((w.alloc (.cells ndZ 28)).alloc (.cells #[.int .i64 0] 3)).alloc (.cells #[.int .i64 0] 30)))
 have HW:=hZ hw3
 rw [hw3] at hB3 hb3
 have CA:=hZ (all_any s w3 (he.below hb3 hw6) (by have:=hb3.size;omega))
 rw [ha] at CA
 rw [hG] at hB3
 have H3:=hZ (And.intro hB3 hb3)
 have HG:=hZ hG
 have n1:¬(er:Int)=0:=by omega
 have n2:((er:Int) == 0)=false:=by simpa using n1
 clear he hw6 ha hB3 hb3 hw3 hz
 go_enter_defers Tryz.func19,Tryz.ntmps19
 go_upto_region 1 with fail
 have e3:=uZ HW
 unfold ndZ at e3
 rw [e3]
 clear e3 HW
 go_wp2_with fail
 refine(uZ CA).mono ?_
 rintro e w4 ⟨rfl,b4⟩
 have hlt3:=(uZ H3).1.lt
 have D4:B3 G ndZ 0 0 w4:=(uZ H3).1.at (fun k _ _=>b4.block k (by omega))
 obtain⟨c1,c2,f1,f2⟩:=D4.cells
 obtain⟨T1,T2,T3,T4⟩:=b3_two D4 (p:Int) (er:Int)
 obtain⟨w5,hw5⟩:=eX (((w4.setCell ⟨G+1,0,none⟩ (.int .i64 (p:Int))).setCell ⟨G+2,0,none⟩ (.int .i64 (er:Int))))
 rw [hw5] at T1 T2 T3 T4
 have bel5:Below w.heap.size w w5:=by
  have h3:=(uZ H3).2
  have hg:=uZ HG
  rw [hg]
  rw [hg] at h3
  have b4':Below G w3 w4:=⟨b4.os,b4.tape,b4.output,b4.size,fun k hk=>b4.block k (by omega)⟩
  exact(h3.trans b4').trans T4
 obtain⟨e0,e1,e2,e3,e4,e5,e6,e7,e8,e9⟩:=row_cell10 T1.b0
 obtain⟨g0,g1,g2,g3,g4,g5,g6,g7,g8,g9⟩:=frozen10 T1.b0
 obtain⟨k1,k2,m1,m2⟩:=T1.cells
 have H5:=hZ (And.intro T1 bel5)
 have HW5:=hZ hw5
 clear H3 b4 hlt3 D4 T1 T2 T3 T4 hw5 bel5 CA
 go_upto_region 2 with fail
 rw [uZ HW5]
 clear HW5 c1 c2 f1 f2 hG
 go_upto_region 3 with fail
 go_region
 obtain⟨T1,bel5⟩:=uZ H5
 have hg:=uZ HG
 have DA:=(b3_set T1 (.int .i64 0) (.string ⟨#[]⟩) (.int .i64 0) (.int .i64 0) (.string ⟨#[]⟩) (.slice none 0 0) (.slice none 0 0) (.bool false) (.slice none 0 0) (.int .i64 0) (p:Int) (er:Int)).drew
 have BA:=(b3_oth (g:=G) (w1:=w5) (.int .i64 0) (.string ⟨#[]⟩) (.int .i64 0) (.int .i64 0) (.string ⟨#[]⟩) (.slice none 0 0) (.slice none 0 0) (.bool false) (.slice none 0 0) (.int .i64 0) (.int .i64 (p:Int)) (.int .i64 (er:Int))).2.drew
 rw [show G+1+1=G+2 from rfl]
 generalize World.drew _=w6 at DA BA ⊢
 have bel:Below w.heap.size w w6:=by
  rw [hg] at bel5 ⊢
  exact bel5.trans BA
 clear BA bel5 T1 H5 HG
 obtain⟨r0,r1,r2,r3,r4,r5,r6,r7,r8,r9⟩:=row_cell10 DA.b0
 obtain⟨s1,s2,_,_⟩:=DA.cells
 clear e0 e1 e2 e3 e4 e5 e6 e7 e8 e9 g0 g1 g2 g3 g4 g5 g6 g7 g8 g9 k1 k2 m1 m2 hg
 have bel':=hZ bel
 clear bel DA
 go_wp2_with fail
 simp [bodyPostD,Leaves,settle,results,Tryz.results19,go_sem,r0,r1,r2,r3,r4,r5,r6,r7,r8,r9,s1,s2]
 exact⟨rfl,uZ bel'⟩
theorem expr_step {c:Cx} {l:List Tk} {d:Nat} {w:World} {r:Rs (List Nd)} {f:Nat} (ihb:∀{x:Nat} {c:Cx} {l:List Tk} {d:Nat} {w:World} {r:Rs (List Nd)},1≤x→x≤6→PJ f 2 x [] l d=some r→Rd w c l d→Calls Tryz.prog 177 #[.pointer (some ⟨c.g,0,none⟩),.int .i64 (x:Int)] w fun e w'=>NdP c w d r e w') (hJ:PJ (f+1) 0 0 [] l d=some r) (h:Rd w c l d) :
  Calls Tryz.prog 161 #[.pointer (some ⟨c.g,0,none⟩)] w fun e w'=>NdP c w d r e w':=by
 have S1:=hZ (St.start h 28 #[.int .i64 0,.string ⟨#[]⟩,.int .i64 0,.int .i64 0,.string ⟨#[]⟩,.slice none 0 0,.slice none 0 0,.bool false,.slice none 0 0,.int .i64 0])
 obtain⟨w1,hw1⟩:=eX (w.alloc (.cells #[.int .i64 0,.string ⟨#[]⟩,.int .i64 0,.int .i64 0,.string ⟨#[]⟩,.slice none 0 0,.slice none 0 0,.bool false,.slice none 0 0,.int .i64 0] 28))
 rw [hw1] at S1
 obtain⟨G,hG⟩:=eX (w.heap.size)
 have hgw:c.g<w.heap.size:=h.cells.2.2.2.2.2
 clear h
 go_enter Tryz.func161,Tryz.ntmps161
 have HJ0:=hZ hJ
 clear hJ
 obtain⟨y,hyr⟩:=eX r
 have HR:=hZ hyr
 have CR:=hZ (ihb (show 1≤1 by omega) (show 1≤6 by omega) (uZ HJ0) (uZ S1).rd)
 rw [hyr] at CR
 clear hyr
 rcases y with ⟨ea,ep⟩|⟨nsx,lx⟩
 ·go_wp2_with fail
  refine(uZ CR).mono ?_
  rintro e wx ⟨rfl,b⟩
  have HX:=hZ ((uZ S1).bad b)
  clear b CR
  unfold fltP
  go_wp2_with fail
  exact⟨rfl,by rw [uZ HR];exact⟨rfl,uZ HX⟩⟩
 ·go_wp2_with fail
  refine(uZ CR).mono ?_
  rintro e w2 ⟨kx,tx,vkx,vnx,vsx,fx,nx,akx,ckx,px,Zx,rfl,hlx,hn,r2,b⟩
  have S2:=hZ ((uZ S1).go b r2)
  have HNx_2:=hZ (hn.low (lo':=w.heap.size+1) (uZ S1).lt)
  clear b r2 hn CR S1
  have HR:=hZ (uZ HR)
  have BX:=(uZ S2).bx
  rw [hG] at BX
  obtain⟨g0,g1,g2,g3,g4,g5,g6,g7,g8,g9⟩:=row_cell10 BX
  obtain⟨z0,z1,z2,z3,z4,z5,z6,z7,z8,z9⟩:=frozen10 BX
  clear BX
  have FF:=hZ (St.done (uZ S2) (uZ HNx_2) hlx hG)
  go_wp2_with fail
  refine rtN (p:=2) rfl rfl (uZ FF).1 rfl rfl ?_
  rw [uZ HR]
  exact(uZ FF).2
theorem do_step {c:Cx} {l:List Tk} {d:Nat} {w:World} {r:Rs (List Nd)} {f:Nat} (ihe:∀{c:Cx} {l:List Tk} {d:Nat} {w:World} {r:Rs (List Nd)},PJ f 0 0 [] l d=some r→Rd w c l d→Calls Tryz.prog 161 #[.pointer (some ⟨c.g,0,none⟩)] w fun e w'=>NdP c w d r e w') (hJ:PJ (f+1) 19 0 [] l d=some r) (h:Rd w c l d) :
  Calls Tryz.prog 151 #[.pointer (some ⟨c.g,0,none⟩)] w fun e w'=>NdP c w d r e w':=by
 have S1:=hZ (St.start h 28 #[.int .i64 0,.string ⟨#[]⟩,.int .i64 0,.int .i64 0,.string ⟨#[]⟩,.slice none 0 0,.slice none 0 0,.bool false,.slice none 0 0,.int .i64 0])
 obtain⟨w1,hw1⟩:=eX (w.alloc (.cells #[.int .i64 0,.string ⟨#[]⟩,.int .i64 0,.int .i64 0,.string ⟨#[]⟩,.slice none 0 0,.slice none 0 0,.bool false,.slice none 0 0,.int .i64 0] 28))
 rw [hw1] at S1
 obtain⟨G,hG⟩:=eX (w.heap.size)
 have hgw:c.g<w.heap.size:=h.cells.2.2.2.2.2
 clear h
 go_enter Tryz.func151,Tryz.ntmps151
 have HJ0:=hZ (show jDo (PJ f) l d=some r from hJ)
 clear hJ
 obtain⟨⟨k,t,n,p⟩,ht⟩:∃t,hdT l=t:=⟨_,rfl⟩
 have HT:=hZ ht
 clear ht
 have HJ1:=hZ ((by have:=uZ HJ0;unfold jDo at this;rw [uZ HT] at this;exact this))
 clear HJ0
 have CC:=hZ ((by have:=token_any (uZ S1).rd;rw [uZ HT] at this;simp only [tkA] at this;exact this))
 go_wp2_with fail
 refine(uZ CC).mono ?_
 rintro e w2 ⟨rfl,b⟩
 have S2:=hZ ((uZ S1).below b)
 clear b CC S1
 go_upto_region 2 with (first|(refine wpl_tk3 rfl _ rfl _ _ _ _ rfl ?_)|(refine wpl_tk1 rfl _ rfl _ _ _ _ rfl ?_)|(refine wpl_tk0 rfl _ rfl _ _ _ _ rfl ?_))
 obtain⟨w3,hw⟩:=eX (w2.alloc (.cells #[.int .i64 12,.string ⟨#[]⟩,.int .i64 0,.int .i64 0,.string ⟨#[]⟩,.slice none 0 0,.slice none 0 0,.bool false,.slice none 0 0,.int .i64 (p:Int)] 28))
 have b:=alB hw
 obtain⟨Q,hQ⟩:=eX (w2.heap.size)
 have HBQ_3:Hid (w3.heap[Q]?=some (.cells #[.int .i64 12,.string ⟨#[]⟩,.int .i64 0,.int .i64 0,.string ⟨#[]⟩,.slice none 0 0,.slice none 0 0,.bool false,.slice none 0 0,.int .i64 (p:Int)] 28 (0,0))):=hZ (by rw [←hw,←hQ];exact heap_alloc_new _ _)
 have S3:=hZ ((uZ S2).below b)
 have ltQ:w.heap.size<Q:=by rw [←hQ];exact(uZ S2).lt
 rw [hw]
 try rw [hQ]
 clear hw hQ b S2
 obtain⟨yx,hy,hth⟩:=bnd_some (uZ HJ1)
 have HJ2:=hZ (hth)
 clear HJ1
 clear hth
 have CR:=hZ (ihe hy (uZ S3).rd)
 have HYX:=hZ hy
 clear hy
 rcases yx with ⟨ea,ep⟩|⟨nsx,lx⟩
 ·have HR:=hZ (thn_err (uZ HJ2))
  go_wp2_with fail
  refine(uZ CR).mono ?_
  rintro e wx ⟨rfl,b⟩
  have HX:=hZ ((uZ S3).bad b)
  clear b CR
  unfold fltP
  go_wp2_with fail
  exact⟨rfl,by rw [uZ HR];exact⟨rfl,uZ HX⟩⟩
 ·have HJ3:=hZ (thn_ok (uZ HJ2))
  clear HJ2
  go_wp2_with fail
  refine(uZ CR).mono ?_
  rintro e w4 ⟨kx,tx,vkx,vnx,vsx,fx,nx,akx,ckx,px,Zx,rfl,hlx,hn,r2,b⟩
  have S4:=hZ ((uZ S3).go b r2)
  have HBQ_4:=bx_go HBQ_3 b (by omega)
  obtain⟨lox,hlo⟩:=eX (w3.heap.size)
  have ltlox:w.heap.size<lox:=by rw [←hlo];exact(uZ S3).lt
  have lqQ_x:Q<lox:=by rw [←hlo];exact(Array.getElem?_eq_some_iff.1 (uZ HBQ_3)).1
  rw [hlo] at hn
  have HNx_4:=hZ hn
  clear hlo b r2 hn CR S3 HBQ_3
  have hkn:=hZ (uZ HNx_4)
  obtain⟨w5,hwr⟩:=eX (w4.alloc (.cells #[.int .i64 (kx:Int),.string (bA tx),.int .i64 (vkx:Int),.int .i64 (vnx:Int),.string (bA vsx),.slice none 0 0,.slice none 0 0,.bool fx,.slice akx nx ckx,.int .i64 (px:Int)] 28))
  have b:=alB hwr
  obtain⟨qr,hqr⟩:=eX (w4.heap.size)
  have HKr_5:Hid (Kr lox w5 _ (.slice (some ⟨qr,0,none⟩) _ _) [.int .i64 (kx:Int),.string (bA tx),.int .i64 (vkx:Int),.int .i64 (vnx:Int),.string (bA vsx),.slice none 0 0,.slice none 0 0,.bool fx,.slice akx nx ckx,.int .i64 (px:Int)] _):=hZ (by rw [←hwr,←hqr];exact Kr.mk' (uZ hkn) (by rw [hlx];decide))
  rw [hlx] at HKr_5
  have ltr:w.heap.size<qr:=by rw [←hqr];exact(uZ S4).lt
  have S5:=hZ ((uZ S4).below b)
  have HBQ_5:=bx_be HBQ_4 b
  clear b hkn S4 HBQ_4 HNx_4
  obtain⟨-,-,-,-,-,-,-,-,Qc8,-⟩:=row_cell10 (uZ HBQ_5)
  have Qf8:=frozen_of_row w5 Q 8 _ _ (uZ HBQ_5)
  go_upto_region 3 with fail
  clear Qc8 Qf8 hwr hqr
  obtain⟨w6,hw⟩:=eX (w5.setCell ⟨Q,8,none⟩ (.slice (some ⟨qr,0,none⟩) 1 1))
  have HBQ_6:Hid (w6.heap[Q]?=some (.cells #[.int .i64 12,.string ⟨#[]⟩,.int .i64 0,.int .i64 0,.string ⟨#[]⟩,.slice none 0 0,.slice none 0 0,.bool false,.slice (some ⟨qr,0,none⟩) 1 1,.int .i64 (p:Int)] 28 (0,0))):=hZ (by rw [←hw,heap_setCell_same w5 Q 8 _ _ _ (uZ HBQ_5)];rfl)
  have S6:Hid (St w c 28 #[.int .i64 0,.string ⟨#[]⟩,.int .i64 0,.int .i64 0,.string ⟨#[]⟩,.slice none 0 0,.slice none 0 0,.bool false,.slice none 0 0,.int .i64 0] w6 lx d):=hZ (by rw [←hw];exact(uZ S5).own Q 8 _ ltQ)
  have HKr_6:=hZ ((uZ HKr_5).but (q:=Q) (w':=w6) (fun b _ hb=>by rw [←hw];exact heap_setCell_other _ _ _ _ hb) (by rw [←hw];simp) (by omega))
  rw [hw]
  clear hw S5 HBQ_5 HKr_5
  by_cases hb:isS [59] lx=true
  ·have hq:isS [59] lx=true:=by simpa using hb
   have HJ4:=hZ (thn_sg hq (uZ HJ3))
   clear HJ3
   have CC:=hZ (psg_ok (uZ S6).rd [59] hq)
   go_wp2_with fail
   refine(uZ CC).mono ?_
   rintro e w7 ⟨rfl,r2,b⟩
   have S7:=hZ ((uZ S6).go b r2)
   have HBQ_7:=bx_go HBQ_6 b (by omega)
   have HKr_7:=hZ ((uZ HKr_6).beside b (by omega))
   clear b r2 CC S6 HBQ_6 HKr_6
   have hr1:=okN_some (uZ HJ4)
   have hnn:=(uZ HKr_7).node' hlx 12 [] 0 0 [] false p
   have HR:=hZ (hr1)
   have BX:=(uZ S7).bx
   rw [hG] at BX
   obtain⟨g0,g1,g2,g3,g4,g5,g6,g7,g8,g9⟩:=row_cell10 BX
   obtain⟨z0,z1,z2,z3,z4,z5,z6,z7,z8,z9⟩:=frozen10 BX
   clear BX
   obtain⟨Qc0,Qc1,Qc2,Qc3,Qc4,Qc5,Qc6,Qc7,Qc8,Qc9⟩:=row_cell10 (uZ HBQ_7)
   have FF:=hZ (St.done (uZ S7) (hnn.low (by omega)) rfl hG)
   go_wp2_with fail
   refine rtN (p:=2) rfl rfl (uZ FF).1 rfl rfl ?_
   rw [uZ HR]
   exact(uZ FF).2
  ·have hq:isS [59] lx=false:=by simpa using hb
   have CC:=hZ (psg_bad (uZ S6).rd [59] hq)
   have HR:=hZ (thn_sgb hq (uZ HJ3))
   go_wp2_with fail
   refine(uZ CC).mono ?_
   rintro e wx ⟨rfl,b⟩
   have HX:=hZ ((uZ S6).bad b)
   clear b CC
   unfold fltP
   go_wp2_with fail
   exact⟨rfl,by rw [uZ HR];exact⟨rfl,uZ HX⟩⟩
end Go.Proofs.YtjdpaihhhjdgmaaGreatDoor
