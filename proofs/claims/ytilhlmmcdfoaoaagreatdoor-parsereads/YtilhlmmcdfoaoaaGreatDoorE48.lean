/-
  Layer 17 (parse): the walks of Program and Expr, of any source; conditions: what the variables of strconv hold.
  Layer 17 (parse): what can't go on with a token can't, whatever stands behind it, of sources; plain lists, no conditions.
  Layer 17 (parse): a tree's cells; the walk of the law's shown; conditions: what the variables of strconv hold.
  Layer 17 (parse): All, Program and Expr as the laws call them; conditions: what the variables of strconv hold.
-/
import Derived.Test.YtilhlmmcdfoaoaaGreatDoorE33
import Derived.Test.YtilhlmmcdfoaoaaGreatDoorE47
import Derived.Test.YtilhlmmcdfoaoaaGreatDoorE10
set_option linter.unusedVariables false
set_option linter.unusedSimpArgs false
namespace Go.Proofs.YtilhlmmcdfoaoaaGreatDoor
open Go.RowKit
set_option linter.unusedVariables false
set_option linter.unusedSimpArgs false
def PgOf (j:Nat) (s:List UInt8) (r:Rs (List Nd)):Prop:=(∃p er,allT s=.error (p,er)∧r=.error (er,p))∨(∃ts f,allT s=.ok ts∧PJ f j 0 [] ts 0=some r)
theorem lp_len:∀(f p:Nat) (l:List UInt8) (ts:List Tk),lpT f p l=.ok ts→ts.length≤l.length+1
 |0,p,l,ts,h=>by simp [lpT] at h
 |f+1,p,[],ts,h=>by
  simp only [lpT,Except.ok.injEq] at h
  subst h
  simp
 |f+1,p,c :: r,ts,h=>by
  obtain⟨t,n,us,h1,h2,rfl⟩:=lp_ok h
  have hn:=fst_pos h1
  have hlen:=rest_len (c :: r) n hn.2
  have ih:=lp_len f _ _ us h2
  simp only [List.length_cons] at hlen ih ⊢
  omega
theorem all_fin {s:List UInt8} {ts:List Tk} (h:allT s=.ok ts):ts.length≤10000∧∃us p,ts=us++[endT p]:=by
 have hs:=all_small h
 rw [all_split hs] at h
 have h1:=lp_len _ _ _ _ h
 have h2:=blk_le false s
 rw [List.length_drop] at h1
 obtain⟨us,hu⟩:=(lp_all (s.length+1) _ _ ts (by rw [List.length_drop];omega) h).1
 exact⟨by omega,us,_,hu⟩
def TrR (w:World) (r:Rs (List Nd)) (e:Ending) (w':World):Prop:=∃(k:Nat) (t:List UInt8) (vk vn:Nat) (vs:List UInt8) (f:Bool) (n:Nat) (ak:Option Addr) (ck p:Nat) (pl er:Nat) (S:List Nat),
 e=.returned (.tuple #[.agg #[.int .i64 (k:Int),.string (bA t),.int .i64 (vk:Int),.int .i64 (vn:Int),.string (bA vs),.slice none 0 0,.slice none 0 0,.bool f,.slice ak n ck,.int .i64 (p:Int)],.int .i64 (pl:Int),.int .i64 (er:Int)]) ∧
 Hid (match r with
 |.error (a,q)=>(k=0∧t=[]∧vk=0∧vn=0∧vs=[]∧f=false∧n=0∧ak=none∧ck=0∧p=0)∧pl=q∧er=a
 |.ok (ns,l)=>((hdT l).k=0→pl=0∧er=0∧ns.length=1∧NdOk w.heap.size w' ns (ndC k t vk vn vs f n ak ck p) S)∧(¬(hdT l).k=0→(k=0∧t=[]∧vk=0∧vn=0∧vs=[]∧f=false∧n=0∧ak=none∧ck=0∧p=0)∧pl=(hdT l).p∧er=170))
theorem zero10:(.agg ndZ:Value)=.agg #[.int .i64 ((0:Nat):Int),.string (bA []),.int .i64 ((0:Nat):Int),.int .i64 ((0:Nat):Int),.string (bA []),.slice none 0 0,.slice none 0 0,.bool false,.slice none 0 0,.int .i64 ((0:Nat):Int)]:=rfl
theorem RdR.tr {w w':World} {r:Rs (List Nd)} {e:Ending} (h:RdR w r e w'):TrR w r e w':=by
 match r,h with
 |.error (a,q),h=>
  rw [show e=_ from h,zero10]
  exact⟨0,[],0,0,[],false,0,none,0,0,q,a,[],rfl,⟨rfl,rfl,rfl,rfl,rfl,rfl,rfl,rfl,rfl,rfl⟩,rfl,rfl⟩
 |.ok (ns,l),h=>
  by_cases hk:(hdT l).k=0
  ·obtain⟨k,t,vk,vn,vs,f,n,ak,ck,p,S,rfl,h1,h2⟩:=h.1 hk
   exact⟨k,t,vk,vn,vs,f,n,ak,ck,p,0,0,S,rfl,fun _=>⟨rfl,rfl,h1,h2⟩,fun e=>absurd hk e⟩
  ·rw [h.2 hk,zero10]
   exact⟨0,[],0,0,[],false,0,none,0,0,(hdT l).p,170,[],rfl,fun e=>absurd e hk,fun _=>⟨⟨rfl,rfl,rfl,rfl,rfl,rfl,rfl,rfl,rfl,rfl⟩,rfl,rfl⟩⟩
theorem all_er {s:List UInt8} {p er:Nat} (h:allT s=.error (p,er)):¬er=0:=by
 unfold allT at h
 split at h
 ·simp at h;omega
 ·have:=lp_fault _ _ _ _ _ (by rw [List.length_drop];omega) h
  omega
theorem readU_p (s:ByteArray) (w:World) (he:Ev w) (hw6:5<w.heap.size) {r:Rs (List Nd)} (h:PgOf 27 s.data.toList r) :
  Calls Tryz.prog 10 #[.string s,.func (Fn.func 11) #[] #[]] w fun e w'=>TrR w r e w'∧Below w.heap.size w w':=by
 rcases h with ⟨p,er,h1,rfl⟩|⟨ts,f,h1,h2⟩
 ·exact(read_bad s _ w he hw6 h1 (all_er h1)).mono (fun e w' h=>⟨RdR.tr (r:=.error (er,p)) h.1,h.2⟩)
 ·exact(read_p s w he hw6 h1 (all_fin h1).1 (all_fin h1).2 (fun c w h=>(all_J f f (Nat.le_refl _)).prog h2 h)).mono (fun e w' h=>⟨h.1.tr,h.2⟩)
set_option maxRecDepth 100000 in
set_option maxHeartbeats 4000000 in
theorem program_any (s:ByteArray) (w:World) (he:Ev w) (hw6:5<w.heap.size) {r:Rs (List Nd)} (h:PgOf 27 s.data.toList r) :
  Calls Tryz.prog 5 #[.string s] w fun e w'=>TrR w r e w'∧Below w.heap.size w w':=by
 obtain⟨R,hR⟩:∃R:Ending→World→Prop,∀e w',R e w'↔TrR w r e w':=⟨fun e w'=>TrR w r e w',fun _ _=>Iff.rfl⟩
 have HR:=hZ hR
 suffices hX:Calls Tryz.prog 5 #[.string s] w fun e w'=>R e w'∧Below w.heap.size w w' from hX.mono (fun e w' h=>⟨(hR e w').1 h.1,h.2⟩)
 clear hR
 obtain⟨G,hG⟩:∃G,w.heap.size=G:=⟨_,rfl⟩
 obtain⟨w1,hw1⟩:∃w1,w.alloc (.cells ndZ 29)=w1:=⟨_,rfl⟩
 have A1:w1.heap[G]?=some (.cells ndZ 29 (0,0)):=by rw [←hw1,←hG];exact heap_alloc_new _ _
 have B1:Below w.heap.size w w1:=by rw [←hw1];exact(Below.refl _ _).alloc (Nat.le_refl _) _
 have CR:=hZ (readU_p s w1 (he.below B1 hw6) (by have:=B1.size;omega) h)
 have HW:=hZ hw1
 have H1:=hZ (And.intro A1 (And.intro B1 hG))
 clear he hw6 h A1 B1 hw1
 go_enter Tryz.func5,Tryz.ntmps5
 go_upto_region 1 with fail
 have e1:=uZ HW
 unfold ndZ at e1
 rw [e1]
 clear e1 HW
 go_wp2_with fail
 refine(uZ CR).mono ?_
 rintro e w2 ⟨⟨k,t,vk,vn,vs,f,n,ak,ck,p,pl,er,S,rfl,HX⟩,b2⟩
 obtain⟨A1,B1,hG2⟩:=uZ H1
 have hlt:G<w1.heap.size:=(Array.getElem?_eq_some_iff.1 A1).1
 have A2:=(b2.block G hlt).trans A1
 obtain⟨e0,e1,e2,e3,e4,e5,e6,e7,e8,e9⟩:=row_cell10 A2
 obtain⟨f0,f1,f2,f3,f4,f5,f6,f7,f8,f9⟩:=frozen10 A2
 have H2:=hZ (And.intro A2 (And.intro b2 hlt))
 clear A1 B1 hG2 hlt A2 b2 CR hG
 go_wp2_with fail
 obtain⟨A2,b2,hlt⟩:=uZ H2
 obtain⟨A1,B1,hG2⟩:=uZ H1
 have W3:=set10 A2 (.int .i64 (k:Int)) (.string (bA t)) (.int .i64 (vk:Int)) (.int .i64 (vn:Int)) (.string (bA vs)) (.slice none 0 0) (.slice none 0 0) (.bool f) (.slice ak n ck) (.int .i64 (p:Int))
 have O3:∀b,b≠G→((((((((((w2.setCell ⟨G,0,none⟩ (.int .i64 (k:Int))).setCell ⟨G,1,none⟩ (.string (bA t))).setCell ⟨G,2,none⟩ (.int .i64 (vk:Int))).setCell ⟨G,3,none⟩ (.int .i64 (vn:Int))).setCell ⟨G,4,none⟩ (.string (bA vs))).setCell ⟨G,5,none⟩ (.slice none 0 0)).setCell ⟨G,6,none⟩ (.slice none 0 0)).setCell ⟨G,7,none⟩ (.bool f)).setCell ⟨G,8,none⟩ (.slice ak n ck)).setCell ⟨G,9,none⟩ (.int .i64 (p:Int))).heap[b]?=w2.heap[b]?:=fun b hb=>by
  iterate 10 rw [heap_setCell_other _ _ _ _ hb]
 have E3:Below G w2 ((((((((((w2.setCell ⟨G,0,none⟩ (.int .i64 (k:Int))).setCell ⟨G,1,none⟩ (.string (bA t))).setCell ⟨G,2,none⟩ (.int .i64 (vk:Int))).setCell ⟨G,3,none⟩ (.int .i64 (vn:Int))).setCell ⟨G,4,none⟩ (.string (bA vs))).setCell ⟨G,5,none⟩ (.slice none 0 0)).setCell ⟨G,6,none⟩ (.slice none 0 0)).setCell ⟨G,7,none⟩ (.bool f)).setCell ⟨G,8,none⟩ (.slice ak n ck)).setCell ⟨G,9,none⟩ (.int .i64 (p:Int))):=by
  have e:∀(x:World) (f:Nat) (v:Value),Below G w2 x→Below G w2 (x.setCell ⟨G,f,none⟩ v):=fun x f v hx=>hx.setCell (p:=⟨G,f,none⟩) (Nat.le_refl _) v
  iterate 10 refine e _ _ _ ?_
  exact Below.refl _ _
 clear e0 e1 e2 e3 e4 e5 e6 e7 e8 e9 f0 f1 f2 f3 f4 f5 f6 f7 f8 f9
 generalize ((((((((((w2.setCell ⟨G,0,none⟩ (.int .i64 (k:Int))).setCell ⟨G,1,none⟩ (.string (bA t))).setCell ⟨G,2,none⟩ (.int .i64 (vk:Int))).setCell ⟨G,3,none⟩ (.int .i64 (vn:Int))).setCell ⟨G,4,none⟩ (.string (bA vs))).setCell ⟨G,5,none⟩ (.slice none 0 0)).setCell ⟨G,6,none⟩ (.slice none 0 0)).setCell ⟨G,7,none⟩ (.bool f)).setCell ⟨G,8,none⟩ (.slice ak n ck)).setCell ⟨G,9,none⟩ (.int .i64 (p:Int)))=w3 at W3 O3 E3 ⊢
 have bel:Below w.heap.size w w3:=by
  rw [hG2]
  rw [hG2] at B1
  have b2':Below G w1 w2:=⟨b2.os,b2.tape,b2.output,b2.size,fun k hk=>b2.block k (by omega)⟩
  exact(B1.trans b2').trans E3
 obtain⟨r0,r1,r2,r3,r4,r5,r6,r7,r8,r9⟩:=row_cell10 W3
 have HE:TrR w r (.returned (.tuple #[.agg #[.int .i64 (k:Int),.string (bA t),.int .i64 (vk:Int),.int .i64 (vn:Int),.string (bA vs),.slice none 0 0,.slice none 0 0,.bool f,.slice ak n ck,.int .i64 (p:Int)],.int .i64 (pl:Int),.int .i64 (er:Int)])) w3:=by
  refine⟨k,t,vk,vn,vs,f,n,ak,ck,p,pl,er,S,rfl,?_⟩
  have hx:=uZ HX
  match r,hx with
  |.error (a,q),hx=>exact hx
  |.ok (ns,l),hx=>
   refine⟨fun hk=>?_,hx.2⟩
   obtain⟨h1,h2,h3,h4⟩:=hx.1 hk
   exact⟨h1,h2,h3,(h4.to (fun b hb _ _=>O3 b (by omega)) E3.size).low (by have:=B1.size;omega)⟩
 refine bodyPost_ret (v:=.tuple #[.agg #[.int .i64 (k:Int),.string (bA t),.int .i64 (vk:Int),.int .i64 (vn:Int),.string (bA vs),.slice none 0 0,.slice none 0 0,.bool f,.slice ak n ck,.int .i64 (p:Int)],.int .i64 (pl:Int),.int .i64 (er:Int)]) ?_ rfl ⟨((uZ HR) _ _).2 HE,bel⟩
 simp [results,Tryz.results5,go_sem,r0,r1,r2,r3,r4,r5,r6,r7,r8,r9]
theorem readU_e (s:ByteArray) (w:World) (he:Ev w) (hw6:5<w.heap.size) {r:Rs (List Nd)} (h:PgOf 0 s.data.toList r) :
  Calls Tryz.prog 10 #[.string s,.func (Fn.func 15) #[] #[]] w fun e w'=>TrR w r e w'∧Below w.heap.size w w':=by
 rcases h with ⟨p,er,h1,rfl⟩|⟨ts,f,h1,h2⟩
 ·exact(read_bad s _ w he hw6 h1 (all_er h1)).mono (fun e w' h=>⟨RdR.tr (r:=.error (er,p)) h.1,h.2⟩)
 ·exact(read_e s w he hw6 h1 (all_fin h1).1 (all_fin h1).2 (fun c w h=>(all_J f f (Nat.le_refl _)).expr h2 h)).mono (fun e w' h=>⟨h.1.tr,h.2⟩)
set_option maxRecDepth 100000 in
set_option maxHeartbeats 4000000 in
theorem expr_any (s:ByteArray) (w:World) (he:Ev w) (hw6:5<w.heap.size) {r:Rs (List Nd)} (h:PgOf 0 s.data.toList r) :
  Calls Tryz.prog 9 #[.string s] w fun e w'=>TrR w r e w'∧Below w.heap.size w w':=by
 obtain⟨R,hR⟩:∃R:Ending→World→Prop,∀e w',R e w'↔TrR w r e w':=⟨fun e w'=>TrR w r e w',fun _ _=>Iff.rfl⟩
 have HR:=hZ hR
 suffices hX:Calls Tryz.prog 9 #[.string s] w fun e w'=>R e w'∧Below w.heap.size w w' from hX.mono (fun e w' h=>⟨(hR e w').1 h.1,h.2⟩)
 clear hR
 obtain⟨G,hG⟩:∃G,w.heap.size=G:=⟨_,rfl⟩
 obtain⟨w1,hw1⟩:∃w1,w.alloc (.cells ndZ 29)=w1:=⟨_,rfl⟩
 have A1:w1.heap[G]?=some (.cells ndZ 29 (0,0)):=by rw [←hw1,←hG];exact heap_alloc_new _ _
 have B1:Below w.heap.size w w1:=by rw [←hw1];exact(Below.refl _ _).alloc (Nat.le_refl _) _
 have CR:=hZ (readU_e s w1 (he.below B1 hw6) (by have:=B1.size;omega) h)
 have HW:=hZ hw1
 have H1:=hZ (And.intro A1 (And.intro B1 hG))
 clear he hw6 h A1 B1 hw1
 go_enter Tryz.func9,Tryz.ntmps9
 go_upto_region 1 with fail
 have e1:=uZ HW
 unfold ndZ at e1
 rw [e1]
 clear e1 HW
 go_wp2_with fail
 refine(uZ CR).mono ?_
 rintro e w2 ⟨⟨k,t,vk,vn,vs,f,n,ak,ck,p,pl,er,S,rfl,HX⟩,b2⟩
 obtain⟨A1,B1,hG2⟩:=uZ H1
 have hlt:G<w1.heap.size:=(Array.getElem?_eq_some_iff.1 A1).1
 have A2:=(b2.block G hlt).trans A1
 obtain⟨e0,e1,e2,e3,e4,e5,e6,e7,e8,e9⟩:=row_cell10 A2
 obtain⟨f0,f1,f2,f3,f4,f5,f6,f7,f8,f9⟩:=frozen10 A2
 have H2:=hZ (And.intro A2 (And.intro b2 hlt))
 clear A1 B1 hG2 hlt A2 b2 CR hG
 go_wp2_with fail
 obtain⟨A2,b2,hlt⟩:=uZ H2
 obtain⟨A1,B1,hG2⟩:=uZ H1
 have W3:=set10 A2 (.int .i64 (k:Int)) (.string (bA t)) (.int .i64 (vk:Int)) (.int .i64 (vn:Int)) (.string (bA vs)) (.slice none 0 0) (.slice none 0 0) (.bool f) (.slice ak n ck) (.int .i64 (p:Int))
 have O3:∀b,b≠G→((((((((((w2.setCell ⟨G,0,none⟩ (.int .i64 (k:Int))).setCell ⟨G,1,none⟩ (.string (bA t))).setCell ⟨G,2,none⟩ (.int .i64 (vk:Int))).setCell ⟨G,3,none⟩ (.int .i64 (vn:Int))).setCell ⟨G,4,none⟩ (.string (bA vs))).setCell ⟨G,5,none⟩ (.slice none 0 0)).setCell ⟨G,6,none⟩ (.slice none 0 0)).setCell ⟨G,7,none⟩ (.bool f)).setCell ⟨G,8,none⟩ (.slice ak n ck)).setCell ⟨G,9,none⟩ (.int .i64 (p:Int))).heap[b]?=w2.heap[b]?:=fun b hb=>by
  iterate 10 rw [heap_setCell_other _ _ _ _ hb]
 have E3:Below G w2 ((((((((((w2.setCell ⟨G,0,none⟩ (.int .i64 (k:Int))).setCell ⟨G,1,none⟩ (.string (bA t))).setCell ⟨G,2,none⟩ (.int .i64 (vk:Int))).setCell ⟨G,3,none⟩ (.int .i64 (vn:Int))).setCell ⟨G,4,none⟩ (.string (bA vs))).setCell ⟨G,5,none⟩ (.slice none 0 0)).setCell ⟨G,6,none⟩ (.slice none 0 0)).setCell ⟨G,7,none⟩ (.bool f)).setCell ⟨G,8,none⟩ (.slice ak n ck)).setCell ⟨G,9,none⟩ (.int .i64 (p:Int))):=by
  have e:∀(x:World) (f:Nat) (v:Value),Below G w2 x→Below G w2 (x.setCell ⟨G,f,none⟩ v):=fun x f v hx=>hx.setCell (p:=⟨G,f,none⟩) (Nat.le_refl _) v
  iterate 10 refine e _ _ _ ?_
  exact Below.refl _ _
 clear e0 e1 e2 e3 e4 e5 e6 e7 e8 e9 f0 f1 f2 f3 f4 f5 f6 f7 f8 f9
 generalize ((((((((((w2.setCell ⟨G,0,none⟩ (.int .i64 (k:Int))).setCell ⟨G,1,none⟩ (.string (bA t))).setCell ⟨G,2,none⟩ (.int .i64 (vk:Int))).setCell ⟨G,3,none⟩ (.int .i64 (vn:Int))).setCell ⟨G,4,none⟩ (.string (bA vs))).setCell ⟨G,5,none⟩ (.slice none 0 0)).setCell ⟨G,6,none⟩ (.slice none 0 0)).setCell ⟨G,7,none⟩ (.bool f)).setCell ⟨G,8,none⟩ (.slice ak n ck)).setCell ⟨G,9,none⟩ (.int .i64 (p:Int)))=w3 at W3 O3 E3 ⊢
 have bel:Below w.heap.size w w3:=by
  rw [hG2]
  rw [hG2] at B1
  have b2':Below G w1 w2:=⟨b2.os,b2.tape,b2.output,b2.size,fun k hk=>b2.block k (by omega)⟩
  exact(B1.trans b2').trans E3
 obtain⟨r0,r1,r2,r3,r4,r5,r6,r7,r8,r9⟩:=row_cell10 W3
 have HE:TrR w r (.returned (.tuple #[.agg #[.int .i64 (k:Int),.string (bA t),.int .i64 (vk:Int),.int .i64 (vn:Int),.string (bA vs),.slice none 0 0,.slice none 0 0,.bool f,.slice ak n ck,.int .i64 (p:Int)],.int .i64 (pl:Int),.int .i64 (er:Int)])) w3:=by
  refine⟨k,t,vk,vn,vs,f,n,ak,ck,p,pl,er,S,rfl,?_⟩
  have hx:=uZ HX
  match r,hx with
  |.error (a,q),hx=>exact hx
  |.ok (ns,l),hx=>
   refine⟨fun hk=>?_,hx.2⟩
   obtain⟨h1,h2,h3,h4⟩:=hx.1 hk
   exact⟨h1,h2,h3,(h4.to (fun b hb _ _=>O3 b (by omega)) E3.size).low (by have:=B1.size;omega)⟩
 refine bodyPost_ret (v:=.tuple #[.agg #[.int .i64 (k:Int),.string (bA t),.int .i64 (vk:Int),.int .i64 (vn:Int),.string (bA vs),.slice none 0 0,.slice none 0 0,.bool f,.slice ak n ck,.int .i64 (p:Int)],.int .i64 (pl:Int),.int .i64 (er:Int)]) ?_ rfl ⟨((uZ HR) _ _).2 HE,bel⟩
 simp [results,Tryz.results9,go_sem,r0,r1,r2,r3,r4,r5,r6,r7,r8,r9]
theorem prL_end:∀(f x:Nat) (acc:List Nd) (l:List Tk) (d:Nat) (ns:List Nd) (l':List Tk),PJ f 14 x acc l d=some (.ok (ns,l'))→(hdT l').k=0
 |0,_,_,_,_,_,_,h=>by cases h
 |f+1,x,acc,l,d,ns,l',h=>by
  have h':jPrL (PJ f) acc l d=some (.ok (ns,l')):=h
  unfold jPrL at h'
  by_cases hk:(hdT l).k=0
  ·rw [if_pos hk] at h'
   cases h'
   exact hk
  ·rw [if_neg hk] at h'
   cases hb:PJ f 13 0 [] l d with
   |none=>rw [hb] at h';cases h'
   |some y=>
    rw [hb] at h'
    cases y with
    |error e=>cases h'
    |ok z=>exact prL_end f 0 _ _ d ns l' h'
theorem prog_end {f x:Nat} {acc:List Nd} {l:List Tk} {d:Nat} {ns:List Nd} {l':List Tk} (h:PJ f 27 x acc l d=some (.ok (ns,l'))):(hdT l').k=0:=by
 cases f with
 |zero=>cases h
 |succ f=>
  have h':bnd (PJ f 14 0 [] l d) (fun ks l1=>okN [nd0 1 [] ks 0] l1)=some (.ok (ns,l')):=h
  cases hb:PJ f 14 0 [] l d with
  |none=>rw [hb] at h';cases h'
  |some y=>
   rw [hb] at h'
   cases y with
   |error e=>cases h'
   |ok z=>
    have h2:=prL_end f 0 [] l d z.1 z.2 hb
    cases h'
    exact h2
theorem one_of {lo:Nat} {w:World} {k':Nat} {t':List UInt8} {vk' vn':Nat} {vs':List UInt8} {f':Bool} {ks':List Nd} {p':Nat} {k:Nat} {t:List UInt8} {vk vn:Nat} {vs:List UInt8} {f:Bool} {n:Nat} {ak:Option Addr} {ck p:Nat} {S:List Nat}
  (h:NdOk lo w [⟨k',t',vk',vn',vs',f',ks',p'⟩] (ndC k t vk vn vs f n ak ck p) S):k=k'∧t=t'∧vk=vk'∧vn=vn'∧vs=vs'∧f=f'∧n=ks'.length∧p=p':=by
 have hn:=h.nl
 simp only [IsNL] at hn
 obtain⟨ak1,ck1,C',R,S1,S2,hC,hS,ho,h1,h2,h3⟩:=hn
 subst h2 h3
 simp only [ndC,List.append_nil,List.cons.injEq,Value.int.injEq,Value.string.injEq,Value.slice.injEq,Value.bool.injEq,true_and,and_true] at hC
 obtain⟨e1,e2,e3,e4,e5,e6,⟨e7,e8,e9⟩,e10⟩:=hC
 exact⟨by omega,bA_inj.1 e2,by omega,by omega,bA_inj.1 e5,e6,by omega,by omega⟩
def tsX:List Tk:=[⟨3,[],1,0⟩,⟨5,[43],0,2⟩,⟨1,[120],0,4⟩,endT 5]
def ndX:Nd:=⟨17,[43],0,0,[],false,[⟨13,[],2,1,[],false,[],0⟩,nd0 14 [120] [] 4],2⟩
theorem pgX:PgOf 0 [49,32,43,32,120] (.ok ([ndX],[endT 5])):=.inr ⟨tsX,60,by kernel_rfl,by kernel_rfl⟩
theorem TrR.yes {w:World} {k':Nat} {t':List UInt8} {vk' vn':Nat} {vs':List UInt8} {f':Bool} {ks':List Nd} {p':Nat} {l:List Tk} {e:Ending} {w':World} (hl:(hdT l).k=0) (h:TrR w (.ok ([⟨k',t',vk',vn',vs',f',ks',p'⟩],l)) e w') :
  ∃(ak:Option Addr) (ck:Nat) (S:List Nat),e=.returned (.tuple #[.agg #[.int .i64 (k':Int),.string (bA t'),.int .i64 (vk':Int),.int .i64 (vn':Int),.string (bA vs'),.slice none 0 0,.slice none 0 0,.bool f',.slice ak ks'.length ck,.int .i64 (p':Int)],.int .i64 0,.int .i64 0])∧NdOk w.heap.size w' [⟨k',t',vk',vn',vs',f',ks',p'⟩] (ndC k' t' vk' vn' vs' f' ks'.length ak ck p') S:=by
 obtain⟨k,t,vk,vn,vs,f,n,ak,ck,p,pl,er,S,rfl,h⟩:=h
 obtain⟨rfl,rfl,_,h2⟩:=(uZ h).1 hl
 obtain⟨rfl,rfl,rfl,rfl,rfl,rfl,rfl,rfl⟩:=one_of h2
 exact⟨ak,ck,S,rfl,h2⟩
theorem bx (u:World) (c:Array Value) (T:TypeId):(u.alloc (.cells c T)).heap[u.heap.size]?=some (.cells c T (0,0))∧Below u.heap.size u (u.alloc (.cells c T)):=⟨heap_alloc_new _ _,(Below.refl _ _).alloc (Nat.le_refl _) _⟩
set_option maxRecDepth 100000 in
set_option maxHeartbeats 1000000 in
theorem shown_any (w:World) (he:Ev w) (hw6:5<w.heap.size) :
  Calls Tryz.prog 4 #[] w fun e w'=>e=.returned (.bool true)∧Below w.heap.size w w':=by
 have CE:=hZ (expr_any ⟨#[49,32,43,32,120]⟩ w he hw6 pgX)
 clear he hw6
 go_enter Tryz.func4,Tryz.ntmps4
 go_wp2_with fail
 refine(uZ CE).mono ?_
 rintro e u ⟨h1,b1⟩
 obtain⟨ak,ck,S,rfl,hS⟩:=TrR.yes rfl h1
 clear h1 hS CE
 have B1:=hZ b1
 clear b1
 obtain⟨A2,B2⟩:=bx u #[.int .i64 17,.string (bA [43]),.int .i64 0,.int .i64 0,.string (bA []),.slice none 0 0,.slice none 0 0,.bool false,.slice ak 2 ck,.int .i64 2] 29
 obtain⟨w2,hw2⟩:∃w2,u.alloc (.cells #[.int .i64 17,.string (bA [43]),.int .i64 0,.int .i64 0,.string (bA []),.slice none 0 0,.slice none 0 0,.bool false,.slice ak 2 ck,.int .i64 2] 29)=w2:=⟨_,rfl⟩
 rw [hw2] at A2 B2
 obtain⟨r0,r1,r2,r3,r4,r5,r6,r7,r8,r9⟩:=row_cell10 A2
 have HB:Hid (Below w.heap.size w w2):=hZ ((uZ B1).trans (B2.mono (uZ B1).size))
 have HW:=hZ hw2
 clear A2 B2 hw2 B1
 go_upto_region 2 with fail
 rw [uZ HW]
 clear HW
 have q1:((bA [43]).toList == [43])=true:=by kernel_rfl
 obtain⟨g,hg⟩:∃g,u.heap.size=g:=⟨_,rfl⟩
 rw [hg] at r0 r1 r2 r3 r4 r5 r6 r7 r8 r9 ⊢
 clear hg
 go_wp2_with fail
 go_ret
 exact⟨rfl,uZ HB⟩
def erOf (r:Rs (List Nd)):Nat × Nat:=match r with
 |.error (a,q)=>(a,q)
 |.ok (_,l)=>if (hdT l).k=0 then (0,0) else (170,(hdT l).p)
end Go.Proofs.YtilhlmmcdfoaoaaGreatDoor
