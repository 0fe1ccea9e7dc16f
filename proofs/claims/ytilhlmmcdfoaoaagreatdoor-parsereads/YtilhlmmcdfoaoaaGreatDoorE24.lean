/-
  Layer 17 (parse): the document's reader: the reader of functions and statements whole; conditions: the reader's state.
  Layer 17 (parse): the document's reader as a function: it never goes back, keeps its first error, and comes to an end; plain lists, no conditions.
  Layer 17 (parse): the document's reader as a function comes to an end; plain lists, no conditions.
-/
import Derived.Test.YtilhlmmcdfoaoaaGreatDoorE19
import Derived.Test.YtilhlmmcdfoaoaaGreatDoorE20
import Derived.Test.YtilhlmmcdfoaoaaGreatDoorE21
import Derived.Test.YtilhlmmcdfoaoaaGreatDoorE22
import Derived.Test.YtilhlmmcdfoaoaaGreatDoorE23
import Derived.Test.YtilhlmmcdfoaoaaGreatDoorE00
set_option linter.unusedVariables false
set_option linter.unusedSimpArgs false
namespace Go.Proofs.YtilhlmmcdfoaoaaGreatDoor
open Go.RowKit
set_option linter.unusedVariables false
set_option linter.unusedSimpArgs false
structure AllS (F f:Nat):Prop where
 prog:∀{c:Cx} {σ:Sg} {w:World} {r:List Nd × Sg},RS c.ts F f 0 0 [] σ=some r→Rq w c σ→Calls Tryz.prog 13 #[.pointer (some ⟨c.g,0,none⟩)] w fun e w'=>NqP c w r e w'
 fn:∀{c:Cx} {σ:Sg} {w:World} {r:List Nd × Sg},RS c.ts F f 2 0 [] σ=some r→Rq w c σ→Calls Tryz.prog 24 #[.pointer (some ⟨c.g,0,none⟩)] w fun e w'=>NqP c w r e w'
 block:∀{c:Cx} {σ:Sg} {w:World} {r:List Nd × Sg},RS c.ts F f 4 0 [] σ=some r→Rq w c σ→Calls Tryz.prog 48 #[.pointer (some ⟨c.g,0,none⟩)] w fun e w'=>NqP c w r e w'
 stat:∀{c:Cx} {σ:Sg} {w:World} {r:List Nd × Sg},RS c.ts F f 6 0 [] σ=some r→Rq w c σ→Calls Tryz.prog 68 #[.pointer (some ⟨c.g,0,none⟩)] w fun e w'=>NqP c w r e w'
 lt:∀{c:Cx} {σ:Sg} {w:World} {r:List Nd × Sg},RS c.ts F f 7 0 [] σ=some r→Rq w c σ→Calls Tryz.prog 92 #[.pointer (some ⟨c.g,0,none⟩)] w fun e w'=>NqP c w r e w'
 cond:∀{c:Cx} {σ:Sg} {w:World} {r:List Nd × Sg},RS c.ts F f 8 0 [] σ=some r→Rq w c σ→Calls Tryz.prog 94 #[.pointer (some ⟨c.g,0,none⟩)] w fun e w'=>NqP c w r e w'
 choice:∀{c:Cx} {σ:Sg} {w:World} {r:List Nd × Sg},RS c.ts F f 9 0 [] σ=some r→Rq w c σ→Calls Tryz.prog 93 #[.pointer (some ⟨c.g,0,none⟩)] w fun e w'=>NqP c w r e w'
theorem alls_step (F f:Nat) (hF:AllQ F) (hf:f≤500000) (ih:∀f1,f1≤f→AllS F f1):AllS F (f+1):=by
 have i:=ih f (Nat.le_refl _)
 exact {
  prog:=fun hJ h=>progq_step (f:=f) hf (fun h1=>(ih _ h1).fn) hJ h
  fn:=fun hJ h=>fnq_step (f:=f) hf i.block hJ h
  block:=fun hJ h=>blockq_step (f:=f) hf (fun h1=>(ih _ h1).stat) hJ h
  stat:=fun hJ h=>statq_step (f:=f) hF.expr i.lt i.choice i.cond i.block hJ h
  lt:=fun hJ h=>letq_step (f:=f) hF.expr hJ h
  cond:=fun hJ h=>condq_step (f:=f) hF.expr hJ h
  choice:=fun hJ h=>choiceq_step (f:=f) i.cond i.block i.choice hJ h }
theorem all_AS (F:Nat) (hF:AllQ F):∀n f,f≤n→f≤500000→AllS F f
 |n,0,_,_=>⟨(fun hJ _=>by cases hJ),(fun hJ _=>by cases hJ),(fun hJ _=>by cases hJ),(fun hJ _=>by cases hJ),(fun hJ _=>by cases hJ),(fun hJ _=>by cases hJ),(fun hJ _=>by cases hJ)⟩
 |0,f+1,h,_=>by omega
 |n+1,f+1,h,hf=>alls_step F f hF (by omega) (fun f1 h1=>all_AS F hF n f1 (by omega) (by omega))
theorem nxQ_i (T:List Tk) (σ:Sg):σ.i≤(nxQ T σ).i:=by unfold nxQ;split <;> simp
theorem nxQ_l {T:List Tk} {σ:Sg} (h:σ.i<T.length):(nxQ T σ).i<T.length:=by unfold nxQ;split <;> assumption
theorem nxQ_e (T:List Tk) (σ:Sg):(nxQ T σ).e=σ.e∧(nxQ T σ).a=σ.a∧(nxQ T σ).o=σ.o:=by unfold nxQ;split <;> exact⟨rfl,rfl,rfl⟩
theorem wrQ_i (T:List Tk) (er:Nat) (σ:Sg):(wrQ T er σ).i=σ.i:=by unfold wrQ;split <;> rfl
theorem muQ_i (T:List Tk) (k:Nat) (s:List UInt8) (σ:Sg):σ.i≤(muQ T k s σ).2.i:=by
 unfold muQ
 split
 ·exact nxQ_i T σ
 ·exact Nat.le_of_eq (wrQ_i T 170 σ).symm
theorem muQ_l {T:List Tk} (k:Nat) (s:List UInt8) {σ:Sg} (h:σ.i<T.length):(muQ T k s σ).2.i<T.length:=by
 unfold muQ
 split
 ·exact nxQ_l h
 ·rw [wrQ_i];exact h
theorem opQ_i (T:List Tk) (σ:Sg):σ.i≤(opQ T σ).2.i:=by
 unfold opQ
 split
 ·exact Nat.le_of_eq (wrQ_i T 171 σ).symm
 ·exact nxQ_i T ⟨σ.i,wrI (σ.o+1),σ.e,σ.a⟩
theorem opQ_l {T:List Tk} {σ:Sg} (h:σ.i<T.length):(opQ T σ).2.i<T.length:=by
 unfold opQ
 split
 ·rw [wrQ_i];exact h
 ·exact nxQ_l (σ:=⟨σ.i,wrI (σ.o+1),σ.e,σ.a⟩) h
theorem clQ_i (T:List Tk) (s:List UInt8) (σ:Sg):σ.i≤(clQ T s σ).i:=muQ_i T 5 s σ
theorem clQ_l {T:List Tk} (s:List UInt8) {σ:Sg} (h:σ.i<T.length):(clQ T s σ).i<T.length:=muQ_l 5 s h
def Mi (T:List Tk) (a:Nat) (o:Option (List Nd × Sg)):Prop:=∀ns σ',o=some (ns,σ')→a≤σ'.i∧σ'.i<T.length
theorem mi_none {T:List Tk} {a:Nat}:Mi T a none:=fun _ _ h=>by cases h
theorem mi_ok {T:List Tk} {a:Nat} {n:List Nd} {σ:Sg} (h1:a≤σ.i) (h2:σ.i<T.length):Mi T a (okq n σ):=fun _ _ h=>by cases h;exact⟨h1,h2⟩
theorem mi_ite {T:List Tk} {a:Nat} {p:Prop} [Decidable p] {x y:Option (List Nd × Sg)} (h1:Mi T a x) (h2:Mi T a y):Mi T a (if p then x else y):=by split <;> assumption
theorem mi_bq {T:List Tk} {a:Nat} {o:Option (List Nd × Sg)} {k:List Nd→Sg→Option (List Nd × Sg)} (h:Mi T a o) (hk:∀ns σ,a≤σ.i→σ.i<T.length→Mi T a (k ns σ)):Mi T a (bq o k):=by
 cases o with
 |none=>exact mi_none
 |some y=>exact hk y.1 y.2 (h _ _ rfl).1 (h _ _ rfl).2
theorem mi_step {T:List Tk} {r:Jq} (ih:∀j x acc σ a,a≤σ.i→σ.i<T.length→Mi T a (r j x acc σ)) (j x:Nat) (acc:List Nd) (σ:Sg) (a:Nat) (h1:a≤σ.i) (h2:σ.i<T.length):Mi T a (stepQ T r j x acc σ):=by
 have hn:=Nat.le_trans h1 (nxQ_i T σ)
 have hn2:=nxQ_l h2
 have ho:=Nat.le_trans h1 (opQ_i T σ)
 have ho2:=opQ_l h2
 have hc:∀s,a≤(clQ T s σ).i:=fun s=>Nat.le_trans h1 (clQ_i T s σ)
 have hc2:∀s,(clQ T s σ).i<T.length:=fun s=>clQ_l s h2
 have hw:∀e,a≤(wrQ T e σ).i:=fun e=>by rw [wrQ_i];exact h1
 have hw2:∀e,(wrQ T e σ).i<T.length:=fun e=>by rw [wrQ_i];exact h2
 have hm:∀k s,a≤(muQ T k s (nxQ T σ)).2.i:=fun k s=>Nat.le_trans hn (muQ_i T k s _)
 have hm2:∀k s,(muQ T k s (nxQ T σ)).2.i<T.length:=fun k s=>muQ_l k s hn2
 have hp:=Nat.le_trans hn (opQ_i T (nxQ T σ))
 have hp2:=opQ_l hn2
 unfold stepQ
 split
 all_goals
  try simp only [qUnary,qRow,qRowL,qPostL,qPrim,qList,qListL,qPairs,qPairL,qBrack,qPost,litQ]
  repeat' (first|exact mi_none|exact ih _ _ _ _ _ (by assumption) (by assumption)|exact ih _ _ _ _ _ (hm _ _) (hm2 _ _)|exact mi_ok (by assumption) (by assumption)|exact mi_ok (hc _) (hc2 _)|exact mi_ok (hw _) (hw2 _)|refine mi_ite ?_ ?_|refine mi_bq ?_ (fun ns1 s1 g1 g2=>?_)|exact ih _ _ _ _ _ (Nat.le_trans (by assumption) (clQ_i _ _ _)) (clQ_l _ (by assumption))|exact ih _ _ _ _ _ (Nat.le_trans (by assumption) (nxQ_i _ _)) (nxQ_l (by assumption))|exact mi_ok (Nat.le_trans (by assumption) (clQ_i _ _ _)) (clQ_l _ (by assumption))|exact mi_ok (σ:=dnQ _) (by assumption) (by assumption))
theorem RJ_i {T:List Tk}:∀(f j x:Nat) (acc:List Nd) (σ:Sg) (a:Nat),a≤σ.i→σ.i<T.length→Mi T a (RJ T f j x acc σ)
 |0,_,_,_,_,_,_,_=>mi_none
 |f+1,j,x,acc,σ,a,h1,h2=>mi_step (RJ_i f) j x acc σ a h1 h2
def Er (σ:Sg) (E A:Nat):Prop:=σ.e=E∧σ.a=A
theorem er_nx {T:List Tk} {σ:Sg} {E A:Nat} (h:Er σ E A):Er (nxQ T σ) E A:=⟨(nxQ_e T σ).1.trans h.1,(nxQ_e T σ).2.1.trans h.2⟩
theorem er_wr {T:List Tk} {σ:Sg} {E A er:Nat} (hE:¬E=0) (h:Er σ E A):Er (wrQ T er σ) E A:=by unfold wrQ;rw [if_neg (by rw [h.1];exact hE)];exact h
theorem er_mu {T:List Tk} {σ:Sg} {E A:Nat} (hE:¬E=0) (k:Nat) (s:List UInt8) (h:Er σ E A):Er (muQ T k s σ).2 E A:=by
 unfold muQ
 split
 ·exact er_nx h
 ·exact er_wr hE h
theorem er_op {T:List Tk} {σ:Sg} {E A:Nat} (hE:¬E=0) (h:Er σ E A):Er (opQ T σ).2 E A:=by
 unfold opQ
 split
 ·exact er_wr hE h
 ·exact er_nx (σ:=⟨σ.i,wrI (σ.o+1),σ.e,σ.a⟩) h
theorem er_cl {T:List Tk} {σ:Sg} {E A:Nat} (hE:¬E=0) (s:List UInt8) (h:Er σ E A):Er (clQ T s σ) E A:=er_mu hE 5 s h
def Ke (E A:Nat) (o:Option (List Nd × Sg)):Prop:=∀ns σ',o=some (ns,σ')→Er σ' E A
theorem ke_none {E A:Nat}:Ke E A none:=fun _ _ h=>by cases h
theorem ke_ok {E A:Nat} {n:List Nd} {σ:Sg} (h1:Er σ E A):Ke E A (okq n σ):=fun _ _ h=>by cases h;exact h1
theorem ke_ite {E A:Nat} {p:Prop} [Decidable p] {x y:Option (List Nd × Sg)} (h1:Ke E A x) (h2:Ke E A y):Ke E A (if p then x else y):=by split <;> assumption
theorem ke_bq {E A:Nat} {o:Option (List Nd × Sg)} {k:List Nd→Sg→Option (List Nd × Sg)} (h:Ke E A o) (hk:∀ns σ,Er σ E A→Ke E A (k ns σ)):Ke E A (bq o k):=by
 cases o with
 |none=>exact ke_none
 |some y=>exact hk y.1 y.2 (h _ _ rfl)
theorem ke_step {T:List Tk} {r:Jq} {E A:Nat} (hE:¬E=0) (ih:∀j x acc σ,Er σ E A→Ke E A (r j x acc σ)) (j x:Nat) (acc:List Nd) (σ:Sg) (h1:Er σ E A):Ke E A (stepQ T r j x acc σ):=by
 unfold stepQ
 split
 all_goals
  try simp only [qUnary,qRow,qRowL,qPostL,qPrim,qList,qListL,qPairs,qPairL,qBrack,qPost,litQ]
  repeat' (first|exact ke_none|exact ih _ _ _ _ (by assumption)|exact ih _ _ _ _ (er_nx (by assumption))|exact ih _ _ _ _ (er_op hE (by assumption))|exact ih _ _ _ _ (er_op hE (er_nx (by assumption)))|exact ih _ _ _ _ (er_mu hE _ _ (er_nx (by assumption)))|exact ih _ _ _ _ (er_cl hE _ (by assumption))|exact ke_ok (by assumption)|exact ke_ok (er_nx (by assumption))|exact ke_ok (er_op hE (by assumption))|exact ke_ok (er_wr hE (by assumption))|exact ke_ok (er_cl hE _ (by assumption))|exact ke_ok (σ:=dnQ _) (by assumption)|refine ke_ite ?_ ?_|refine ke_bq ?_ (fun ns1 s1 g1=>?_))
theorem RJ_err {T:List Tk} {E A:Nat} (hE:¬E=0):∀(f j x:Nat) (acc:List Nd) (σ:Sg),Er σ E A→Ke E A (RJ T f j x acc σ)
 |0,_,_,_,_,_=>ke_none
 |f+1,j,x,acc,σ,h1=>ke_step hE (RJ_err hE f) j x acc σ h1
theorem tk_more {T:List Tk} (hfin:∃us p,T=us++[endT p]) {σ:Sg} (h:σ.i<T.length) (hk:¬(tkQ T σ).k=0):σ.i+1<T.length:=by
 rcases Nat.lt_or_ge (σ.i+1) T.length with h1|h1
 ·exact h1
 ·exfalso
  obtain⟨us,p,rfl⟩:=hfin
  rw [List.length_append,List.length_singleton] at h h1
  apply hk
  unfold tkQ hdT
  rw [List.drop_append_of_le_length (by omega),show us.drop σ.i=[] from List.drop_eq_nil_of_le (by omega)]
  rfl
theorem nx_s {T:List Tk} (hfin:∃us p,T=us++[endT p]) {σ:Sg} (h:σ.i<T.length) (hk:¬(tkQ T σ).k=0):(nxQ T σ).i=σ.i+1∧σ.i+1<T.length:=by
 have h1:=tk_more hfin h hk
 unfold nxQ
 rw [if_pos h1]
 exact⟨rfl,h1⟩
theorem op_s {T:List Tk} (hfin:∃us p,T=us++[endT p]) {σ:Sg} (h:σ.i<T.length) (hk:¬(tkQ T σ).k=0) (he:(opQ T σ).2.e=0):(opQ T σ).2.i=σ.i+1∧σ.i+1<T.length∧σ.e=0∧¬24≤σ.o:=by
 by_cases h24:24≤σ.o
 ·exfalso
  unfold opQ at he
  rw [if_pos h24] at he
  unfold wrQ at he
  simp only [] at he
  split at he
  ·simp at he
  ·contradiction
 ·have e1:opQ T σ=(tkQ T σ,nxQ T ⟨σ.i,wrI (σ.o+1),σ.e,σ.a⟩):=by unfold opQ;rw [if_neg h24]
  have h2:=nx_s hfin (σ:=⟨σ.i,wrI (σ.o+1),σ.e,σ.a⟩) h hk
  rw [e1] at he ⊢
  exact⟨h2.1,h2.2,(nxQ_e T ⟨σ.i,wrI (σ.o+1),σ.e,σ.a⟩).1.symm.trans he,h24⟩
theorem isQ_k {T:List Tk} {k:Nat} {s:List UInt8} {σ:Sg} (h:isQ T k s σ=true):σ.e=0∧(tkQ T σ).k=k∧(k=1∨k=3∨k=4∨k=0∨(tkQ T σ).t=s):=by unfold isQ at h;exact of_decide_eq_true h
def rnk (j x:Nat):Nat:=if j=0 then 10 else if j=1 then 3 else if j=2 then 10 - min x 6 else if j=3 then 3 else if j=4 then 1 else if j=5 then 1 else if j=6 then 12 else if j=7 then 11 else if j=8 then 12 else if j=9 then 11 else if j=24 then 2 else 0
def gjq (j:Nat):Prop:=j≤9∨j=23∨j=24
theorem tt_bq {o:Option (List Nd × Sg)} {k:List Nd→Sg→Option (List Nd × Sg)} (h:∃r,o=some r) (hk:∀ns σ,o=some (ns,σ)→∃r,k ns σ=some r):∃r,bq o k=some r:=by
 obtain⟨⟨ns,σ⟩,rfl⟩:=h
 exact hk ns σ rfl
theorem tt_ok (n:List Nd) (σ:Sg):∃r,okq n σ=some r:=⟨_,rfl⟩
theorem tt_ite {p:Prop} [Decidable p] {x y:Option (List Nd × Sg)} (h1:p→∃r,x=some r) (h2:¬p→∃r,y=some r):∃r,(if p then x else y)=some r:=by
 split
 ·exact h1 (by assumption)
 ·exact h2 (by assumption)
theorem RJ_tot {T:List Tk} (hfin:∃us p,T=us++[endT p]):∀(f j x:Nat) (acc:List Nd) (σ:Sg),gjq j→(j=2∨j=3→1≤x)→σ.i<T.length→32 * (T.length - σ.i)+rnk j x<f→∃r,RJ T f j x acc σ=some r
 |0,j,x,acc,σ,_,_,_,h=>by omega
 |f+1,j,x,acc,σ,hj,hx,hi,h=>by
  have ih:=RJ_tot hfin f
  have go:∀(j x:Nat) (acc:List Nd) (s:Sg),gjq j→(j=2∨j=3→1≤x)→s.i<T.length→32 * (T.length - s.i)+rnk j x<f→∃r,RJ T f j x acc s=some r:=ih
  have mi:∀{j x:Nat} {acc:List Nd} {s:Sg} {ns:List Nd} {s':Sg},s.i<T.length→RJ T f j x acc s=some (ns,s')→s.i≤s'.i∧s'.i<T.length:=fun h1 h2=>RJ_i f _ _ _ _ _ (Nat.le_refl _) h1 _ _ h2
  show ∃r,stepQ T (RJ T f) j x acc σ=some r
  have hc:j=0∨j=1∨j=2∨j=3∨j=4∨j=5∨j=6∨j=7∨j=8∨j=9∨j=23∨j=24:=by unfold gjq at hj;omega
  have g:∀j,j≤9→gjq j:=fun j h=>.inl h
  rcases hc with rfl|rfl|rfl|rfl|rfl|rfl|rfl|rfl|rfl|rfl|rfl|rfl
  ·simp only [rnk,reduceIte] at h
   exact go 2 1 [] σ (g _ (by decide)) (by omega) hi (by simp [rnk];omega)
  ·simp only [rnk,Nat.reduceEqDiff,reduceIte] at h
   show ∃r,qUnary T (RJ T f) σ=some r
   refine tt_ite (fun hq=>?_) (fun _=>go 24 0 [] σ (.inr (.inr rfl)) (by omega) hi (by simp [rnk];omega))
   have hk:¬(tkQ T σ).k=0:=by rcases hq with hq|hq <;> (have:=(isQ_k hq).2.1;omega)
   refine tt_ite (fun he=>?_) (fun _=>tt_ok _ _)
   have hs:=op_s hfin hi hk he
   exact tt_bq (go 1 0 [] _ (g _ (by decide)) (by omega) (opQ_l hi) (by simp [rnk];omega)) (fun _ _ _=>tt_ok _ _)
  ·simp only [rnk,Nat.reduceEqDiff,reduceIte] at h
   have hx1:=hx (.inl rfl)
   show ∃r,qRow T (RJ T f) x σ=some r
   refine tt_ite (fun h5=>go 1 0 [] σ (g _ (by decide)) (by omega) hi (by simp [rnk];omega)) (fun h5=>?_)
   refine tt_bq (go 2 (x+1) [] σ (g _ (by decide)) (by omega) hi (by simp [rnk];omega)) (fun ns s1 h1=>?_)
   have:=mi hi h1
   exact go 3 x ns s1 (g _ (by decide)) (fun _=>hx1) this.2 (by simp [rnk];omega)
  ·simp only [rnk,Nat.reduceEqDiff,reduceIte] at h
   have hx1:=hx (.inr rfl)
   show ∃r,qRowL T (RJ T f) x acc σ=some r
   refine tt_ite (fun hq=>?_) (fun _=>tt_ok _ _)
   have hk:¬(tkQ T σ).k=0:=fun e=>by
    have h2:=hq.2
    unfold lvT at h2
    rw [if_neg (by omega)] at h2
    omega
   have hs:=nx_s hfin hi hk
   refine tt_bq (go 2 (x+1) [] _ (g _ (by decide)) (by omega) (nxQ_l hi) (by simp [rnk];omega)) (fun ns s1 h1=>?_)
   have:=mi (nxQ_l hi) h1
   exact tt_ite (fun _=>tt_ok _ _) (fun _=>go 3 x _ s1 (g _ (by decide)) (fun _=>hx1) this.2 (by simp [rnk];omega))
  ·simp only [rnk,Nat.reduceEqDiff,reduceIte] at h
   show ∃r,qPostL T (RJ T f) acc σ=some r
   refine tt_ite (fun he=>?_) (fun _=>tt_ok _ _)
   refine tt_ite (fun hq=>?_) (fun _=>?_)
   ·have hk:¬(tkQ T σ).k=0:=by have:=(isQ_k hq).2.1;omega
    refine tt_ite (fun he2=>?_) (fun _=>tt_ok _ _)
    have hs:=op_s hfin hi hk he2
    refine tt_bq (go 0 0 [] _ (g _ (by decide)) (by omega) (opQ_l hi) (by simp [rnk];omega)) (fun ns s1 h1=>?_)
    have:=mi (opQ_l hi) h1
    have hc1:=clQ_i T [93] s1
    exact go 4 0 _ _ (g _ (by decide)) (by omega) (clQ_l _ this.2) (by simp [rnk];omega)
   ·refine tt_ite (fun hq=>?_) (fun _=>tt_ok _ _)
    have hk:¬(tkQ T σ).k=0:=by have:=(isQ_k hq).2.1;omega
    have hs:=nx_s hfin hi hk
    have hm:=muQ_i T 1 [] (nxQ T σ)
    exact go 4 0 _ _ (g _ (by decide)) (by omega) (muQ_l _ _ (nxQ_l hi)) (by simp [rnk];omega)
  ·simp only [rnk,Nat.reduceEqDiff,reduceIte] at h
   show ∃r,qPrim T (RJ T f) σ=some r
   refine tt_ite (fun he=>?_) (fun _=>tt_ok _ _)
   refine tt_ite (fun _=>tt_ok _ _) (fun _=>tt_ite (fun _=>tt_ok _ _) (fun _=>tt_ite (fun _=>tt_ok _ _) (fun _=>tt_ite (fun _=>tt_ok _ _) (fun _=>tt_ite (fun _=>tt_ok _ _) (fun _=>tt_ite (fun hk1=>?_) (fun _=>?_))))))
   ·have hk:¬(tkQ T σ).k=0:=by omega
    have hs:=nx_s hfin hi hk
    refine tt_ite (fun hq=>?_) (fun _=>tt_ok _ _)
    have hp:=opQ_i T (nxQ T σ)
    exact tt_bq (go 6 41 [] _ (g _ (by decide)) (by omega) (opQ_l (nxQ_l hi)) (by simp [rnk];omega)) (fun _ _ _=>tt_ok _ _)
   ·exact go 23 0 [] σ (.inr (.inl rfl)) (by omega) hi (by simp [rnk];omega)
  ·simp only [rnk,Nat.reduceEqDiff,reduceIte] at h
   show ∃r,qList T (RJ T f) x σ=some r
   exact tt_ite (fun _=>tt_ok _ _) (fun _=>go 7 x [] σ (g _ (by decide)) (by omega) hi (by simp [rnk];omega))
  ·simp only [rnk,Nat.reduceEqDiff,reduceIte] at h
   show ∃r,qListL T (RJ T f) x acc σ=some r
   refine tt_ite (fun he=>?_) (fun _=>tt_ok _ _)
   refine tt_bq (go 0 0 [] σ (g _ (by decide)) (by omega) hi (by simp [rnk];omega)) (fun ns s1 h1=>?_)
   have hm:=mi hi h1
   refine tt_ite (fun hq=>?_) (fun _=>tt_ok _ _)
   have hk:¬(tkQ T s1).k=0:=by have:=(isQ_k hq).2.1;omega
   have hs:=nx_s hfin hm.2 hk
   exact go 7 x _ _ (g _ (by decide)) (by omega) (nxQ_l hm.2) (by simp [rnk];omega)
  ·simp only [rnk,Nat.reduceEqDiff,reduceIte] at h
   show ∃r,qPairs T (RJ T f) σ=some r
   exact tt_ite (fun _=>tt_ok _ _) (fun _=>go 9 0 [] σ (g _ (by decide)) (by omega) hi (by simp [rnk];omega))
  ·simp only [rnk,Nat.reduceEqDiff,reduceIte] at h
   show ∃r,qPairL T (RJ T f) acc σ=some r
   refine tt_ite (fun he=>?_) (fun _=>tt_ok _ _)
   refine tt_ite (fun _=>tt_ok _ _) (fun hb=>?_)
   have hk:¬(tkQ T σ).k=0:=fun e=>hb (.inl ⟨by omega,by omega⟩)
   have hs:=nx_s hfin hi hk
   have hmu:=muQ_i T 5 [58] (nxQ T σ)
   refine tt_bq (go 0 0 [] _ (g _ (by decide)) (by omega) (muQ_l _ _ (nxQ_l hi)) (by simp [rnk];omega)) (fun ns s1 h1=>?_)
   have hm:=mi (muQ_l _ _ (nxQ_l hi)) h1
   refine tt_ite (fun hq=>?_) (fun _=>tt_ok _ _)
   have hk2:¬(tkQ T s1).k=0:=by have:=(isQ_k hq).2.1;omega
   have hs2:=nx_s hfin hm.2 hk2
   exact go 9 0 _ _ (g _ (by decide)) (by omega) (nxQ_l hm.2) (by simp [rnk];omega)
  ·simp only [rnk,Nat.reduceEqDiff,reduceIte] at h
   show ∃r,qBrack T (RJ T f) σ=some r
   refine tt_ite (fun hb=>?_) (fun _=>tt_ok _ _)
   have hk:¬(tkQ T σ).k=0:=by have:=hb.1;omega
   refine tt_ite (fun he=>?_) (fun _=>tt_ok _ _)
   have hs:=op_s hfin hi hk he
   refine tt_ite (fun _=>?_) (fun _=>tt_ite (fun _=>?_) (fun _=>?_))
   ·exact tt_bq (go 0 0 [] _ (g _ (by decide)) (by omega) (opQ_l hi) (by simp [rnk];omega)) (fun _ _ _=>tt_ok _ _)
   ·exact tt_bq (go 6 93 [] _ (g _ (by decide)) (by omega) (opQ_l hi) (by simp [rnk];omega)) (fun _ _ _=>tt_ok _ _)
   ·exact tt_bq (go 8 0 [] _ (g _ (by decide)) (by omega) (opQ_l hi) (by simp [rnk];omega)) (fun _ _ _=>tt_ok _ _)
  ·simp only [rnk,Nat.reduceEqDiff,reduceIte] at h
   show ∃r,qPost T (RJ T f) σ=some r
   refine tt_bq (go 5 0 [] σ (g _ (by decide)) (by omega) hi (by simp [rnk];omega)) (fun ns s1 h1=>?_)
   have hm:=mi hi h1
   exact go 4 0 ns s1 (g _ (by decide)) (by omega) hm.2 (by simp [rnk];omega)
end Go.Proofs.YtilhlmmcdfoaoaaGreatDoor
