/-
  Layer 17 (parse): every function of the reader, whatever the tokens; conditions: the reader's state.
  Layer 17 (parse): with fuel enough every job comes to an end; plain lists, no conditions.
-/
import Derived.Test.YtilhlmmcdfoaoaaGreatDoorE33
import Derived.Test.YtilhlmmcdfoaoaaGreatDoorE34
import Derived.Test.YtilhlmmcdfoaoaaGreatDoorE35
import Derived.Test.YtilhlmmcdfoaoaaGreatDoorE36
import Derived.Test.YtilhlmmcdfoaoaaGreatDoorE37
import Derived.Test.YtilhlmmcdfoaoaaGreatDoorE38
import Derived.Test.YtilhlmmcdfoaoaaGreatDoorE39
import Derived.Test.YtilhlmmcdfoaoaaGreatDoorE40
import Derived.Test.YtilhlmmcdfoaoaaGreatDoorE41
import Derived.Test.YtilhlmmcdfoaoaaGreatDoorE42
import Derived.Test.YtilhlmmcdfoaoaaGreatDoorE43
import Derived.Test.YtilhlmmcdfoaoaaGreatDoorE44
import Derived.Test.YtilhlmmcdfoaoaaGreatDoorE45
import Derived.Test.YtilhlmmcdfoaoaaGreatDoorE46
import Derived.Test.YtilhlmmcdfoaoaaGreatDoorE10
set_option linter.unusedVariables false
set_option linter.unusedSimpArgs false
namespace Go.Proofs.YtilhlmmcdfoaoaaGreatDoor
open Go.RowKit
set_option linter.unusedVariables false
set_option linter.unusedSimpArgs false
structure AllJ (f:Nat):Prop where
 expr:∀{c:Cx} {l:List Tk} {d:Nat} {w:World} {r:Rs (List Nd)},PJ f 0 0 [] l d=some r→Rd w c l d→Calls Tryz.prog 15 #[.pointer (some ⟨c.g,0,none⟩)] w fun e w'=>NdP c w d r e w'
 unary:∀{c:Cx} {l:List Tk} {d:Nat} {w:World} {r:Rs (List Nd)},PJ f 1 0 [] l d=some r→Rd w c l d→Calls Tryz.prog 49 #[.pointer (some ⟨c.g,0,none⟩)] w fun e w'=>NdP c w d r e w'
 reached:∀{c:Cx} {l:List Tk} {d:Nat} {w:World} {r:Rs (List Nd)},PJ f 24 0 [] l d=some r→Rd w c l d→Calls Tryz.prog 70 #[.pointer (some ⟨c.g,0,none⟩)] w fun e w'=>NdP c w d r e w'
 operand:∀{c:Cx} {l:List Tk} {d:Nat} {w:World} {r:Rs (List Nd)},PJ f 5 0 [] l d=some r→Rd w c l d→Calls Tryz.prog 95 #[.pointer (some ⟨c.g,0,none⟩)] w fun e w'=>NdP c w d r e w'
 name:∀{c:Cx} {l:List Tk} {d:Nat} {w:World} {r:Rs (List Nd)},PJ f 21 0 [] l d=some r→Rd w c l d→Calls Tryz.prog 104 #[.pointer (some ⟨c.g,0,none⟩)] w fun e w'=>NdP c w d r e w'
 group:∀{c:Cx} {l:List Tk} {d:Nat} {w:World} {r:Rs (List Nd)},PJ f 23 0 [] l d=some r→Rd w c l d→Calls Tryz.prog 108 #[.pointer (some ⟨c.g,0,none⟩)] w fun e w'=>NdP c w d r e w'
 pair:∀{c:Cx} {l:List Tk} {d:Nat} {w:World} {r:Rs (List Nd)},PJ f 8 0 [] l d=some r→Rd w c l d→Calls Tryz.prog 107 #[.pointer (some ⟨c.g,0,none⟩)] w fun e w'=>NdP c w d r e w'
 param:∀{c:Cx} {l:List Tk} {d:Nat} {w:World} {r:Rs (List Nd)},PJ f 25 0 [] l d=some r→Rd w c l d→Calls Tryz.prog 34 #[.pointer (some ⟨c.g,0,none⟩)] w fun e w'=>NdP c w d r e w'
 w1:∀{c:Cx} {l:List Tk} {d:Nat} {w:World} {r:Rs (List Nd)},PJ f 22 1 [] l d=some r→Rd w c l d→Calls Tryz.prog 106 #[.pointer (some ⟨c.g,0,none⟩),.int .i64 15,.string (bA [40]),.string (bA [41]),.func (Fn.func 15) #[.pointer (some ⟨c.g,0,none⟩)] #[]] w fun e w'=>NdP c w d r e w'
 w2:∀{c:Cx} {l:List Tk} {d:Nat} {w:World} {r:Rs (List Nd)},PJ f 22 2 [] l d=some r→Rd w c l d→Calls Tryz.prog 106 #[.pointer (some ⟨c.g,0,none⟩),.int .i64 18,.string (bA [91]),.string (bA [93]),.func (Fn.func 15) #[.pointer (some ⟨c.g,0,none⟩)] #[]] w fun e w'=>NdP c w d r e w'
 w3:∀{c:Cx} {l:List Tk} {d:Nat} {w:World} {r:Rs (List Nd)},PJ f 22 3 [] l d=some r→Rd w c l d→Calls Tryz.prog 106 #[.pointer (some ⟨c.g,0,none⟩),.int .i64 19,.string (bA [123]),.string (bA [125]),.func (Fn.func 107) #[.pointer (some ⟨c.g,0,none⟩)] #[]] w fun e w'=>NdP c w d r e w'
 p0:∀{c:Cx} {l:List Tk} {d:Nat} {w:World} {r:Rs (List Nd)},PJ f 6 0 [] l d=some r→Rd w c l d→Calls Tryz.prog 33 #[.pointer (some ⟨c.g,0,none⟩),.string (bA [41]),.func (Fn.func 34) #[.pointer (some ⟨c.g,0,none⟩)] #[]] w fun e w'=>KsP c w d r e w'
 p1:∀{c:Cx} {l:List Tk} {d:Nat} {w:World} {r:Rs (List Nd)},PJ f 6 1 [] l d=some r→Rd w c l d→Calls Tryz.prog 33 #[.pointer (some ⟨c.g,0,none⟩),.string (bA [41]),.func (Fn.func 15) #[.pointer (some ⟨c.g,0,none⟩)] #[]] w fun e w'=>KsP c w d r e w'
 p2:∀{c:Cx} {l:List Tk} {d:Nat} {w:World} {r:Rs (List Nd)},PJ f 6 2 [] l d=some r→Rd w c l d→Calls Tryz.prog 33 #[.pointer (some ⟨c.g,0,none⟩),.string (bA [93]),.func (Fn.func 15) #[.pointer (some ⟨c.g,0,none⟩)] #[]] w fun e w'=>KsP c w d r e w'
 p3:∀{c:Cx} {l:List Tk} {d:Nat} {w:World} {r:Rs (List Nd)},PJ f 6 3 [] l d=some r→Rd w c l d→Calls Tryz.prog 33 #[.pointer (some ⟨c.g,0,none⟩),.string (bA [125]),.func (Fn.func 107) #[.pointer (some ⟨c.g,0,none⟩)] #[]] w fun e w'=>KsP c w d r e w'
 stat:∀{c:Cx} {l:List Tk} {d:Nat} {w:World} {r:Rs (List Nd)},PJ f 9 0 [] l d=some r→Rd w c l d→Calls Tryz.prog 61 #[.pointer (some ⟨c.g,0,none⟩)] w fun e w'=>NdP c w d r e w'
 block:∀{c:Cx} {l:List Tk} {d:Nat} {w:World} {r:Rs (List Nd)},PJ f 10 0 [] l d=some r→Rd w c l d→Calls Tryz.prog 35 #[.pointer (some ⟨c.g,0,none⟩)] w fun e w'=>NdP c w d r e w'
 choice:∀{c:Cx} {l:List Tk} {d:Nat} {w:World} {r:Rs (List Nd)},¬(hdT l).k=0→PJ f 12 0 [] l d=some r→Rd w c l d→Calls Tryz.prog 84 #[.pointer (some ⟨c.g,0,none⟩)] w fun e w'=>NdP c w d r e w'
 lets:∀{c:Cx} {l:List Tk} {d:Nat} {w:World} {r:Rs (List Nd)},¬(hdT l).k=0→PJ f 15 0 [] l d=some r→Rd w c l d→Calls Tryz.prog 83 #[.pointer (some ⟨c.g,0,none⟩)] w fun e w'=>NdP c w d r e w'
 sets:∀{c:Cx} {l:List Tk} {d:Nat} {w:World} {r:Rs (List Nd)},PJ f 16 0 [] l d=some r→Rd w c l d→Calls Tryz.prog 82 #[.pointer (some ⟨c.g,0,none⟩)] w fun e w'=>NdP c w d r e w'
 loop:∀{c:Cx} {l:List Tk} {d:Nat} {w:World} {r:Rs (List Nd)},¬(hdT l).k=0→PJ f 17 0 [] l d=some r→Rd w c l d→Calls Tryz.prog 85 #[.pointer (some ⟨c.g,0,none⟩)] w fun e w'=>NdP c w d r e w'
 give:∀{c:Cx} {l:List Tk} {d:Nat} {w:World} {r:Rs (List Nd)},¬(hdT l).k=0→PJ f 18 0 [] l d=some r→Rd w c l d→Calls Tryz.prog 86 #[.pointer (some ⟨c.g,0,none⟩)] w fun e w'=>NdP c w d r e w'
 dos:∀{c:Cx} {l:List Tk} {d:Nat} {w:World} {r:Rs (List Nd)},PJ f 19 0 [] l d=some r→Rd w c l d→Calls Tryz.prog 88 #[.pointer (some ⟨c.g,0,none⟩)] w fun e w'=>NdP c w d r e w'
 guard:∀{c:Cx} {l:List Tk} {d:Nat} {w:World} {r:Rs (List Nd)},PJ f 20 0 [] l d=some r→Rd w c l d→Calls Tryz.prog 102 #[.pointer (some ⟨c.g,0,none⟩)] w fun e w'=>KsP c w d r e w'
 wb:∀{c:Cx} {l:List Tk} {d:Nat} {w:World} {r:Rs (List Nd)},¬(hdT l).k=0→PJ f 26 10 [] l d=some r→Rd w c l d→Calls Tryz.prog 87 #[.pointer (some ⟨c.g,0,none⟩),.int .i64 10] w fun e w'=>NdP c w d r e w'
 wc:∀{c:Cx} {l:List Tk} {d:Nat} {w:World} {r:Rs (List Nd)},¬(hdT l).k=0→PJ f 26 11 [] l d=some r→Rd w c l d→Calls Tryz.prog 87 #[.pointer (some ⟨c.g,0,none⟩),.int .i64 11] w fun e w'=>NdP c w d r e w'
 funs:∀{c:Cx} {l:List Tk} {d:Nat} {w:World} {r:Rs (List Nd)},PJ f 13 0 [] l d=some r→Rd w c l d→Calls Tryz.prog 20 #[.pointer (some ⟨c.g,0,none⟩)] w fun e w'=>NdP c w d r e w'
 prog:∀{c:Cx} {l:List Tk} {d:Nat} {w:World} {r:Rs (List Nd)},PJ f 27 0 [] l d=some r→Rd w c l d→Calls Tryz.prog 11 #[.pointer (some ⟨c.g,0,none⟩)] w fun e w'=>NdP c w d r e w'
 binary:∀{x:Nat} {c:Cx} {l:List Tk} {d:Nat} {w:World} {r:Rs (List Nd)},1≤x→x≤6→PJ f 2 x [] l d=some r→Rd w c l d→Calls Tryz.prog 25 #[.pointer (some ⟨c.g,0,none⟩),.int .i64 (x:Int)] w fun e w'=>NdP c w d r e w'
theorem all_step (f:Nat) (ih:∀f1,f1≤f→AllJ f1):AllJ (f+1):=by
 have i:=ih f (Nat.le_refl f)
 exact {
  expr:=fun hJ h=>expr_step (f:=f) i.binary hJ h
  unary:=fun hJ h=>unary_step (f:=f) i.unary i.reached hJ h
  reached:=fun hJ h=>reached_step (f:=f) i.operand (fun h1=>(ih _ h1).expr) hJ h
  operand:=fun hJ h=>operand_step (f:=f) i.name i.w2 i.w3 i.group hJ h
  name:=fun hJ h=>name_step (f:=f) i.w1 hJ h
  group:=fun hJ h=>group_step (f:=f) i.expr hJ h
  pair:=fun hJ h=>pair_step (f:=f) i.expr hJ h
  param:=fun hJ h=>param_any (f:=f) hJ h
  w1:=fun hJ h=>within_step (f:=f) (x:=1) _ [40] [41] 15 rfl rfl rfl i.p1 hJ h
  w2:=fun hJ h=>within_step (f:=f) (x:=2) _ [91] [93] 18 rfl rfl rfl i.p2 hJ h
  w3:=fun hJ h=>within_step (f:=f) (x:=3) _ [123] [125] 19 rfl rfl rfl i.p3 hJ h
  p0:=fun hJ h=>parts_p0 (f:=f) (x:=0) [41] rfl (fun h1=>(ih _ h1).param) hJ rfl h
  p1:=fun hJ h=>parts_e0 (f:=f) (x:=1) [41] rfl (fun h1=>(ih _ h1).expr) hJ rfl h
  p2:=fun hJ h=>parts_e0 (f:=f) (x:=2) [93] rfl (fun h1=>(ih _ h1).expr) hJ rfl h
  p3:=fun hJ h=>parts_r0 (f:=f) (x:=3) [125] rfl (fun h1=>(ih _ h1).pair) hJ rfl h
  stat:=fun hJ h=>stat_step (f:=f) i.sets i.lets i.choice i.loop i.give i.wb i.wc i.dos hJ h
  block:=fun hJ h=>block_step (f:=f) (fun h1=>(ih _ h1).stat) hJ h
  choice:=fun hk hJ h=>choice_step (f:=f) i.guard i.choice i.block hk hJ h
  lets:=fun hk hJ h=>let_step (f:=f) i.expr hk hJ h
  sets:=fun hJ h=>set_step (f:=f) i.expr hJ h
  loop:=fun hk hJ h=>loop_step (f:=f) i.guard hk hJ h
  give:=fun hk hJ h=>give_step (f:=f) i.expr hk hJ h
  dos:=fun hJ h=>do_step (f:=f) i.expr hJ h
  guard:=fun hJ h=>guard_step0 (f:=f) i.expr i.block hJ rfl h
  wb:=fun hk hJ h=>pword_any (f:=f) (x:=10) hk hJ h
  wc:=fun hk hJ h=>pword_any (f:=f) (x:=11) hk hJ h
  funs:=fun hJ h=>fun_step (f:=f) i.p0 i.block hJ h
  prog:=fun hJ h=>prog_step (f:=f) (fun h1=>(ih _ h1).funs) hJ h
  binary:=fun h1 h6 hJ h=>binary_step (f:=f) (fun hf=>(ih _ hf).binary) i.unary h1 h6 hJ h }
theorem all_J:∀n f,f≤n→AllJ f
 |n,0,_=>{
  expr:=fun hJ _=>by cases hJ
  unary:=fun hJ _=>by cases hJ
  reached:=fun hJ _=>by cases hJ
  operand:=fun hJ _=>by cases hJ
  name:=fun hJ _=>by cases hJ
  group:=fun hJ _=>by cases hJ
  pair:=fun hJ _=>by cases hJ
  param:=fun hJ _=>by cases hJ
  w1:=fun hJ _=>by cases hJ
  w2:=fun hJ _=>by cases hJ
  w3:=fun hJ _=>by cases hJ
  p0:=fun hJ _=>by cases hJ
  p1:=fun hJ _=>by cases hJ
  p2:=fun hJ _=>by cases hJ
  p3:=fun hJ _=>by cases hJ
  stat:=fun hJ _=>by cases hJ
  block:=fun hJ _=>by cases hJ
  choice:=fun _ hJ _=>by cases hJ
  lets:=fun _ hJ _=>by cases hJ
  sets:=fun hJ _=>by cases hJ
  loop:=fun _ hJ _=>by cases hJ
  give:=fun _ hJ _=>by cases hJ
  dos:=fun hJ _=>by cases hJ
  guard:=fun hJ _=>by cases hJ
  wb:=fun _ hJ _=>by cases hJ
  wc:=fun _ hJ _=>by cases hJ
  funs:=fun hJ _=>by cases hJ
  prog:=fun hJ _=>by cases hJ
  binary:=fun _ _ hJ _=>by cases hJ }
 |0,f+1,h=>by omega
 |n+1,f+1,h=>all_step f (fun f1 h1=>all_J n f1 (by omega))
theorem thnT {α β:Type} {y:Rs α} {k:α→List Tk→Option (Rs β)} (h:∀a l,y=.ok (a,l)→∃r,k a l=some r):∃r,thn y k=some r:=by
 cases y with
 |error e=>exact⟨_,rfl⟩
 |ok x=>exact h x.1 x.2 rfl
theorem bndT {α β:Type} {y:Option (Rs α)} {k:α→List Tk→Option (Rs β)} (h1:∃r,y=some r) (h:∀a l,y=some (.ok (a,l))→∃r,k a l=some r):∃r,bnd y k=some r:=by
 obtain⟨r,rfl⟩:=h1
 exact thnT (fun a l e=>h a l (by rw [e]))
def rk (j x:Nat):Nat:=
 if j=0 then 10 else if j=1 then 3 else if j=2 then 10 - min x 6 else if j=5 then 1 else if j=6 then 11 else if j=9 then 12 else if j=11 then 13 else if j=12 then 1 else if j=14 then 14 else if j=17 then 1 else if j=18 then 11 else if j=19 then 11 else if j=24 then 2 else if j=27 then 15 else 0
def TotJ (f:Nat):Prop:=∀j x acc l d,(j≤27∧(j=2∨j=3→1≤x))→32 * l.length+rk j x<f→∃r,PJ f j x acc l d=some r
theorem part_tot {f:Nat} (ih:TotJ f) {x:Nat} {l:List Tk} {d:Nat} (h:32 * l.length+10<f):∃r,jPart (PJ f) x l d=some r:=by
 unfold jPart
 split
 ·exact ih 25 0 [] l d ⟨by omega,by omega⟩ (by simp only [rk,Nat.reduceEqDiff,reduceIte];omega)
 ·split
  ·exact ih 8 0 [] l d ⟨by omega,by omega⟩ (by simp only [rk,Nat.reduceEqDiff,reduceIte];omega)
  ·exact ih 0 0 [] l d ⟨by omega,by omega⟩ (by simp only [rk,reduceIte];omega)
theorem one_26 {f:Nat} {l l':List Tk} {d x:Nat} {ns:List Nd} (h:PJ f 26 x [] l d=some (.ok (ns,l'))):ns.length=1:=by
 cases f with
 |zero=>cases h
 |succ f=>
  replace h:jWord x l=some (.ok (ns,l')):=h
  unfold jWord at h
  obtain⟨t1,l1,h1,h⟩:=thnE h
  obtain⟨rfl,_⟩:=okE h
  rfl
theorem one_19 {f:Nat} {l l':List Tk} {d x:Nat} {ns:List Nd} (h:PJ f 19 x [] l d=some (.ok (ns,l'))):ns.length=1:=by
 cases f with
 |zero=>cases h
 |succ f=>
  replace h:jDo (PJ f) l d=some (.ok (ns,l')):=h
  unfold jDo at h
  obtain⟨n1,l1,h1,h⟩:=bndE h
  obtain⟨t2,l2,h2,h⟩:=thnE h
  obtain⟨rfl,_⟩:=okE h
  rfl
theorem one_18 {f:Nat} {l l':List Tk} {d x:Nat} {ns:List Nd} (h:PJ f 18 x [] l d=some (.ok (ns,l'))):ns.length=1:=by
 cases f with
 |zero=>cases h
 |succ f=>
  replace h:jGive (PJ f) l d=some (.ok (ns,l')):=h
  unfold jGive at h
  split at h
  ·obtain⟨t1,l1,h1,h⟩:=thnE h
   obtain⟨rfl,_⟩:=okE h
   rfl
  ·obtain⟨n1,l1,h1,h⟩:=bndE h
   obtain⟨t2,l2,h2,h⟩:=thnE h
   obtain⟨rfl,_⟩:=okE h
   rfl
theorem one_17 {f:Nat} {l l':List Tk} {d x:Nat} {ns:List Nd} (h:PJ f 17 x [] l d=some (.ok (ns,l'))):ns.length=1:=by
 cases f with
 |zero=>cases h
 |succ f=>
  replace h:jLoop (PJ f) l d=some (.ok (ns,l')):=h
  unfold jLoop at h
  obtain⟨n1,l1,h1,h⟩:=bndE h
  obtain⟨rfl,_⟩:=okE h
  rfl
theorem one_16 {f:Nat} {l l':List Tk} {d x:Nat} {ns:List Nd} (h:PJ f 16 x [] l d=some (.ok (ns,l'))):ns.length=1:=by
 cases f with
 |zero=>cases h
 |succ f=>
  replace h:jSet (PJ f) l d=some (.ok (ns,l')):=h
  unfold jSet at h
  obtain⟨t1,l1,h1,h⟩:=thnE h
  obtain⟨t2,l2,h2,h⟩:=thnE h
  obtain⟨n3,l3,h3,h⟩:=bndE h
  obtain⟨t4,l4,h4,h⟩:=thnE h
  obtain⟨rfl,_⟩:=okE h
  rfl
theorem one_15 {f:Nat} {l l':List Tk} {d x:Nat} {ns:List Nd} (h:PJ f 15 x [] l d=some (.ok (ns,l'))):ns.length=1:=by
 cases f with
 |zero=>cases h
 |succ f=>
  replace h:jLet (PJ f) l d=some (.ok (ns,l')):=h
  unfold jLet at h
  obtain⟨t1,l1,h1,h⟩:=thnE h
  split at h
  ·obtain⟨n2,l2,h2,h⟩:=bndE h
   obtain⟨t3,l3,h3,h⟩:=thnE h
   obtain⟨rfl,_⟩:=okE h
   rfl
  ·obtain⟨t2,l2,h2,h⟩:=thnE h
   obtain⟨rfl,_⟩:=okE h
   rfl
theorem one_12 {f:Nat} {l l':List Tk} {d x:Nat} {ns:List Nd} (h:PJ f 12 x [] l d=some (.ok (ns,l'))):ns.length=1:=by
 cases f with
 |zero=>cases h
 |succ f=>
  replace h:jChoice (PJ f) l d=some (.ok (ns,l')):=h
  unfold jChoice at h
  obtain⟨n1,l1,h1,h⟩:=bndE h
  split at h
  ·split at h
   ·obtain⟨n2,l2,h2,h⟩:=bndE h
    obtain⟨rfl,_⟩:=okE h
    rfl
   ·obtain⟨n2,l2,h2,h⟩:=bndE h
    obtain⟨rfl,_⟩:=okE h
    rfl
  ·obtain⟨rfl,_⟩:=okE h
   rfl
theorem one_13 {f:Nat} {l l':List Tk} {d x:Nat} {ns:List Nd} (h:PJ f 13 x [] l d=some (.ok (ns,l'))):ns.length=1:=by
 cases f with
 |zero=>cases h
 |succ f=>
  replace h:jFun (PJ f) l d=some (.ok (ns,l')):=h
  unfold jFun at h
  split at h
  ·unfold jFn at h
   obtain⟨t1,l1,h1,h⟩:=thnE h
   obtain⟨t2,l2,h2,h⟩:=thnE h
   obtain⟨t3,l3,h3,h⟩:=thnE h
   obtain⟨n4,l4,h4,h⟩:=bndE h
   obtain⟨t5,l5,h5,h⟩:=thnE h
   obtain⟨n6,l6,h6,h⟩:=bndE h
   obtain⟨rfl,_⟩:=okE h
   rfl
  ·unfold jFn at h
   obtain⟨t1,l1,h1,h⟩:=thnE h
   obtain⟨t2,l2,h2,h⟩:=thnE h
   obtain⟨t3,l3,h3,h⟩:=thnE h
   obtain⟨n4,l4,h4,h⟩:=bndE h
   obtain⟨t5,l5,h5,h⟩:=thnE h
   obtain⟨n6,l6,h6,h⟩:=bndE h
   obtain⟨rfl,_⟩:=okE h
   rfl
theorem one_9 {f:Nat} {l l':List Tk} {d x:Nat} {ns:List Nd} (h:PJ f 9 x [] l d=some (.ok (ns,l'))):ns.length=1:=by
 cases f with
 |zero=>cases h
 |succ f=>
  replace h:jStat (PJ f) l d=some (.ok (ns,l')):=h
  unfold jStat at h
  split at h
  ·exact one_16 h
  ·split at h
   ·exact one_15 h
   ·split at h
    ·exact one_12 h
    ·split at h
     ·exact one_17 h
     ·split at h
      ·exact one_18 h
      ·split at h
       ·exact one_26 h
       ·split at h
        ·exact one_26 h
        ·exact one_19 h
theorem step_tot {f:Nat} (ih:TotJ f):TotJ (f+1):=by
 intro j x acc l d hj h
 have htl:=tail_le l
 match j,hj,h with
 |0,hj,h=>
  show ∃r,PJ f 2 1 [] l d=some r
  simp only [rk,Nat.reduceEqDiff,reduceIte] at h
  exact(ih 2 1 [] l d ⟨by omega,by omega⟩ (by first|omega|(simp only [rk,Nat.reduceEqDiff,reduceIte] at *;omega)))
 |1,hj,h=>
  show ∃r,jUnary (PJ f) l d=some r
  simp only [rk,Nat.reduceEqDiff,reduceIte] at h
  unfold jUnary
  split
  ·refine thnT (fun t1 l1 ht1=>?_)
   have at1:=ent_len ht1
   refine bndT (ih 1 0 [] l1 (d+1) ⟨by omega,by omega⟩ (by first|omega|(simp only [rk,Nat.reduceEqDiff,reduceIte] at *;omega))) (fun n2 l2 hn2=>?_)
   have an2:=PJ_len f 1 0 [] l1 (d+1) n2 l2 ⟨by decide,by omega⟩ hn2
   simp only [twoJ,List.length_nil,List.length_append,List.length_cons,reduceIte,Nat.reduceEqDiff] at an2
   exact⟨_,rfl⟩
  ·exact(ih 24 0 [] l d ⟨by omega,by omega⟩ (by first|omega|(simp only [rk,Nat.reduceEqDiff,reduceIte] at *;omega)))
 |2,hj,h=>
  have hx:=hj.2 (Or.inl rfl)
  show ∃r,jBinary (PJ f) x l d=some r
  simp only [rk,Nat.reduceEqDiff,reduceIte] at h
  unfold jBinary
  split
  ·exact(ih 1 0 [] l d ⟨by omega,by omega⟩ (by simp only [rk,Nat.reduceEqDiff,reduceIte];omega))
  ·refine bndT (ih 2 (x+1) [] l d ⟨by omega,by omega⟩ (by simp only [rk,Nat.reduceEqDiff,reduceIte];omega)) (fun n1 l1 hn1=>?_)
   have an1:=PJ_len f 2 (x+1) [] l d n1 l1 ⟨by decide,by omega⟩ hn1
   simp only [twoJ,List.length_nil,reduceIte,Nat.reduceEqDiff] at an1
   exact ih 3 x n1 l1 d ⟨by omega,fun _=>hx⟩ (by simp only [rk,Nat.reduceEqDiff,reduceIte];omega)
 |3,hj,h=>
  have hx:=hj.2 (Or.inr rfl)
  show ∃r,jBinL (PJ f) x acc l d=some r
  simp only [rk,Nat.reduceEqDiff,reduceIte] at h
  unfold jBinL
  split
  ·rename_i hr
   have hl:l.tail.length+1=l.length:=hd_len (fun e=>by unfold rowT at hr;rw [e] at hr;simp at hr;omega)
   refine bndT (ih 2 (x+1) [] l.tail d ⟨by omega,by omega⟩ (by simp only [rk,Nat.reduceEqDiff,reduceIte];omega)) (fun n1 l1 hn1=>?_)
   have an1:=PJ_len f 2 (x+1) [] l.tail d n1 l1 ⟨by decide,by omega⟩ hn1
   simp only [twoJ,List.length_nil,reduceIte,Nat.reduceEqDiff] at an1
   split
   ·exact⟨_,rfl⟩
   ·exact ih 3 x _ l1 d ⟨by omega,fun _=>hx⟩ (by simp only [rk,Nat.reduceEqDiff,reduceIte];omega)
  ·exact⟨_,rfl⟩
 |4,hj,h=>
  show ∃r,jReL (PJ f) acc l d=some r
  simp only [rk,Nat.reduceEqDiff,reduceIte] at h
  unfold jReL
  split
  ·refine thnT (fun t1 l1 ht1=>?_)
   have at1:=ent_len ht1
   refine bndT (ih 0 0 [] l1 (d+1) ⟨by omega,by omega⟩ (by first|omega|(simp only [rk,Nat.reduceEqDiff,reduceIte] at *;omega))) (fun n2 l2 hn2=>?_)
   have an2:=PJ_len f 0 0 [] l1 (d+1) n2 l2 ⟨by decide,by omega⟩ hn2
   simp only [twoJ,List.length_nil,List.length_append,List.length_cons,reduceIte,Nat.reduceEqDiff] at an2
   refine thnT (fun t3 l3 ht3=>?_)
   have at3:=pSg_len ht3
   exact(ih 4 0 _ l3 d ⟨by omega,by omega⟩ (by first|omega|(simp only [rk,Nat.reduceEqDiff,reduceIte] at *;omega)))
  ·split
   ·rename_i hs
    have asl:=isS_len hs
    refine thnT (fun t1 l1 ht1=>?_)
    have at1:=pNm_len ht1
    exact(ih 4 0 _ l1 d ⟨by omega,by omega⟩ (by first|omega|(simp only [rk,Nat.reduceEqDiff,reduceIte] at *;omega)))
   ·exact⟨_,rfl⟩
 |5,hj,h=>
  show ∃r,jOperand (PJ f) l d=some r
  simp only [rk,Nat.reduceEqDiff,reduceIte] at h
  unfold jOperand
  split
  ·exact(ih 21 0 [] l d ⟨by omega,by omega⟩ (by first|omega|(simp only [rk,Nat.reduceEqDiff,reduceIte] at *;omega)))
  ·split
   ·exact⟨_,rfl⟩
   ·split
    ·exact⟨_,rfl⟩
    ·split
     ·exact⟨_,rfl⟩
     ·split
      ·exact⟨_,rfl⟩
      ·split
       ·exact⟨_,rfl⟩
       ·split
        ·exact(ih 22 2 [] l d ⟨by omega,by omega⟩ (by first|omega|(simp only [rk,Nat.reduceEqDiff,reduceIte] at *;omega)))
        ·split
         ·exact(ih 22 3 [] l d ⟨by omega,by omega⟩ (by first|omega|(simp only [rk,Nat.reduceEqDiff,reduceIte] at *;omega)))
         ·exact(ih 23 0 [] l d ⟨by omega,by omega⟩ (by first|omega|(simp only [rk,Nat.reduceEqDiff,reduceIte] at *;omega)))
 |6,hj,h=>
  show ∃r,jParts (PJ f) x l d=some r
  simp only [rk,Nat.reduceEqDiff,reduceIte] at h
  unfold jParts
  split
  ·exact⟨_,rfl⟩
  ·refine bndT (part_tot ih (by omega)) (fun n1 l1 hn1=>?_)
   have an1:=part_len (f:=f) hn1
   exact(ih 7 x n1 l1 d ⟨by omega,by omega⟩ (by first|omega|(simp only [rk,Nat.reduceEqDiff,reduceIte] at *;omega)))
 |7,hj,h=>
  show ∃r,jPaL (PJ f) x acc l d=some r
  simp only [rk,Nat.reduceEqDiff,reduceIte] at h
  unfold jPaL
  split
  ·rename_i hs
   have asl:=isS_len hs
   refine bndT (part_tot ih (by omega)) (fun n1 l1 hn1=>?_)
   have an1:=part_len (f:=f) hn1
   exact(ih 7 x _ l1 d ⟨by omega,by omega⟩ (by first|omega|(simp only [rk,Nat.reduceEqDiff,reduceIte] at *;omega)))
  ·exact⟨_,rfl⟩
 |8,hj,h=>
  show ∃r,jPair (PJ f) l d=some r
  simp only [rk,Nat.reduceEqDiff,reduceIte] at h
  unfold jPair
  split
  ·exact⟨_,rfl⟩
  ·refine thnT (fun t1 l1 ht1=>?_)
   have at1:=pSg_len ht1
   refine bndT (ih 0 0 [] l1 d ⟨by omega,by omega⟩ (by first|omega|(simp only [rk,Nat.reduceEqDiff,reduceIte] at *;omega))) (fun n2 l2 hn2=>?_)
   have an2:=PJ_len f 0 0 [] l1 d n2 l2 ⟨by decide,by omega⟩ hn2
   simp only [twoJ,List.length_nil,List.length_append,List.length_cons,reduceIte,Nat.reduceEqDiff] at an2
   exact⟨_,rfl⟩
 |9,hj,h=>
  show ∃r,jStat (PJ f) l d=some r
  simp only [rk,Nat.reduceEqDiff,reduceIte] at h
  unfold jStat
  split
  ·exact(ih 16 0 [] l d ⟨by omega,by omega⟩ (by first|omega|(simp only [rk,Nat.reduceEqDiff,reduceIte] at *;omega)))
  ·split
   ·exact(ih 15 0 [] l d ⟨by omega,by omega⟩ (by first|omega|(simp only [rk,Nat.reduceEqDiff,reduceIte] at *;omega)))
   ·split
    ·exact(ih 12 0 [] l d ⟨by omega,by omega⟩ (by first|omega|(simp only [rk,Nat.reduceEqDiff,reduceIte] at *;omega)))
    ·split
     ·exact(ih 17 0 [] l d ⟨by omega,by omega⟩ (by first|omega|(simp only [rk,Nat.reduceEqDiff,reduceIte] at *;omega)))
     ·split
      ·exact(ih 18 0 [] l d ⟨by omega,by omega⟩ (by first|omega|(simp only [rk,Nat.reduceEqDiff,reduceIte] at *;omega)))
      ·split
       ·exact(ih 26 10 [] l d ⟨by omega,by omega⟩ (by first|omega|(simp only [rk,Nat.reduceEqDiff,reduceIte] at *;omega)))
       ·split
        ·exact(ih 26 11 [] l d ⟨by omega,by omega⟩ (by first|omega|(simp only [rk,Nat.reduceEqDiff,reduceIte] at *;omega)))
        ·exact(ih 19 0 [] l d ⟨by omega,by omega⟩ (by first|omega|(simp only [rk,Nat.reduceEqDiff,reduceIte] at *;omega)))
 |10,hj,h=>
  show ∃r,jBlock (PJ f) l d=some r
  simp only [rk,Nat.reduceEqDiff,reduceIte] at h
  unfold jBlock
  refine thnT (fun t1 l1 ht1=>?_)
  have at1:=ent_len ht1
  refine bndT (ih 11 0 [] l1 (d+1) ⟨by omega,by omega⟩ (by first|omega|(simp only [rk,Nat.reduceEqDiff,reduceIte] at *;omega))) (fun n2 l2 hn2=>?_)
  have an2:=PJ_len f 11 0 [] l1 (d+1) n2 l2 ⟨by decide,by omega⟩ hn2
  simp only [twoJ,List.length_nil,List.length_append,List.length_cons,reduceIte,Nat.reduceEqDiff] at an2
  refine thnT (fun t3 l3 ht3=>?_)
  have at3:=pSg_len ht3
  exact⟨_,rfl⟩
 |11,hj,h=>
  show ∃r,jBlL (PJ f) acc l d=some r
  simp only [rk,Nat.reduceEqDiff,reduceIte] at h
  unfold jBlL
  split
  ·exact⟨_,rfl⟩
  ·refine bndT (ih 9 0 [] l d ⟨by omega,by omega⟩ (by first|omega|(simp only [rk,Nat.reduceEqDiff,reduceIte] at *;omega))) (fun n1 l1 hn1=>?_)
   have an1:=PJ_len f 9 0 [] l d n1 l1 ⟨by decide,by omega⟩ hn1
   simp only [twoJ,List.length_nil,List.length_append,List.length_cons,reduceIte,Nat.reduceEqDiff] at an1
   have ao:=one_9 hn1
   exact(ih 11 0 _ l1 d ⟨by omega,by omega⟩ (by first|omega|(simp only [rk,Nat.reduceEqDiff,reduceIte] at *;omega)))
 |12,hj,h=>
  show ∃r,jChoice (PJ f) l d=some r
  simp only [rk,Nat.reduceEqDiff,reduceIte] at h
  unfold jChoice
  refine bndT (ih 20 0 [] l.tail d ⟨by omega,by omega⟩ (by first|omega|(simp only [rk,Nat.reduceEqDiff,reduceIte] at *;omega))) (fun n1 l1 hn1=>?_)
  have an1:=PJ_len f 20 0 [] l.tail d n1 l1 ⟨by decide,by omega⟩ hn1
  simp only [twoJ,List.length_nil,List.length_append,List.length_cons,reduceIte,Nat.reduceEqDiff] at an1
  split
  ·rename_i he
   have ae:=isK_len he
   split
   ·refine bndT (ih 12 0 [] l1.tail d ⟨by omega,by omega⟩ (by first|omega|(simp only [rk,Nat.reduceEqDiff,reduceIte] at *;omega))) (fun n2 l2 hn2=>?_)
    have an2:=PJ_len f 12 0 [] l1.tail d n2 l2 ⟨by decide,by omega⟩ hn2
    simp only [twoJ,List.length_nil,List.length_append,List.length_cons,reduceIte,Nat.reduceEqDiff] at an2
    exact⟨_,rfl⟩
   ·refine bndT (ih 10 0 [] l1.tail d ⟨by omega,by omega⟩ (by first|omega|(simp only [rk,Nat.reduceEqDiff,reduceIte] at *;omega))) (fun n2 l2 hn2=>?_)
    have an2:=PJ_len f 10 0 [] l1.tail d n2 l2 ⟨by decide,by omega⟩ hn2
    simp only [twoJ,List.length_nil,List.length_append,List.length_cons,reduceIte,Nat.reduceEqDiff] at an2
    exact⟨_,rfl⟩
  ·exact⟨_,rfl⟩
 |13,hj,h=>
  show ∃r,jFun (PJ f) l d=some r
  simp only [rk,Nat.reduceEqDiff,reduceIte] at h
  unfold jFun
  split
  ·unfold jFn
   refine thnT (fun t1 l1 ht1=>?_)
   have at1:=pKy_len ht1
   refine thnT (fun t2 l2 ht2=>?_)
   have at2:=pNm_len ht2
   refine thnT (fun t3 l3 ht3=>?_)
   have at3:=pSg_len ht3
   refine bndT (ih 6 0 [] l3 d ⟨by omega,by omega⟩ (by first|omega|(simp only [rk,Nat.reduceEqDiff,reduceIte] at *;omega))) (fun n4 l4 hn4=>?_)
   have an4:=PJ_len f 6 0 [] l3 d n4 l4 ⟨by decide,by omega⟩ hn4
   simp only [twoJ,List.length_nil,List.length_append,List.length_cons,reduceIte,Nat.reduceEqDiff] at an4
   refine thnT (fun t5 l5 ht5=>?_)
   have at5:=pSg_len ht5
   refine bndT (ih 10 0 [] l5 d ⟨by omega,by omega⟩ (by first|omega|(simp only [rk,Nat.reduceEqDiff,reduceIte] at *;omega))) (fun n6 l6 hn6=>?_)
   have an6:=PJ_len f 10 0 [] l5 d n6 l6 ⟨by decide,by omega⟩ hn6
   simp only [twoJ,List.length_nil,List.length_append,List.length_cons,reduceIte,Nat.reduceEqDiff] at an6
   exact⟨_,rfl⟩
  ·unfold jFn
   refine thnT (fun t1 l1 ht1=>?_)
   have at1:=pKy_len ht1
   refine thnT (fun t2 l2 ht2=>?_)
   have at2:=pNm_len ht2
   refine thnT (fun t3 l3 ht3=>?_)
   have at3:=pSg_len ht3
   refine bndT (ih 6 0 [] l3 d ⟨by omega,by omega⟩ (by first|omega|(simp only [rk,Nat.reduceEqDiff,reduceIte] at *;omega))) (fun n4 l4 hn4=>?_)
   have an4:=PJ_len f 6 0 [] l3 d n4 l4 ⟨by decide,by omega⟩ hn4
   simp only [twoJ,List.length_nil,List.length_append,List.length_cons,reduceIte,Nat.reduceEqDiff] at an4
   refine thnT (fun t5 l5 ht5=>?_)
   have at5:=pSg_len ht5
   refine bndT (ih 10 0 [] l5 d ⟨by omega,by omega⟩ (by first|omega|(simp only [rk,Nat.reduceEqDiff,reduceIte] at *;omega))) (fun n6 l6 hn6=>?_)
   have an6:=PJ_len f 10 0 [] l5 d n6 l6 ⟨by decide,by omega⟩ hn6
   simp only [twoJ,List.length_nil,List.length_append,List.length_cons,reduceIte,Nat.reduceEqDiff] at an6
   exact⟨_,rfl⟩
 |14,hj,h=>
  show ∃r,jPrL (PJ f) acc l d=some r
  simp only [rk,Nat.reduceEqDiff,reduceIte] at h
  unfold jPrL
  split
  ·exact⟨_,rfl⟩
  ·refine bndT (ih 13 0 [] l d ⟨by omega,by omega⟩ (by first|omega|(simp only [rk,Nat.reduceEqDiff,reduceIte] at *;omega))) (fun n1 l1 hn1=>?_)
   have an1:=PJ_len f 13 0 [] l d n1 l1 ⟨by decide,by omega⟩ hn1
   simp only [twoJ,List.length_nil,List.length_append,List.length_cons,reduceIte,Nat.reduceEqDiff] at an1
   have ao:=one_13 hn1
   exact(ih 14 0 _ l1 d ⟨by omega,by omega⟩ (by first|omega|(simp only [rk,Nat.reduceEqDiff,reduceIte] at *;omega)))
 |15,hj,h=>
  show ∃r,jLet (PJ f) l d=some r
  simp only [rk,Nat.reduceEqDiff,reduceIte] at h
  unfold jLet
  refine thnT (fun t1 l1 ht1=>?_)
  have at1:=pNm_len ht1
  have at1:=tail_le l1
  split
  ·refine bndT (ih 0 0 [] l1.tail d ⟨by omega,by omega⟩ (by first|omega|(simp only [rk,Nat.reduceEqDiff,reduceIte] at *;omega))) (fun n2 l2 hn2=>?_)
   have an2:=PJ_len f 0 0 [] l1.tail d n2 l2 ⟨by decide,by omega⟩ hn2
   simp only [twoJ,List.length_nil,List.length_append,List.length_cons,reduceIte,Nat.reduceEqDiff] at an2
   refine thnT (fun t3 l3 ht3=>?_)
   have at3:=pSg_len ht3
   exact⟨_,rfl⟩
  ·refine thnT (fun t3 l3 ht3=>?_)
   have at3:=pSg_len ht3
   exact⟨_,rfl⟩
 |16,hj,h=>
  show ∃r,jSet (PJ f) l d=some r
  simp only [rk,Nat.reduceEqDiff,reduceIte] at h
  unfold jSet
  refine thnT (fun t1 l1 ht1=>?_)
  have at1:=pNm_len ht1
  refine thnT (fun t2 l2 ht2=>?_)
  have at2:=pSg_len ht2
  refine bndT (ih 0 0 [] l2 d ⟨by omega,by omega⟩ (by first|omega|(simp only [rk,Nat.reduceEqDiff,reduceIte] at *;omega))) (fun n3 l3 hn3=>?_)
  have an3:=PJ_len f 0 0 [] l2 d n3 l3 ⟨by decide,by omega⟩ hn3
  simp only [twoJ,List.length_nil,List.length_append,List.length_cons,reduceIte,Nat.reduceEqDiff] at an3
  refine thnT (fun t4 l4 ht4=>?_)
  have at4:=pSg_len ht4
  exact⟨_,rfl⟩
 |17,hj,h=>
  show ∃r,jLoop (PJ f) l d=some r
  simp only [rk,Nat.reduceEqDiff,reduceIte] at h
  unfold jLoop
  refine bndT (ih 20 0 [] l.tail d ⟨by omega,by omega⟩ (by first|omega|(simp only [rk,Nat.reduceEqDiff,reduceIte] at *;omega))) (fun n1 l1 hn1=>?_)
  have an1:=PJ_len f 20 0 [] l.tail d n1 l1 ⟨by decide,by omega⟩ hn1
  simp only [twoJ,List.length_nil,List.length_append,List.length_cons,reduceIte,Nat.reduceEqDiff] at an1
  exact⟨_,rfl⟩
 |18,hj,h=>
  show ∃r,jGive (PJ f) l d=some r
  simp only [rk,Nat.reduceEqDiff,reduceIte] at h
  unfold jGive
  split
  ·refine thnT (fun t3 l3 ht3=>?_)
   have at3:=pSg_len ht3
   exact⟨_,rfl⟩
  ·refine bndT (ih 0 0 [] l.tail d ⟨by omega,by omega⟩ (by first|omega|(simp only [rk,Nat.reduceEqDiff,reduceIte] at *;omega))) (fun n2 l2 hn2=>?_)
   have an2:=PJ_len f 0 0 [] l.tail d n2 l2 ⟨by decide,by omega⟩ hn2
   simp only [twoJ,List.length_nil,List.length_append,List.length_cons,reduceIte,Nat.reduceEqDiff] at an2
   refine thnT (fun t3 l3 ht3=>?_)
   have at3:=pSg_len ht3
   exact⟨_,rfl⟩
 |19,hj,h=>
  show ∃r,jDo (PJ f) l d=some r
  simp only [rk,Nat.reduceEqDiff,reduceIte] at h
  unfold jDo
  refine bndT (ih 0 0 [] l d ⟨by omega,by omega⟩ (by first|omega|(simp only [rk,Nat.reduceEqDiff,reduceIte] at *;omega))) (fun n2 l2 hn2=>?_)
  have an2:=PJ_len f 0 0 [] l d n2 l2 ⟨by decide,by omega⟩ hn2
  simp only [twoJ,List.length_nil,List.length_append,List.length_cons,reduceIte,Nat.reduceEqDiff] at an2
  refine thnT (fun t3 l3 ht3=>?_)
  have at3:=pSg_len ht3
  exact⟨_,rfl⟩
 |20,hj,h=>
  show ∃r,jGuard (PJ f) l d=some r
  simp only [rk,Nat.reduceEqDiff,reduceIte] at h
  unfold jGuard
  refine thnT (fun t1 l1 ht1=>?_)
  have at1:=pSg_len ht1
  refine bndT (ih 0 0 [] l1 d ⟨by omega,by omega⟩ (by first|omega|(simp only [rk,Nat.reduceEqDiff,reduceIte] at *;omega))) (fun n2 l2 hn2=>?_)
  have an2:=PJ_len f 0 0 [] l1 d n2 l2 ⟨by decide,by omega⟩ hn2
  simp only [twoJ,List.length_nil,List.length_append,List.length_cons,reduceIte,Nat.reduceEqDiff] at an2
  refine thnT (fun t3 l3 ht3=>?_)
  have at3:=pSg_len ht3
  refine bndT (ih 10 0 [] l3 d ⟨by omega,by omega⟩ (by first|omega|(simp only [rk,Nat.reduceEqDiff,reduceIte] at *;omega))) (fun n4 l4 hn4=>?_)
  have an4:=PJ_len f 10 0 [] l3 d n4 l4 ⟨by decide,by omega⟩ hn4
  simp only [twoJ,List.length_nil,List.length_append,List.length_cons,reduceIte,Nat.reduceEqDiff] at an4
  exact⟨_,rfl⟩
 |21,hj,h=>
  show ∃r,jName (PJ f) l d=some r
  simp only [rk,Nat.reduceEqDiff,reduceIte] at h
  unfold jName
  refine thnT (fun t1 l1 ht1=>?_)
  have at1:=pNm_len ht1
  split
  ·refine bndT (ih 22 1 [] l1 d ⟨by omega,by omega⟩ (by first|omega|(simp only [rk,Nat.reduceEqDiff,reduceIte] at *;omega))) (fun n2 l2 hn2=>?_)
   have an2:=PJ_len f 22 1 [] l1 d n2 l2 ⟨by decide,by omega⟩ hn2
   simp only [twoJ,List.length_nil,List.length_append,List.length_cons,reduceIte,Nat.reduceEqDiff] at an2
   exact⟨_,rfl⟩
  ·exact⟨_,rfl⟩
 |22,hj,h=>
  show ∃r,jWithin (PJ f) x l d=some r
  simp only [rk,Nat.reduceEqDiff,reduceIte] at h
  unfold jWithin
  refine thnT (fun t1 l1 ht1=>?_)
  have at1:=ent_len ht1
  refine bndT (ih 6 x [] l1 (d+1) ⟨by omega,by omega⟩ (by first|omega|(simp only [rk,Nat.reduceEqDiff,reduceIte] at *;omega))) (fun n2 l2 hn2=>?_)
  have an2:=PJ_len f 6 x [] l1 (d+1) n2 l2 ⟨by decide,by omega⟩ hn2
  simp only [twoJ,List.length_nil,List.length_append,List.length_cons,reduceIte,Nat.reduceEqDiff] at an2
  refine thnT (fun t3 l3 ht3=>?_)
  have at3:=pSg_len ht3
  exact⟨_,rfl⟩
 |23,hj,h=>
  show ∃r,jGroup (PJ f) l d=some r
  simp only [rk,Nat.reduceEqDiff,reduceIte] at h
  unfold jGroup
  refine thnT (fun t1 l1 ht1=>?_)
  have at1:=ent_len ht1
  refine bndT (ih 0 0 [] l1 (d+1) ⟨by omega,by omega⟩ (by first|omega|(simp only [rk,Nat.reduceEqDiff,reduceIte] at *;omega))) (fun n2 l2 hn2=>?_)
  have an2:=PJ_len f 0 0 [] l1 (d+1) n2 l2 ⟨by decide,by omega⟩ hn2
  simp only [twoJ,List.length_nil,List.length_append,List.length_cons,reduceIte,Nat.reduceEqDiff] at an2
  refine thnT (fun t3 l3 ht3=>?_)
  have at3:=pSg_len ht3
  exact⟨_,rfl⟩
 |24,hj,h=>
  show ∃r,jReached (PJ f) l d=some r
  simp only [rk,Nat.reduceEqDiff,reduceIte] at h
  unfold jReached
  refine bndT (ih 5 0 [] l d ⟨by omega,by omega⟩ (by first|omega|(simp only [rk,Nat.reduceEqDiff,reduceIte] at *;omega))) (fun n1 l1 hn1=>?_)
  have an1:=PJ_len f 5 0 [] l d n1 l1 ⟨by decide,by omega⟩ hn1
  simp only [twoJ,List.length_nil,List.length_append,List.length_cons,reduceIte,Nat.reduceEqDiff] at an1
  exact(ih 4 0 n1 l1 d ⟨by omega,by omega⟩ (by first|omega|(simp only [rk,Nat.reduceEqDiff,reduceIte] at *;omega)))
 |25,hj,h=>
  show ∃r,jParam l=some r
  simp only [rk,Nat.reduceEqDiff,reduceIte] at h
  unfold jParam
  refine thnT (fun t1 l1 ht1=>?_)
  have at1:=pNm_len ht1
  exact⟨_,rfl⟩
 |26,hj,h=>
  show ∃r,jWord x l=some r
  simp only [rk,Nat.reduceEqDiff,reduceIte] at h
  unfold jWord
  refine thnT (fun t1 l1 ht1=>?_)
  have at1:=pSg_len ht1
  exact⟨_,rfl⟩
 |27,hj,h=>
  show ∃r,bnd (PJ f 14 0 [] l d) (fun ks l1=>okN [nd0 1 [] ks 0] l1)=some r
  simp only [rk,Nat.reduceEqDiff,reduceIte] at h
  refine bndT (ih 14 0 [] l d ⟨by omega,by omega⟩ (by first|omega|(simp only [rk,Nat.reduceEqDiff,reduceIte] at *;omega))) (fun n1 l1 hn1=>⟨_,rfl⟩)
 |j+28,hj,h=>exact absurd hj.1 (by omega)
theorem PJ_tot:∀f,TotJ f
 |0=>fun j x acc l d _ h=>by omega
 |f+1=>step_tot (PJ_tot f)
end Go.Proofs.YtilhlmmcdfoaoaaGreatDoor
