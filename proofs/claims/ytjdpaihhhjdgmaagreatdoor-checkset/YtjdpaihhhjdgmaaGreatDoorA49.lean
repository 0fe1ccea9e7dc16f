/-
  Layer 17 (parse): every function of the reader, whatever the tokens; conditions: the reader's state.
  Layer 17 (parse): with fuel enough every job comes to an end; plain lists, no conditions.
  Layer 17 (parse): the walks of Program and Expr, of any source; conditions: what the variables of strconv hold.
  Layer 17 (parse): a tree's cells; the walk of the law's shown; conditions: what the variables of strconv hold.
  Layer 19 (check): what is said of a source (source), where it is read; conditions: what the variables of strconv hold, the table of operations.
  Layer 19 (check): what is said of a source that lies open, as a function that comes to an end by a number; pure, no conditions.
-/
import Derived.Test.YtjdpaihhhjdgmaaGreatDoorA34
import Derived.Test.YtjdpaihhhjdgmaaGreatDoorA35
import Derived.Test.YtjdpaihhhjdgmaaGreatDoorA36
import Derived.Test.YtjdpaihhhjdgmaaGreatDoorA37
import Derived.Test.YtjdpaihhhjdgmaaGreatDoorA39
import Derived.Test.YtjdpaihhhjdgmaaGreatDoorA40
import Derived.Test.YtjdpaihhhjdgmaaGreatDoorA41
import Derived.Test.YtjdpaihhhjdgmaaGreatDoorA42
import Derived.Test.YtjdpaihhhjdgmaaGreatDoorA43
import Derived.Test.YtjdpaihhhjdgmaaGreatDoorA44
import Derived.Test.YtjdpaihhhjdgmaaGreatDoorA45
import Derived.Test.YtjdpaihhhjdgmaaGreatDoorA46
import Derived.Test.YtjdpaihhhjdgmaaGreatDoorA47
import Derived.Test.YtjdpaihhhjdgmaaGreatDoorA48
import Derived.Test.YtjdpaihhhjdgmaaGreatDoorA38
import Derived.Test.YtjdpaihhhjdgmaaGreatDoorA26
import Derived.Test.YtjdpaihhhjdgmaaGreatDoorA31
set_option linter.unusedVariables false
set_option linter.unusedSimpArgs false
set_option maxRecDepth 100000
set_option maxHeartbeats 8000000
namespace Go.Proofs.YtjdpaihhhjdgmaaGreatDoor
open Go.RowKit
set_option linter.unusedVariables false
set_option linter.unusedSimpArgs false
structure AllJ (f:Nat):Prop where
 expr:∀{c:Cx} {l:List Tk} {d:Nat} {w:World} {r:Rs (List Nd)},PJ f 0 0 [] l d=some r→Rd w c l d→Calls Tryz.prog 161 #[.pointer (some ⟨c.g,0,none⟩)] w fun e w'=>NdP c w d r e w'
 unary:∀{c:Cx} {l:List Tk} {d:Nat} {w:World} {r:Rs (List Nd)},PJ f 1 0 [] l d=some r→Rd w c l d→Calls Tryz.prog 189 #[.pointer (some ⟨c.g,0,none⟩)] w fun e w'=>NdP c w d r e w'
 reached:∀{c:Cx} {l:List Tk} {d:Nat} {w:World} {r:Rs (List Nd)},PJ f 24 0 [] l d=some r→Rd w c l d→Calls Tryz.prog 194 #[.pointer (some ⟨c.g,0,none⟩)] w fun e w'=>NdP c w d r e w'
 operand:∀{c:Cx} {l:List Tk} {d:Nat} {w:World} {r:Rs (List Nd)},PJ f 5 0 [] l d=some r→Rd w c l d→Calls Tryz.prog 195 #[.pointer (some ⟨c.g,0,none⟩)] w fun e w'=>NdP c w d r e w'
 name:∀{c:Cx} {l:List Tk} {d:Nat} {w:World} {r:Rs (List Nd)},PJ f 21 0 [] l d=some r→Rd w c l d→Calls Tryz.prog 196 #[.pointer (some ⟨c.g,0,none⟩)] w fun e w'=>NdP c w d r e w'
 group:∀{c:Cx} {l:List Tk} {d:Nat} {w:World} {r:Rs (List Nd)},PJ f 23 0 [] l d=some r→Rd w c l d→Calls Tryz.prog 200 #[.pointer (some ⟨c.g,0,none⟩)] w fun e w'=>NdP c w d r e w'
 pair:∀{c:Cx} {l:List Tk} {d:Nat} {w:World} {r:Rs (List Nd)},PJ f 8 0 [] l d=some r→Rd w c l d→Calls Tryz.prog 199 #[.pointer (some ⟨c.g,0,none⟩)] w fun e w'=>NdP c w d r e w'
 param:∀{c:Cx} {l:List Tk} {d:Nat} {w:World} {r:Rs (List Nd)},PJ f 25 0 [] l d=some r→Rd w c l d→Calls Tryz.prog 79 #[.pointer (some ⟨c.g,0,none⟩)] w fun e w'=>NdP c w d r e w'
 w1:∀{c:Cx} {l:List Tk} {d:Nat} {w:World} {r:Rs (List Nd)},PJ f 22 1 [] l d=some r→Rd w c l d→Calls Tryz.prog 198 #[.pointer (some ⟨c.g,0,none⟩),.int .i64 15,.string (bA [40]),.string (bA [41]),.func (Fn.func 161) #[.pointer (some ⟨c.g,0,none⟩)] #[]] w fun e w'=>NdP c w d r e w'
 w2:∀{c:Cx} {l:List Tk} {d:Nat} {w:World} {r:Rs (List Nd)},PJ f 22 2 [] l d=some r→Rd w c l d→Calls Tryz.prog 198 #[.pointer (some ⟨c.g,0,none⟩),.int .i64 18,.string (bA [91]),.string (bA [93]),.func (Fn.func 161) #[.pointer (some ⟨c.g,0,none⟩)] #[]] w fun e w'=>NdP c w d r e w'
 w3:∀{c:Cx} {l:List Tk} {d:Nat} {w:World} {r:Rs (List Nd)},PJ f 22 3 [] l d=some r→Rd w c l d→Calls Tryz.prog 198 #[.pointer (some ⟨c.g,0,none⟩),.int .i64 19,.string (bA [123]),.string (bA [125]),.func (Fn.func 199) #[.pointer (some ⟨c.g,0,none⟩)] #[]] w fun e w'=>NdP c w d r e w'
 p0:∀{c:Cx} {l:List Tk} {d:Nat} {w:World} {r:Rs (List Nd)},PJ f 6 0 [] l d=some r→Rd w c l d→Calls Tryz.prog 78 #[.pointer (some ⟨c.g,0,none⟩),.string (bA [41]),.func (Fn.func 79) #[.pointer (some ⟨c.g,0,none⟩)] #[]] w fun e w'=>KsP c w d r e w'
 p1:∀{c:Cx} {l:List Tk} {d:Nat} {w:World} {r:Rs (List Nd)},PJ f 6 1 [] l d=some r→Rd w c l d→Calls Tryz.prog 78 #[.pointer (some ⟨c.g,0,none⟩),.string (bA [41]),.func (Fn.func 161) #[.pointer (some ⟨c.g,0,none⟩)] #[]] w fun e w'=>KsP c w d r e w'
 p2:∀{c:Cx} {l:List Tk} {d:Nat} {w:World} {r:Rs (List Nd)},PJ f 6 2 [] l d=some r→Rd w c l d→Calls Tryz.prog 78 #[.pointer (some ⟨c.g,0,none⟩),.string (bA [93]),.func (Fn.func 161) #[.pointer (some ⟨c.g,0,none⟩)] #[]] w fun e w'=>KsP c w d r e w'
 p3:∀{c:Cx} {l:List Tk} {d:Nat} {w:World} {r:Rs (List Nd)},PJ f 6 3 [] l d=some r→Rd w c l d→Calls Tryz.prog 78 #[.pointer (some ⟨c.g,0,none⟩),.string (bA [125]),.func (Fn.func 199) #[.pointer (some ⟨c.g,0,none⟩)] #[]] w fun e w'=>KsP c w d r e w'
 stat:∀{c:Cx} {l:List Tk} {d:Nat} {w:World} {r:Rs (List Nd)},PJ f 9 0 [] l d=some r→Rd w c l d→Calls Tryz.prog 113 #[.pointer (some ⟨c.g,0,none⟩)] w fun e w'=>NdP c w d r e w'
 block:∀{c:Cx} {l:List Tk} {d:Nat} {w:World} {r:Rs (List Nd)},PJ f 10 0 [] l d=some r→Rd w c l d→Calls Tryz.prog 80 #[.pointer (some ⟨c.g,0,none⟩)] w fun e w'=>NdP c w d r e w'
 choice:∀{c:Cx} {l:List Tk} {d:Nat} {w:World} {r:Rs (List Nd)},¬(hdT l).k=0→PJ f 12 0 [] l d=some r→Rd w c l d→Calls Tryz.prog 147 #[.pointer (some ⟨c.g,0,none⟩)] w fun e w'=>NdP c w d r e w'
 lets:∀{c:Cx} {l:List Tk} {d:Nat} {w:World} {r:Rs (List Nd)},¬(hdT l).k=0→PJ f 15 0 [] l d=some r→Rd w c l d→Calls Tryz.prog 146 #[.pointer (some ⟨c.g,0,none⟩)] w fun e w'=>NdP c w d r e w'
 sets:∀{c:Cx} {l:List Tk} {d:Nat} {w:World} {r:Rs (List Nd)},PJ f 16 0 [] l d=some r→Rd w c l d→Calls Tryz.prog 145 #[.pointer (some ⟨c.g,0,none⟩)] w fun e w'=>NdP c w d r e w'
 loop:∀{c:Cx} {l:List Tk} {d:Nat} {w:World} {r:Rs (List Nd)},¬(hdT l).k=0→PJ f 17 0 [] l d=some r→Rd w c l d→Calls Tryz.prog 148 #[.pointer (some ⟨c.g,0,none⟩)] w fun e w'=>NdP c w d r e w'
 give:∀{c:Cx} {l:List Tk} {d:Nat} {w:World} {r:Rs (List Nd)},¬(hdT l).k=0→PJ f 18 0 [] l d=some r→Rd w c l d→Calls Tryz.prog 149 #[.pointer (some ⟨c.g,0,none⟩)] w fun e w'=>NdP c w d r e w'
 dos:∀{c:Cx} {l:List Tk} {d:Nat} {w:World} {r:Rs (List Nd)},PJ f 19 0 [] l d=some r→Rd w c l d→Calls Tryz.prog 151 #[.pointer (some ⟨c.g,0,none⟩)] w fun e w'=>NdP c w d r e w'
 guard:∀{c:Cx} {l:List Tk} {d:Nat} {w:World} {r:Rs (List Nd)},PJ f 20 0 [] l d=some r→Rd w c l d→Calls Tryz.prog 162 #[.pointer (some ⟨c.g,0,none⟩)] w fun e w'=>KsP c w d r e w'
 wb:∀{c:Cx} {l:List Tk} {d:Nat} {w:World} {r:Rs (List Nd)},¬(hdT l).k=0→PJ f 26 10 [] l d=some r→Rd w c l d→Calls Tryz.prog 150 #[.pointer (some ⟨c.g,0,none⟩),.int .i64 10] w fun e w'=>NdP c w d r e w'
 wc:∀{c:Cx} {l:List Tk} {d:Nat} {w:World} {r:Rs (List Nd)},¬(hdT l).k=0→PJ f 26 11 [] l d=some r→Rd w c l d→Calls Tryz.prog 150 #[.pointer (some ⟨c.g,0,none⟩),.int .i64 11] w fun e w'=>NdP c w d r e w'
 funs:∀{c:Cx} {l:List Tk} {d:Nat} {w:World} {r:Rs (List Nd)},PJ f 13 0 [] l d=some r→Rd w c l d→Calls Tryz.prog 38 #[.pointer (some ⟨c.g,0,none⟩)] w fun e w'=>NdP c w d r e w'
 prog:∀{c:Cx} {l:List Tk} {d:Nat} {w:World} {r:Rs (List Nd)},PJ f 27 0 [] l d=some r→Rd w c l d→Calls Tryz.prog 20 #[.pointer (some ⟨c.g,0,none⟩)] w fun e w'=>NdP c w d r e w'
 binary:∀{x:Nat} {c:Cx} {l:List Tk} {d:Nat} {w:World} {r:Rs (List Nd)},1≤x→x≤6→PJ f 2 x [] l d=some r→Rd w c l d→Calls Tryz.prog 177 #[.pointer (some ⟨c.g,0,none⟩),.int .i64 (x:Int)] w fun e w'=>NdP c w d r e w'
theorem all_step (f:Nat) (ih:∀f1,f1≤f→AllJ f1):AllJ (f+1):=by
 have i:=ih f (Nat.le_refl f)
 exact {
  expr:=fun hJ h=>expr_step (f:=f) i.binary hJ h
  unary:=fun hJ h=>unary_step (f:=f) i.unary i.reached hJ h
  reached:=fun hJ h=>reached_step (f:=f) i.operand (fun h1=>(ih _ h1).expr) hJ h
  operand:=fun hJ h=>operand_step (f:=f) i.name i.w2 i.w3 i.group hJ h
  name:=fun hJ h=>name_step (f:=f) i.w1 hJ h
  group:=fun hJ h=>group_step (f:=f) i.expr hJ h
  pair:=fun hJ h=>pair_step (f:=f) i.expr hJ h
  param:=fun hJ h=>param_any (f:=f) hJ h
  w1:=fun hJ h=>within_step (f:=f) (x:=1) _ [40] [41] 15 rfl rfl rfl i.p1 hJ h
  w2:=fun hJ h=>within_step (f:=f) (x:=2) _ [91] [93] 18 rfl rfl rfl i.p2 hJ h
  w3:=fun hJ h=>within_step (f:=f) (x:=3) _ [123] [125] 19 rfl rfl rfl i.p3 hJ h
  p0:=fun hJ h=>parts_p0 (f:=f) (x:=0) [41] rfl (fun h1=>(ih _ h1).param) hJ rfl h
  p1:=fun hJ h=>parts_e0 (f:=f) (x:=1) [41] rfl (fun h1=>(ih _ h1).expr) hJ rfl h
  p2:=fun hJ h=>parts_e0 (f:=f) (x:=2) [93] rfl (fun h1=>(ih _ h1).expr) hJ rfl h
  p3:=fun hJ h=>parts_r0 (f:=f) (x:=3) [125] rfl (fun h1=>(ih _ h1).pair) hJ rfl h
  stat:=fun hJ h=>stat_step (f:=f) i.sets i.lets i.choice i.loop i.give i.wb i.wc i.dos hJ h
  block:=fun hJ h=>block_step (f:=f) (fun h1=>(ih _ h1).stat) hJ h
  choice:=fun hk hJ h=>choice_step (f:=f) i.guard i.choice i.block hk hJ h
  lets:=fun hk hJ h=>let_step (f:=f) i.expr hk hJ h
  sets:=fun hJ h=>set_step (f:=f) i.expr hJ h
  loop:=fun hk hJ h=>loop_step (f:=f) i.guard hk hJ h
  give:=fun hk hJ h=>give_step (f:=f) i.expr hk hJ h
  dos:=fun hJ h=>do_step (f:=f) i.expr hJ h
  guard:=fun hJ h=>guard_step0 (f:=f) i.expr i.block hJ rfl h
  wb:=fun hk hJ h=>pword_any (f:=f) (x:=10) hk hJ h
  wc:=fun hk hJ h=>pword_any (f:=f) (x:=11) hk hJ h
  funs:=fun hJ h=>fun_step (f:=f) i.p0 i.block hJ h
  prog:=fun hJ h=>prog_step (f:=f) (fun h1=>(ih _ h1).funs) hJ h
  binary:=fun h1 h6 hJ h=>binary_step (f:=f) (fun hf=>(ih _ hf).binary) i.unary h1 h6 hJ h }
theorem all_J:∀n f,f≤n→AllJ f
 |n,0,_=>{
  expr:=fun hJ _=>by cases hJ
  unary:=fun hJ _=>by cases hJ
  reached:=fun hJ _=>by cases hJ
  operand:=fun hJ _=>by cases hJ
  name:=fun hJ _=>by cases hJ
  group:=fun hJ _=>by cases hJ
  pair:=fun hJ _=>by cases hJ
  param:=fun hJ _=>by cases hJ
  w1:=fun hJ _=>by cases hJ
  w2:=fun hJ _=>by cases hJ
  w3:=fun hJ _=>by cases hJ
  p0:=fun hJ _=>by cases hJ
  p1:=fun hJ _=>by cases hJ
  p2:=fun hJ _=>by cases hJ
  p3:=fun hJ _=>by cases hJ
  stat:=fun hJ _=>by cases hJ
  block:=fun hJ _=>by cases hJ
  choice:=fun _ hJ _=>by cases hJ
  lets:=fun _ hJ _=>by cases hJ
  sets:=fun hJ _=>by cases hJ
  loop:=fun _ hJ _=>by cases hJ
  give:=fun _ hJ _=>by cases hJ
  dos:=fun hJ _=>by cases hJ
  guard:=fun hJ _=>by cases hJ
  wb:=fun _ hJ _=>by cases hJ
  wc:=fun _ hJ _=>by cases hJ
  funs:=fun hJ _=>by cases hJ
  prog:=fun hJ _=>by cases hJ
  binary:=fun _ _ hJ _=>by cases hJ }
 |0,f+1,h=>by omega
 |n+1,f+1,h=>all_step f (fun f1 h1=>all_J n f1 (by omega))
def PgOf (j:Nat) (s:List UInt8) (r:Rs (List Nd)):Prop:=(∃p er,allT s=.error (p,er)∧r=.error (er,p))∨(∃ts f,allT s=.ok ts∧PJ f j 0 [] ts 0=some r)
theorem lp_len:∀(f p:Nat) (l:List UInt8) (ts:List Tk),lpT f p l=.ok ts→ts.length≤l.length+1
 |0,p,l,ts,h=>by simp [lpT] at h
 |f+1,p,[],ts,h=>by
  simp only [lpT,Except.ok.injEq] at h
  subst h
  simp
 |f+1,p,c :: r,ts,h=>by
  obtain⟨t,n,us,h1,h2,rfl⟩:=lp_ok h
  have hn:=fst_pos h1
  have hlen:=rest_len (c :: r) n hn.2
  have ih:=lp_len f _ _ us h2
  simp only [List.length_cons] at hlen ih ⊢
  omega
theorem all_fin {s:List UInt8} {ts:List Tk} (h:allT s=.ok ts):ts.length≤10000∧∃us p,ts=us++[endT p]:=by
 have hs:=all_small h
 rw [all_split hs] at h
 have h1:=lp_len _ _ _ _ h
 have h2:=blk_le false s
 rw [List.length_drop] at h1
 obtain⟨us,hu⟩:=(lp_all (s.length+1) _ _ ts (by rw [List.length_drop];omega) h).1
 exact⟨by omega,us,_,hu⟩
def TrR (w:World) (r:Rs (List Nd)) (e:Ending) (w':World):Prop:=∃(k:Nat) (t:List UInt8) (vk vn:Nat) (vs:List UInt8) (f:Bool) (n:Nat) (ak:Option Addr) (ck p:Nat) (pl er:Nat) (S:List Nat),
 e=.returned (.tuple #[.agg #[.int .i64 (k:Int),.string (bA t),.int .i64 (vk:Int),.int .i64 (vn:Int),.string (bA vs),.slice none 0 0,.slice none 0 0,.bool f,.slice ak n ck,.int .i64 (p:Int)],.int .i64 (pl:Int),.int .i64 (er:Int)]) ∧
 Hid (match r with
 |.error (a,q)=>(k=0∧t=[]∧vk=0∧vn=0∧vs=[]∧f=false∧n=0∧ak=none∧ck=0∧p=0)∧pl=q∧er=a
 |.ok (ns,l)=>((hdT l).k=0→pl=0∧er=0∧ns.length=1∧NdOk w.heap.size w' ns (ndC k t vk vn vs f n ak ck p) S)∧(¬(hdT l).k=0→(k=0∧t=[]∧vk=0∧vn=0∧vs=[]∧f=false∧n=0∧ak=none∧ck=0∧p=0)∧pl=(hdT l).p∧er=170))
theorem zero10:(.agg ndZ:Value)=.agg #[.int .i64 ((0:Nat):Int),.string (bA []),.int .i64 ((0:Nat):Int),.int .i64 ((0:Nat):Int),.string (bA []),.slice none 0 0,.slice none 0 0,.bool false,.slice none 0 0,.int .i64 ((0:Nat):Int)]:=rfl
theorem RdR.tr {w w':World} {r:Rs (List Nd)} {e:Ending} (h:RdR w r e w'):TrR w r e w':=by
 match r,h with
 |.error (a,q),h=>
  rw [show e=_ from h,zero10]
  exact⟨0,[],0,0,[],false,0,none,0,0,q,a,[],rfl,⟨rfl,rfl,rfl,rfl,rfl,rfl,rfl,rfl,rfl,rfl⟩,rfl,rfl⟩
 |.ok (ns,l),h=>
  by_cases hk:(hdT l).k=0
  ·obtain⟨k,t,vk,vn,vs,f,n,ak,ck,p,S,rfl,h1,h2⟩:=h.1 hk
   exact⟨k,t,vk,vn,vs,f,n,ak,ck,p,0,0,S,rfl,fun _=>⟨rfl,rfl,h1,h2⟩,fun e=>absurd hk e⟩
  ·rw [h.2 hk,zero10]
   exact⟨0,[],0,0,[],false,0,none,0,0,(hdT l).p,170,[],rfl,fun e=>absurd e hk,fun _=>⟨⟨rfl,rfl,rfl,rfl,rfl,rfl,rfl,rfl,rfl,rfl⟩,rfl,rfl⟩⟩
theorem all_er {s:List UInt8} {p er:Nat} (h:allT s=.error (p,er)):¬er=0:=by
 unfold allT at h
 split at h
 ·simp at h;omega
 ·have:=lp_fault _ _ _ _ _ (by rw [List.length_drop];omega) h
  omega
theorem readU_p (s:ByteArray) (w:World) (he:Ev w) (hw6:5<w.heap.size) {r:Rs (List Nd)} (h:PgOf 27 s.data.toList r) :
  Calls Tryz.prog 19 #[.string s,.func (Fn.func 20) #[] #[]] w fun e w'=>TrR w r e w'∧Below w.heap.size w w':=by
 rcases h with ⟨p,er,h1,rfl⟩|⟨ts,f,h1,h2⟩
 ·exact(read_bad s _ w he hw6 h1 (all_er h1)).mono (fun e w' h=>⟨RdR.tr (r:=.error (er,p)) h.1,h.2⟩)
 ·exact(read_p s w he hw6 h1 (all_fin h1).1 (all_fin h1).2 (fun c w h=>(all_J f f (Nat.le_refl _)).prog h2 h)).mono (fun e w' h=>⟨h.1.tr,h.2⟩)
theorem program_any (s:ByteArray) (w:World) (he:Ev w) (hw6:5<w.heap.size) {r:Rs (List Nd)} (h:PgOf 27 s.data.toList r) :
  Calls Tryz.prog 9 #[.string s] w fun e w'=>TrR w r e w'∧Below w.heap.size w w':=by
 obtain⟨R,hR⟩:∃R:Ending→World→Prop,∀e w',R e w'↔TrR w r e w':=⟨fun e w'=>TrR w r e w',fun _ _=>Iff.rfl⟩
 have HR:=hZ hR
 suffices hX:Calls Tryz.prog 9 #[.string s] w fun e w'=>R e w'∧Below w.heap.size w w' from hX.mono (fun e w' h=>⟨(hR e w').1 h.1,h.2⟩)
 clear hR
 obtain⟨G,hG⟩:=eX (w.heap.size)
 obtain⟨w1,hw1⟩:=eX (w.alloc (.cells ndZ 28))
 have A1:w1.heap[G]?=some (.cells ndZ 28 (0,0)):=alN hw1 hG
 have B1:=alB hw1
 have CR:=hZ (readU_p s w1 (he.below B1 hw6) (by have:=B1.size;omega) h)
 have HW:=hZ hw1
 have H1:=hZ (And.intro A1 (And.intro B1 hG))
 clear he hw6 h A1 B1 hw1
 go_enter Tryz.func9,Tryz.ntmps9
 go_upto_region 1 with fail
 have e1:=uZ HW
 unfold ndZ at e1
 rw [e1]
 clear e1 HW
 go_wp2_with fail
 refine(uZ CR).mono ?_
 rintro e w2 ⟨⟨k,t,vk,vn,vs,f,n,ak,ck,p,pl,er,S,rfl,HX⟩,b2⟩
 obtain⟨A1,B1,hG2⟩:=uZ H1
 have hlt:G<w1.heap.size:=(Array.getElem?_eq_some_iff.1 A1).1
 have A2:=(b2.block G hlt).trans A1
 obtain⟨e0,e1,e2,e3,e4,e5,e6,e7,e8,e9⟩:=row_cell10 A2
 obtain⟨f0,f1,f2,f3,f4,f5,f6,f7,f8,f9⟩:=frozen10 A2
 have H2:=hZ (And.intro A2 (And.intro b2 hlt))
 clear A1 B1 hG2 hlt A2 b2 CR hG
 go_wp2_with fail
 obtain⟨A2,b2,hlt⟩:=uZ H2
 obtain⟨A1,B1,hG2⟩:=uZ H1
 have W3:=set10 A2 (.int .i64 (k:Int)) (.string (bA t)) (.int .i64 (vk:Int)) (.int .i64 (vn:Int)) (.string (bA vs)) (.slice none 0 0) (.slice none 0 0) (.bool f) (.slice ak n ck) (.int .i64 (p:Int))
 have O3:∀b,b≠G→((((((((((w2.setCell ⟨G,0,none⟩ (.int .i64 (k:Int))).setCell ⟨G,1,none⟩ (.string (bA t))).setCell ⟨G,2,none⟩ (.int .i64 (vk:Int))).setCell ⟨G,3,none⟩ (.int .i64 (vn:Int))).setCell ⟨G,4,none⟩ (.string (bA vs))).setCell ⟨G,5,none⟩ (.slice none 0 0)).setCell ⟨G,6,none⟩ (.slice none 0 0)).setCell ⟨G,7,none⟩ (.bool f)).setCell ⟨G,8,none⟩ (.slice ak n ck)).setCell ⟨G,9,none⟩ (.int .i64 (p:Int))).heap[b]?=w2.heap[b]?:=fun b hb=>by
  iterate 10 rw [heap_setCell_other _ _ _ _ hb]
 have E3:Below G w2 ((((((((((w2.setCell ⟨G,0,none⟩ (.int .i64 (k:Int))).setCell ⟨G,1,none⟩ (.string (bA t))).setCell ⟨G,2,none⟩ (.int .i64 (vk:Int))).setCell ⟨G,3,none⟩ (.int .i64 (vn:Int))).setCell ⟨G,4,none⟩ (.string (bA vs))).setCell ⟨G,5,none⟩ (.slice none 0 0)).setCell ⟨G,6,none⟩ (.slice none 0 0)).setCell ⟨G,7,none⟩ (.bool f)).setCell ⟨G,8,none⟩ (.slice ak n ck)).setCell ⟨G,9,none⟩ (.int .i64 (p:Int))):=by
  have e:∀(x:World) (f:Nat) (v:Value),Below G w2 x→Below G w2 (x.setCell ⟨G,f,none⟩ v):=fun x f v hx=>hx.setCell (p:=⟨G,f,none⟩) (Nat.le_refl _) v
  iterate 10 refine e _ _ _ ?_
  exact Below.refl _ _
 clear e0 e1 e2 e3 e4 e5 e6 e7 e8 e9 f0 f1 f2 f3 f4 f5 f6 f7 f8 f9
 generalize ((((((((((w2.setCell ⟨G,0,none⟩ (.int .i64 (k:Int))).setCell ⟨G,1,none⟩ (.string (bA t))).setCell ⟨G,2,none⟩ (.int .i64 (vk:Int))).setCell ⟨G,3,none⟩ (.int .i64 (vn:Int))).setCell ⟨G,4,none⟩ (.string (bA vs))).setCell ⟨G,5,none⟩ (.slice none 0 0)).setCell ⟨G,6,none⟩ (.slice none 0 0)).setCell ⟨G,7,none⟩ (.bool f)).setCell ⟨G,8,none⟩ (.slice ak n ck)).setCell ⟨G,9,none⟩ (.int .i64 (p:Int)))=w3 at W3 O3 E3 ⊢
 have bel:Below w.heap.size w w3:=by
  rw [hG2]
  rw [hG2] at B1
  have b2':Below G w1 w2:=⟨b2.os,b2.tape,b2.output,b2.size,fun k hk=>b2.block k (by omega)⟩
  exact(B1.trans b2').trans E3
 obtain⟨r0,r1,r2,r3,r4,r5,r6,r7,r8,r9⟩:=row_cell10 W3
 have HE:TrR w r (.returned (.tuple #[.agg #[.int .i64 (k:Int),.string (bA t),.int .i64 (vk:Int),.int .i64 (vn:Int),.string (bA vs),.slice none 0 0,.slice none 0 0,.bool f,.slice ak n ck,.int .i64 (p:Int)],.int .i64 (pl:Int),.int .i64 (er:Int)])) w3:=by
  refine⟨k,t,vk,vn,vs,f,n,ak,ck,p,pl,er,S,rfl,?_⟩
  have hx:=uZ HX
  match r,hx with
  |.error (a,q),hx=>exact hx
  |.ok (ns,l),hx=>
   refine⟨fun hk=>?_,hx.2⟩
   obtain⟨h1,h2,h3,h4⟩:=hx.1 hk
   exact⟨h1,h2,h3,(h4.to (fun b hb _ _=>O3 b (by omega)) E3.size).low (by have:=B1.size;omega)⟩
 refine bodyPost_ret (v:=.tuple #[.agg #[.int .i64 (k:Int),.string (bA t),.int .i64 (vk:Int),.int .i64 (vn:Int),.string (bA vs),.slice none 0 0,.slice none 0 0,.bool f,.slice ak n ck,.int .i64 (p:Int)],.int .i64 (pl:Int),.int .i64 (er:Int)]) ?_ rfl ⟨((uZ HR) _ _).2 HE,bel⟩
 simp [results,Tryz.results9,go_sem,r0,r1,r2,r3,r4,r5,r6,r7,r8,r9]
theorem one_of {lo:Nat} {w:World} {k':Nat} {t':List UInt8} {vk' vn':Nat} {vs':List UInt8} {f':Bool} {ks':List Nd} {p':Nat} {k:Nat} {t:List UInt8} {vk vn:Nat} {vs:List UInt8} {f:Bool} {n:Nat} {ak:Option Addr} {ck p:Nat} {S:List Nat}
  (h:NdOk lo w [⟨k',t',vk',vn',vs',f',ks',p'⟩] (ndC k t vk vn vs f n ak ck p) S):k=k'∧t=t'∧vk=vk'∧vn=vn'∧vs=vs'∧f=f'∧n=ks'.length∧p=p':=by
 have hn:=h.nl
 simp only [IsNL] at hn
 obtain⟨ak1,ck1,C',R,S1,S2,hC,hS,ho,h1,h2,h3⟩:=hn
 subst h2 h3
 simp only [ndC,List.append_nil,List.cons.injEq,Value.int.injEq,Value.string.injEq,Value.slice.injEq,Value.bool.injEq,true_and,and_true] at hC
 obtain⟨e1,e2,e3,e4,e5,e6,⟨e7,e8,e9⟩,e10⟩:=hC
 exact⟨by omega,bA_inj.1 e2,by omega,by omega,bA_inj.1 e5,e6,by omega,by omega⟩
theorem TrR.yes {w:World} {k':Nat} {t':List UInt8} {vk' vn':Nat} {vs':List UInt8} {f':Bool} {ks':List Nd} {p':Nat} {l:List Tk} {e:Ending} {w':World} (hl:(hdT l).k=0) (h:TrR w (.ok ([⟨k',t',vk',vn',vs',f',ks',p'⟩],l)) e w') :
  ∃(ak:Option Addr) (ck:Nat) (S:List Nat),e=.returned (.tuple #[.agg #[.int .i64 (k':Int),.string (bA t'),.int .i64 (vk':Int),.int .i64 (vn':Int),.string (bA vs'),.slice none 0 0,.slice none 0 0,.bool f',.slice ak ks'.length ck,.int .i64 (p':Int)],.int .i64 0,.int .i64 0])∧NdOk w.heap.size w' [⟨k',t',vk',vn',vs',f',ks',p'⟩] (ndC k' t' vk' vn' vs' f' ks'.length ak ck p') S:=by
 obtain⟨k,t,vk,vn,vs,f,n,ak,ck,p,pl,er,S,rfl,h⟩:=h
 obtain⟨rfl,rfl,_,h2⟩:=(uZ h).1 hl
 obtain⟨rfl,rfl,rfl,rfl,rfl,rfl,rfl,rfl⟩:=one_of h2
 exact⟨ak,ck,S,rfl,h2⟩
theorem bx (u:World) (c:Array Value) (T:TypeId):(u.alloc (.cells c T)).heap[u.heap.size]?=some (.cells c T (0,0))∧Below u.heap.size u (u.alloc (.cells c T)):=⟨heap_alloc_new _ _,(Below.refl _ _).alloc (Nat.le_refl _) _⟩
def tnO (n:Nd):Tn:=.mk (n.k:Int) (bA n.t) (.mk (n.vk:Int) (n.vn:Int) (bA n.vs) [] []) n.f (tnL n.ks) (n.p:Int)
theorem tnO_isN {lo:Nat} {w:World} {n:Nd} {C:List Value} {S:List Nat} (h:NdOk lo w [n] C S) (hb:bdN [n]):IsN w (fun b=>b<w.heap.size) (tnO n) C:=by
 obtain⟨y,hy,hN⟩:=isN_of h hb
 obtain⟨k,t,vk,vn,vs,f,ks,p⟩:=n
 simp only [tnL,List.cons.injEq,and_true] at hy
 subst hy
 exact hN
theorem rowOfN {w:World} {B:Nat} {y:Tn} {x0 x1 x2 x3 x4 x5 x6 x7 x9:Value} {a:Option Addr} {n cc:Nat} (h:IsN w (fun b=>b<B) y [x0,x1,x2,x3,x4,x5,x6,x7,.slice a n cc,x9]):RowN w B y.ks a cc:=by
 obtain⟨vk,vn,vs,al,ak,ya,ll,cl,lk,ck,yc,he,_,hrow,_⟩:=h.opn
 simp only [List.cons.injEq,Value.slice.injEq] at he
 obtain⟨_,_,_,_,_,_,_,_,⟨e1,e2,e3⟩,_⟩:=he
 rw [e1,e3]
 exact hrow
theorem source_ok (s:ByteArray) (w:World) (he:Ev w) (hw6:5<w.heap.size) (hT:Tab w) {n:Nd} {l:List Tk} (h:PgOf 27 s.data.toList (.ok ([n],l))) (hl:(hdT l).k=0) (hb:bdN [n]) :
  Calls Tryz.prog 11 #[.string s] w fun e w'=>e=.returned (.tuple #[.int .i64 (prgC 20000 (tnO n)).1,.int .i64 (prgC 20000 (tnO n)).2])∧Below w.heap.size w w':=by
 have CE:=hZ (program_any s w he hw6 h)
 have HT:=hZ hT
 obtain⟨R,hR⟩:=eX (prgC 20000 (tnO n))
 rw [hR]
 have HRR:=hZ hR
 have HL:=hZ (And.intro hl hb)
 clear he hw6 hT h hl hb hR
 go_enter Tryz.func11,Tryz.ntmps11
 go_wp2_with fail
 refine(uZ CE).mono ?_
 rintro e u ⟨h1,b1⟩
 obtain⟨k,t,vk,vn,vs,f,ks,p⟩:=n
 obtain⟨ak,ck,S,rfl,hS⟩:=TrR.yes (uZ HL).1 h1
 have hN:=tnO_isN hS (uZ HL).2
 have hrow:=rowOfN hN
 have HN:=hZ (And.intro hN hrow)
 have HT1:=hZ ((uZ HT).below b1)
 have B1:=hZ b1
 clear h1 hS hN hrow CE b1 HL HT
 obtain⟨A2,B2⟩:=bx u #[.int .i64 (k:Int),.string (bA t),.int .i64 (vk:Int),.int .i64 (vn:Int),.string (bA vs),.slice none 0 0,.slice none 0 0,.bool f,.slice ak ks.length ck,.int .i64 (p:Int)] 28
 obtain⟨w2,hw2⟩:=eX (u.alloc (.cells #[.int .i64 (k:Int),.string (bA t),.int .i64 (vk:Int),.int .i64 (vn:Int),.string (bA vs),.slice none 0 0,.slice none 0 0,.bool f,.slice ak ks.length ck,.int .i64 (p:Int)] 28))
 rw [hw2] at A2 B2
 obtain⟨r0,r1,r2,r3,r4,r5,r6,r7,r8,r9⟩:=row_cell10 A2
 have HB:Hid (Below w.heap.size w w2):=hZ ((uZ B1).trans (B2.mono (uZ B1).size))
 have HB2:=hZ B2
 have CP:=hZ (prog_any (d:=20000) (k:=(k:Int)) (vk:=(vk:Int)) (vn:=(vn:Int)) (p:=(p:Int)) (t:=bA t) (vs:=bA vs) (al:=none) (ak:=none) (a:=ak) (ll:=0) (cl:=0) (lk:=0) (ck:=0) (m:=ks.length) (cc:=ck) (f:=f) ((uZ HT1).below B2) B2.size (IsN.to (fun b hl=>B2.block b hl) (fun _ h=>h) (uZ HN).1) ((uZ HN).2.later B2) (by show (tnL ks).length=ks.length;exact tnL_len ks) (by omega) fn_ok)
 rw [uZ HRR] at CP
 have HW:=hZ hw2
 clear A2 B2 hw2 B1 HT1 HN
 go_upto_region 2 with fail
 rw [uZ HW]
 clear HW
 obtain⟨g,hg⟩:=eX (u.heap.size)
 rw [hg] at r0 r1 r2 r3 r4 r5 r6 r7 r8 r9 ⊢
 clear hg
 go_wp2_with fail
 refine(uZ CP).mono ?_
 rintro e w3 ⟨rfl,b3⟩
 have HB3:=hZ ((uZ HB).trans (b3.mono (uZ HB).size))
 clear b3 CP r0 r1 r2 r3 r4 r5 r6 r7 r8 r9
 go_wp2_with fail
 go_ret2
 exact⟨rfl,uZ HB3⟩
def tnF:Nat→List Nd→Option (List Tn)
 |0,_=>none
 |_+1,[]=>some []
 |d+1,n :: r=>match tnF d n.ks,tnF d r with
  |some a,some b=>some (.mk (n.k:Int) (bA n.t) (.mk (n.vk:Int) (n.vn:Int) (bA n.vs) [] []) n.f a (n.p:Int) :: b)
  |_,_=>none
theorem tnF_ok:∀(d:Nat) (l:List Nd) (x:List Tn),tnF d l=some x→tnL l=x
 |0,_,_,h=>by simp [tnF] at h
 |d+1,[],x,h=>by
  simp only [tnF,Option.some.injEq] at h
  subst h
  simp only [tnL]
 |d+1,.mk k t vk vn vs f ks p :: r,x,h=>by
  simp only [tnF] at h
  split at h
  ·rename_i a b ha hb
   simp only [Option.some.injEq] at h
   subst h
   simp only [tnL,tnF_ok d ks a ha,tnF_ok d r b hb]
  ·cases h
def bdF:Nat→List Nd→Bool
 |0,_=>false
 |_+1,[]=>true
 |d+1,n :: r=>decide (n.k≤9223372036854775807∧n.p≤9223372036854775807∧n.vk≤9223372036854775807∧n.vn≤9223372036854775807∧n.t.length≤140737488351232∧n.vs.length≤140737488351232∧n.ks.length≤140737488351232) && bdF d n.ks && bdF d r
theorem bdF_ok:∀(d:Nat) (l:List Nd),bdF d l=true→bdN l
 |0,_,h=>by simp [bdF] at h
 |d+1,[],h=>by simp only [bdN]
 |d+1,.mk k t vk vn vs f ks p :: r,h=>by
  simp only [bdF,Bool.and_eq_true,decide_eq_true_eq] at h
  simp only [bdN]
  exact⟨h.1.1,bdF_ok d ks h.1.2,bdF_ok d r h.2⟩
def vlF (k:Int) (v:Vl):Bool:=if k=13 then (decide (v.kind=2) && decide (0≤v.n) && formB 2 v.n v.s 0 [] && decide (v.l.length=0) && decide (v.ks.length=0) && decide (v.s.size≤100)) else vlB k v
theorem vlF_ok {k:Int} {v:Vl} (h:vlF k v=true):vlB k v=true:=by
 unfold vlF at h
 by_cases hk:k=13
 ·rw [if_pos hk] at h
  simp only [Bool.and_eq_true,decide_eq_true_eq] at h
  obtain⟨⟨⟨⟨⟨h1,h2⟩,h3⟩,h4⟩,h5⟩,h6⟩:=h
  obtain⟨kind,n,s,l,ks⟩:=v
  simp only at h1 h2 h3 h4 h5 h6
  have hl:=List.eq_nil_of_length_eq_zero h4
  have hks:=List.eq_nil_of_length_eq_zero h5
  subst hl hks h1
  unfold vlB rightB okB
  rw [if_pos hk]
  simp only [okL_nil,wt,wtL_nil,keysW,Bool.and_true,List.length_nil,h3,Bool.true_and]
  rw [if_neg (by omega)]
  simp only [if_true,Bool.and_eq_true,decide_eq_true_eq]
  exact⟨h2,by omega⟩
 ·rw [if_neg hk] at h
  exact h
def rwF (n:Tn):Bool:=txB n.k n.t && flB n.k n.f && vlF n.k n.v && kdB n.k (n.ks.map (·.k))
theorem rwF_ok {n:Tn} (h:rwF n=true):rwB n=true:=by
 unfold rwF at h
 unfold rwB
 simp only [Bool.and_eq_true] at h ⊢
 exact⟨⟨h.1.1,vlF_ok h.1.2⟩,h.2⟩
def fmF:Nat→List Tn→Bool
 |0,_=>false
 |_+1,[]=>true
 |d+1,n :: r=>rwF n && fmF d n.ks && fmF d r
theorem fmF_ok:∀(d:Nat) (l:List Tn),fmF d l=true→fmL l=true
 |0,_,h=>by simp [fmF] at h
 |d+1,[],h=>by simp only [fmL]
 |d+1,.mk k t v f ks p :: r,h=>by
  simp only [fmF,Bool.and_eq_true] at h
  simp only [fmL,Bool.and_eq_true]
  exact⟨⟨rwF_ok h.1.1,fmF_ok d ks h.1.2⟩,fmF_ok d r h.2⟩
def cnF:Nat→List Tn→Option Nat
 |0,_=>none
 |_+1,[]=>some 0
 |d+1,n :: r=>if n.v.l.isEmpty=true then (match cnF d n.ks,cnF d r with
  |some a,some b=>some (1+a+b)
  |_,_=>none) else none
theorem cnF_ok:∀(d:Nat) (l:List Tn) (x:Nat),cnF d l=some x→cns l=x
 |0,_,_,h=>by simp [cnF] at h
 |d+1,[],x,h=>by
  simp only [cnF,Option.some.injEq] at h
  subst h
  simp only [cns]
 |d+1,.mk k t v f ks p :: r,x,h=>by
  simp only [cnF] at h
  split at h
  ·rename_i hv
   split at h
   ·rename_i a b ha hb
    simp only [Option.some.injEq] at h
    subst h
    have hl:v.l=[]:=by simpa using hv
    simp only [cns,cnF_ok d ks a ha,cnF_ok d r b hb,hl,cvs]
   ·cases h
  ·cases h
def dpF (k:Int) (t:ByteArray):Nat→Nat→List Tn→Option Nat
 |0,_,_=>none
 |_+1,_,[]=>some 0
 |d+1,i,n :: r=>match dpF n.k n.t d 0 n.ks,dpF k t d (i+1) r with
  |some a,some b=>some (max (arnd k t n.k n.t i+max (opn n.k) a) b)
  |_,_=>none
termination_by structural d=>d
theorem dpF_ok (d:Nat):∀(k:Int) (t:ByteArray) (i:Nat) (l:List Tn) (x:Nat),dpF k t d i l=some x→dpL k t i l=x:=by
 induction d with
 |zero=>intro k t i l x h;simp [dpF] at h
 |succ d ih=>
  intro k t i l x h
  rcases l with _|⟨⟨ky,ty,v,f,ks,p⟩,r⟩
  ·simp only [dpF,Option.some.injEq] at h
   subst h
   simp only [dpL]
  ·simp only [dpF] at h
   split at h
   ·rename_i a b ha hb
    simp only [Option.some.injEq] at h
    subst h
    simp only [dpL,ih ky ty 0 ks a ha,ih k t (i+1) r b hb]
   ·cases h
def rgF (d:Nat) (y:Tn):Option Bool:=match cnF d [y],dpF y.k y.t d 0 y.ks with
 |some c,some e=>if fmF d [y]=true then some (decide (c≤20000) && decide (max (opn y.k) e≤24)) else none
 |_,_=>none
theorem rgF_ok {d:Nat} {y:Tn} {b:Bool} (h:rgF d y=some b):rgB y=b:=by
 unfold rgF at h
 split at h
 ·rename_i c e hc he
  split at h
  ·rename_i hf
   simp only [Option.some.injEq] at h
   subst h
   have h1:=fmF_ok d [y] hf
   rw [fmL_cons] at h1
   simp only [Bool.and_eq_true] at h1
   unfold rgB dpN
   rw [cnF_ok d [y] c hc,dpF_ok d _ _ _ _ e he,h1.1,Bool.and_true]
  ·cases h
 ·cases h
def prgF (d:Nat) (y:Tn) (b:Bool):Ft:=if (decide (y.k=1) && b)=true then (if (heaL (fun _=>none) y.ks).1.2=0 then bodL (heaL (fun _=>none) y.ks).2 d y.ks else (heaL (fun _=>none) y.ks).1) else (0,190)
def srcF (s:List UInt8):Option Ft:=match allT s with
 |.error _=>none
 |.ok ts=>match PJ 3000 27 0 [] ts 0 with
  |some (.ok ([n],l))=>if (hdT l).k=0∧bdF 100 [n]=true then (match tnF 100 n.ks with
   |some ks=>(match rgF 100 (.mk (n.k:Int) (bA n.t) (.mk (n.vk:Int) (n.vn:Int) (bA n.vs) [] []) n.f ks (n.p:Int)) with
    |some b=>some (prgF 20000 (.mk (n.k:Int) (bA n.t) (.mk (n.vk:Int) (n.vn:Int) (bA n.vs) [] []) n.f ks (n.p:Int)) b)
    |none=>none)
   |none=>none) else none
  |_=>none
theorem srcF_ok {s:List UInt8} {f:Ft} (h:srcF s=some f):∃n l,PgOf 27 s (.ok ([n],l))∧(hdT l).k=0∧bdN [n]∧prgC 20000 (tnO n)=f:=by
 unfold srcF at h
 split at h
 ·cases h
 rename_i ts hts
 split at h
 ·rename_i n l hp
  split at h
  ·rename_i hc
   split at h
   ·rename_i ks hks
    split at h
    ·rename_i b hb
     simp only [Option.some.injEq] at h
     have hk:=tnF_ok _ _ _ hks
     refine⟨n,l,Or.inr ⟨ts,3000,hts,hp⟩,hc.1,bdF_ok _ _ hc.2,?_⟩
     rw [←h]
     unfold prgC tnO
     rw [hk,rgF_ok hb]
     rfl
    ·cases h
   ·cases h
  ·cases h
 ·cases h
theorem source_is (s:ByteArray) (w:World) (he:Ev w) (hw6:5<w.heap.size) (hT:Tab w) {l:List UInt8} (hs:s.data.toList=l) {f:Ft} (h:srcF l=some f) :
  Calls Tryz.prog 11 #[.string s] w fun e w'=>e=.returned (.tuple #[.int .i64 f.1,.int .i64 f.2])∧Below w.heap.size w w':=by
 obtain⟨n,t,h1,h2,h3,h4⟩:=srcF_ok h
 have h5:=source_ok s w he hw6 hT (by rw [hs];exact h1) h2 h3
 rw [h4] at h5
 exact h5
theorem srcX:srcF [102,110,32,102,40,41,32,123,32,103,40,41,59,32,125]=some (9,192):=by kernel_rfl
end Go.Proofs.YtjdpaihhhjdgmaaGreatDoor
