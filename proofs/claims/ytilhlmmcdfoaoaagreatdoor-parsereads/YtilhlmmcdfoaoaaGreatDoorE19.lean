/-
  Layer 17 (parse): the document's reader: the reader of expressions whole; conditions: the reader's state.
  Layer 17 (parse): the document's reader of functions, blocks and statements, as a function of tokens and a state that keeps the first error; plain lists, no conditions.
  Layer 17 (parse): the document's reader: how a node is laid behind a row; conditions: the reader's state.
  Layer 17 (parse): the document's reader: conditions, Lets; conditions: the reader's state.
-/
import Derived.Test.YtilhlmmcdfoaoaaGreatDoorE13
import Derived.Test.YtilhlmmcdfoaoaaGreatDoorE15
import Derived.Test.YtilhlmmcdfoaoaaGreatDoorE16
import Derived.Test.YtilhlmmcdfoaoaaGreatDoorE17
import Derived.Test.YtilhlmmcdfoaoaaGreatDoorE18
import Derived.Test.YtilhlmmcdfoaoaaGreatDoorE00
set_option linter.unusedVariables false
set_option linter.unusedSimpArgs false
namespace Go.Proofs.YtilhlmmcdfoaoaaGreatDoor
open Go.RowKit
set_option linter.unusedVariables false
set_option linter.unusedSimpArgs false
structure AllQ (f:Nat):Prop where
 expr:∀{c:Cx} {σ:Sg} {w:World} {r:List Nd × Sg},RJ c.ts f 0 0 [] σ=some r→Rq w c σ→Calls Tryz.prog 91 #[.pointer (some ⟨c.g,0,none⟩)] w fun e w'=>NqP c w r e w'
 unary:∀{c:Cx} {σ:Sg} {w:World} {r:List Nd × Sg},RJ c.ts f 1 0 [] σ=some r→Rq w c σ→Calls Tryz.prog 120 #[.pointer (some ⟨c.g,0,none⟩)] w fun e w'=>NqP c w r e w'
 row:∀{c:Cx} {σ:Sg} {w:World} {r:List Nd × Sg} {x:Nat},1≤x→x≤6→RJ c.ts f 2 x [] σ=some r→Rq w c σ→Calls Tryz.prog 103 #[.pointer (some ⟨c.g,0,none⟩),.int .i64 (x:Int)] w fun e w'=>NqP c w r e w'
 prim:∀{c:Cx} {σ:Sg} {w:World} {r:List Nd × Sg},RJ c.ts f 5 0 [] σ=some r→Rq w c σ→Calls Tryz.prog 136 #[.pointer (some ⟨c.g,0,none⟩)] w fun e w'=>NqP c w r e w'
 l1:∀{c:Cx} {σ:Sg} {w:World} {r:List Nd × Sg},RJ c.ts f 6 41 [] σ=some r→Rq w c σ→Calls Tryz.prog 138 #[.pointer (some ⟨c.g,0,none⟩),.string ⟨#[41]⟩] w fun e w'=>KqP c w r e w'
 l2:∀{c:Cx} {σ:Sg} {w:World} {r:List Nd × Sg},RJ c.ts f 6 93 [] σ=some r→Rq w c σ→Calls Tryz.prog 138 #[.pointer (some ⟨c.g,0,none⟩),.string ⟨#[93]⟩] w fun e w'=>KqP c w r e w'
 pairs:∀{c:Cx} {σ:Sg} {w:World} {r:List Nd × Sg},RJ c.ts f 8 0 [] σ=some r→Rq w c σ→Calls Tryz.prog 140 #[.pointer (some ⟨c.g,0,none⟩)] w fun e w'=>KqP c w r e w'
 brack:∀{c:Cx} {σ:Sg} {w:World} {r:List Nd × Sg},RJ c.ts f 23 0 [] σ=some r→Rq w c σ→Calls Tryz.prog 139 #[.pointer (some ⟨c.g,0,none⟩),.agg (tkA (tkQ c.ts σ))] w fun e w'=>NqP c w r e w'
 post:∀{c:Cx} {σ:Sg} {w:World} {r:List Nd × Sg},RJ c.ts f 24 0 [] σ=some r→Rq w c σ→Calls Tryz.prog 132 #[.pointer (some ⟨c.g,0,none⟩)] w fun e w'=>NqP c w r e w'
theorem allq_step (f:Nat) (hf:f≤500000) (ih:∀f1,f1≤f→AllQ f1):AllQ (f+1):=by
 have i:=ih f (Nat.le_refl _)
 exact {
  expr:=fun hJ h=>exprq_step (f:=f) (fun h1 h6 hy hr=>i.row h1 h6 hy hr) hJ h
  unary:=fun hJ h=>unaryq_step (f:=f) i.unary i.post hJ h
  row:=fun h1 h6 hJ h=>rowq_step (f:=f) (fun h1=>fun ha hb hy hr=>(ih _ h1).row ha hb hy hr) i.unary h1 h6 hJ h
  prim:=fun hJ h=>primq_step (f:=f) i.l1 i.brack hJ h
  l1:=fun hJ h=>listq_step (f:=f) (x:=41) hf [41] rfl (fun h1=>(ih _ h1).expr) hJ rfl h
  l2:=fun hJ h=>listq_step (f:=f) (x:=93) hf [93] rfl (fun h1=>(ih _ h1).expr) hJ rfl h
  pairs:=fun hJ h=>pairsq_step (f:=f) hf (fun h1=>(ih _ h1).expr) hJ rfl h
  brack:=fun hJ h=>brackq_step (f:=f) i.expr i.l2 i.pairs hJ h
  post:=fun hJ h=>postq_step (f:=f) (fun h1=>(ih _ h1).expr) i.prim hJ h }
theorem all_Q:∀n f,f≤n→f≤500000→AllQ f
 |n,0,_,_=>{
  expr:=fun hJ _=>by cases hJ
  unary:=fun hJ _=>by cases hJ
  row:=fun _ _=>fun hJ _=>by cases hJ
  prim:=fun hJ _=>by cases hJ
  l1:=fun hJ _=>by cases hJ
  l2:=fun hJ _=>by cases hJ
  pairs:=fun hJ _=>by cases hJ
  brack:=fun hJ _=>by cases hJ
  post:=fun hJ _=>by cases hJ }
 |0,f+1,h,_=>by omega
 |n+1,f+1,h,hf=>allq_step f (by omega) (fun f1 h1=>all_Q n f1 (by omega) (by omega))
def tk1 (T:List Tk) (σ:Sg):Tk:=hdT (T.drop (σ.i+1))
def setQ (T:List Tk) (σ:Sg):Bool:=decide (isQ T 1 [] σ=true∧σ.i+1<T.length∧(tk1 T σ).k=5∧(tk1 T σ).t=[61])
def kyQ (T:List Tk) (s:List UInt8) (σ:Sg):Bool:=decide ((tkQ T σ).k=2∧(tkQ T σ).t=s)
def enQ (T:List Tk) (σ:Sg):Sg:=(muQ T 5 [59] σ).2
def sPrL (T:List Tk) (r:Jq) (acc:List Nd) (σ:Sg):=if σ.e=0∧¬(tkQ T σ).k=0 then bq (r 2 0 [] σ) (fun ns s1=>r 1 0 (acc++ns) s1) else okq acc σ
def xpQ (T:List Tk) (σ:Sg):Sg:=if isQ T 2 [101,120,112,111,114,116] σ=true then nxQ T σ else σ
def nmQ (T:List Tk) (σ:Sg):Tk × Sg:=muQ T 1 [] (muQ T 2 [102,110] (xpQ T σ)).2
def paQ (T:List Tk) (σ:Sg):Sg:=(muQ T 5 [40] (nmQ T σ).2).2
def sFn (T:List Tk) (r:Jq) (σ:Sg):=
 bq (if isQ T 5 [41] (paQ T σ)=true then okq [] (paQ T σ) else r 3 0 [] (paQ T σ)) (fun ps s5=>bq (r 4 0 [] (muQ T 5 [41] s5).2) (fun bl s6=>okq [⟨2,(nmQ T σ).1.t,0,0,[],isQ T 2 [101,120,112,111,114,116] σ,ps++bl,(tkQ T σ).p⟩] s6))
def sPaL (T:List Tk) (r:Jq) (acc:List Nd) (σ:Sg):=
 if σ.e=0 then (if isQ T 5 [44] (muQ T 1 [] σ).2=true then r 3 0 (acc++[nd0 3 (muQ T 1 [] σ).1.t [] (muQ T 1 [] σ).1.p]) (nxQ T (muQ T 1 [] σ).2) else okq (acc++[nd0 3 (muQ T 1 [] σ).1.t [] (muQ T 1 [] σ).1.p]) (muQ T 1 [] σ).2) else okq acc σ
def sBlock (T:List Tk) (r:Jq) (σ:Sg):=
 if isQ T 5 [123] σ=true then bq (r 5 0 [] (opQ T σ).2) (fun ks s1=>okq [nd0 4 [] ks (tkQ T σ).p] (clQ T [125] s1)) else okq [nd0 4 [] [] (tkQ T σ).p] (wrQ T 170 σ)
def sBlL (T:List Tk) (r:Jq) (acc:List Nd) (σ:Sg):=if isQ T 5 [125] σ=true∨¬σ.e=0 then okq acc σ else bq (r 6 0 [] σ) (fun ns s1=>r 5 0 (acc++ns) s1)
def sStat (T:List Tk) (e r:Jq) (σ:Sg):=
 if setQ T σ=true then bq (e 0 0 [] (nxQ T (nxQ T σ))) (fun ns s1=>okq [nd0 6 (tkQ T σ).t ns (tkQ T σ).p] (enQ T s1)) else
 if kyQ T [108,101,116] σ=true then r 7 0 [] σ else if kyQ T [105,102] σ=true then r 9 0 [] σ else
 if kyQ T [119,104,105,108,101] σ=true then bq (r 8 0 [] (nxQ T σ)) (fun c s1=>bq (r 4 0 [] s1) (fun b s2=>okq [nd0 8 [] (c++b) (tkQ T σ).p] s2)) else
 if kyQ T [114,101,116,117,114,110] σ=true then (if isQ T 5 [59] (nxQ T σ)=true then okq [nd0 9 [] [] (tkQ T σ).p] (enQ T (nxQ T σ)) else bq (e 0 0 [] (nxQ T σ)) (fun ns s1=>okq [nd0 9 [] ns (tkQ T σ).p] (enQ T s1))) else
 if kyQ T [98,114,101,97,107] σ=true then okq [nd0 10 [] [] (tkQ T σ).p] (enQ T (nxQ T σ)) else
 if kyQ T [99,111,110,116,105,110,117,101] σ=true then okq [nd0 11 [] [] (tkQ T σ).p] (enQ T (nxQ T σ)) else
 bq (e 0 0 [] σ) (fun ns s1=>okq [nd0 12 [] ns (tkQ T σ).p] (enQ T s1))
def lnQ (T:List Tk) (σ:Sg):Tk × Sg:=muQ T 1 [] (nxQ T σ)
def sLet (T:List Tk) (e:Jq) (σ:Sg):=
 if isQ T 5 [61] (lnQ T σ).2=true then bq (e 0 0 [] (nxQ T (lnQ T σ).2)) (fun ns s1=>okq [nd0 5 (lnQ T σ).1.t ns (tkQ T σ).p] (enQ T s1)) else okq [nd0 5 (lnQ T σ).1.t [] (tkQ T σ).p] (enQ T (lnQ T σ).2)
def sCond (T:List Tk) (e:Jq) (σ:Sg):=bq (e 0 0 [] (muQ T 5 [40] σ).2) (fun ns s1=>okq ns (muQ T 5 [41] s1).2)
def sChoice (T:List Tk) (r:Jq) (σ:Sg):=
 bq (r 8 0 [] (nxQ T σ)) (fun c s1=>bq (r 4 0 [] s1) (fun b s2=>if isQ T 2 [101,108,115,101] s2=true then
  (if isQ T 2 [105,102] (nxQ T s2)=true then bq (r 9 0 [] (nxQ T s2)) (fun x s3=>okq [nd0 7 [] (c++b++x) (tkQ T σ).p] s3) else bq (r 4 0 [] (nxQ T s2)) (fun x s3=>okq [nd0 7 [] (c++b++x) (tkQ T σ).p] s3))
  else okq [nd0 7 [] (c++b) (tkQ T σ).p] s2))
def stepS (T:List Tk) (e r:Jq):Jq:=fun j x acc σ=>match j with
 |0=>bq (r 1 0 [] σ) (fun ks s1=>okq [nd0 1 [] ks 0] s1)
 |1=>sPrL T r acc σ
 |2=>sFn T r σ
 |3=>sPaL T r acc σ
 |4=>sBlock T r σ
 |5=>sBlL T r acc σ
 |6=>sStat T e r σ
 |7=>sLet T e σ
 |8=>sCond T e σ
 |9=>sChoice T r σ
 |_=>none
def RS (T:List Tk) (F:Nat):Nat→Jq
 |0=>fun _ _ _ _=>none
 |f+1=>stepS T (RJ T F) (RS T F f)
theorem wpl_appM {w:World} {ops:Array Oper} {rest:List Oper} {o:Oper} {a:Act} {Q:Exit→Act→World→Prop} (m:Nat) (hgd:o.guard=none) (s x:Operand) (ho:o.op=.call { callee:=.builtin .append,args:=#[s,x],argTypes:=#[27,27] })
  (base:Nat) (v:Value) (n:Nat) (xs:List Value) (hs:a.eval s=v) (hown:w.ownsRow base 29 10 v n xs) (q:Nat) (cs:Array Value) (hx:a.eval x=.slice (some ⟨q,0,none⟩) m m) (hq:w.heap[q]?=some (.cells cs 29 (0,0))) (hl:cs.toList.length=m * 10) (h1:∀u∈cs.toList,u.oneCell'=true)
  (hm:0<m) (hn:n+m≤1000000) (hbase:base≤w.heap.size)
  (h:∀g cap w',Hid (w'.ownsRow base 29 10 (.slice (some ⟨g,0,none⟩) (n+m) cap) (n+m) (xs++cs.toList)∧w.grownBy w' v.ownBlock∧(v.ownBlock=some g∨g=w.heap.size))→wpList Tryz.prog ops Q rest (a.put o.dst (.slice (some ⟨g,0,none⟩) (n+m) cap)) w'):wpList Tryz.prog ops Q (o :: rest) a w:=by
 obtain⟨ind,hi0,hi1,hi2,hi3⟩:=info_nd
 refine wpList_step fun K hK=>?_
 exact step_append_lies w hgd s x 27 ho base 29 ind _ 10 144 Tryz.underlying27 hi0 hi1 hi2 hi3 rfl (by omega) v n xs hs hown ⟨q,0,none⟩ m m cs.toList hx hl (World.news_of_block hq) h1 (by omega) (by unfold maxLen;omega) (by omega) hbase _ rfl (fun g cap w' a b c _=>hK _ _ (h g cap w' (hZ ⟨a,b,c⟩)))
theorem Sq.below2 {w:World} {c:Cx} {T:TypeId} {z:Array Value} {u u':World} {σ:Sg} {d B:Nat} (h:Sq w c T z u σ d) (b:Below B u u') (hB:w.heap.size<B):Sq w c T z u' σ d:=
 ⟨h.rd.two (b.block _ (by have:=h.g1;omega)) (b.block _ (by have:=h.t1;omega)) b.size,⟨b.os.trans h.bs.os,b.tape.trans h.bs.tape,b.output.trans h.bs.output,Nat.le_trans h.bs.size b.size,fun k hk hn=>(b.block k (by omega)).trans (h.bs.block k hk hn)⟩,(b.block _ hB).trans h.bx,h.g1,h.t1⟩
theorem push_box {u u':World} {Q lo:Nat} {cs:Array Value} {ks:List Nd} {v:Value} {C:List Value} {S:List Nat} (hB:u.heap[Q]?=some (.cells cs 29 (0,0))) (hK:Kr lo u ks v C S) (hQl:Q<lo) (hg:u.grownBy u' v.ownBlock):u'.heap[Q]?=some (.cells cs 29 (0,0)):=
 (((Below.refl lo u).grown hg hK.ok.le (fun z hz=>(hK.own.lt z hz).1)).block Q hQl).trans hB
theorem push_all {w:World} {c:Cx} {T:TypeId} {z:Array Value} {u u':World} {σ:Sg} {d Q lo lo2 m g cap:Nat} {x0 x1 x2 x3 x4 x5 x6 x7 x8 x9:Value} {ks ns:List Nd} {v:Value} {C C2:List Value} {S S2:List Nat} (hS:Sq w c T z u σ d) (hQ:w.heap.size<Q) (hB:u.heap[Q]?=some (.cells #[x0,x1,x2,x3,x4,x5,x6,x7,x8,x9] 29 (0,0))) (hK:Kr lo u ks v C S) (hN:NdOk lo2 u ns C2 S2) (hQl:Q<lo) (hll:lo≤lo2) (hw:(∀b,v.ownBlock=some b→b<lo2)∧∀b∈S,b<lo2)
  (h5:Hid (u'.ownsRow lo 29 10 (.slice (some ⟨g,0,none⟩) m cap) m (C++C2)∧u.grownBy u' v.ownBlock∧(v.ownBlock=some g∨g=u.heap.size))) (hm:(ks++ns).length=m) :
  Hid (Sq w c T z (u'.setCell ⟨Q,8,none⟩ (.slice (some ⟨g,0,none⟩) m cap)) σ d)∧Hid ((u'.setCell ⟨Q,8,none⟩ (.slice (some ⟨g,0,none⟩) m cap)).heap[Q]?=some (.cells #[x0,x1,x2,x3,x4,x5,x6,x7,.slice (some ⟨g,0,none⟩) m cap,x9] 29 (0,0)))∧Hid (Kr lo (u'.setCell ⟨Q,8,none⟩ (.slice (some ⟨g,0,none⟩) m cap)) (ks++ns) (.slice (some ⟨g,0,none⟩) m cap) (C++C2) (S++S2)):=by
 obtain⟨o5,g5,a5⟩:=uZ h5
 have bb:Below lo u u':=(Below.refl _ _).grown g5 hK.ok.le (fun z hz=>(hK.own.lt z hz).1)
 have hB5:=(bb.block Q hQl).trans hB
 refine⟨hZ ((hS.below2 bb (by omega)).own Q 8 _ hQ),hZ (by rw [heap_setCell_same u' Q 8 _ _ _ hB5];rfl),hZ ((Kr.push hK hN hll hw.2 hw.1 o5 hm g5 a5).but (q:=Q) (fun b _ hb=>heap_setCell_other _ _ _ _ hb) (by simp) hQl)⟩
theorem ndC_two {k k2 vk vn vk2 vn2 n n2 ck ck2 p p2:Nat} {t t2 vs vs2:List UInt8} {f f2:Bool} {ak ak2:Option Addr}:∀u∈ndC k t vk vn vs f n ak ck p++ndC k2 t2 vk2 vn2 vs2 f2 n2 ak2 ck2 p2,u.oneCell'=true:=fun u hu=>(List.mem_append.1 hu).elim (ndC_one k t vk vn vs f n ak ck p u) (ndC_one k2 t2 vk2 vn2 vs2 f2 n2 ak2 ck2 p2 u)
theorem RS_fuel {T:List Tk} {F f j x:Nat} {acc:List Nd} {σ:Sg} {r:List Nd × Sg} (h:RS T F f j x acc σ=some r):∃g,f=g+1:=by
 cases f with
 |zero=>cases h
 |succ g=>exact⟨g,rfl⟩
set_option maxRecDepth 100000 in
set_option maxHeartbeats 4000000 in
theorem condq_step {c:Cx} {σ:Sg} {w:World} {r:List Nd × Sg} {F f:Nat} (ihe:∀{c:Cx} {σ:Sg} {w:World} {r:List Nd × Sg},RJ c.ts F 0 0 [] σ=some r→Rq w c σ→Calls Tryz.prog 91 #[.pointer (some ⟨c.g,0,none⟩)] w fun e w'=>NqP c w r e w') (hJ:RS c.ts F (f+1) 8 0 [] σ=some r) (h:Rq w c σ) :
  Calls Tryz.prog 94 #[.pointer (some ⟨c.g,0,none⟩)] w fun e w'=>NqP c w r e w':=by
 have S1:=hZ (Sq.start (d:=0) h 29 #[.int .i64 0,.string ⟨#[]⟩,.int .i64 0,.int .i64 0,.string ⟨#[]⟩,.slice none 0 0,.slice none 0 0,.bool false,.slice none 0 0,.int .i64 0])
 obtain⟨w1,hw1⟩:∃w1,w.alloc (.cells #[.int .i64 0,.string ⟨#[]⟩,.int .i64 0,.int .i64 0,.string ⟨#[]⟩,.slice none 0 0,.slice none 0 0,.bool false,.slice none 0 0,.int .i64 0] 29)=w1:=⟨_,rfl⟩
 rw [hw1] at S1
 obtain⟨G,hG⟩:∃G,w.heap.size=G:=⟨_,rfl⟩
 have hgw:c.g<w.heap.size:=h.frz.2.2.2.2
 clear h
 go_enter Tryz.func94,Tryz.ntmps94
 have HJ0:=hZ (show sCond c.ts (RJ c.ts F) σ=some r from hJ)
 clear hJ
 have HJ1:=hZ ((by have:=uZ HJ0;unfold sCond at this;exact this))
 clear HJ0
 obtain⟨⟨ka,ta,na,pa⟩,ht⟩:∃zz,(muQ c.ts 5 [40] σ).1=zz:=⟨_,rfl⟩
 have HTa:=hZ ht
 clear ht
 have CC:=hZ ((by have:=must_any (uZ S1).rd 5 [40];rw [uZ HTa] at this;simp only [tkA] at this;exact this))
 go_wp2_with fail
 refine(uZ CC).mono ?_
 rintro e w2 ⟨rfl,r2,b⟩
 have S2:=hZ ((uZ S1).go (d':=0) b r2)
 clear b r2 CC S1
 obtain⟨nsx,sx,hy,hth⟩:=bq_some (uZ HJ1)
 have HJ2:=hZ (hth)
 clear HJ1
 clear hth
 have CR:=hZ (ihe hy (uZ S2).rd)
 clear hy
 go_wp2_with fail
 refine(uZ CR).mono ?_
 rintro e w3 ⟨kx,tx,vkx,vnx,vsx,fx,nx,akx,ckx,px,Zx,rfl,hlx,hn,r2,b⟩
 simp only [] at hlx hn r2
 have S3:=hZ ((uZ S2).go (d':=0) b r2)
 obtain⟨lox,hlo⟩:∃zz,w2.heap.size=zz:=⟨_,rfl⟩
 have ltlox:w.heap.size<lox:=by rw [←hlo];exact(uZ S2).lt
 rw [hlo] at hn
 have HNx_3:=hZ hn
 clear hlo b r2 hn CR S2
 go_upto_region 3 with fail
 obtain⟨w4,hw⟩:∃zz,w3.alloc (.cells #[.int .i64 (kx:Int),.string (bA tx),.int .i64 (vkx:Int),.int .i64 (vnx:Int),.string (bA vsx),.slice none 0 0,.slice none 0 0,.bool fx,.slice akx nx ckx,.int .i64 (px:Int)] 29)=zz:=⟨_,rfl⟩
 have b:Below w3.heap.size w3 w4:=by rw [←hw];exact(Below.refl _ _).alloc (Nat.le_refl _) _
 obtain⟨X,hQ⟩:∃zz,w3.heap.size=zz:=⟨_,rfl⟩
 have HBX_4:Hid (w4.heap[X]?=some (.cells #[.int .i64 (kx:Int),.string (bA tx),.int .i64 (vkx:Int),.int .i64 (vnx:Int),.string (bA vsx),.slice none 0 0,.slice none 0 0,.bool fx,.slice akx nx ckx,.int .i64 (px:Int)] 29 (0,0))):=hZ (by rw [←hw,←hQ];exact heap_alloc_new _ _)
 have S4:=hZ ((uZ S3).below b)
 have HNx_4:=hZ ((uZ HNx_3).beside (Beside.of_below (gr:=c.g) b) (by omega))
 have ANx_X:=hZ ((uZ HNx_3).fresh hQ)
 have ltX:w.heap.size<X:=by rw [←hQ];exact(uZ S3).lt
 rw [hw]
 try rw [hQ]
 clear hw hQ b S3 HNx_3
 obtain⟨⟨kb,tb,nb,pb⟩,ht⟩:∃zz,(muQ c.ts 5 [41] sx).1=zz:=⟨_,rfl⟩
 have HTb:=hZ ht
 clear ht
 have CC:=hZ ((by have:=must_any (uZ S4).rd 5 [41];rw [uZ HTb] at this;simp only [tkA] at this;exact this))
 go_wp2_with fail
 refine(uZ CC).mono ?_
 rintro e w5 ⟨rfl,r2,b⟩
 have S5:=hZ ((uZ S4).go (d':=0) b r2)
 have HBX_5:=bx_go HBX_4 b (by omega)
 have HNx_5:=hZ ((uZ HNx_4).beside b (by omega))
 clear b r2 CC S4 HBX_4 HNx_4
 have hr1:=okq_some (uZ HJ2)
 have HR:=hZ (hr1)
 have BX:=(uZ S5).bx
 rw [hG] at BX
 obtain⟨g0,g1,g2,g3,g4,g5,g6,g7,g8,g9⟩:=row_cell10 BX
 obtain⟨z0,z1,z2,z3,z4,z5,z6,z7,z8,z9⟩:=frozen10 BX
 clear BX
 obtain⟨Xc0,Xc1,Xc2,Xc3,Xc4,Xc5,Xc6,Xc7,Xc8,Xc9⟩:=row_cell10 (uZ HBX_5)
 have FF:=hZ (Sq.done (uZ S5) ((uZ HNx_5).low (lo':=w.heap.size+1) (by omega)) hlx hG)
 go_wp2_with fail
 refine bodyPost_ret (ret_c1 (p:=2) (T:=29) rfl _ _ G _ _ _ rfl (uZ FF).1 Tryz.underlying29 rfl size_nd) rfl ?_
 rw [uZ HR]
 exact(uZ FF).2
set_option maxRecDepth 100000 in
set_option maxHeartbeats 4000000 in
theorem letq_step {c:Cx} {σ:Sg} {w:World} {r:List Nd × Sg} {F f:Nat} (ihe:∀{c:Cx} {σ:Sg} {w:World} {r:List Nd × Sg},RJ c.ts F 0 0 [] σ=some r→Rq w c σ→Calls Tryz.prog 91 #[.pointer (some ⟨c.g,0,none⟩)] w fun e w'=>NqP c w r e w') (hJ:RS c.ts F (f+1) 7 0 [] σ=some r) (h:Rq w c σ) :
  Calls Tryz.prog 92 #[.pointer (some ⟨c.g,0,none⟩)] w fun e w'=>NqP c w r e w':=by
 have S1:=hZ (Sq.start (d:=0) h 29 #[.int .i64 0,.string ⟨#[]⟩,.int .i64 0,.int .i64 0,.string ⟨#[]⟩,.slice none 0 0,.slice none 0 0,.bool false,.slice none 0 0,.int .i64 0])
 obtain⟨w1,hw1⟩:∃w1,w.alloc (.cells #[.int .i64 0,.string ⟨#[]⟩,.int .i64 0,.int .i64 0,.string ⟨#[]⟩,.slice none 0 0,.slice none 0 0,.bool false,.slice none 0 0,.int .i64 0] 29)=w1:=⟨_,rfl⟩
 rw [hw1] at S1
 obtain⟨G,hG⟩:∃G,w.heap.size=G:=⟨_,rfl⟩
 have hgw:c.g<w.heap.size:=h.frz.2.2.2.2
 clear h
 go_enter Tryz.func92,Tryz.ntmps92
 have HJ0:=hZ (show sLet c.ts (RJ c.ts F) σ=some r from hJ)
 clear hJ
 have HJ1:=hZ ((by have:=uZ HJ0;unfold sLet lnQ enQ at this;exact this))
 clear HJ0
 obtain⟨⟨k,t,n,p⟩,ht⟩:∃zz,tkQ c.ts σ=zz:=⟨_,rfl⟩
 have HT:=hZ ht
 clear ht
 have HJ2:=hZ ((by have:=(uZ HJ1);rw [uZ HT] at this;simp only [] at this;exact this))
 clear HJ1
 have CC:=hZ ((by have:=next_any (uZ S1).rd;rw [uZ HT] at this;simp only [tkA] at this;exact this))
 go_wp2_with fail
 refine(uZ CC).mono ?_
 rintro e w2 ⟨rfl,r2,b⟩
 have S2:=hZ ((uZ S1).go (d':=0) b r2)
 clear b r2 CC S1
 go_upto_region 2 with (first|(refine wpl_tk3 rfl _ rfl _ _ _ _ rfl ?_)|(refine wpl_tk1 rfl _ rfl _ _ _ _ rfl ?_)|(refine wpl_tk0 rfl _ rfl _ _ _ _ rfl ?_))
 obtain⟨w3,hw⟩:∃zz,w2.alloc (.cells #[.int .i64 5,.string ⟨#[]⟩,.int .i64 0,.int .i64 0,.string ⟨#[]⟩,.slice none 0 0,.slice none 0 0,.bool false,.slice none 0 0,.int .i64 (p:Int)] 29)=zz:=⟨_,rfl⟩
 have b:Below w2.heap.size w2 w3:=by rw [←hw];exact(Below.refl _ _).alloc (Nat.le_refl _) _
 obtain⟨Q,hQ⟩:∃zz,w2.heap.size=zz:=⟨_,rfl⟩
 have HBQ_3:Hid (w3.heap[Q]?=some (.cells #[.int .i64 5,.string ⟨#[]⟩,.int .i64 0,.int .i64 0,.string ⟨#[]⟩,.slice none 0 0,.slice none 0 0,.bool false,.slice none 0 0,.int .i64 (p:Int)] 29 (0,0))):=hZ (by rw [←hw,←hQ];exact heap_alloc_new _ _)
 have S3:=hZ ((uZ S2).below b)
 have ltQ:w.heap.size<Q:=by rw [←hQ];exact(uZ S2).lt
 rw [hw]
 try rw [hQ]
 clear hw hQ b S2
 obtain⟨⟨ka,ta,na,pa⟩,ht⟩:∃zz,(muQ c.ts 1 [] (nxQ c.ts σ)).1=zz:=⟨_,rfl⟩
 have HTa:=hZ ht
 clear ht
 have HJ3:=hZ ((by have:=(uZ HJ2);rw [uZ HTa] at this;simp only [] at this;exact this))
 clear HJ2
 obtain⟨-,Qc1,-,-,-,-,-,-,-,-⟩:=row_cell10 (uZ HBQ_3)
 have Qf1:=frozen_of_row w3 Q 1 _ _ (uZ HBQ_3)
 have CC:=hZ ((by have:=must_any (uZ S3).rd 1 [];rw [uZ HTa] at this;simp only [tkA] at this;exact this))
 go_wp2_with fail
 refine(uZ CC).mono ?_
 rintro e w4 ⟨rfl,r2,b⟩
 have S4:=hZ ((uZ S3).go (d':=0) b r2)
 have HBQ_4:=bx_go HBQ_3 b (by omega)
 clear b r2 CC S3 HBQ_3
 clear Qc1 Qf1
 obtain⟨-,Qc1,-,-,-,-,-,-,-,-⟩:=row_cell10 (uZ HBQ_4)
 have Qf1:=frozen_of_row w4 Q 1 _ _ (uZ HBQ_4)
 go_upto_region 3 with (first|(refine wpl_tk3 rfl _ rfl _ _ _ _ rfl ?_)|(refine wpl_tk1 rfl _ rfl _ _ _ _ rfl ?_)|(refine wpl_tk0 rfl _ rfl _ _ _ _ rfl ?_))
 clear Qc1 Qf1
 obtain⟨w5,hw⟩:∃zz,w4.setCell ⟨Q,1,none⟩ (.string (bA ta))=zz:=⟨_,rfl⟩
 have HBQ_5:Hid (w5.heap[Q]?=some (.cells #[.int .i64 5,.string (bA ta),.int .i64 0,.int .i64 0,.string ⟨#[]⟩,.slice none 0 0,.slice none 0 0,.bool false,.slice none 0 0,.int .i64 (p:Int)] 29 (0,0))):=hZ (by rw [←hw,heap_setCell_same w4 Q 1 _ _ _ (uZ HBQ_4)];rfl)
 have S5:Hid (Sq w c 29 #[.int .i64 0,.string ⟨#[]⟩,.int .i64 0,.int .i64 0,.string ⟨#[]⟩,.slice none 0 0,.slice none 0 0,.bool false,.slice none 0 0,.int .i64 0] w5 ((muQ c.ts 1 [] (nxQ c.ts σ)).2) 0):=hZ (by rw [←hw];exact(uZ S4).own Q 1 _ ltQ)
 rw [hw]
 clear hw S4 HBQ_4
 obtain⟨sm,hsm⟩:∃zz,(muQ c.ts 1 [] (nxQ c.ts σ)).2=zz:=⟨_,rfl⟩
 rw [hsm] at S5 HJ3
 clear hsm
 rcases Bool.eq_false_or_eq_true (isQ c.ts 5 [61] sm) with hq|hq
 ·have HJ4:=hZ ((by have:=(uZ HJ3);rw [if_pos hq] at this;exact this))
  clear HJ3
  have CC:=hZ ((by have:=signq_any (uZ S5).rd [61];rw [hq] at this;exact this))
  go_wp2_with fail
  refine(uZ CC).mono ?_
  rintro e w6 ⟨rfl,b⟩
  have S6:=hZ ((uZ S5).below b)
  have HBQ_6:=bx_be HBQ_5 b
  clear b CC S5 HBQ_5
  have CC:=hZ (next_any (uZ S6).rd)
  go_wp2_with fail
  refine(uZ CC).mono ?_
  rintro e w7 ⟨rfl,r2,b⟩
  have S7:=hZ ((uZ S6).go (d':=0) b r2)
  have HBQ_7:=bx_go HBQ_6 b (by omega)
  clear b r2 CC S6 HBQ_6
  have HKa_7:Hid (Kr (Q+1) w7 [] (.slice none 0 0) [] []):=hZ (Kr.nil (Array.getElem?_eq_some_iff.1 (uZ HBQ_7)).1)
  have hlna:([]:List Nd).length=0:=rfl
  obtain⟨nsx,sx,hy,hth⟩:=bq_some (uZ HJ4)
  have HJ5:=hZ (hth)
  clear HJ4
  clear hth
  have CR:=hZ (ihe hy (uZ S7).rd)
  clear hy
  go_wp2_with fail
  refine(uZ CR).mono ?_
  rintro e w8 ⟨kx,tx,vkx,vnx,vsx,fx,nx,akx,ckx,px,Zx,rfl,hlx,hn,r2,b⟩
  simp only [] at hlx hn r2
  have S8:=hZ ((uZ S7).go (d':=0) b r2)
  have HBQ_8:=bx_go HBQ_7 b (by omega)
  have HKa_8:=hZ ((uZ HKa_7).beside b (by omega))
  obtain⟨lox,hlo⟩:∃zz,w7.heap.size=zz:=⟨_,rfl⟩
  have ltlox:w.heap.size<lox:=by rw [←hlo];exact(uZ S7).lt
  have lqQ_x:Q<lox:=by rw [←hlo];exact(Array.getElem?_eq_some_iff.1 (uZ HBQ_7)).1
  have HWa_x:=hZ ((uZ HKa_7).vlt hlo)
  have lea_x:=(uZ HKa_7).ok.le
  rw [hlo] at lea_x
  rw [hlo] at hn
  have HNx_8:=hZ hn
  clear hlo b r2 hn CR S7 HBQ_7 HKa_7
  go_upto_region 7 with fail
  obtain⟨w9,hw⟩:∃zz,w8.alloc (.cells #[.int .i64 (kx:Int),.string (bA tx),.int .i64 (vkx:Int),.int .i64 (vnx:Int),.string (bA vsx),.slice none 0 0,.slice none 0 0,.bool fx,.slice akx nx ckx,.int .i64 (px:Int)] 29)=zz:=⟨_,rfl⟩
  have b:Below w8.heap.size w8 w9:=by rw [←hw];exact(Below.refl _ _).alloc (Nat.le_refl _) _
  obtain⟨X,hQ⟩:∃zz,w8.heap.size=zz:=⟨_,rfl⟩
  have HBX_9:Hid (w9.heap[X]?=some (.cells #[.int .i64 (kx:Int),.string (bA tx),.int .i64 (vkx:Int),.int .i64 (vnx:Int),.string (bA vsx),.slice none 0 0,.slice none 0 0,.bool fx,.slice akx nx ckx,.int .i64 (px:Int)] 29 (0,0))):=hZ (by rw [←hw,←hQ];exact heap_alloc_new _ _)
  have S9:=hZ ((uZ S8).below b)
  have HBQ_9:=bx_be HBQ_8 b
  have HKa_9:=hZ ((uZ HKa_8).beside (Beside.of_below (gr:=c.g) b) (by omega))
  have HNx_9:=hZ ((uZ HNx_8).beside (Beside.of_below (gr:=c.g) b) (by omega))
  have lQ_X:Q<X:=by rw [←hQ];exact(Array.getElem?_eq_some_iff.1 (uZ HBQ_8)).1
  have APa_X:=hZ ((uZ HKa_8).fresh hQ)
  have ANx_X:=hZ ((uZ HNx_8).fresh hQ)
  have ltX:w.heap.size<X:=by rw [←hQ];exact(uZ S8).lt
  rw [hw]
  try rw [hQ]
  clear hw hQ b S8 HBQ_8 HKa_8 HNx_8
  obtain⟨Xo0,Xo1,Xo2,Xo3,Xo4,Xo5,Xo6,Xo7,Xo8,Xo9⟩:=row_cell10 (uZ HBX_9)
  have Kc8:=(row_cell10 (uZ HBQ_9)).2.2.2.2.2.2.2.2.1
  obtain⟨w10,hwr⟩:∃zz,w9.alloc (.cells #[.int .i64 (kx:Int),.string (bA tx),.int .i64 (vkx:Int),.int .i64 (vnx:Int),.string (bA vsx),.slice none 0 0,.slice none 0 0,.bool fx,.slice akx nx ckx,.int .i64 (px:Int)] 29)=zz:=⟨_,rfl⟩
  have b:Below w9.heap.size w9 w10:=by rw [←hwr];exact(Below.refl _ _).alloc (Nat.le_refl _) _
  obtain⟨hx,hhx⟩:∃zz,w9.heap.size=zz:=⟨_,rfl⟩
  have at4:Hid (w10.heap[hx]?=some (.cells #[.int .i64 (kx:Int),.string (bA tx),.int .i64 (vkx:Int),.int .i64 (vnx:Int),.string (bA vsx),.slice none 0 0,.slice none 0 0,.bool fx,.slice akx nx ckx,.int .i64 (px:Int)] 29 (0,0))):=hZ (by rw [←hwr,←hhx];exact heap_alloc_new _ _)
  have S10:=hZ ((uZ S9).below b)
  have HBQ_10:=bx_be HBQ_9 b
  have HBX_10:=bx_be HBX_9 b
  have HKa_10:=hZ ((uZ HKa_9).beside (Beside.of_below (gr:=c.g) b) (by omega))
  have HNx_10:=hZ ((uZ HNx_9).beside (Beside.of_below (gr:=c.g) b) (by omega))
  clear b S9 HBQ_9 HBX_9 HKa_9 HNx_9
  have hkl:=(uZ HKa_10).own
  rw [hlna] at hkl
  have HKL:=hZ hkl
  have HKE:=hZ ((uZ HKa_10).ok.le)
  clear hkl
  have tokA:True:=trivial
  go_upto_region 8 with (first|(at_builtin;have _t:=tokA;refine wpl_appM 1 rfl (.tmp 22) (.tmp 24) rfl (Q+1) (.slice none 0 0) 0 _ rfl (uZ HKL) hx #[.int .i64 (kx:Int),.string (bA tx),.int .i64 (vkx:Int),.int .i64 (vnx:Int),.string (bA vsx),.slice none 0 0,.slice none 0 0,.bool fx,.slice akx nx ckx,.int .i64 (px:Int)] rfl (uZ at4) rfl (ndC_one _ _ _ _ _ _ _ _ _ _) (by decide) (by omega) (uZ HKE) ?_;clear tokA;intro gq10 cp10 w11 H5;have HB5:=push_box (uZ HBQ_10) (uZ HKa_10) (by omega) (uZ H5).2.1;have f8:=frozen_of_row w11 Q 8 _ _ HB5;have c8:=(row_cell10 HB5).2.2.2.2.2.2.2.2.1;clear HB5))
  have P:=push_all (uZ S10) ltQ (uZ HBQ_10) (uZ HKa_10) (uZ HNx_10) (by omega) (by omega) (uZ HWa_x) H5 (by rw [List.length_append,hlx,hlna])
  obtain⟨w12,hw⟩:∃zz,w11.setCell ⟨Q,8,none⟩ (.slice (some ⟨gq10,0,none⟩) (0+1) cp10)=zz:=⟨_,rfl⟩
  rw [hw] at P ⊢
  obtain⟨S12,HBQ_12,HKn_12⟩:=P
  have hlnn:([]++(nsx)).length=0+1:=by rw [List.length_append,hlx,hlna]
  clear hw H5 HKL HKE at4 hwr hhx f8 c8 Kc8 S10 HBQ_10 HBX_10 HKa_10 HNx_10 Xo0 Xo1 Xo2 Xo3 Xo4 Xo5 Xo6 Xo7 Xo8 Xo9
  obtain⟨⟨kb,tb,nb,pb⟩,ht⟩:∃zz,(muQ c.ts 5 [59] sx).1=zz:=⟨_,rfl⟩
  have HTb:=hZ ht
  clear ht
  have CC:=hZ ((by have:=must_any (uZ S12).rd 5 [59];rw [uZ HTb] at this;simp only [tkA] at this;exact this))
  go_wp2_with fail
  refine(uZ CC).mono ?_
  rintro e w13 ⟨rfl,r2,b⟩
  have S13:=hZ ((uZ S12).go (d':=0) b r2)
  have HBQ_13:=bx_go HBQ_12 b (by omega)
  have HKn_13:=hZ ((uZ HKn_12).beside b (by omega))
  clear b r2 CC S12 HBQ_12 HKn_12
  have hr1:=okq_some (uZ HJ5)
  have hnn:=(uZ HKn_13).node' hlnn 5 ta 0 0 [] false p
  have HR:=hZ (hr1)
  have BX:=(uZ S13).bx
  rw [hG] at BX
  obtain⟨g0,g1,g2,g3,g4,g5,g6,g7,g8,g9⟩:=row_cell10 BX
  obtain⟨z0,z1,z2,z3,z4,z5,z6,z7,z8,z9⟩:=frozen10 BX
  clear BX
  obtain⟨Qc0,Qc1,Qc2,Qc3,Qc4,Qc5,Qc6,Qc7,Qc8,Qc9⟩:=row_cell10 (uZ HBQ_13)
  have FF:=hZ (Sq.done (uZ S13) (hnn.low (by omega)) rfl hG)
  go_wp2_with fail
  refine bodyPost_ret (ret_c1 (p:=2) (T:=29) rfl _ _ G _ _ _ rfl (uZ FF).1 Tryz.underlying29 rfl size_nd) rfl ?_
  rw [uZ HR]
  exact(uZ FF).2
 ·have HJ4:=hZ ((by have:=(uZ HJ3);rw [if_neg (by rw [hq];decide)] at this;exact this))
  clear HJ3
  have CC:=hZ ((by have:=signq_any (uZ S5).rd [61];rw [hq] at this;exact this))
  go_wp2_with fail
  refine(uZ CC).mono ?_
  rintro e w6 ⟨rfl,b⟩
  have S6:=hZ ((uZ S5).below b)
  have HBQ_6:=bx_be HBQ_5 b
  clear b CC S5 HBQ_5
  obtain⟨⟨kb,tb,nb,pb⟩,ht⟩:∃zz,(muQ c.ts 5 [59] sm).1=zz:=⟨_,rfl⟩
  have HTb:=hZ ht
  clear ht
  have CC:=hZ ((by have:=must_any (uZ S6).rd 5 [59];rw [uZ HTb] at this;simp only [tkA] at this;exact this))
  go_wp2_with fail
  refine(uZ CC).mono ?_
  rintro e w7 ⟨rfl,r2,b⟩
  have S7:=hZ ((uZ S6).go (d':=0) b r2)
  have HBQ_7:=bx_go HBQ_6 b (by omega)
  clear b r2 CC S6 HBQ_6
  have HKa_7:Hid (Kr (Q+1) w7 [] (.slice none 0 0) [] []):=hZ (Kr.nil (Array.getElem?_eq_some_iff.1 (uZ HBQ_7)).1)
  have hlna:([]:List Nd).length=0:=rfl
  have hr1:=okq_some (uZ HJ4)
  have hnn:=(uZ HKa_7).node' hlna 5 ta 0 0 [] false p
  have HR:=hZ (hr1)
  have BX:=(uZ S7).bx
  rw [hG] at BX
  obtain⟨g0,g1,g2,g3,g4,g5,g6,g7,g8,g9⟩:=row_cell10 BX
  obtain⟨z0,z1,z2,z3,z4,z5,z6,z7,z8,z9⟩:=frozen10 BX
  clear BX
  obtain⟨Qc0,Qc1,Qc2,Qc3,Qc4,Qc5,Qc6,Qc7,Qc8,Qc9⟩:=row_cell10 (uZ HBQ_7)
  have FF:=hZ (Sq.done (uZ S7) (hnn.low (by omega)) rfl hG)
  go_wp2_with fail
  refine bodyPost_ret (ret_c1 (p:=2) (T:=29) rfl _ _ G _ _ _ rfl (uZ FF).1 Tryz.underlying29 rfl size_nd) rfl ?_
  rw [uZ HR]
  exact(uZ FF).2
end Go.Proofs.YtilhlmmcdfoaoaaGreatDoor
