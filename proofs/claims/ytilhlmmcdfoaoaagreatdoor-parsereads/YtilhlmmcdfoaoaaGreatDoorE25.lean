/-
  Layer 17 (parse): the number of an error is never 0; plain lists, no conditions.
  Layer 17 (parse): the document's reader comes to what the program's comes to: the same tree, or the same error at the same place; plain lists, no conditions.
  Layer 17 (parse): the document's reader against the program's, job by job; plain lists; condition: a name has at most 32 bytes.
-/
import Derived.Test.YtilhlmmcdfoaoaaGreatDoorE00
import Derived.Test.YtilhlmmcdfoaoaaGreatDoorE24
set_option linter.unusedVariables false
set_option linter.unusedSimpArgs false
namespace Go.Proofs.YtilhlmmcdfoaoaaGreatDoor
set_option linter.unusedVariables false
set_option linter.unusedSimpArgs false
def Gd (o:Option (Rs (List Nd))):Prop:=∀c p,o=some (.error (c,p))→¬c=0
def Gy (y:Rs Tk):Prop:=∀c p,y=.error (c,p)→¬c=0
theorem gd_none:Gd none:=fun c p h=>by cases h
theorem gd_ok (n:List Nd) (l:List Tk):Gd (okN n l):=fun c p h=>by cases h
theorem gd_err (p:Nat):Gd (some (.error (170,p))):=fun c q h=>by cases h;decide
theorem gd_thn {y:Rs Tk} {k:Tk→List Tk→Option (Rs (List Nd))} (h:Gy y) (hk:∀a l,Gd (k a l)):Gd (thn y k):=by
 cases y with
 |error e=>intro c p he;cases he;exact h _ _ rfl
 |ok x=>exact hk x.1 x.2
theorem gd_bnd {o:Option (Rs (List Nd))} {k:List Nd→List Tk→Option (Rs (List Nd))} (h:Gd o) (hk:∀a l,Gd (k a l)):Gd (bnd o k):=by
 cases o with
 |none=>exact gd_none
 |some y=>
  cases y with
  |error e=>intro c p he;cases he;exact h _ _ rfl
  |ok x=>exact hk x.1 x.2
theorem gd_ite {p:Prop} [Decidable p] {a b:Option (Rs (List Nd))} (h1:Gd a) (h2:Gd b):Gd (if p then a else b):=by split <;> assumption
theorem gy_sg (s:List UInt8) (l:List Tk):Gy (pSg s l):=by
 intro c p h
 unfold pSg at h
 split at h
 ·cases h
 ·cases h;decide
theorem gy_ky (s:List UInt8) (l:List Tk):Gy (pKy s l):=by
 intro c p h
 unfold pKy at h
 split at h
 ·cases h
 ·cases h;decide
theorem gy_nm (l:List Tk):Gy (pNm l):=by
 intro c p h
 unfold pNm at h
 split at h
 ·cases h
 ·cases h;decide
theorem gy_ent (s:List UInt8) (d:Nat) (l:List Tk):Gy (ent s d l):=by
 intro c p h
 unfold ent at h
 split at h
 ·split at h
  ·cases h;decide
  ·cases h
 ·cases h;decide
theorem gd_step {r:Jb} (ih:∀j x acc l d,Gd (r j x acc l d)) (j x:Nat) (acc:List Nd) (l:List Tk) (d:Nat):Gd (stepJ r j x acc l d):=by
 unfold stepJ
 split
 all_goals
  try simp only [jUnary,jBinary,jBinL,jReached,jReL,litN,jOperand,jName,jWithin,jPart,jParts,jPaL,jParam,jPair,jGroup,jStat,jLet,jSet,jGuard,jChoice,jLoop,jGive,jWord,jDo,jBlock,jBlL,jFn,jFun,jPrL]
  repeat' (first|exact ih _ _ _ _ _|exact gd_ok _ _|exact gd_none|exact gd_err _|refine gd_ite ?_ ?_|refine gd_thn (gy_sg _ _) (fun _ _=>?_)|refine gd_thn (gy_ky _ _) (fun _ _=>?_)|refine gd_thn (gy_nm _) (fun _ _=>?_)|refine gd_thn (gy_ent _ _ _) (fun _ _=>?_)|refine gd_bnd ?_ (fun _ _=>?_))
theorem PJ_err:∀(f j x:Nat) (acc:List Nd) (l:List Tk) (d:Nat),Gd (PJ f j x acc l d)
 |0,_,_,_,_,_=>gd_none
 |f+1,j,x,acc,l,d=>gd_step (PJ_err f) j x acc l d
def stQ (i d:Nat):Sg:=⟨i,(d:Int),0,0⟩
def Rl (T:List Tk) (d:Nat) (r:Rs (List Nd)) (r':List Nd × Sg):Prop:=match r with
 |.ok (ns,l)=>∃i,i<T.length∧l=T.drop i∧r'=(ns,stQ i d)
 |.error (E,P)=>Er r'.2 E P
theorem wr64 {z:Int} (h1:-9223372036854775808≤z) (h2:z≤9223372036854775807):wrI z=z:=by unfold wrI Go.RowKit.wrap64;omega
theorem tk_st (T:List Tk) (i d:Nat):tkQ T (stQ i d)=hdT (T.drop i):=rfl
theorem isQ_S (T:List Tk) (s:List UInt8) (i d:Nat):isQ T 5 s (stQ i d)=isS s (T.drop i):=by
 rw [show isS s (T.drop i)=decide ((hdT (T.drop i)).k=5∧(hdT (T.drop i)).t=s) from rfl]
 unfold isQ
 rw [tk_st]
 exact decide_eq_decide.2 ⟨fun h=>⟨h.2.1,by rcases h.2.2 with e|e|e|e|e;exact absurd e (by decide);exact absurd e (by decide);exact absurd e (by decide);exact absurd e (by decide);exact e⟩,fun h=>⟨rfl,h.1,.inr (.inr (.inr (.inr h.2)))⟩⟩
theorem isQ_N (T:List Tk) (i d:Nat):isQ T 1 [] (stQ i d)=decide ((hdT (T.drop i)).k=1):=by
 unfold isQ
 rw [tk_st]
 exact decide_eq_decide.2 ⟨fun h=>h.2.1,fun h=>⟨rfl,h,.inl rfl⟩⟩
theorem nx_st {T:List Tk} (hfin:∃us p,T=us++[endT p]) {i d:Nat} (hi:i<T.length) (hk:¬(hdT (T.drop i)).k=0):nxQ T (stQ i d)=stQ (i+1) d∧i+1<T.length∧(T.drop i).tail=T.drop (i+1):=by
 have h1:=tk_more hfin (σ:=stQ i d) hi hk
 refine⟨?_,h1,List.tail_drop⟩
 unfold nxQ
 rw [if_pos h1]
 rfl
theorem mu_ok {T:List Tk} (hfin:∃us p,T=us++[endT p]) {i d:Nat} {s:List UInt8} (hi:i<T.length) (h:isS s (T.drop i)=true):muQ T 5 s (stQ i d)=(hdT (T.drop i),stQ (i+1) d)∧i+1<T.length∧(T.drop i).tail=T.drop (i+1):=by
 have hk:¬(hdT (T.drop i)).k=0:=by
  rw [show isS s (T.drop i)=decide ((hdT (T.drop i)).k=5∧(hdT (T.drop i)).t=s) from rfl] at h
  have:=(of_decide_eq_true h).1
  omega
 obtain⟨h1,h2,h3⟩:=nx_st (d:=d) hfin hi hk
 refine⟨?_,h2,h3⟩
 unfold muQ
 rw [if_pos (by rw [isQ_S];exact h),h1]
 rfl
theorem mu_bad {T:List Tk} {i d:Nat} {s:List UInt8} (h:isS s (T.drop i)=false):Er (muQ T 5 s (stQ i d)).2 170 (hdT (T.drop i)).p:=by
 unfold muQ
 rw [if_neg (by rw [isQ_S,h];simp)]
 unfold wrQ
 rw [if_pos (show (stQ i d).e=0 from rfl)]
 exact⟨rfl,rfl⟩
theorem op_ok {T:List Tk} (hfin:∃us p,T=us++[endT p]) {i d:Nat} (hi:i<T.length) (hd:d<24) (hk:¬(hdT (T.drop i)).k=0):opQ T (stQ i d)=(hdT (T.drop i),stQ (i+1) (d+1))∧i+1<T.length∧(T.drop i).tail=T.drop (i+1):=by
 obtain⟨h1,h2,h3⟩:=nx_st (d:=d+1) hfin hi hk
 refine⟨?_,h2,h3⟩
 unfold opQ
 rw [if_neg (show ¬(24:Int)≤(stQ i d).o by show ¬(24:Int)≤(d:Int);omega)]
 have e1:(⟨(stQ i d).i,wrI ((stQ i d).o+1),(stQ i d).e,(stQ i d).a⟩:Sg)=stQ i (d+1):=by
  unfold stQ
  simp only [Sg.mk.injEq,and_true,true_and]
  rw [wr64 (by omega) (by omega)]
  omega
 rw [e1,h1]
 rfl
theorem op_bad {T:List Tk} {i d:Nat} (hd:d=24):Er (opQ T (stQ i d)).2 171 (hdT (T.drop i)).p:=by
 unfold opQ
 rw [if_pos (show (24:Int)≤((stQ i d).o) by show (24:Int)≤(d:Int);omega)]
 unfold wrQ
 rw [if_pos (show (stQ i d).e=0 from rfl)]
 exact⟨rfl,rfl⟩
theorem cl_ok {T:List Tk} (hfin:∃us p,T=us++[endT p]) {i d:Nat} {s:List UInt8} (hi:i<T.length) (hd:d≤24) (h:isS s (T.drop i)=true):clQ T s (stQ i (d+1))=stQ (i+1) d∧i+1<T.length∧(T.drop i).tail=T.drop (i+1):=by
 obtain⟨h1,h2,h3⟩:=mu_ok (d:=d+1) hfin hi h
 refine⟨?_,h2,h3⟩
 unfold clQ dnQ
 rw [h1]
 unfold stQ
 simp only [Sg.mk.injEq,and_true,true_and]
 rw [wr64 (by omega) (by omega)]
 omega
theorem cl_bad {T:List Tk} {i d:Nat} {s:List UInt8} (h:isS s (T.drop i)=false):Er (clQ T s (stQ i d)) 170 (hdT (T.drop i)).p:=mu_bad (d:=d) h
theorem bqE {o:Option (List Nd × Sg)} {k:List Nd→Sg→Option (List Nd × Sg)} {r:List Nd × Sg} (h:bq o k=some r):∃ns σ,o=some (ns,σ)∧k ns σ=some r:=by
 cases o with
 |none=>cases h
 |some y=>exact⟨y.1,y.2,rfl,h⟩
theorem bndX2 {y:Option (Rs (List Nd))} {k:List Nd→List Tk→Option (Rs (List Nd))} {r:Rs (List Nd)} (h:bnd y k=some r):(∃E P,y=some (.error (E,P))∧r=.error (E,P))∨∃ns l,y=some (.ok (ns,l))∧k ns l=some r:=by
 cases y with
 |none=>cases h
 |some z=>
  cases z with
  |error e=>cases h;exact .inl ⟨e.1,e.2,rfl,rfl⟩
  |ok z=>exact .inr ⟨z.1,z.2,rfl,h⟩
theorem err_end {r':List Nd × Sg} {E P:Nat} {o:Option (List Nd × Sg)} (hk:Ke E P o) (h:o=some r'):Er r'.2 E P:=hk r'.1 r'.2 h
theorem gd_ne {f j x:Nat} {acc:List Nd} {l:List Tk} {d:Nat} {E P:Nat} (h:PJ f j x acc l d=some (.error (E,P))):¬E=0:=PJ_err f j x acc l d E P h
def clo (s:List UInt8) (ns:List Nd) (l:List Tk):Option (Rs (List Nd)):=thn (pSg s l) (fun _ l3=>okN ns l3)
theorem clo_rl {T:List Tk} (hfin:∃us p,T=us++[endT p]) {i d:Nat} {s:List UInt8} {ns:List Nd} {r:Rs (List Nd)} (hi:i<T.length) (hd:d≤24) (h:clo s ns (T.drop i)=some r):Rl T d r (ns,clQ T s (stQ i (d+1))):=by
 unfold clo pSg at h
 by_cases hs:isS s (T.drop i)=true
 ·rw [if_pos hs] at h
  obtain⟨h1,h2,h3⟩:=cl_ok hfin hi hd hs
  cases h
  exact⟨i+1,h2,h3,by rw [h1]⟩
 ·have hs':isS s (T.drop i)=false:=by simpa using hs
  rw [if_neg hs] at h
  cases h
  exact cl_bad hs'
def xxQ (x:Nat):Nat:=if x=41 then 1 else 2
theorem chx (x:Nat):clX (xxQ x)=chQ x:=by
 unfold xxQ chQ clX
 by_cases h:x=41
 ·simp [h]
 ·simp [h]
def falP (f:Nat) (l:List Tk) (d:Nat):Option (Rs (List Nd)):=if isS [91] l=true then PJ f 22 2 [] l d else if isS [123] l=true then PJ f 22 3 [] l d else PJ f 23 0 [] l d
structure RlQ (T:List Tk) (g:Nat):Prop where
 a0:∀{f i d:Nat} {r:Rs (List Nd)} {r':List Nd × Sg},i<T.length→d≤24→PJ f 0 0 [] (T.drop i) d=some r→RJ T g 0 0 [] (stQ i d)=some r'→Rl T d r r'
 a1:∀{f i d:Nat} {r:Rs (List Nd)} {r':List Nd × Sg},i<T.length→d≤24→PJ f 1 0 [] (T.drop i) d=some r→RJ T g 1 0 [] (stQ i d)=some r'→Rl T d r r'
 a2:∀{f x i d:Nat} {r:Rs (List Nd)} {r':List Nd × Sg},1≤x→i<T.length→d≤24→PJ f 2 x [] (T.drop i) d=some r→RJ T g 2 x [] (stQ i d)=some r'→Rl T d r r'
 a3:∀{f x i d:Nat} {acc:List Nd} {r:Rs (List Nd)} {r':List Nd × Sg},1≤x→i<T.length→d≤24→PJ f 3 x acc (T.drop i) d=some r→RJ T g 3 x acc (stQ i d)=some r'→Rl T d r r'
 a4:∀{f i d:Nat} {acc:List Nd} {r:Rs (List Nd)} {r':List Nd × Sg},i<T.length→d≤24→PJ f 4 0 acc (T.drop i) d=some r→RJ T g 4 0 acc (stQ i d)=some r'→Rl T d r r'
 a5:∀{f i d:Nat} {r:Rs (List Nd)} {r':List Nd × Sg},i<T.length→d≤24→PJ f 5 0 [] (T.drop i) d=some r→RJ T g 5 0 [] (stQ i d)=some r'→Rl T d r r'
 a6:∀{f x i d:Nat} {r:Rs (List Nd)} {r':List Nd × Sg},x=41∨x=93→i<T.length→d<24→bnd (PJ f 6 (xxQ x) [] (T.drop i) (d+1)) (clo (chQ x))=some r→RJ T g 6 x [] (stQ i (d+1))=some r'→Rl T d r r'
 a7:∀{f f2 x i d:Nat} {acc:List Nd} {r:Rs (List Nd)} {r':List Nd × Sg},x=41∨x=93→i<T.length→d<24→bnd (bnd (PJ f 0 0 [] (T.drop i) (d+1)) (fun ns l1=>PJ f2 7 (xxQ x) (acc++ns) l1 (d+1))) (clo (chQ x))=some r→RJ T g 7 x acc (stQ i (d+1))=some r'→Rl T d r r'
 a8:∀{f i d:Nat} {r:Rs (List Nd)} {r':List Nd × Sg},i<T.length→d<24→bnd (PJ f 6 3 [] (T.drop i) (d+1)) (clo [125])=some r→RJ T g 8 0 [] (stQ i (d+1))=some r'→Rl T d r r'
 a9:∀{f f2 i d:Nat} {acc:List Nd} {r:Rs (List Nd)} {r':List Nd × Sg},i<T.length→d<24→bnd (bnd (PJ f 8 0 [] (T.drop i) (d+1)) (fun ns l1=>PJ f2 7 3 (acc++ns) l1 (d+1))) (clo [125])=some r→RJ T g 9 0 acc (stQ i (d+1))=some r'→Rl T d r r'
 a23:∀{f i d:Nat} {r:Rs (List Nd)} {r':List Nd × Sg},i<T.length→d≤24→falP f (T.drop i) d=some r→RJ T g 23 0 [] (stQ i d)=some r'→Rl T d r r'
 a24:∀{f i d:Nat} {r:Rs (List Nd)} {r':List Nd × Sg},i<T.length→d≤24→PJ f 24 0 [] (T.drop i) d=some r→RJ T g 24 0 [] (stQ i d)=some r'→Rl T d r r'
def mpR (g:List Nd→List Nd):Rs (List Nd)→Rs (List Nd)
 |.error e=>.error e
 |.ok (ns,l)=>.ok (g ns,l)
theorem mpR_rl {T:List Tk} {d:Nat} {g:List Nd→List Nd} {r:Rs (List Nd)} {ns:List Nd} {σ:Sg} (h:Rl T d r (ns,σ)):Rl T d (mpR g r) (g ns,σ):=by
 match r,h with
 |.error (E,P),h=>exact h
 |.ok (ms,l),h=>
  obtain⟨i,h1,h2,h3⟩:=h
  cases h3
  exact⟨i,h1,h2,rfl⟩
theorem clo_mp {A:Option (Rs (List Nd))} {s:List UInt8} {g:List Nd→List Nd} {r:Rs (List Nd)} (h:bnd A (fun ns l2=>thn (pSg s l2) (fun _ l3=>okN (g ns) l3))=some r):∃r0,bnd A (clo s)=some r0∧r=mpR g r0:=by
 rcases bndX2 h with ⟨E,P,rfl,rfl⟩|⟨ns,l,rfl,h2⟩
 ·exact⟨.error (E,P),rfl,rfl⟩
 ·show ∃r0,clo s ns l=some r0∧r=mpR g r0
  unfold clo
  cases hp:pSg s l with
  |error e=>
   rw [hp] at h2
   cases h2
   exact⟨.error e,rfl,rfl⟩
  |ok z=>
   rw [hp] at h2
   cases h2
   exact⟨.ok (ns,z.2),rfl,rfl⟩
theorem fuelP {f j x d:Nat} {acc:List Nd} {l:List Tk} {r:Rs (List Nd)} (h:PJ f j x acc l d=some r):∃g,f=g+1:=by
 cases f with
 |zero=>cases h
 |succ g=>exact⟨g,rfl⟩
theorem ksign {s:List UInt8} {l:List Tk} (h:isS s l=true):(hdT l).k=5∧(hdT l).t=s:=of_decide_eq_true h
theorem rl0 {T:List Tk} (hfin:∃us p,T=us++[endT p]) (hnm:∀t∈T,t.k=1→t.t.length≤32) {g:Nat} (ih:RlQ T g) {f i d:Nat} {r:Rs (List Nd)} {r':List Nd × Sg} (hi:i<T.length) (hd:d≤24) (h:PJ f 0 0 [] (T.drop i) d=some r) (h':RJ T (g+1) 0 0 [] (stQ i d)=some r'):Rl T d r r':=by
 obtain⟨f,rfl⟩:=fuelP h
 exact ih.a2 (f:=f) (Nat.le_refl _) hi hd h h'
theorem rl2 {T:List Tk} (hfin:∃us p,T=us++[endT p]) (hnm:∀t∈T,t.k=1→t.t.length≤32) {g:Nat} (ih:RlQ T g) {f x i d:Nat} {r:Rs (List Nd)} {r':List Nd × Sg} (hx:1≤x) (hi:i<T.length) (hd:d≤24) (h:PJ f 2 x [] (T.drop i) d=some r) (h':RJ T (g+1) 2 x [] (stQ i d)=some r'):Rl T d r r':=by
 obtain⟨f,rfl⟩:=fuelP h
 replace h:jBinary (PJ f) x (T.drop i) d=some r:=h
 replace h':qRow T (RJ T g) x (stQ i d)=some r':=h'
 unfold jBinary at h
 unfold qRow at h'
 by_cases h5:5<x
 ·rw [if_pos h5] at h h'
  exact ih.a1 hi hd h h'
 ·rw [if_neg h5] at h h'
  obtain⟨ns,σ1,e1,h2⟩:=bqE h'
  rcases bndX2 h with ⟨E,P,e2,rfl⟩|⟨ms,l,e2,h3⟩
  ·have hr:=ih.a2 (by omega) hi hd e2 e1
   exact err_end (RJ_err (gd_ne e2) g 3 x ns σ1 hr) h2
  ·obtain⟨k,hk,rfl,e3⟩:=ih.a2 (by omega) hi hd e2 e1
   cases e3
   exact ih.a3 hx hk hd h3 h2
theorem rl3 {T:List Tk} (hfin:∃us p,T=us++[endT p]) (hnm:∀t∈T,t.k=1→t.t.length≤32) {g:Nat} (ih:RlQ T g) {f x i d:Nat} {acc:List Nd} {r:Rs (List Nd)} {r':List Nd × Sg} (hx:1≤x) (hi:i<T.length) (hd:d≤24) (h:PJ f 3 x acc (T.drop i) d=some r) (h':RJ T (g+1) 3 x acc (stQ i d)=some r'):Rl T d r r':=by
 obtain⟨f,rfl⟩:=fuelP h
 replace h:jBinL (PJ f) x acc (T.drop i) d=some r:=h
 replace h':qRowL T (RJ T g) x acc (stQ i d)=some r':=h'
 unfold jBinL at h
 unfold qRowL at h'
 by_cases hr:rowT (T.drop i)=x
 ·have hk:¬(hdT (T.drop i)).k=0:=fun e=>by
   unfold rowT at hr
   rw [if_neg (by omega)] at hr
   omega
  obtain⟨n1,n2,n3⟩:=nx_st (d:=d) hfin hi hk
  rw [if_pos hr,n3] at h
  rw [if_pos ⟨rfl,hr⟩,n1,tk_st] at h'
  obtain⟨ns,σ1,e1,h2⟩:=bqE h'
  rcases bndX2 h with ⟨E,P,e2,rfl⟩|⟨ms,l,e2,h3⟩
  ·have hr2:=ih.a2 (by omega) n2 hd e2 e1
   refine err_end ?_ h2
   exact ke_ite (ke_ok hr2) (RJ_err (gd_ne e2) g _ _ _ _ hr2)
  ·obtain⟨k,hk,rfl,e3⟩:=ih.a2 (by omega) n2 hd e2 e1
   cases e3
   by_cases h3x:x=3
   ·rw [if_pos h3x] at h2 h3
    cases h2
    cases h3
    exact⟨k,hk,rfl,rfl⟩
   ·rw [if_neg h3x] at h2 h3
    exact ih.a3 hx hk hd h3 h2
 ·rw [if_neg hr] at h
  rw [if_neg (fun e=>hr e.2)] at h'
  cases h
  cases h'
  exact⟨i,hi,rfl,rfl⟩
theorem rl24 {T:List Tk} (hfin:∃us p,T=us++[endT p]) (hnm:∀t∈T,t.k=1→t.t.length≤32) {g:Nat} (ih:RlQ T g) {f i d:Nat} {r:Rs (List Nd)} {r':List Nd × Sg} (hi:i<T.length) (hd:d≤24) (h:PJ f 24 0 [] (T.drop i) d=some r) (h':RJ T (g+1) 24 0 [] (stQ i d)=some r'):Rl T d r r':=by
 obtain⟨f,rfl⟩:=fuelP h
 replace h:jReached (PJ f) (T.drop i) d=some r:=h
 replace h':qPost T (RJ T g) (stQ i d)=some r':=h'
 unfold jReached at h
 unfold qPost at h'
 obtain⟨ns,σ1,e1,h2⟩:=bqE h'
 rcases bndX2 h with ⟨E,P,e2,rfl⟩|⟨ms,l,e2,h3⟩
 ·exact err_end (RJ_err (gd_ne e2) g 4 0 ns σ1 (ih.a5 hi hd e2 e1)) h2
 ·obtain⟨k,hk,rfl,e3⟩:=ih.a5 hi hd e2 e1
  cases e3
  exact ih.a4 hk hd h3 h2
theorem rl1 {T:List Tk} (hfin:∃us p,T=us++[endT p]) (hnm:∀t∈T,t.k=1→t.t.length≤32) {g:Nat} (ih:RlQ T g) {f i d:Nat} {r:Rs (List Nd)} {r':List Nd × Sg} (hi:i<T.length) (hd:d≤24) (h:PJ f 1 0 [] (T.drop i) d=some r) (h':RJ T (g+1) 1 0 [] (stQ i d)=some r'):Rl T d r r':=by
 obtain⟨f,rfl⟩:=fuelP h
 replace h:jUnary (PJ f) (T.drop i) d=some r:=h
 replace h':qUnary T (RJ T g) (stQ i d)=some r':=h'
 unfold jUnary at h
 unfold qUnary at h'
 rw [isQ_S,isQ_S] at h'
 by_cases hs:isS [45] (T.drop i)=true∨isS [33] (T.drop i)=true
 ·rw [if_pos hs] at h h'
  have hk5:(hdT (T.drop i)).k=5:=by rcases hs with e|e <;> exact(ksign e).1
  have hself:isS (hdT (T.drop i)).t (T.drop i)=true:=decide_eq_true ⟨hk5,rfl⟩
  unfold ent at h
  rw [if_pos hself] at h
  by_cases h24:d=24
  ·rw [if_pos h24] at h
   cases h
   have hb:=op_bad (T:=T) (i:=i) h24
   rw [if_neg (by rw [hb.1];decide)] at h'
   cases h'
   exact hb
  ·rw [if_neg h24] at h
   obtain⟨o1,o2,o3⟩:=op_ok (d:=d) hfin hi (by omega) (by omega)
   rw [o1] at h'
   rw [if_pos (show (stQ (i+1) (d+1)).e=0 from rfl)] at h'
   replace h:bnd (PJ f 1 0 [] (T.drop i).tail (d+1)) (fun ns l2=>okN [nd0 16 (hdT (T.drop i)).t ns (hdT (T.drop i)).p] l2)=some r:=h
   rw [o3] at h
   obtain⟨ns,σ1,e1,h2⟩:=bqE h'
   rcases bndX2 h with ⟨E,P,e2,rfl⟩|⟨ms,l,e2,h3⟩
   ·have hr:=ih.a1 o2 (by omega) e2 e1
    cases h2
    exact hr
   ·obtain⟨k,hk,rfl,e3⟩:=ih.a1 o2 (by omega) e2 e1
    cases e3
    cases h2
    cases h3
    refine⟨k,hk,rfl,?_⟩
    unfold dnQ stQ
    simp only [Prod.mk.injEq,true_and,Sg.mk.injEq,and_true]
    rw [wr64 (by omega) (by omega)]
    omega
 ·rw [if_neg hs] at h h'
  exact ih.a24 hi hd h h'
theorem rl4 {T:List Tk} (hfin:∃us p,T=us++[endT p]) (hnm:∀t∈T,t.k=1→t.t.length≤32) {g:Nat} (ih:RlQ T g) {f i d:Nat} {acc:List Nd} {r:Rs (List Nd)} {r':List Nd × Sg} (hi:i<T.length) (hd:d≤24) (h:PJ f 4 0 acc (T.drop i) d=some r) (h':RJ T (g+1) 4 0 acc (stQ i d)=some r'):Rl T d r r':=by
 obtain⟨f,rfl⟩:=fuelP h
 replace h:jReL (PJ f) acc (T.drop i) d=some r:=h
 replace h':qPostL T (RJ T g) acc (stQ i d)=some r':=h'
 unfold jReL at h
 unfold qPostL at h'
 rw [if_pos (show (stQ i d).e=0 from rfl),isQ_S,isQ_S] at h'
 by_cases hs:isS [91] (T.drop i)=true
 ·rw [if_pos hs] at h h'
  have hk5:=(ksign hs).1
  unfold ent at h
  rw [if_pos hs] at h
  by_cases h24:d=24
  ·rw [if_pos h24] at h
   cases h
   have hb:=op_bad (T:=T) (i:=i) h24
   rw [if_neg (by rw [hb.1];decide)] at h'
   cases h'
   exact hb
  ·rw [if_neg h24] at h
   obtain⟨o1,o2,o3⟩:=op_ok (d:=d) hfin hi (by omega) (by omega)
   rw [o1] at h'
   rw [if_pos (show (stQ (i+1) (d+1)).e=0 from rfl)] at h'
   replace h:bnd (PJ f 0 0 [] (T.drop i).tail (d+1)) (fun ns l2=>thn (pSg [93] l2) (fun _ l3=>PJ f 4 0 [nd0 21 [] (acc++ns) (hdT (T.drop i)).p] l3 d))=some r:=h
   rw [o3] at h
   obtain⟨ns,σ1,e1,h2⟩:=bqE h'
   rcases bndX2 h with ⟨E,P,e2,rfl⟩|⟨ms,l,e2,h3⟩
   ·have hr:=ih.a0 o2 (by omega) e2 e1
    exact err_end (RJ_err (gd_ne e2) g 4 0 _ _ (er_cl (gd_ne e2) _ hr)) h2
   ·obtain⟨k,hk,rfl,e3⟩:=ih.a0 o2 (by omega) e2 e1
    cases e3
    by_cases h93:isS [93] (T.drop k)=true
    ·obtain⟨c1,c2,c3⟩:=cl_ok hfin hk hd h93
     rw [c1] at h2
     unfold pSg at h3
     rw [if_pos h93] at h3
     replace h3:PJ f 4 0 [nd0 21 [] (acc++ns) (hdT (T.drop i)).p] (T.drop k).tail d=some r:=h3
     rw [c3] at h3
     exact ih.a4 c2 hd h3 h2
    ·have h93':isS [93] (T.drop k)=false:=by simpa using h93
     unfold pSg at h3
     rw [if_neg h93] at h3
     cases h3
     exact err_end (RJ_err (by decide) g 4 0 _ _ (cl_bad h93')) h2
 ·rw [if_neg hs] at h h'
  by_cases hp:isS [46] (T.drop i)=true
  ·rw [if_pos hp] at h h'
   have hk5:=(ksign hp).1
   obtain⟨n1,n2,n3⟩:=nx_st (d:=d) hfin hi (by omega)
   rw [n1,tk_st] at h'
   rw [n3] at h
   by_cases hn:(hdT (T.drop (i+1))).k=1
   ·obtain⟨m1,m2,m3⟩:=nx_st (d:=d) hfin n2 (by omega)
    have em:muQ T 1 [] (stQ (i+1) d)=(hdT (T.drop (i+1)),stQ (i+1+1) d):=by
     unfold muQ
     rw [if_pos (by rw [isQ_N];exact decide_eq_true hn),m1]
     rfl
    rw [em] at h'
    unfold pNm at h
    rw [if_pos hn] at h
    replace h:PJ f 4 0 [nd0 22 (hdT (T.drop (i+1))).t acc (hdT (T.drop i)).p] (T.drop (i+1)).tail d=some r:=h
    rw [m3] at h
    exact ih.a4 m2 hd h h'
   ·unfold pNm at h
    rw [if_neg hn] at h
    cases h
    have em:Er (muQ T 1 [] (stQ (i+1) d)).2 170 (hdT (T.drop (i+1))).p:=by
     unfold muQ
     rw [if_neg (by rw [isQ_N];simpa using hn)]
     unfold wrQ
     rw [if_pos (show (stQ (i+1) d).e=0 from rfl)]
     exact⟨rfl,rfl⟩
    exact err_end (RJ_err (by decide) g 4 0 _ _ em) h'
  ·rw [if_neg hp] at h h'
   cases h
   cases h'
   exact⟨i,hi,rfl,rfl⟩
end Go.Proofs.YtilhlmmcdfoaoaaGreatDoor
