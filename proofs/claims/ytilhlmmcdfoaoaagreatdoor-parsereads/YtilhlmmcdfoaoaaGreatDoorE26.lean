/-
  Layer 17 (parse): the document's reader against the program's: operands, brackets, rows, pairs; all jobs together; plain lists; condition: a name has at most 32 bytes.
  Layer 17 (parse): the document's reader of functions and statements comes to what the program's comes to, and comes to an end; plain lists; condition: a name has at most 32 bytes, and fuel enough for expressions.
-/
import Derived.Test.YtilhlmmcdfoaoaaGreatDoorE25
import Derived.Test.YtilhlmmcdfoaoaaGreatDoorE19
set_option linter.unusedVariables false
set_option linter.unusedSimpArgs false
namespace Go.Proofs.YtilhlmmcdfoaoaaGreatDoor
set_option linter.unusedVariables false
set_option linter.unusedSimpArgs false
theorem xx_ne (x:Nat):¬xxQ x=0∧¬xxQ x=3:=by unfold xxQ;split <;> decide
theorem part_xx {f x:Nat} {l:List Tk} {d:Nat}:jPart (PJ f) (xxQ x) l d=PJ f 0 0 [] l d:=by
 unfold jPart
 rw [if_neg (xx_ne x).1,if_neg (xx_ne x).2]
theorem part_3 {f:Nat} {l:List Tk} {d:Nat}:jPart (PJ f) 3 l d=PJ f 8 0 [] l d:=by
 unfold jPart
 rw [if_neg (by decide),if_pos rfl]
theorem rl6 {T:List Tk} (hfin:∃us p,T=us++[endT p]) (hnm:∀t∈T,t.k=1→t.t.length≤32) {g:Nat} (ih:RlQ T g) {f x i d:Nat} {r:Rs (List Nd)} {r':List Nd × Sg} (hx:x=41∨x=93) (hi:i<T.length) (hd:d<24) (h:bnd (PJ f 6 (xxQ x) [] (T.drop i) (d+1)) (clo (chQ x))=some r) (h':RJ T (g+1) 6 x [] (stQ i (d+1))=some r'):Rl T d r r':=by
 replace h':qList T (RJ T g) x (stQ i (d+1))=some r':=h'
 unfold qList at h'
 rw [isQ_S] at h'
 obtain⟨f,rfl⟩:∃f1,f=f1+1:=by
  rcases bndX2 h with ⟨E,P,e2,_⟩|⟨ms,l,e2,_⟩ <;> exact fuelP e2
 replace h:bnd (jParts (PJ f) (xxQ x) (T.drop i) (d+1)) (clo (chQ x))=some r:=h
 unfold jParts at h
 rw [chx] at h
 by_cases hs:isS (chQ x) (T.drop i)=true
 ·rw [if_pos hs] at h h'
  cases h'
  exact clo_rl hfin hi (by omega) h
 ·rw [if_neg hs] at h h'
  rw [part_xx] at h
  exact ih.a7 (acc:=[]) hx hi hd h h'
theorem rl7 {T:List Tk} (hfin:∃us p,T=us++[endT p]) (hnm:∀t∈T,t.k=1→t.t.length≤32) {g:Nat} (ih:RlQ T g) {f f2 x i d:Nat} {acc:List Nd} {r:Rs (List Nd)} {r':List Nd × Sg} (hx:x=41∨x=93) (hi:i<T.length) (hd:d<24) (h:bnd (bnd (PJ f 0 0 [] (T.drop i) (d+1)) (fun ns l1=>PJ f2 7 (xxQ x) (acc++ns) l1 (d+1))) (clo (chQ x))=some r) (h':RJ T (g+1) 7 x acc (stQ i (d+1))=some r'):Rl T d r r':=by
 replace h':qListL T (RJ T g) x acc (stQ i (d+1))=some r':=h'
 unfold qListL at h'
 rw [if_pos (show (stQ i (d+1)).e=0 from rfl)] at h'
 obtain⟨ns,σ1,e1,h2⟩:=bqE h'
 cases hy:PJ f 0 0 [] (T.drop i) (d+1) with
 |none=>rw [hy] at h;cases h
 |some y=>
  rw [hy] at h
  match y,hy,h with
  |.error (E,P),hy,h=>
   cases h
   have hr:=ih.a0 hi (by omega) hy e1
   refine err_end ?_ h2
   exact ke_ite (RJ_err (gd_ne hy) g _ _ _ _ (er_nx hr)) (ke_ok (er_cl (gd_ne hy) _ hr))
  |.ok (ms,l),hy,h=>
   obtain⟨k,hk,rfl,e3⟩:=ih.a0 hi (by omega) hy e1
   cases e3
   replace h:bnd (PJ f2 7 (xxQ x) (acc++ns) (T.drop k) (d+1)) (clo (chQ x))=some r:=h
   obtain⟨f2,rfl⟩:∃f1,f2=f1+1:=by
    rcases bndX2 h with ⟨E,P,e2,_⟩|⟨ms,l,e2,_⟩ <;> exact fuelP e2
   replace h:bnd (jPaL (PJ f2) (xxQ x) (acc++ns) (T.drop k) (d+1)) (clo (chQ x))=some r:=h
   unfold jPaL at h
   rw [isQ_S] at h2
   by_cases h44:isS [44] (T.drop k)=true
   ·rw [if_pos h44] at h h2
    have hk5:=(ksign h44).1
    obtain⟨n1,n2,n3⟩:=nx_st (d:=d+1) hfin hk (by omega)
    rw [n1] at h2
    rw [n3,part_xx] at h
    exact ih.a7 hx n2 hd h h2
   ·rw [if_neg h44] at h h2
    cases h2
    exact clo_rl hfin hk (by omega) h
theorem rl8 {T:List Tk} (hfin:∃us p,T=us++[endT p]) (hnm:∀t∈T,t.k=1→t.t.length≤32) {g:Nat} (ih:RlQ T g) {f i d:Nat} {r:Rs (List Nd)} {r':List Nd × Sg} (hi:i<T.length) (hd:d<24) (h:bnd (PJ f 6 3 [] (T.drop i) (d+1)) (clo [125])=some r) (h':RJ T (g+1) 8 0 [] (stQ i (d+1))=some r'):Rl T d r r':=by
 replace h':qPairs T (RJ T g) (stQ i (d+1))=some r':=h'
 unfold qPairs at h'
 rw [isQ_S] at h'
 obtain⟨f,rfl⟩:∃f1,f=f1+1:=by
  rcases bndX2 h with ⟨E,P,e2,_⟩|⟨ms,l,e2,_⟩ <;> exact fuelP e2
 replace h:bnd (jParts (PJ f) 3 (T.drop i) (d+1)) (clo [125])=some r:=h
 unfold jParts at h
 rw [show clX 3=[125] from rfl] at h
 by_cases hs:isS [125] (T.drop i)=true
 ·rw [if_pos hs] at h h'
  cases h'
  exact clo_rl hfin hi (by omega) h
 ·rw [if_neg hs] at h h'
  rw [part_3] at h
  exact ih.a9 (acc:=[]) hi hd h h'
theorem hd_mem {i:Nat} {T:List Tk} (hi:i<T.length):hdT (T.drop i)∈T:=by
 have h1:T[i]?=some (hdT (T.drop i)):=by
  unfold hdT
  rw [List.getElem?_eq_getElem hi,←List.getElem_cons_drop hi]
  rfl
 exact List.mem_of_getElem? h1
theorem rl9 {T:List Tk} (hfin:∃us p,T=us++[endT p]) (hnm:∀t∈T,t.k=1→t.t.length≤32) {g:Nat} (ih:RlQ T g) {f f2 i d:Nat} {acc:List Nd} {r:Rs (List Nd)} {r':List Nd × Sg} (hi:i<T.length) (hd:d<24) (h:bnd (bnd (PJ f 8 0 [] (T.drop i) (d+1)) (fun ns l1=>PJ f2 7 3 (acc++ns) l1 (d+1))) (clo [125])=some r) (h':RJ T (g+1) 9 0 acc (stQ i (d+1))=some r'):Rl T d r r':=by
 replace h':qPairL T (RJ T g) acc (stQ i (d+1))=some r':=h'
 unfold qPairL at h'
 rw [if_pos (show (stQ i (d+1)).e=0 from rfl),tk_st] at h'
 have hnl:=hnm _ (hd_mem hi)
 obtain⟨f,rfl⟩:∃f1,f=f1+1:=by
  rcases bndX2 h with ⟨E,P,e2,_⟩|⟨ms,l,e2,_⟩
  ·rcases bndX2 e2 with ⟨E,P,e3,_⟩|⟨ms,l,e3,_⟩ <;> exact fuelP e3
  ·rcases bndX2 e2 with ⟨E,P,e3,_⟩|⟨ms,l,e3,_⟩ <;> exact fuelP e3
 replace h:bnd (bnd (jPair (PJ f) (T.drop i) (d+1)) (fun ns l1=>PJ f2 7 3 (acc++ns) l1 (d+1))) (clo [125])=some r:=h
 unfold jPair at h
 by_cases hb:(¬(hdT (T.drop i)).k=1∧¬(hdT (T.drop i)).k=4)∨32<(hdT (T.drop i)).t.length
 ·have hb2:¬(hdT (T.drop i)).k=1∧(¬(hdT (T.drop i)).k=4∨32<(hdT (T.drop i)).t.length):=by
   rcases hb with ⟨h1,h2⟩|h1
   ·exact⟨h1,.inl h2⟩
   ·exact⟨fun e=>by have:=hnl e;omega,.inr h1⟩
  rw [if_pos hb] at h'
  rw [if_pos hb2] at h
  cases h
  cases h'
  show Er (wrQ T 170 (stQ i (d+1))) 170 _
  unfold wrQ
  rw [if_pos (show (stQ i (d+1)).e=0 from rfl)]
  exact⟨rfl,rfl⟩
 ·have hb2:¬(¬(hdT (T.drop i)).k=1∧(¬(hdT (T.drop i)).k=4∨32<(hdT (T.drop i)).t.length)):=fun e=>hb (by
   rcases e.2 with e2|e2
   ·exact .inl ⟨e.1,e2⟩
   ·exact .inr e2)
  rw [if_neg hb] at h'
  rw [if_neg hb2] at h
  have hk0:¬(hdT (T.drop i)).k=0:=fun e=>hb (.inl ⟨by omega,by omega⟩)
  obtain⟨n1,n2,n3⟩:=nx_st (d:=d+1) hfin hi hk0
  rw [n1] at h'
  rw [n3] at h
  obtain⟨ns,σ1,e1,h2⟩:=bqE h'
  by_cases h58:isS [58] (T.drop (i+1))=true
  ·obtain⟨m1,m2,m3⟩:=mu_ok (d:=d+1) hfin n2 h58
   rw [m1] at e1
   unfold pSg at h
   rw [if_pos h58] at h
   replace h:bnd (bnd (bnd (PJ f 0 0 [] (T.drop (i+1)).tail (d+1)) (fun ns l2=>okN [nd0 20 (hdT (T.drop i)).t ns (hdT (T.drop i)).p] l2)) (fun ns l1=>PJ f2 7 3 (acc++ns) l1 (d+1))) (clo [125])=some r:=h
   rw [m3] at h
   cases hy:PJ f 0 0 [] (T.drop (i+1+1)) (d+1) with
   |none=>rw [hy] at h;cases h
   |some y=>
    rw [hy] at h
    match y,hy,h with
    |.error (E,P),hy,h=>
     cases h
     have hr:=ih.a0 m2 (by omega) hy e1
     refine err_end ?_ h2
     exact ke_ite (RJ_err (gd_ne hy) g _ _ _ _ (er_nx hr)) (ke_ok (er_cl (gd_ne hy) _ hr))
    |.ok (ms,l),hy,h=>
     obtain⟨k,hk,rfl,e3⟩:=ih.a0 m2 (by omega) hy e1
     cases e3
     replace h:bnd (PJ f2 7 3 (acc++[nd0 20 (hdT (T.drop i)).t ns (hdT (T.drop i)).p]) (T.drop k) (d+1)) (clo [125])=some r:=h
     obtain⟨f2,rfl⟩:∃f1,f2=f1+1:=by
      rcases bndX2 h with ⟨E,P,e2,_⟩|⟨ms,l,e2,_⟩ <;> exact fuelP e2
     replace h:bnd (jPaL (PJ f2) 3 (acc++[nd0 20 (hdT (T.drop i)).t ns (hdT (T.drop i)).p]) (T.drop k) (d+1)) (clo [125])=some r:=h
     unfold jPaL at h
     rw [isQ_S] at h2
     by_cases h44:isS [44] (T.drop k)=true
     ·rw [if_pos h44] at h h2
      have hk5:=(ksign h44).1
      obtain⟨q1,q2,q3⟩:=nx_st (d:=d+1) hfin hk (by omega)
      rw [q1] at h2
      rw [q3,part_3] at h
      exact ih.a9 q2 hd h h2
     ·rw [if_neg h44] at h h2
      cases h2
      exact clo_rl hfin hk (by omega) h
  ·have h58':isS [58] (T.drop (i+1))=false:=by simpa using h58
   unfold pSg at h
   rw [if_neg h58] at h
   cases h
   have hr:=mu_bad (d:=d+1) h58'
   have hr2:=RJ_err (by decide) g 0 0 [] _ hr ns σ1 e1
   refine err_end ?_ h2
   exact ke_ite (RJ_err (by decide) g _ _ _ _ (er_nx hr2)) (ke_ok (er_cl (by decide) _ hr2))
theorem within_rl {T:List Tk} (hfin:∃us p,T=us++[endT p]) {f x i d:Nat} {r:Rs (List Nd)} (hi:i<T.length) (hd:d≤24) (hs:isS (opX x) (T.drop i)=true) (h:jWithin (PJ f) x (T.drop i) d=some r) :
  (d=24∧r=.error (171,(hdT (T.drop i)).p))∨(d<24∧∃r0,bnd (PJ f 6 x [] (T.drop (i+1)) (d+1)) (clo (clX x))=some r0∧r=mpR (fun ns=>[nd0 (kdX x) [] ns (hdT (T.drop i)).p]) r0):=by
 unfold jWithin ent at h
 rw [if_pos hs] at h
 by_cases h24:d=24
 ·rw [if_pos h24] at h
  cases h
  exact .inl ⟨h24,rfl⟩
 ·rw [if_neg h24] at h
  have hk5:=(ksign hs).1
  have h3:(T.drop i).tail=T.drop (i+1):=List.tail_drop
  replace h:bnd (PJ f 6 x [] (T.drop i).tail (d+1)) (fun ns l2=>thn (pSg (clX x) l2) (fun _ l3=>okN [nd0 (kdX x) [] ns (hdT (T.drop i)).p] l3))=some r:=h
  rw [h3] at h
  obtain⟨r0,e1,e2⟩:=clo_mp (g:=fun ns=>[nd0 (kdX x) [] ns (hdT (T.drop i)).p]) h
  exact .inr ⟨by omega,r0,e1,e2⟩
theorem rl23 {T:List Tk} (hfin:∃us p,T=us++[endT p]) (hnm:∀t∈T,t.k=1→t.t.length≤32) {g:Nat} (ih:RlQ T g) {f i d:Nat} {r:Rs (List Nd)} {r':List Nd × Sg} (hi:i<T.length) (hd:d≤24) (h:falP f (T.drop i) d=some r) (h':RJ T (g+1) 23 0 [] (stQ i d)=some r'):Rl T d r r':=by
 replace h':qBrack T (RJ T g) (stQ i d)=some r':=h'
 unfold qBrack at h'
 rw [tk_st] at h'
 unfold falP at h
 by_cases h91:isS [91] (T.drop i)=true
 ·rw [if_pos h91] at h
  obtain⟨hk5,ht⟩:=ksign h91
  obtain⟨f,rfl⟩:=fuelP h
  rw [if_pos ⟨hk5,.inr (.inl ht)⟩] at h'
  rcases within_rl hfin (x:=2) hi hd h91 h with ⟨h24,rfl⟩|⟨h24,r0,e1,rfl⟩
  ·have hb:=op_bad (T:=T) (i:=i) h24
   rw [if_neg (by rw [hb.1];decide)] at h'
   cases h'
   exact hb
  ·obtain⟨o1,o2,o3⟩:=op_ok (d:=d) hfin hi h24 (by omega)
   rw [o1,if_pos (show (stQ (i+1) (d+1)).e=0 from rfl),if_neg (by rw [ht];decide),if_pos ht] at h'
   obtain⟨ns,σ1,e2,h2⟩:=bqE h'
   cases h2
   exact mpR_rl (g:=fun ns=>[nd0 18 [] ns (hdT (T.drop i)).p]) (ih.a6 (x:=93) (.inr rfl) o2 h24 e1 e2)
 ·rw [if_neg h91] at h
  have n91:¬((hdT (T.drop i)).k=5∧(hdT (T.drop i)).t=[91]):=fun e=>h91 (decide_eq_true e)
  by_cases h123:isS [123] (T.drop i)=true
  ·rw [if_pos h123] at h
   obtain⟨hk5,ht⟩:=ksign h123
   obtain⟨f,rfl⟩:=fuelP h
   rw [if_pos ⟨hk5,.inr (.inr ht)⟩] at h'
   rcases within_rl hfin (x:=3) hi hd h123 h with ⟨h24,rfl⟩|⟨h24,r0,e1,rfl⟩
   ·have hb:=op_bad (T:=T) (i:=i) h24
    rw [if_neg (by rw [hb.1];decide)] at h'
    cases h'
    exact hb
   ·obtain⟨o1,o2,o3⟩:=op_ok (d:=d) hfin hi h24 (by omega)
    rw [o1,if_pos (show (stQ (i+1) (d+1)).e=0 from rfl),if_neg (by rw [ht];decide),if_neg (by rw [ht];decide)] at h'
    obtain⟨ns,σ1,e2,h2⟩:=bqE h'
    cases h2
    exact mpR_rl (g:=fun ns=>[nd0 19 [] ns (hdT (T.drop i)).p]) (ih.a8 o2 h24 e1 e2)
  ·rw [if_neg h123] at h
   have n123:¬((hdT (T.drop i)).k=5∧(hdT (T.drop i)).t=[123]):=fun e=>h123 (decide_eq_true e)
   obtain⟨f,rfl⟩:=fuelP h
   replace h:jGroup (PJ f) (T.drop i) d=some r:=h
   unfold jGroup ent at h
   by_cases h40:isS [40] (T.drop i)=true
   ·obtain⟨hk5,ht⟩:=ksign h40
    rw [if_pos h40] at h
    rw [if_pos ⟨hk5,.inl ht⟩] at h'
    by_cases h24:d=24
    ·rw [if_pos h24] at h
     cases h
     have hb:=op_bad (T:=T) (i:=i) h24
     rw [if_neg (by rw [hb.1];decide)] at h'
     cases h'
     exact hb
    ·rw [if_neg h24] at h
     obtain⟨o1,o2,o3⟩:=op_ok (d:=d) hfin hi (by omega) (by omega)
     rw [o1,if_pos (show (stQ (i+1) (d+1)).e=0 from rfl),if_pos ht] at h'
     replace h:bnd (PJ f 0 0 [] (T.drop i).tail (d+1)) (clo [41])=some r:=h
     rw [o3] at h
     obtain⟨ns,σ1,e1,h2⟩:=bqE h'
     cases h2
     rcases bndX2 h with ⟨E,P,e2,rfl⟩|⟨ms,l,e2,h3⟩
     ·exact er_cl (gd_ne e2) _ (ih.a0 o2 (by omega) e2 e1)
     ·obtain⟨k,hk,rfl,e3⟩:=ih.a0 o2 (by omega) e2 e1
      cases e3
      exact clo_rl hfin hk hd h3
   ·have n40:¬((hdT (T.drop i)).k=5∧(hdT (T.drop i)).t=[40]):=fun e=>h40 (decide_eq_true e)
    rw [if_neg h40] at h
    rw [if_neg (fun e=>by rcases e.2 with e2|e2|e2;exact n40 ⟨e.1,e2⟩;exact n91 ⟨e.1,e2⟩;exact n123 ⟨e.1,e2⟩)] at h'
    cases h
    cases h'
    show Er (wrQ T 170 (stQ i d)) 170 _
    unfold wrQ
    rw [if_pos (show (stQ i d).e=0 from rfl)]
    exact⟨rfl,rfl⟩
theorem isK_iff (s:List UInt8) (l:List Tk):isK s l=true↔(hdT l).k=2∧(hdT l).t=s:=⟨fun h=>of_decide_eq_true h,fun h=>decide_eq_true h⟩
theorem lit_rl {T:List Tk} (hfin:∃us p,T=us++[endT p]) {vk vn:Nat} {vs:List UInt8} {i d:Nat} {r:Rs (List Nd)} {r':List Nd × Sg} (hi:i<T.length) (hk:¬(hdT (T.drop i)).k=0) (h:litN vk vn vs (T.drop i)=some r) (h':litQ T vk vn vs (stQ i d)=some r'):Rl T d r r':=by
 obtain⟨n1,n2,n3⟩:=nx_st (d:=d) hfin hi hk
 unfold litN at h
 unfold litQ at h'
 rw [n1,tk_st] at h'
 cases h
 cases h'
 exact⟨i+1,n2,n3,rfl⟩
theorem rl5 {T:List Tk} (hfin:∃us p,T=us++[endT p]) (hnm:∀t∈T,t.k=1→t.t.length≤32) {g:Nat} (ih:RlQ T g) {f i d:Nat} {r:Rs (List Nd)} {r':List Nd × Sg} (hi:i<T.length) (hd:d≤24) (h:PJ f 5 0 [] (T.drop i) d=some r) (h':RJ T (g+1) 5 0 [] (stQ i d)=some r'):Rl T d r r':=by
 obtain⟨f,rfl⟩:=fuelP h
 replace h:jOperand (PJ f) (T.drop i) d=some r:=h
 replace h':qPrim T (RJ T g) (stQ i d)=some r':=h'
 unfold jOperand at h
 unfold qPrim at h'
 rw [if_pos (show (stQ i d).e=0 from rfl),tk_st] at h'
 by_cases k3:(hdT (T.drop i)).k=3
 ·rw [if_neg (by omega),if_pos k3] at h
  rw [if_pos k3] at h'
  exact lit_rl hfin hi (by omega) h h'
 ·rw [if_neg k3] at h'
  by_cases k4:(hdT (T.drop i)).k=4
  ·rw [if_neg (by omega),if_neg k3,if_pos k4] at h
   rw [if_pos k4] at h'
   exact lit_rl hfin hi (by omega) h h'
  ·rw [if_neg k4] at h'
   by_cases hT:isK [116,114,117,101] (T.drop i)=true
   ·have e:=(isK_iff _ _).1 hT
    rw [if_neg (by omega),if_neg k3,if_neg k4,if_pos hT] at h
    rw [if_pos e] at h'
    exact lit_rl hfin hi (by omega) h h'
   ·have nT:¬((hdT (T.drop i)).k=2∧(hdT (T.drop i)).t=[116,114,117,101]):=fun e=>hT ((isK_iff _ _).2 e)
    rw [if_neg nT] at h'
    by_cases hF:isK [102,97,108,115,101] (T.drop i)=true
    ·have e:=(isK_iff _ _).1 hF
     rw [if_neg (by omega),if_neg k3,if_neg k4,if_neg hT,if_pos hF] at h
     rw [if_pos e] at h'
     exact lit_rl hfin hi (by omega) h h'
    ·have nF:¬((hdT (T.drop i)).k=2∧(hdT (T.drop i)).t=[102,97,108,115,101]):=fun e=>hF ((isK_iff _ _).2 e)
     rw [if_neg nF] at h'
     by_cases hU:isK [117,110,105,116] (T.drop i)=true
     ·have e:=(isK_iff _ _).1 hU
      rw [if_neg (by omega),if_neg k3,if_neg k4,if_neg hT,if_neg hF,if_pos hU] at h
      rw [if_pos e] at h'
      exact lit_rl hfin hi (by omega) h h'
     ·have nU:¬((hdT (T.drop i)).k=2∧(hdT (T.drop i)).t=[117,110,105,116]):=fun e=>hU ((isK_iff _ _).2 e)
      rw [if_neg nU] at h'
      by_cases k1:(hdT (T.drop i)).k=1
      ·rw [if_pos k1] at h h'
       obtain⟨f,rfl⟩:=fuelP h
       replace h:jName (PJ f) (T.drop i) d=some r:=h
       unfold jName pNm at h
       rw [if_pos k1] at h
       obtain⟨n1,n2,n3⟩:=nx_st (d:=d) hfin hi (by omega)
       replace h:(if isS [40] (T.drop i).tail=true then bnd (PJ f 22 1 [] (T.drop i).tail d) (fun ns l2=>okN (ns.map (fun n=>⟨n.k,(hdT (T.drop i)).t,n.vk,n.vn,n.vs,n.f,n.ks,(hdT (T.drop i)).p⟩)) l2) else okN [nd0 14 (hdT (T.drop i)).t [] (hdT (T.drop i)).p] (T.drop i).tail)=some r:=h
       rw [n3] at h
       rw [n1,isQ_S] at h'
       by_cases h40:isS [40] (T.drop (i+1))=true
       ·rw [if_pos h40] at h h'
        have hk5:=(ksign h40).1
        obtain⟨f,rfl⟩:∃f1,f=f1+1:=by
         rcases bndX2 h with ⟨E,P,e2,_⟩|⟨ms,l,e2,_⟩ <;> exact fuelP e2
        obtain⟨ns,σ1,e2,h2⟩:=bqE h'
        cases h2
        cases hy:jWithin (PJ f) 1 (T.drop (i+1)) d with
        |none=>
         replace h:bnd (jWithin (PJ f) 1 (T.drop (i+1)) d) _=some r:=h
         rw [hy] at h
         cases h
        |some y=>
         replace h:bnd (jWithin (PJ f) 1 (T.drop (i+1)) d) (fun ns l2=>okN (ns.map (fun n=>⟨n.k,(hdT (T.drop i)).t,n.vk,n.vn,n.vs,n.f,n.ks,(hdT (T.drop i)).p⟩)) l2)=some r:=h
         rw [hy] at h
         have hr:r=mpR (fun ns=>ns.map (fun n=>⟨n.k,(hdT (T.drop i)).t,n.vk,n.vn,n.vs,n.f,n.ks,(hdT (T.drop i)).p⟩)) y:=by
          cases y with
          |error e=>cases h;rfl
          |ok z=>cases h;rfl
         subst hr
         rcases within_rl hfin (x:=1) n2 hd h40 hy with ⟨h24,rfl⟩|⟨h24,r0,e1,rfl⟩
         ·have hb:=op_bad (T:=T) (i:=i+1) h24
          exact RJ_err (by decide) g 6 41 [] _ hb ns σ1 e2
         ·obtain⟨o1,o2,o3⟩:=op_ok (d:=d) hfin n2 h24 (by omega)
          rw [o1] at e2
          have hr:=ih.a6 (x:=41) (.inl rfl) o2 h24 e1 e2
          exact mpR_rl (g:=fun ns=>ns.map (fun n=>⟨n.k,(hdT (T.drop i)).t,n.vk,n.vn,n.vs,n.f,n.ks,(hdT (T.drop i)).p⟩)) (mpR_rl (g:=fun ns=>[nd0 15 [] ns (hdT (T.drop (i+1))).p]) hr)
       ·rw [if_neg h40] at h h'
        cases h
        cases h'
        exact⟨i+1,n2,rfl,rfl⟩
      ·rw [if_neg k1] at h h'
       rw [if_neg k3,if_neg k4,if_neg hT,if_neg hF,if_neg hU] at h
       exact ih.a23 hi hd h h'
theorem all_Rl {T:List Tk} (hfin:∃us p,T=us++[endT p]) (hnm:∀t∈T,t.k=1→t.t.length≤32):∀g,RlQ T g
 |0=>⟨(fun _ _ _ h=>by cases h),(fun _ _ _ h=>by cases h),(fun _ _ _ _ h=>by cases h),(fun _ _ _ _ h=>by cases h),(fun _ _ _ h=>by cases h),(fun _ _ _ h=>by cases h),(fun _ _ _ _ h=>by cases h),(fun _ _ _ _ h=>by cases h),(fun _ _ _ h=>by cases h),(fun _ _ _ h=>by cases h),(fun _ _ _ h=>by cases h),(fun _ _ _ h=>by cases h)⟩
 |g+1=>by
  have ih:=all_Rl hfin hnm g
  exact⟨rl0 hfin hnm ih,rl1 hfin hnm ih,rl2 hfin hnm ih,rl3 hfin hnm ih,rl4 hfin hnm ih,rl5 hfin hnm ih,rl6 hfin hnm ih,rl7 hfin hnm ih,rl8 hfin hnm ih,rl9 hfin hnm ih,rl23 hfin hnm ih,rl24 hfin hnm ih⟩
def ErL (T:List Tk) (σ:Sg) (E A:Nat):Prop:=Er σ E A∧σ.i<T.length
def KeL (T:List Tk) (E A:Nat) (o:Option (List Nd × Sg)):Prop:=∃r,o=some r∧ErL T r.2 E A
def Rl2 (T:List Tk) (d:Nat) (r:Rs (List Nd)) (o:Option (List Nd × Sg)):Prop:=∃r',o=some r'∧Rl T d r r'∧r'.2.i<T.length
section
variable {T : List Tk} {E A : Nat} {σ : Sg}
theorem el_nx (h:ErL T σ E A):ErL T (nxQ T σ) E A:=⟨er_nx h.1,nxQ_l h.2⟩
theorem el_mu (hE:¬E=0) {k:Nat} {s:List UInt8} (h:ErL T σ E A):ErL T (muQ T k s σ).2 E A:=⟨er_mu hE k s h.1,muQ_l k s h.2⟩
theorem el_cl (hE:¬E=0) {s:List UInt8} (h:ErL T σ E A):ErL T (clQ T s σ) E A:=⟨er_cl hE s h.1,clQ_l s h.2⟩
theorem el_wr (hE:¬E=0) {er:Nat} (h:ErL T σ E A):ErL T (wrQ T er σ) E A:=⟨er_wr hE h.1,by rw [wrQ_i];exact h.2⟩
theorem el_is (hE:¬E=0) {k:Nat} {s:List UInt8} (h:ErL T σ E A):isQ T k s σ=false:=decide_eq_false (fun e=>hE (by rw [←h.1.1];exact e.1))
theorem el_set (hE:¬E=0) (h:ErL T σ E A):setQ T σ=false:=decide_eq_false (fun e=>by rw [el_is hE h] at e;exact absurd e.1 (by decide))
theorem el_xp (hE:¬E=0) (h:ErL T σ E A):xpQ T σ=σ:=by unfold xpQ;rw [el_is hE h];rfl
theorem kl_ok {n:List Nd} (h:ErL T σ E A):KeL T E A (okq n σ):=⟨_,rfl,h⟩
theorem kl_ite {p:Prop} [Decidable p] {x y:Option (List Nd × Sg)} (h1:KeL T E A x) (h2:KeL T E A y):KeL T E A (if p then x else y):=by split <;> assumption
theorem kl_bq {o:Option (List Nd × Sg)} {k:List Nd→Sg→Option (List Nd × Sg)} (h:KeL T E A o) (hk:∀ns σ,ErL T σ E A→KeL T E A (k ns σ)):KeL T E A (bq o k):=by
 obtain⟨r,rfl,h2⟩:=h
 exact hk r.1 r.2 h2
end
structure Fit (T:List Tk) (F:Nat):Prop where
 fin:∃us p,T=us++[endT p]
 nm:∀t∈T,t.k=1→t.t.length≤32
 big:32 * T.length+10<F
theorem tot_e {T : List Tk} {F : Nat} (H : Fit T F) {σ:Sg} (h:σ.i<T.length):∃r,RJ T F 0 0 [] σ=some r:=RJ_tot H.fin F 0 0 [] σ (.inl (by decide)) (by omega) h (by have:=H.big;simp [rnk];omega)
theorem kl_e {T : List Tk} {F : Nat} (H : Fit T F) {E A:Nat} (hE:¬E=0) {σ:Sg} (h:ErL T σ E A):KeL T E A (RJ T F 0 0 [] σ):=by
 obtain⟨r,hr⟩:=tot_e H h.2
 exact⟨r,hr,RJ_err hE F 0 0 [] σ h.1 _ _ hr,(RJ_i F 0 0 [] σ _ (Nat.le_refl _) h.2 _ _ hr).2⟩
theorem rl_e {T : List Tk} {F : Nat} (H : Fit T F) {f i d:Nat} {r:Rs (List Nd)} (hi:i<T.length) (hd:d≤24) (h:PJ f 0 0 [] (T.drop i) d=some r):Rl2 T d r (RJ T F 0 0 [] (stQ i d)):=by
 obtain⟨r',hr⟩:=tot_e H (σ:=stQ i d) hi
 exact⟨r',hr,(all_Rl H.fin H.nm F).a0 hi hd h hr,(RJ_i F 0 0 [] (stQ i d) _ (Nat.le_refl _) hi _ _ hr).2⟩
theorem ks1 {T : List Tk} {F : Nat} (H : Fit T F) {E A g j x:Nat} {acc:List Nd} {σ:Sg} (hE:¬E=0) (h:ErL T σ E A) (hj:j=1∨j=3∨j=4∨j=5∨j=7∨j=8):KeL T E A (RS T F (g+1) j x acc σ):=by
 have he:¬σ.e=0:=by rw [h.1.1];exact hE
 rcases hj with rfl|rfl|rfl|rfl|rfl|rfl
 ·show KeL T E A (sPrL T _ acc σ);unfold sPrL;rw [if_neg (fun e=>he e.1)];exact kl_ok h
 ·show KeL T E A (sPaL T _ acc σ);unfold sPaL;rw [if_neg he];exact kl_ok h
 ·show KeL T E A (sBlock T _ σ);unfold sBlock;rw [el_is hE h];exact kl_ok (el_wr hE h)
 ·show KeL T E A (sBlL T _ acc σ);unfold sBlL;rw [if_pos (.inr he)];exact kl_ok h
 ·show KeL T E A (sLet T _ σ);unfold sLet;exact kl_ite (kl_bq (kl_e H hE (el_nx (el_mu hE (el_nx h)))) (fun _ _ g=>kl_ok (el_mu hE g))) (kl_ok (el_mu hE (el_mu hE (el_nx h))))
 ·show KeL T E A (sCond T _ σ);unfold sCond;exact kl_bq (kl_e H hE (el_mu hE h)) (fun _ _ g=>kl_ok (el_mu hE g))
theorem ks2 {T : List Tk} {F : Nat} (H : Fit T F) {E A g j x:Nat} {acc:List Nd} {σ:Sg} (hE:¬E=0) (h:ErL T σ E A) (hj:j=2∨j=9):KeL T E A (RS T F (g+1+1) j x acc σ):=by
 rcases hj with rfl|rfl
 ·show KeL T E A (sFn T _ σ)
  unfold sFn
  have h4:ErL T (paQ T σ) E A:=el_mu hE (el_mu hE (el_mu hE (by rw [el_xp hE h];exact h)))
  exact kl_bq (kl_ite (kl_ok h4) (ks1 H hE h4 (by omega))) (fun _ _ g5=>kl_bq (ks1 H hE (el_mu hE g5) (by omega)) (fun _ _ g6=>kl_ok g6))
 ·show KeL T E A (sChoice T _ σ)
  unfold sChoice
  refine kl_bq (ks1 H hE (el_nx h) (by omega)) (fun _ s1 g1=>kl_bq (ks1 H hE g1 (by omega)) (fun _ s2 g2=>?_))
  rw [el_is hE g2]
  exact kl_ok g2
theorem ks3 {T : List Tk} {F : Nat} (H : Fit T F) {E A g x:Nat} {acc:List Nd} {σ:Sg} (hE:¬E=0) (h:ErL T σ E A):KeL T E A (RS T F (g+1+1+1) 6 x acc σ):=by
 show KeL T E A (sStat T _ _ σ)
 unfold sStat
 rw [el_set hE h]
 have hn:=el_nx h
 refine kl_ite (kl_bq (kl_e H hE (el_nx hn)) (fun _ _ g=>kl_ok (el_mu hE g))) ?_
 refine kl_ite (ks1 H hE h (by omega)) (kl_ite (ks2 H hE h (by omega)) (kl_ite (kl_bq (ks1 H hE hn (by omega)) (fun _ _ g1=>kl_bq (ks1 H hE g1 (by omega)) (fun _ _ g2=>kl_ok g2))) ?_))
 refine kl_ite (kl_ite (kl_ok (el_mu hE hn)) (kl_bq (kl_e H hE hn) (fun _ _ g=>kl_ok (el_mu hE g)))) ?_
 exact kl_ite (kl_ok (el_mu hE hn)) (kl_ite (kl_ok (el_mu hE hn)) (kl_bq (kl_e H hE h) (fun _ _ g=>kl_ok (el_mu hE g))))
theorem ks {T : List Tk} {F : Nat} (H : Fit T F) {E A g j x:Nat} {acc:List Nd} {σ:Sg} (hE:¬E=0) (hg:3≤g) (hj:1≤j∧j≤9) (h:ErL T σ E A):KeL T E A (RS T F g j x acc σ):=by
 obtain⟨g,rfl⟩:∃k,g=k+1+1+1:=⟨g - 3,by omega⟩
 by_cases h6:j=6
 ·subst h6;exact ks3 H hE h
 ·by_cases h2:j=2∨j=9
  ·exact ks2 H hE h h2
  ·exact ks1 H hE h (by omega)
theorem rl_err {T:List Tk} {d E P:Nat} {o:Option (List Nd × Sg)} (h:KeL T E P o):Rl2 T d (.error (E,P)) o:=by
 obtain⟨r,h1,h2⟩:=h
 exact⟨r,h1,h2.1,h2.2⟩
theorem rl_ok {T:List Tk} {d i:Nat} {ns:List Nd} {r:Rs (List Nd)} (hi:i<T.length) (h:okN ns (T.drop i)=some r):Rl2 T d r (okq ns (stQ i d)):=by
 cases h
 exact⟨_,rfl,⟨i,hi,rfl,rfl⟩,hi⟩
theorem rl_bq {T:List Tk} {d d0:Nat} {y:Option (Rs (List Nd))} {k:List Nd→List Tk→Option (Rs (List Nd))} {r:Rs (List Nd)} {o:Option (List Nd × Sg)} {k':List Nd→Sg→Option (List Nd × Sg)} (h:bnd y k=some r)
  (hy:∀r0,y=some r0→Rl2 T d0 r0 o) (hn:∀E P,y=some (.error (E,P))→¬E=0) (hk:∀ns i,i<T.length→k ns (T.drop i)=some r→Rl2 T d r (k' ns (stQ i d0))) (he:∀E P,¬E=0→∀ns σ,ErL T σ E P→KeL T E P (k' ns σ)):Rl2 T d r (bq o k'):=by
 rcases bndX2 h with ⟨E,P,e2,rfl⟩|⟨ms,l,e2,h3⟩
 ·obtain⟨r',rfl,h1,h2⟩:=hy _ e2
  exact rl_err (he E P (hn E P e2) _ _ ⟨h1,h2⟩)
 ·obtain⟨r',rfl,⟨i,h1,rfl,e3⟩,h2⟩:=hy _ e2
  subst e3
  exact hk ms i h1 h3
theorem isQ_K (T:List Tk) (s:List UInt8) (i d:Nat):isQ T 2 s (stQ i d)=isK s (T.drop i):=by
 rw [show isK s (T.drop i)=decide ((hdT (T.drop i)).k=2∧(hdT (T.drop i)).t=s) from rfl]
 unfold isQ
 rw [tk_st]
 exact decide_eq_decide.2 ⟨fun h=>⟨h.2.1,by rcases h.2.2 with e|e|e|e|e;exact absurd e (by decide);exact absurd e (by decide);exact absurd e (by decide);exact absurd e (by decide);exact e⟩,fun h=>⟨rfl,h.1,.inr (.inr (.inr (.inr h.2)))⟩⟩
theorem wr_el {T:List Tk} {i d er:Nat} (hi:i<T.length):ErL T (wrQ T er (stQ i d)) er (hdT (T.drop i)).p:=by
 refine⟨?_,by rw [wrQ_i];exact hi⟩
 unfold wrQ
 rw [if_pos (show (stQ i d).e=0 from rfl)]
 exact⟨rfl,rfl⟩
theorem rl_must {T:List Tk} {d d0 i k:Nat} {s:List UInt8} {b:Bool} {kk:Tk→List Tk→Option (Rs (List Nd))} {r:Rs (List Nd)} {k':Tk × Sg→Option (List Nd × Sg)} (hfin:∃us p,T=us++[endT p]) (hi:i<T.length) (hb:isQ T k s (stQ i d0)=b) (hk0:¬k=0)
  (h:thn (if b=true then (.ok (hdT (T.drop i),(T.drop i).tail):Rs Tk) else .error (170,(hdT (T.drop i)).p)) kk=some r)
  (hk:i+1<T.length→kk (hdT (T.drop i)) (T.drop (i+1))=some r→Rl2 T d r (k' (hdT (T.drop i),stQ (i+1) d0))) (he:∀E P,¬E=0→∀t σ,ErL T σ E P→KeL T E P (k' (t,σ))):Rl2 T d r (k' (muQ T k s (stQ i d0))):=by
 unfold muQ
 rw [hb]
 cases b with
 |false=>
  rw [if_neg (by decide)] at h ⊢
  cases h
  exact rl_err (he _ _ (by decide) _ _ (wr_el hi))
 |true=>
  rw [if_pos rfl] at h ⊢
  have hk2:¬(hdT (T.drop i)).k=0:=by
   have:=(isQ_k hb).2.1
   rw [tk_st] at this
   omega
  obtain⟨n1,n2,n3⟩:=nx_st (d:=d0) hfin hi hk2
  rw [n1]
  rw [n3] at h
  exact hk n2 h
theorem rl_sg {T : List Tk} {d d0 i : Nat} {r : Rs (List Nd)} {kk : Tk → List Tk → Option (Rs (List Nd))} {k' : Tk × Sg → Option (List Nd × Sg)} (hfin : ∃ us p, T = us ++ [endT p]) (hi : i < T.length) {s:List UInt8} (h:thn (pSg s (T.drop i)) kk=some r) (hk:i+1<T.length→kk (hdT (T.drop i)) (T.drop (i+1))=some r→Rl2 T d r (k' (hdT (T.drop i),stQ (i+1) d0))) (he:∀E P,¬E=0→∀t σ,ErL T σ E P→KeL T E P (k' (t,σ))):Rl2 T d r (k' (muQ T 5 s (stQ i d0))):=rl_must hfin hi (isQ_S T s i d0) (by decide) h hk he
theorem rl_ky {T : List Tk} {d d0 i : Nat} {r : Rs (List Nd)} {kk : Tk → List Tk → Option (Rs (List Nd))} {k' : Tk × Sg → Option (List Nd × Sg)} (hfin : ∃ us p, T = us ++ [endT p]) (hi : i < T.length) {s:List UInt8} (h:thn (pKy s (T.drop i)) kk=some r) (hk:i+1<T.length→kk (hdT (T.drop i)) (T.drop (i+1))=some r→Rl2 T d r (k' (hdT (T.drop i),stQ (i+1) d0))) (he:∀E P,¬E=0→∀t σ,ErL T σ E P→KeL T E P (k' (t,σ))):Rl2 T d r (k' (muQ T 2 s (stQ i d0))):=rl_must hfin hi (isQ_K T s i d0) (by decide) h hk he
theorem rl_nm {T : List Tk} {d d0 i : Nat} {r : Rs (List Nd)} {kk : Tk → List Tk → Option (Rs (List Nd))} {k' : Tk × Sg → Option (List Nd × Sg)} (hfin : ∃ us p, T = us ++ [endT p]) (hi : i < T.length) (h:thn (pNm (T.drop i)) kk=some r) (hk:i+1<T.length→kk (hdT (T.drop i)) (T.drop (i+1))=some r→Rl2 T d r (k' (hdT (T.drop i),stQ (i+1) d0))) (he:∀E P,¬E=0→∀t σ,ErL T σ E P→KeL T E P (k' (t,σ))):Rl2 T d r (k' (muQ T 1 [] (stQ i d0))):=by
 refine rl_must hfin hi (isQ_N T i d0) (by decide) ?_ hk he
 unfold pNm at h
 simpa using h
theorem rl_en {T : List Tk} {d i : Nat} {r : Rs (List Nd)} (hfin : ∃ us p, T = us ++ [endT p]) (hi : i < T.length) {ns:List Nd} (h:thn (pSg [59] (T.drop i)) (fun _ l=>okN ns l)=some r):Rl2 T d r (okq ns (enQ T (stQ i d))):=
 rl_sg hfin hi (k':=fun m=>okq ns m.2) h (fun h1 h2=>rl_ok h1 h2) (fun _ _ _ _ _ g=>kl_ok g)
end Go.Proofs.YtilhlmmcdfoaoaaGreatDoor
