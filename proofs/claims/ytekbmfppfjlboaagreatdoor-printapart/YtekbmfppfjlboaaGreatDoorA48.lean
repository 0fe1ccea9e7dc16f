/-
  Layer 18 (print), for PrintApart: every statement, every function, every program is told by its text; no conditions.
  Layer 18 (print), for PrintApart: every function, every program is told by its text; no conditions.
  Layer 18 (print), for PrintApart: trees that are the same but for places have one text; no conditions.
-/
import Derived.Test.YtekbmfppfjlboaaGreatDoorA47
set_option linter.unusedVariables false
set_option linter.unusedSimpArgs false
namespace Go.Proofs.YtekbmfppfjlboaaGreatDoor
open Go.RowKit
set_option linter.unusedVariables false
set_option linter.unusedSimpArgs false
theorem fs_no {r X:List UInt8} (h:Fs r) (e:r=32 :: X):False:=by
 have:=h 32 (by rw [e];rfl)
 exact absurd this (by decide)
theorem sti_step {N:Nat} (ihB:BlI N) (ihS:StI N):StI (N+1):=by
 intro y z d r s hN gy gz sy sz1 hd hr hs h
 have bl:∀a∈y.ks,∀(b:Tn) (d:Nat) (r s:List UInt8),fmB a=true→fmB b=true→a.k=4→b.k=4→1≤d→stT d a++r=stT d b++s→smN a b=true∧r=s:=
  fun a ha b d r s g1 g2 k1 k2 hd h=>ihB a b d r s (by have:=sz_kid ha;omega) g1 g2 k1 k2 hd h
 rcases stm_kinds sy with ky|ky|ky <;> rcases stm_kinds sz1 with kz|kz|kz
 ·have hk:y.k=z.k:=by
   obtain⟨R,e,hR⟩:=kw_split gy ky d
   obtain⟨R',e',hR'⟩:=kw_split gz kz d
   rw [e,e',List.append_assoc,List.append_assoc] at h
   exact kwd_inj ky kz (span_inj lxW _ _ _ _ (kwd_ok ky).1 (kwd_ok kz).1 (hR r) (hR' s) h).1
  rcases ky with ky|ky|ky|ky|ky|ky
  ·have kz:z.k=5:=by omega
   obtain⟨hn,o⟩:=let_of gy ky
   obtain⟨hn',o'⟩:=let_of gz kz
   rcases o with e|⟨a,e,ga⟩ <;> rcases o' with e'|⟨a',e',ga'⟩
   ·rw [st5a ky e,st5a kz e'] at h
    simp only [List.append_assoc,List.cons_append,List.nil_append] at h
    have h:=List.append_cancel_left h
    simp only [List.cons.injEq,true_and] at h
    obtain⟨h1,h2⟩:=name_inj hn hn' (w59 _) (w59 _) h
    exact⟨smN_of gy gz hk (by omega) (by omega) h1 (by rw [e,e',smL_nil]),by simpa using h2⟩
   ·rw [st5a ky e,st5b kz e'] at h
    simp only [List.append_assoc,List.cons_append,List.nil_append] at h
    have h:=List.append_cancel_left h
    simp only [List.cons.injEq,true_and] at h
    obtain⟨h1,h2⟩:=name_inj hn hn' (w59 _) (w32 _) h
    simp at h2
   ·rw [st5b ky e,st5a kz e'] at h
    simp only [List.append_assoc,List.cons_append,List.nil_append] at h
    have h:=List.append_cancel_left h
    simp only [List.cons.injEq,true_and] at h
    obtain⟨h1,h2⟩:=name_inj hn hn' (w32 _) (w59 _) h
    simp at h2
   ·rw [st5b ky e,st5b kz e'] at h
    simp only [List.append_assoc,List.cons_append,List.nil_append] at h
    have h:=List.append_cancel_left h
    simp only [List.cons.injEq,true_and] at h
    obtain⟨h1,h2⟩:=name_inj hn hn' (w32 _) (w32 _) h
    simp only [List.cons.injEq,true_and] at h2
    obtain⟨h3,_,h4⟩:=ex_end ga ga' (Or.inr rfl) (Or.inr rfl) h2
    exact⟨smN_of gy gz hk (by omega) (by omega) h1 (by rw [e,e',smL_cons,h3,smL_nil];rfl),h4⟩
  ·have kz:z.k=7:=by omega
   have ht:y.t.data.toList=z.t.data.toList:=by rw [bare_of gy (by omega),bare_of gz (by omega)]
   obtain⟨a,b,ga,gb,kb,o⟩:=if_of gy ky
   obtain⟨a',b',ga',gb',kb',o'⟩:=if_of gz kz
   rcases o with e|⟨c,e,gc,kc⟩ <;> rcases o' with e'|⟨c',e',gc',kc'⟩
   ·rw [st7a ky e,st7a kz e'] at h
    simp only [List.append_assoc,List.cons_append,List.nil_append] at h
    have h:=List.append_cancel_left h
    simp only [List.cons.injEq,true_and] at h
    obtain⟨h3,_,h4⟩:=ex_end ga ga' (Or.inl rfl) (Or.inl rfl) h
    simp only [List.cons.injEq,true_and] at h4
    obtain⟨h5,h6⟩:=bl b (by rw [e];simp) b' (d+1) _ _ gb gb' kb kb' (by omega) h4
    exact⟨smN_of gy gz hk (by omega) (by omega) ht (by rw [e,e',smL_cons,smL_cons,h3,h5,smL_nil];rfl),h6⟩
   ·rw [st7a ky e,st7b kz e'] at h
    simp only [List.append_assoc,List.cons_append,List.nil_append] at h
    have h:=List.append_cancel_left h
    simp only [List.cons.injEq,true_and] at h
    obtain⟨h3,_,h4⟩:=ex_end ga ga' (Or.inl rfl) (Or.inl rfl) h
    simp only [List.cons.injEq,true_and] at h4
    obtain⟨h5,h6⟩:=bl b (by rw [e];simp) b' (d+1) _ _ gb gb' kb kb' (by omega) h4
    exact(fs_no hr h6).elim
   ·rw [st7b ky e,st7a kz e'] at h
    simp only [List.append_assoc,List.cons_append,List.nil_append] at h
    have h:=List.append_cancel_left h
    simp only [List.cons.injEq,true_and] at h
    obtain⟨h3,_,h4⟩:=ex_end ga ga' (Or.inl rfl) (Or.inl rfl) h
    simp only [List.cons.injEq,true_and] at h4
    obtain⟨h5,h6⟩:=bl b (by rw [e];simp) b' (d+1) _ _ gb gb' kb kb' (by omega) h4
    exact(fs_no hs h6.symm).elim
   ·rw [st7b ky e,st7b kz e'] at h
    simp only [List.append_assoc,List.cons_append,List.nil_append] at h
    have h:=List.append_cancel_left h
    simp only [List.cons.injEq,true_and] at h
    obtain⟨h3,_,h4⟩:=ex_end ga ga' (Or.inl rfl) (Or.inl rfl) h
    simp only [List.cons.injEq,true_and] at h4
    obtain⟨h5,h6⟩:=bl b (by rw [e];simp) b' (d+1) _ _ gb gb' kb kb' (by omega) h4
    simp only [List.cons.injEq,true_and] at h6
    have hc:smN c c'=true∧r=s:=by
     rcases kc with kc|kc <;> rcases kc' with kc'|kc'
     ·rw [if_neg (by omega),if_neg (by omega)] at h6
      exact bl c (by rw [e];simp) c' (d+1) _ _ gc gc' kc kc' (by omega) h6
     ·rw [if_neg (by omega),if_pos kc',st4 kc] at h6
      obtain⟨R,e2,_⟩:=kw_split gc' (Or.inr (Or.inl kc')) d
      rw [e2,kc'] at h6
      exfalso
      simp [kwd] at h6
     ·rw [if_pos kc,if_neg (by omega),st4 kc'] at h6
      obtain⟨R,e2,_⟩:=kw_split gc (Or.inr (Or.inl kc)) d
      rw [e2,kc] at h6
      exfalso
      simp [kwd] at h6
     ·rw [if_pos kc,if_pos kc'] at h6
      exact ihS c c' d r s (by have:=sz_kid (y:=y) (a:=c) (by rw [e];simp);omega) gc gc' (by rw [kc];rfl) (by rw [kc'];rfl) hd hr hs h6
    exact⟨smN_of gy gz hk (by omega) (by omega) ht (by rw [e,e',smL_cons,smL_cons,smL_cons,h3,h5,hc.1,smL_nil];rfl),hc.2⟩
  ·have kz:z.k=8:=by omega
   have ht:y.t.data.toList=z.t.data.toList:=by rw [bare_of gy (by omega),bare_of gz (by omega)]
   obtain⟨a,b,ga,gb,kb,e⟩:=while_of gy ky
   obtain⟨a',b',ga',gb',kb',e'⟩:=while_of gz kz
   rw [st8 ky e,st8 kz e'] at h
   simp only [List.append_assoc,List.cons_append,List.nil_append] at h
   have h:=List.append_cancel_left h
   simp only [List.cons.injEq,true_and] at h
   obtain⟨h3,_,h4⟩:=ex_end ga ga' (Or.inl rfl) (Or.inl rfl) h
   simp only [List.cons.injEq,true_and] at h4
   obtain⟨h5,h6⟩:=bl b (by rw [e];simp) b' (d+1) _ _ gb gb' kb kb' (by omega) h4
   exact⟨smN_of gy gz hk (by omega) (by omega) ht (by rw [e,e',smL_cons,smL_cons,h3,h5,smL_nil];rfl),h6⟩
  ·have kz:z.k=9:=by omega
   have ht:y.t.data.toList=z.t.data.toList:=by rw [bare_of gy (by omega),bare_of gz (by omega)]
   rcases ret_of gy ky with e|⟨a,e,ga⟩ <;> rcases ret_of gz kz with e'|⟨a',e',ga'⟩
   ·rw [st9a ky e,st9a kz e'] at h
    simp only [List.append_assoc,List.cons_append,List.nil_append] at h
    have h:=List.append_cancel_left h
    exact⟨smN_of gy gz hk (by omega) (by omega) ht (by rw [e,e',smL_nil]),by simpa using h⟩
   ·rw [st9a ky e,st9b kz e'] at h
    simp only [List.append_assoc,List.cons_append,List.nil_append] at h
    have h:=List.append_cancel_left h
    simp at h
   ·rw [st9b ky e,st9a kz e'] at h
    simp only [List.append_assoc,List.cons_append,List.nil_append] at h
    have h:=List.append_cancel_left h
    simp at h
   ·rw [st9b ky e,st9b kz e'] at h
    simp only [List.append_assoc,List.cons_append,List.nil_append] at h
    have h:=List.append_cancel_left h
    simp only [List.cons.injEq,true_and] at h
    obtain⟨h3,_,h4⟩:=ex_end ga ga' (Or.inr rfl) (Or.inr rfl) h
    exact⟨smN_of gy gz hk (by omega) (by omega) ht (by rw [e,e',smL_cons,h3,smL_nil];rfl),h4⟩
  ·have kz:z.k=10:=by omega
   rw [st10 ky,st10 kz] at h
   simp only [List.append_assoc,List.cons_append,List.nil_append] at h
   have h:=List.append_cancel_left h
   exact⟨smN_of gy gz hk (by omega) (by omega) (by rw [bare_of gy (by omega),bare_of gz (by omega)]) (by rw [lone_of gy (by omega),lone_of gz (by omega),smL_nil]),by simpa using h⟩
  ·have kz:z.k=11:=by omega
   rw [st11 ky,st11 kz] at h
   simp only [List.append_assoc,List.cons_append,List.nil_append] at h
   have h:=List.append_cancel_left h
   exact⟨smN_of gy gz hk (by omega) (by omega) (by rw [bare_of gy (by omega),bare_of gz (by omega)]) (by rw [lone_of gy (by omega),lone_of gz (by omega),smL_nil]),by simpa using h⟩
 ·obtain⟨a',e',ga'⟩:=one_of gz (Or.inl kz)
  rw [st6 kz e',List.append_assoc] at h
  exact(kw_not_name gy ky (asg_of gz kz) h).elim
 ·obtain⟨a',e',ga'⟩:=one_of gz (Or.inr kz)
  rw [st12 kz e',List.append_assoc] at h
  exact(kw_not_ex gy ky ga' h).elim
 ·obtain⟨a,e,ga⟩:=one_of gy (Or.inl ky)
  rw [st6 ky e,List.append_assoc] at h
  exact(kw_not_name gz kz (asg_of gy ky) h.symm).elim
 ·obtain⟨a,e,ga⟩:=one_of gy (Or.inl ky)
  obtain⟨a',e',ga'⟩:=one_of gz (Or.inl kz)
  rw [st6 ky e,st6 kz e'] at h
  simp only [List.append_assoc,List.cons_append,List.nil_append] at h
  obtain⟨h1,h2⟩:=name_inj (asg_of gy ky) (asg_of gz kz) (w32 _) (w32 _) h
  simp only [List.cons.injEq,true_and] at h2
  obtain⟨h3,_,h4⟩:=ex_end ga ga' (Or.inr rfl) (Or.inr rfl) h2
  exact⟨smN_of gy gz (by omega) (by omega) (by omega) h1 (by rw [e,e',smL_cons,h3,smL_nil];rfl),h4⟩
 ·obtain⟨a,e,ga⟩:=one_of gy (Or.inl ky)
  obtain⟨a',e',ga'⟩:=one_of gz (Or.inr kz)
  rw [st6 ky e,st12 kz e'] at h
  simp only [List.append_assoc,List.cons_append,List.nil_append] at h
  exact(asg_not_ex (b:=a) gy ky ga' (r:=r) h).elim
 ·obtain⟨a,e,ga⟩:=one_of gy (Or.inr ky)
  rw [st12 ky e,List.append_assoc] at h
  exact(kw_not_ex gz kz ga h.symm).elim
 ·obtain⟨a,e,ga⟩:=one_of gy (Or.inr ky)
  obtain⟨a',e',ga'⟩:=one_of gz (Or.inl kz)
  rw [st12 ky e,st6 kz e'] at h
  simp only [List.append_assoc,List.cons_append,List.nil_append] at h
  exact(asg_not_ex (b:=a) gz kz ga (r:=r) h.symm).elim
 ·obtain⟨a,e,ga⟩:=one_of gy (Or.inr ky)
  obtain⟨a',e',ga'⟩:=one_of gz (Or.inr kz)
  rw [st12 ky e,st12 kz e'] at h
  simp only [List.append_assoc,List.cons_append,List.nil_append] at h
  obtain⟨h3,_,h4⟩:=ex_end ga ga' (Or.inr rfl) (Or.inr rfl) h
  exact⟨smN_of gy gz (by omega) (by omega) (by omega) (by rw [bare_of gy (by omega),bare_of gz (by omega)]) (by rw [e,e',smL_cons,h3,smL_nil];rfl),h4⟩
theorem sti_all:∀N,BlI N∧StI N
 |0=>by
  refine⟨fun y z d r s hN=>?_,fun y z d r s hN=>?_⟩
  ·unfold sz at hN
   rw [cns_one] at hN
   omega
  ·unfold sz at hN
   rw [cns_one] at hN
   omega
 |N+1=>⟨bl_step (sti_all N).2,sti_step (sti_all N).1 (sti_all N).2⟩
theorem smL_app:∀(a b c d:List Tn),smL a b=true→smL c d=true→smL (a++c) (b++d)=true
 |[],[],c,d,_,h=>h
 |[],_ :: _,c,d,h,_=>by have:=smL_len _ _ h;simp at this
 |_ :: _,[],c,d,h,_=>by have:=smL_len _ _ h;simp at this
 |x :: a,y :: b,c,d,h,h2=>by
  rw [smL_cons,Bool.and_eq_true] at h
  rw [List.cons_append,List.cons_append,smL_cons,h.1,smL_app a b c d h.2 h2]
  rfl
theorem par_of {y:Tn} (g:fmB y=true) (k:y.k=3):nameL y.t.data.toList=true∧y.ks=[]:=by
 obtain⟨h1,d⟩:=fm_kids g
 obtain⟨a,b,c⟩:=rw_kd h1
 rw [k] at a c
 exact⟨by simpa [txB] using a,by simpa [kdB] using c⟩
theorem fn_of {y:Tn} (g:fmB y=true) (k:y.k=2):nameL y.t.data.toList=true∧∃ps b,y.ks=ps++[b]∧(∀p∈ps,fmB p=true∧p.k=3)∧fmB b=true∧b.k=4:=by
 obtain⟨h1,d⟩:=fm_kids g
 obtain⟨a,b,c⟩:=rw_kd h1
 rw [k] at a c
 refine⟨by simpa [txB] using a,?_⟩
 rcases List.eq_nil_or_concat y.ks with e|⟨ps,b,e⟩
 ·rw [e] at c;simp [kdB] at c
 ·rw [List.concat_eq_append] at e
  rw [e] at c d
  have c:(∀x∈ps,x.k=3)∧b.k=4:=by
   simpa [kdB,List.take_append] using c
  exact⟨ps,b,e,fun p hp=>⟨d p (by simp [hp]),c.1 p hp⟩,d b (by simp),c.2⟩
theorem fn_text {y b:Tn} {ps:List Tn} (e:y.ks=ps++[b]):fnT y=(if y.f=true then [101,120,112,111,114,116,32,102,110,32] else [102,110,32])++(y.t.data.toList++40 :: (jl [44,32] true (ps.map nmT)++41 :: 32 :: (stT 1 b++[10]))):=by
 unfold fnT
 rw [e]
 simp [List.take_append]
theorem fn_inj {y z:Tn} (gy:fmB y=true) (gz:fmB z=true) (ky:y.k=2) (kz:z.k=2) {r s:List UInt8} (h:fnT y++r=fnT z++s):smN y z=true∧r=s:=by
 obtain⟨hn,ps,b,e,hp,gb,kb⟩:=fn_of gy ky
 obtain⟨hn',ps',b',e',hp',gb',kb'⟩:=fn_of gz kz
 rw [fn_text e,fn_text e'] at h
 simp only [List.append_assoc,List.cons_append,List.nil_append] at h
 have hf:y.f=z.f∧y.t.data.toList++40 :: (jl [44,32] true (ps.map nmT)++41 :: 32 :: (stT 1 b++10 :: r))=z.t.data.toList++40 :: (jl [44,32] true (ps'.map nmT)++41 :: 32 :: (stT 1 b'++10 :: s)):=by
  cases hy:y.f <;> cases hz:z.f <;> simp only [hy,hz,if_true,Bool.false_eq_true,if_false] at h
  ·exact⟨rfl,List.append_cancel_left h⟩
  ·simp at h
  ·simp at h
  ·exact⟨rfl,List.append_cancel_left h⟩
 obtain⟨h1,h2⟩:=name_inj hn hn' (w40 _) (w40 _) hf.2
 simp only [List.cons.injEq,true_and] at h2
 have hd:∀a,fmB a=true∧a.k=3→∃c q,nmT a=c :: q∧c≠41:=by
  intro a ga
  obtain⟨c,q,e2,hc⟩:=name_head (par_of ga.1 ga.2).1
  refine⟨c,q,e2,fun hcc=>?_⟩
  rw [hcc] at hc
  exact absurd hc (by decide)
 obtain⟨h3,h4⟩:=jl_inj nmT 41 (by decide) ps ps' (fun a ha b hb R S hR hS he=>by
  have ga:=hp a ha
  have gb:=hp' b hb
  obtain⟨na,ea⟩:=par_of ga.1 ga.2
  obtain⟨nb,eb⟩:=par_of gb.1 gb.2
  have hw:∀X:List UInt8,(∃c q,X=c :: q∧(c=44∨c=41))→∀x,X.head?=some x→lxW x=false:=by
   rintro X ⟨c,q,rfl,hc⟩ x hx
   simp at hx
   subst hx
   rcases hc with rfl|rfl <;> decide
  obtain⟨i1,i2⟩:=name_inj na nb (hw R hR) (hw S hS) he
  exact⟨smN_of ga.1 gb.1 (by omega) (by omega) (by omega) i1 (by rw [ea,eb,smL_nil]),i2⟩) (fun a ha=>hd a (hp a ha)) (fun a ha=>hd a (hp' a ha)) true _ _ h2
 simp only [List.cons.injEq,true_and] at h4
 obtain⟨h5,h6⟩:=(sti_all (sz b)).1 b b' 1 _ _ (Nat.le_refl _) gb gb' kb kb' (Nat.le_refl _) h4
 refine⟨?_,by simpa using h6⟩
 unfold smN
 simp only [Bool.and_eq_true,decide_eq_true_eq,beq_iff_eq]
 refine⟨⟨⟨⟨by omega,?_⟩,hf.1⟩,?_⟩,?_⟩
 ·rw [ByteArray.toList_eq,ByteArray.toList_eq,h1]
 ·rw [sameB_iff,plain_v gy gz (by omega) (by omega)]
 ·rw [e,e']
  exact smL_app ps ps' [b] [b'] h3 (by rw [smL_cons,h5,smL_nil];rfl)
theorem fn_some (y:Tn):fnT y≠[]:=by
 unfold fnT
 cases y.f <;> simp
theorem fns_inj:∀(ys zs:List Tn),(∀a∈ys,fmB a=true∧a.k=2)→(∀a∈zs,fmB a=true∧a.k=2)→∀f:Bool,jl [10] f (ys.map fnT)=jl [10] f (zs.map fnT)→smL ys zs=true
 |[],[],_,_,_,_=>smL_nil
 |[],b :: zs,_,_,f,h=>by
  exfalso
  cases f <;> simp [jl,fn_some] at h
 |a :: ys,[],_,_,f,h=>by
  exfalso
  cases f <;> simp [jl,fn_some] at h
 |a :: ys,b :: zs,hy,hz,f,h=>by
  have h:fnT a++jl [10] false (ys.map fnT)=fnT b++jl [10] false (zs.map fnT):=by
   cases f <;> simpa [jl] using h
  have ga:=hy a (by simp)
  have gb:=hz b (by simp)
  obtain⟨h1,h2⟩:=fn_inj ga.1 gb.1 ga.2 gb.2 h
  rw [smL_cons,h1,fns_inj ys zs (fun x hx=>hy x (by simp [hx])) (fun x hx=>hz x (by simp [hx])) false h2]
  rfl
theorem pg_inj {y z:Tn} (gy:fmB y=true) (gz:fmB z=true) (ky:y.k=1) (kz:z.k=1) (h:pgT y=pgT z):smN y z=true:=by
 have fns:∀x:Tn,fmB x=true→x.k=1→(∀a∈x.ks,fmB a=true∧a.k=2)∧x.t.data.toList=[]:=by
  intro x g k
  obtain⟨h1,d⟩:=fm_kids g
  obtain⟨a,b,c⟩:=rw_kd h1
  rw [k] at a c
  have c:(x.ks.map (·.k)).all (fun x=>decide (x=2))=true:=by simpa [kdB] using c
  rw [all_k,List.all_eq_true] at c
  refine⟨fun z hz=>⟨d z hz,by simpa using c z hz⟩,?_⟩
  rw [←ByteArray.toList_eq]
  simpa [txB] using a
 have a:=fns y gy ky
 have b:=fns z gz kz
 exact smN_of gy gz (by omega) (by omega) (by omega) (by rw [a.2,b.2]) (fns_inj y.ks z.ks a.1 b.1 true h)
theorem smN_parts {y z:Tn} (h:smN y z=true):y.k=z.k∧y.t=z.t∧y.f=z.f∧y.v=z.v∧smL y.ks z.ks=true:=by
 unfold smN at h
 simp only [Bool.and_eq_true,decide_eq_true_eq,beq_iff_eq] at h
 refine⟨h.1.1.1.1,?_,h.1.1.2,(sameB_iff _ _).1 h.1.2,h.2⟩
 have:=h.1.1.1.2
 rw [ByteArray.toList_eq,ByteArray.toList_eq] at this
 exact Go.WideShapes.bytes_inj this
theorem smL_map {α:Type} (T:Tn→α):∀ys zs:List Tn,smL ys zs=true→(∀a∈ys,∀b,smN a b=true→T a=T b)→ys.map T=zs.map T
 |[],[],_,_=>rfl
 |[],_ :: _,h,_=>by have:=smL_len _ _ h;simp at this
 |_ :: _,[],h,_=>by have:=smL_len _ _ h;simp at this
 |a :: ys,b :: zs,h,hT=>by
  rw [smL_cons,Bool.and_eq_true] at h
  rw [List.map_cons,List.map_cons,hT a (by simp) b h.1,smL_map T ys zs h.2 (fun x hx=>hT x (by simp [hx]))]
theorem smL_look {ys zs:List Tn} (h:smL ys zs=true) (i:Nat):(ys[i]?).map (fun a=>(a.k,a.t))=(zs[i]?).map (fun a=>(a.k,a.t)):=by
 have:=smL_map (fun a=>(a.k,a.t)) ys zs h (fun a _ b hb=>by rw [(smN_parts hb).1,(smN_parts hb).2.1])
 rw [←List.getElem?_map,←List.getElem?_map,this]
theorem opX_same {ys zs:List Tn} (h:smL ys zs=true) (k:Int) (t:ByteArray) (es:List (List UInt8)) (i:Nat):opX k t ys es i=opX k t zs es i:=by
 have:=smL_look h i
 unfold opX
 cases hy:ys[i]? <;> cases hz:zs[i]? <;> rw [hy,hz] at this <;> simp at this ⊢
 simp only [this.1,this.2]
theorem ex_same:∀(N:Nat) (y z:Tn),sz y≤N→smN y z=true→exT y=exT z
 |0,y,z,hN,_=>by
  unfold sz at hN
  rw [cns_one] at hN
  omega
 |N+1,y,z,hN,h=>by
  obtain⟨h1,h2,h3,h4,h5⟩:=smN_parts h
  have e:y.ks.map exT=z.ks.map exT:=smL_map exT _ _ h5 (fun a ha b hb=>ex_same N a b (by have:=sz_kid ha;omega) hb)
  show ex1 y.k y.t y.v y.ks (exM y.ks)=ex1 z.k z.t z.v z.ks (exM z.ks)
  rw [exM_map,exM_map,e,h1,h2,h4]
  unfold ex1
  simp only [opX_same h5]
theorem st_same:∀(N:Nat) (y z:Tn) (d:Nat),sz y≤N→smN y z=true→stT d y=stT d z
 |0,y,z,d,hN,_=>by
  unfold sz at hN
  rw [cns_one] at hN
  omega
 |N+1,y,z,d,hN,h=>by
  obtain⟨h1,h2,h3,h4,h5⟩:=smN_parts h
  have e:y.ks.map exT=z.ks.map exT:=smL_map exT _ _ h5 (fun a ha b hb=>ex_same _ a b (Nat.le_refl _) hb)
  have e0:∀d,y.ks.map (stT d)=z.ks.map (stT d):=fun d=>smL_map (stT d) _ _ h5 (fun a ha b hb=>st_same N a b d (by have:=sz_kid ha;omega) hb)
  have el:=smL_len _ _ h5
  have e2:=smL_look h5 2
  rw [st_eq,st_eq,e,e0,e0,h1,h2]
  unfold st1
  rw [el]
  cases hy:y.ks[2]? <;> cases hz:z.ks[2]? <;> rw [hy,hz] at e2 <;> simp at e2 ⊢
  simp only [e2.1]
theorem fn_same {y z:Tn} (h:smN y z=true):fnT y=fnT z:=by
 obtain⟨h1,h2,h3,h4,h5⟩:=smN_parts h
 have el:=smL_len _ _ h5
 have e1:y.ks.map nmT=z.ks.map nmT:=smL_map nmT _ _ h5 (fun a _ b hb=>by unfold nmT;rw [(smN_parts hb).2.1])
 have e2:y.ks.map (stT 1)=z.ks.map (stT 1):=smL_map (stT 1) _ _ h5 (fun a _ b hb=>st_same _ a b 1 (Nat.le_refl _) hb)
 unfold fnT
 rw [List.map_take,←List.getElem?_map,e1,e2,el,h2,h3,←List.map_take,List.getElem?_map]
theorem pg_same {y z:Tn} (h:smN y z=true):pgT y=pgT z:=by
 unfold pgT
 rw [smL_map fnT _ _ (smN_parts h).2.2.2.2 (fun a _ b hb=>fn_same hb)]
theorem pg_iff {y z:Tn} (gy:fmB y=true) (gz:fmB z=true) (ky:y.k=1) (kz:z.k=1):pgT y=pgT z↔smN y z=true:=⟨pg_inj gy gz ky kz,pg_same⟩
end Go.Proofs.YtekbmfppfjlboaaGreatDoor
