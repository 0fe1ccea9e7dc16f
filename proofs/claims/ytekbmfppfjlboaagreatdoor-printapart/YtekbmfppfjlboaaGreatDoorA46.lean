/-
  Layer 18 (print), for PrintApart: an expression is told by its text, whatever stands behind; no conditions.
  Layer 18 (print), for PrintApart: every expression is told by its text; no conditions.
-/
import Derived.Test.YtekbmfppfjlboaaGreatDoorA44
import Derived.Test.YtekbmfppfjlboaaGreatDoorA45
set_option linter.unusedVariables false
set_option linter.unusedSimpArgs false
namespace Go.Proofs.YtekbmfppfjlboaaGreatDoor
open Go.RowKit
set_option linter.unusedVariables false
set_option linter.unusedSimpArgs false
def F7 (c:UInt8):Prop:=lxW c=true∨c=34∨c=40∨c=91∨c=123
theorem ex_of14 {y:Tn} (k:y.k=14):exT y=y.t.data.toList:=by unfold exT ex1;rw [k];simp
theorem ex_of15 {y:Tn} (k:y.k=15):exT y=y.t.data.toList++40 :: (jl [44,32] true (y.ks.map exT)++[41]):=by show ex1 y.k y.t y.v y.ks (exM y.ks)=_;rw [exM_map,k];simp [ex1]
theorem ex_of18 {y:Tn} (k:y.k=18):exT y=91 :: (jl [44,32] true (y.ks.map exT)++[93]):=by show ex1 y.k y.t y.v y.ks (exM y.ks)=_;rw [exM_map,k];simp [ex1]
theorem ex_of19 {y:Tn} (k:y.k=19):exT y=123 :: (jl [44,32] true (y.ks.map exT)++[125]):=by show ex1 y.k y.t y.v y.ks (exM y.ks)=_;rw [exM_map,k];simp [ex1]
theorem ex_of20 {y a:Tn} (k:y.k=20) (e:y.ks=[a]):exT y=(if nameL y.t.data.toList=true then y.t.data.toList else quoB y.t.data.toList)++58 :: 32 :: exT a:=by
 show ex1 y.k y.t y.v y.ks (exM y.ks)=_
 rw [exM_map,k,e]
 simp [ex1]
theorem ex_of16 {y a:Tn} (g:gE a) (k:y.k=16) (e:y.ks=[a]):exT y=y.t.data.toList++txl 6 a:=by
 unfold exT ex1
 rw [k]
 simp only [show ¬((16:Int)=13) by decide,show ¬((16:Int)=15) by decide,show ¬((16:Int)=18) by decide,show ¬((16:Int)=19) by decide,if_false,if_true]
 rw [opX_eq (a:=a) 6 (by rw [e];rfl) ?_]
 unfold brk
 rw [if_pos rfl]
 by_cases h:a.k=17
 ·rw [lev17 h]
  have:=bn_leN a.t.data.toList
  simp [h];omega
 ·have:¬lev a<6:=by
   unfold lev
   rw [if_neg h]
   split
   ·omega
   ·split <;> omega
  simp [h,this]
theorem lit_of {y:Tn} (g:gE y) (k:y.k=13):rightB y.v=true∧(y.v.kind=0∨y.v.kind=1∨y.v.kind=3∨(y.v.kind=2∧0≤y.v.n)):=by
 have h:=g.rw.2.1
 unfold vlB at h
 rw [if_pos k] at h
 split at h
 ·rename_i e
  refine⟨h,?_⟩
  rcases e with e|e|e
  ·exact Or.inl e
  ·exact Or.inr (Or.inl e)
  ·exact Or.inr (Or.inr (Or.inl e))
 ·split at h
  ·rename_i e
   simp only [Bool.and_eq_true,decide_eq_true_eq] at h
   exact⟨h.2,Or.inr (Or.inr (Or.inr ⟨e,h.1⟩))⟩
  ·cases h
theorem lit_text {y:Tn} (g:gE y) (k:y.k=13):exT y=txt y.v:=by
 unfold exT ex1 prt
 rw [if_pos k,if_pos (lit_of g k).1]
theorem dig_w {c:UInt8} (h:digB c=true):lxW c=true∧lxLet c=false:=by
 unfold digB at h
 simp only [decide_eq_true_eq] at h
 refine⟨?_,?_⟩
 ·unfold lxW lxDig
  rw [decide_eq_true h,Bool.or_true]
 ·unfold lxLet
  exact decide_eq_false (by omega)
theorem w_dig {c:UInt8} (h:lxW c=false):digB c=false:=by
 cases hd:digB c with
 |false=>rfl
 |true=>rw [(dig_w hd).1] at h;cases h
theorem lit_forms {y:Tn} (g:gE y) (k:y.k=13):(keyB (exT y)=true∧(∀x∈exT y,lxW x=true)∧exT y≠[])∨(∃c q,exT y=c :: q∧digB c=true)∨(∃q,exT y=34 :: q):=by
 obtain⟨_,h⟩:=lit_of g k
 rw [lit_text g k]
 generalize y.v=v at *
 obtain⟨a,n,s,l,ks⟩:=v
 simp only at h
 simp only [txt]
 rcases h with rfl|rfl|rfl|⟨rfl,hn⟩
 ·left
  unfold oneT
  rw [if_pos rfl]
  decide
 ·left
  unfold oneT
  rw [if_neg (by decide),if_pos rfl]
  split <;> decide
 ·right;right
  unfold oneT
  rw [if_neg (by decide),if_neg (by decide),if_neg (by decide),if_pos rfl,quoteU_eq]
  exact⟨_,rfl⟩
 ·right;left
  unfold oneT
  rw [if_neg (by decide),if_neg (by decide),if_pos rfl]
  unfold Lib.itoa
  rw [if_neg (by omega)]
  obtain⟨c,r,e,hc⟩:=dec_head n.toNat
  exact⟨c,r,e,hc⟩
theorem name_head {t:List UInt8} (h:nameL t=true):∃c q,t=c :: q∧lxLet c=true:=by
 unfold nameL at h
 cases t with
 |nil=>simp at h
 |cons c q=>
  simp only [Bool.and_eq_true] at h
  exact⟨c,q,rfl,h.1.1.2⟩
theorem let_w {c:UInt8} (h:lxLet c=true):lxW c=true:=by unfold lxW;rw [h];rfl
theorem name_key {t:List UInt8} (h:nameL t=true):keyB t=false:=by
 unfold nameL at h
 simp only [Bool.and_eq_true,Bool.not_eq_true'] at h
 exact h.2
theorem name_lit {t q r:List UInt8} {y:Tn} (ht:nameL t=true) (g:gE y) (k:y.k=13) (hq:∀x,q.head?=some x→lxW x=false) (hr:∀x,r.head?=some x→lxW x=false) (h:t++q=exT y++r):False:=by
 obtain⟨c,q2,e,hc⟩:=name_head ht
 rcases lit_forms g k with ⟨h1,h2,h3⟩|⟨d,q3,e3,hd⟩|⟨q3,e3⟩
 ·have:=span_inj lxW t (exT y) q r (name_w ht) h2 hq hr h
  have hk:=name_key ht
  rw [this.1,h1] at hk
  cases hk
 ·rw [e3,e] at h
  simp only [List.cons_append,List.cons.injEq] at h
  rw [h.1,(dig_w hd).2] at hc
  cases hc
 ·rw [e3,e] at h
  simp only [List.cons_append,List.cons.injEq] at h
  rw [h.1] at hc
  revert hc
  decide
theorem base_kind {y:Tn} (g:gE y) (h:lev y=8):y.k=13∨(y.k=14∨y.k=15)∨y.k=18∨y.k=19:=by
 have:=lev8 h
 have:=g.kinds
 omega
theorem base_head {y:Tn} (g:gE y) (h:lev y=8):∃c q,exT y=c :: q∧(lxW c=true∨c=34∨c=91∨c=123):=by
 rcases base_kind g h with k|k|k|k
 ·rcases lit_forms g k with ⟨h1,h2,h3⟩|⟨d,q3,e3,hd⟩|⟨q3,e3⟩
  ·cases he:exT y with
   |nil=>exact absurd he h3
   |cons c q=>
    rw [he] at h2
    exact⟨c,q,rfl,Or.inl (h2 c (by simp))⟩
  ·exact⟨d,q3,e3,Or.inl (dig_w hd).1⟩
  ·exact⟨34,q3,e3,Or.inr (Or.inl rfl)⟩
 ·obtain⟨c,q2,e,hc⟩:=name_head (name_of g k)
  rcases k with k|k
  ·rw [ex_of14 k,e]
   exact⟨c,q2,rfl,Or.inl (let_w hc)⟩
  ·rw [ex_of15 k,e]
   exact⟨c,_,rfl,Or.inl (let_w hc)⟩
 ·rw [ex_of18 k]
  exact⟨91,_,rfl,by simp⟩
 ·rw [ex_of19 k]
  exact⟨123,_,rfl,by simp⟩
theorem head7:∀(N:Nat) (y:Tn) (n:Nat),sz y≤N→gE y→(7≤n∨7≤lev y)→∃c q,txl n y=c :: q∧F7 c
 |0,y,n,hN,g,_=>by
  unfold sz at hN
  rw [cns_one] at hN
  omega
 |N+1,y,n,hN,g,hn=>by
  by_cases hl:lev y<n
  ·unfold txl
   rw [if_pos hl]
   exact⟨40,_,rfl,by unfold F7;simp⟩
  ·have et:txl n y=exT y:=by unfold txl;rw [if_neg hl]
   rw [et]
   have hr:=lev_range g
   by_cases h8:lev y=8
   ·obtain⟨c,q,e,hc⟩:=base_head g h8
    refine⟨c,q,e,?_⟩
    unfold F7
    rcases hc with h|h|h|h <;> simp [h]
   ·have h7:lev y=7:=by omega
    obtain⟨a,ha,ga,e⟩:=ex_left g (lev_kind h8 (by omega))
    rw [e,if_neg (by omega),h7]
    have hsa:=sz_kid (y:=y) (a:=a) (List.mem_of_getElem? ha)
    obtain⟨c,q,e2,hc⟩:=head7 N a 7 (by omega) ga (Or.inl (by omega))
    rw [e2]
    exact⟨c,_,rfl,hc⟩
theorem lev6_kind {y:Tn} (h:lev y=6):y.k=16:=by
 have:=bn_leN y.t.data.toList
 unfold lev at h
 split at h
 ·omega
 ·split at h
  ·rename_i k;exact k
  ·split at h <;> omega
theorem headX:∀(N:Nat) (y:Tn) (n:Nat),sz y≤N→gE y→∃c q,txl n y=c :: q∧(F7 c∨c=45∨c=33)
 |0,y,n,hN,g=>by
  unfold sz at hN
  rw [cns_one] at hN
  omega
 |N+1,y,n,hN,g=>by
  by_cases h7:7≤n∨7≤lev y
  ·obtain⟨c,q,e,hc⟩:=head7 _ y n (Nat.le_refl _) g h7
   exact⟨c,q,e,Or.inl hc⟩
  ·by_cases hl:lev y<n
   ·unfold txl
    rw [if_pos hl]
    exact⟨40,_,rfl,by unfold F7;simp⟩
   ·have et:txl n y=exT y:=by unfold txl;rw [if_neg hl]
    rw [et]
    by_cases h6:lev y=6
    ·obtain⟨a,e,ga,ht⟩:=un_of g (lev6_kind h6)
     rw [ex_of16 ga (lev6_kind h6) e]
     rcases ht with ht|ht <;> rw [ht]
     ·exact⟨45,_,rfl,by simp⟩
     ·exact⟨33,_,rfl,by simp⟩
    ·obtain⟨a,ha,ga,e⟩:=ex_left g (lev_kind (by omega) h6)
     rw [e]
     have hsa:=sz_kid (y:=y) (a:=a) (List.mem_of_getElem? ha)
     obtain⟨c,q,e2,hc⟩:=headX N a (if lev y=3 then 4 else lev y) (by omega) ga
     rw [e2]
     exact⟨c,_,rfl,hc⟩
theorem cl_six {y:Tn} (g:gE y) (hsm:∀b,sz b<sz y→gE b→∀m,1≤m→m≤8→Cl m b) (hh:lev y≠6→Cl 7 y):Cl 6 y:=by
 intro z r s gz hr hs h
 have own:∀x:Tn,lev x=6→txl 6 x=exT x:=fun x hx=>by unfold txl;rw [if_neg (by omega)]
 have oth:∀x:Tn,lev x≠6→txl 6 x=txl 7 x:=fun x hx=>by
  unfold txl
  by_cases h:lev x<6
  ·rw [if_pos h,if_pos (by omega)]
  ·rw [if_neg h,if_neg (by omega)]
 by_cases hy:lev y=6
 ·have ky:=lev6_kind hy
  obtain⟨a,e,ga,ht⟩:=un_of g ky
  rw [own y hy,ex_of16 ga ky e] at h
  by_cases hz:lev z=6
  ·have kz:=lev6_kind hz
   obtain⟨a',e',ga',ht'⟩:=un_of gz kz
   rw [own z hz,ex_of16 ga' kz e'] at h
   have ha:y.t.data.toList=z.t.data.toList∧txl 6 a++r=txl 6 a'++s:=by
    rcases ht with ht|ht <;> rcases ht' with ht'|ht' <;> rw [ht,ht'] at h <;> simp at h
    ·exact⟨by rw [ht,ht'],h⟩
    ·exact⟨by rw [ht,ht'],h⟩
   obtain⟨h1,h2⟩:=hsm a (sz_kid (by rw [e];simp)) ga 6 (by omega) (by omega) a' r s ga' hr hs ha.2
   refine⟨smN_of g.1 gz.1 (by omega) (by omega) (by omega) ha.1 ?_,h2⟩
   rw [e,e']
   simp [smL_cons,smL_nil,h1]
  ·rw [oth z hz] at h
   obtain⟨c,q,e2,hc⟩:=head7 _ z 7 (Nat.le_refl _) gz (Or.inl (by omega))
   rw [e2] at h
   exfalso
   rcases ht with ht|ht <;> rw [ht] at h <;> simp at h <;> rw [←h.1] at hc <;> revert hc <;> unfold F7 <;> decide
 ·rw [oth y hy] at h
  by_cases hz:lev z=6
  ·have kz:=lev6_kind hz
   obtain⟨a',e',ga',ht'⟩:=un_of gz kz
   rw [own z hz,ex_of16 ga' kz e'] at h
   obtain⟨c,q,e2,hc⟩:=head7 _ y 7 (Nat.le_refl _) g (Or.inl (by omega))
   rw [e2] at h
   exfalso
   rcases ht' with ht|ht <;> rw [ht] at h <;> simp at h <;> rw [h.1] at hc <;> revert hc <;> unfold F7 <;> decide
  ·rw [oth z hz] at h
   exact hh hy z r s gz (hr.up (by omega)) (hs.up (by omega)) h
theorem cl_brk {y:Tn} (g:gE y) (l8:lev y<8) (h1:Cl 1 y):Cl 8 y:=by
 intro z r s gz hr hs h
 unfold txl at h
 rw [if_pos l8] at h
 by_cases lz:lev z<8
 ·rw [if_pos lz] at h
  simp only [List.cons_append,List.append_assoc,List.nil_append,List.cons.injEq,true_and] at h
  rw [←one_lev g,←one_lev gz] at h
  have:=h1 z _ _ gz (fol_end 1 41 r (by simp)) (fol_end 1 41 s (by simp)) h
  exact⟨this.1,by simpa using this.2⟩
 ·rw [if_neg lz] at h
  obtain⟨c,q,e,hc⟩:=base_head gz (by have:=lev_range gz;omega)
  rw [e] at h
  simp at h
  rw [←h.1] at hc
  exact absurd hc (by decide)
theorem jl_inj (T:Tn→List UInt8) (C:UInt8) (hC:C≠44):∀(ys zs:List Tn),(∀a∈ys,∀b∈zs,∀R S:List UInt8,(∃c q,R=c :: q∧(c=44∨c=C))→(∃c q,S=c :: q∧(c=44∨c=C))→T a++R=T b++S→smN a b=true∧R=S)→(∀a∈ys,∃c q,T a=c :: q∧c≠C)→(∀a∈zs,∃c q,T a=c :: q∧c≠C)→∀(f:Bool) (r s:List UInt8),jl [44,32] f (ys.map T)++C :: r=jl [44,32] f (zs.map T)++C :: s→smL ys zs=true∧r=s
 |[],[],_,_,_,f,r,s,h=>⟨smL_nil,by simpa [jl] using h⟩
 |[],b :: zs,_,_,hb,f,r,s,h=>by
  exfalso
  obtain⟨c,q,e,hc⟩:=hb b (by simp)
  cases f
  ·simp [jl] at h
   exact hC h.1
  ·simp [jl,e] at h
   exact hc h.1.symm
 |a :: ys,[],_,ha,_,f,r,s,h=>by
  exfalso
  obtain⟨c,q,e,hc⟩:=ha a (by simp)
  cases f
  ·simp [jl] at h
   exact hC h.1.symm
  ·simp [jl,e] at h
   exact hc h.1
 |a :: ys,b :: zs,hc,ha,hb,f,r,s,h=>by
  have hh:T a++(jl [44,32] false (ys.map T)++C :: r)=T b++(jl [44,32] false (zs.map T)++C :: s):=by
   cases f
   ·simpa [jl] using h
   ·simpa [jl] using h
  have nx:∀(l:List Tn) (t:List UInt8),∃c q,jl [44,32] false (l.map T)++C :: t=c :: q∧(c=44∨c=C):=by
   intro l t
   cases l with
   |nil=>exact⟨C,t,rfl,Or.inr rfl⟩
   |cons x l=>exact⟨44,_,rfl,Or.inl rfl⟩
  obtain⟨h1,h2⟩:=hc a (by simp) b (by simp) _ _ (nx ys r) (nx zs s) hh
  obtain⟨h3,h4⟩:=jl_inj T C hC ys zs (fun x hx y hy=>hc x (by simp [hx]) y (by simp [hy])) (fun x hx=>ha x (by simp [hx])) (fun x hx=>hb x (by simp [hx])) false r s h2
  rw [smL_cons,h1,h3]
  exact⟨rfl,h4⟩
theorem stp_w {r:List UInt8} (h:∀x,r.head?=some x→lxW x=false):Stp r:=by
 intro c q e
 exact w_dig (h c (by rw [e];rfl))
theorem lit_lit {y z:Tn} (g:gE y) (gz:gE z) (k:y.k=13) (kz:z.k=13) {r s:List UInt8} (hr:∀x,r.head?=some x→lxW x=false) (hs:∀x,s.head?=some x→lxW x=false) (h:exT y++r=exT z++s):smN y z=true∧r=s:=by
 rw [lit_text g k,lit_text gz kz] at h
 have o1:=(lit_of g k).1
 have o2:=(lit_of gz kz).1
 unfold rightB at o1 o2
 simp only [Bool.and_eq_true] at o1 o2
 obtain⟨h1,h2⟩:=txt_inj 8 y.v z.v r s o1.1 o2.1 (stp_w hr) (stp_w hs) h
 refine⟨?_,h2⟩
 unfold smN
 simp only [Bool.and_eq_true,decide_eq_true_eq,beq_iff_eq]
 refine⟨⟨⟨⟨by omega,?_⟩,?_⟩,?_⟩,?_⟩
 ·rw [ByteArray.toList_eq,ByteArray.toList_eq,empty_of g (by omega),empty_of gz (by omega)]
 ·rw [flag_of g.1 (by omega),flag_of gz.1 (by omega)]
 ·rw [sameB_iff,h1]
 ·rw [none_of g (by omega),none_of gz (by omega),smL_nil]
theorem key_head (t:List UInt8):∃c q,(if nameL t=true then t else quoB t)=c :: q∧(lxLet c=true∨c=34):=by
 by_cases h:nameL t=true
 ·rw [if_pos h]
  obtain⟨c,q,e,hc⟩:=name_head h
  exact⟨c,q,e,Or.inl hc⟩
 ·rw [if_neg h]
  exact⟨34,_,rfl,Or.inr rfl⟩
theorem key_inj {t u q q':List UInt8} (hq:∀x,q.head?=some x→lxW x=false) (hq':∀x,q'.head?=some x→lxW x=false) (h:(if nameL t=true then t else quoB t)++q=(if nameL u=true then u else quoB u)++q'):t=u∧q=q':=by
 by_cases h1:nameL t=true <;> by_cases h2:nameL u=true
 ·rw [if_pos h1,if_pos h2] at h
  exact name_inj h1 h2 hq hq' h
 ·rw [if_pos h1,if_neg h2] at h
  obtain⟨c,p,e,hc⟩:=name_head h1
  rw [e] at h
  unfold quoB at h
  simp at h
  rw [h.1] at hc
  exact absurd hc (by decide)
 ·rw [if_neg h1,if_pos h2] at h
  obtain⟨c,p,e,hc⟩:=name_head h2
  rw [e] at h
  unfold quoB at h
  simp at h
  rw [←h.1] at hc
  exact absurd hc (by decide)
 ·rw [if_neg h1,if_neg h2] at h
  exact quoB_inj h
theorem fld_inj {y z:Tn} (fy:fmB y=true) (fz:fmB z=true) (ky:y.k=20) (kz:z.k=20) {R S:List UInt8} (hc:∀a∈y.ks,gE a→Cl 1 a) (hR:Fol 1 R) (hS:Fol 1 S) (h:exT y++R=exT z++S):smN y z=true∧R=S:=by
 obtain⟨a,e,ga⟩:=fld_of fy ky
 obtain⟨a',e',ga'⟩:=fld_of fz kz
 rw [ex_of20 ky e,ex_of20 kz e',List.append_assoc,List.append_assoc] at h
 obtain⟨h1,h2⟩:=key_inj (fun x hx=>by simp at hx;subst hx;decide) (fun x hx=>by simp at hx;subst hx;decide) h
 simp only [List.cons_append,List.cons.injEq,true_and] at h2
 rw [←one_lev ga,←one_lev ga'] at h2
 obtain⟨h3,h4⟩:=hc a (by rw [e];simp) ga a' R S ga' hR hS h2
 refine⟨smN_of fy fz (by omega) (by omega) (by omega) h1 ?_,h4⟩
 rw [e,e']
 simp [smL_cons,smL_nil,h3]
theorem row_inj {C:UInt8} (hC:C=41∨C=93∨C=125) {ys zs:List Tn} (hy:∀a∈ys,gE a∧Cl 1 a) (hz:∀a∈zs,gE a) {r s:List UInt8} (h:jl [44,32] true (ys.map exT)++C :: r=jl [44,32] true (zs.map exT)++C :: s):smL ys zs=true∧r=s:=by
 have hd:∀a,gE a→∃c q,exT a=c :: q∧c≠C:=by
  intro a g
  obtain⟨c,q,e,hc⟩:=headX _ a 1 (Nat.le_refl _) g
  rw [one_lev g] at e
  refine⟨c,q,e,fun hcc=>?_⟩
  rw [hcc] at hc
  rcases hC with rfl|rfl|rfl <;> exact absurd hc (by unfold F7;decide)
 have fl:∀R:List UInt8,(∃c q,R=c :: q∧(c=44∨c=C))→Fol 1 R:=by
  rintro R ⟨c,q,rfl,hc⟩
  refine fol_end 1 c q ?_
  rcases hc with rfl|rfl
  ·simp
  ·rcases hC with rfl|rfl|rfl <;> simp
 refine jl_inj exT C (by rcases hC with rfl|rfl|rfl <;> decide) ys zs ?_ (fun a ha=>hd a (hy a ha).1) (fun a ha=>hd a (hz a ha)) true r s h
 intro a ha b hb R S hR hS he
 rw [←one_lev (hy a ha).1,←one_lev (hz b hb)] at he
 exact(hy a ha).2 b R S (hz b hb) (fl R hR) (fl S hS) he
theorem rec_inj {ys zs:List Tn} (hy:∀a∈ys,(fmB a=true∧a.k=20)∧∀b∈a.ks,gE b→Cl 1 b) (hz:∀a∈zs,fmB a=true∧a.k=20) {r s:List UInt8} (h:jl [44,32] true (ys.map exT)++125 :: r=jl [44,32] true (zs.map exT)++125 :: s):smL ys zs=true∧r=s:=by
 have hd:∀a,fmB a=true∧a.k=20→∃c q,exT a=c :: q∧c≠125:=by
  intro a g
  obtain⟨x,e,gx⟩:=fld_of g.1 g.2
  rw [ex_of20 g.2 e]
  obtain⟨c,q,e2,hc⟩:=key_head a.t.data.toList
  rw [e2]
  refine⟨c,_,rfl,fun hcc=>?_⟩
  rw [hcc] at hc
  exact absurd hc (by decide)
 have fl:∀R:List UInt8,(∃c q,R=c :: q∧(c=44∨c=125))→Fol 1 R:=by
  rintro R ⟨c,q,rfl,hc⟩
  exact fol_end 1 c q (by rcases hc with rfl|rfl <;> simp)
 refine jl_inj exT 125 (by decide) ys zs ?_ (fun a ha=>hd a (hy a ha).1) (fun a ha=>hd a (hz a ha)) true r s h
 intro a ha b hb R S hR hS he
 exact fld_inj (hy a ha).1.1 (hz b hb).1 (hy a ha).1.2 (hz b hb).2 (hy a ha).2 (fl R hR) (fl S hS) he
theorem word_head {y:Tn} (g:gE y) (k:y.k=13∨(y.k=14∨y.k=15)):∃c q,exT y=c :: q∧(lxW c=true∨c=34):=by
 rcases k with k|k
 ·rcases lit_forms g k with ⟨h1,h2,h3⟩|⟨d,q3,e3,hd⟩|⟨q3,e3⟩
  ·cases he:exT y with
   |nil=>exact absurd he h3
   |cons c q=>
    rw [he] at h2
    exact⟨c,q,rfl,Or.inl (h2 c (by simp))⟩
  ·exact⟨d,q3,e3,Or.inl (dig_w hd).1⟩
  ·exact⟨34,q3,e3,Or.inr rfl⟩
 ·obtain⟨c,q2,e,hc⟩:=name_head (name_of g k)
  rcases k with k|k
  ·rw [ex_of14 k,e]
   exact⟨c,q2,rfl,Or.inl (let_w hc)⟩
  ·rw [ex_of15 k,e]
   exact⟨c,_,rfl,Or.inl (let_w hc)⟩
theorem w40 (q:List UInt8):∀x,((40 :: q:List UInt8)).head?=some x→lxW x=false:=fun x hx=>by simp at hx;subst hx;decide
theorem not_word {y:Tn} (g:gE y) (k:y.k=13∨(y.k=14∨y.k=15)) {c:UInt8} (hc:c=91∨c=123) {q r:List UInt8} (h:exT y++r=c :: q):False:=by
 obtain⟨d,p,e,hd⟩:=word_head g k
 rw [e] at h
 simp at h
 rw [h.1] at hd
 rcases hc with rfl|rfl <;> exact absurd hd (by decide)
theorem cl_base {y:Tn} (g:gE y) (l8:lev y=8) (hsm:∀b,sz b<sz y→gE b→∀m,1≤m→m≤8→Cl m b):Cl 8 y:=by
 intro z r s gz hr hs h
 have et:txl 8 y=exT y:=by unfold txl;rw [if_neg (by omega)]
 rw [et] at h
 by_cases lz:lev z=8
 ·have et':txl 8 z=exT z:=by unfold txl;rw [if_neg (by omega)]
  rw [et'] at h
  rcases base_kind g l8 with ky|ky|ky|ky
  ·rcases base_kind gz lz with kz|kz|kz|kz
   ·exact lit_lit g gz ky kz hr.word hs.word h
   ·exfalso
    have hn:=name_of gz kz
    rcases kz with kz|kz
    ·rw [ex_of14 kz] at h
     exact name_lit hn g ky hs.word hr.word h.symm
    ·rw [ex_of15 kz,List.append_assoc] at h
     exact name_lit hn g ky (w40 _) hr.word h.symm
   ·rw [ex_of18 kz] at h
    exact(not_word g (Or.inl ky) (Or.inl rfl) h).elim
   ·rw [ex_of19 kz] at h
    exact(not_word g (Or.inl ky) (Or.inr rfl) h).elim
  ·have hm:=name_of g ky
   rcases base_kind gz lz with kz|kz|kz|kz
   ·exfalso
    rcases ky with ky|ky
    ·rw [ex_of14 ky] at h
     exact name_lit hm gz kz hr.word hs.word h
    ·rw [ex_of15 ky,List.append_assoc] at h
     exact name_lit hm gz kz (w40 _) hs.word h
   ·have hn:=name_of gz kz
    rcases ky with ky|ky <;> rcases kz with kz|kz
    ·rw [ex_of14 ky,ex_of14 kz] at h
     obtain⟨h1,h2⟩:=name_inj hm hn hr.word hs.word h
     refine⟨smN_of g.1 gz.1 (by omega) (by omega) (by omega) h1 ?_,h2⟩
     rw [none_of g (by omega),none_of gz (by omega),smL_nil]
    ·rw [ex_of14 ky,ex_of15 kz,List.append_assoc] at h
     obtain⟨h1,h2⟩:=name_inj hm hn hr.word (w40 _) h
     have:=hr.head 40 (by rw [h2];rfl)
     exact absurd this (by decide)
    ·rw [ex_of15 ky,ex_of14 kz,List.append_assoc] at h
     obtain⟨h1,h2⟩:=name_inj hm hn (w40 _) hs.word h
     have:=hs.head 40 (by rw [←h2];rfl)
     exact absurd this (by decide)
    ·rw [ex_of15 ky,ex_of15 kz,List.append_assoc,List.append_assoc] at h
     obtain⟨h1,h2⟩:=name_inj hm hn (w40 _) (w40 _) h
     have h2:(jl [44,32] true (y.ks.map exT)++[41])++r=(jl [44,32] true (z.ks.map exT)++[41])++s:=(List.cons.inj h2).2
     rw [List.append_assoc,List.append_assoc] at h2
     obtain⟨h3,h4⟩:=row_inj (Or.inl rfl) (fun a ha=>⟨row_of g (Or.inl ky) a ha,hsm a (sz_kid ha) (row_of g (Or.inl ky) a ha) 1 (by omega) (by omega)⟩) (row_of gz (Or.inl kz)) h2
     exact⟨smN_of g.1 gz.1 (by omega) (by omega) (by omega) h1 h3,h4⟩
   ·rw [ex_of18 kz] at h
    exact(not_word g (Or.inr ky) (Or.inl rfl) h).elim
   ·rw [ex_of19 kz] at h
    exact(not_word g (Or.inr ky) (Or.inr rfl) h).elim
  ·rw [ex_of18 ky] at h
   rcases base_kind gz lz with kz|kz|kz|kz
   ·exact(not_word gz (Or.inl kz) (Or.inl rfl) h.symm).elim
   ·exact(not_word gz (Or.inr kz) (Or.inl rfl) h.symm).elim
   ·rw [ex_of18 kz] at h
    simp only [List.cons_append,List.append_assoc,List.nil_append,List.cons.injEq,true_and] at h
    obtain⟨h3,h4⟩:=row_inj (Or.inr (Or.inl rfl)) (fun a ha=>⟨row_of g (Or.inr ky) a ha,hsm a (sz_kid ha) (row_of g (Or.inr ky) a ha) 1 (by omega) (by omega)⟩) (row_of gz (Or.inr kz)) h
    exact⟨smN_of g.1 gz.1 (by omega) (by omega) (by omega) (by rw [empty_of g (by omega),empty_of gz (by omega)]) h3,h4⟩
   ·rw [ex_of19 kz] at h
    simp at h
  ·rw [ex_of19 ky] at h
   rcases base_kind gz lz with kz|kz|kz|kz
   ·exact(not_word gz (Or.inl kz) (Or.inr rfl) h.symm).elim
   ·exact(not_word gz (Or.inr kz) (Or.inr rfl) h.symm).elim
   ·rw [ex_of18 kz] at h
    simp at h
   ·rw [ex_of19 kz] at h
    simp only [List.cons_append,List.append_assoc,List.nil_append,List.cons.injEq,true_and] at h
    obtain⟨h3,h4⟩:=rec_inj (fun a ha=>⟨rec_of g ky a ha,fun b hb gb=>hsm b (by have:=sz_kid ha;have:=sz_kid hb;omega) gb 1 (by omega) (by omega)⟩) (rec_of gz kz) h
    exact⟨smN_of g.1 gz.1 (by omega) (by omega) (by omega) (by rw [empty_of g (by omega),empty_of gz (by omega)]) h3,h4⟩
 ·have l2:lev z<8:=by have:=lev_range gz;omega
  unfold txl at h
  rw [if_pos l2] at h
  obtain⟨c,q,e,hc⟩:=base_head g l8
  rw [e] at h
  simp at h
  rw [h.1] at hc
  exact absurd hc (by decide)
theorem cl_all:∀(N:Nat) (y:Tn),sz y≤N→gE y→∀m,1≤m→m≤8→Cl m y
 |0,y,hN,g=>by
  unfold sz at hN
  rw [cns_one] at hN
  omega
 |N+1,y,hN,g=>by
  have hsm:∀b,sz b<sz y→gE b→∀m,1≤m→m≤8→Cl m b:=fun b hb gb=>cl_all N b (by omega) gb
  have dn:∀n,1≤n→n≤7→(lev y≠n→Cl (n+1) y)→Cl n y:=by
   intro n h0 h7 hh
   by_cases h6:n=6
   ·subst h6;exact cl_six g hsm hh
   ·exact cl_step h0 h7 h6 g hsm hh
  have hr:=lev_range g
  have c8:Cl 8 y:=by
   by_cases h8:lev y=8
   ·exact cl_base g h8 hsm
   ·have low:∀d,d<lev y→Cl (lev y - d) y:=by
     intro d
     induction d with
     |zero=>exact fun h=>dn _ (by omega) (by omega) (fun h=>absurd rfl h)
     |succ d ih=>
      intro h
      refine dn _ (by omega) (by omega) (fun _=>?_)
      have:=ih (by omega)
      rwa [show lev y - (d+1)+1=lev y - d by omega]
    have:=low (lev y - 1) (by omega)
    rw [show lev y - (lev y - 1)=1 by omega] at this
    exact cl_brk g (by omega) this
  have low:∀d,d<8→Cl (8 - d) y:=by
   intro d
   induction d with
   |zero=>exact fun _=>c8
   |succ d ih=>
    intro h
    refine dn _ (by omega) (by omega) (fun _=>?_)
    have:=ih (by omega)
    rwa [show 8 - (d+1)+1=8 - d by omega]
  intro m h0 h8
  have:=low (8 - m) (by omega)
  rwa [show 8 - (8 - m)=m by omega] at this
end Go.Proofs.YtekbmfppfjlboaaGreatDoor
