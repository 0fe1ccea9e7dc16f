/-
  Layer 18 (print), for PrintApart: a statement's first word, its parts; no conditions.
  Layer 18 (print), for PrintApart: statements are told by their texts; no conditions.
-/
import Derived.Test.YtekbmfppfjlboaaGreatDoorA46
import Derived.Test.YtekbmfppfjlboaaGreatDoorA41
set_option linter.unusedVariables false
set_option linter.unusedSimpArgs false
namespace Go.Proofs.YtekbmfppfjlboaaGreatDoor
open Go.RowKit
set_option linter.unusedVariables false
set_option linter.unusedSimpArgs false
theorem lit_forms3 {y:Tn} (g:gE y) (k:y.k=13):(exT y=[117,110,105,116]∨exT y=[116,114,117,101]∨exT y=[102,97,108,115,101])∨(∃c q,exT y=c :: q∧(digB c=true∨c=34)):=by
 obtain⟨_,h⟩:=lit_of g k
 rw [lit_text g k]
 generalize y.v=v at *
 obtain⟨a,n,s,l,ks⟩:=v
 simp only at h
 simp only [txt]
 rcases h with rfl|rfl|rfl|⟨rfl,hn⟩
 ·left
  unfold oneT
  rw [if_pos rfl]
  exact Or.inl rfl
 ·left
  unfold oneT
  rw [if_neg (by decide),if_pos rfl]
  split <;> simp
 ·right
  unfold oneT
  rw [if_neg (by decide),if_neg (by decide),if_neg (by decide),if_pos rfl,quoteU_eq]
  exact⟨34,_,rfl,Or.inr rfl⟩
 ·right
  unfold oneT
  rw [if_neg (by decide),if_neg (by decide),if_pos rfl]
  unfold Lib.itoa
  rw [if_neg (by omega)]
  obtain⟨c,r,e,hc⟩:=dec_head n.toNat
  exact⟨c,r,e,Or.inl hc⟩
theorem word_out {kw rest:List UInt8} (hw:∀x∈kw,lxW x=true) (hl:∃c q,kw=c :: q∧lxLet c=true) (hk:keyB kw=true) (hn:kw≠[117,110,105,116]∧kw≠[116,114,117,101]∧kw≠[102,97,108,115,101]) (hrest:∀x,rest.head?=some x→lxW x=false):∀(N:Nat) (a:Tn) (n:Nat) (s:List UInt8),sz a≤N→gE a→(∀x,s.head?=some x→lxW x=false)→kw++rest=txl n a++s→False
 |0,a,n,s,hN,g,_,_=>by
  unfold sz at hN
  rw [cns_one] at hN
  omega
 |N+1,a,n,s,hN,g,hs,h=>by
  obtain⟨c,q,ec,hc⟩:=hl
  have no:∀(x:UInt8) (p:List UInt8),lxLet x=false→kw++rest=x :: p→False:=by
   intro x p hx e
   rw [ec] at e
   simp at e
   rw [e.1,hx] at hc
   cases hc
  by_cases hlt:lev a<n
  ·unfold txl at h
   rw [if_pos hlt] at h
   exact no 40 _ (by decide) h
  ·have et:txl n a=exT a:=by unfold txl;rw [if_neg hlt]
   rw [et] at h
   have hr:=lev_range g
   by_cases h8:lev a=8
   ·rcases base_kind g h8 with k|k|k|k
    ·rcases lit_forms3 g k with h1|⟨d,p,e,hd⟩
     ·have hwe:∀x∈exT a,lxW x=true:=by rcases h1 with h1|h1|h1 <;> rw [h1] <;> decide
      have:=(span_inj lxW kw (exT a) rest s hw hwe hrest hs h).1
      rw [this] at hn
      rcases h1 with h1|h1|h1
      ·exact hn.1 h1
      ·exact hn.2.1 h1
      ·exact hn.2.2 h1
     ·rw [e] at h
      rcases hd with hd|rfl
      ·exact no d _ (dig_w hd).2 h
      ·exact no 34 _ (by decide) h
    ·have hm:=name_of g k
     have hkw:kw=a.t.data.toList:=by
      rcases k with k|k
      ·rw [ex_of14 k] at h
       exact(span_inj lxW kw _ rest s hw (name_w hm) hrest hs h).1
      ·rw [ex_of15 k,List.append_assoc] at h
       exact(span_inj lxW kw _ rest _ hw (name_w hm) hrest (w40 _) h).1
     have:=name_key hm
     rw [←hkw,hk] at this
     cases this
    ·rw [ex_of18 k] at h
     exact no 91 _ (by decide) h
    ·rw [ex_of19 k] at h
     exact no 123 _ (by decide) h
   ·by_cases h6:lev a=6
    ·obtain⟨b,e,gb,ht⟩:=un_of g (lev6_kind h6)
     rw [ex_of16 gb (lev6_kind h6) e] at h
     rcases ht with ht|ht <;> rw [ht] at h
     ·exact no 45 _ (by decide) h
     ·exact no 33 _ (by decide) h
    ·obtain⟨b,hb,gb,e⟩:=ex_left g (lev_kind h8 h6)
     rw [e,List.append_assoc] at h
     have hsb:=sz_kid (y:=a) (a:=b) (List.mem_of_getElem? hb)
     exact word_out hw ⟨c,q,ec,hc⟩ hk hn hrest N b _ (tlx a++s) (by omega) gb (tail_fol (n:=lev a) (by omega) h6 g rfl s).word h
def kwd (k:Int):List UInt8:=if k=5 then [108,101,116] else if k=7 then [105,102] else if k=8 then [119,104,105,108,101] else if k=9 then [114,101,116,117,114,110] else if k=10 then [98,114,101,97,107] else [99,111,110,116,105,110,117,101]
def isKw (k:Int):Prop:=k=5∨k=7∨k=8∨k=9∨k=10∨k=11
theorem kwd_ok {k:Int} (h:isKw k):(∀x∈kwd k,lxW x=true)∧(∃c q,kwd k=c :: q∧lxLet c=true)∧keyB (kwd k)=true∧(kwd k≠[117,110,105,116]∧kwd k≠[116,114,117,101]∧kwd k≠[102,97,108,115,101]):=by
 rcases h with rfl|rfl|rfl|rfl|rfl|rfl
 ·exact⟨by decide,⟨108,_,rfl,by decide⟩,by decide,by decide⟩
 ·exact⟨by decide,⟨105,_,rfl,by decide⟩,by decide,by decide⟩
 ·exact⟨by decide,⟨119,_,rfl,by decide⟩,by decide,by decide⟩
 ·exact⟨by decide,⟨114,_,rfl,by decide⟩,by decide,by decide⟩
 ·exact⟨by decide,⟨98,_,rfl,by decide⟩,by decide,by decide⟩
 ·exact⟨by decide,⟨99,_,rfl,by decide⟩,by decide,by decide⟩
theorem kwd_inj {k k':Int} (h:isKw k) (h':isKw k') (e:kwd k=kwd k'):k=k':=by
 rcases h with rfl|rfl|rfl|rfl|rfl|rfl <;> rcases h' with rfl|rfl|rfl|rfl|rfl|rfl <;> first|rfl|exact absurd e (by decide)
theorem st_eq (d:Nat) (y:Tn):stT d y=st1 y.k y.t y.ks (y.ks.map exT) (y.ks.map (stT d)) (y.ks.map (stT (d+1))) d:=by
 show st1 y.k y.t y.ks (exM y.ks) (stM y.ks d) (stM y.ks (d+1)) d=_
 rw [exM_map,stM_map,stM_map]
theorem st5a {d:Nat} {y:Tn} (k:y.k=5) (e:y.ks=[]):stT d y=kwd 5++32 :: (y.t.data.toList++[59]):=by rw [st_eq,k,e];simp [st1,kwd]
theorem st5b {d:Nat} {y a:Tn} (k:y.k=5) (e:y.ks=[a]):stT d y=kwd 5++32 :: (y.t.data.toList++32 :: 61 :: 32 :: (exT a++[59])):=by rw [st_eq,k,e];simp [st1,kwd]
theorem st6 {d:Nat} {y a:Tn} (k:y.k=6) (e:y.ks=[a]):stT d y=y.t.data.toList++32 :: 61 :: 32 :: (exT a++[59]):=by rw [st_eq,k,e];simp [st1]
theorem st7a {d:Nat} {y a b:Tn} (k:y.k=7) (e:y.ks=[a,b]):stT d y=kwd 7++32 :: 40 :: (exT a++41 :: 32 :: stT (d+1) b):=by rw [st_eq,k,e];simp [st1,kwd]
theorem st7b {d:Nat} {y a b c:Tn} (k:y.k=7) (e:y.ks=[a,b,c]):stT d y=kwd 7++32 :: 40 :: (exT a++41 :: 32 :: (stT (d+1) b++32 :: 101 :: 108 :: 115 :: 101 :: 32 :: (if c.k=7 then stT d c else stT (d+1) c))):=by rw [st_eq,k,e];simp [st1,kwd]
theorem st8 {d:Nat} {y a b:Tn} (k:y.k=8) (e:y.ks=[a,b]):stT d y=kwd 8++32 :: 40 :: (exT a++41 :: 32 :: stT (d+1) b):=by rw [st_eq,k,e];simp [st1,kwd]
theorem st9a {d:Nat} {y:Tn} (k:y.k=9) (e:y.ks=[]):stT d y=kwd 9++[59]:=by rw [st_eq,k,e];simp [st1,kwd]
theorem st9b {d:Nat} {y a:Tn} (k:y.k=9) (e:y.ks=[a]):stT d y=kwd 9++32 :: (exT a++[59]):=by rw [st_eq,k,e];simp [st1,kwd]
theorem st10 {d:Nat} {y:Tn} (k:y.k=10):stT d y=kwd 10++[59]:=by rw [st_eq,k];simp [st1,kwd]
theorem st11 {d:Nat} {y:Tn} (k:y.k=11):stT d y=kwd 11++[59]:=by rw [st_eq,k];simp [st1,kwd]
theorem st12 {d:Nat} {y a:Tn} (k:y.k=12) (e:y.ks=[a]):stT d y=exT a++[59]:=by rw [st_eq,k,e];simp [st1]
theorem st4 {d:Nat} {y:Tn} (k:y.k=4):stT d y=123 :: 10 :: (jl [] true (y.ks.map (lineT d (stT d)))++(List.replicate (d - 1) 9++[125])):=by
 obtain⟨k0,t,v,f,ks,p⟩:=y
 simp only at k
 subst k
 rw [blk_st]
 simp [blkT]
theorem let_of {y:Tn} (g:fmB y=true) (k:y.k=5):nameL y.t.data.toList=true∧(y.ks=[]∨∃a,y.ks=[a]∧gE a):=by
 obtain⟨h1,d⟩:=fm_kids g
 obtain⟨a,b,c⟩:=rw_kd h1
 rw [k] at a c
 refine⟨by simpa [txB] using a,?_⟩
 have c:(y.ks.map (·.k)).length≤1∧(y.ks.map (·.k)).all isEx=true:=by simpa [kdB] using c
 have c2:=all_ex c.2
 rcases hk:y.ks with _|⟨x,_|⟨z,r⟩⟩
 ·exact Or.inl rfl
 ·exact Or.inr ⟨x,rfl,d x (by rw [hk];simp),c2 x (by rw [hk];simp)⟩
 ·rw [hk] at c;simp at c
theorem ret_of {y:Tn} (g:fmB y=true) (k:y.k=9):y.ks=[]∨∃a,y.ks=[a]∧gE a:=by
 obtain⟨h1,d⟩:=fm_kids g
 obtain⟨a,b,c⟩:=rw_kd h1
 rw [k] at a c
 have c:(y.ks.map (·.k)).length≤1∧(y.ks.map (·.k)).all isEx=true:=by simpa [kdB] using c
 have c2:=all_ex c.2
 rcases hk:y.ks with _|⟨x,_|⟨z,r⟩⟩
 ·exact Or.inl rfl
 ·exact Or.inr ⟨x,rfl,d x (by rw [hk];simp),c2 x (by rw [hk];simp)⟩
 ·rw [hk] at c;simp at c
theorem one_of {y:Tn} (g:fmB y=true) (k:y.k=6∨y.k=12):∃a,y.ks=[a]∧gE a:=by
 obtain⟨h1,d⟩:=fm_kids g
 obtain⟨a,b,c⟩:=rw_kd h1
 rw [kd_one (by omega)] at c
 simp only [Bool.and_eq_true,decide_eq_true_eq,List.length_map] at c
 obtain⟨x,e⟩:=List.length_eq_one_iff.1 c.1
 have c2:=c.2
 rw [e] at d c2
 exact⟨x,e,⟨d x (by simp),by simpa using c2⟩⟩
theorem asg_of {y:Tn} (g:fmB y=true) (k:y.k=6):nameL y.t.data.toList=true:=by
 have a:=(rw_kd (fm_kids g).1).1
 rw [k] at a
 simpa [txB] using a
theorem bare_of {y:Tn} (g:fmB y=true) (k:y.k=4∨y.k=7∨y.k=8∨y.k=9∨y.k=10∨y.k=11∨y.k=12):y.t.data.toList=[]:=by
 have a:=(rw_kd (fm_kids g).1).1
 rw [←ByteArray.toList_eq]
 rcases k with k|k|k|k|k|k|k <;> rw [k] at a <;> simpa [txB] using a
theorem lone_of {y:Tn} (g:fmB y=true) (k:y.k=10∨y.k=11):y.ks=[]:=by
 have c:=(rw_kd (fm_kids g).1).2.2
 rcases k with k|k <;> rw [k] at c <;> simpa [kdB] using c
theorem blk_of {y:Tn} (g:fmB y=true) (k:y.k=4):∀a∈y.ks,fmB a=true∧isStm a.k=true:=by
 obtain⟨h1,d⟩:=fm_kids g
 obtain⟨a,b,c⟩:=rw_kd h1
 rw [k] at c
 have c:(y.ks.map (·.k)).all isStm=true:=by simpa [kdB] using c
 rw [all_k,List.all_eq_true] at c
 exact fun z hz=>⟨d z hz,c z hz⟩
theorem cl1 {a:Tn} (g:gE a):Cl 1 a:=cl_all _ a (Nat.le_refl _) g 1 (by omega) (by omega)
theorem ex_end {a b:Tn} (ga:gE a) (gb:gE b) {c e:UInt8} (hc:c=41∨c=59) (he:e=41∨e=59) {r s:List UInt8} (h:exT a++c :: r=exT b++e :: s):smN a b=true∧c=e∧r=s:=by
 rw [←one_lev ga,←one_lev gb] at h
 obtain⟨h1,h2⟩:=cl1 ga b _ _ gb (fol_end 1 c r (by rcases hc with h|h <;> simp [h])) (fol_end 1 e s (by rcases he with h|h <;> simp [h])) h
 exact⟨h1,by simpa using h2⟩
theorem w32 (q:List UInt8):∀x,((32 :: q:List UInt8)).head?=some x→lxW x=false:=fun x hx=>by simp at hx;subst hx;decide
theorem w59 (q:List UInt8):∀x,((59 :: q:List UInt8)).head?=some x→lxW x=false:=fun x hx=>by simp at hx;subst hx;decide
def Fs (r:List UInt8):Prop:=∀x,r.head?=some x→x=10
theorem if_of {y:Tn} (g:fmB y=true) (k:y.k=7):∃a b,gE a∧fmB b=true∧b.k=4∧(y.ks=[a,b]∨∃c,y.ks=[a,b,c]∧fmB c=true∧(c.k=4∨c.k=7)):=by
 obtain⟨h1,d⟩:=fm_kids g
 obtain⟨_,_,c⟩:=rw_kd h1
 rw [k] at c
 rcases hk:y.ks with _|⟨x,_|⟨z,_|⟨u,_|⟨v,r⟩⟩⟩⟩
 ·rw [hk] at c;simp [kdB] at c
 ·rw [hk] at c;simp [kdB] at c
 ·rw [hk] at c d
  simp [kdB] at c
  exact⟨x,z,⟨d x (by simp),c.1⟩,d z (by simp),c.2,Or.inl rfl⟩
 ·rw [hk] at c d
  simp [kdB] at c
  exact⟨x,z,⟨d x (by simp),c.1.1⟩,d z (by simp),c.1.2,Or.inr ⟨u,rfl,d u (by simp),c.2⟩⟩
 ·rw [hk] at c;simp [kdB] at c
theorem while_of {y:Tn} (g:fmB y=true) (k:y.k=8):∃a b,gE a∧fmB b=true∧b.k=4∧y.ks=[a,b]:=by
 obtain⟨h1,d⟩:=fm_kids g
 obtain⟨_,_,c⟩:=rw_kd h1
 rw [k] at c
 rcases hk:y.ks with _|⟨x,_|⟨z,_|⟨u,r⟩⟩⟩
 ·rw [hk] at c;simp [kdB] at c
 ·rw [hk] at c;simp [kdB] at c
 ·rw [hk] at c d
  simp [kdB] at c
  exact⟨x,z,⟨d x (by simp),c.1⟩,d z (by simp),c.2,rfl⟩
 ·rw [hk] at c;simp [kdB] at c
theorem kw_split {y:Tn} (g:fmB y=true) (k:isKw y.k) (d:Nat):∃R,stT d y=kwd y.k++R∧∀r,∀x,(R++r).head?=some x→lxW x=false:=by
 rcases k with k|k|k|k|k|k
 ·rcases (let_of g k).2 with e|⟨a,e,_⟩
  ·exact⟨_,by rw [st5a k e,k],fun r=>w32 _⟩
  ·exact⟨_,by rw [st5b k e,k],fun r=>w32 _⟩
 ·obtain⟨a,b,_,_,_,e|⟨c,e,_⟩⟩:=if_of g k
  ·exact⟨_,by rw [st7a k e,k],fun r=>w32 _⟩
  ·exact⟨_,by rw [st7b k e,k],fun r=>w32 _⟩
 ·obtain⟨a,b,_,_,_,e⟩:=while_of g k
  exact⟨_,by rw [st8 k e,k],fun r=>w32 _⟩
 ·rcases ret_of g k with e|⟨a,e,_⟩
  ·exact⟨_,by rw [st9a k e,k],fun r=>w59 _⟩
  ·exact⟨_,by rw [st9b k e,k],fun r=>w32 _⟩
 ·exact⟨_,by rw [st10 k,k],fun r=>w59 _⟩
 ·exact⟨_,by rw [st11 k,k],fun r=>w59 _⟩
theorem lines_inj (d:Nat) (hd:1≤d):∀(ys zs:List Tn),(∀a∈ys,∀b∈zs,∀R S:List UInt8,stT d a++10 :: R=stT d b++10 :: S→smN a b=true∧R=S)→∀(f:Bool) (r s:List UInt8),jl [] f (ys.map (lineT d (stT d)))++(List.replicate (d - 1) 9++125 :: r)=jl [] f (zs.map (lineT d (stT d)))++(List.replicate (d - 1) 9++125 :: s)→smL ys zs=true∧r=s
 |[],[],_,f,r,s,h=>by
  refine⟨smL_nil,?_⟩
  have h:List.replicate (d - 1) (9:UInt8)++125 :: r=List.replicate (d - 1) 9++125 :: s:=h
  have h:=List.append_cancel_left h
  simpa using h
 |[],b :: zs,_,f,r,s,h=>by
  exfalso
  obtain⟨e,rfl⟩:∃e,d=e+1:=⟨d - 1,by omega⟩
  cases f <;> simp [jl,lineT,List.replicate_succ',List.append_assoc] at h
 |a :: ys,[],_,f,r,s,h=>by
  exfalso
  obtain⟨e,rfl⟩:∃e,d=e+1:=⟨d - 1,by omega⟩
  cases f <;> simp [jl,lineT,List.replicate_succ',List.append_assoc] at h
 |a :: ys,b :: zs,hc,f,r,s,h=>by
  have h:List.replicate d (9:UInt8)++(stT d a++10 :: (jl [] false (ys.map (lineT d (stT d)))++(List.replicate (d - 1) 9++125 :: r)))=List.replicate d 9++(stT d b++10 :: (jl [] false (zs.map (lineT d (stT d)))++(List.replicate (d - 1) 9++125 :: s))):=by
   cases f <;> simpa [jl,lineT,List.append_assoc] using h
  obtain⟨h1,h2⟩:=hc a (by simp) b (by simp) _ _ (List.append_cancel_left h)
  obtain⟨h3,h4⟩:=lines_inj d hd ys zs (fun x hx y hy=>hc x (by simp [hx]) y (by simp [hy])) false r s h2
  rw [smL_cons,h1,h3]
  exact⟨rfl,h4⟩
def BlI (N:Nat):Prop:=∀(y z:Tn) (d:Nat) (r s:List UInt8),sz y≤N→fmB y=true→fmB z=true→y.k=4→z.k=4→1≤d→stT d y++r=stT d z++s→smN y z=true∧r=s
def StI (N:Nat):Prop:=∀(y z:Tn) (d:Nat) (r s:List UInt8),sz y≤N→fmB y=true→fmB z=true→isStm y.k=true→isStm z.k=true→1≤d→Fs r→Fs s→stT d y++r=stT d z++s→smN y z=true∧r=s
theorem bl_step {N:Nat} (ih:StI N):BlI (N+1):=by
 intro y z d r s hN gy gz ky kz hd h
 rw [st4 ky,st4 kz] at h
 simp only [List.cons_append,List.append_assoc,List.nil_append,List.cons.injEq,true_and] at h
 have fs:∀R:List UInt8,Fs (10 :: R):=fun R x hx=>by simpa using hx.symm
 obtain⟨h1,h2⟩:=lines_inj d hd y.ks z.ks (fun a ha b hb R S he=>by
  have ga:=blk_of gy ky a ha
  have gb:=blk_of gz kz b hb
  obtain⟨e1,e2⟩:=ih a b d _ _ (by have:=sz_kid ha;omega) ga.1 gb.1 ga.2 gb.2 hd (fs R) (fs S) he
  exact⟨e1,by simpa using e2⟩) true r s h
 exact⟨smN_of gy gz (by omega) (by omega) (by omega) (by rw [bare_of gy (by omega),bare_of gz (by omega)]) h1,h2⟩
theorem stm_kinds {y:Tn} (h:isStm y.k=true):isKw y.k∨y.k=6∨y.k=12:=by
 have:y.k=5∨y.k=6∨y.k=7∨y.k=8∨y.k=9∨y.k=10∨y.k=11∨y.k=12:=by simpa [isStm] using h
 unfold isKw
 omega
theorem kw_not_ex {y a:Tn} (g:fmB y=true) (k:isKw y.k) (ga:gE a) {d:Nat} {r s:List UInt8} (h:stT d y++r=exT a++59 :: s):False:=by
 obtain⟨R,e,hR⟩:=kw_split g k d
 obtain⟨o1,o2,o3,o4⟩:=kwd_ok k
 rw [e,List.append_assoc,←one_lev ga] at h
 exact word_out o1 o2 o3 o4 (hR r) _ a 1 (59 :: s) (Nat.le_refl _) ga (w59 s) h
theorem kw_not_name {y:Tn} (g:fmB y=true) (k:isKw y.k) {t:List UInt8} (ht:nameL t=true) {d:Nat} {r s:List UInt8} (h:stT d y++r=t++32 :: s):False:=by
 obtain⟨R,e,hR⟩:=kw_split g k d
 obtain⟨o1,o2,o3,o4⟩:=kwd_ok k
 rw [e,List.append_assoc] at h
 have:=(span_inj lxW _ _ _ _ o1 (name_w ht) (hR r) (w32 s) h).1
 have hk:=name_key ht
 rw [←this,o3] at hk
 cases hk
def nmN (y:Tn):Tn:=⟨14,y.t,y.v,y.f,[],0⟩
theorem nmN_ok {y:Tn} (g:fmB y=true) (k:y.k=6):gE (nmN y)∧exT (nmN y)=y.t.data.toList:=by
 refine⟨⟨?_,rfl⟩,ex_of14 rfl⟩
 have h1:=(fm_kids g).1
 have hn:=asg_of g k
 unfold rwB at h1
 simp only [Bool.and_eq_true] at h1
 obtain⟨⟨⟨_,hf⟩,hv⟩,_⟩:=h1
 unfold fmB
 rw [Bool.and_eq_true]
 refine⟨?_,by show fmL []=true;simp only [fmL]⟩
 unfold rwB
 simp only [Bool.and_eq_true]
 refine⟨⟨⟨?_,?_⟩,?_⟩,?_⟩
 ·simpa [txB,nmN] using hn
 ·rw [k] at hf;simpa [flB,nmN] using hf
 ·rw [k] at hv
  exact hv
 ·simp [kdB,nmN]
theorem asg_not_ex {y a b:Tn} (g:fmB y=true) (k:y.k=6) (ga:gE a) {r s X:List UInt8} (h:y.t.data.toList++32 :: 61 :: 32 :: X=exT a++59 :: s):False:=by
 obtain⟨g1,e⟩:=nmN_ok g k
 rw [←e,←one_lev g1,←one_lev ga] at h
 obtain⟨_,h2⟩:=cl1 g1 a _ _ ga (Or.inr (Or.inr (Or.inl ⟨X,rfl⟩))) (fol_end 1 59 s (by simp)) h
 simp at h2
end Go.Proofs.YtekbmfppfjlboaaGreatDoor
