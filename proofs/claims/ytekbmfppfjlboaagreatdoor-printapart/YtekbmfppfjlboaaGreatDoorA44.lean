/-
  Layer 18 (print), for PrintApart: how an expression's text is made of its parts, level by level; no conditions.
  Layer 18 (print), for PrintApart: rows of operands that bind alike; no conditions.
-/
import Derived.Test.YtekbmfppfjlboaaGreatDoorA43
import Derived.Test.YtekbmfppfjlboaaGreatDoorA32
import Derived.Test.YtekbmfppfjlboaaGreatDoorA14
set_option linter.unusedVariables false
set_option linter.unusedSimpArgs false
namespace Go.Proofs.YtekbmfppfjlboaaGreatDoor
open Go.RowKit
set_option linter.unusedVariables false
set_option linter.unusedSimpArgs false
def lev (y:Tn):Nat:=if y.k=17 then bnS y.t.data.toList else if y.k=16 then 6 else if y.k=21∨y.k=22 then 7 else 8
def txl (n:Nat) (y:Tn):List UInt8:=if lev y<n then 40 :: (exT y++[41]) else exT y
def gE (y:Tn):Prop:=fmB y=true∧isEx y.k=true
def sz (y:Tn):Nat:=cns [y]
def tlx (y:Tn):List UInt8:=if y.k=17 then 32 :: (y.t.data.toList++32 :: ((y.ks[1]?).map (txl (bnS y.t.data.toList+1))).getD []) else if y.k=21 then 91 :: (((y.ks[1]?).map exT).getD []++[93]) else 46 :: y.t.data.toList
theorem sz_kid {y a:Tn} (h:a∈y.ks):sz a<sz y:=by
 unfold sz
 rw [cns_one y]
 have:=cns_mem y.ks a h
 omega
theorem bn_leN (t:List UInt8):bnS t≤5:=by
 unfold bnS
 split
 ·omega
 ·split
  ·omega
  ·split
   ·omega
   ·split
    ·omega
    ·split <;> omega
theorem bn_clean {t:List UInt8} (h:0<bnS t):(∀x∈t,(x != 32)=true)∧t≠[61]:=by
 unfold bnS at h
 split at h
 ·rename_i e;rw [e];decide
 ·split at h
  ·rename_i e;rw [e];decide
  ·split at h
   ·rename_i e;rcases e with e|e|e|e|e|e <;> rw [e] <;> decide
   ·split at h
    ·rename_i e;rcases e with e|e <;> rw [e] <;> decide
    ·split at h
     ·rename_i e;rcases e with e|e|e <;> rw [e] <;> decide
     ·omega
theorem sgn_inj {t u q q':List UInt8} (ht:∀x∈t,(x != 32)=true) (hu:∀x∈u,(x != 32)=true) (h:t++32 :: q=u++32 :: q'):t=u∧q=q':=by
 have:=span_inj (fun x=>x != 32) t u (32 :: q) (32 :: q') ht hu (fun x hx=>by simp at hx;subst hx;rfl) (fun x hx=>by simp at hx;subst hx;rfl) h
 exact⟨this.1,by simpa using this.2⟩
theorem gE.rw {y:Tn} (g:gE y):txB y.k y.t=true∧vlB y.k y.v=true∧kdB y.k (y.ks.map (·.k))=true∧(∀z∈y.ks,fmB z=true):=by
 obtain⟨h1,h2⟩:=fm_kids g.1
 obtain⟨a,b,c⟩:=rw_kd h1
 exact⟨a,b,c,h2⟩
theorem flag_of {y:Tn} (h:fmB y=true) (k:y.k≠2):y.f=false:=by
 have:=(fm_kids h).1
 unfold rwB flB at this
 simp only [Bool.and_eq_true,Bool.or_eq_true,decide_eq_true_eq,k,false_or,Bool.not_eq_true'] at this
 exact this.1.1.2
theorem plain_v {y z:Tn} (h:fmB y=true) (h':fmB z=true) (k:y.k≠13) (k':z.k≠13):y.v=z.v:=by
 have a:=(rw_kd (fm_kids h).1).2.1
 have b:=(rw_kd (fm_kids h').1).2.1
 unfold vlB at a b
 rw [if_neg k] at a
 rw [if_neg k'] at b
 generalize y.v=A at *
 generalize z.v=B at *
 obtain⟨k1,n1,s1,l1,q1⟩:=A
 obtain⟨k2,n2,s2,l2,q2⟩:=B
 simp only [Bool.and_eq_true,decide_eq_true_eq,List.length_eq_zero_iff] at a
 simp only [Bool.and_eq_true,decide_eq_true_eq,List.length_eq_zero_iff] at b
 obtain⟨⟨⟨⟨rfl,rfl⟩,a3⟩,rfl⟩,rfl⟩:=a
 obtain⟨⟨⟨⟨rfl,rfl⟩,b3⟩,rfl⟩,rfl⟩:=b
 rw [ByteArray.toList_eq] at a3 b3
 have:s1=s2:=Go.WideShapes.bytes_inj (by rw [a3,b3])
 rw [this]
theorem smN_of {y z:Tn} (h:fmB y=true) (h':fmB z=true) (k:y.k=z.k) (k2:y.k≠2) (k13:y.k≠13) (t:y.t.data.toList=z.t.data.toList) (hs:smL y.ks z.ks=true):smN y z=true:=by
 unfold smN
 simp only [Bool.and_eq_true,decide_eq_true_eq,beq_iff_eq]
 refine⟨⟨⟨⟨k,?_⟩,?_⟩,?_⟩,hs⟩
 ·rw [ByteArray.toList_eq,ByteArray.toList_eq,t]
 ·rw [flag_of h k2,flag_of h' (by omega)]
 ·rw [sameB_iff,plain_v h h' k13 (by omega)]
theorem two_of {α:Type} {l:List α} (h:l.length=2):∃a b,l=[a,b]:=by
 rcases l with _|⟨a,_|⟨b,_|⟨c,r⟩⟩⟩
 ·simp at h
 ·simp at h
 ·exact⟨a,b,rfl⟩
 ·simp at h
theorem brk7 {a:Tn} (g:gE a) {k:Int} (hk:k=21∨k=22) (t:ByteArray):brk k t a.k a.t 0=decide (lev a<7):=by
 unfold brk
 rw [if_neg (by omega),if_pos hk]
 by_cases h:a.k=16∨a.k=17
 ·have:lev a<7:=by
   have:=bn_leN a.t.data.toList
   unfold lev
   split
   ·omega
   ·split <;> omega
  simp [h,this]
 ·have:¬lev a<7:=by
   unfold lev
   rw [if_neg (by omega),if_neg (by omega)]
   split <;> omega
  simp [h,this]
theorem bin_of {y:Tn} (g:gE y) (k:y.k=17):∃a b,y.ks=[a,b]∧gE a∧gE b∧0<bnS y.t.data.toList:=by
 obtain⟨a,b,c,d⟩:=g.rw
 rw [k,kd_two (by omega)] at c
 rw [k] at a
 simp only [Bool.and_eq_true,decide_eq_true_eq,List.length_map] at c
 have hb:0<bnS y.t.toList:=by simpa [txB] using a
 rw [ByteArray.toList_eq] at hb
 obtain⟨x,z,e⟩:=two_of c.1
 have e2:=all_ex c.2
 rw [e] at d e2
 exact⟨x,z,e,⟨d x (by simp),e2 x (by simp)⟩,⟨d z (by simp),e2 z (by simp)⟩,hb⟩
theorem at_of {y:Tn} (g:gE y) (k:y.k=21):∃a b,y.ks=[a,b]∧gE a∧gE b∧y.t.data.toList=[]:=by
 obtain⟨a,b,c,d⟩:=g.rw
 rw [k,kd_two (by omega)] at c
 rw [k] at a
 simp only [Bool.and_eq_true,decide_eq_true_eq,List.length_map] at c
 have hb:y.t.toList=[]:=by simpa [txB] using a
 rw [ByteArray.toList_eq] at hb
 obtain⟨x,z,e⟩:=two_of c.1
 have e2:=all_ex c.2
 rw [e] at d e2
 exact⟨x,z,e,⟨d x (by simp),e2 x (by simp)⟩,⟨d z (by simp),e2 z (by simp)⟩,hb⟩
theorem un_of {y:Tn} (g:gE y) (k:y.k=16):∃a,y.ks=[a]∧gE a∧(y.t.data.toList=[45]∨y.t.data.toList=[33]):=by
 obtain⟨a,b,c,d⟩:=g.rw
 rw [k,kd_one (by omega)] at c
 rw [k] at a
 simp only [Bool.and_eq_true,decide_eq_true_eq,List.length_map] at c
 have hb:y.t.toList=[45]∨y.t.toList=[33]:=by simpa [txB] using a
 rw [ByteArray.toList_eq] at hb
 obtain⟨x,e⟩:=List.length_eq_one_iff.1 c.1
 have c2:=c.2
 rw [e] at d c2
 exact⟨x,e,⟨d x (by simp),by simpa using c2⟩,hb⟩
theorem fd_of {y:Tn} (g:gE y) (k:y.k=22):∃a,y.ks=[a]∧gE a∧nameL y.t.data.toList=true:=by
 obtain⟨a,b,c,d⟩:=g.rw
 rw [k,kd_one (by omega)] at c
 rw [k] at a
 simp only [Bool.and_eq_true,decide_eq_true_eq,List.length_map] at c
 have hb:nameL y.t.data.toList=true:=by simpa [txB] using a
 obtain⟨x,e⟩:=List.length_eq_one_iff.1 c.1
 have c2:=c.2
 rw [e] at d c2
 exact⟨x,e,⟨d x (by simp),by simpa using c2⟩,hb⟩
theorem fld_of {y:Tn} (g:fmB y=true) (k:y.k=20):∃a,y.ks=[a]∧gE a:=by
 obtain⟨h1,d⟩:=fm_kids g
 obtain⟨a,b,c⟩:=rw_kd h1
 rw [k,kd_one (by omega)] at c
 simp only [Bool.and_eq_true,decide_eq_true_eq,List.length_map] at c
 obtain⟨x,e⟩:=List.length_eq_one_iff.1 c.1
 have c2:=c.2
 rw [e] at d c2
 exact⟨x,e,⟨d x (by simp),by simpa using c2⟩⟩
theorem row_of {y:Tn} (g:gE y) (k:y.k=15∨y.k=18):∀a∈y.ks,gE a:=by
 obtain⟨a,b,c,d⟩:=g.rw
 rw [kd_ex (by omega)] at c
 exact fun z hz=>⟨d z hz,all_ex c z hz⟩
theorem rec_of {y:Tn} (g:gE y) (k:y.k=19):∀a∈y.ks,fmB a=true∧a.k=20:=by
 obtain⟨a,b,c,d⟩:=g.rw
 rw [k] at c
 have e:kdB 19 (y.ks.map (·.k))=(y.ks.map (·.k)).all (fun x=>decide (x=20)):=by simp [kdB]
 rw [e,all_k,List.all_eq_true] at c
 exact fun z hz=>⟨d z hz,by simpa using c z hz⟩
theorem name_of {y:Tn} (g:gE y) (k:y.k=14∨y.k=15):nameL y.t.data.toList=true:=by
 have a:=g.rw.1
 rcases k with k|k <;> rw [k] at a <;> simpa [txB] using a
theorem none_of {y:Tn} (g:gE y) (k:y.k=13∨y.k=14):y.ks=[]:=by
 have c:=g.rw.2.2.1
 rcases k with k|k <;> rw [k] at c <;> simpa [kdB] using c
theorem empty_of {y:Tn} (g:gE y) (k:y.k=13∨y.k=18∨y.k=19):y.t.data.toList=[]:=by
 have a:=g.rw.1
 rw [←ByteArray.toList_eq]
 rcases k with k|k|k <;> rw [k] at a <;> simpa [txB] using a
theorem gE.kinds {y:Tn} (g:gE y):y.k=13∨y.k=14∨y.k=15∨y.k=16∨y.k=17∨y.k=18∨y.k=19∨y.k=21∨y.k=22:=by simpa [isEx] using g.2
theorem lev_range {y:Tn} (g:gE y):1≤lev y∧lev y≤8:=by
 unfold lev
 split
 ·rename_i k
  obtain⟨_,_,_,_,_,h⟩:=bin_of g k
  have:=bn_leN y.t.data.toList
  omega
 ·split
  ·omega
  ·split <;> omega
theorem lev17 {y:Tn} (k:y.k=17):lev y=bnS y.t.data.toList:=by unfold lev;rw [if_pos k]
theorem lev16 {y:Tn} (k:y.k=16):lev y=6:=by unfold lev;rw [if_neg (by omega),if_pos k]
theorem lev7 {y:Tn} (k:y.k=21∨y.k=22):lev y=7:=by unfold lev;rw [if_neg (by omega),if_neg (by omega),if_pos k]
theorem lev8 {y:Tn} (h:lev y=8):y.k≠17∧y.k≠16∧y.k≠21∧y.k≠22:=by
 have:=bn_leN y.t.data.toList
 refine⟨fun k=>?_,fun k=>?_,fun k=>?_,fun k=>?_⟩
 ·rw [lev17 k] at h;omega
 ·rw [lev16 k] at h;omega
 ·rw [lev7 (Or.inl k)] at h;omega
 ·rw [lev7 (Or.inr k)] at h;omega
theorem opX_eq {k:Int} {t:ByteArray} {ks:List Tn} {i:Nat} {a:Tn} (n:Nat) (h:ks[i]?=some a) (hb:brk k t a.k a.t i=decide (lev a<n)):opX k t ks (exM ks) i=txl n a:=by
 unfold opX txl
 rw [h,exM_at ks i a h]
 simp only [hb,decide_eq_true_eq,Option.getD_some]
theorem brk17 {a:Tn} (t:ByteArray) (n i:Nat) (hn:n≤6) (hc:(bnS a.t.data.toList=bnS t.data.toList∧(i=1∨bnS t.data.toList=3))∨bnS a.t.data.toList<bnS t.data.toList↔bnS a.t.data.toList<n):brk 17 t a.k a.t i=decide (lev a<n):=by
 unfold brk
 rw [if_neg (by decide),if_neg (by decide),if_pos rfl,ByteArray.toList_eq,ByteArray.toList_eq]
 by_cases k:a.k=17
 ·rw [lev17 k]
  simp only [k,true_and,hc]
 ·have:¬lev a<n:=by
   unfold lev
   rw [if_neg k]
   split
   ·omega
   ·split <;> omega
  simp [k,this]
theorem ex_left {y:Tn} (g:gE y) (k:y.k=17∨y.k=21∨y.k=22):∃a,y.ks[0]?=some a∧gE a∧exT y=txl (if lev y=3 then 4 else lev y) a++tlx y:=by
 rcases k with k|k|k
 ·obtain⟨a,b,e,ga,gb,h⟩:=bin_of g k
  refine⟨a,by rw [e];rfl,ga,?_⟩
  have hle:=bn_leN y.t.data.toList
  unfold exT ex1 tlx
  rw [lev17 k,k,if_neg (by decide),if_neg (by decide),if_neg (by decide),if_neg (by decide),if_neg (by decide),if_pos rfl,if_pos rfl]
  rw [opX_eq (a:=a) (if bnS y.t.data.toList=3 then 4 else bnS y.t.data.toList) (by rw [e];rfl) (brk17 y.t _ 0 (by split <;> omega) (by split <;> omega)),opX_eq (a:=b) (bnS y.t.data.toList+1) (by rw [e];rfl) (brk17 y.t _ 1 (by omega) (by omega)),e]
  rfl
 ·obtain⟨a,b,e,ga,gb,h⟩:=at_of g k
  refine⟨a,by rw [e];rfl,ga,?_⟩
  unfold exT ex1 tlx
  rw [lev7 (Or.inl k),k,if_neg (by decide),if_neg (by decide),if_neg (by decide),if_neg (by decide),if_neg (by decide),if_neg (by decide),if_pos rfl,if_neg (by decide),if_neg (by decide),if_pos rfl]
  rw [opX_eq (a:=a) 7 (by rw [e];rfl) ?_,e]
  ·rw [exM_map];rfl
  ·exact brk7 ga (Or.inl rfl) _
 ·obtain⟨a,e,ga,h⟩:=fd_of g k
  refine⟨a,by rw [e];rfl,ga,?_⟩
  unfold exT ex1 tlx
  rw [lev7 (Or.inr k),k,if_neg (by decide),if_neg (by decide),if_neg (by decide),if_neg (by decide),if_neg (by decide),if_neg (by decide),if_neg (by decide),if_pos rfl,if_neg (by decide),if_neg (by decide),if_neg (by decide)]
  rw [opX_eq (a:=a) 7 (by rw [e];rfl) ?_]
  ·exact brk7 ga (Or.inr rfl) _
def Fol (n:Nat) (r:List UInt8):Prop:=r=[]∨(∃c q,r=c :: q∧(c=41∨c=93∨c=44∨c=59∨c=125))∨(∃q,r=32 :: 61 :: 32 :: q)∨(∃t q,r=32 :: (t++32 :: q)∧0<bnS t∧bnS t<n)∨(8≤n∧∃c q,r=c :: q∧(c=91∨c=46))
theorem Fol.up {n m:Nat} {r:List UInt8} (h:Fol n r) (hm:n≤m):Fol m r:=by
 rcases h with h|h|h|⟨t,q,e,h0,h1⟩|⟨h0,h⟩
 ·exact Or.inl h
 ·exact Or.inr (Or.inl h)
 ·exact Or.inr (Or.inr (Or.inl h))
 ·exact Or.inr (Or.inr (Or.inr (Or.inl ⟨t,q,e,h0,by omega⟩)))
 ·exact Or.inr (Or.inr (Or.inr (Or.inr ⟨by omega,h⟩)))
theorem Fol.head {n:Nat} {r:List UInt8} (h:Fol n r):∀x,r.head?=some x→x=41∨x=93∨x=44∨x=59∨x=125∨x=32∨x=91∨x=46:=by
 intro x hx
 rcases h with rfl|⟨c,q,rfl,h⟩|⟨q,rfl⟩|⟨t,q,rfl,h0,h1⟩|⟨h0,c,q,rfl,h⟩
 ·simp at hx
 ·simp at hx;subst hx;rcases h with h|h|h|h|h <;> simp [h]
 ·simp at hx;subst hx;simp
 ·simp at hx;subst hx;simp
 ·simp at hx;subst hx;rcases h with h|h <;> simp [h]
theorem Fol.word {n:Nat} {r:List UInt8} (h:Fol n r):∀x,r.head?=some x→lxW x=false:=by
 intro x hx
 rcases h.head x hx with rfl|rfl|rfl|rfl|rfl|rfl|rfl|rfl <;> decide
theorem fol_end (n:Nat) (c:UInt8) (q:List UInt8) (h:c=41∨c=93∨c=44∨c=59∨c=125):Fol n (c :: q):=Or.inr (Or.inl ⟨c,q,rfl,h⟩)
def Bld (n:Nat):Tn→List Tn→Tn→Prop
 |h,[],y=>y=h
 |h,u :: T,y=>u.ks[0]?=some h∧lev u=n∧gE u∧Bld n u T y
theorem bld_snoc {n:Nat} {a y:Tn} (hy:y.ks[0]?=some a) (hl:lev y=n) (g:gE y):∀(T:List Tn) (h:Tn),Bld n h T a→Bld n h (T++[y]) y
 |[],h,e=>by
  have e:a=h:=e
  subst e
  exact⟨hy,hl,g,rfl⟩
 |u :: T,h,⟨e1,e2,e3,e4⟩=>⟨e1,e2,e3,bld_snoc hy hl g T u e4⟩
def flT (T:List Tn):List UInt8:=T.flatMap tlx
theorem lev_kind {y:Tn} (h:lev y≠8) (h6:lev y≠6):y.k=17∨y.k=21∨y.k=22:=by
 unfold lev at h h6
 split at h
 ·rename_i k;exact Or.inl k
 ·split at h
  ·rename_i k1 k2
   rw [if_neg k1,if_pos k2] at h6
   omega
  ·split at h
   ·rename_i k;exact Or.inr k
   ·omega
theorem chain_ex (n:Nat) (h0:1≤n) (h7:n≤7) (h6:n≠6):∀(N:Nat) (y:Tn),sz y≤N→gE y→∃h T,Bld n h T y∧txl n y=txl (n+1) h++flT T∧sz h≤sz y∧gE h∧(∀u∈T,sz u≤sz y∧gE u∧lev u=n)∧(lev y=n→sz h<sz y)∧(lev y≠n→h=y)
 |0,y,hN,g=>by
  unfold sz at hN
  rw [cns_one] at hN
  omega
 |N+1,y,hN,g=>by
  by_cases hl:lev y=n
  ·obtain⟨a,ha,ga,e⟩:=ex_left g (lev_kind (by omega) (by omega))
   have hsa:=sz_kid (y:=y) (a:=a) (List.mem_of_getElem? ha)
   have et:txl n y=exT y:=by unfold txl;rw [if_neg (by omega)]
   by_cases h3:n=3
   ·refine⟨a,[y],⟨ha,hl,g,rfl⟩,?_,by omega,ga,?_,fun _=>hsa,fun h=>absurd hl h⟩
    ·rw [et,e,if_pos (by omega),h3]
     simp [flT]
    ·intro u hu
     obtain rfl:u=y:=by simpa using hu
     exact⟨Nat.le_refl _,g,hl⟩
   ·obtain⟨h,T,b1,b2,b3,b4,b5,_,_⟩:=chain_ex n h0 h7 h6 N a (by omega) ga
    refine⟨h,T++[y],bld_snoc ha hl g T h b1,?_,by omega,b4,?_,fun _=>by omega,fun h=>absurd hl h⟩
    ·rw [et,e,if_neg (by omega),hl,b2]
     simp [flT]
    ·intro u hu
     rcases List.mem_append.1 hu with hu|hu
     ·have:=b5 u hu
      exact⟨by omega,this.2⟩
     ·obtain rfl:u=y:=by simpa using hu
      exact⟨Nat.le_refl _,g,hl⟩
  ·refine⟨y,[],rfl,?_,Nat.le_refl _,g,fun u hu=>by simp at hu,fun h=>absurd h hl,fun _=>rfl⟩
   unfold txl
   by_cases h:lev y<n
   ·rw [if_pos h,if_pos (by omega)];simp [flT]
   ·rw [if_neg h,if_neg (by omega)];simp [flT]
def Cl (n:Nat) (y:Tn):Prop:=∀(z:Tn) (r s:List UInt8),gE z→Fol n r→Fol n s→txl n y++r=txl n z++s→smN y z=true∧r=s
def Ts (u v:Tn):Prop:=u.k=v.k∧u.t.data.toList=v.t.data.toList∧smL (u.ks.drop 1) (v.ks.drop 1)=true
def All2:List Tn→List Tn→Prop
 |[],[]=>True
 |u :: T,v :: U=>Ts u v∧All2 T U
 |_,_=>False
theorem name_w {t:List UInt8} (h:nameL t=true):∀x∈t,lxW x=true:=by
 unfold nameL at h
 simp only [Bool.and_eq_true,List.all_eq_true] at h
 exact h.1.2
theorem name_inj {t u q q':List UInt8} (ht:nameL t=true) (hu:nameL u=true) (hq:∀x,q.head?=some x→lxW x=false) (hq':∀x,q'.head?=some x→lxW x=false) (h:t++q=u++q'):t=u∧q=q':=span_inj lxW t u q q' (name_w ht) (name_w hu) hq hq' h
theorem one_lev {y:Tn} (g:gE y):txl 1 y=exT y:=by
 unfold txl
 rw [if_neg (by have:=lev_range g;omega)]
theorem tlx17 {u b:Tn} {a:Tn} (k:u.k=17) (e:u.ks=[a,b]):tlx u=32 :: (u.t.data.toList++32 :: txl (bnS u.t.data.toList+1) b):=by
 unfold tlx
 rw [if_pos k,e]
 rfl
theorem tlx21 {u b:Tn} {a:Tn} (k:u.k=21) (e:u.ks=[a,b]):tlx u=91 :: (exT b++[93]):=by
 unfold tlx
 rw [if_neg (by omega),if_pos k,e]
 rfl
theorem tlx22 {u:Tn} (k:u.k=22):tlx u=46 :: u.t.data.toList:=by
 unfold tlx
 rw [if_neg (by omega),if_neg (by omega)]
theorem tail_inj {n:Nat} (h7:n≤7) (h6:n≠6) {u v:Tn} (gu:gE u) (gv:gE v) (lu:lev u=n) (lv:lev v=n) {R S:List UInt8} (hR:Fol (n+1) R) (hS:Fol (n+1) S) (hc:∀b∈u.ks,gE b→∀m,1≤m→m≤8→Cl m b) (h:tlx u++R=tlx v++S):Ts u v∧R=S:=by
 have ku:=lev_kind (y:=u) (by omega) (by omega)
 have kv:=lev_kind (y:=v) (by omega) (by omega)
 have l17:∀y:Tn,gE y→y.k=17→lev y≤5:=fun y _ k=>by rw [lev17 k];exact bn_leN _
 have l7:∀y:Tn,y.k=21∨y.k=22→lev y=7:=fun y k=>lev7 k
 by_cases hn:n≤5
 ·have ku:u.k=17:=by
   rcases ku with k|k
   ·exact k
   ·have:=l7 u k;omega
  have kv:v.k=17:=by
   rcases kv with k|k
   ·exact k
   ·have:=l7 v k;omega
  obtain⟨a,b,e,ga,gb,hb⟩:=bin_of gu ku
  obtain⟨a',b',e',ga',gb',hb'⟩:=bin_of gv kv
  rw [tlx17 ku e,tlx17 kv e'] at h
  rw [lev17 ku] at lu
  rw [lev17 kv] at lv
  rw [lu,lv] at h
  simp only [List.cons_append,List.append_assoc,List.cons.injEq,true_and] at h
  obtain⟨ht,h2⟩:=sgn_inj (bn_clean hb).1 (bn_clean hb').1 h
  obtain⟨h3,h4⟩:=hc b (by rw [e];simp) gb (n+1) (by omega) (by omega) b' R S gb' hR hS h2
  refine⟨⟨by rw [ku,kv],ht,?_⟩,h4⟩
  rw [e,e']
  simp [smL_cons,smL_nil,h3]
 ·have hn7:n=7:=by omega
  have ku:u.k=21∨u.k=22:=by
   rcases ku with k|k
   ·have:=l17 u gu k;omega
   ·exact k
  have kv:v.k=21∨v.k=22:=by
   rcases kv with k|k
   ·have:=l17 v gv k;omega
   ·exact k
  rcases ku with ku|ku <;> rcases kv with kv|kv
  ·obtain⟨a,b,e,ga,gb,hb⟩:=at_of gu ku
   obtain⟨a',b',e',ga',gb',hb'⟩:=at_of gv kv
   rw [tlx21 ku e,tlx21 kv e',←one_lev gb,←one_lev gb'] at h
   simp only [List.cons_append,List.append_assoc,List.nil_append,List.cons.injEq,true_and] at h
   obtain⟨h3,h4⟩:=hc b (by rw [e];simp) gb 1 (by omega) (by omega) b' _ _ gb' (fol_end 1 93 R (by simp)) (fol_end 1 93 S (by simp)) h
   refine⟨⟨by rw [ku,kv],by rw [hb,hb'],?_⟩,by simpa using h4⟩
   rw [e,e']
   simp [smL_cons,smL_nil,h3]
  ·obtain⟨a,b,e,ga,gb,hb⟩:=at_of gu ku
   rw [tlx21 ku e,tlx22 kv] at h
   simp at h
  ·obtain⟨a,b,e,ga,gb,hb⟩:=at_of gv kv
   rw [tlx21 kv e,tlx22 ku] at h
   simp at h
  ·obtain⟨a,e,ga,hb⟩:=fd_of gu ku
   obtain⟨a',e',ga',hb'⟩:=fd_of gv kv
   rw [tlx22 kv,tlx22 ku] at h
   simp only [List.cons_append,List.cons.injEq,true_and] at h
   obtain⟨h3,h4⟩:=name_inj hb hb' hR.word hS.word h
   refine⟨⟨by rw [ku,kv],h3,?_⟩,h4⟩
   rw [e,e']
   simp [smL_nil]
theorem fol_tail {n:Nat} (h7:n≤7) (h6:n≠6) {u:Tn} (gu:gE u) (lu:lev u=n) {X:List UInt8} (h:Fol n (tlx u++X)):False:=by
 have l17:u.k=17→lev u≤5:=fun k=>by rw [lev17 k];exact bn_leN _
 rcases lev_kind (y:=u) (by omega) (by omega) with k|k|k
 ·obtain⟨a,b,e,ga,gb,hb⟩:=bin_of gu k
  rw [tlx17 k e] at h
  rw [lev17 k] at lu
  rcases h with h|⟨c,q,h,hc⟩|⟨q,h⟩|⟨t,q,h,h0,h1⟩|⟨h0,h⟩
  ·simp at h
  ·simp at h
   rw [←h.1] at hc
   revert hc
   decide
  ·simp only [List.cons_append,List.append_assoc,List.cons.injEq,true_and] at h
   have:=sgn_inj (u:=[61]) (bn_clean hb).1 (by decide) h
   exact(bn_clean hb).2 this.1
  ·simp only [List.cons_append,List.append_assoc,List.cons.injEq,true_and] at h
   have:=sgn_inj (bn_clean hb).1 (bn_clean h0).1 h
   rw [this.1] at lu
   omega
  ·omega
 ·obtain⟨a,b,e,ga,gb,hb⟩:=at_of gu k
  rw [tlx21 k e] at h
  rw [lev7 (Or.inl k)] at lu
  rcases h with h|⟨c,q,h,hc⟩|⟨q,h⟩|⟨t,q,h,h0,h1⟩|⟨h0,h⟩
  ·simp at h
  ·simp at h
   rw [←h.1] at hc
   revert hc
   decide
  ·simp at h
  ·simp at h
  ·omega
 ·rw [tlx22 k] at h
  rw [lev7 (Or.inr k)] at lu
  rcases h with h|⟨c,q,h,hc⟩|⟨q,h⟩|⟨t,q,h,h0,h1⟩|⟨h0,h⟩
  ·simp at h
  ·simp at h
   rw [←h.1] at hc
   revert hc
   decide
  ·simp at h
  ·simp at h
  ·omega
theorem tail_fol {n:Nat} (h7:n≤7) (h6:n≠6) {u:Tn} (gu:gE u) (lu:lev u=n) (X:List UInt8):Fol (n+1) (tlx u++X):=by
 have l17:u.k=17→lev u≤5:=fun k=>by rw [lev17 k];exact bn_leN _
 rcases lev_kind (y:=u) (by omega) (by omega) with k|k|k
 ·obtain⟨a,b,e,ga,gb,hb⟩:=bin_of gu k
  rw [tlx17 k e]
  rw [lev17 k] at lu
  exact Or.inr (Or.inr (Or.inr (Or.inl ⟨u.t.data.toList,txl (bnS u.t.data.toList+1) b++X,by simp,hb,by omega⟩)))
 ·obtain⟨a,b,e,ga,gb,hb⟩:=at_of gu k
  rw [tlx21 k e]
  rw [lev7 (Or.inl k)] at lu
  exact Or.inr (Or.inr (Or.inr (Or.inr ⟨by omega,91,_,rfl,Or.inl rfl⟩)))
 ·rw [tlx22 k]
  rw [lev7 (Or.inr k)] at lu
  exact Or.inr (Or.inr (Or.inr (Or.inr ⟨by omega,46,_,rfl,Or.inr rfl⟩)))
theorem flT_fol {n:Nat} (h7:n≤7) (h6:n≠6) {T:List Tn} (hT:∀u∈T,gE u∧lev u=n) {r:List UInt8} (hr:Fol n r):Fol (n+1) (flT T++r):=by
 cases T with
 |nil=>exact hr.up (by omega)
 |cons u T=>
  have:=hT u (by simp)
  have e:flT (u :: T)++r=tlx u++(flT T++r):=by simp [flT]
  rw [e]
  exact tail_fol h7 h6 this.1 this.2 _
theorem tails_inj {n:Nat} (h7:n≤7) (h6:n≠6):∀(T U:List Tn) (r s:List UInt8),(∀u∈T,gE u∧lev u=n)→(∀u∈U,gE u∧lev u=n)→(∀u∈T,∀b∈u.ks,gE b→∀m,1≤m→m≤8→Cl m b)→Fol n r→Fol n s→flT T++r=flT U++s→All2 T U∧r=s
 |[],[],r,s,_,_,_,_,_,h=>⟨trivial,by simpa [flT] using h⟩
 |[],v :: U,r,s,_,hU,_,hr,_,h=>by
  have e:r=tlx v++(flT U++s):=by simpa [flT] using h
  have:=hU v (by simp)
  rw [e] at hr
  exact(fol_tail h7 h6 this.1 this.2 hr).elim
 |u :: T,[],r,s,hT,_,_,_,hs,h=>by
  have e:s=tlx u++(flT T++r):=by simpa [flT] using h.symm
  have:=hT u (by simp)
  rw [e] at hs
  exact(fol_tail h7 h6 this.1 this.2 hs).elim
 |u :: T,v :: U,r,s,hT,hU,hc,hr,hs,h=>by
  have e1:flT (u :: T)++r=tlx u++(flT T++r):=by simp [flT]
  have e2:flT (v :: U)++s=tlx v++(flT U++s):=by simp [flT]
  rw [e1,e2] at h
  have g1:=hT u (by simp)
  have g2:=hU v (by simp)
  have hT':∀u∈T,gE u∧lev u=n:=fun x hx=>hT x (by simp [hx])
  have hU':∀u∈U,gE u∧lev u=n:=fun x hx=>hU x (by simp [hx])
  obtain⟨h1,h2⟩:=tail_inj h7 h6 g1.1 g2.1 g1.2 g2.2 (flT_fol h7 h6 hT' hr) (flT_fol h7 h6 hU' hs) (hc u (by simp)) h
  obtain⟨h3,h4⟩:=tails_inj h7 h6 T U r s hT' hU' (fun x hx=>hc x (by simp [hx])) hr hs h2
  exact⟨⟨h1,h3⟩,h4⟩
theorem bld_same {n:Nat} (h7:n≤7):∀(T U:List Tn) (h h' y z:Tn),Bld n h T y→Bld n h' U z→All2 T U→smN h h'=true→smN y z=true
 |[],[],h,h',y,z,e,e',_,hs=>by
  have e:y=h:=e
  have e':z=h':=e'
  rw [e,e']
  exact hs
 |[],_ :: _,_,_,_,_,_,_,ha,_=>ha.elim
 |_ :: _,[],_,_,_,_,_,_,ha,_=>ha.elim
 |u :: T,v :: U,h,h',y,z,⟨e1,e2,e3,e4⟩,⟨d1,d2,d3,d4⟩,⟨⟨a1,a2,a3⟩,ha⟩,hs=>by
  refine bld_same h7 T U u v y z e4 d4 ha ?_
  have k8:∀x:Tn,lev x=n→x.k=17∨x.k=16∨x.k=21∨x.k=22:=by
   intro x hx
   unfold lev at hx
   split at hx
   ·rename_i k;exact Or.inl k
   ·split at hx
    ·rename_i k;exact Or.inr (Or.inl k)
    ·split at hx
     ·rename_i k;exact Or.inr (Or.inr k)
     ·omega
  have ku:=k8 u e2
  refine smN_of e3.1 d3.1 a1 (by omega) (by omega) a2 ?_
  have s1:u.ks=h :: u.ks.drop 1:=by
   cases hu:u.ks with
   |nil=>rw [hu] at e1;simp at e1
   |cons x r=>rw [hu] at e1;simp at e1;rw [e1];rfl
  have s2:v.ks=h' :: v.ks.drop 1:=by
   cases hu:v.ks with
   |nil=>rw [hu] at d1;simp at d1
   |cons x r=>rw [hu] at d1;simp at d1;rw [d1];rfl
  rw [s1,s2,smL_cons,hs,a3]
  rfl
theorem cl_step {n:Nat} (h0:1≤n) (h7:n≤7) (h6:n≠6) {y:Tn} (g:gE y) (hsm:∀b,sz b<sz y→gE b→∀m,1≤m→m≤8→Cl m b) (hh:lev y≠n→Cl (n+1) y):Cl n y:=by
 intro z r s gz hr hs h
 obtain⟨a,T,b1,b2,b3,b4,b5,b6,b7⟩:=chain_ex n h0 h7 h6 _ y (Nat.le_refl _) g
 obtain⟨a',U,d1,d2,d3,d4,d5,d6,d7⟩:=chain_ex n h0 h7 h6 _ z (Nat.le_refl _) gz
 rw [b2,d2,List.append_assoc,List.append_assoc] at h
 have hT:∀u∈T,gE u∧lev u=n:=fun u hu=>(b5 u hu).2
 have hU:∀u∈U,gE u∧lev u=n:=fun u hu=>(d5 u hu).2
 have hca:Cl (n+1) a:=by
  by_cases hl:lev y=n
  ·exact hsm a (b6 hl) b4 (n+1) (by omega) (by omega)
  ·rw [b7 hl];exact hh hl
 obtain⟨h1,h2⟩:=hca a' _ _ d4 (flT_fol h7 h6 hT hr) (flT_fol h7 h6 hU hs) h
 obtain⟨h3,h4⟩:=tails_inj h7 h6 T U r s hT hU (fun u hu b hb gb=>hsm b (by have:=sz_kid hb;have:=(b5 u hu).1;omega) gb) hr hs h2
 exact⟨bld_same h7 T U a a' y z b1 d1 h3 h1,h4⟩
end Go.Proofs.YtekbmfppfjlboaaGreatDoor
