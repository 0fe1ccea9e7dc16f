/-
  A right value is told by its text, whatever stands behind (as OrdT, without the order); conditions: right values.
-/
import Derived.Test.YtekbmfppfjlboaaGreatDoorA23
import Derived.Test.YtekbmfppfjlboaaGreatDoorA27
set_option linter.unusedVariables false
set_option linter.unusedSimpArgs false
namespace Go.Proofs.YtekbmfppfjlboaaGreatDoor
open Go.RowKit
set_option linter.unusedVariables false
set_option linter.unusedSimpArgs false
def digB (c:UInt8):Bool:=decide (48≤c.toNat∧c.toNat≤57)
def Stp (x:List UInt8):Prop:=∀c r,x=c :: r→digB c=false
theorem take_stop {x:List UInt8} (h:Stp x):x.takeWhile digB=[]∧x.dropWhile digB=x:=by
 cases x with
 |nil=>exact⟨rfl,rfl⟩
 |cons c r=>
  have:=h c r rfl
  simp [List.takeWhile_cons,List.dropWhile_cons,this]
theorem dg_toNat {k:Nat} (h:k<10):(UInt8.ofNat (48+k)).toNat=48+k:=by simp;omega
theorem dec_digs (u:Nat):(∀c∈Lib.decDigits u,digB c=true)∧(Lib.decDigits u).foldl (fun a c=>a * 10+(c.toNat - 48)) 0=u∧Lib.decDigits u≠[]:=by
 induction u using Nat.strongRecOn with
 |_ u ih=>
  by_cases h:u<10
  ·rw [Lib.decDigits,dif_pos h]
   have e:=dg_toNat h
   refine⟨fun c hc=>?_,?_,by simp⟩
   ·simp only [List.mem_cons,List.not_mem_nil,or_false] at hc
    subst hc
    unfold digB
    rw [e]
    simp;omega
   ·simp only [List.foldl_cons,List.foldl_nil]
    rw [e]
    omega
  ·obtain⟨h1,h2,h3⟩:=ih (u / 10) (by omega)
   have e:=dg_toNat (show u % 10<10 by omega)
   rw [Lib.decDigits,dif_neg h]
   refine⟨fun c hc=>?_,?_,by simp⟩
   ·rcases List.mem_append.1 hc with hc|hc
    ·exact h1 c hc
    ·simp only [List.mem_cons,List.not_mem_nil,or_false] at hc
     subst hc
     unfold digB
     rw [e]
     simp;omega
   ·rw [List.foldl_append,h2]
    simp only [List.foldl_cons,List.foldl_nil]
    rw [e]
    omega
theorem dec_inj {u u':Nat} {x y:List UInt8} (hx:Stp x) (hy:Stp y) (h:Lib.decDigits u++x=Lib.decDigits u'++y):u=u'∧x=y:=by
 have t:=congrArg (List.takeWhile digB) h
 have d:=congrArg (List.dropWhile digB) h
 rw [List.takeWhile_append_of_pos (dec_digs u).1,List.takeWhile_append_of_pos (dec_digs u').1,(take_stop hx).1,(take_stop hy).1,List.append_nil,List.append_nil] at t
 rw [List.dropWhile_append_of_pos (dec_digs u).1,List.dropWhile_append_of_pos (dec_digs u').1,(take_stop hx).2,(take_stop hy).2] at d
 refine⟨?_,d⟩
 have e:=congrArg (List.foldl (fun a c=>a * 10+(UInt8.toNat c - 48)) 0) t
 rw [(dec_digs u).2.1,(dec_digs u').2.1] at e
 exact e
theorem dec_head (u:Nat):∃c r,Lib.decDigits u=c :: r∧digB c=true:=by
 obtain⟨h1,_,h3⟩:=dec_digs u
 cases h:Lib.decDigits u with
 |nil=>exact absurd h h3
 |cons c r=>exact⟨c,r,rfl,h1 c (by rw [h];exact List.mem_cons_self ..)⟩
theorem itoa_inj {n m:Int} {x y:List UInt8} (hx:Stp x) (hy:Stp y) (h:Lib.itoa n++x=Lib.itoa m++y):n=m∧x=y:=by
 unfold Lib.itoa at h
 by_cases h1:n<0
 ·by_cases h2:m<0
  ·rw [if_pos h1,if_pos h2,List.cons_append,List.cons_append] at h
   obtain⟨e1,e2⟩:=dec_inj hx hy (List.cons.inj h).2
   exact⟨by omega,e2⟩
  ·rw [if_pos h1,if_neg h2] at h
   obtain⟨c,r,e,hc⟩:=dec_head m.toNat
   rw [e] at h
   have:=(List.cons.inj h).1
   subst this
   exact absurd hc (by decide)
 ·by_cases h2:m<0
  ·rw [if_neg h1,if_pos h2] at h
   obtain⟨c,r,e,hc⟩:=dec_head n.toNat
   rw [e] at h
   have:=(List.cons.inj h).1
   subst this
   exact absurd hc (by decide)
  ·rw [if_neg h1,if_neg h2] at h
   obtain⟨e1,e2⟩:=dec_inj hx hy h
   exact⟨by omega,e2⟩
theorem itoa_head (n:Int):∃c r,Lib.itoa n=c :: r∧(c=45∨digB c=true):=by
 unfold Lib.itoa
 split
 ·exact⟨_,_,rfl,.inl rfl⟩
 ·obtain⟨c,r,e,h⟩:=dec_head n.toNat
  exact⟨c,r,e,.inr h⟩
def unhx (h:UInt8):Nat:=if h.toNat<58 then h.toNat - 48 else h.toNat - 87
def unq:List UInt8→Option (UInt8 × List UInt8)
 |92 :: 120 :: h :: l :: r=>some (UInt8.ofNat (unhx h * 16+unhx l),r)
 |92 :: c :: r=>some (c,r)
 |c :: r=>some (c,r)
 |[]=>none
theorem unhx_ok:∀d:Fin 16,unhx (by8 (hxI (d.val:Int)))=d.val:=by decide +kernel
theorem unq_q (c:UInt8) (r:List UInt8):unq (qU c++r)=some (c,r):=by
 by_cases h1:c.toNat=34∨c.toNat=92
 ·rw [qU_esc c h1]
  rcases h1 with h|h
  ·obtain rfl:c=34:=UInt8.toNat_inj.1 h
   rfl
  ·obtain rfl:c=92:=UInt8.toNat_inj.1 h
   rfl
 ·by_cases h2:32≤c.toNat∧c.toNat≤126
  ·rw [qU_own c h2.1 h2.2 (by omega) (by omega)]
   have h92:c≠92:=fun e=>by subst e;exact h1 (.inr rfl)
   show unq (c :: r)=_
   unfold unq
   split
   ·rename_i heq;exact absurd (List.cons.inj heq).1 h92
   ·rename_i heq;exact absurd (List.cons.inj heq).1 h92
   ·rename_i heq
    obtain⟨rfl,rfl⟩:=List.cons.inj heq
    rfl
   ·rename_i heq;cases heq
  ·rw [qU_num c (by omega)]
   have hc:=c.toNat_lt
   show some (UInt8.ofNat (unhx (by8 (hxI ((c.toNat:Int) / 16))) * 16+unhx (by8 (hxI ((c.toNat:Int) % 16)))),r)=_
   have e1:=unhx_ok ⟨c.toNat / 16,by omega⟩
   have e2:=unhx_ok ⟨c.toNat % 16,by omega⟩
   simp only at e1 e2
   rw [show ((c.toNat / 16:Nat):Int)=(c.toNat:Int) / 16 by omega] at e1
   rw [show ((c.toNat % 16:Nat):Int)=(c.toNat:Int) % 16 by omega] at e2
   rw [e1,e2,show c.toNat / 16 * 16+c.toNat % 16=c.toNat by omega]
   simp
theorem q_head (c:UInt8):∃d r,qU c=d :: r∧d≠34:=by
 by_cases h1:c.toNat=34∨c.toNat=92
 ·exact⟨92,[c],qU_esc c h1,by decide⟩
 ·by_cases h2:32≤c.toNat∧c.toNat≤126
  ·exact⟨c,[],qU_own c h2.1 h2.2 (by omega) (by omega),fun e=>by subst e;exact h1 (.inl rfl)⟩
  ·exact⟨92,_,qU_num c (by omega),by decide⟩
theorem flat_inj:∀(s s':List UInt8) (x y:List UInt8),s.flatMap qU++34 :: x=s'.flatMap qU++34 :: y→s=s'∧x=y
 |[],[],x,y,h=>⟨rfl,by simpa using h⟩
 |[],c :: s',x,y,h=>by
  obtain⟨d,r,e,hd⟩:=q_head c
  rw [List.flatMap_cons,e] at h
  simp at h
  exact absurd h.1.symm hd
 |c :: s,[],x,y,h=>by
  obtain⟨d,r,e,hd⟩:=q_head c
  rw [List.flatMap_cons,e] at h
  simp at h
  exact absurd h.1 hd
 |c :: s,c' :: s',x,y,h=>by
  rw [List.flatMap_cons,List.flatMap_cons,List.append_assoc,List.append_assoc] at h
  have e:=congrArg unq h
  rw [unq_q,unq_q] at e
  simp only [Option.some.injEq,Prod.mk.injEq] at e
  obtain⟨e1,e2⟩:=flat_inj s s' x y e.2
  exact⟨by rw [e.1,e1],e2⟩
theorem quote_inj {s s':ByteArray} {x y:List UInt8} (h:quoteU s++x=quoteU s'++y):s=s'∧x=y:=by
 rw [quoteU_eq,quoteU_eq] at h
 simp only [List.cons_append,List.append_assoc,List.nil_append,List.cons.injEq,true_and] at h
 obtain⟨e1,e2⟩:=flat_inj _ _ _ _ h
 exact⟨Go.WideShapes.bytes_inj e1,e2⟩
theorem form_allv {k n:Int} {s:ByteArray} {ll:Nat} {ks:List ByteArray} (h:formB k n s ll ks=true) :
  (k=0∧n=0∧s.toList=[]∧ll=0∧ks=[])∨(k=1∧(n=0∨n=1)∧s.toList=[]∧ll=0∧ks=[])∨(k=2∧s.toList=[]∧ll=0∧ks=[])∨(k=3∧n=0∧ll=0∧ks=[])∨(k=4∧n=0∧s.toList=[]∧ks=[])∨(k=5∧n=0∧s.toList=[]∧ks.length=ll):=by
 unfold formB formM at h
 by_cases k0:k=0
 ·subst k0
  simp at h
  exact .inl ⟨rfl,by simp [h]⟩
 by_cases k1:k=1
 ·subst k1
  simp at h
  exact .inr (.inl ⟨rfl,by simp [h]⟩)
 by_cases k2:k=2
 ·subst k2
  simp at h
  exact .inr (.inr (.inl ⟨rfl,by simp [h]⟩))
 by_cases k3:k=3
 ·subst k3
  simp at h
  exact .inr (.inr (.inr (.inl ⟨rfl,by simp [h]⟩)))
 by_cases k4:k=4
 ·subst k4
  simp at h
  exact .inr (.inr (.inr (.inr (.inl ⟨rfl,by simp [h]⟩))))
 by_cases k5:k=5
 ·subst k5
  simp at h
  exact .inr (.inr (.inr (.inr (.inr ⟨rfl,by simp [h]⟩))))
 ·simp [k0,k1,k2,k3,k4,k5] at h
def tag (c:UInt8):Int:=if c=117 then 0 else if c=116∨c=102 then 1 else if c=34 then 3 else if c=91 then 4 else if c=123 then 5 else 2
theorem dig_tag {c:UInt8} (h:digB c=true):tag c=2∧c≠44∧c≠93∧c≠125:=by
 have hh:48≤c.toNat∧c.toNat≤57:=by simpa [digB] using h
 have ne:∀d:UInt8,¬(48≤d.toNat∧d.toNat≤57)→c≠d:=fun d hd e=>by subst e;exact hd hh
 unfold tag
 rw [if_neg (ne 117 (by decide)),if_neg (fun e=>by rcases e with e|e;exact ne 116 (by decide) e;exact ne 102 (by decide) e),if_neg (ne 34 (by decide)),if_neg (ne 91 (by decide)),if_neg (ne 123 (by decide))]
 exact⟨rfl,ne 44 (by decide),ne 93 (by decide),ne 125 (by decide)⟩
theorem txt_head {d:Nat} {v:Vl} (h:okB d v=true):∃c r,txt v=c :: r∧tag c=v.kind∧c≠44∧c≠93∧c≠125:=by
 cases v with
 |mk k n s l ks=>
  cases d with
  |zero=>simp [okB] at h
  |succ d=>
   rw [okB,Bool.and_eq_true] at h
   rcases form_allv h.1 with ⟨rfl,_⟩|⟨rfl,h1,_⟩|⟨rfl,_⟩|⟨rfl,_⟩|⟨rfl,_⟩|⟨rfl,_⟩
   ·exact⟨117,_,rfl,(by decide:tag 117=0∧(117:UInt8)≠44∧(117:UInt8)≠93∧(117:UInt8)≠125)⟩
   ·rcases h1 with rfl|rfl
    ·exact⟨102,_,rfl,(by decide:tag 102=1∧(102:UInt8)≠44∧(102:UInt8)≠93∧(102:UInt8)≠125)⟩
    ·exact⟨116,_,rfl,(by decide:tag 116=1∧(116:UInt8)≠44∧(116:UInt8)≠93∧(116:UInt8)≠125)⟩
   ·obtain⟨c,r,e,hc⟩:=itoa_head n
    refine⟨c,r,by simp [txt,oneT,e],?_⟩
    rcases hc with rfl|hc
    ·exact(by decide:tag 45=2∧(45:UInt8)≠44∧(45:UInt8)≠93∧(45:UInt8)≠125)
    ·exact dig_tag hc
   ·exact⟨34,_,by simp [txt,oneT,quoteU_eq];rfl,(by decide:tag 34=3∧(34:UInt8)≠44∧(34:UInt8)≠93∧(34:UInt8)≠125)⟩
   ·exact⟨91,_,by simp [txt,oneT];rfl,(by decide:tag 91=4∧(91:UInt8)≠44∧(91:UInt8)≠93∧(91:UInt8)≠125)⟩
   ·exact⟨123,_,by simp [txt,oneT];rfl,(by decide:tag 123=5∧(123:UInt8)≠44∧(123:UInt8)≠93∧(123:UInt8)≠125)⟩
def InjAt (d:Nat):Prop:=∀v v' x y,okB d v=true→okB d v'=true→Stp x→Stp y→txt v++x=txt v'++y→v=v'∧x=y
theorem txtL_stop (r:Bool) (l:List Vl) (ks:List ByteArray) (c:UInt8) (x:List UInt8) (hc:c=93∨c=125):Stp (txtL r l ks false++c :: x):=by
 intro a b e
 cases l with
 |nil=>
  simp [txtL] at e
  rw [←e.1]
  rcases hc with rfl|rfl <;> decide
 |cons y q=>
  rw [txtL_cons] at e
  simp [headT] at e
  rw [←e.1]
  decide
theorem txtL_first {d:Nat} {r:Bool} {y:Vl} {q:List Vl} {ks:List ByteArray} {first:Bool} (h:okB d y=true):∃c t,txtL r (y :: q) ks first=c :: t∧c≠93∧c≠125:=by
 rw [txtL_cons]
 cases first with
 |false=>exact⟨44,_,by simp [headT];rfl,by decide⟩
 |true=>
  cases r with
  |true=>exact⟨34,_,by simp [headT,quoteU_eq];rfl,by decide⟩
  |false=>
   obtain⟨c,t,e,_,_,h1,h2⟩:=txt_head h
   exact⟨c,_,by simp [headT,e];rfl,h1,h2⟩
theorem txtL_inj {d:Nat} (ih:InjAt d) (r:Bool) (c:UInt8) (hc:c=93∨c=125):∀(l:List Vl) (ks:List ByteArray) (l':List Vl) (ks':List ByteArray) (first:Bool) (x y:List UInt8),okL d l=true→okL d l'=true→(r=true→ks.length=l.length∧ks'.length=l'.length)→txtL r l ks first++c :: x=txtL r l' ks' first++c :: y→l=l'∧(r=true→ks=ks')∧x=y
 |[],ks,[],ks',first,x,y,_,_,hk,h=>⟨rfl,fun hr=>by
   obtain⟨h1,h2⟩:=hk hr
   rw [List.eq_nil_of_length_eq_zero h1,List.eq_nil_of_length_eq_zero h2],by simpa [txtL] using h⟩
 |[],ks,z :: zs,ks',first,x,y,_,h2,hk,h=>by
  rw [okL_cons,Bool.and_eq_true] at h2
  obtain⟨a,t,e,n1,n2⟩:=txtL_first (r:=r) (q:=zs) (ks:=ks') (first:=first) h2.1
  rw [e] at h
  simp [txtL] at h
  rcases hc with rfl|rfl
  ·exact absurd h.1.symm n1
  ·exact absurd h.1.symm n2
 |z :: zs,ks,[],ks',first,x,y,h1,_,hk,h=>by
  rw [okL_cons,Bool.and_eq_true] at h1
  obtain⟨a,t,e,n1,n2⟩:=txtL_first (r:=r) (q:=zs) (ks:=ks) (first:=first) h1.1
  rw [e] at h
  simp [txtL] at h
  rcases hc with rfl|rfl
  ·exact absurd h.1 n1
  ·exact absurd h.1 n2
 |z :: zs,ks,z' :: zs',ks',first,x,y,h1,h2,hk,h=>by
  rw [okL_cons,Bool.and_eq_true] at h1 h2
  rw [txtL_cons,txtL_cons] at h
  have hs:=txtL_stop r zs ks.tail c x hc
  have hs':=txtL_stop r zs' ks'.tail c y hc
  have core:headT r true ks++(txt z++(txtL r zs ks.tail false++c :: x))=headT r true ks'++(txt z'++(txtL r zs' ks'.tail false++c :: y)):=by
   cases first with
   |true=>simpa [List.append_assoc] using h
   |false=>simpa [headT,List.append_assoc] using h
  cases r with
  |false=>
   simp only [headT,if_true,Bool.false_eq_true,if_false,List.nil_append] at core
   obtain⟨e1,e2⟩:=ih _ _ _ _ h1.1 h2.1 hs hs' core
   obtain⟨e3,_,e5⟩:=txtL_inj ih false c hc zs ks.tail zs' ks'.tail false x y h1.2 h2.2 (fun hr=>by cases hr) e2
   exact⟨by rw [e1,e3],(fun hr=>by cases hr),e5⟩
  |true=>
   obtain⟨k1,k2⟩:=hk rfl
   cases ks with
   |nil=>simp at k1
   |cons t tr=>
    cases ks' with
    |nil=>simp at k2
    |cons t' tr'=>
     simp only [headT,if_true,List.nil_append,List.headD_cons,List.append_assoc] at core
     obtain⟨e0,core⟩:=quote_inj core
     simp only [List.cons_append,List.nil_append,List.cons.injEq,true_and] at core
     obtain⟨e1,e2⟩:=ih _ _ _ _ h1.1 h2.1 hs hs' core
     obtain⟨e3,e4,e5⟩:=txtL_inj ih true c hc zs tr zs' tr' false x y h1.2 h2.2 (fun _=>by simp at k1 k2;exact⟨k1,k2⟩) e2
     exact⟨by rw [e1,e3],(fun _=>by rw [e0,e4 rfl]),e5⟩
theorem empty_eq {s s':ByteArray} (h:s.toList=[]) (h':s'.toList=[]):s=s':=Go.WideShapes.bytes_inj (by rw [←ByteArray.toList_eq,←ByteArray.toList_eq,h,h'])
theorem nil_eq {l l':List Vl} (h:l.length=0) (h':l'.length=0):l=l':=by rw [List.eq_nil_of_length_eq_zero h,List.eq_nil_of_length_eq_zero h']
theorem txt_inj:∀d,InjAt d
 |0=>fun v v' x y h=>by cases v;simp [okB] at h
 |d+1=>fun v v' x y h h' hx hy e=>by
  obtain⟨c,t,e1,g1,_⟩:=txt_head h
  obtain⟨c',t',e2,g2,_⟩:=txt_head h'
  have hkk:v.kind=v'.kind:=by
   rw [e1,e2] at e
   have e3:=(List.cons.inj e).1
   rw [←g1,←g2,e3]
  clear e1 e2 g1 g2
  cases v with
  |mk k n s l ks=>
   cases v' with
   |mk k' n' s' l' ks'=>
    simp only at hkk
    subst hkk
    rw [okB,Bool.and_eq_true] at h h'
    rcases form_allv h.1 with ⟨rfl,a1,a2,a3,a4⟩|⟨rfl,a1,a2,a3,a4⟩|⟨rfl,a2,a3,a4⟩|⟨rfl,a1,a3,a4⟩|⟨rfl,a1,a2,a4⟩|⟨rfl,a1,a2,a4⟩
    ·rcases form_allv h'.1 with ⟨_,b1,b2,b3,b4⟩|⟨q,_⟩|⟨q,_⟩|⟨q,_⟩|⟨q,_⟩|⟨q,_⟩
     ·rw [a1,b1,empty_eq a2 b2,nil_eq a3 b3,a4,b4] at *
      exact⟨rfl,by simpa [txt,oneT] using e⟩
     all_goals exact absurd q (by decide)
    ·rcases form_allv h'.1 with ⟨q,_⟩|⟨_,b1,b2,b3,b4⟩|⟨q,_⟩|⟨q,_⟩|⟨q,_⟩|⟨q,_⟩
     rotate_left
     ·rw [empty_eq a2 b2,nil_eq a3 b3,a4,b4] at *
      rcases a1 with rfl|rfl <;> rcases b1 with rfl|rfl
      ·exact⟨rfl,by simpa [txt,oneT] using e⟩
      ·exact absurd e (by simp [txt,oneT])
      ·exact absurd e (by simp [txt,oneT])
      ·exact⟨rfl,by simpa [txt,oneT] using e⟩
     all_goals exact absurd q (by decide)
    ·rcases form_allv h'.1 with ⟨q,_⟩|⟨q,_⟩|⟨_,b2,b3,b4⟩|⟨q,_⟩|⟨q,_⟩|⟨q,_⟩
     rotate_left 2
     ·rw [empty_eq a2 b2,nil_eq a3 b3,a4,b4] at *
      have e':Lib.itoa n++x=Lib.itoa n'++y:=by simpa [txt,oneT] using e
      obtain⟨q1,q2⟩:=itoa_inj hx hy e'
      exact⟨by rw [q1],q2⟩
     all_goals exact absurd q (by decide)
    ·rcases form_allv h'.1 with ⟨q,_⟩|⟨q,_⟩|⟨q,_⟩|⟨_,b1,b3,b4⟩|⟨q,_⟩|⟨q,_⟩
     rotate_left 3
     ·rw [a1,b1,nil_eq a3 b3,a4,b4] at *
      have e':quoteU s++x=quoteU s'++y:=by simpa [txt,oneT] using e
      obtain⟨q1,q2⟩:=quote_inj e'
      exact⟨by rw [q1],q2⟩
     all_goals exact absurd q (by decide)
    ·rcases form_allv h'.1 with ⟨q,_⟩|⟨q,_⟩|⟨q,_⟩|⟨q,_⟩|⟨_,b1,b2,b4⟩|⟨q,_⟩
     rotate_left 4
     ·have e':txtL false l ks true++93 :: x=txtL false l' ks' true++93 :: y:=by simpa [txt,oneT] using e
      obtain⟨q1,_,q3⟩:=txtL_inj (txt_inj d) false 93 (.inl rfl) l ks l' ks' true x y h.2 h'.2 (fun hr=>by cases hr) e'
      exact⟨by rw [a1,b1,empty_eq a2 b2,q1,a4,b4],q3⟩
     all_goals exact absurd q (by decide)
    ·rcases form_allv h'.1 with ⟨q,_⟩|⟨q,_⟩|⟨q,_⟩|⟨q,_⟩|⟨q,_⟩|⟨_,b1,b2,b4⟩
     rotate_left 5
     ·have e':txtL true l ks true++125 :: x=txtL true l' ks' true++125 :: y:=by simpa [txt,oneT] using e
      obtain⟨q1,q2,q3⟩:=txtL_inj (txt_inj d) true 125 (.inr rfl) l ks l' ks' true x y h.2 h'.2 (fun _=>⟨a4,b4⟩) e'
      exact⟨by rw [a1,b1,empty_eq a2 b2,q1,q2 rfl],q3⟩
     all_goals exact absurd q (by decide)
end Go.Proofs.YtekbmfppfjlboaaGreatDoor
