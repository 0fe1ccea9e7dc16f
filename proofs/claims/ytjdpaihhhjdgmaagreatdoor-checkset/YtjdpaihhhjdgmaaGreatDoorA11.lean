/-
  Layer 18 (print): names, and how much a sign binds; no conditions.
  The walk of lex's IsName; no conditions.
  The walk of rising: may these be a record's keys? no conditions but the form's own reach.
  The walk of formed: has a value what its kind asks for? no conditions but the form's own reach.
  The walk of alone: what a value weighs without its elements; conditions: keys of at most 32 bytes, the form's own reach.
-/
import Derived.Test.YtjdpaihhhjdgmaaGreatDoorA05
import Derived.WalkKit
import Derived.WalkSpells
import Derived.Deep.RegionHeld3
import Derived.Deep.QuietTactic
import Derived.BigQuiet
import Derived.Deep.MidRow
import Derived.Laws.Strings
import Derived.Deep.Cut
import Derived.Test.YtjdpaihhhjdgmaaGreatDoorA01
set_option linter.unusedVariables false
set_option linter.unusedSimpArgs false
set_option maxRecDepth 100000
set_option maxHeartbeats 8000000
namespace Go.Proofs.YtjdpaihhhjdgmaaGreatDoor
open Go.RowKit
set_option linter.unusedVariables false
set_option linter.unusedSimpArgs false
def bnS (t:List UInt8):Nat:=
 if t=[124,124] then 1 else if t=[38,38] then 2 else
 if t=[61,61]∨t=[33,61]∨t=[60]∨t=[60,61]∨t=[62]∨t=[62,61] then 3 else
 if t=[43]∨t=[45] then 4 else if t=[42]∨t=[47]∨t=[37] then 5 else 0
theorem binds_any (k vk vn p:Int) (t vs:ByteArray) (al ak a:Option Addr) (ll cl lk ck n cc:Nat) (f:Bool) (w:World):Calls Tryz.prog 116 #[.agg #[.int .i64 k,.string t,.int .i64 vk,.int .i64 vn,.string vs,.slice al ll cl,.slice ak lk ck,.bool f,.slice a n cc,.int .i64 p]] w fun e w'=>e=.returned (.int .i64 (bnS t.toList:Int))∧Below w.heap.size w w':=by
 obtain⟨w1,hw1⟩:=eX (w.alloc (.cells #[.int .i64 k,.string t,.int .i64 vk,.int .i64 vn,.string vs,.slice al ll cl,.slice ak lk ck,.bool f,.slice a n cc,.int .i64 p] 28))
 obtain⟨G,hG⟩:=eX (w.heap.size)
 have A1:=(al1 hw1 hG).1
 have HX:=hZ (alB hw1)
 obtain⟨_,c1,_,_,_,_,_,_,_,_⟩:=row_ten A1
 have HW:=hZ hw1
 clear A1 hw1
 go_enter Tryz.func116,Tryz.ntmps116
 go_upto_region 1 with fail
 rw [uZ HW]
 try rw [hG]
 clear HW
 by_cases ht:t.toList=[124,124]
 ·have HV:=hZ (show bnS t.toList=1 by rw [ht];rfl)
  go_wp2_with fail
  go_ret
  exact⟨by rw [uZ HV];rfl,uZ HX⟩
 ·have m0:¬t.toList=[124,124]:=ht
  have n0:(t.toList == [124,124])=false:=beq_eq_false_iff_ne.2 ht
  clear ht
  by_cases ht:t.toList=[38,38]
  ·have HV:=hZ (show bnS t.toList=2 by rw [ht];rfl)
   clear m0
   go_wp2_with fail
   go_ret
   exact⟨by rw [uZ HV];rfl,uZ HX⟩
  ·have m1:¬t.toList=[38,38]:=ht
   have n1:(t.toList == [38,38])=false:=beq_eq_false_iff_ne.2 ht
   clear ht
   by_cases ht:t.toList=[61,61]
   ·have HV:=hZ (show bnS t.toList=3 by rw [ht];rfl)
    clear m0 m1
    go_wp2_with fail
    go_ret
    exact⟨by rw [uZ HV];rfl,uZ HX⟩
   ·have m2:¬t.toList=[61,61]:=ht
    have n2:(t.toList == [61,61])=false:=beq_eq_false_iff_ne.2 ht
    clear ht
    by_cases ht:t.toList=[33,61]
    ·have HV:=hZ (show bnS t.toList=3 by rw [ht];rfl)
     clear m0 m1 m2
     go_wp2_with fail
     go_ret
     exact⟨by rw [uZ HV];rfl,uZ HX⟩
    ·have m3:¬t.toList=[33,61]:=ht
     have n3:(t.toList == [33,61])=false:=beq_eq_false_iff_ne.2 ht
     clear ht
     by_cases ht:t.toList=[60]
     ·have HV:=hZ (show bnS t.toList=3 by rw [ht];rfl)
      clear m0 m1 m2 m3
      go_wp2_with fail
      go_ret
      exact⟨by rw [uZ HV];rfl,uZ HX⟩
     ·have m4:¬t.toList=[60]:=ht
      have n4:(t.toList == [60])=false:=beq_eq_false_iff_ne.2 ht
      clear ht
      by_cases ht:t.toList=[60,61]
      ·have HV:=hZ (show bnS t.toList=3 by rw [ht];rfl)
       clear m0 m1 m2 m3 m4
       go_wp2_with fail
       go_ret
       exact⟨by rw [uZ HV];rfl,uZ HX⟩
      ·have m5:¬t.toList=[60,61]:=ht
       have n5:(t.toList == [60,61])=false:=beq_eq_false_iff_ne.2 ht
       clear ht
       by_cases ht:t.toList=[62]
       ·have HV:=hZ (show bnS t.toList=3 by rw [ht];rfl)
        clear m0 m1 m2 m3 m4 m5
        go_wp2_with fail
        go_ret
        exact⟨by rw [uZ HV];rfl,uZ HX⟩
       ·have m6:¬t.toList=[62]:=ht
        have n6:(t.toList == [62])=false:=beq_eq_false_iff_ne.2 ht
        clear ht
        by_cases ht:t.toList=[62,61]
        ·have HV:=hZ (show bnS t.toList=3 by rw [ht];rfl)
         clear m0 m1 m2 m3 m4 m5 m6
         go_wp2_with fail
         go_ret
         exact⟨by rw [uZ HV];rfl,uZ HX⟩
        ·have m7:¬t.toList=[62,61]:=ht
         have n7:(t.toList == [62,61])=false:=beq_eq_false_iff_ne.2 ht
         clear ht
         by_cases ht:t.toList=[43]
         ·have HV:=hZ (show bnS t.toList=4 by rw [ht];rfl)
          clear m0 m1 m2 m3 m4 m5 m6 m7
          go_wp2_with fail
          go_ret
          exact⟨by rw [uZ HV];rfl,uZ HX⟩
         ·have m8:¬t.toList=[43]:=ht
          have n8:(t.toList == [43])=false:=beq_eq_false_iff_ne.2 ht
          clear ht
          by_cases ht:t.toList=[45]
          ·have HV:=hZ (show bnS t.toList=4 by rw [ht];rfl)
           clear m0 m1 m2 m3 m4 m5 m6 m7 m8
           go_wp2_with fail
           go_ret
           exact⟨by rw [uZ HV];rfl,uZ HX⟩
          ·have m9:¬t.toList=[45]:=ht
           have n9:(t.toList == [45])=false:=beq_eq_false_iff_ne.2 ht
           clear ht
           by_cases ht:t.toList=[42]
           ·have HV:=hZ (show bnS t.toList=5 by rw [ht];rfl)
            clear m0 m1 m2 m3 m4 m5 m6 m7 m8 m9
            go_wp2_with fail
            go_ret
            exact⟨by rw [uZ HV];rfl,uZ HX⟩
           ·have m10:¬t.toList=[42]:=ht
            have n10:(t.toList == [42])=false:=beq_eq_false_iff_ne.2 ht
            clear ht
            by_cases ht:t.toList=[47]
            ·have HV:=hZ (show bnS t.toList=5 by rw [ht];rfl)
             clear m0 m1 m2 m3 m4 m5 m6 m7 m8 m9 m10
             go_wp2_with fail
             go_ret
             exact⟨by rw [uZ HV];rfl,uZ HX⟩
            ·have m11:¬t.toList=[47]:=ht
             have n11:(t.toList == [47])=false:=beq_eq_false_iff_ne.2 ht
             clear ht
             by_cases ht:t.toList=[37]
             ·have HV:=hZ (show bnS t.toList=5 by rw [ht];rfl)
              clear m0 m1 m2 m3 m4 m5 m6 m7 m8 m9 m10 m11
              go_wp2_with fail
              go_ret
              exact⟨by rw [uZ HV];rfl,uZ HX⟩
             ·have m12:¬t.toList=[37]:=ht
              have n12:(t.toList == [37])=false:=beq_eq_false_iff_ne.2 ht
              clear ht
              have HV:=hZ (show bnS t.toList=0 by unfold bnS;simp only [m0,m1,m2,m3,m4,m5,m6,m7,m8,m9,m10,m11,m12,or_self,if_false,reduceIte])
              clear m0 m1 m2 m3 m4 m5 m6 m7 m8 m9 m10 m11 m12
              go_wp2_with fail
              go_ret
              exact⟨by rw [uZ HV];rfl,uZ HX⟩
def nameL (l:List UInt8):Bool:=decide (1≤l.length) && decide (l.length≤20) && (match l with|[]=>false|c :: _=>lxLet c) && l.all lxW && !keyB l
theorem tw_all (p:UInt8→Bool) (l:List UInt8):(l.takeWhile p == l)=l.all p:=by
 induction l with
 |nil=>rfl
 |cons c r ih=>
  rw [List.takeWhile_cons,List.all_cons]
  cases hc:p c with
  |true=>
   simp only [if_true,Bool.true_and]
   rw [←ih,List.cons_beq_cons]
   simp
  |false=>simp
theorem name_is (s:ByteArray) (h:0<s.size) (h2:s.size≤20):nameL s.data.toList=(lxLet (s[0]'h) && s.data.toList.all lxW && !keyB s.data.toList):=by
 obtain⟨r,hr⟩:=head_list s h
 unfold nameL
 rw [len_list,decide_eq_true (show 1≤s.size from h),decide_eq_true h2]
 rw [hr]
 simp
theorem isNameL_any (s:ByteArray) (w:World) :
  Calls Tryz.prog 115 #[.string s] w fun e w'=>e=.returned (.bool (nameL s.data.toList))∧Below w.heap.size w w':=by
 by_cases h0:s.size=0
 ·have hN:nameL s.data.toList=false:=by unfold nameL;rw [len_list,h0];rfl
  have i1:(s.toList == [])=true:=by
   have:s.toList.length=0:=by rw [ByteArray.toList_eq];simpa using h0
   rw [List.eq_nil_of_length_eq_zero this]
   rfl
  rw [hN]
  clear hN
  go_enter Tryz.func115,Tryz.ntmps115
  go_wp2_with fail
  go_ret
  exact⟨rfl,Below.refl _ _⟩
 have i1:(s.toList == [])=false:=by
  have:s.toList.length≠0:=by rw [ByteArray.toList_eq];simpa using h0
  cases hs:s.toList with
  |nil=>rw [hs] at this;simp at this
  |cons a r=>rfl
 by_cases h20:20<s.size
 ·have hN:nameL s.data.toList=false:=by unfold nameL;rw [len_list,decide_eq_false (show ¬s.size≤20 by omega)];simp
  have i3:(20:Int)<(s.size:Int):=by omega
  rw [hN]
  clear hN
  go_enter Tryz.func115,Tryz.ntmps115
  go_wp2_with fail
  go_ret
  exact⟨rfl,Below.refl _ _⟩
 have i3:¬(20:Int)<(s.size:Int):=by omega
 have hp:0<s.size:=by omega
 have HN:=hZ (name_is s hp (by omega))
 obtain⟨N,hN⟩:=eX (nameL s.data.toList)
 have HE:=hZ hN
 rw [hN]
 clear hN
 obtain⟨z,hz⟩:∃z:Nat,(s[0]'hp).toNat=z:=⟨_,rfl⟩
 have hzi:((s[0]'hp).toNat:Int)=(z:Int):=by rw [hz]
 have hz1:(z:Int)≤255:=by have:=(s[0]'hp).toNat_lt;omega
 have hdr:rDig (z:Int)=lxDig (s[0]'hp):=by rw [←hz];exact lxDig_r _
 have CD:=hZ (isDigit_any (z:Int) w)
 cases hD:rDig (z:Int) with
 |true=>
  have HF:Hid (N=false):=hZ (by
   rw [←uZ HE,uZ HN]
   have:lxLet (s[0]'hp)=false:=by
    rw [hdr] at hD
    unfold lxDig at hD
    unfold lxLet
    simp only [decide_eq_true_eq,decide_eq_false_iff_not] at hD ⊢
    omega
   rw [this]
   simp)
  rw [hD] at CD
  clear hD hdr hz
  go_enter Tryz.func115,Tryz.ntmps115
  go_wp2_with fail
  refine(uZ CD).mono ?_
  rintro e u ⟨rfl,rfl⟩
  go_wp2_with fail
  go_ret
  exact⟨by rw [uZ HF];rfl,Below.refl _ _⟩
 |false=>
  rw [hD] at CD
  have hld:lxLet (s[0]'hp)=lxW (s[0]'hp):=by
   rw [hdr] at hD
   unfold lxW
   rw [hD]
   simp
  have CW:=hZ (word_any s (by omega) w)
  have hq:((bA (s.data.toList.takeWhile lxW)).toList == s.toList)=s.data.toList.all lxW:=by
   rw [bA_list,ByteArray.toList_eq]
   exact tw_all _ _
  obtain⟨W,hW⟩:=eX (bA (s.data.toList.takeWhile lxW))
  rw [hW] at CW hq
  have CK:=hZ (fun u=>isKey_any s u)
  have HL:=hZ hld
  cases hA:s.data.toList.all lxW with
  |false=>
   rw [hA] at hq
   have HF:Hid (N=false):=hZ (by rw [←uZ HE,uZ HN,hA];simp)
   clear hD hdr hz hld hW hA
   go_enter Tryz.func115,Tryz.ntmps115
   go_wp2_with fail
   refine(uZ CD).mono ?_
   rintro e u ⟨rfl,rfl⟩
   go_wp2_with fail
   refine(uZ CW).mono ?_
   rintro e u1 ⟨rfl,b1⟩
   have B1:=hZ b1
   clear b1
   go_wp2_with fail
   go_ret
   exact⟨by rw [uZ HF];rfl,uZ B1⟩
  |true=>
   rw [hA] at hq
   have HT:Hid (N=!keyB s.data.toList):=hZ (by
    rw [←uZ HE,uZ HN,hA,uZ HL]
    have:lxW (s[0]'hp)=true:=by
     rw [List.all_eq_true] at hA
     obtain⟨r,hr⟩:=head_list s hp
     exact hA _ (by rw [hr];simp)
    rw [this]
    simp)
   cases hK:keyB s.data.toList <;>
   ·rw [hK] at CK HT
    clear hD hdr hz hld hW hA hK
    go_enter Tryz.func115,Tryz.ntmps115
    go_wp2_with fail
    refine(uZ CD).mono ?_
    rintro e u ⟨rfl,rfl⟩
    go_wp2_with fail
    refine(uZ CW).mono ?_
    rintro e u1 ⟨rfl,b1⟩
    have B1:=hZ b1
    clear b1
    go_wp2_with fail
    refine((uZ CK) _).mono ?_
    rintro e u2 ⟨rfl,rfl⟩
    go_wp2_with fail
    go_ret
    exact⟨by rw [uZ HT];rfl,uZ B1⟩
structure IsK (w:World) (ks:List ByteArray) (ak:Option Addr) (ck:Nat):Prop where
 none:ak=none→ks.length=0
 len:ks.length≤ck
 bnd:ks.length≤140737488351232
 cell:∀a,ak=some a→∀i t,ks[i]?=some t→w.cell? (a.add i)=some (.string t)
 small:∀t∈ks,t.size≤140737488351232
theorem IsK.mono {w w':World} {ks:List ByteArray} {ak:Option Addr} {ck:Nat} (h:IsK w ks ak ck) (hb:Below w.heap.size w w'):IsK w' ks ak ck:=
 ⟨h.none,h.len,h.bnd,fun a ha i t ht=>by
  have h1:=h.cell a ha i t ht
  rw [hb.cell (World.block_lt_of_cell? _ _ (by rw [h1]))]
  exact h1,h.small⟩
theorem drop_cons {ks:List ByteArray} {i:Nat} {t:ByteArray} (h:ks[i]?=some t):ks.drop i=t :: ks.drop (i+1):=by
 obtain⟨hi,rfl⟩:=List.getElem?_eq_some_iff.1 h
 exact List.drop_eq_getElem_cons hi
theorem rising_any (ks:List ByteArray) (ak:Option Addr) (ck:Nat) (w:World) (h:IsK w ks ak ck) :
  Calls Tryz.prog 178 #[.slice ak ks.length ck] w fun e w'=>e=.returned (.bool (risingFrom none ks))∧w'=w:=by
 have hn:=h.len
 have hb:=h.bnd
 have HH:=hZ h
 clear h
 obtain⟨n,hnn⟩:=eX (ks.length)
 rw [hnn] at hn hb ⊢
 have HN:=hZ hnn
 clear hnn
 go_enter Tryz.func178,Tryz.ntmps178
 go_wp2_with fail
 go_loopw [7] (fun x wr=>∃i:Nat,i≤n∧x=.int .i64 i∧wr=w∧Hid (risingFrom none ks=risingFrom (if i=0 then none else ks[i - 1]?) (ks.drop i))) (fun x _=>n - (intOf x).toNat)
 case atStart=>exact⟨0,by omega,rfl,rfl,hZ (by simp)⟩
 case round=>
  obtain⟨i,hi,rfl,rfl,HR⟩:=hrel
  by_cases hlt:i<n
  ·have hln:=uZ HN
   obtain⟨t,ht⟩:∃t,ks[i]?=some t:=⟨_,List.getElem?_eq_getElem (by omega)⟩
   obtain⟨a,rfl⟩:∃a,ak=some a:=by
    cases ak with
    |none=>have:=(uZ HH).none rfl;omega
    |some a=>exact⟨a,rfl⟩
   have c1:=(uZ HH).cell a rfl i t ht
   have ts:=(uZ HH).small t (List.mem_of_getElem? ht)
   have HT:=hZ ht
   clear hln ht
   by_cases h32:t.size≤32
   ·by_cases h0:i=0
    ·subst h0
     have c0:wr.cell? a=some (.string t):=c1
     clear c1
     have HR':Hid (risingFrom none ks=risingFrom (if 1=0 then none else ks[1 - 1]?) (ks.drop 1)):=hZ (by
      rw [uZ HR,drop_cons (uZ HT)]
      have e:=uZ HT
      simp [risingFrom,h32,e])
     go_wp2_with fail
     go_roundw
     case rel=>exact⟨1,by omega,by go_num,trivial,HR'⟩
     case measure=>simp [intOf];omega
    ·obtain⟨k,hk⟩:∃k,i=k+1:=⟨i - 1,by omega⟩
     obtain⟨q,hq⟩:∃q,ks[k]?=some q:=⟨_,List.getElem?_eq_getElem (by have:=uZ HN;omega)⟩
     have c2:=(uZ HH).cell a rfl k q hq
     have k1:(i:Int) - 1=(k:Int):=by omega
     have k2:IntKind.i64.wrap ((i:Int) - 1)=(k:Int):=by rw [IntKind.wrap_i64];omega
     have k3:(0:Int)<(i:Int):=by omega
     have k4:(k:Int)<(n:Int):=by omega
     have HQ:=hZ (And.intro hq hk)
     clear hq hk
     have hstep:risingFrom none ks=(Op.bytesLess q.toList t.toList && risingFrom (some t) (ks.drop (i+1))):=by
      rw [uZ HR,drop_cons (uZ HT),if_neg h0,show i - 1=k by have:=(uZ HQ).2;omega,(uZ HQ).1]
      simp [risingFrom,h32]
     have HS:=hZ hstep
     clear hstep
     by_cases hbl:Op.bytesLess q.toList t.toList=true
     ·have HR':Hid (risingFrom none ks=risingFrom (if i+1=0 then none else ks[i+1 - 1]?) (ks.drop (i+1))):=hZ (by
       rw [uZ HS,hbl,if_neg (by omega),show i+1 - 1=i by omega,uZ HT]
       simp)
      go_wp2_with fail
      go_roundw
      case rel=>exact⟨i+1,by omega,by go_num,trivial,HR'⟩
      case measure=>simp [intOf];omega
     ·have hbl':Op.bytesLess q.toList t.toList=false:=by simpa using hbl
      have HF:Hid (risingFrom none ks=false):=hZ (by rw [uZ HS,hbl'];rfl)
      clear hbl
      go_wp2_with fail
      go_ret
      exact⟨by rw [uZ HF];rfl,rfl⟩
   ·have hfin:risingFrom none ks=false:=by
     rw [uZ HR,drop_cons (uZ HT)]
     simp [risingFrom,h32]
    have HF:=hZ hfin
    clear hfin
    go_wp2_with fail
    go_ret
    exact⟨by rw [uZ HF];rfl,rfl⟩
  ·have hfin:risingFrom none ks=true:=by
    rw [uZ HR,List.drop_eq_nil_of_le (by have:=uZ HN;omega)]
    rfl
   have HF:=hZ hfin
   clear hfin
   go_wp2_with fail
   go_ret
   exact⟨by rw [uZ HF];rfl,rfl⟩
theorem beq0 (m:Nat):((m:Int) == 0)=decide (m=0):=by by_cases h:m=0 <;> simp [h]
theorem formed0 (n:Int) (s:ByteArray) (ll m:Nat) (al ak:Option Addr) (cl ck:Nat) (w:World) (R:Bool) (hl:ll≤140737488351232) (hm:m≤140737488351232)
  (HC:∀o,Hid (Calls Tryz.prog 178 #[.slice ak m ck] (w.alloc o) fun e w'=>e=.returned (.bool R)∧w'=w.alloc o)) :
  Calls Tryz.prog 164 #[.agg #[.int .i64 0,.int .i64 n,.string s,.slice al ll cl,.slice ak m ck]] w fun e w'=>e=.returned (.bool (formM 0 n s ll m R))∧Below w.heap.size w w':=by
 have BEL:Hid (∀o,Below w.heap.size w (w.alloc o)):=hZ (fun o=>(Below.refl _ _).alloc (Nat.le_refl _) o)
 go_enter Tryz.func164,Tryz.ntmps164
 go_wp2_with fail
 all_goals (go_ret;exact⟨by simp_all [formM,beq0],uZ BEL _⟩)
theorem formed1 (n:Int) (s:ByteArray) (ll m:Nat) (al ak:Option Addr) (cl ck:Nat) (w:World) (R:Bool) (hl:ll≤140737488351232) (hm:m≤140737488351232)
  (HC:∀o,Hid (Calls Tryz.prog 178 #[.slice ak m ck] (w.alloc o) fun e w'=>e=.returned (.bool R)∧w'=w.alloc o)) :
  Calls Tryz.prog 164 #[.agg #[.int .i64 1,.int .i64 n,.string s,.slice al ll cl,.slice ak m ck]] w fun e w'=>e=.returned (.bool (formM 1 n s ll m R))∧Below w.heap.size w w':=by
 have BEL:Hid (∀o,Below w.heap.size w (w.alloc o)):=hZ (fun o=>(Below.refl _ _).alloc (Nat.le_refl _) o)
 go_enter Tryz.func164,Tryz.ntmps164
 go_wp2_with fail
 all_goals (go_ret;exact⟨by simp_all [formM,beq0],uZ BEL _⟩)
theorem formed2 (n:Int) (s:ByteArray) (ll m:Nat) (al ak:Option Addr) (cl ck:Nat) (w:World) (R:Bool) (hl:ll≤140737488351232) (hm:m≤140737488351232)
  (HC:∀o,Hid (Calls Tryz.prog 178 #[.slice ak m ck] (w.alloc o) fun e w'=>e=.returned (.bool R)∧w'=w.alloc o)) :
  Calls Tryz.prog 164 #[.agg #[.int .i64 2,.int .i64 n,.string s,.slice al ll cl,.slice ak m ck]] w fun e w'=>e=.returned (.bool (formM 2 n s ll m R))∧Below w.heap.size w w':=by
 have BEL:Hid (∀o,Below w.heap.size w (w.alloc o)):=hZ (fun o=>(Below.refl _ _).alloc (Nat.le_refl _) o)
 go_enter Tryz.func164,Tryz.ntmps164
 go_wp2_with fail
 all_goals (go_ret;exact⟨by simp_all [formM,beq0],uZ BEL _⟩)
theorem formed3 (n:Int) (s:ByteArray) (ll m:Nat) (al ak:Option Addr) (cl ck:Nat) (w:World) (R:Bool) (hl:ll≤140737488351232) (hm:m≤140737488351232)
  (HC:∀o,Hid (Calls Tryz.prog 178 #[.slice ak m ck] (w.alloc o) fun e w'=>e=.returned (.bool R)∧w'=w.alloc o)) :
  Calls Tryz.prog 164 #[.agg #[.int .i64 3,.int .i64 n,.string s,.slice al ll cl,.slice ak m ck]] w fun e w'=>e=.returned (.bool (formM 3 n s ll m R))∧Below w.heap.size w w':=by
 have BEL:Hid (∀o,Below w.heap.size w (w.alloc o)):=hZ (fun o=>(Below.refl _ _).alloc (Nat.le_refl _) o)
 go_enter Tryz.func164,Tryz.ntmps164
 go_wp2_with fail
 all_goals (go_ret;exact⟨by simp_all [formM,beq0],uZ BEL _⟩)
theorem formed4 (n:Int) (s:ByteArray) (ll m:Nat) (al ak:Option Addr) (cl ck:Nat) (w:World) (R:Bool) (hl:ll≤140737488351232) (hm:m≤140737488351232)
  (HC:∀o,Hid (Calls Tryz.prog 178 #[.slice ak m ck] (w.alloc o) fun e w'=>e=.returned (.bool R)∧w'=w.alloc o)) :
  Calls Tryz.prog 164 #[.agg #[.int .i64 4,.int .i64 n,.string s,.slice al ll cl,.slice ak m ck]] w fun e w'=>e=.returned (.bool (formM 4 n s ll m R))∧Below w.heap.size w w':=by
 have BEL:Hid (∀o,Below w.heap.size w (w.alloc o)):=hZ (fun o=>(Below.refl _ _).alloc (Nat.le_refl _) o)
 go_enter Tryz.func164,Tryz.ntmps164
 go_wp2_with fail
 all_goals (go_ret;exact⟨by simp_all [formM,beq0],uZ BEL _⟩)
theorem formed5a (n:Int) (s:ByteArray) (ll m:Nat) (al ak:Option Addr) (cl ck:Nat) (w:World) (R:Bool) (hl:ll≤140737488351232) (hm:m≤140737488351232)
  (HC:∀o,Hid (Calls Tryz.prog 178 #[.slice ak m ck] (w.alloc o) fun e w'=>e=.returned (.bool R)∧w'=w.alloc o)) (hn:¬n=0) :
  Calls Tryz.prog 164 #[.agg #[.int .i64 5,.int .i64 n,.string s,.slice al ll cl,.slice ak m ck]] w fun e w'=>e=.returned (.bool (formM 5 n s ll m R))∧Below w.heap.size w w':=by
 have BEL:Hid (∀o,Below w.heap.size w (w.alloc o)):=hZ (fun o=>(Below.refl _ _).alloc (Nat.le_refl _) o)
 have HG:Hid (formM 5 n s ll m R=false):=hZ (by simp [formM,hn])
 go_enter Tryz.func164,Tryz.ntmps164
 go_wp2_with fail
 all_goals (go_ret;exact⟨by rw [uZ HG];rfl,uZ BEL _⟩)
theorem formed5b (n:Int) (s:ByteArray) (ll m:Nat) (al ak:Option Addr) (cl ck:Nat) (w:World) (R:Bool) (hl:ll≤140737488351232) (hm:m≤140737488351232)
  (HC:∀o,Hid (Calls Tryz.prog 178 #[.slice ak m ck] (w.alloc o) fun e w'=>e=.returned (.bool R)∧w'=w.alloc o)) (hn:n=0) (hs:¬s.toList=[]) :
  Calls Tryz.prog 164 #[.agg #[.int .i64 5,.int .i64 n,.string s,.slice al ll cl,.slice ak m ck]] w fun e w'=>e=.returned (.bool (formM 5 n s ll m R))∧Below w.heap.size w w':=by
 have BEL:Hid (∀o,Below w.heap.size w (w.alloc o)):=hZ (fun o=>(Below.refl _ _).alloc (Nat.le_refl _) o)
 subst hn
 have HG:Hid (formM 5 0 s ll m R=false):=hZ (by simp [formM,hs])
 go_enter Tryz.func164,Tryz.ntmps164
 go_wp2_with fail
 all_goals (go_ret;exact⟨by rw [uZ HG];rfl,uZ BEL _⟩)
theorem formed5c (n:Int) (s:ByteArray) (ll m:Nat) (al ak:Option Addr) (cl ck:Nat) (w:World) (R:Bool) (hl:ll≤140737488351232) (hm:m≤140737488351232)
  (HC:∀o,Hid (Calls Tryz.prog 178 #[.slice ak m ck] (w.alloc o) fun e w'=>e=.returned (.bool R)∧w'=w.alloc o)) (hn:n=0) (hs:s.toList=[]) (hml:¬m=ll) :
  Calls Tryz.prog 164 #[.agg #[.int .i64 5,.int .i64 n,.string s,.slice al ll cl,.slice ak m ck]] w fun e w'=>e=.returned (.bool (formM 5 n s ll m R))∧Below w.heap.size w w':=by
 have BEL:Hid (∀o,Below w.heap.size w (w.alloc o)):=hZ (fun o=>(Below.refl _ _).alloc (Nat.le_refl _) o)
 subst hn
 have HG:Hid (formM 5 0 s ll m R=false):=hZ (by simp [formM,hml])
 have hml':¬(m:Int)=(ll:Int):=by omega
 go_enter Tryz.func164,Tryz.ntmps164
 go_wp2_with fail
 all_goals (go_ret;exact⟨by rw [uZ HG];rfl,uZ BEL _⟩)
theorem formed5d0 (n:Int) (s:ByteArray) (ll m:Nat) (al ak:Option Addr) (cl ck:Nat) (w:World) (R:Bool) (hl:ll≤140737488351232) (hm:m≤140737488351232)
  (HC:∀o,Hid (Calls Tryz.prog 178 #[.slice ak m ck] (w.alloc o) fun e w'=>e=.returned (.bool R)∧w'=w.alloc o)) (hn:n=0) (hs:s.toList=[]) (hml:m=ll) (hm0:m=0) :
  Calls Tryz.prog 164 #[.agg #[.int .i64 5,.int .i64 n,.string s,.slice al ll cl,.slice ak m ck]] w fun e w'=>e=.returned (.bool (formM 5 n s ll m R))∧Below w.heap.size w w':=by
 have BEL:Hid (∀o,Below w.heap.size w (w.alloc o)):=hZ (fun o=>(Below.refl _ _).alloc (Nat.le_refl _) o)
 subst hn
 subst hml
 subst hm0
 have HG:Hid (formM 5 0 s 0 0 R=R):=hZ (by simp [formM,hs])
 obtain⟨w1,hw1⟩:=eX (w.alloc (.cells #[.int .i64 5,.int .i64 0,.string s,.slice al 0 cl,.slice ak 0 ck] 25))
 have HC1:=HC (.cells #[.int .i64 5,.int .i64 0,.string s,.slice al 0 cl,.slice ak 0 ck] 25)
 rw [hw1] at HC1
 have B1:=uZ BEL (.cells #[.int .i64 5,.int .i64 0,.string s,.slice al 0 cl,.slice ak 0 ck] 25)
 have BX:=Box.mk' w (.int .i64 5) (.int .i64 0) (.string s) (.slice al 0 cl) (.slice ak 0 ck)
 rw [hw1] at B1 BX
 obtain⟨c0,c1,c2,c3,c4⟩:=row_cell BX.row
 have HB1:=hZ B1
 clear HC BEL B1 BX
 go_enter Tryz.func164,Tryz.ntmps164
 go_wp2_with fail
 refine(uZ HC1).mono ?_
 rintro e w2 ⟨rfl,rfl⟩
 go_wp2_with fail
 go_ret
 exact⟨by rw [uZ HG];rfl,uZ HB1⟩
theorem formed5d1 (n:Int) (s:ByteArray) (ll m:Nat) (al ak:Option Addr) (cl ck:Nat) (w:World) (R:Bool) (hl:ll≤140737488351232) (hm:m≤140737488351232)
  (HC:∀o,Hid (Calls Tryz.prog 178 #[.slice ak m ck] (w.alloc o) fun e w'=>e=.returned (.bool R)∧w'=w.alloc o)) (hn:n=0) (hs:s.toList=[]) (hml:m=ll) (hm0:¬m=0) :
  Calls Tryz.prog 164 #[.agg #[.int .i64 5,.int .i64 n,.string s,.slice al ll cl,.slice ak m ck]] w fun e w'=>e=.returned (.bool (formM 5 n s ll m R))∧Below w.heap.size w w':=by
 have BEL:Hid (∀o,Below w.heap.size w (w.alloc o)):=hZ (fun o=>(Below.refl _ _).alloc (Nat.le_refl _) o)
 subst hn
 subst hml
 have HG:Hid (formM 5 0 s m m R=R):=hZ (by simp [formM,hs])
 obtain⟨w1,hw1⟩:=eX (w.alloc (.cells #[.int .i64 5,.int .i64 0,.string s,.slice al m cl,.slice ak m ck] 25))
 have HC1:=HC (.cells #[.int .i64 5,.int .i64 0,.string s,.slice al m cl,.slice ak m ck] 25)
 rw [hw1] at HC1
 have B1:=uZ BEL (.cells #[.int .i64 5,.int .i64 0,.string s,.slice al m cl,.slice ak m ck] 25)
 have BX:=Box.mk' w (.int .i64 5) (.int .i64 0) (.string s) (.slice al m cl) (.slice ak m ck)
 rw [hw1] at B1 BX
 obtain⟨c0,c1,c2,c3,c4⟩:=row_cell BX.row
 have HB1:=hZ B1
 clear HC BEL B1 BX
 go_enter Tryz.func164,Tryz.ntmps164
 go_wp2_with fail
 refine(uZ HC1).mono ?_
 rintro e w2 ⟨rfl,rfl⟩
 go_wp2_with fail
 go_ret
 exact⟨by rw [uZ HG];rfl,uZ HB1⟩
theorem formed5 (n:Int) (s:ByteArray) (ll m:Nat) (al ak:Option Addr) (cl ck:Nat) (w:World) (R:Bool) (hl:ll≤140737488351232) (hm:m≤140737488351232)
  (HC:∀o,Hid (Calls Tryz.prog 178 #[.slice ak m ck] (w.alloc o) fun e w'=>e=.returned (.bool R)∧w'=w.alloc o)) :
  Calls Tryz.prog 164 #[.agg #[.int .i64 5,.int .i64 n,.string s,.slice al ll cl,.slice ak m ck]] w fun e w'=>e=.returned (.bool (formM 5 n s ll m R))∧Below w.heap.size w w':=by
 by_cases hn:n=0
 ·by_cases hs:s.toList=[]
  ·by_cases hml:m=ll
   ·by_cases hm0:m=0
    ·exact formed5d0 n s ll m al ak cl ck w R hl hm HC hn hs hml hm0
    ·exact formed5d1 n s ll m al ak cl ck w R hl hm HC hn hs hml hm0
   ·exact formed5c n s ll m al ak cl ck w R hl hm HC hn hs hml
  ·exact formed5b n s ll m al ak cl ck w R hl hm HC hn hs
 ·exact formed5a n s ll m al ak cl ck w R hl hm HC hn
theorem formedX (kind:Int) (k0:¬kind=0) (k1:¬kind=1) (k2:¬kind=2) (k3:¬kind=3) (k4:¬kind=4) (k5:¬kind=5) (n:Int) (s:ByteArray) (ll m:Nat) (al ak:Option Addr) (cl ck:Nat) (w:World) (R:Bool) (hl:ll≤140737488351232) (hm:m≤140737488351232)
  (HC:∀o,Hid (Calls Tryz.prog 178 #[.slice ak m ck] (w.alloc o) fun e w'=>e=.returned (.bool R)∧w'=w.alloc o)) :
  Calls Tryz.prog 164 #[.agg #[.int .i64 kind,.int .i64 n,.string s,.slice al ll cl,.slice ak m ck]] w fun e w'=>e=.returned (.bool (formM kind n s ll m R))∧Below w.heap.size w w':=by
 have BEL:Hid (∀o,Below w.heap.size w (w.alloc o)):=hZ (fun o=>(Below.refl _ _).alloc (Nat.le_refl _) o)
 go_enter Tryz.func164,Tryz.ntmps164
 go_wp2_with fail
 all_goals (go_ret;exact⟨by simp_all [formM,beq0],uZ BEL _⟩)
theorem formed_any (kind n:Int) (s:ByteArray) (ll:Nat) (ks:List ByteArray) (al ak:Option Addr) (cl ck:Nat) (w:World) (h:IsK w ks ak ck) (hl:ll≤140737488351232) :
  Calls Tryz.prog 164 #[.agg #[.int .i64 kind,.int .i64 n,.string s,.slice al ll cl,.slice ak ks.length ck]] w fun e w'=>e=.returned (.bool (formB kind n s ll ks))∧Below w.heap.size w w':=by
 have HC:∀o,Hid (Calls Tryz.prog 178 #[.slice ak ks.length ck] (w.alloc o) fun e w'=>e=.returned (.bool (risingFrom none ks))∧w'=w.alloc o):=fun o=>hZ (rising_any ks ak ck (w.alloc o) (h.mono ((Below.refl _ _).alloc (Nat.le_refl _) o)))
 have hm:ks.length≤140737488351232:=h.bnd
 rw [formB_is]
 by_cases k0:kind=0
 ·subst k0;exact formed0 n s ll _ al ak cl ck w _ hl hm HC
 by_cases k1:kind=1
 ·subst k1;exact formed1 n s ll _ al ak cl ck w _ hl hm HC
 by_cases k2:kind=2
 ·subst k2;exact formed2 n s ll _ al ak cl ck w _ hl hm HC
 by_cases k3:kind=3
 ·subst k3;exact formed3 n s ll _ al ak cl ck w _ hl hm HC
 by_cases k4:kind=4
 ·subst k4;exact formed4 n s ll _ al ak cl ck w _ hl hm HC
 by_cases k5:kind=5
 ·subst k5;exact formed5 n s ll _ al ak cl ck w _ hl hm HC
 exact formedX kind k0 k1 k2 k3 k4 k5 n s ll _ al ak cl ck w _ hl hm HC
theorem keysW_app (a b:List ByteArray):keysW (a++b)=keysW a+keysW b:=by
 induction a with
 |nil=>simp [keysW]
 |cons x r ih=>simp [keysW,ih];omega
theorem keysW_next (l:List ByteArray) (i:Nat) (t:ByteArray) (h:l[i]?=some t):keysW (l.take (i+1))=keysW (l.take i)+(1+t.size):=by
 obtain⟨hi,rfl⟩:=List.getElem?_eq_some_iff.1 h
 rw [List.take_succ_eq_append_getElem hi,keysW_app]
 simp [keysW]
theorem keysW_le (l:List ByteArray) (h:∀t∈l,t.size≤32):keysW l≤33 * l.length:=by
 induction l with
 |nil=>simp [keysW]
 |cons x r ih=>
  have h1:=h x (by simp)
  have h2:=ih (fun t ht=>h t (by simp [ht]))
  simp [keysW]
  omega
theorem alone_any (kind n:Int) (s:ByteArray) (ll:Nat) (ks:List ByteArray) (al ak:Option Addr) (cl ck:Nat) (w:World) (h:IsK w ks ak ck) (hs:s.size≤140737488351232) (h32:∀t∈ks,t.size≤32) :
  Calls Tryz.prog 165 #[.agg #[.int .i64 kind,.int .i64 n,.string s,.slice al ll cl,.slice ak ks.length ck]] w fun e w'=>e=.returned (.int .i64 ((1+s.size+keysW ks:Nat):Int))∧Below w.heap.size w w':=by
 obtain⟨m,hm⟩:=eX (ks.length)
 obtain⟨w1,hw1⟩:=eX (w.alloc (.cells #[.int .i64 kind,.int .i64 n,.string s,.slice al ll cl,.slice ak m ck] 25))
 have BX:=Box.mk' w (.int .i64 kind) (.int .i64 n) (.string s) (.slice al ll cl) (.slice ak m ck)
 rw [hw1] at BX
 obtain⟨c0,c1,c2,c3,c4⟩:=row_cell BX.row
 have HH:=hZ (h.mono BX.below)
 have HB:=hZ BX.below
 have hn:=h.len
 have hb:=h.bnd
 have HKW:=hZ (fun i=>keysW_le (ks.take i) (fun t ht=>h32 t (List.mem_of_mem_take ht)))
 have HS:=hZ h32
 rw [hm] at hn hb ⊢
 have HM:=hZ hm
 clear BX h h32 hm
 obtain⟨S,hS⟩:=eX (s.size)
 rw [hS] at hs ⊢
 go_enter Tryz.func165,Tryz.ntmps165
 go_wp2_with fail
 go_loopw [3,13] (fun y x wr=>∃i:Nat,i≤m∧x=.int .i64 i∧y=.int .i64 ((1+S+keysW (ks.take i):Nat):Int)∧wr=w1) (fun _ x _=>m - (intOf x).toNat)
 case atStart=>exact⟨0,by omega,rfl,by simp [keysW],rfl⟩
 case round=>
  obtain⟨i,hi,rfl,rfl,rfl⟩:=hrel
  by_cases hlt:i<m
  ·obtain⟨t,ht⟩:∃t,ks[i]?=some t:=⟨_,List.getElem?_eq_getElem (by have:=uZ HM;omega)⟩
   obtain⟨a,rfl⟩:∃a,ak=some a:=by
    cases ak with
    |none=>have:=(uZ HH).none rfl;have:=uZ HM;omega
    |some a=>exact⟨a,rfl⟩
   have c5:=(uZ HH).cell a rfl i t ht
   have t32:=uZ HS t (List.mem_of_getElem? ht)
   have hnx:=keysW_next ks i t ht
   have hkw:=uZ HKW i
   rw [List.length_take,Nat.min_eq_left (by have:=uZ HM;omega)] at hkw
   obtain⟨X,hX⟩:=eX (keysW (ks.take i))
   obtain⟨u,hu⟩:=eX (t.size)
   rw [hX,hu] at hnx
   rw [hX] at hkw ⊢
   rw [hu] at t32
   have HNX:=hZ hnx
   have e1:(((1+S+X:Nat):Int)+(1+(u:Int)))=((1+S+(X+(1+u)):Nat):Int):=by omega
   have e2:IntKind.i64.wrap (1+(u:Int))=1+(u:Int):=by rw [IntKind.wrap_i64];omega
   have e3:IntKind.i64.wrap (((1+S+X:Nat):Int)+(1+(u:Int)))=((1+S+(X+(1+u)):Nat):Int):=by rw [IntKind.wrap_i64];omega
   clear hnx ht
   obtain⟨Y,hY⟩:=eX (1+S+X)
   rw [hY] at e1 e3 ⊢
   go_wp2_with fail
   go_roundw
   case rel=>exact⟨i+1,by omega,by go_num,by rw [uZ HNX];go_num,trivial⟩
   case measure=>simp [intOf];omega
  ·have hi':i=m:=by omega
   subst hi'
   go_wp2_with fail
   go_ret
   exact⟨by rw [List.take_of_length_le (by have:=uZ HM;omega)];rfl,uZ HB⟩
end Go.Proofs.YtjdpaihhhjdgmaaGreatDoor
