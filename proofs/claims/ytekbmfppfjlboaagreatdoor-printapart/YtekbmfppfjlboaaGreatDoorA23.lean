/-
  The walk of the document's Digits; conditions: a number of 64 bits.
  The two rows of a value that is its owner's, as rows of the call's own; no conditions.
  append of one element of any type onto a row of the call's own; no conditions.
  The walk of the document's Quoted; conditions: at most 5000 bytes.
  A value's text, as a function; no conditions.
  How a text is told byte by byte, and what a range over its runes meets; no conditions.
  The walks of value's writeNumbers and quote; conditions: a text of at most 2^20 bytes, a builder of at most 2^40.
  The walk of the document's text; conditions: what a right value is.
-/
import Derived.Test.YtekbmfppfjlboaaGreatDoorA00
import Derived.Lib.ItoaNum
import Derived.Deep.Strs
import Derived.Test.YtekbmfppfjlboaaGreatDoorA11
import Derived.Deep.CutRange
import Derived.WalkSpells
import Derived.WalkSmall
import Derived.Test.YtekbmfppfjlboaaGreatDoorA16
import Derived.Deep.AppendLies
import Derived.Laws.BytesArg
import Derived.Laws.Strings
import Derived.Maps.AppendAt
import Derived.ArgAppend
import Derived.Lib.SlBytesConst
import Derived.Deep.QuietTactic
import Derived.BigQuiet
import Derived.Test.YtekbmfppfjlboaaGreatDoorA03
import Derived.Laws.RangeAny
import Derived.Test.YtekbmfppfjlboaaGreatDoorA22
import Derived.Test.YtekbmfppfjlboaaGreatDoorA02
set_option linter.unusedVariables false
set_option linter.unusedSimpArgs false
namespace Go.Proofs.YtekbmfppfjlboaaGreatDoor
open Go.RowKit
set_option linter.unusedVariables false
set_option linter.unusedSimpArgs false
theorem nDigits_le:∀(k u:Nat),u<10 ^ (k+1)→Lib.nDigits u≤k+1
 |0,u,h=>by rw [Lib.nDigits_small (by simpa using h)];omega
 |k+1,u,h=>by
  by_cases h10:u<10
  ·rw [Lib.nDigits_small h10];omega
  ·rw [Lib.nDigits_big h10]
   have:=nDigits_le k (u / 10) (by rw [Nat.pow_succ] at h;omega)
   omega
theorem dec_len {u:Nat} (h:u≤9223372036854775808):(Lib.decDigits u).length≤20:=by
 rw [Lib.decDigits_length]
 exact nDigits_le 19 u (by omega)
def hxI (d:Int):Int:=if d<10 then 48+d else 87+d
def qI (c:Int):List Int:=if c=34∨c=92 then [92,c] else if 32≤c∧c≤126 then [c] else [92,120,hxI (c / 16),hxI (c % 16)]
def quoI (s:ByteArray) (i:Nat):List Int:=34 :: (s.data.toList.take i).flatMap (fun b=>qI (b.toNat:Int))
def quoteI (s:ByteArray):List Int:=quoI s s.size++[34]
theorem quo_next (s:ByteArray) (i:Nat) (h:i<s.size):quoI s (i+1)=quoI s i++qI ((s[i]'h).toNat:Int):=by
 unfold quoI
 have h1:s.data.toList[i]?=some (s[i]'h):=by
  rw [Array.getElem?_toList]
  exact Array.getElem?_eq_getElem (by exact h)
 rw [List.take_add_one,h1,List.flatMap_append]
 simp
theorem qI_len (c:Int):(qI c).length≤4:=by
 unfold qI
 split
 ·simp
 ·split <;> simp
def hexBV:ByteArray:=⟨#[48,49,50,51,52,53,54,55,56,57,97,98,99,100,101,102]⟩
def quoteU (s:ByteArray):List UInt8:=(strOfNums (quoteI s)).data.toList
def oneT (k n:Int) (s:ByteArray) (body:List UInt8):List UInt8:=
 if k=0 then [117,110,105,116] else if k=1 then (if n=1 then [116,114,117,101] else [102,97,108,115,101]) else if k=2 then Lib.itoa n else if k=3 then quoteU s else if k=5 then 123 :: body++[125] else 91 :: body++[93]
def headT (r first:Bool) (kk:List ByteArray):List UInt8:=(if first=true then [] else [44,32])++(if r=true then quoteU (kk.headD ⟨#[]⟩)++[58,32] else [])
def txtL (r:Bool):List Vl→List ByteArray→Bool→List UInt8
 |[],_,_=>[]
 |.mk k n s l ks :: q,kk,first=>headT r first kk++oneT k n s (txtL (decide (k=5)) l ks true)++txtL r q kk.tail false
def txt:Vl→List UInt8
 |.mk k n s l ks=>oneT k n s (txtL (decide (k=5)) l ks true)
theorem txtL_cons (r:Bool) (y:Vl) (q:List Vl) (kk:List ByteArray) (first:Bool):txtL r (y :: q) kk first=headT r first kk++txt y++txtL r q kk.tail false:=by
 cases y
 simp only [txtL,txt]
theorem txtL_snoc (r:Bool) (y:Vl):∀(a:List Vl) (kk:List ByteArray) (first:Bool),txtL r (a++[y]) kk first=txtL r a kk first++(headT r (first && a.isEmpty) (kk.drop a.length)++txt y)
 |[],kk,first=>by rw [List.nil_append,txtL_cons];simp [txtL]
 |x :: a,kk,first=>by
  rw [List.cons_append,txtL_cons,txtL_snoc r y a kk.tail false,txtL_cons]
  simp [List.append_assoc]
theorem txtL_next (r:Bool) (l:List Vl) (ks:List ByteArray) (i:Nat) (y:Vl) (h:l[i]?=some y):txtL r (l.take (i+1)) ks true=txtL r (l.take i) ks true++(headT r (decide (i=0)) (ks.drop i)++txt y):=by
 have hi:=(List.getElem?_eq_some_iff.1 h).1
 have hl:(l.take i).length=i:=by rw [List.length_take];omega
 rw [List.take_add_one,h]
 show txtL r (l.take i++[y]) ks true=_
 rw [txtL_snoc,hl]
 congr 3
 cases i with
 |zero=>rfl
 |succ i=>
  cases l with
  |nil=>simp at h
  |cons x l=>simp
theorem quoI_len (s:ByteArray):∀i,(quoI s i).length≤1+4 * i
 |0=>by simp [quoI]
 |i+1=>by
  by_cases h:i<s.size
  ·rw [quo_next s i h,List.length_append]
   have h1:=quoI_len s i
   have h2:=qI_len ((s[i]'h).toNat:Int)
   omega
  ·have h1:=quoI_len s i
   have e:quoI s (i+1)=quoI s i:=by
    have hz:s.data.toList.length=s.size:=rfl
    unfold quoI
    rw [List.take_of_length_le (by omega),List.take_of_length_le (by omega)]
   rw [e]
   omega
theorem quoteU_len (s:ByteArray):(quoteU s).length≤2+4 * s.size:=by
 unfold quoteU
 rw [strOfNums_data,List.length_map]
 unfold quoteI
 have:=quoI_len s s.size
 rw [List.length_append]
 simp
 omega
theorem itoa_len (n:Int) (h1:-9223372036854775808≤n) (h2:n≤9223372036854775807):(Lib.itoa n).length≤21:=by
 unfold Lib.itoa
 split
 ·have:=dec_len (u:=n.natAbs) (by omega)
  simp
  omega
 ·have:=dec_len (u:=n.toNat) (by omega)
  omega
def by8 (n:Int):UInt8:=UInt8.ofNat n.toNat
def qU (c:UInt8):List UInt8:=(qI (c.toNat:Int)).map by8
def numU (c:UInt8):List UInt8:=[92,120,by8 (hxI ((c.toNat:Int) / 16)),by8 (hxI ((c.toNat:Int) % 16))]
theorem map_flat {α β γ:Type} (f:β→γ) (g:α→List β):∀l:List α,(l.flatMap g).map f=l.flatMap fun a=>(g a).map f
 |[]=>rfl
 |a :: l=>by rw [List.flatMap_cons,List.map_append,map_flat f g l,List.flatMap_cons]
theorem quoteU_eq (s:ByteArray):quoteU s=34 :: s.data.toList.flatMap qU++[34]:=by
 unfold quoteU strOfNums quoteI quoI
 have e:(s.data.toList.take s.size)=s.data.toList:=List.take_of_length_le (Nat.le_refl _)
 rw [e]
 show List.map _ (34 :: _++[34])=_
 rw [List.map_append,List.map_cons,map_flat]
 rfl
theorem qU_num (c:UInt8) (h:c.toNat<32∨126<c.toNat):qU c=numU c:=by
 unfold qU qI
 rw [if_neg (by omega),if_neg (by omega)]
 rfl
theorem qU_esc (c:UInt8) (h:c.toNat=34∨c.toNat=92):qU c=[92,c]:=by
 unfold qU qI
 rw [if_pos (by omega)]
 simp [by8]
theorem qU_own (c:UInt8) (h0:32≤c.toNat) (h1:c.toNat≤126) (h2:c.toNat≠34) (h3:c.toNat≠92):qU c=[c]:=by
 unfold qU qI
 rw [if_neg (by omega),if_pos (by omega)]
 simp [by8]
theorem flat_num {l:List UInt8} (h:∀c∈l,c.toNat<32∨126<c.toNat):l.flatMap numU=l.flatMap qU:=by
 induction l with
 |nil=>rfl
 |cons c l ih=>rw [List.flatMap_cons,List.flatMap_cons,ih (fun c hc=>h c (List.mem_cons_of_mem _ hc)),qU_num c (h c (List.mem_cons_self ..))]
theorem flat_num_len (l:List UInt8):(l.flatMap numU).length=4 * l.length:=by
 induction l with
 |nil=>rfl
 |cons c l ih=>rw [List.flatMap_cons,List.length_append,ih,List.length_cons];simp [numU];omega
theorem qU_len (c:UInt8):(qU c).length≤4:=by
 unfold qU
 rw [List.length_map]
 exact qI_len _
theorem flat_q_len (l:List UInt8):(l.flatMap qU).length≤4 * l.length:=by
 induction l with
 |nil=>exact Nat.le_refl _
 |cons c l ih=>
  rw [List.flatMap_cons,List.length_append,List.length_cons]
  have:=qU_len c
  omega
theorem get_bang (s:ByteArray) (j:Nat) (h:j<s.size):s.get! j=s[j]'h:=by
 have:=get_at s j h
 simpa using this
theorem rune_of (s:ByteArray) (pos:Nat) (h:pos<s.size) :
  ((s[pos]'h).toNat<128∧Utf8.decode s pos=((s[pos]'h).toNat,1)) ∨
  (128≤(Utf8.decode s pos).1∧1≤(Utf8.decode s pos).2∧pos+(Utf8.decode s pos).2≤s.size∧∀j,pos≤j→j<pos+(Utf8.decode s pos).2→128≤(s.get! j).toNat):=by
 by_cases ha:(s[pos]'h).toNat<128
 ·exact .inl ⟨ha,decode_ascii s pos h ha⟩
 ·right
  have hg:(s.get! pos).toNat=(s[pos]'h).toNat:=by rw [get_bang s pos h]
  have h0:128≤(s.get! pos).toNat:=by omega
  refine⟨(decode_high s pos h (by omega)).1,(decode_high s pos h (by omega)).2,?_⟩
  have one:pos+1≤s.size∧∀j,pos≤j→j<pos+1→128≤(s.get! j).toNat:=⟨by omega,fun j h1 h2=>(show j=pos by omega) ▸ h0⟩
  have c1:∀k,(decide (pos+k<s.size) && ((s.get! (pos+k)).toNat / 64 == 2))=true→pos+k<s.size∧128≤(s.get! (pos+k)).toNat:=fun k hk=>by
   rw [Bool.and_eq_true,decide_eq_true_eq,beq_iff_eq] at hk
   exact⟨hk.1,by omega⟩
  simp only [Utf8.decode,Nat.add_zero]
  rw [if_neg (by omega)]
  split
  ·rename_i h1
   rw [Bool.and_eq_true] at h1
   have a1:=c1 1 h1.2
   split
   ·refine⟨by omega,fun j g1 g2=>?_⟩
    have hj:j=pos∨j=pos+1:=by simp at g2;omega
    rcases hj with rfl|rfl
    ·exact h0
    ·exact a1.2
   ·exact one
  ·split
   ·rename_i h1
    rw [Bool.and_eq_true,Bool.and_eq_true] at h1
    have a1:=c1 1 h1.1.2
    have a2:=c1 2 h1.2
    split
    ·refine⟨by omega,fun j g1 g2=>?_⟩
     have hj:j=pos∨j=pos+1∨j=pos+2:=by simp at g2;omega
     rcases hj with rfl|rfl|rfl
     ·exact h0
     ·exact a1.2
     ·exact a2.2
    ·exact one
   ·split
    ·rename_i h1
     rw [Bool.and_eq_true,Bool.and_eq_true,Bool.and_eq_true] at h1
     have a1:=c1 1 h1.1.1.2
     have a2:=c1 2 h1.1.2
     have a3:=c1 3 h1.2
     split
     ·refine⟨by omega,fun j g1 g2=>?_⟩
      have hj:j=pos∨j=pos+1∨j=pos+2∨j=pos+3:=by simp at g2;omega
      rcases hj with rfl|rfl|rfl|rfl
      ·exact h0
      ·exact a1.2
      ·exact a2.2
      ·exact a3.2
     ·exact one
    ·exact one
def Odd (s:ByteArray) (a b:Nat):Prop:=∀j,a≤j→j<b→(s.get! j).toNat<32∨126<(s.get! j).toNat
theorem piece_list (s:ByteArray) (a b:Nat):(s.extract a b).data.toList=(s.data.toList.take b).drop a:=by
 rw [ByteArray.data_extract,Array.toList_extract,List.extract_eq_take_drop,List.drop_take]
theorem get_list (s:ByteArray) (j:Nat) (c:UInt8) (h:s.data.toList[j]?=some c):s.get! j=c:=by
 rw [Array.getElem?_toList] at h
 have hj:j<s.size:=(Array.getElem?_eq_some_iff.1 h).1
 rw [get_bang s j hj]
 exact(Array.getElem?_eq_some_iff.1 h).2
theorem odd_piece {s:ByteArray} {a b:Nat} (h:Odd s a b) (hab:a≤b) (hb:b≤s.size):(s.data.toList.take a).flatMap qU++(s.extract a b).data.toList.flatMap numU=(s.data.toList.take b).flatMap qU:=by
 rw [flat_num,piece_list,←List.flatMap_append]
 ·congr 1
  have e:s.data.toList.take a=(s.data.toList.take b).take a:=by rw [List.take_take,Nat.min_eq_left hab]
  rw [e,List.take_append_drop]
 ·intro c hc
  rw [piece_list] at hc
  obtain⟨i,hi⟩:=List.mem_iff_getElem?.1 hc
  rw [List.getElem?_drop,List.getElem?_take] at hi
  split at hi
  ·rename_i hlt
   have:=h (a+i) (by omega) hlt
   rw [get_list s _ c hi] at this
   exact this
  ·cases hi
theorem take_one (s:ByteArray) (p:Nat) (h:p<s.size):(s.data.toList.take (p+1)).flatMap qU=(s.data.toList.take p).flatMap qU++qU (s[p]'h):=by
 have e:s.data.toList[p]?=some (s[p]'h):=by rw [Array.getElem?_toList];exact Array.getElem?_eq_getElem h
 rw [List.take_add_one,e,List.flatMap_append]
 simp
theorem hexN_fin:∀d:Fin 16,hexBV[d.val]'(by have:=d.isLt;show d.val<16;omega)=by8 (hxI (d.val:Int)):=by decide +kernel
theorem hexN (k:Nat) (h:k<16) (hh:k<hexBV.size):hexBV[k]'hh=by8 (hxI (k:Int)):=hexN_fin ⟨k,h⟩
set_option maxRecDepth 100000 in
set_option maxHeartbeats 1000000 in
theorem nums_any (B b:Nat) (l:List UInt8) (s:ByteArray) (w:World) (h:Bd w B b l) (hlen:l.length+4 * s.size≤1099511627776) (hBw:B≤w.heap.size) :
  Calls Tryz.prog 138 #[.pointer (some ⟨b,0,none⟩),.string s] w fun e w'=>e=.returned (.tuple #[])∧Wr B b (l++s.data.toList.flatMap numU) w w':=by
 have HL:=hide hlen
 have HB:=hide hBw
 have HBd:=hide h
 clear h hBw
 go_enter Tryz.func138,Tryz.ntmps138
 go_wp2_with fail
 go_loopw [7] (fun x wr=>∃(i:Nat),x=.int .i64 (i:Int)∧i≤s.size∧Hid (Wr B b (l++(s.data.toList.take i).flatMap numU) w wr)) (fun x _=>s.size - (intOf x).toNat)
 case atStart=>exact⟨0,rfl,Nat.zero_le _,hide ⟨by simpa using unhide HBd,Below.refl _ _,Lib.OthersKept.refl _ _ _⟩⟩
 case round=>
  obtain⟨i,rfl,hi,HX⟩:=hrel
  by_cases hlt:i<s.size
  ·obtain⟨c,hc⟩:∃c:UInt8,s[i]'hlt=c:=⟨_,rfl⟩
   obtain⟨z,hz⟩:∃z:Nat,c.toNat=z:=⟨_,rfl⟩
   have z1:(z:Int)≤255:=by have:=c.toNat_lt;omega
   have hzi:((s[i]'hlt).toNat:Int)=(z:Int):=by rw [hc,hz]
   have HZ:=hide hz
   have HC:=hide hc
   have hll:((s.data.toList.take i).flatMap numU).length≤4 * i:=by rw [flat_num_len];have:=List.length_take_le i s.data.toList;omega
   have C1:=hide (wstr_any B b _ ⟨#[92,120]⟩ wr (unhide HX).bd (by rw [List.length_append];show _+2≤_;omega) ((unhide HX).size (unhide HB)))
   have HLL:=hide hll
   clear hc hz hll
   go_wp2_with fail
   refine(unhide C1).mono ?_
   rintro e w1 ⟨rfl,k1⟩
   have HX1:=hide ((unhide HX).trans k1)
   clear k1 C1 HX
   have hs1:hexBV.size=16:=rfl
   go_wp2_with fail
   refine(wbyte_any B b _ (hexBV[z / 16]'(by omega)) w1 (unhide HX1).bd (by have:=unhide HLL;have:=unhide HL;rw [List.length_append,List.length_append];show _+2+1≤_;omega) ((unhide HX1).size (unhide HB))).mono ?_
   rintro e w2 ⟨rfl,k2⟩
   have HX2:=hide ((unhide HX1).trans k2)
   clear k2 HX1
   go_wp2_with fail
   refine(wbyte_any B b _ (hexBV[z % 16]'(by omega)) w2 (unhide HX2).bd (by have:=unhide HLL;have:=unhide HL;rw [List.length_append,List.length_append,List.length_append];show _+2+1+1≤_;omega) ((unhide HX2).size (unhide HB))).mono ?_
   rintro e w3 ⟨rfl,k3⟩
   have HX3:=hide ((unhide HX2).trans k3)
   clear k3 HX2
   have HN:Hid (Wr B b (l++(s.data.toList.take (i+1)).flatMap numU) w w3):=hide (by
    have h3:=unhide HX3
    have e:s.data.toList[i]?=some c:=by rw [Array.getElem?_toList,←unhide HC];exact Array.getElem?_eq_getElem hlt
    have e1:hexBV[z / 16]'(by omega)=by8 (hxI ((z:Int) / 16)):=(hexN (z / 16) (by omega) (by omega)).trans (by rw [show ((z / 16:Nat):Int)=(z:Int) / 16 by omega])
    have e2:hexBV[z % 16]'(by omega)=by8 (hxI ((z:Int) % 16)):=(hexN (z % 16) (by omega) (by omega)).trans (by rw [show ((z % 16:Nat):Int)=(z:Int) % 16 by omega])
    rw [List.take_add_one,e,List.flatMap_append]
    rw [e1,e2] at h3
    have en:numU c=[92,120]++[by8 (hxI ((z:Int) / 16))]++[by8 (hxI ((z:Int) % 16))]:=by unfold numU;rw [unhide HZ];rfl
    have el:(l++((s.data.toList.take i).flatMap numU++(some c).toList.flatMap numU))=l++(s.data.toList.take i).flatMap numU++[92,120]++[by8 (hxI ((z:Int) / 16))]++[by8 (hxI ((z:Int) % 16))]:=by
     simp [en]
    rw [el]
    exact h3)
   have HLT:=hide hlt
   clear HX3 HC HZ HLL
   go_wp2_with fail
   go_roundw
   case rel=>exact⟨i+1,by go_num,unhide HLT,HN⟩
   case measure=>have:=unhide HLT;simp [intOf];omega
  ·have e:i=s.size:=by omega
   subst e
   have HR:Hid (Wr B b (l++s.data.toList.flatMap numU) w wr):=hide (by have:=unhide HX;rwa [show s.data.toList.take s.size=s.data.toList from List.take_of_length_le (Nat.le_refl _)] at this)
   go_wp2_with fail
   go_end0
   exact⟨rfl,unhide HR⟩
theorem Wr.iterAt {B b k:Nat} {l:List UInt8} {w w':World} {s:ByteArray} {pos:Nat} (h:Wr B b l w w') (hk:w'.heap[k]?=some (.stringIter s pos)) (hB:w.heap.size≤k) (hBw:B≤w.heap.size) (pos':Nat):Wr B b l w (w'.iterAt k s pos'):=
 ⟨h.bd.iterAt hk pos',Lib.below_iterAt h.below (by omega) s pos',fun j o hj hb ho=>by
  have h1:=h.kept j o hj hb ho
  have hlt:j<w.heap.size:=(Array.getElem?_eq_some_iff.1 hj).1
  rw [Lib.iterAt_other w' k j s pos' (by omega)]
  exact h1⟩
set_option maxRecDepth 100000 in
set_option maxHeartbeats 2000000 in
theorem quote_any (B b:Nat) (l:List UInt8) (s:ByteArray) (w:World) (h:Bd w B b l) (hlen:l.length+8 * s.size+8≤1099511627776) (hBw:B≤w.heap.size) :
  Calls Tryz.prog 112 #[.pointer (some ⟨b,0,none⟩),.string s] w fun e w'=>e=.returned (.tuple #[])∧Wr B b (l++quoteU s) w w':=by
 have HL:=hide hlen
 have HB:=hide hBw
 have hss:(s.size:Int)≤1099511627776:=by omega
 have hblt:b<w.heap.size:=by rcases h with h|h <;> exact h.lt
 have C1:=hide (wbyte_lit B b l 34 34 rfl w h (by omega) hBw)
 have HBL:=hide hblt
 clear h hBw hlen hblt
 go_enter Tryz.func112,Tryz.ntmps112
 go_wp2_with fail
 refine(unhide C1).mono ?_
 rintro e w1 ⟨rfl,k1⟩
 have HX1:=hide k1
 clear k1 C1
 obtain⟨k,hk⟩:∃k,w1.heap.size=k:=⟨_,rfl⟩
 have HK:=hide hk
 go_wp2_with fail
 have HS:Hid (Wr B b (l++[34]) w (w1.iter s 0)∧(w1.iter s 0).heap[k]?=some (.stringIter s 0)):=hide (by
  refine⟨⟨(unhide HX1).bd.alloc _,(unhide HX1).below.alloc (Nat.le_trans (unhide HB) (unhide HX1).below.size) _,(unhide HX1).kept.alloc _⟩,?_⟩
  rw [←unhide HK]
  exact World.iter_heap w1 s 0)
 have HKB:Hid (w.heap.size≤k∧k≠b):=hide (by
  have h1:=(unhide HX1).below.size
  have h2:=unhide HK
  have h3:=unhide HBL
  omega)
 clear hk
 go_loopw [4] (fun x wr=>∃(told pos:Nat),x=.int .i64 (told:Int)∧told≤pos∧pos≤s.size∧Hid (Odd s told pos∧Wr B b (l++34 :: (s.data.toList.take told).flatMap qU) w wr∧wr.heap[k]?=some (.stringIter s pos))) (fun _ wr=>s.size - wr.iterPos k)
 case atStart=>exact⟨0,0,rfl,Nat.le_refl _,Nat.zero_le _,hide ⟨fun j h1 h2=>by omega,by simpa using (unhide HS).1,(unhide HS).2⟩⟩
 case round=>
  clear HS HX1 HK
  obtain⟨told,pos,rfl,htp,hps,HX⟩:=hrel
  have htl:=flat_q_len (s.data.toList.take told)
  have HTL:Hid ((l++34 :: (s.data.toList.take told).flatMap qU).length≤l.length+1+4 * told):=hide (by
   rw [List.length_append,List.length_cons]
   have:=List.length_take_le told s.data.toList
   omega)
  clear htl
  by_cases hp:pos<s.size
  ·have hnx:∀ty,(Instr.next (.pointer (some ⟨k,0,none⟩)) true ty).run Tryz.prog wr=_:=fun ty=>Lib.run_next_any_at wr k s pos ty (unhide HX).2.2 hp
   have hru:=rune_of s pos hp
   obtain⟨r,hr⟩:∃r,(Utf8.decode s pos).1=r:=⟨_,rfl⟩
   obtain⟨n,hn⟩:∃n,(Utf8.decode s pos).2=n:=⟨_,rfl⟩
   rw [hr,hn] at hnx
   have hWn:=(unhide HX).2.1.iterAt (unhide HX).2.2 (unhide HKB).1 (unhide HB) (pos+n)
   have hin:=Lib.iterAt_heap wr k s pos (pos+n) (unhide HX).2.2
   obtain⟨wn,hwn⟩:∃wn,wr.iterAt k s (pos+n)=wn:=⟨_,rfl⟩
   rw [hwn] at hnx hWn hin
   have HIP:Hid (wr.iterPos k=pos):=hide (by unfold World.iterPos;rw [(unhide HX).2.2])
   by_cases hpr:(s[pos]'hp).toNat<32∨126<(s[pos]'hp).toNat
   ·-- told by numbers,later
    have hrr:(r<32∨126<r)∧pos+n≤s.size∧1≤n∧∀j,pos≤j→j<pos+n→(s.get! j).toNat<32∨126<(s.get! j).toNat:=by
     rcases hru with ⟨h1,h2⟩|⟨h1,h2,h3,h4⟩
     ·have e1:r=(s[pos]'hp).toNat:=by rw [←hr,h2]
      have e2:n=1:=by rw [←hn,h2]
      refine⟨by omega,by omega,by omega,fun j g1 g2=>?_⟩
      obtain rfl:j=pos:=by omega
      rw [get_bang s j hp]
      exact hpr
     ·rw [hr] at h1
      rw [hn] at h2 h3 h4
      exact⟨by omega,h3,h2,fun j g1 g2=>.inr (by have:=h4 j g1 g2;omega)⟩
    have hrle:r≤2147483647:=by rw [←hr];exact decode_le s pos
    have HO:Hid (Odd s told (pos+n)∧Wr B b (l++34 :: (s.data.toList.take told).flatMap qU) w wn∧wn.heap[k]?=some (.stringIter s (pos+n))):=hide ⟨fun j g1 g2=>by
     by_cases e:j<pos
     ·exact(unhide HX).1 j g1 e
     ·exact hrr.2.2.2 j (by omega) g2,hWn,hin⟩
    have HN:Hid (pos+n≤s.size∧1≤n):=hide ⟨hrr.2.1,hrr.2.2.1⟩
    have hr1:=hrr.1
    clear hrr hru hr hn hWn hin hwn hpr HTL HX
    rcases hr1 with r1|r1
    ·have r2:(r:Int)<32:=by omega
     go_wp2_with fail
     go_roundw
     case rel=>exact⟨told,pos+n,rfl,by omega,(unhide HN).1,HO⟩
     case measure=>
       have h1:=unhide HIP;have h2:=unhide HN;have h3:wn.iterPos k=pos+n:=by unfold World.iterPos;rw [(unhide HO).2.2]
       rw [h1,h3];omega
    ·have r2:¬(r:Int)<32:=by omega
     have r3:(126:Int)<r:=by omega
     go_wp2_with fail
     go_roundw
     case rel=>exact⟨told,pos+n,rfl,by omega,(unhide HN).1,HO⟩
     case measure=>
       have h1:=unhide HIP;have h2:=unhide HN;have h3:wn.iterPos k=pos+n:=by unfold World.iterPos;rw [(unhide HO).2.2]
       rw [h1,h3];omega
   ·obtain⟨h1,h2⟩:(s[pos]'hp).toNat<128∧Utf8.decode s pos=((s[pos]'hp).toNat,1):=by
     rcases hru with h|⟨h1,h2,h3,h4⟩
     ·exact h
     ·have:=h4 pos (Nat.le_refl _) (by omega)
      rw [get_bang s pos hp] at this
      omega
    obtain⟨c,hc⟩:∃c,s[pos]'hp=c:=⟨_,rfl⟩
    rw [hc] at h1 h2 hpr
    have e1:r=c.toNat:=by rw [←hr,h2]
    obtain rfl:n=1:=by rw [←hn,h2]
    have hrc:((c.toNat:Nat):Int)=(r:Int):=by rw [e1]
    have r0:¬(r:Int)<32:=by omega
    have r1:¬(126:Int)<(r:Int):=by omega
    have r2:(32:Int)≤(r:Int):=by omega
    have r3:(r:Int)≤126:=by omega
    have hsz:(s.extract told pos).size=pos - told:=by rw [ByteArray.size_extract];omega
    have CN:=hide (nums_any B b _ (s.extract told pos) wn hWn.bd (by have:=unhide HTL;have:=unhide HL;rw [hsz];omega) (hWn.size (unhide HB)))
    rw [List.append_assoc,List.cons_append,odd_piece (unhide HX).1 htp hps] at CN
    have HQ:Hid (34 :: (s.data.toList.take (pos+1)).flatMap qU=(34 :: (s.data.toList.take pos).flatMap qU)++qU c):=hide (by rw [take_one s pos hp,hc];rfl)
    have HPL:Hid ((l++34 :: (s.data.toList.take pos).flatMap qU).length≤l.length+1+4 * pos):=hide (by
     rw [List.length_append,List.length_cons]
     have:=flat_q_len (s.data.toList.take pos)
     have:=List.length_take_le pos s.data.toList
     omega)
    have HW:=hide (And.intro hWn hin)
    have HRC:=hide hrc
    have HEQ:=hide e1
    have t1:(told:Int)≤(pos:Int):=by omega
    have t2:(pos:Int)≤(s.size:Int):=by omega
    have HP:=hide hp
    clear hru hr hn hWn hin hwn hpr HTL HX h1 h2 hc hrc e1 hsz
    go_wp2_with fail
    refine(unhide CN).mono ?_
    rintro e w3 ⟨rfl,k3⟩
    have HX3:=hide (And.intro ((unhide HW).1.trans k3) (k3.kept.iter (unhide HW).2 (unhide HKB).2))
    clear k3 CN HW
    by_cases hq:r=34∨r=92
    ·have HQ2:Hid (qU c=[92]++[c]):=hide (by rw [qU_esc c (by have:=unhide HEQ;omega)];rfl)
     have CW:=hide (wbyte_lit B b _ 92 92 rfl w3 (unhide HX3).1.bd (by have:=unhide HPL;have:=unhide HL;omega) ((unhide HX3).1.size (unhide HB)))
     rcases hq with q1|q1
     ·have q2:(r:Int)=34:=by omega
      have q4:((r:Int) == 34)=true:=by simpa using q2
      have q5:r=34:=q1
      clear q1
      have HRC34:Hid ((c.toNat:Int)=34):=hide (by have:=unhide HRC;omega)
      go_wp2_with fail
      refine(unhide CW).mono ?_
      rintro e w4 ⟨rfl,k4⟩
      have HX4:=hide (And.intro ((unhide HX3).1.trans k4) (k4.kept.iter (unhide HX3).2 (unhide HKB).2))
      clear k4 CW HX3
      have CB:=hide (wbyte_lit B b _ c 34 (unhide HRC34) w4 (unhide HX4).1.bd (by have:=unhide HPL;have:=unhide HL;rw [List.length_append];show _+1+1≤_;omega) ((unhide HX4).1.size (unhide HB)))
      go_wp2_with fail
      refine(unhide CB).mono ?_
      rintro e w5 ⟨rfl,k5⟩
      have HX5:=hide (And.intro ((unhide HX4).1.trans k5) (k5.kept.iter (unhide HX4).2 (unhide HKB).2))
      have HN:Hid (Wr B b (l++34 :: (s.data.toList.take (pos+1)).flatMap qU) w w5∧w5.heap[k]?=some (.stringIter s (pos+1))):=hide (by
       refine⟨?_,(unhide HX5).2⟩
       have h5:=(unhide HX5).1
       rw [unhide HQ,unhide HQ2]
       simpa using h5)
      clear k5 CB HX4 HX5
      go_wp2_with fail
      go_roundw
      case rel=>exact⟨pos+1,pos+1,by go_num,Nat.le_refl _,unhide HP,hide ⟨fun j g1 g2=>by omega,(unhide HN).1,(unhide HN).2⟩⟩
      case measure=>
       have h1:=unhide HIP
       have h2:=unhide HP
       have h3:w5.iterPos k=pos+1:=by unfold World.iterPos;rw [(unhide HN).2]
       rw [h1,h3]
       omega
     ·have q2:¬(r:Int)=34:=by omega
      have q3:(r:Int)=92:=by omega
      have q4:((r:Int) == 34)=false:=by simpa using q2
      have q5:((r:Int) == 92)=true:=by simpa using q3
      have HRC92:Hid ((c.toNat:Int)=92):=hide (by have:=unhide HRC;omega)
      go_wp2_with fail
      refine(unhide CW).mono ?_
      rintro e w4 ⟨rfl,k4⟩
      have HX4:=hide (And.intro ((unhide HX3).1.trans k4) (k4.kept.iter (unhide HX3).2 (unhide HKB).2))
      clear k4 CW HX3
      have CB:=hide (wbyte_lit B b _ c 92 (unhide HRC92) w4 (unhide HX4).1.bd (by have:=unhide HPL;have:=unhide HL;rw [List.length_append];show _+1+1≤_;omega) ((unhide HX4).1.size (unhide HB)))
      go_wp2_with fail
      refine(unhide CB).mono ?_
      rintro e w5 ⟨rfl,k5⟩
      have HX5:=hide (And.intro ((unhide HX4).1.trans k5) (k5.kept.iter (unhide HX4).2 (unhide HKB).2))
      have HN:Hid (Wr B b (l++34 :: (s.data.toList.take (pos+1)).flatMap qU) w w5∧w5.heap[k]?=some (.stringIter s (pos+1))):=hide (by
       refine⟨?_,(unhide HX5).2⟩
       have h5:=(unhide HX5).1
       rw [unhide HQ,unhide HQ2]
       simpa using h5)
      clear k5 CB HX4 HX5
      go_wp2_with fail
      go_roundw
      case rel=>exact⟨pos+1,pos+1,by go_num,Nat.le_refl _,unhide HP,hide ⟨fun j g1 g2=>by omega,(unhide HN).1,(unhide HN).2⟩⟩
      case measure=>
       have h1:=unhide HIP
       have h2:=unhide HP
       have h3:w5.iterPos k=pos+1:=by unfold World.iterPos;rw [(unhide HN).2]
       rw [h1,h3]
       omega
    ·have q2:¬(r:Int)=34:=by omega
     have q3:¬(r:Int)=92:=by omega
     have q4:((r:Int) == 34)=false:=by simpa using q2
     have q5:((r:Int) == 92)=false:=by simpa using q3
     have HQ2:Hid (qU c=[c]):=hide (qU_own c (by have:=unhide HEQ;omega) (by have:=unhide HEQ;omega) (by have:=unhide HEQ;omega) (by have:=unhide HEQ;omega))
     have CB:=hide (wbyte_lit B b _ c (r:Int) (unhide HRC) w3 (unhide HX3).1.bd (by have:=unhide HPL;have:=unhide HL;omega) ((unhide HX3).1.size (unhide HB)))
     go_wp2_with fail
     refine(unhide CB).mono ?_
     rintro e w5 ⟨rfl,k5⟩
     have HX5:=hide (And.intro ((unhide HX3).1.trans k5) (k5.kept.iter (unhide HX3).2 (unhide HKB).2))
     have HN:Hid (Wr B b (l++34 :: (s.data.toList.take (pos+1)).flatMap qU) w w5∧w5.heap[k]?=some (.stringIter s (pos+1))):=hide (by
      refine⟨?_,(unhide HX5).2⟩
      have h5:=(unhide HX5).1
      rw [unhide HQ,unhide HQ2]
      simpa using h5)
     clear k5 CB HX3 HX5
     go_wp2_with fail
     go_roundw
     case rel=>exact⟨pos+1,pos+1,by go_num,Nat.le_refl _,unhide HP,hide ⟨fun j g1 g2=>by omega,(unhide HN).1,(unhide HN).2⟩⟩
     case measure=>
      have h1:=unhide HIP
      have h2:=unhide HP
      have h3:w5.iterPos k=pos+1:=by unfold World.iterPos;rw [(unhide HN).2]
      rw [h1,h3]
      omega
  ·have e:pos=s.size:=by omega
   have t1:(told:Int)≤(s.size:Int):=by omega
   have hnx:∀ty,(Instr.next (.pointer (some ⟨k,0,none⟩)) true ty).run Tryz.prog wr=_:=fun ty=>Lib.run_next_end_at wr k s pos ty (unhide HX).2.2 hp
   subst e
   have hsz:(s.extract told s.size).size=s.size - told:=by rw [ByteArray.size_extract];omega
   have CN:=hide (nums_any B b _ (s.extract told s.size) wr (unhide HX).2.1.bd (by have:=unhide HTL;have:=unhide HL;rw [hsz];omega) ((unhide HX).2.1.size (unhide HB)))
   rw [List.append_assoc,List.cons_append,odd_piece (unhide HX).1 htp hps,show s.data.toList.take s.size=s.data.toList from List.take_of_length_le (Nat.le_refl _)] at CN
   have HSL:Hid ((l++34 :: s.data.toList.flatMap qU).length≤l.length+1+4 * s.size):=hide (by
    rw [List.length_append,List.length_cons]
    have:=flat_q_len s.data.toList
    have e2:s.data.toList.length=s.size:=rfl
    omega)
   have HQ:Hid (quoteU s=(34 :: s.data.toList.flatMap qU)++[34]):=hide (quoteU_eq s)
   have HX0:=hide (unhide HX).2.1
   clear hsz HTL HX hp hps htp
   go_wp2_with fail
   refine(unhide CN).mono ?_
   rintro e w3 ⟨rfl,k3⟩
   have HX3:=hide ((unhide HX0).trans k3)
   clear k3 CN HX0
   have CB:=hide (wbyte_lit B b _ 34 34 rfl w3 (unhide HX3).bd (by have:=unhide HSL;have:=unhide HL;omega) ((unhide HX3).size (unhide HB)))
   go_wp2_with fail
   refine(unhide CB).mono ?_
   rintro e w4 ⟨rfl,k4⟩
   have HX4:=hide ((unhide HX3).trans k4)
   clear k4 CB HX3
   go_wp2_with fail
   go_end0
   refine⟨rfl,?_⟩
   have h4:=unhide HX4
   rw [unhide HQ]
   simpa using h4
theorem okL_at:∀(b:Nat) (l:List Vl) (i:Nat) (y:Vl),okL b l=true→l[i]?=some y→okB b y=true
 |b,[],i,y,_,h=>by simp at h
 |b,x :: r,0,y,ho,h=>by
  rw [okL_cons,Bool.and_eq_true] at ho
  simp at h
  subst h
  exact ho.1
 |b,x :: r,i+1,y,ho,h=>by
  rw [okL_cons,Bool.and_eq_true] at ho
  exact okL_at b r i y ho.2 (by simpa using h)
theorem wtL_take1 (l:List Vl) (i:Nat) (y:Vl) (h:l[i]?=some y):wtL (l.take (i+1))=wtL (l.take i)+wt y:=by
 rw [List.take_add_one,h,wtL_app]
 show wtL (l.take i)+wtL [y]=_
 rw [wtL_cons,wtL_nil]
 omega
theorem keysW_app2:∀(a b:List ByteArray),keysW (a++b)=keysW a+keysW b
 |[],b=>by simp [keysW]
 |t :: r,b=>by
  have:=keysW_app2 r b
  rw [List.cons_append]
  simp only [keysW]
  omega
theorem keysW_take1 (ks:List ByteArray) (i:Nat) (t:ByteArray) (h:ks[i]?=some t):keysW (ks.take (i+1))=keysW (ks.take i)+1+t.size:=by
 rw [List.take_add_one,h,keysW_app2]
 show keysW (ks.take i)+keysW [t]=_
 simp only [keysW]
 omega
theorem keysW_take_le2 (ks:List ByteArray) (i:Nat):keysW (ks.take i)≤keysW ks:=by
 have h:=keysW_app2 (ks.take i) (ks.drop i)
 rw [List.take_append_drop] at h
 omega
theorem wtL_take_le2 (l:List Vl) (i:Nat):wtL (l.take i)≤wtL l:=by
 have h:=wtL_app (l.take i) (l.drop i)
 rw [List.take_append_drop] at h
 omega
end Go.Proofs.YtekbmfppfjlboaaGreatDoor
