/-
  Layer 19 (check): a right tree has the form that the looks ask; pure, no conditions.
  Layer 17 (parse): trees, and what the reader makes of tokens, as functions of lists; plain, no conditions.
  Bytes as a source says them; no conditions.
  Rows of the call's own: append of one element, of some bytes; no conditions.
  Laws for arrays in memory, whole: a load, a store, of whatever cells; rows of bytes; no conditions.
  Laws for variables that hold whole arrays or structs: made, written, with the worlds behind them as letters; no conditions.
-/
import Derived.Test.YtjdpaihhhjdgmaaGreatDoorA25
import Derived.Test.YtjdpaihhhjdgmaaGreatDoorA00
import Derived.Test.YtjdpaihhhjdgmaaGreatDoorRows
import Derived.Test.YtjdpaihhhjdgmaaGreatDoorA02
import Derived.WalkKit
import Derived.WalkSpells
import Derived.WalkSmall
import Derived.Below
import Derived.OwnWalk
import Derived.Laws.Rows
import Derived.Laws.BytesArg
import Derived.Laws.Strings
import Derived.Maps.AppendAt
import Derived.Deep.CutRange
import Derived.Deep.AppendLies
import Derived.ArgAppend
import Derived.Lib.SlBytesConst
import Derived.Deep.QuietTactic
import Derived.BigQuiet
import Derived.OpenShut
import Derived.Deep.WholeRow
import Derived.Deep.MidRow
import Derived.Laws.Tables
import Derived.Laws.ResultCell
import Derived.Laws.CopyOwn
set_option linter.unusedVariables false
set_option linter.unusedSimpArgs false
set_option maxRecDepth 100000
set_option maxHeartbeats 8000000
namespace Go.Proofs.YtjdpaihhhjdgmaaGreatDoor
open Go.RowKit
set_option linter.unusedVariables false
set_option linter.unusedSimpArgs false
theorem len_tl {t:ByteArray} {n:Nat} (h:t.toList.length≤n):t.size≤n:=by
 rw [ByteArray.toList_eq] at h
 simpa using h
theorem bnS_len (t:List UInt8) (h:0<bnS t):t.length≤2:=by
 unfold bnS at h
 split at h
 ·rename_i e;rw [e];decide
 split at h
 ·rename_i e;rw [e];decide
 split at h
 ·rename_i e;rcases e with e|e|e|e|e|e <;> rw [e] <;> decide
 split at h
 ·rename_i e;rcases e with e|e <;> rw [e] <;> decide
 split at h
 ·rename_i e;rcases e with e|e|e <;> rw [e] <;> decide
 ·exact absurd h (Nat.lt_irrefl 0)
theorem tx_size {k:Int} {t:ByteArray} (h:txB k t=true):t.size≤32:=by
 unfold txB at h
 split at h
 ·unfold nameL at h
  simp only [Bool.and_eq_true,decide_eq_true_eq] at h
  have h2:t.data.toList.length≤20:=h.1.1.1.2
  have h3:t.size≤20:=by simpa using h2
  omega
 split at h
 ·simp only [Bool.or_eq_true,decide_eq_true_eq] at h
  rcases h with h|h
  ·exact Nat.le_trans (len_tl (n:=1) (by rw [h];decide)) (by omega)
  ·exact Nat.le_trans (len_tl (n:=1) (by rw [h];decide)) (by omega)
 split at h
 ·have h1:=bnS_len _ (by simpa using h)
  exact Nat.le_trans (len_tl h1) (by omega)
 split at h
 ·simpa using h
 ·exact Nat.le_trans (len_tl (n:=0) (by rw [of_decide_eq_true h];decide)) (by omega)
theorem ex_five {k:Int} (h:isEx k=true):k≠5:=fun e=>by
 rw [e] at h
 exact absurd h (by decide)
theorem map_k {ks:List Tn} {z:Tn} (h:z∈ks):z.k∈ks.map (·.k):=List.mem_map.2 ⟨z,h,rfl⟩
theorem one_mem {ks:List Tn} {z:Tn} {p:Int→Bool} (hl:(ks.map (·.k)).length=1) (h:p (((ks.map (·.k))[0]?).getD 0)=true) (hz:z∈ks):p z.k=true:=by
 rcases ks with _|⟨a,_|⟨b,r⟩⟩
 ·cases hz
 ·rw [List.mem_singleton] at hz
  subst hz
  exact h
 ·simp at hl
theorem kd_five {k:Int} {ks:List Tn} (h:kdB k (ks.map (·.k))=true) {z:Tn} (hz:z∈ks) (h4:k≠4):z.k≠5:=by
 have hm:=map_k hz
 unfold kdB at h
 split at h
 ·have:=List.all_eq_true.1 h z.k hm
  have:=of_decide_eq_true this
  omega
 split at h
 ·simp only [Bool.and_eq_true,decide_eq_true_eq] at h
  obtain⟨⟨h1,h2⟩,h3⟩:=h
  obtain⟨i,hi,hiz⟩:=List.getElem_of_mem hm
  by_cases e:i=(ks.map (·.k)).length - 1
  ·rw [←e,List.getElem?_eq_getElem hi,hiz] at h3
   have:=Option.some.inj h3
   omega
  ·have hi2:z.k∈(ks.map (·.k)).take ((ks.map (·.k)).length - 1):=by
    rw [←hiz]
    refine List.mem_iff_getElem.2 ⟨i,by rw [List.length_take];omega,by rw [List.getElem_take]⟩
   have:=of_decide_eq_true (List.all_eq_true.1 h2 z.k hi2)
   omega
 split at h
 ·simp only [Bool.or_eq_true,Bool.and_eq_true,decide_eq_true_eq] at h
  rcases ks with _|⟨a,_|⟨b,_|⟨c,_|⟨d,r⟩⟩⟩⟩
  ·cases hz
  ·simp at h
  ·simp only [List.map_cons,List.map_nil,List.getElem?_cons_zero,List.getElem?_cons_succ,List.length_cons,List.length_nil,Option.getD_some,Option.some.injEq] at h
   have h':isEx a.k=true∧b.k=4:=by
    rcases h with h|h
    ·exact h.2
    ·omega
   rcases List.mem_cons.1 hz with rfl|hz
   ·exact ex_five h'.1
   ·rw [List.mem_singleton] at hz
    subst hz
    omega
  ·simp only [List.map_cons,List.map_nil,List.getElem?_cons_zero,List.getElem?_cons_succ,List.length_cons,List.length_nil,Option.getD_some,Option.some.injEq] at h
   have h':(isEx a.k=true∧b.k=4)∧(c.k=4∨c.k=7):=by
    rcases h with h|h
    ·omega
    ·exact⟨h.1.2,h.2⟩
   rcases List.mem_cons.1 hz with rfl|hz
   ·exact ex_five h'.1.1
   ·rcases List.mem_cons.1 hz with rfl|hz
    ·omega
    ·rw [List.mem_singleton] at hz
     subst hz
     omega
  ·simp only [List.map_cons,List.length_cons] at h
   omega
 split at h
 ·simp only [Bool.and_eq_true,decide_eq_true_eq] at h
  rcases ks with _|⟨a,_|⟨b,_|⟨c,r⟩⟩⟩
  ·cases hz
  ·simp at h
  ·simp only [List.map_cons,List.map_nil,List.getElem?_cons_zero,List.getElem?_cons_succ,Option.getD_some,Option.some.injEq] at h
   rcases List.mem_cons.1 hz with rfl|hz
   ·exact ex_five h.2.1
   ·rw [List.mem_singleton] at hz
    subst hz
    omega
  ·simp only [List.map_cons,List.length_cons] at h
   omega
 split at h
 ·simp only [Bool.and_eq_true] at h
  exact ex_five (List.all_eq_true.1 h.2 z.k hm)
 split at h
 ·simp only [Bool.and_eq_true,decide_eq_true_eq] at h
  exact ex_five (one_mem (p:=isEx) h.1 h.2 hz)
 split at h
 ·simp only [Bool.and_eq_true] at h
  exact ex_five (List.all_eq_true.1 h.2 z.k hm)
 split at h
 ·exact ex_five (List.all_eq_true.1 h z.k hm)
 split at h
 ·have:=of_decide_eq_true (List.all_eq_true.1 h z.k hm)
  omega
 split at h
 ·have:=of_decide_eq_true h
  rcases ks with _|⟨a,r⟩
  ·cases hz
  ·simp at this
 ·exact absurd h (by decide)
theorem fmB_kid {y z:Tn} (h:fmB y=true) (hz:z∈y.ks):fmB z=true:=by
 unfold fmB at h
 simp only [Bool.and_eq_true] at h
 rw [fmL_all] at h
 exact List.all_eq_true.1 h.2 z hz
theorem fmB_parts {y:Tn} (h:fmB y=true):txB y.k y.t=true∧kdB y.k (y.ks.map (·.k))=true:=by
 unfold fmB rwB at h
 simp only [Bool.and_eq_true] at h
 exact⟨h.1.1.1.1,h.1.2⟩
theorem cns_len:∀l:List Tn,l.length≤cns l
 |[]=>Nat.zero_le _
 |.mk k t v f ks p :: r=>by
  have:=cns_len r
  simp only [List.length_cons,cns]
  omega
theorem cns_pos (y:Tn):1≤cns [y]:=by rw [cns_one];omega
theorem cns_kid {y z:Tn} (hz:z∈y.ks):cns [z]+1≤cns [y]:=by
 have:=cns_mem y.ks z hz
 rw [cns_one y]
 omega
theorem kd_pair {ks:List Tn} (h:kdB 19 (ks.map (·.k))=true) {z:Tn} (hz:z∈ks):z.k=20:=by
 unfold kdB at h
 rw [if_neg (by decide),if_neg (by decide),if_neg (by decide),if_neg (by decide),if_neg (by decide),if_neg (by decide),if_neg (by decide),if_neg (by decide),if_neg (by decide),if_pos rfl] at h
 exact of_decide_eq_true (List.all_eq_true.1 h z.k (map_k hz))
theorem kd_len {k:Int} {ks:List Tn} (h:kdB k (ks.map (·.k))=true) (hk:k=7∨k=8):2≤ks.length:=by
 rcases hk with rfl|rfl
 ·rw [kd_if] at h
  simp only [Bool.or_eq_true,Bool.and_eq_true,decide_eq_true_eq,List.length_map] at h
  omega
 ·rw [kd_wh] at h
  simp only [Bool.and_eq_true,decide_eq_true_eq,List.length_map] at h
  omega
theorem fmk_of:∀(d:Nat) (y:Tn),cns [y]≤d→cns [y]≤20000→fmB y=true→fmK d y
 |0,y,h,_,_=>by have:=cns_pos y;omega
 |d+1,y,h,hb,hf=>by
  have hp:=fmB_parts hf
  have hkid:∀z∈y.ks,fmK d z:=fun z hz=>fmk_of d z (by have:=cns_kid hz;omega) (by have:=cns_kid hz;omega) (fmB_kid hf hz)
  refine⟨Nat.le_trans (tx_size hp.1) (by omega),fun z hz h4=>kd_five hp.2 hz h4,hkid,fun z hz h19=>?_,kd_len hp.2,?_⟩
  ·have hp2:=hp.2
   rw [h19] at hp2
   have hz20:=kd_pair hp2 hz
   have hzp:=fmB_parts (fmB_kid hf hz)
   rw [hz20] at hzp
   have hk1:=hzp.2
   rw [kd_one (Or.inr (Or.inr (Or.inr (Or.inr rfl))))] at hk1
   simp only [Bool.and_eq_true,decide_eq_true_eq] at hk1
   refine⟨⟨by have:=hk1.1;rw [List.length_map] at this;omega,Nat.le_trans (tx_size hzp.1) (by omega)⟩,fun x hx=>⟨ex_five (one_mem (p:=isEx) hk1.1 hk1.2 hx),fmk_of d x (by have:=cns_kid hz;have:=cns_kid hx;omega) (by have:=cns_kid hz;have:=cns_kid hx;omega) (fmB_kid (fmB_kid hf hz) hx)⟩⟩
  ·have h1:=cns_len y.ks
   rw [cns_one] at hb
   omega
theorem smM_cns (m:Tn→Nat):∀l:List Tn,(∀z∈l,m z≤cns [z])→smM m l≤cns l
 |[],_=>Nat.zero_le _
 |z :: r,h=>by
  have h1:=h z (by simp)
  have h2:=smM_cns m r (fun x hx=>h x (by simp [hx]))
  obtain⟨k,t,v,f,ks,p⟩:=z
  simp only [smM,cns] at h1 h2 ⊢
  omega
theorem mk_cns:∀(d:Nat) (y:Tn),mK d y≤cns [y]
 |0,y=>Nat.zero_le _
 |d+1,y=>by
  have h1:=smM_cns (mK d) y.ks (fun z _=>mk_cns d z)
  have h2:=smM_cns (fun y=>match y.ks with|[]=>0|z :: _=>mK d z) y.ks (fun z _=>by
   cases hq:z.ks with
   |nil=>exact Nat.zero_le _
   |cons x r=>
    have h3:=mk_cns d x
    have h4:=cns_kid (y:=z) (z:=x) (by rw [hq];simp)
    simp only
    omega)
  rw [cns_one]
  show (if y.k=5 then 1 else 0)+(if y.k=19 then smM (fun y=>match y.ks with|[]=>0|z :: _=>mK d z) y.ks else smM (mK d) y.ks)≤_
  by_cases h5:y.k=5
  ·rw [if_pos h5,if_neg (by omega)]
   omega
  ·rw [if_neg h5]
   by_cases h19:y.k=19
   ·rw [if_pos h19]
    omega
   ·rw [if_neg h19]
    omega
theorem fn_ok {y:Tn} (h:(decide (y.k=1) && rgB y)=true):y.ks.length<1099511627776∧∀z∈y.ks,FnOk 20000 z:=by
 unfold rgB at h
 simp only [Bool.and_eq_true,decide_eq_true_eq] at h
 obtain⟨hk,⟨hc,hf⟩,_⟩:=h
 have hl:=cns_len y.ks
 have hc1:=hc
 rw [cns_one] at hc1
 refine⟨by omega,fun z hz=>?_⟩
 have hp:=(fmB_parts hf).2
 rw [hk] at hp
 have hz2:z.k=2:=by
  unfold kdB at hp
  rw [if_pos rfl] at hp
  exact of_decide_eq_true (List.all_eq_true.1 hp z.k (map_k hz))
 have hfz:=fmB_kid hf hz
 have hpz:=fmB_parts hfz
 have hkz:=hpz.2
 rw [hz2,kd_fn] at hkz
 simp only [Bool.and_eq_true,decide_eq_true_eq,List.length_map] at hkz
 obtain⟨⟨h1,_⟩,_⟩:=hkz
 have hcz:=cns_kid hz
 have hlz:=cns_len z.ks
 rw [cns_one z] at hcz
 obtain⟨x,hx⟩:∃x,z.ks[z.ks.length - 1]?=some x:=⟨_,List.getElem?_eq_getElem (by omega)⟩
 have hxm:=List.mem_of_getElem? hx
 have hcx:=cns_mem z.ks x hxm
 have hmx:=mk_cns 20000 x
 exact⟨⟨Nat.le_trans (tx_size hpz.1) (by omega),by omega⟩,⟨z.ks.length - 1,x,by omega,hx,fmk_of 20000 x (by omega) (by omega) (fmB_kid hfz hxm),by omega⟩,fun p hp=>Nat.le_trans (tx_size (fmB_parts (fmB_kid hfz hp)).1) (by omega)⟩
structure Nd where
 mk ::
 k:Nat
 t:List UInt8
 vk:Nat
 vn:Nat
 vs:List UInt8
 f:Bool
 ks:List Nd
 p:Nat
def nd0 (k:Nat) (t:List UInt8) (ks:List Nd) (p:Nat):Nd:=⟨k,t,0,0,[],false,ks,p⟩
abbrev Rs (α:Type):Type:=Except (Nat × Nat) (α × List Tk)
def hdT (l:List Tk):Tk:=l.headD (endT 0)
def isT (k:Nat) (s:List UInt8) (l:List Tk):Bool:=decide ((hdT l).k=k∧(hdT l).t=s)
def isS (s:List UInt8) (l:List Tk):Bool:=isT 5 s l
def isK (s:List UInt8) (l:List Tk):Bool:=isT 2 s l
def pSg (s:List UInt8) (l:List Tk):Rs Tk:=if isS s l=true then .ok (hdT l,l.tail) else .error (170,(hdT l).p)
def pKy (s:List UInt8) (l:List Tk):Rs Tk:=if isK s l=true then .ok (hdT l,l.tail) else .error (170,(hdT l).p)
def pNm (l:List Tk):Rs Tk:=if (hdT l).k=1 then .ok (hdT l,l.tail) else .error (170,(hdT l).p)
def ent (s:List UInt8) (d:Nat) (l:List Tk):Rs Tk:=if isS s l=true then (if d=24 then .error (171,(hdT l).p) else .ok (hdT l,l.tail)) else .error (170,(hdT l).p)
def thn {α β:Type} (x:Rs α) (k:α→List Tk→Option (Rs β)):Option (Rs β):=
 match x with
 |.error e=>some (.error e)
 |.ok (a,l)=>k a l
def bnd {α β:Type} (x:Option (Rs α)) (k:α→List Tk→Option (Rs β)):Option (Rs β):=
 match x with
 |none=>none
 |some y=>thn y k
def okN (n:List Nd) (l:List Tk):Option (Rs (List Nd)):=some (.ok (n,l))
def rowS (t:List UInt8):Nat:=
 if t=[124,124] then 1 else if t=[38,38] then 2 else
 if t=[61,61]∨t=[33,61]∨t=[60]∨t=[60,61]∨t=[62]∨t=[62,61] then 3 else
 if t=[43]∨t=[45] then 4 else if t=[42]∨t=[47]∨t=[37] then 5 else 0
def rowT (l:List Tk):Nat:=if (hdT l).k=5 then rowS (hdT l).t else 0
abbrev Jb:Type:=Nat→Nat→List Nd→List Tk→Nat→Option (Rs (List Nd))
def opX (x:Nat):List UInt8:=if x=2 then [91] else if x=3 then [123] else [40]
def clX (x:Nat):List UInt8:=if x=2 then [93] else if x=3 then [125] else [41]
def kdX (x:Nat):Nat:=if x=2 then 18 else if x=3 then 19 else 15
def jUnary (r:Jb) (l:List Tk) (d:Nat):Option (Rs (List Nd)):=
 if isS [45] l=true∨isS [33] l=true then thn (ent (hdT l).t d l) (fun t l1=>bnd (r 1 0 [] l1 (d+1)) (fun ns l2=>okN [nd0 16 t.t ns t.p] l2)) else r 24 0 [] l d
def jBinary (r:Jb) (x:Nat) (l:List Tk) (d:Nat):Option (Rs (List Nd)):=
 if 5<x then r 1 0 [] l d else bnd (r 2 (x+1) [] l d) (fun ns l1=>r 3 x ns l1 d)
def jBinL (r:Jb) (x:Nat) (acc:List Nd) (l:List Tk) (d:Nat):Option (Rs (List Nd)):=
 if rowT l=x then bnd (r 2 (x+1) [] l.tail d) (fun ns l1=>if x=3 then okN [nd0 17 (hdT l).t (acc++ns) (hdT l).p] l1 else r 3 x [nd0 17 (hdT l).t (acc++ns) (hdT l).p] l1 d) else okN acc l
def jReached (r:Jb) (l:List Tk) (d:Nat):Option (Rs (List Nd)):=bnd (r 5 0 [] l d) (fun ns l1=>r 4 0 ns l1 d)
def jReL (r:Jb) (acc:List Nd) (l:List Tk) (d:Nat):Option (Rs (List Nd)):=
 if isS [91] l=true then thn (ent [91] d l) (fun t l1=>bnd (r 0 0 [] l1 (d+1)) (fun ns l2=>thn (pSg [93] l2) (fun _ l3=>r 4 0 [nd0 21 [] (acc++ns) t.p] l3 d)))
 else if isS [46] l=true then thn (pNm l.tail) (fun t l2=>r 4 0 [nd0 22 t.t acc (hdT l).p] l2 d) else okN acc l
def litN (vk vn:Nat) (vs:List UInt8) (l:List Tk):Option (Rs (List Nd)):=okN [⟨13,[],vk,vn,vs,false,[],(hdT l).p⟩] l.tail
def jOperand (r:Jb) (l:List Tk) (d:Nat):Option (Rs (List Nd)):=
 if (hdT l).k=1 then r 21 0 [] l d else if (hdT l).k=3 then litN 2 (hdT l).n [] l else if (hdT l).k=4 then litN 3 0 (hdT l).t l else
 if isK [116,114,117,101] l=true then litN 1 1 [] l else if isK [102,97,108,115,101] l=true then litN 1 0 [] l else if isK [117,110,105,116] l=true then litN 0 0 [] l else
 if isS [91] l=true then r 22 2 [] l d else if isS [123] l=true then r 22 3 [] l d else r 23 0 [] l d
def jName (r:Jb) (l:List Tk) (d:Nat):Option (Rs (List Nd)):=
 thn (pNm l) (fun t l1=>if isS [40] l1=true then bnd (r 22 1 [] l1 d) (fun ns l2=>okN (ns.map (fun n=>⟨n.k,t.t,n.vk,n.vn,n.vs,n.f,n.ks,t.p⟩)) l2) else okN [nd0 14 t.t [] t.p] l1)
def jWithin (r:Jb) (x:Nat) (l:List Tk) (d:Nat):Option (Rs (List Nd)):=
 thn (ent (opX x) d l) (fun t l1=>bnd (r 6 x [] l1 (d+1)) (fun ns l2=>thn (pSg (clX x) l2) (fun _ l3=>okN [nd0 (kdX x) [] ns t.p] l3)))
def jPart (r:Jb) (x:Nat) (l:List Tk) (d:Nat):Option (Rs (List Nd)):=if x=0 then r 25 0 [] l d else if x=3 then r 8 0 [] l d else r 0 0 [] l d
def jParts (r:Jb) (x:Nat) (l:List Tk) (d:Nat):Option (Rs (List Nd)):=
 if isS (clX x) l=true then okN [] l else bnd (jPart r x l d) (fun ns l1=>r 7 x ns l1 d)
def jPaL (r:Jb) (x:Nat) (acc:List Nd) (l:List Tk) (d:Nat):Option (Rs (List Nd)):=
 if isS [44] l=true then bnd (jPart r x l.tail d) (fun ns l1=>r 7 x (acc++ns) l1 d) else okN acc l
def jParam (l:List Tk):Option (Rs (List Nd)):=thn (pNm l) (fun t l1=>okN [nd0 3 t.t [] t.p] l1)
def jPair (r:Jb) (l:List Tk) (d:Nat):Option (Rs (List Nd)):=
 if ¬(hdT l).k=1∧(¬(hdT l).k=4∨32<(hdT l).t.length) then some (.error (170,(hdT l).p)) else
 thn (pSg [58] l.tail) (fun _ l1=>bnd (r 0 0 [] l1 d) (fun ns l2=>okN [nd0 20 (hdT l).t ns (hdT l).p] l2))
def jGroup (r:Jb) (l:List Tk) (d:Nat):Option (Rs (List Nd)):=
 thn (ent [40] d l) (fun _ l1=>bnd (r 0 0 [] l1 (d+1)) (fun ns l2=>thn (pSg [41] l2) (fun _ l3=>okN ns l3)))
def jStat (r:Jb) (l:List Tk) (d:Nat):Option (Rs (List Nd)):=
 if (hdT l).k=1∧isS [61] l.tail=true then r 16 0 [] l d else
 if isK [108,101,116] l=true then r 15 0 [] l d else if isK [105,102] l=true then r 12 0 [] l d else
 if isK [119,104,105,108,101] l=true then r 17 0 [] l d else if isK [114,101,116,117,114,110] l=true then r 18 0 [] l d else
 if isK [98,114,101,97,107] l=true then r 26 10 [] l d else if isK [99,111,110,116,105,110,117,101] l=true then r 26 11 [] l d else r 19 0 [] l d
def jLet (r:Jb) (l:List Tk) (d:Nat):Option (Rs (List Nd)):=
 thn (pNm l.tail) (fun t l2=>if isS [61] l2=true then bnd (r 0 0 [] l2.tail d) (fun ns l3=>thn (pSg [59] l3) (fun _ l4=>okN [nd0 5 t.t ns (hdT l).p] l4)) else thn (pSg [59] l2) (fun _ l4=>okN [nd0 5 t.t [] (hdT l).p] l4))
def jSet (r:Jb) (l:List Tk) (d:Nat):Option (Rs (List Nd)):=
 thn (pNm l) (fun t l1=>thn (pSg [61] l1) (fun _ l2=>bnd (r 0 0 [] l2 d) (fun ns l3=>thn (pSg [59] l3) (fun _ l4=>okN [nd0 6 t.t ns t.p] l4))))
def jGuard (r:Jb) (l:List Tk) (d:Nat):Option (Rs (List Nd)):=
 thn (pSg [40] l) (fun _ l1=>bnd (r 0 0 [] l1 d) (fun c l2=>thn (pSg [41] l2) (fun _ l3=>bnd (r 10 0 [] l3 d) (fun b l4=>okN (c++b) l4))))
def jChoice (r:Jb) (l:List Tk) (d:Nat):Option (Rs (List Nd)):=
 bnd (r 20 0 [] l.tail d) (fun ks l1=>if isK [101,108,115,101] l1=true then
  (if isK [105,102] l1.tail=true then bnd (r 12 0 [] l1.tail d) (fun x l2=>okN [nd0 7 [] (ks++x) (hdT l).p] l2) else bnd (r 10 0 [] l1.tail d) (fun x l2=>okN [nd0 7 [] (ks++x) (hdT l).p] l2)) else okN [nd0 7 [] ks (hdT l).p] l1)
def jLoop (r:Jb) (l:List Tk) (d:Nat):Option (Rs (List Nd)):=bnd (r 20 0 [] l.tail d) (fun ks l1=>okN [nd0 8 [] ks (hdT l).p] l1)
def jGive (r:Jb) (l:List Tk) (d:Nat):Option (Rs (List Nd)):=
 if isS [59] l.tail=true then thn (pSg [59] l.tail) (fun _ l2=>okN [nd0 9 [] [] (hdT l).p] l2) else bnd (r 0 0 [] l.tail d) (fun ns l2=>thn (pSg [59] l2) (fun _ l3=>okN [nd0 9 [] ns (hdT l).p] l3))
def jWord (x:Nat) (l:List Tk):Option (Rs (List Nd)):=thn (pSg [59] l.tail) (fun _ l2=>okN [nd0 x [] [] (hdT l).p] l2)
def jDo (r:Jb) (l:List Tk) (d:Nat):Option (Rs (List Nd)):=bnd (r 0 0 [] l d) (fun ns l1=>thn (pSg [59] l1) (fun _ l2=>okN [nd0 12 [] ns (hdT l).p] l2))
def jBlock (r:Jb) (l:List Tk) (d:Nat):Option (Rs (List Nd)):=
 thn (ent [123] d l) (fun t l1=>bnd (r 11 0 [] l1 (d+1)) (fun ks l2=>thn (pSg [125] l2) (fun _ l3=>okN [nd0 4 [] ks t.p] l3)))
def jBlL (r:Jb) (acc:List Nd) (l:List Tk) (d:Nat):Option (Rs (List Nd)):=
 if isS [125] l=true then okN acc l else bnd (r 9 0 [] l d) (fun ns l1=>r 11 0 (acc++ns) l1 d)
def jFn (r:Jb) (b:Bool) (p:Nat) (l:List Tk) (d:Nat):Option (Rs (List Nd)):=
 thn (pKy [102,110] l) (fun _ l2=>thn (pNm l2) (fun t l3=>thn (pSg [40] l3) (fun _ l4=>bnd (r 6 0 [] l4 d) (fun ps l5=>thn (pSg [41] l5) (fun _ l6=>bnd (r 10 0 [] l6 d) (fun bl l7=>okN [⟨2,t.t,0,0,[],b,ps++bl,p⟩] l7))))))
def jFun (r:Jb) (l:List Tk) (d:Nat):Option (Rs (List Nd)):=
 if isK [101,120,112,111,114,116] l=true then jFn r true (hdT l).p l.tail d else jFn r false (hdT l).p l d
def jPrL (r:Jb) (acc:List Nd) (l:List Tk) (d:Nat):Option (Rs (List Nd)):=
 if (hdT l).k=0 then okN acc l else bnd (r 13 0 [] l d) (fun ns l1=>r 14 0 (acc++ns) l1 d)
def stepJ (r:Jb):Jb:=fun j x acc l d=>match j with
 |0=>r 2 1 [] l d
 |1=>jUnary r l d
 |2=>jBinary r x l d
 |3=>jBinL r x acc l d
 |4=>jReL r acc l d
 |5=>jOperand r l d
 |6=>jParts r x l d
 |7=>jPaL r x acc l d
 |8=>jPair r l d
 |9=>jStat r l d
 |10=>jBlock r l d
 |11=>jBlL r acc l d
 |12=>jChoice r l d
 |13=>jFun r l d
 |14=>jPrL r acc l d
 |15=>jLet r l d
 |16=>jSet r l d
 |17=>jLoop r l d
 |18=>jGive r l d
 |19=>jDo r l d
 |20=>jGuard r l d
 |21=>jName r l d
 |22=>jWithin r x l d
 |23=>jGroup r l d
 |24=>jReached r l d
 |25=>jParam l
 |26=>jWord x l
 |27=>bnd (r 14 0 [] l d) (fun ks l1=>okN [nd0 1 [] ks 0] l1)
 |_=>none
def PJ:Nat→Jb
 |0=>fun _ _ _ _ _=>none
 |f+1=>stepJ (PJ f)
def hx (n:Nat):UInt8:=if n<10 then UInt8.ofNat (48+n) else UInt8.ofNat (87+n)
theorem own_later {w w':World} {base:Nat} {e:TypeId} {size:Nat} {v:Value} {n:Nat} {xs:List Value} (h:w.ownsRow base e size v n xs) (hb:∀b,b<w.heap.size→v.ownBlock=some b→w'.heap[b]?=w.heap[b]?):w'.ownsRow base e size v n xs:=by
 refine⟨h.1,?_⟩
 rcases h.2 with hn|⟨g,cap,cur,rfl,hbs,hg,rest⟩
 ·exact .inl hn
 ·exact .inr ⟨g,cap,cur,rfl,hbs,(hb g (Array.getElem?_eq_some_iff.1 hg).1 rfl).trans hg,rest⟩
theorem slice_form {w:World} {base:Nat} {e:TypeId} {size:Nat} {v:Value} {n:Nat} {xs:List Value} (h:w.ownsRow base e size v n xs):∃ao cap,v=.slice ao n cap∧(ao=none→n=0∧cap=0)∧n≤cap∧cap≤maxLen∧∀a,ao=some a→v.ownBlock=some a.block∧a=⟨a.block,0,none⟩:=by
 rcases h.2 with ⟨rfl,rfl⟩|⟨g,cap,cur,rfl,hb,hg,h1,h2,_⟩
 ·exact⟨none,0,rfl,fun _=>⟨rfl,rfl⟩,Nat.le_refl _,by unfold maxLen;omega,fun a h=>by cases h⟩
 ·exact⟨some ⟨g,0,none⟩,cap,rfl,(fun e=>by cases e),h1,h2,fun a h=>by cases h;exact⟨rfl,rfl⟩⟩
theorem wpl_oneG {P:Program} {w:World} {ops:Array Oper} {rest:List Oper} {o:Oper} {a:Act} {Q:Exit→Act→World→Prop} (hgd:o.guard=none) (sl x:Operand) (T e:TypeId) (i0:TypeInfo) (z:Value) (size bytes:Nat)
  (hu:P.underlying T=some (.slice e)) (hi:P.info? e=some i0) (hz:i0.zero=some z) (hs1:i0.size=size) (hby:i0.bytes=bytes) (hzs:z.cells.size=size) (hsz:0<size)
  (ho:o.op=.call { callee:=.builtin .append,args:=#[sl,x],argTypes:=#[T,T] })
  (base n:Nat) (v:Value) (xs:List Value) (A:List Value) (hA:A.length=size) (h1:∀u∈A,u.oneCell'=true) (hs:a.eval sl=v) (hown:w.ownsRow base e size v n xs)
  (hx:a.eval x=.slice (some ⟨w.heap.size,0,none⟩) 1 1) (hn:n+1≤maxLen) (hbytes:(n+1) * bytes≤140737488355328) (hbase:base≤w.heap.size)
  (h:∀v' w',Hid (w'.ownsRow base e size v' (n+1) (xs++A)∧w.grownBy w' v.ownBlock∧∀b,v'.ownBlock=some b→v.ownBlock=some b∨w.heap.size≤b)→wpList P ops Q rest (a.put o.dst v') w') :
  wpList P ops Q (o :: rest) a (w.alloc (.cells A.toArray e)):=by
 refine wpList_plain hgd fun K hK=>?_
 have hb:Below w.heap.size w (w.alloc (.cells A.toArray e)):=(Below.refl _ _).alloc (Nat.le_refl _) _
 have hnew:=heap_alloc_new w (.cells A.toArray e)
 have hz1:(w.alloc (.cells A.toArray e)).heap.size=w.heap.size+1:=by simp
 obtain⟨v',w',hrun,r1,r2,_,r4⟩:=run_append_own_at (P:=P) (w.alloc (.cells A.toArray e)) base T o.type e i0 z size bytes hu hi hz hs1 hby hzs hsz v n xs (hown.alloc _) ⟨w.heap.size,0,none⟩ 1 1 A (by omega) (fun j u hj=>World.news_of_block hnew j u (by simpa using hj)) h1 hn hbytes (by omega)
 unfold Oper.wp
 simp only [execOp,ho,resolve,invoke,builtin,Sem.run_bind,Sem.run_pure,Result.andThen_ok,List.map_toArray,List.map_cons,List.map_nil,hs,hx,hrun]
 refine hK _ _ (h v' w' ⟨r1,⟨r2.os,r2.tape,r2.output,by have:=r2.size;omega,fun k hk hne=>(r2.block k (by omega) hne).trans (heap_alloc_old w _ hk)⟩,fun b hb'=>?_⟩)
 rcases r4 with e'|e'
 ·exact Or.inl (by rw [←e'];exact hb')
 ·rw [hb'] at e'
  exact Or.inr (by rw [Option.some.inj e',hz1];omega)
theorem wpList_store_arr {P:Program} {w:World} {ops:Array Oper} {rest:List Oper} {o:Oper} {a:Act} {Q:Exit→Act→World→Prop} (hgd:o.guard=none) (T:TypeId) (x y:Operand) (ho:o.op=.store T x y)
  (g:Nat) (c c':Array Value) (hx:a.eval x=.pointer (some ⟨g,0,none⟩)) (hy:a.eval y=.agg c') (hb:w.heap[g]?=some (.cells c T (0,0))) (hs:c.size=c'.size) (hi:(P.info? T).map (·.size)=some c'.size) (h1:c'.all (·.oneCell')=true)
  (h:wpList P ops Q rest (a.put o.dst undef) (w.setRow g c')):wpList P ops Q (o :: rest) a w:=by
 refine wpList_plain hgd fun K hK=>?_
 have hv:=run_storeVar_row (P:=P) w g T T c c' hb hi hs h1
 have hrun:(Instr.storeAt T (.pointer (some ⟨g,0,none⟩)) (.agg c')).run P w=.ok () (w.setRow g c'):=by
  simp only [Instr.storeAt,Instr.sureAddr,Sem.run_bind,Sem.run_pure,Result.andThen]
  exact hv
 unfold Oper.wp
 simp [execOp,ho,hx,hy,hrun,Result.andThen]
 exact hK _ _ h
structure Put (w w':World) (g:Nat) (c:Array Value) (T:TypeId):Prop where
 at':w'.heap[g]?=some (.cells c T (0,0))
 size:w'.heap.size=w.heap.size
 other:∀k,k≠g→w'.heap[k]?=w.heap[k]?
 below:∀(B:Nat) (a:World),Below B a w→B≤g→Below B a w'
theorem Put.mk' {w:World} {g:Nat} {c c':Array Value} {T:TypeId} (hb:w.heap[g]?=some (.cells c T (0,0))):Put w (w.setRow g c') g c' T:=
 ⟨setRow_heap w g c c' T _ hb,by simp,fun k hk=>setRow_other w g k c' hk,fun _ _ h hB=>below_setRow h hB c'⟩
theorem wpList_put_arr {P:Program} {w:World} {ops:Array Oper} {rest:List Oper} {o:Oper} {a:Act} {Q:Exit→Act→World→Prop} (hgd:o.guard=none) (T:TypeId) (x y:Operand) (ho:o.op=.store T x y)
  (g:Nat) (c c':Array Value) (hx:a.eval x=.pointer (some ⟨g,0,none⟩)) (hy:a.eval y=.agg c') (hb:w.heap[g]?=some (.cells c T (0,0))) (hs:c.size=c'.size) (hi:(P.info? T).map (·.size)=some c'.size) (h1:c'.all (·.oneCell')=true)
  (h:∀w',Hid (Put w w' g c' T)→wpList P ops Q rest (a.put o.dst undef) w'):wpList P ops Q (o :: rest) a w:=
 wpList_store_arr hgd T x y ho g c c' hx hy hb hs hi h1 (h _ (Put.mk' hb))
end Go.Proofs.YtjdpaihhhjdgmaaGreatDoor
