/-
  Layer 19 (check): the scope's own looks as moves of it; no conditions.
  Layer 19 (check): a row of two looks at one node, over a scope that they move on; no conditions but what its looks ask.
  The machine's table of operations (layer 8) in memory; Info and Named of it; conditions: the package's variables.
  Layer 19 (check): Builtin, the program's; conditions: the table of operations as the program's text lays it.
  Layer 19 (check): a Call without its arguments (called$1); conditions: the table of operations as the program's text lays it.
  How an operation of a drawn region is taken ahead, none of them being exempt; no conditions.
  A region that draws its order, whose operation z waits for all that reads: what holds of the world is asked for up to z alone; no conditions.
-/
import Derived.Test.YtjdpaihhhjdgmaaGreatDoorA08
import Derived.Test.YtjdpaihhhjdgmaaGreatDoorRows
import Derived.Test.YtjdpaihhhjdgmaaGreatDoorA00
import Derived.WalkKit
import Derived.WalkSpells
import Derived.WalkSmall
import Derived.Deep.Cut
import Derived.BigQuiet
import Derived.Deep.QuietTactic
import Derived.Deep.RegionHeld3
import Derived.OpenShut
import Derived.Laws.ResultCell
import Derived.Laws.Rows
import Derived.Laws.Tables
import Derived.Test.YtjdpaihhhjdgmaaGreatDoorA02
set_option linter.unusedVariables false
set_option linter.unusedSimpArgs false
set_option maxRecDepth 100000
set_option maxHeartbeats 8000000
namespace Go.Proofs.YtjdpaihhhjdgmaaGreatDoor
open Go.RowKit
set_option linter.unusedVariables false
set_option linter.unusedSimpArgs false
theorem MvP.of_below {w w':World} {lo q b n:Nat} {nv sv:Value} {s:Sco} (h:ScM w lo q b n nv sv s) (hb:Below w.heap.size w w'):MvP w w' lo q b n 0 nv sv s:=⟨nv,sv,n,h.below hb,Mvd.of_below q b nv sv hb,Nat.le_refl _⟩
theorem MvP.of_own {w w':World} {lo q b n:Nat} {nv sv:Value} {s:Sco} (h:ScM w' lo q b n nv sv s) (hm:Mvd w w' q b nv sv nv sv):MvP w w' lo q b n 0 nv sv s:=⟨nv,sv,n,h,hm,Nat.le_refl _⟩
theorem MvP.more {w w':World} {lo q b n m m':Nat} {nv sv:Value} {s:Sco} (h:MvP w w' lo q b n m nv sv s) (hm:m≤m'):MvP w w' lo q b n m' nv sv s:=by
 obtain⟨nv',sv',n',h1,h2,h3⟩:=h
 exact⟨nv',sv',n',h1,h2,by omega⟩
theorem MvP.fp {w u u':World} {lo q b n m:Nat} {nv sv:Value} {s:Sco} (h:MvP w u lo q b n m nv sv s) (hb:Besk (Fp w.heap.size u) u u'):MvP w u' lo q b n m nv sv s:=by
 obtain⟨nv',sv',n',h1,h2,h3⟩:=h
 exact⟨nv',sv',n',h1.fp hb,h2.fp hb,h3⟩
theorem fp_low {w u u':World} (hw:Below w.heap.size w u) (hb:Besk (Fp w.heap.size u) u u'):Below w.heap.size w u':=hw.trans (hb.low (fun k hk=>hk.1) hw.size)
def RowI (w:World) (lo q b n m1 m2:Nat) (nv sv:Value) (a1:Ft × Sco) (h2:Sco→Ft × Sco) (i:Nat) (u:World):Prop:=match i with
 |0=>Below w.heap.size w u
 |1=>a1.1.2=0∧MvP w u lo q b n m1 nv sv a1.2
 |_=>a1.1.2=0∧(h2 a1.2).1.2=0∧MvP w u lo q b n (m1+m2) nv sv (h2 a1.2).2
def RowJ (w:World) (lo q b n m1 m2:Nat) (nv sv:Value) (a1:Ft × Sco) (h2:Sco→Ft × Sco) (f:Ft) (u:World):Prop:=
 (a1.1.2≠0∧f=a1.1∧MvP w u lo q b n m1 nv sv a1.2)∨(a1.1.2=0∧(h2 a1.2).1.2≠0∧f=(h2 a1.2).1∧MvP w u lo q b n (m1+m2) nv sv (h2 a1.2).2)
theorem row_two {k vk vn p:Int} {t vs:ByteArray} {al ak a:Option Addr} {ll cl lk ck m cc:Nat} {f:Bool} {w:World} {lo q b n gb sc m1 m2:Nat} {nv sv:Value} {s:Sco} {F1 F2:FuncId} {Bd1 cap1 Bd2 cap2:Array Value} {a1:Ft × Sco} {h2:Sco→Ft × Sco}
  (hf1:∀(x:Array Value) (u:World),Sem.run Tryz.prog (callFunc F1 x) u=.ok (.enter F1 x) u) (hf2:∀(x:Array Value) (u:World),Sem.run Tryz.prog (callFunc F2 x) u=.ok (.enter F2 x) u)
  (hz:(h2 a1.2).1.2=0→(h2 a1.2).1=(0,0)) (hsc:2≤sc) (hg:w.heap[gb]?=some (.cells #[.func (.func F1) Bd1 cap1,.func (.func F2) Bd2 cap2] 45 (0,0))) (h:ScM w lo q b n nv sv s)
  (c1:∀u,Below w.heap.size w u→ScM u lo q b n nv sv s→Calls Tryz.prog F1 (Bd1++#[.agg #[.int .i64 k,.string t,.int .i64 vk,.int .i64 vn,.string vs,.slice al ll cl,.slice ak lk ck,.bool f,.slice a m cc,.int .i64 p]]++cap1) u fun e u'=>e=.returned (fltV a1.1)∧MvP u u' lo q b n m1 nv sv a1.2)
  (c2:a1.1.2=0→∀u nv' sv' n',n'≤n+m1→Mvd w u q b nv sv nv' sv'→ScM u lo q b n' nv' sv' a1.2→Calls Tryz.prog F2 (Bd2++#[.agg #[.int .i64 k,.string t,.int .i64 vk,.int .i64 vn,.string vs,.slice al ll cl,.slice ak lk ck,.bool f,.slice a m cc,.int .i64 p]]++cap2) u fun e u'=>e=.returned (fltV (h2 a1.2).1)∧MvP u u' lo q b n' m2 nv' sv' (h2 a1.2).2) :
  Calls Tryz.prog 48 #[.agg #[.int .i64 k,.string t,.int .i64 vk,.int .i64 vn,.string vs,.slice al ll cl,.slice ak lk ck,.bool f,.slice a m cc,.int .i64 p],.slice (some ⟨gb,0,none⟩) 2 sc] w fun e w'=>e=.returned (fltV (thnS a1 h2).1)∧MvP w w' lo q b n (m1+m2) nv sv (thnS a1 h2).2:=by
 have hkeep:∀{u nv' sv'},Mvd w u q b nv sv nv' sv'→u.heap[gb]?=some (.cells #[.func (.func F1) Bd1 cap1,.func (.func F2) Bd2 cap2] 45 (0,0)):=fun hm=>keepF_of_mvd h hm gb _ _ (by decide) (by decide) (by decide) hg
 have hcell:∀{u nv' sv'},Mvd w u q b nv sv nv' sv'→∀(j:Nat) (F:FuncId) (Bd cap:Array Value),([(F1,Bd1,cap1),(F2,Bd2,cap2)]:List (FuncId × Array Value × Array Value))[j]?=some (F,Bd,cap)→u.cell? ⟨gb,j,none⟩=some (.func (.func F) Bd cap):=fun {u _ _} hm j F Bd cap hj=>by
  have hu:=hkeep hm
  rcases j with _|_|j
  ·simp only [List.getElem?_cons_zero,Option.some.injEq,Prod.mk.injEq] at hj
   obtain⟨rfl,rfl,rfl⟩:=hj
   rw [cell_of_row u gb 0 _ _ (0,0) hu];rfl
  ·simp only [List.getElem?_cons_succ,List.getElem?_cons_zero,Option.some.injEq,Prod.mk.injEq] at hj
   obtain⟨rfl,rfl,rfl⟩:=hj
   rw [cell_of_row u gb 1 _ _ (0,0) hu];rfl
  ·simp at hj
 have hrow:=row_gen (k:=k) (vk:=vk) (vn:=vn) (p:=p) (t:=t) (vs:=vs) (al:=al) (ak:=ak) (a:=a) (ll:=ll) (cl:=cl) (lk:=lk) (ck:=ck) (m:=m) (cc:=cc) (f:=f) gb 2 sc [(F1,Bd1,cap1),(F2,Bd2,cap2)]
  (fun i=>if i=0 then a1.1 else (h2 a1.2).1) (RowI w lo q b n m1 m2 nv sv a1 h2) (RowJ w lo q b n m1 m2 nv sv a1 h2) w
  (fun i F Bd cap hi x u=>by
   rcases i with _|_|i
   ·simp only [List.getElem?_cons_zero,Option.some.injEq,Prod.mk.injEq] at hi
    rw [←hi.1];exact hf1 x u
   ·simp only [List.getElem?_cons_succ,List.getElem?_cons_zero,Option.some.injEq,Prod.mk.injEq] at hi
    rw [←hi.1];exact hf2 x u
   ·simp at hi)
  rfl hsc (by omega) (Below.refl _ _)
  (fun i u hI=>by
   rcases i with _|_|i
   ·exact hcell (Mvd.of_below q b nv sv hI)
   ·obtain⟨_,nv',sv',n',_,hm,_⟩:=hI
    exact hcell hm
   ·obtain⟨_,_,nv',sv',n',_,hm,_⟩:=hI
    exact hcell hm)
  (fun i u u' hI hb=>by
   rcases i with _|_|i
   ·exact fp_low hI hb
   ·exact⟨hI.1,hI.2.fp hb⟩
   ·exact⟨hI.1,hI.2.1,hI.2.2.fp hb⟩)
  (fun f' u u' hJ hb=>by
   rcases hJ with ⟨x1,x2,x3⟩|⟨x1,x2,x3,x4⟩
   ·exact Or.inl ⟨x1,x2,x3.fp hb⟩
   ·exact Or.inr ⟨x1,x2,x3,x4.fp hb⟩)
  (fun i F Bd cap u hi hI=>by
   rcases i with _|_|i
   ·simp only [List.getElem?_cons_zero,Option.some.injEq,Prod.mk.injEq] at hi
    obtain⟨rfl,rfl,rfl⟩:=hi
    refine(c1 u hI (h.below hI)).mono ?_
    rintro e u' ⟨he,nv',sv',n',hs',hm',hn'⟩
    have hM:MvP w u' lo q b n m1 nv sv a1.2:=⟨nv',sv',n',hs',(Mvd.of_below q b nv sv hI).trans hm',hn'⟩
    exact⟨he,keepF_of_mvd (h.below hI) hm',fun h0=>⟨h0,hM⟩,fun h0=>Or.inl ⟨h0,rfl,hM⟩⟩
   ·simp only [List.getElem?_cons_succ,List.getElem?_cons_zero,Option.some.injEq,Prod.mk.injEq] at hi
    obtain⟨rfl,rfl,rfl⟩:=hi
    obtain⟨h0,nv',sv',n',hs',hm',hn'⟩:=hI
    refine(c2 h0 u nv' sv' n' hn' hm' hs').mono ?_
    rintro e u' ⟨he,nv2,sv2,n2,hs2,hm2,hn2⟩
    have hM:MvP w u' lo q b n (m1+m2) nv sv (h2 a1.2).2:=⟨nv2,sv2,n2,hs2,hm'.trans hm2,by omega⟩
    exact⟨he,keepF_of_mvd hs' hm2,fun h1=>⟨h0,h1,hM⟩,fun h1=>Or.inr ⟨h0,h1,rfl,hM⟩⟩
   ·simp at hi)
 refine hrow.mono ?_
 rintro e w' ⟨he,k1,k2⟩
 unfold thnS
 by_cases h0:a1.1.2=0
 ·by_cases h1:(h2 a1.2).1.2=0
  ·have hF:fF (fun i=>if i=0 then a1.1 else (h2 a1.2).1) 2 0=(0,0):=by simp [fF,h0,h1]
   rw [hF] at he k1
   rw [if_pos h0]
   exact⟨by rw [he,hz h1],(k1 rfl).2.2⟩
  ·have hF:fF (fun i=>if i=0 then a1.1 else (h2 a1.2).1) 2 0=(h2 a1.2).1:=by simp [fF,h0,h1]
   rw [hF] at he k2
   rw [if_pos h0]
   rcases k2 h1 with ⟨x,_⟩|⟨_,_,_,x⟩
   ·exact absurd h0 x
   ·exact⟨he,x⟩
 ·have hF:fF (fun i=>if i=0 then a1.1 else (h2 a1.2).1) 2 0=a1.1:=by simp [fF,h0]
  rw [hF] at he k2
  rw [if_neg h0]
  rcases k2 h0 with ⟨_,_,x⟩|⟨x,_⟩
  ·exact⟨he,x.more (Nat.le_add_right _ _)⟩
  ·exact absurd x h0
abbrev Inf:=ByteArray × Int × Int × Int × Int × Int
def infV (x:Inf):List Value:=[.string x.1,.int .i64 x.2.1,.int .i64 x.2.2.1,.int .i64 x.2.2.2.1,.int .i64 x.2.2.2.2.1,.int .i64 x.2.2.2.2.2]
def infOf:DataW Unit→Inf
 |.agg [.lit (.string n),.lit (.int _ a),.lit (.int _ b),.lit (.int _ c),.lit (.int _ d),.lit (.int _ e)]=>(⟨n.toArray⟩,a,b,c,d,e)
 |_=>(⟨#[]⟩,0,0,0,0,0)
def OPS:List Inf:=match (Rows.laid_scruple_code_operations:DataW Unit) with
 |.agg ps=>ps.map infOf
 |_=>[]
theorem OPS_len:OPS.length=42:=by kernel_rfl
def blank:Inf:=(⟨#[]⟩,0,0,0,0,0)
def infoA (n:Int):Inf × Bool:=if 1≤n∧n≤41 then (OPS.getD n.toNat blank,true) else (blank,false)
structure Tab (w:World):Prop where
 big:0<w.heap.size
 cell:∀k x,OPS[k]?=some x→∀j v,(infV x)[j]?=some v→w.cell? ⟨0,k * 6+j,none⟩=some v
theorem Tab.later {B:Nat} {w w':World} (h:Tab w) (hb:Below B w w') (hB:0<B) (hs:w.heap.size≤w'.heap.size):Tab w':=by
 refine⟨Nat.lt_of_lt_of_le h.big hs,fun k x hx j v hv=>?_⟩
 have e:w'.cell? ⟨0,k * 6+j,none⟩=w.cell? ⟨0,k * 6+j,none⟩:=World.cell?_of_block (hb.block 0 hB)
 rw [e]
 exact h.cell k x hx j v hv
theorem Tab.below {w w':World} (h:Tab w) (hb:Below w.heap.size w w'):Tab w':=h.later hb h.big hb.size
theorem getD_ops (k:Nat) (hk:k<42):OPS[k]?=some (OPS.getD k blank):=by
 have:=OPS_len
 rw [List.getD_eq_getElem?_getD,List.getElem?_eq_getElem (by omega)]
 rfl
theorem ret_ct {P:Program} {fn:Func} {p u:Tmp} {T:TypeId} (h:fn.results=#[.cell p T,.tmp u]) (tmps:Array Value) (w:World) (g:Nat) (c:Array Value) (d:TypeDesc) (t:TypeId)
  (hp:tmps.getD p undef=.pointer (some ⟨g,0,none⟩)) (hb:w.heap[g]?=some (.cells c t (0,0))) (hu:P.underlying T=some d) (hd:(match d with|.struct _|.array _ _=>true|_=>false)=true) (hi:(P.info? T).map (·.size)=some c.size) :
  (results fn tmps).run P w=.ok (.tuple #[.agg c,tmps.getD u undef]) w:=by
 rw [results_cell_tmp h,hp]
 have hl:=run_loadVar_row (P:=P) w g t T c (0,0) _ hb hu hd hi
 simp [asAddr,Result.andThen,hl]
theorem size_inf:(Tryz.prog.info? 66).map (·.size)=some 6:=by kernel_rfl
theorem info_any (n:Int) (w:World) (h:Tab w) :
  Calls Tryz.prog 43 #[.int .i64 n] w fun e w'=>e=.returned (.tuple #[.agg (infV (infoA n).1).toArray,.bool (infoA n).2])∧Below w.heap.size w w':=by
 by_cases hn:1≤n∧n≤41
 ·obtain⟨k,rfl⟩:∃k:Nat,n=(k:Int):=⟨n.toNat,by omega⟩
  have hk:=getD_ops k (by omega)
  have hb:0<w.heap.size:=h.big
  have e1:(infoA (k:Int))=(OPS.getD k blank,true):=by simp [infoA,hn]
  rw [e1]
  generalize OPS.getD k blank=x at *
  obtain⟨s,a,b,c,d,f⟩:=x
  have c0:w.cell? ⟨0,k * 6,none⟩=some (.string s):=h.cell k _ hk 0 _ rfl
  have c1:w.cell? ⟨0,k * 6+1,none⟩=some (.int .i64 a):=h.cell k _ hk 1 _ rfl
  have c2:w.cell? ⟨0,k * 6+2,none⟩=some (.int .i64 b):=h.cell k _ hk 2 _ rfl
  have c3:w.cell? ⟨0,k * 6+3,none⟩=some (.int .i64 c):=h.cell k _ hk 3 _ rfl
  have c4:w.cell? ⟨0,k * 6+4,none⟩=some (.int .i64 d):=h.cell k _ hk 4 _ rfl
  have c5:w.cell? ⟨0,k * 6+5,none⟩=some (.int .i64 f):=h.cell k _ hk 5 _ rfl
  obtain⟨n1,n2⟩:=hn
  have n3:¬(k:Int)<1:=by omega
  have n4:¬42≤(k:Int):=by omega
  have n5:(k:Int)<42:=by omega
  clear hk h e1
  go_enter Tryz.func43,Tryz.ntmps43
  go_wp2_with fail
  exact bodyPost_ret (ret_ct (p:=2) (u:=3) (T:=66) rfl _ _ w.heap.size _ _ _ rfl (heap_alloc_new w _) Tryz.underlying66 rfl size_inf) rfl ⟨rfl,(Below.refl _ _).alloc (Nat.le_refl _) _⟩
 ·have e1:infoA n=(blank,false):=by simp [infoA,hn]
  rw [e1]
  by_cases n1:n<1
  ·go_enter Tryz.func43,Tryz.ntmps43
   go_wp2_with fail
   exact bodyPost_ret (ret_ct (p:=2) (u:=3) (T:=66) rfl _ _ w.heap.size _ _ _ rfl (heap_alloc_new w _) Tryz.underlying66 rfl size_inf) rfl ⟨rfl,(Below.refl _ _).alloc (Nat.le_refl _) _⟩
  ·have n2:42≤n:=by omega
   go_enter Tryz.func43,Tryz.ntmps43
   go_wp2_with fail
   exact bodyPost_ret (ret_ct (p:=2) (u:=3) (T:=66) rfl _ _ w.heap.size _ _ _ rfl (heap_alloc_new w _) Tryz.underlying66 rfl size_inf) rfl ⟨rfl,(Below.refl _ _).alloc (Nat.le_refl _) _⟩
def nidx (s:ByteArray):Nat:=OPS.tail.findIdx fun x=>x.1.toList == s.toList
def namA (s:ByteArray):Int × Bool:=if nidx s<41 then (((nidx s+1:Nat):Int),true) else (0,false)
theorem nidx_hit (s:ByteArray) (i:Nat) (x:Inf) (hx:OPS[i+1]?=some x) (hs:(x.1.toList == s.toList)=true) (hi:i≤nidx s):nidx s=i:=by
 have hx':OPS.tail[i]?=some x:=by rw [List.getElem?_tail];exact hx
 obtain⟨hl,he⟩:=List.getElem?_eq_some_iff.1 hx'
 unfold nidx at *
 rw [List.findIdx_eq hl]
 refine⟨by rw [he];exact hs,fun j hj=>?_⟩
 simpa using List.not_of_lt_findIdx (Nat.lt_of_lt_of_le hj hi)
theorem nidx_miss (s:ByteArray) (i:Nat) (x:Inf) (hx:OPS[i+1]?=some x) (hs:(x.1.toList == s.toList)=false) (hi:i≤nidx s):i+1≤nidx s:=by
 have hx':OPS.tail[i]?=some x:=by rw [List.getElem?_tail];exact hx
 obtain⟨hl,he⟩:=List.getElem?_eq_some_iff.1 hx'
 unfold nidx at *
 rcases Nat.lt_or_ge i (OPS.tail.findIdx fun x=>x.1.toList == s.toList) with h|h
 ·exact h
 ·have e:=Nat.le_antisymm hi h
  have:=List.findIdx_getElem (xs:=OPS.tail) (p:=fun x:Inf=>x.1.toList == s.toList) (w:=by omega)
  simp only [←e] at this
  rw [he,hs] at this
  exact absurd this (by simp)
theorem named_any (s:ByteArray) (w:World) (h:Tab w) :
  Calls Tryz.prog 42 #[.string s] w fun e w'=>e=.returned (.tuple #[.int .i64 (namA s).1,.bool (namA s).2])∧Below w.heap.size w w':=by
 have HT:=hZ h
 have hb:0<w.heap.size:=h.big
 clear h
 obtain⟨r1,hr1⟩:=eX ((namA s).1)
 obtain⟨r2,hr2⟩:=eX ((namA s).2)
 rw [hr1,hr2]
 have HA:=hZ (And.intro hr1 hr2)
 clear hr1 hr2
 go_enter Tryz.func42,Tryz.ntmps42
 go_wp2_with fail
 go_loopw [4] (fun x wr=>∃(i:Nat),x=.int .i64 (i:Int)∧Hid (1≤i∧i≤42∧i≤nidx s+1∧Below w.heap.size w wr)) (fun x _=>42 - (intOf x).toNat)
 case atStart=>exact⟨1,rfl,hZ ⟨by omega,by omega,by omega,Below.refl _ _⟩⟩
 case round=>
  obtain⟨i,rfl,HX⟩:=hrel
  obtain⟨wq,hwq⟩:∃wq,wq=wr:=⟨_,rfl⟩
  subst hwq
  by_cases hlt:i<42
  ·have i1:(i:Int)<42:=by omega
   have hx:=getD_ops i hlt
   obtain⟨x,hxx⟩:=eX (OPS.getD i blank)
   rw [hxx] at hx
   have ht:=(uZ HT).below (uZ HX).2.2.2
   obtain⟨n,a,b,c,d,f⟩:=x
   have c0:wq.cell? ⟨0,i * 6,none⟩=some (.string n):=ht.cell i _ hx 0 _ rfl
   have HH:Hid (OPS[i - 1+1]?=some (n,a,b,c,d,f)):=hZ (by rw [show i - 1+1=i by have:=(uZ HX).1;omega];exact hx)
   have HJ:Hid (i - 1≤nidx s):=hZ (by have:=(uZ HX).2.2.1;omega)
   have HL:=hZ hlt
   clear ht hx hxx
   cases hs:n.toList == s.toList with
   |true=>
    have HS:Hid (r1=(i:Int)∧r2=true):=hZ (by
     have e:=nidx_hit s (i - 1) _ (uZ HH) hs (uZ HJ)
     have e1:=(uZ HX).1
     rw [←(uZ HA).1,←(uZ HA).2]
     unfold namA
     rw [e,if_pos (by omega)]
     exact⟨by simp only [];omega,rfl⟩)
    clear HJ HH
    go_wp2_with fail
    go_ret2
    exact⟨by rw [(uZ HS).1,(uZ HS).2];rfl,(uZ HX).2.2.2⟩
   |false=>
    have HS:Hid (i+1≤nidx s+1):=hZ (by
     have e:=nidx_miss s (i - 1) _ (uZ HH) hs (uZ HJ)
     have e1:=(uZ HX).1
     omega)
    have HI1:Hid (1≤i+1∧i+1≤42):=hZ (by omega)
    clear HJ HH
    go_wp2_with fail
    go_roundw
    case rel=>exact⟨i+1,by go_num,hZ ⟨(uZ HI1).1,(uZ HI1).2,uZ HS,(uZ HX).2.2.2⟩⟩
    case measure=>have:=uZ HL;simp [intOf];omega
  ·have hi:i=42:=by have:=(uZ HX).2.1;omega
   subst hi
   have HS:Hid (r1=0∧r2=false):=hZ (by
    have e:¬nidx s<41:=by have:=(uZ HX).2.2.1;omega
    rw [←(uZ HA).1,←(uZ HA).2]
    unfold namA
    rw [if_neg e]
    exact⟨rfl,rfl⟩)
   go_wp2_with fail
   go_ret2
   exact⟨by rw [(uZ HS).1,(uZ HS).2];rfl,(uZ HX).2.2.2⟩
def bltA (s:ByteArray):Int × Int × Bool:=if (namA s).2=true∧¬(namA s).1<27 then ((namA s).1,(infoA (namA s).1).1.2.2.1,true) else (0,0,false)
theorem below_drewN {B:Nat} {a w:World} (h:Below B a w) (q:Nat):Below B a (w.drewN q):=⟨h.os,h.tape,h.output,h.size,h.block⟩
theorem inf_two {w:World} {g:Nat} {s:ByteArray} {a b c d f:Int} (h:w.heap[g]?=some (.cells #[.string s,.int .i64 a,.int .i64 b,.int .i64 c,.int .i64 d,.int .i64 f] 66 (0,0))):w.cell? ⟨g,2,none⟩=some (.int .i64 b):=by rw [cell_of_row w _ 2 _ _ (0,0) h];rfl
theorem bltn_any (s:ByteArray) (w:World) (h:Tab w) :
  Calls Tryz.prog 23 #[.string s] w fun e w'=>e=.returned (.tuple #[.int .i64 (bltA s).1,.int .i64 (bltA s).2.1,.bool (bltA s).2.2])∧Below w.heap.size w w':=by
 have C1:=hZ (named_any s w h)
 obtain⟨op,hop⟩:=eX ((namA s).1)
 obtain⟨ok,hok⟩:=eX ((namA s).2)
 rw [hop,hok] at C1
 have HT:=hZ h
 clear h
 by_cases hc:ok=true∧¬op<27
 ·have e0:bltA s=(op,(infoA op).1.2.2.1,true):=by unfold bltA;rw [hop,hok,if_pos hc]
  rw [e0]
  obtain⟨rfl,h27⟩:=hc
  have C2:=hZ (fun u (hu:Tab u)=>info_any op u hu)
  obtain⟨x,hx⟩:=eX ((infoA op).1)
  obtain⟨r,hr⟩:=eX ((infoA op).2)
  rw [hx,hr] at C2
  rw [hx]
  obtain⟨xn,xa,xb,xc,xd,xf⟩:=x
  simp only [infV] at C2 ⊢
  clear hx hr hop hok e0
  have d27:decide (op<27)=false:=decide_eq_false h27
  go_enter Tryz.func23,Tryz.ntmps23
  go_wp2_with fail
  refine(uZ C1).mono ?_
  rintro e w1 ⟨rfl,b1⟩
  have T1:=hZ ((uZ HT).below b1)
  have B1:=hZ b1
  clear b1 HT C1
  go_wp2_with fail
  refine(uZ C2 w1 (uZ T1)).mono ?_
  rintro e w2 ⟨rfl,b2⟩
  have B2:=hZ ((uZ B1).trans (b2.mono (uZ B1).size))
  clear b2 B1 T1 C2
  go_upto_region 5 with fail
  obtain⟨w3,hw3⟩:∃w3,w3=w2.alloc (.cells #[.string xn,.int .i64 xa,.int .i64 xb,.int .i64 xc,.int .i64 xd,.int .i64 xf] 66):=⟨_,rfl⟩
  rw [←hw3]
  have A3:w3.heap[w2.heap.size]?=some (.cells #[.string xn,.int .i64 xa,.int .i64 xb,.int .i64 xc,.int .i64 xd,.int .i64 xf] 66 (0,0)):=by rw [hw3];exact heap_alloc_new w2 _
  have B3:=hZ (show Below w.heap.size w w3 by rw [hw3];exact(uZ B2).alloc (uZ B2).size _)
  have c2:=inf_two A3
  clear hw3 A3 B2
  go_quiet (fail)
  go_wp2_with fail
  go_ret3
  exact⟨rfl,below_drewN (uZ B3) _⟩
 ·have e0:bltA s=(0,0,false):=by unfold bltA;rw [hop,hok,if_neg hc]
  rw [e0]
  clear e0 hop hok HT
  cases ok with
  |false=>
   clear hc
   go_enter Tryz.func23,Tryz.ntmps23
   go_wp2_with fail
   refine(uZ C1).mono ?_
   rintro e w1 ⟨rfl,b1⟩
   have B1:=hZ b1
   clear b1 C1
   go_wp2_with fail
   go_ret3
   exact⟨rfl,uZ B1⟩
  |true=>
   have hlt:op<27:=Decidable.byContradiction (fun h=>hc ⟨rfl,h⟩)
   clear hc
   go_enter Tryz.func23,Tryz.ntmps23
   go_wp2_with fail
   refine(uZ C1).mono ?_
   rintro e w1 ⟨rfl,b1⟩
   have B1:=hZ b1
   clear b1 C1
   go_wp2_with fail
   go_ret3
   exact⟨rfl,uZ B1⟩
def biF (l:List UInt8):Option Int:=if (bltA ⟨l.toArray⟩).2.2=true then some (bltA ⟨l.toArray⟩).2.1 else none
theorem biF_of (t:ByteArray):biF t.data.toList=if (bltA t).2.2=true then some (bltA t).2.1 else none:=by
 unfold biF
 have e:(⟨t.data.toList.toArray⟩:ByteArray)=t:=by simp
 rw [e]
theorem called_any {k vk vn p:Int} {t vs:ByteArray} {al ak a:Option Addr} {ll cl lk ck m cc:Nat} {f:Bool} {w:World} {tb tn ct:Nat} {tk:List UInt8→Option Int} (ht:t.size≤maxLen) (hT:Tab w) (hct:w.heap[ct]?=some (.cells #[.map (some tb)] 40 (0,0))) (hm:Nms w tb tn tk):Calls Tryz.prog 92 #[.agg #[.int .i64 k,.string t,.int .i64 vk,.int .i64 vn,.string vs,.slice al ll cl,.slice ak lk ck,.bool f,.slice a m cc,.int .i64 p],.pointer (some ⟨ct,0,none⟩)] w fun e w'=>e=.returned (fltV (calR tk biF t.data.toList m p))∧Below w.heap.size w w':=by
 obtain⟨w2,hw2,n2,r2,b2⟩:=bxs k vk vn p t vs al ak a ll cl lk ck m cc f w
 have hbt:=biF_of t
 have hctl:=ltR hct
 have hct2:=(b2.block ct hctl).trans hct
 have hm2:=hm.later (b2.block tb hm.lt)
 have CP:=hZ (bltn_any t w2 (hT.below b2))
 obtain⟨G,hG⟩:=eX (w.heap.size)
 rw [hG] at n2 r2
 have HG2:=hZ (And.intro hG b2)
 have HN2:=hZ (And.intro n2 (And.intro r2 (And.intro hct2 hm2)))
 obtain⟨R,hR⟩:=eX (calR tk biF t.data.toList m p)
 rw [hR]
 obtain⟨⟨op,c,ok⟩,hb⟩:∃r,bltA t=r:=⟨_,rfl⟩
 rw [hb] at CP hbt
 obtain⟨m0,m1,m2,m3,m4,m5,m6,m7,m8,m9⟩:=ten_at n2
 go_enter Tryz.func92,Tryz.ntmps92
 go_upto_region 1 with fail
 try rw [hw2]
 try rw [hG]
 clear hw2 b2 hG hct hm hT hctl hct2 hm2 n2 r2 hb
 go_wp2_with fail
 refine(uZ CP).mono ?_
 rintro e w3 ⟨rfl,b3⟩
 have HR:=hZ ((b3.block _ (ltR (uZ HN2).2.1)).trans (uZ HN2).2.1)
 have HN:=hZ ((b3.block _ (ltR (uZ HN2).1)).trans (uZ HN2).1)
 have HCT:=hZ ((b3.block _ (ltR (uZ HN2).2.2.1)).trans (uZ HN2).2.2.1)
 have HM:=hZ ((uZ HN2).2.2.2.later (b3.block _ (uZ HN2).2.2.2.lt))
 have HG4:=hZ (And.intro (uZ HG2).1 ((uZ HG2).2.trans (b3.mono (uZ HG2).2.size)))
 obtain⟨wq,hwq⟩:=eX w3
 subst hwq
 clear b3 CP HN2 HG2 m0 m1 m2 m3 m4 m5 m6 m7 m8 m9
 obtain⟨m0,m1,m2,m3,m4,m5,m6,m7,m8,m9⟩:=ten_at (uZ HN)
 obtain⟨wq,hwq⟩:=eX w3
 subst hwq
 by_cases hok:ok=true
 ·subst hok
  have ho:biF t.data.toList=some c:=by rw [hbt];exact if_pos rfl
  clear hbt
  go_upto_region 6 with fail
  by_cases hcm:c=(m:Int)
  ·obtain rfl:R=(0,0):=by rw [←hR];unfold calR;rw [ho];exact if_pos hcm
   have j1:(c != (m:Int))=false:=by simp [hcm]
   have j2:¬c≠(m:Int):=fun x=>x hcm
   clear hR ho
   obtain⟨k0,k1⟩:=two_at (uZ HR)
   have y0:=frozen_of_row w3 (G+1) 0 _ _ (uZ HR)
   have y1:=frozen_of_row w3 (G+1) 1 _ _ (uZ HR)
   have HE:=hZ (And.intro (put2 (uZ HR) (.int .i64 0) (.int .i64 0)) ((((uZ HG4).2).setCell (p:=⟨G+1,0,none⟩) (by rw [(uZ HG4).1];exact Nat.le_succ _) (.int .i64 0)).setCell (p:=⟨G+1,1,none⟩) (by rw [(uZ HG4).1];exact Nat.le_succ _) (.int .i64 0)))
   go_wp2_with fail
   exact rtF (p:=3) rfl rfl (uZ HE).1 rfl ⟨rfl,(uZ HE).2⟩
  ·obtain rfl:R=(p,193):=by rw [←hR];unfold calR;rw [ho];exact if_neg hcm
   have j1:(c != (m:Int))=true:=by simp [hcm]
   have j2:c≠(m:Int):=hcm
   have j3:(c == (m:Int))=false:=by simp [hcm]
   clear hR ho
   have C:=hZ (wrg k vk vn p t vs al ak a ll cl lk ck m cc f 193 w3)
   go_wp2_with fail
   refine(uZ C).mono ?_
   rintro e w8 ⟨rfl,b8⟩
   have r8:=(b8.block _ (ltR (uZ HR))).trans (uZ HR)
   obtain⟨k0,k1⟩:=two_at r8
   have y0:=frozen_of_row w8 (G+1) 0 _ _ r8
   have y1:=frozen_of_row w8 (G+1) 1 _ _ r8
   have HE:=hZ (And.intro (put2 r8 (.int .i64 p) (.int .i64 193)) (((((uZ HG4).2.trans (b8.mono (uZ HG4).2.size)).setCell (p:=⟨G+1,0,none⟩) (by rw [(uZ HG4).1];exact Nat.le_succ _) (.int .i64 p))).setCell (p:=⟨G+1,1,none⟩) (by rw [(uZ HG4).1];exact Nat.le_succ _) (.int .i64 193)))
   clear b8 r8 C
   go_wp2_with fail
   exact rtF (p:=3) rfl rfl (uZ HE).1 rfl ⟨rfl,(uZ HE).2⟩
 ·have hok:ok=false:=by simpa using hok
  subst hok
  have hn:biF t.data.toList=none:=by rw [hbt];exact if_neg (by decide)
  clear hbt
  have ct0:w3.cell? ⟨ct,0,none⟩=some (.map (some tb)):=by
   rw [cell_of_row w3 ct 0 _ _ (0,0) (uZ HCT)]
   rfl
  have ha:=(uZ HM).ask ht _ Tryz.underlying40
  cases ho:tk t.data.toList with
  |none=>
   obtain rfl:R=(p,192):=by rw [←hR];unfold calR;rw [hn];dsimp only;rw [ho]
   rw [ho] at ha
   clear hR hn ho
   have C:=hZ (wrg k vk vn p t vs al ak a ll cl lk ck m cc f 192 w3)
   go_wp2_with fail
   refine(uZ C).mono ?_
   rintro e w8 ⟨rfl,b8⟩
   have r8:=(b8.block _ (ltR (uZ HR))).trans (uZ HR)
   obtain⟨k0,k1⟩:=two_at r8
   have y0:=frozen_of_row w8 (G+1) 0 _ _ r8
   have y1:=frozen_of_row w8 (G+1) 1 _ _ r8
   have HE:=hZ (And.intro (put2 r8 (.int .i64 p) (.int .i64 192)) (((((uZ HG4).2.trans (b8.mono (uZ HG4).2.size)).setCell (p:=⟨G+1,0,none⟩) (by rw [(uZ HG4).1];exact Nat.le_succ _) (.int .i64 p))).setCell (p:=⟨G+1,1,none⟩) (by rw [(uZ HG4).1];exact Nat.le_succ _) (.int .i64 192)))
   clear b8 r8 C
   go_wp2_with fail
   exact rtF (p:=3) rfl rfl (uZ HE).1 rfl ⟨rfl,(uZ HE).2⟩
  |some c=>
   rw [ho] at ha
   simp only [Option.getD_some,Option.isSome_some] at ha
   go_upto_region 6 with fail
   by_cases hcm:c=(m:Int)
   ·obtain rfl:R=(0,0):=by rw [←hR];unfold calR;rw [hn];dsimp only;rw [ho];exact if_pos hcm
    have j1:(c != (m:Int))=false:=by simp [hcm]
    have j2:¬c≠(m:Int):=fun x=>x hcm
    clear hR ho
    obtain⟨k0,k1⟩:=two_at (uZ HR)
    have y0:=frozen_of_row w3 (G+1) 0 _ _ (uZ HR)
    have y1:=frozen_of_row w3 (G+1) 1 _ _ (uZ HR)
    have HE:=hZ (And.intro (put2 (uZ HR) (.int .i64 0) (.int .i64 0)) ((((uZ HG4).2).setCell (p:=⟨G+1,0,none⟩) (by rw [(uZ HG4).1];exact Nat.le_succ _) (.int .i64 0)).setCell (p:=⟨G+1,1,none⟩) (by rw [(uZ HG4).1];exact Nat.le_succ _) (.int .i64 0)))
    go_wp2_with fail
    exact rtF (p:=3) rfl rfl (uZ HE).1 rfl ⟨rfl,(uZ HE).2⟩
   ·obtain rfl:R=(p,193):=by rw [←hR];unfold calR;rw [hn];dsimp only;rw [ho];exact if_neg hcm
    have j1:(c != (m:Int))=true:=by simp [hcm]
    have j2:c≠(m:Int):=hcm
    have j3:(c == (m:Int))=false:=by simp [hcm]
    clear hR ho
    have C:=hZ (wrg k vk vn p t vs al ak a ll cl lk ck m cc f 193 w3)
    go_wp2_with fail
    refine(uZ C).mono ?_
    rintro e w8 ⟨rfl,b8⟩
    have r8:=(b8.block _ (ltR (uZ HR))).trans (uZ HR)
    obtain⟨k0,k1⟩:=two_at r8
    have y0:=frozen_of_row w8 (G+1) 0 _ _ r8
    have y1:=frozen_of_row w8 (G+1) 1 _ _ r8
    have HE:=hZ (And.intro (put2 r8 (.int .i64 p) (.int .i64 193)) (((((uZ HG4).2.trans (b8.mono (uZ HG4).2.size)).setCell (p:=⟨G+1,0,none⟩) (by rw [(uZ HG4).1];exact Nat.le_succ _) (.int .i64 p))).setCell (p:=⟨G+1,1,none⟩) (by rw [(uZ HG4).1];exact Nat.le_succ _) (.int .i64 193)))
    clear b8 r8 C
    go_wp2_with fail
    exact rtF (p:=3) rfl rfl (uZ HE).1 rfl ⟨rfl,(uZ HE).2⟩
theorem Till.firstN {P:Program} {ops:Array Oper} {Q:Exit→Act→World→Prop} {md:Region.Mode} {S:World→Prop} {z:Nat} {i:Nat} {oi:Oper} {v:Value} (hi:ops[i]?=some oi) (hz:ops[z]?=Option.none)
  (hsel:∀(j:Nat) (o:Oper) cs b,ops[j]?=some o→o.op≠.select cs b) (hQ:∀c a w,Q (.panic c) (a.put oi.dst v) w→Q (.panic c) a w) :
  ∀(f:Nat) (listed:Array Bool) (a:Act) (w:World),
   (∀j oj,ops[j]?=some oj→j≠i→listed.getD j true=false→(∀e∈oj.after,Region.binds md e=true→e.on≠i)→oi.apart ops oj=true) →
   i∈Region.ready md ops listed→YieldsIf P ops S oi v a→S w →
   Till P md ops Q S z f (listed.setIfInBounds i true) (a.put oi.dst v) w→Till P md ops Q S z (f+1) listed a w:=by
 intro f
 induction f with
 |zero=>
  intro listed a w _ hr hy hS H
  refine⟨fun h=>(by rw [h] at hr;cases hr),fun j hj=>?_⟩
  by_cases e:j=i
  ·rw [e]
   exact hy.wpOp hi hS ⟨Or.inr hS,H⟩
  ·exact absurd (ready_mono hj e) (by rw [H.1];simp)
 |succ f ih=>
  intro listed a w hfree hr hy hS H
  refine⟨fun h=>(by rw [h] at hr;cases hr),fun j hj=>?_⟩
  by_cases e:j=i
  ·rw [e]
   exact hy.wpOp hi hS ⟨Or.inr hS,H⟩
  ·obtain⟨hun,oj,hoj,hall⟩:=mem_ready.1 hj
   have hi0:=(mem_ready.1 hr).1
   have hnot:∀x∈oj.after,Region.binds md x=true→x.on≠i:=fun x hx hb he=>by
    have h1:=hall x hx hb
    rw [he] at h1
    rcases Nat.lt_or_ge i listed.size with hl|hl
    ·simp [hl] at hi0 h1
     rw [hi0] at h1
     cases h1
    ·simp [Array.getElem?_eq_none hl] at h1
   have hjz:j≠z:=fun he=>by
    rw [he,hz] at hoj
    cases hoj
   have h2:=wpOp_putIf hoj (hfree j oj hoj e hun hnot) (fun cs b=>hsel i oi cs b hi) (fun cs b=>hsel j oj cs b hoj) hQ hy (H.2 j (ready_mono hj e))
   refine wpOp_mono (fun a' w' h3=>?_) h2
   obtain⟨hy',hS',hT⟩:=h3
   have hSw:S w':=hS'.resolve_left hjz
   refine⟨Or.inr hSw,ih (listed.setIfInBounds j true) a' w' (fun k ok hk hki hu hno=>hfree k ok hk hki ?_ hno) (ready_mono hr (Ne.symm e)) hy' hSw ?_⟩
   ·by_cases hjk:j=k
    ·rw [←hjk];exact hun
    ·rw [getD_set_ne true hjk] at hu;exact hu
   ·rw [Array.setIfInBounds_comm _ _ e]
    exact hT
theorem till_takeN {P:Program} {ops:Array Oper} {Q:Exit→Act→World→Prop} {md:Region.Mode} {S:World→Prop} {z:Nat} {f:Nat} {listed:Array Bool} {a:Act} {w:World} (i:Nat) {oi:Oper} {v:Value} (d:Option Tmp) (hi:ops[i]?=some oi) (hd:oi.dst=d) (hz:ops[z]?=Option.none)
  (hs:Region.noSelect ops=true) (hf:Region.free md ops listed i=true) (hr:(Region.ready md ops listed).contains i=true)
  (hQ:∀c a w,Q (.panic c) (a.put d v) w→Q (.panic c) a w) (hy:YieldsIf P ops S oi v a) (hS:S w)
  (h:Till P md ops Q S z f (listed.setIfInBounds i true) (a.put d v) w):Till P md ops Q S z (f+1) listed a w:=by
 subst hd
 exact Till.firstN hi hz (Region.noSelect_spec hs) hQ f listed a w (Region.free_spec hi hf) (by simpa using hr) hy hS h
section
variable {P : Program} {ops : Array Oper} {Q : Exit → Act → World → Prop} {md : Region.Mode} {S : World → Prop} {z : Nat}
def Til2 (P:Program) (md:Region.Mode) (ops:Array Oper) (Q:Exit→Act→World→Prop) (S:World→Prop) (z:Nat):Nat→Array Bool→Act→World→Prop
 |0,listed,a,w=>Region.ready md ops listed=[]∧Q .normal a w
 |f+1,listed,a,w=>(Region.ready md ops listed=[]→Q .normal a w)∧∀i∈Region.ready md ops listed,wpOp P ops Q i (fun a' w'=>(i=z→wpAny P md ops Q f (listed.setIfInBounds i true) a' w')∧(i≠z→S w'∧Til2 P md ops Q S z f (listed.setIfInBounds i true) a' w')) a w
theorem Til2.any:∀(f:Nat) (listed:Array Bool) (a:Act) (w:World),Til2 P md ops Q S z f listed a w→wpAny P md ops Q f listed a w
 |0,_,_,_,h=>h
 |f+1,_,_,_,h=>⟨h.1,fun i hi=>wpOp_mono (fun a' w' h'=>by
   by_cases e:i=z
   ·exact h'.1 e
   ·exact Til2.any f _ a' w' (h'.2 e).2) (h.2 i hi)⟩
theorem Til2.first {i:Nat} {oi oz:Oper} {v:Value} (hi:ops[i]?=some oi) (hz:ops[z]?=some oz) (hiz:i≠z) (hwait:∃e∈oz.after,Region.binds md e=true∧e.on=i)
  (hsel:∀(j:Nat) (o:Oper) cs b,ops[j]?=some o→o.op≠.select cs b) (hQ:∀c a w,Q (.panic c) (a.put oi.dst v) w→Q (.panic c) a w) :
  ∀(f:Nat) (listed:Array Bool) (a:Act) (w:World),
   (∀j oj,ops[j]?=some oj→j≠i→listed.getD j true=false→(∀e∈oj.after,Region.binds md e=true→e.on≠i)→oi.apart ops oj=true) →
   i∈Region.ready md ops listed→YieldsIf P ops S oi v a→S w →
   Til2 P md ops Q S z f (listed.setIfInBounds i true) (a.put oi.dst v) w→Til2 P md ops Q S z (f+1) listed a w:=by
 intro f
 induction f with
 |zero=>
  intro listed a w _ hr hy hS H
  refine⟨fun h=>(by rw [h] at hr;cases hr),fun j hj=>?_⟩
  by_cases e:j=i
  ·rw [e]
   exact hy.wpOp hi hS ⟨fun e=>absurd e hiz,fun _=>⟨hS,H⟩⟩
  ·exact absurd (ready_mono hj e) (by rw [H.1];simp)
 |succ f ih=>
  intro listed a w hfree hr hy hS H
  refine⟨fun h=>(by rw [h] at hr;cases hr),fun j hj=>?_⟩
  by_cases e:j=i
  ·rw [e]
   exact hy.wpOp hi hS ⟨fun e=>absurd e hiz,fun _=>⟨hS,H⟩⟩
  ·obtain⟨hun,oj,hoj,hall⟩:=mem_ready.1 hj
   have hi0:=(mem_ready.1 hr).1
   have hnot:∀x∈oj.after,Region.binds md x=true→x.on≠i:=fun x hx hb he=>by
    have h1:=hall x hx hb
    rw [he] at h1
    rcases Nat.lt_or_ge i listed.size with hl|hl
    ·simp [hl] at hi0 h1
     rw [hi0] at h1
     cases h1
    ·simp [Array.getElem?_eq_none hl] at h1
   have hjz:j≠z:=fun he=>by
    obtain⟨x,hx,hb,hon⟩:=hwait
    rw [he] at hoj
    rw [hoj] at hz
    cases hz
    exact hnot x hx hb hon
   have h2:=wpOp_putIf hoj (hfree j oj hoj e hun hnot) (fun cs b=>hsel i oi cs b hi) (fun cs b=>hsel j oj cs b hoj) hQ hy (H.2 j (ready_mono hj e))
   refine wpOp_mono (fun a' w' h3=>?_) h2
   obtain⟨hy',hb⟩:=h3
   obtain⟨hSw,hT⟩:=hb.2 hjz
   refine⟨fun e=>absurd e hjz,fun _=>⟨hSw,ih (listed.setIfInBounds j true) a' w' (fun k ok hk hki hu hno=>hfree k ok hk hki ?_ hno) (ready_mono hr (Ne.symm e)) hy' hSw ?_⟩⟩
   ·by_cases hjk:j=k
    ·rw [←hjk];exact hun
    ·rw [getD_set_ne true hjk] at hu;exact hu
   ·rw [Array.setIfInBounds_comm _ _ e]
    exact hT
theorem til2_take {f:Nat} {listed:Array Bool} {a:Act} {w:World} (i:Nat) {oi oz:Oper} {v:Value} (d:Option Tmp) (hi:ops[i]?=some oi) (hd:oi.dst=d) (hz:ops[z]?=some oz) (hiz:(i != z)=true) (hwait:(oz.after.any fun e=>Region.binds md e && e.on == i)=true)
  (hs:Region.noSelect ops=true) (hf:Region.free md ops listed i=true) (hr:(Region.ready md ops listed).contains i=true)
  (hQ:∀c a w,Q (.panic c) (a.put d v) w→Q (.panic c) a w) (hy:YieldsIf P ops S oi v a) (hS:S w)
  (h:Til2 P md ops Q S z f (listed.setIfInBounds i true) (a.put d v) w):Til2 P md ops Q S z (f+1) listed a w:=by
 subst hd
 refine Til2.first hi hz (by simpa using hiz) ?_ (Region.noSelect_spec hs) hQ f listed a w (Region.free_spec hi hf) (by simpa using hr) hy hS h
 rw [Array.any_eq_true] at hwait
 obtain⟨k,hk,hx⟩:=hwait
 rw [Bool.and_eq_true,beq_iff_eq] at hx
 exact⟨_,Array.getElem_mem hk,hx.1,hx.2⟩
theorem til2_one {f:Nat} {listed:Array Bool} {a:Act} {w:World} (i:Nat) {o:Oper} (hr:Region.ready md ops listed=[i]) (ho:ops[i]?=some o) (hiz:(i != z)=true)
  (h:∀K':Act→World→Prop,Shut (∀a w,S w→Til2 P md ops Q S z f (listed.setIfInBounds i true) a w→K' a w)→if Region.wanted o (yielded ops a.tmps)=true then Oper.wp P o a w K' Q else K' (a.put o.dst undef) w) :
  Til2 P md ops Q S z (f+1) listed a w:=by
 refine⟨fun e=>(by rw [e] at hr;cases hr),fun j hj=>?_⟩
 rw [hr,List.mem_singleton] at hj
 subst hj
 have hne:j≠z:=by simpa using hiz
 exact wpOp_step ho (fun K' hK=>h K' (fun a w hS hT=>hK a w ⟨fun e=>absurd e hne,fun _=>⟨hS,hT⟩⟩))
theorem til2_z {f:Nat} {listed:Array Bool} {a:Act} {w:World} {o:Oper} (hr:Region.ready md ops listed=[z]) (ho:ops[z]?=some o)
  (h:∀K':Act→World→Prop,Shut (∀a w,wpAny P md ops Q f (listed.setIfInBounds z true) a w→K' a w)→if Region.wanted o (yielded ops a.tmps)=true then Oper.wp P o a w K' Q else K' (a.put o.dst undef) w) :
  Til2 P md ops Q S z (f+1) listed a w:=by
 refine⟨fun e=>(by rw [e] at hr;cases hr),fun j hj=>?_⟩
 rw [hr,List.mem_singleton] at hj
 subst hj
 exact wpOp_step ho (fun K' hK=>h K' (fun a w hT=>hK a w ⟨fun _=>hT,fun e=>absurd rfl e⟩))
theorem til2_begin {id:Nat} {a:Act} {w:World} (z:Nat) (hm:P.follows .mixedOrders=true) (h:Til2 P .any ops Q S z ops.size (Array.replicate ops.size false) a w.drew):(Code.region id ops true).wp P Q a w:=
 wp_region_any hm (Til2.any _ _ _ _ h)
end
end Go.Proofs.YtjdpaihhhjdgmaaGreatDoor
