/-
  What the listed package variables of the seat give the walks of Print; a world that has them; no conditions.
  What the form's own reach says of what lies within an argument: elements of slices, fields of structs; no conditions.
  How a value among the arguments is opened: a tree of values that lies in memory; no conditions.
  How a node among the arguments is opened: a tree of nodes that lies in memory; no conditions.
-/
import Derived.Test.YtekbmfppfjlboaaGreatDoorA24
import Derived.Test.YtekbmfppfjlboaaGreatDoorRows
import Derived.ProofKit
import Derived.LaidMore
import Derived.OpenShut
import Derived.Stop.Joined
import Derived.Lib.LaidTab
import Derived.Test.YtekbmfppfjlboaaGreatDoorChecked
import Derived.SizedLaws
import Derived.Deep.Strs
import Derived.Test.YtekbmfppfjlboaaGreatDoorA00
import Derived.Test.YtekbmfppfjlboaaGreatDoorA04
set_option linter.unusedVariables false
set_option linter.unusedSimpArgs false
namespace Go.Proofs.YtekbmfppfjlboaaGreatDoor
open Go.ChangeShapes Go.WideShapes Go.ChangeAt Go.RowKit
theorem own:ownKnob Tryz.prog.godebug=none:=by kernel_rfl
theorem laidOut:laidOutB Tryz.prog=true:=by kernel_rfl
theorem tPow:(Tryz.prog.globals[0]?).map (·.type)=some 122:=by kernel_rfl
theorem tab_pow:(Rows.laid_internal_strconv_uint64pow10:DataW Unit)=Lib.tabData .u64 Lib.pow10Tab:=by kernel_rfl
def seatLaid:List (String × DataW Unit):=[("math/bits.deBruijn32tab",Rows.laid_math_bits_deBruijn32tab),("math/bits.deBruijn64tab",Rows.laid_math_bits_deBruijn64tab),("internal/strconv.uint64pow10",Rows.laid_internal_strconv_uint64pow10)]
theorem of_laid {W:World} (h:laidMetH Tryz.prog seatLaid W):PowAt W∧0<W.heap.size:=by
 rw [MakeChecks.laidMetH_plain _ _ _ (by kernel_rfl)] at h
 obtain⟨ps,⟨g0,t0,cs0,f0,p0,q0,hg0,ht0,hv0,hd0,⟨g1,t1,cs1,f1,p1,q1,hg1,ht1,hv1,hd1,⟨g2,t2,cs2,f2,p2,q2,hg2,ht2,hv2,hd2,_,hq2⟩,hq⟩,hps⟩,_,hfz⟩:=h
 obtain rfl:=Option.some.inj (gPow.symm.trans hg2)
 obtain rfl:=Option.some.inj (tPow.symm.trans ht2)
 rw [tab_pow] at hd2
 have e2:=Lib.cells_of_tab Tryz.underlying122 Tryz.underlying110 (by kernel_rfl) (by kernel_rfl) hd2
 refine⟨?_,?_⟩
 ·unfold PowAt Lib.TabIs
  rw [hv2,←e2]
 ·rcases Nat.lt_or_ge 0 W.heap.size with h|h
  ·exact h
  ·unfold World.var? at hv2
   rw [gPow] at hv2
   simp only [Option.bind_some] at hv2
   rw [Array.getElem?_eq_none h] at hv2
   cases hv2
theorem door_met (os:Os) (args:Array Value):laidMetH Tryz.prog seatLaid ((World.doorLaid Tryz.prog 400 os).forCall (fun _ _=>0) ⟨#[],args,[]⟩).memory:=
 laidMetH_of_parts3 (fuel:=8) (laidMet_of_run' 8 (by kernel_rfl) (by kernel_rfl)) (by kernel_rfl) (by kernel_rfl)
open Go
theorem weightsAll_mem {H:Type} {P:Program} {e:TypeId}:∀{ds:List (DataW H)} {d:DataW H},d∈ds→∀n∈d.weights P e,n∈DataW.weightsAll P e ds
 |d0 :: ds,d,hd,n,hn=>by
  simp only [DataW.weightsAll,List.mem_append]
  rcases List.mem_cons.1 hd with rfl|hd
  ·exact Or.inl hn
  ·exact Or.inr (weightsAll_mem hd n hn)
def Reach {H:Type} (P:Program) (t:TypeId) (d:DataW H):Prop:=∀n∈d.weights P t,n≤reachBytes
theorem reach_arg {H:Type} {P:Program} {ts:List TypeId} {ds:List (DataW H)} (h:(DataW.weightsEach P ts ds).all (·≤reachBytes)=true) {j:Nat} {t:TypeId} {d:DataW H} (ht:ts[j]?=some t) (hd:ds[j]?=some d):Reach P t d:=fun n hn=>by
 have:=List.all_eq_true.1 h _ (DataW.weights_mem_each ht hd n hn)
 simpa using this
theorem Reach.slice {H:Type} {P:Program} {t e:TypeId} {elems spare:List (DataW H)} (h:Reach P t (.slice elems spare)) (hu:P.underlying t=some (.slice e)):(elems.length+spare.length) * P.bytesOf e≤reachBytes:=
 h _ (by simp [DataW.weights,hu])
theorem Reach.elem {H:Type} {P:Program} {t e:TypeId} {elems spare:List (DataW H)} (h:Reach P t (.slice elems spare)) (hu:P.underlying t=some (.slice e)) {d:DataW H} (hd:d∈elems):Reach P e d:=fun n hn=>
 h n (by
  simp only [DataW.weights,hu,List.mem_cons,List.mem_append]
  exact Or.inr (Or.inl (weightsAll_mem hd n hn)))
theorem Reach.string {H:Type} {P:Program} {t:TypeId} {bytes:List UInt8} (h:Reach (H:=H) P t (.lit (.string bytes))):bytes.length≤reachBytes:=
 h _ (by simp [DataW.weights])
theorem Reach.field {H:Type} {P:Program} {t:TypeId} {fs:Array Field} {parts:List (DataW H)} (h:Reach P t (.agg parts)) (hu:P.underlying t=some (.struct fs)) {j:Nat} {u:TypeId} {d:DataW H} (ht:(fs.toList.map (·.type))[j]?=some u) (hd:parts[j]?=some d):Reach P u d:=fun n hn=>
 h n (by
  simp only [DataW.weights,hu]
  exact DataW.weights_mem_each ht hd n hn)
theorem reach_size {H:Type} {P:Program} {t:TypeId} {s:ByteArray} (h:Reach (H:=H) P t (.lit (.string s.data.toList))):s.size≤140737488351232:=by
 have:=h.string
 unfold reachBytes at this
 simpa using this
open Go.ChangeShapes Go.WideShapes Go.ChangeAt Go.RowKit
theorem cells1i:Tryz.prog.cellsOf 3=1:=by kernel_rfl
theorem cells1j:Tryz.prog.cellsOf 2=1:=by kernel_rfl
theorem cells1s:Tryz.prog.cellsOf 9=1:=by kernel_rfl
theorem cells1l:Tryz.prog.cellsOf 23=1:=by kernel_rfl
theorem cells1k:Tryz.prog.cellsOf 24=1:=by kernel_rfl
theorem cells5v:Tryz.prog.cellsOf 26=5:=by kernel_rfl
section
variable {H : Type} {enc : TypeId × Value → H} {W : World}
set_option maxRecDepth 100000 in
theorem open_fields {fuel:Nat} {cs:List Value} {x:DataW H × List MemPlace} (h:DataW.trod enc Tryz.prog W 0 (fun _=>true) true fuel 26 cs=some x) :
  ∃(n:Nat) (c0 c1 c2 c3 c4:Value) (y0 y1 y2 y3 y4:DataW H × List MemPlace),fuel=n+1∧cs=[c0,c1,c2,c3,c4]∧x.1=.agg [y0.1,y1.1,y2.1,y3.1,y4.1] ∧
   DataW.trod enc Tryz.prog W 0 (fun _=>true) true n 3 [c0]=some y0∧DataW.trod enc Tryz.prog W 0 (fun _=>true) true n 2 [c1]=some y1∧DataW.trod enc Tryz.prog W 0 (fun _=>true) true n 9 [c2]=some y2 ∧
   DataW.trod enc Tryz.prog W 0 (fun _=>true) true n 23 [c3]=some y3∧DataW.trod enc Tryz.prog W 0 (fun _=>true) true n 24 [c4]=some y4:=by
 obtain⟨xs,n,rfl,rfl,hl,hlen,hf⟩:=DataW.trod_struct Tryz.underlying26 h
 rw [cells5v] at hl
 have hlen':xs.length=5:=hlen
 match cs,hl,xs,hlen' with
 |[c0,c1,c2,c3,c4],_,[y0,y1,y2,y3,y4],_=>
  have h0:DataW.trod enc Tryz.prog W 0 (fun _=>true) true n 3 (([c0,c1,c2,c3,c4].drop 0).take (Tryz.prog.cellsOf 3))=some y0:=hf 0 _ rfl
  rw [cells1i] at h0
  have h1:DataW.trod enc Tryz.prog W 0 (fun _=>true) true n 2 (([c0,c1,c2,c3,c4].drop 1).take (Tryz.prog.cellsOf 2))=some y1:=hf 1 _ rfl
  rw [cells1j] at h1
  have h2:DataW.trod enc Tryz.prog W 0 (fun _=>true) true n 9 (([c0,c1,c2,c3,c4].drop 2).take (Tryz.prog.cellsOf 9))=some y2:=hf 2 _ rfl
  rw [cells1s] at h2
  have h3:DataW.trod enc Tryz.prog W 0 (fun _=>true) true n 23 (([c0,c1,c2,c3,c4].drop 3).take (Tryz.prog.cellsOf 23))=some y3:=hf 3 _ rfl
  rw [cells1l] at h3
  have h4:DataW.trod enc Tryz.prog W 0 (fun _=>true) true n 24 (([c0,c1,c2,c3,c4].drop 4).take (Tryz.prog.cellsOf 24))=some y4:=hf 4 _ rfl
  rw [cells1k] at h4
  exact⟨n,c0,c1,c2,c3,c4,y0,y1,y2,y3,y4,rfl,rfl,rfl,h0,h1,h2,h3,h4⟩
set_option maxRecDepth 100000 in
theorem open_value:∀(fuel:Nat) (cs:List Value) (x:DataW H × List MemPlace),DataW.trod enc Tryz.prog W 0 (fun _=>true) true fuel 26 cs=some x→Go.Proofs.YtekbmfppfjlboaaGreatDoor.Reach Tryz.prog 26 x.1→∃v,IsV W W.heap.size v (.agg cs.toArray):=by
 intro fuel
 induction fuel using Nat.strongRecOn with
 |ind fuel ih=>
  intro cs x h hre
  obtain⟨n,c0,c1,c2,c3,c4,y0,y1,y2,y3,y4,rfl,rfl,hx,h0,h1,h2,h3,h4⟩:=open_fields h
  rw [hx] at hre
  obtain⟨k,e0,_,w0⟩:=DataW.trod_int Tryz.underlying3 h0
  obtain⟨m,e1,_,w1⟩:=DataW.trod_int Tryz.underlying2 h1
  obtain⟨s,e2,hy2,_⟩:=DataW.trod_string Tryz.underlying9 h2
  simp only [List.cons.injEq,and_true] at e0 e1 e2
  subst e0
  subst e1
  subst e2
  have r2:s.size≤140737488351232:=by
   have:=hre.field (j:=2) (u:=9) (d:=y2.1) Tryz.underlying26 rfl rfl
   rw [hy2] at this
   exact reach_size this
  have r3:=hre.field (j:=3) (u:=23) (d:=y3.1) Tryz.underlying26 rfl rfl
  have r4:=hre.field (j:=4) (u:=24) (d:=y4.1) Tryz.underlying26 rfl rfl
  obtain⟨ks,ak,ck,hc4,nk,lk,⟨bc,bq⟩,hk,bt⟩:∃(ks:List ByteArray) (ak:Option Addr) (ck:Nat),c4=.slice ak ks.length ck∧(ak=none→ks.length=0∧ck=0)∧ks.length≤ck∧(ck≤140737488351232∧16 * ks.length≤140737488351232)∧(∀a,ak=some a→∀i t,ks[i]?=some t→a.block<W.heap.size∧W.cell? (a.add i)=some (.string t))∧∀t∈ks,t.size≤140737488351232:=by
   rcases Go.Deep.open_strs Tryz.underlying24 Tryz.underlying9 cells1s h4 with ⟨hcs,_⟩|⟨a,l,c,m',Sx,hcs,_,hl,hm,hmm,hx4,hcell⟩
   ·simp only [List.cons.injEq,and_true] at hcs
    exact⟨[],none,0,hcs,fun _=>⟨rfl,rfl⟩,Nat.le_refl _,⟨by omega,by simp⟩,(fun a h=>by cases h),fun t h=>by cases h⟩
   ·simp only [List.cons.injEq,and_true] at hcs
    simp only [if_true] at hmm
    subst hmm
    rw [hx4] at r4
    refine⟨(List.range l).map Sx,some a,m',by simpa using hcs,(fun e=>by cases e),by simpa using hl,?_,?_,?_⟩
    ·have h:=r4.slice Tryz.underlying24
     rw [show Tryz.prog.bytesOf 9=16 by kernel_rfl] at h
     unfold reachBytes at h
     simp at h
     refine⟨by omega,?_⟩
     rw [List.length_map,List.length_range]
     omega
    ·intro b hb i t ht
     cases hb
     have hi:i<l:=by
      have:=(List.getElem?_eq_some_iff.1 ht).1
      simpa using this
     rw [List.getElem?_map,List.getElem?_range hi] at ht
     simp only [Option.map_some,Option.some.injEq] at ht
     subst ht
     have hc:=(hcell i (by omega)).1
     refine⟨?_,hc⟩
     have:=World.block_lt_of_cell? _ _ (by rw [hc])
     rw [block_add] at this
     exact this
    ·intro t ht
     obtain⟨i,hi,rfl⟩:=List.mem_map.1 ht
     exact reach_size (r4.elem Tryz.underlying24 (List.mem_map.2 ⟨i,hi,rfl⟩))
  obtain⟨l,al,cl,V,hc3,nl,ll,bl,hl,hv,el⟩:∃(l:List Vl) (al:Option Addr) (cl:Nat) (V:Nat→List Value),c3=.slice al l.length cl∧(al=none→l.length=0∧cl=0)∧l.length≤cl∧cl≤140737488351232 ∧
    (∀a,al=some a→∀i,i<l.length→a.block<W.heap.size∧∀j v,(V i)[j]?=some v→W.cell? ((a.add (i * 5)).add j)=some v)∧(∀i,i<l.length→(V i).length=5)∧∀i x,l[i]?=some x→IsV W W.heap.size x (.agg (V i).toArray):=by
   rcases DataW.trod_slice Tryz.underlying23 h3 with ⟨hcs,_⟩|⟨a,len,cap,elems,rest,n',hn',hcs,hx3,_,hlc,hcm,hlen,hel,hsp,_⟩
   ·simp only [List.cons.injEq,and_true] at hcs
    exact⟨[],none,0,fun _=>[],hcs,fun _=>⟨rfl,rfl⟩,Nat.le_refl _,by omega,(fun a h=>by cases h),(fun i h=>absurd h (by simp)),fun i x h=>by simp at h⟩
   ·simp only [List.cons.injEq,and_true] at hcs
    rw [hx3] at r3
    rw [cells5v] at hel
    have hall:∀i,i<len→∃p:List Value × Vl,p.1.length=5∧(a.block<W.heap.size∧∀j v,p.1[j]?=some v→W.cell? ((a.add (i * 5)).add j)=some v)∧IsV W W.heap.size p.2 (.agg p.1.toArray):=by
     intro i hi
     have he:=hel i hi
     rw [List.getElem?_eq_getElem (by omega)] at he
     obtain⟨cs',hc1,hc2⟩:=Option.bind_eq_some_iff.1 he
     obtain⟨_,hl5,hcell⟩:=World.cells?_some hc1
     obtain⟨v,hv⟩:=ih n' (by omega) cs' _ hc2 (r3.elem Tryz.underlying23 (List.mem_map.2 ⟨_,List.getElem_mem _,rfl⟩))
     refine⟨(cs',v),hl5,⟨?_,fun j u hu=>?_⟩,hv⟩
     ·have h0:=hcell 0 (by omega)
      have:=World.block_lt_of_cell? W ((a.add (i * 5)).add 0) (by rw [h0,List.getElem?_eq_getElem (by omega)])
      rw [block_add,block_add] at this
      exact this
     ·have hj:j<5:=by
       have h5:j<cs'.length:=(List.getElem?_eq_some_iff.1 hu).1
       omega
      rw [hcell j hj]
      exact hu
    haveI:Inhabited (List Value × Vl):=⟨([],.mk 0 0 ⟨#[]⟩ [] [])⟩
    obtain⟨f,hf⟩:=Go.Deep.choose_lt hall
    refine⟨(List.range len).map (fun i=>(f i).2),some a,cap,fun i=>(f i).1,by simpa using hcs,(fun e=>by cases e),by simpa using hlc,?_,?_,?_,?_⟩
    ·have h:=r3.slice Tryz.underlying23
     rw [show Tryz.prog.bytesOf 26=80 by kernel_rfl] at h
     have hs:=(hsp rfl).1
     unfold reachBytes at h
     simp at h
     omega
    ·intro b hb i hi
     cases hb
     exact(hf i (by simpa using hi)).2.1
    ·intro i hi
     exact(hf i (by simpa using hi)).1
    ·intro i x hx
     have hi:i<len:=by
      have:=(List.getElem?_eq_some_iff.1 hx).1
      simpa using this
     rw [List.getElem?_map,List.getElem?_range hi] at hx
     simp only [Option.map_some,Option.some.injEq] at hx
     subst hx
     exact(hf i hi).2.2
  subst hc3
  subst hc4
  exact⟨.mk k m s l ks,IsP.of ⟨bounds_i64 w0,bounds_i64 w1,r2,nl,nk,ll,lk,Nat.le_trans ll bl,Nat.le_trans lk bc,bq,hl,hv,hk,bt⟩ el⟩
end
open Go.ChangeShapes Go.WideShapes Go.ChangeAt Go.RowKit
set_option linter.unusedVariables false
set_option linter.unusedSimpArgs false
theorem cells1b:Tryz.prog.cellsOf 4=1:=by kernel_rfl
theorem cells1n:Tryz.prog.cellsOf 22=1:=by kernel_rfl
theorem cells10n:Tryz.prog.cellsOf 28=10:=by kernel_rfl
section
variable {H : Type} {enc : TypeId × Value → H} {W : World}
set_option maxRecDepth 100000 in
theorem open_nfields {fuel:Nat} {cs:List Value} {x:DataW H × List MemPlace} (h:DataW.trod enc Tryz.prog W 0 (fun _=>true) true fuel 28 cs=some x) :
  ∃(n:Nat) (c0 c1 c2 c3 c4 c5 c6 c7 c8 c9:Value) (y0 y1 y2 y3 y4 y5:DataW H × List MemPlace),fuel=n+1∧cs=[c0,c1,c2,c3,c4,c5,c6,c7,c8,c9]∧x.1=.agg [y0.1,y1.1,y2.1,y3.1,y4.1,y5.1] ∧
   DataW.trod enc Tryz.prog W 0 (fun _=>true) true n 3 [c0]=some y0∧DataW.trod enc Tryz.prog W 0 (fun _=>true) true n 9 [c1]=some y1∧DataW.trod enc Tryz.prog W 0 (fun _=>true) true n 26 [c2,c3,c4,c5,c6]=some y2∧DataW.trod enc Tryz.prog W 0 (fun _=>true) true n 4 [c7]=some y3∧DataW.trod enc Tryz.prog W 0 (fun _=>true) true n 22 [c8]=some y4∧DataW.trod enc Tryz.prog W 0 (fun _=>true) true n 3 [c9]=some y5:=by
 obtain⟨xs,n,rfl,rfl,hl,hlen,hf⟩:=DataW.trod_struct Tryz.underlying28 h
 rw [cells10n] at hl
 have hlen':xs.length=6:=hlen
 match cs,hl,xs,hlen' with
 |[c0,c1,c2,c3,c4,c5,c6,c7,c8,c9],_,[y0,y1,y2,y3,y4,y5],_=>
  have h0:DataW.trod enc Tryz.prog W 0 (fun _=>true) true n 3 (([c0,c1,c2,c3,c4,c5,c6,c7,c8,c9].drop 0).take (Tryz.prog.cellsOf 3))=some y0:=hf 0 _ rfl
  rw [cells1i] at h0
  have h1:DataW.trod enc Tryz.prog W 0 (fun _=>true) true n 9 (([c0,c1,c2,c3,c4,c5,c6,c7,c8,c9].drop 1).take (Tryz.prog.cellsOf 9))=some y1:=hf 1 _ rfl
  rw [cells1s] at h1
  have h2:DataW.trod enc Tryz.prog W 0 (fun _=>true) true n 26 (([c0,c1,c2,c3,c4,c5,c6,c7,c8,c9].drop 2).take (Tryz.prog.cellsOf 26))=some y2:=hf 2 _ rfl
  rw [cells5v] at h2
  have h3:DataW.trod enc Tryz.prog W 0 (fun _=>true) true n 4 (([c0,c1,c2,c3,c4,c5,c6,c7,c8,c9].drop 7).take (Tryz.prog.cellsOf 4))=some y3:=hf 3 _ rfl
  rw [cells1b] at h3
  have h4:DataW.trod enc Tryz.prog W 0 (fun _=>true) true n 22 (([c0,c1,c2,c3,c4,c5,c6,c7,c8,c9].drop 8).take (Tryz.prog.cellsOf 22))=some y4:=hf 4 _ rfl
  rw [cells1n] at h4
  have h5:DataW.trod enc Tryz.prog W 0 (fun _=>true) true n 3 (([c0,c1,c2,c3,c4,c5,c6,c7,c8,c9].drop 9).take (Tryz.prog.cellsOf 3))=some y5:=hf 5 _ rfl
  rw [cells1i] at h5
  exact⟨n,c0,c1,c2,c3,c4,c5,c6,c7,c8,c9,y0,y1,y2,y3,y4,y5,rfl,rfl,rfl,h0,h1,h2,h3,h4,h5⟩
set_option maxRecDepth 100000 in
theorem open_node:∀(fuel:Nat) (cs:List Value) (x:DataW H × List MemPlace),DataW.trod enc Tryz.prog W 0 (fun _=>true) true fuel 28 cs=some x→Go.Proofs.YtekbmfppfjlboaaGreatDoor.Reach Tryz.prog 28 x.1→∃y,IsN W (fun b=>b<W.heap.size) y cs:=by
 intro fuel
 induction fuel using Nat.strongRecOn with
 |ind fuel ih=>
  intro cs x h hre
  obtain⟨n,c0,c1,c2,c3,c4,c5,c6,c7,c8,c9,y0,y1,y2,y3,y4,y5,rfl,rfl,hx,h0,h1,h2,h3,h4,h5⟩:=open_nfields h
  rw [hx] at hre
  obtain⟨k,e0,_,w0⟩:=DataW.trod_int Tryz.underlying3 h0
  obtain⟨p,e5,_,w5⟩:=DataW.trod_int Tryz.underlying3 h5
  obtain⟨s,e1,hy1,_⟩:=DataW.trod_string Tryz.underlying9 h1
  obtain⟨f,e3,_⟩:=DataW.trod_bool Tryz.underlying4 h3
  simp only [List.cons.injEq,and_true] at e0 e1 e3 e5
  subst e0
  subst e1
  subst e3
  subst e5
  have r1:s.size≤140737488351232:=by
   have:=hre.field (j:=1) (u:=9) (d:=y1.1) Tryz.underlying28 rfl rfl
   rw [hy1] at this
   exact reach_size this
  have r2:=hre.field (j:=2) (u:=26) (d:=y2.1) Tryz.underlying28 rfl rfl
  have r4:=hre.field (j:=4) (u:=22) (d:=y4.1) Tryz.underlying28 rfl rfl
  obtain⟨v,hv⟩:=open_value n _ _ h2 r2
  obtain⟨l,al,cl,V,hc8,nl,ll,bl,hl,hvl,el⟩:∃(l:List Tn) (al:Option Addr) (cl:Nat) (V:Nat→List Value),c8=.slice al l.length cl∧(al=none→l.length=0∧cl=0)∧l.length≤cl∧l.length≤140737488351232 ∧
    (∀a,al=some a→∀i,i<l.length→a.block<W.heap.size∧∀j v,(V i)[j]?=some v→W.cell? ((a.add (i * 10)).add j)=some v)∧(∀i,i<l.length→(V i).length=10)∧∀i x,l[i]?=some x→IsN W (fun b=>b<W.heap.size) x (V i):=by
   rcases DataW.trod_slice Tryz.underlying22 h4 with ⟨hcs,_⟩|⟨a,len,cap,elems,rest,n',hn',hcs,hx3,_,hlc,hcm,hlen,hel,hsp,_⟩
   ·simp only [List.cons.injEq,and_true] at hcs
    exact⟨[],none,0,fun _=>[],hcs,fun _=>⟨rfl,rfl⟩,Nat.le_refl _,by simp,(fun a h=>by cases h),(fun i h=>absurd h (by simp)),fun i x h=>by simp at h⟩
   ·simp only [List.cons.injEq,and_true] at hcs
    rw [hx3] at r4
    rw [cells10n] at hel
    have hall:∀i,i<len→∃p:List Value × Tn,p.1.length=10∧(a.block<W.heap.size∧∀j v,p.1[j]?=some v→W.cell? ((a.add (i * 10)).add j)=some v)∧IsN W (fun b=>b<W.heap.size) p.2 p.1:=by
     intro i hi
     have he:=hel i hi
     rw [List.getElem?_eq_getElem (by omega)] at he
     obtain⟨cs',hc1,hc2⟩:=Option.bind_eq_some_iff.1 he
     obtain⟨_,hl5,hcell⟩:=World.cells?_some hc1
     obtain⟨y,hy⟩:=ih n' (by omega) cs' _ hc2 (r4.elem Tryz.underlying22 (List.mem_map.2 ⟨_,List.getElem_mem _,rfl⟩))
     refine⟨(cs',y),hl5,⟨?_,fun j u hu=>?_⟩,hy⟩
     ·have h0:=hcell 0 (by omega)
      have:=World.block_lt_of_cell? W ((a.add (i * 10)).add 0) (by rw [h0,List.getElem?_eq_getElem (by omega)])
      rw [block_add,block_add] at this
      exact this
     ·have hj:j<10:=by
       have h5:j<cs'.length:=(List.getElem?_eq_some_iff.1 hu).1
       omega
      rw [hcell j hj]
      exact hu
    haveI:Inhabited (List Value × Tn):=⟨([],.mk 0 ⟨#[]⟩ (.mk 0 0 ⟨#[]⟩ [] []) false [] 0)⟩
    obtain⟨f,hf⟩:=Go.Deep.choose_lt hall
    refine⟨(List.range len).map (fun i=>(f i).2),some a,cap,fun i=>(f i).1,by simpa using hcs,(fun e=>by cases e),by simpa using hlc,?_,?_,?_,?_⟩
    ·have h:=r4.slice Tryz.underlying22
     rw [show Tryz.prog.bytesOf 28=144 by kernel_rfl] at h
     have hs:=(hsp rfl).1
     unfold reachBytes at h
     simp at h
     rw [List.length_map,List.length_range]
     omega
    ·intro b hb i hi
     cases hb
     exact(hf i (by simpa using hi)).2.1
    ·intro i hi
     exact(hf i (by simpa using hi)).1
    ·intro i x hx
     have hi:i<len:=by
      have:=(List.getElem?_eq_some_iff.1 hx).1
      simpa using this
     rw [List.getElem?_map,List.getElem?_range hi] at hx
     simp only [Option.map_some,Option.some.injEq] at hx
     subst hx
     exact(hf i hi).2.2
  subst hc8
  exact⟨⟨k,s,v,f,l,p⟩,[c2,c3,c4,c5,c6],al,cl,V,rfl,rfl,hv,⟨bounds_i64 w0,bounds_i64 w5,r1,nl,ll,bl,hl,hvl⟩,(IsNs_iff W _ _ _).2 el⟩
end
end Go.Proofs.YtekbmfppfjlboaaGreatDoor
