/-
  Layer 17 (parse): a tree is its owner's: scruplelaw17.spoil writes it over, and nothing else; conditions: the tree's blocks are one's alone.
  Layer 17 (parse): the walk of ParseReads; conditions: what the variables of strconv hold.
  What the listed package variables of the seat give the walks of lex; a world that has them; no conditions.
-/
import Derived.Test.YtilhlmmcdfoaoaaGreatDoorE19
import Derived.Test.YtilhlmmcdfoaoaaGreatDoorE49
import Derived.Test.YtilhlmmcdfoaoaaGreatDoorE02
import Derived.Test.YtilhlmmcdfoaoaaGreatDoorRows
import Derived.ProofKit
import Derived.LaidMore
import Derived.OpenShut
import Derived.Stop.Joined
import Derived.Stop.LaidErr
import Derived.Lib.LaidTab
set_option linter.unusedVariables false
set_option linter.unusedSimpArgs false
namespace Go.Proofs.YtilhlmmcdfoaoaaGreatDoor
open Go.RowKit
set_option linter.unusedVariables false
set_option linter.unusedSimpArgs false
structure Spo (w w':World) (S:List Nat):Prop where
 os:w'.os=w.os
 tape:w'.tape=w.tape
 output:w'.output=w.output
 size:w.heap.size≤w'.heap.size
 block:∀b,b<w.heap.size→b∉S→w'.heap[b]?=w.heap[b]?
theorem Spo.of {w w':World} (S:List Nat) (h:Below w.heap.size w w'):Spo w w' S:=⟨h.os,h.tape,h.output,h.size,fun b hb _=>h.block b hb⟩
theorem Spo.trans {w w1 w2:World} {S S':List Nat} (h1:Spo w w1 S) (h2:Spo w1 w2 S') (hs:∀b∈S',b<w.heap.size→b∈S):Spo w w2 S:=
 ⟨h2.os.trans h1.os,h2.tape.trans h1.tape,h2.output.trans h1.output,Nat.le_trans h1.size h2.size,fun b hb hn=>(h2.block b (Nat.lt_of_lt_of_le hb h1.size) (fun m=>hn (hs b m hb))).trans (h1.block b hb hn)⟩
theorem Spo.grown {w w1 w2:World} {S:List Nat} {x:Option Nat} (h1:Spo w w1 S) (h2:w1.grownBy w2 x) (hs:∀b,x=some b→b<w.heap.size→b∈S):Spo w w2 S:=
 ⟨h2.os.trans h1.os,h2.tape.trans h1.tape,h2.output.trans h1.output,Nat.le_trans h1.size h2.size,fun b hb hn=>(h2.block b (Nat.lt_of_lt_of_le hb h1.size) (fun e=>hn (hs b e.symm hb))).trans (h1.block b hb hn)⟩
theorem own_ten {w:World} {q n cap o:Nat} {D:List Value} (h:w.ownsRow 0 29 10 (.slice (some ⟨q,0,none⟩) n cap) n D) (v0 v1 v2 v3 v4 v5 v6 v7 v8 v9:Value) :
  ∃D',(((((((((((w.setCell ⟨q,o,none⟩ v0).setCell ⟨q,o+1,none⟩ v1).setCell ⟨q,o+2,none⟩ v2).setCell ⟨q,o+3,none⟩ v3).setCell ⟨q,o+4,none⟩ v4).setCell ⟨q,o+5,none⟩ v5).setCell ⟨q,o+6,none⟩ v6).setCell ⟨q,o+7,none⟩ v7).setCell ⟨q,o+8,none⟩ v8).setCell ⟨q,o+9,none⟩ v9)).ownsRow 0 29 10 (.slice (some ⟨q,0,none⟩) n cap) n D'∧D'.drop (o+10)=D.drop (o+10)∧w.grownBy (((((((((((w.setCell ⟨q,o,none⟩ v0).setCell ⟨q,o+1,none⟩ v1).setCell ⟨q,o+2,none⟩ v2).setCell ⟨q,o+3,none⟩ v3).setCell ⟨q,o+4,none⟩ v4).setCell ⟨q,o+5,none⟩ v5).setCell ⟨q,o+6,none⟩ v6).setCell ⟨q,o+7,none⟩ v7).setCell ⟨q,o+8,none⟩ v8).setCell ⟨q,o+9,none⟩ v9)) (some q):=by
 have gt:∀{a b c:World},a.grownBy b (some q)→b.grownBy c (some q)→a.grownBy c (some q):=fun h1 h2=>⟨h2.os.trans h1.os,h2.tape.trans h1.tape,h2.output.trans h1.output,Nat.le_trans h1.size h2.size,fun k hk hne=>(h2.block k (Nat.lt_of_lt_of_le hk h1.size) hne).trans (h1.block k hk hne)⟩
 have a0:=(h).stored o v0
 have a1:=(a0.1).stored (o+1) v1
 have a2:=(a1.1).stored (o+2) v2
 have a3:=(a2.1).stored (o+3) v3
 have a4:=(a3.1).stored (o+4) v4
 have a5:=(a4.1).stored (o+5) v5
 have a6:=(a5.1).stored (o+6) v6
 have a7:=(a6.1).stored (o+7) v7
 have a8:=(a7.1).stored (o+8) v8
 have a9:=(a8.1).stored (o+9) v9
 refine⟨_,a9.1,?_,(gt (gt (gt (gt (gt (gt (gt (gt (gt a0.2 a1.2) a2.2) a3.2) a4.2) a5.2) a6.2) a7.2) a8.2) a9.2)⟩
 iterate 10 rw [List.drop_set_of_lt (by omega)]
structure Sl (w u:World) (G:Nat) (cs:Array Value) (ak:Option Addr) (n ck:Nat) (S:List Nat) (rs:List Nd) (i:Nat) (D:List Value) (S':List Nat):Prop where
 sp:Spo w u S
 bx:u.heap[G]?=some (.cells cs 29 (0,0))
 own:u.ownsRow 0 29 10 (.slice ak n ck) n D
 nl:IsNL u rs (D.drop (i * 10)) S'
 sub:∀b∈S',b∈S
 nd:S'.Nodup
 ap:∀b,(Value.slice ak n ck).ownBlock=some b→b∉S'∧b∈S
theorem Sl.step {w u:World} {G:Nat} {cs:Array Value} {ak:Option Addr} {n ck:Nat} {S:List Nat} {y:Nd} {rs:List Nd} {i:Nat} {D:List Value} {S':List Nat} (h:Sl w u G cs ak n ck S (y :: rs) i D S') (hlt:∀b∈S,b<w.heap.size) (hG:w.heap.size=G) (hi:i<n) :
  ∃q aky cky Sy,ak=some ⟨q,0,none⟩∧IsNL u [y] (cN y aky cky) Sy∧Sy.Nodup∧(∀b∈Sy,b<u.heap.size)∧(∀j v,(cN y aky cky)[j]?=some v→u.cell? ⟨q,i * 10+j,none⟩=some v)∧n≤ck∧ck≤maxLen ∧
  ∀u2,Spo u u2 Sy→u2.heap[q]?=u.heap[q]?∧u2.heap[G]?=u.heap[G]?∧(∀j,u2.frozen? ⟨q,j,none⟩=false)∧∀(v0 v1 v2 v3 v4 v5 v6 v7 v8 v9:Value),∃D' T2,Sl w (((((((((((u2.setCell ⟨q,i * 10,none⟩ v0).setCell ⟨q,i * 10+1,none⟩ v1).setCell ⟨q,i * 10+2,none⟩ v2).setCell ⟨q,i * 10+3,none⟩ v3).setCell ⟨q,i * 10+4,none⟩ v4).setCell ⟨q,i * 10+5,none⟩ v5).setCell ⟨q,i * 10+6,none⟩ v6).setCell ⟨q,i * 10+7,none⟩ v7).setCell ⟨q,i * 10+8,none⟩ v8).setCell ⟨q,i * 10+9,none⟩ v9)) G cs ak n ck S rs (i+1) D' T2:=by
 have hnl:=h.nl
 obtain⟨yk,yt,yvk,yvn,yvs,yf,yks,yp⟩:=y
 simp only [IsNL] at hnl
 obtain⟨aky,cky,C',R,T1,T2,hC,hS,ho,h1,h2⟩:=hnl
 have hown:=h.own
 rcases hown.2 with ⟨_,e⟩|⟨q,cap,cur,e,hbb,hcur,hc1,hc2,rest⟩
 ·omega
 injection e with e1 e2 e3
 subst e1 e3
 obtain⟨hq1,hq2⟩:=h.ap q rfl
 have hnd:=h.nd
 rw [hS] at hnd hq1
 have hsub:∀b∈blkO aky++(T1++T2),b∈S:=fun b hb=>h.sub b (by rw [hS];exact hb)
 have hnd2:((blkO aky++T1)++T2).Nodup:=by rw [List.append_assoc];exact hnd
 obtain⟨n1,n2,n3⟩:=List.nodup_append.1 hnd2
 have e4:∀b,b∈blkO aky++(T1++[])→b∈blkO aky++T1:=fun b hb=>by rw [List.append_nil] at hb;exact hb
 have hqn:∀b,b∈blkO aky++T1→b∈blkO aky++(T1++T2):=fun b hb=>by rw [←List.append_assoc];exact List.mem_append_left _ hb
 have hqt:∀b,b∈T2→b∈blkO aky++(T1++T2):=fun b hb=>by rw [←List.append_assoc];exact List.mem_append_right _ hb
 have hsz:=h.sp.size
 refine⟨q,aky,cky,blkO aky++(T1++[]),rfl,?_,by rw [List.append_nil];exact n1,fun b hb=>Nat.lt_of_lt_of_le (hlt b (hsub b (hqn b (e4 b hb)))) hsz,fun j v hj=>?_,hc1,hc2,fun u2 hu=>?_⟩
 ·simp only [IsNL]
  exact⟨aky,cky,C',[],T1,[],by simp [cN],by simp,ho,h1,rfl,rfl⟩
 ·have hj10:j<10:=by
   have:=(List.getElem?_eq_some_iff.1 hj).1
   exact this
  rw [hown.cellAt _ (by omega),←List.getElem?_drop,hC,List.getElem?_append_left (by exact hj10)]
  exact hj
 ·have hqb:=hu.block q (Nat.lt_of_lt_of_le (hlt q hq2) hsz) (fun m=>hq1 (hqn q (e4 q m)))
  have hGb:=hu.block G (Array.getElem?_eq_some_iff.1 h.bx).1 (fun m=>by have:=hlt G (hsub G (hqn G (e4 G m)));omega)
  have own2:u2.ownsRow 0 29 10 (.slice (some ⟨q,0,none⟩) n ck) n D:=own_at hown (fun b hb=>by cases hb;exact hqb)
  refine⟨hqb,hGb,fun j=>own2.frozenAt j,fun v0 v1 v2 v3 v4 v5 v6 v7 v8 v9=>?_⟩
  obtain⟨D',o3,d3,g3⟩:=own_ten (o:=i * 10) own2 v0 v1 v2 v3 v4 v5 v6 v7 v8 v9
  have hGq:G≠q:=by have:=hlt q hq2;omega
  refine⟨D',T2,(h.sp.trans hu (fun b hb _=>hsub b (hqn b (e4 b hb)))).grown g3 (fun b e _=>by cases e;exact hq2),?_,o3,?_,fun b hb=>hsub b (hqt b hb),n2,fun b hb=>by cases hb;exact⟨fun m=>hq1 (hqt q m),hq2⟩⟩
  ·exact(g3.block G (Nat.lt_of_lt_of_le (Array.getElem?_eq_some_iff.1 h.bx).1 hu.size) (fun e=>hGq (Option.some.inj e))).trans (hGb.trans h.bx)
  ·have e5:D'.drop ((i+1) * 10)=R:=by
    rw [show (i+1) * 10=i * 10+10 by omega,d3,←List.drop_drop,hC]
    rfl
   rw [e5]
   refine IsNL.to rs R T2 h2 (fun b hb=>?_)
   have hbu:b<u.heap.size:=Nat.lt_of_lt_of_le (hlt b (hsub b (hqt b hb))) hsz
   exact(g3.block b (Nat.lt_of_lt_of_le hbu hu.size) (fun e=>by cases e;exact hq1 (hqt q hb))).trans (hu.block b hbu (fun m=>n3 b (e4 b m) b hb rfl))
def SpAt (m:Nat):Prop:=∀(x:Nd) (ak:Option Addr) (ck:Nat) (S:List Nat) (w:World),szL [x]≤m→szL [x]≤900000→IsNL w [x] (cN x ak ck) S→S.Nodup→(∀b∈S,b<w.heap.size) →
  Calls Tryz.prog 8 #[.agg (cN x ak ck).toArray] w fun e w'=>e=.returned (.tuple #[])∧Spo w w' S
theorem three_one:∀u∈(#[.int .i64 (-2),.string ⟨#[]⟩,.int .i64 0,.int .i64 0,.string ⟨#[]⟩,.slice none 0 0,.slice none 0 0,.bool false,.slice none 0 0,.int .i64 0,.int .i64 (-2),.string ⟨#[]⟩,.int .i64 0,.int .i64 0,.string ⟨#[]⟩,.slice none 0 0,.slice none 0 0,.bool false,.slice none 0 0,.int .i64 0,.int .i64 (-2),.string ⟨#[]⟩,.int .i64 0,.int .i64 0,.string ⟨#[]⟩,.slice none 0 0,.slice none 0 0,.bool false,.slice none 0 0,.int .i64 0]:Array Value).toList,u.oneCell'=true:=by decide
set_option maxRecDepth 100000 in
set_option maxHeartbeats 4000000 in
theorem spoil_step (b:Nat) (ih:SpAt b) (k:Nat) (t:List UInt8) (vk vn:Nat) (vs:List UInt8) (f:Bool) (ks:List Nd) (p:Nat) (ak:Option Addr) (ck:Nat) (S:List Nat) (w:World) (hb:szL ks≤b) (hb9:szL ks≤900000) (hx:IsNL w [⟨k,t,vk,vn,vs,f,ks,p⟩] (cN ⟨k,t,vk,vn,vs,f,ks,p⟩ ak ck) S) (hnd:S.Nodup) (hlt:∀b∈S,b<w.heap.size) :
  Calls Tryz.prog 8 #[.agg (cN ⟨k,t,vk,vn,vs,f,ks,p⟩ ak ck).toArray] w fun e w'=>e=.returned (.tuple #[])∧Spo w w' S:=by
 obtain⟨n,hn⟩:∃m,ks.length=m:=⟨_,rfl⟩
 have hn9:n≤900000:=by have:=szL_len ks;omega
 have e1:(cN ⟨k,t,vk,vn,vs,f,ks,p⟩ ak ck).toArray=#[.int .i64 (k:Int),.string (bA t),.int .i64 (vk:Int),.int .i64 (vn:Int),.string (bA vs),.slice none 0 0,.slice none 0 0,.bool f,.slice ak n ck,.int .i64 (p:Int)]:=by rw [←hn];rfl
 rw [e1]
 simp only [IsNL,cN] at hx
 obtain⟨ak1,ck1,C',R,S1,S2,hC,hS,ho,h1,h2,h3⟩:=hx
 subst h2 h3
 simp only [ndC,List.append_nil,List.cons.injEq,Value.int.injEq,Value.string.injEq,Value.slice.injEq,Value.bool.injEq,true_and,and_true] at hC
 obtain⟨rfl,rfl⟩:=hC
 rw [List.append_nil] at hS
 rw [hn] at ho
 obtain⟨w1,hw1⟩:∃w1,w.alloc (.cells #[.int .i64 (k:Int),.string (bA t),.int .i64 (vk:Int),.int .i64 (vn:Int),.string (bA vs),.slice none 0 0,.slice none 0 0,.bool f,.slice ak n ck,.int .i64 (p:Int)] 29)=w1:=⟨_,rfl⟩
 have bel:Below w.heap.size w w1:=by rw [←hw1];exact(Below.refl _ _).alloc (Nat.le_refl _) _
 obtain⟨G,hG⟩:∃G,w.heap.size=G:=⟨_,rfl⟩
 have A1:w1.heap[G]?=some (.cells #[.int .i64 (k:Int),.string (bA t),.int .i64 (vk:Int),.int .i64 (vn:Int),.string (bA vs),.slice none 0 0,.slice none 0 0,.bool f,.slice ak n ck,.int .i64 (p:Int)] 29 (0,0)):=by rw [←hw1,←hG];exact heap_alloc_new _ _
 have hS1:∀b∈S1,b∈S:=fun b hb=>by rw [hS];exact List.mem_append_right _ hb
 have hSk:∀b,(Value.slice ak n ck).ownBlock=some b→b∈S:=fun b hb=>by rw [hS];exact List.mem_append_left _ (own_mem ho b hb)
 have L0:Sl w w1 G #[.int .i64 (k:Int),.string (bA t),.int .i64 (vk:Int),.int .i64 (vn:Int),.string (bA vs),.slice none 0 0,.slice none 0 0,.bool f,.slice ak n ck,.int .i64 (p:Int)] ak n ck S ks 0 C' S1:=by
  rw [hS] at hnd
  obtain⟨m1,m2,m3⟩:=List.nodup_append.1 hnd
  refine⟨Spo.of S bel,A1,own_at ho (fun b hb=>bel.block b (hlt b (hSk b hb))),?_,hS1,m2,fun b hb=>⟨fun m=>m3 b (own_mem ho b hb) b m rfl,hSk b hb⟩⟩
  simpa using IsNL.to ks C' S1 h1 (fun b hb=>bel.block b (hlt b (hS1 b hb)))
 have HL:=hZ L0
 have HN:=hZ (And.intro hn (And.intro hb (And.intro hb9 hlt)))
 have HW:=hZ hw1
 clear e1 ho h1 hS A1 bel hS1 hSk L0 hn hb hb9 hlt hnd hw1
 go_enter Tryz.func8,Tryz.ntmps8
 go_upto_region 1 with fail
 rw [uZ HW]
 try rw [hG]
 clear HW
 go_wp2_with fail
 go_loopw [2] (fun x wr=>∃(i:Nat),x=.int .i64 (i:Int)∧i≤n∧Hid (∃D S',Sl w wr G #[.int .i64 (k:Int),.string (bA t),.int .i64 (vk:Int),.int .i64 (vn:Int),.string (bA vs),.slice none 0 0,.slice none 0 0,.bool f,.slice ak n ck,.int .i64 (p:Int)] ak n ck S (ks.drop i) i D S')) (fun x _=>n - (intOf x).toNat)
 case atStart=>exact⟨0,rfl,Nat.zero_le _,hZ ⟨C',S1,uZ HL⟩⟩
 case round=>
  clear HL
  obtain⟨i,rfl,hin,HX⟩:=hrel
  obtain⟨wq,hwq⟩:∃wq,wq=wr:=⟨_,rfl⟩
  subst hwq
  obtain⟨hn,hb,hb9,hlt⟩:=uZ HN
  obtain⟨D,S',hsl⟩:=uZ HX
  obtain⟨_,_,_,_,_,_,_,_,c8,_⟩:=row_cell10 hsl.bx
  by_cases hi:i<n
  ·have i2:(i:Int)<(n:Int):=by omega
   have hk:i<ks.length:=by omega
   obtain⟨y,hy⟩:∃y,ks[i]?=some y:=⟨_,List.getElem?_eq_getElem hk⟩
   have hdr:ks.drop i=y :: ks.drop (i+1):=by
    rw [List.drop_eq_getElem_cons hk]
    rw [List.getElem?_eq_getElem hk] at hy
    cases hy
    rfl
   rw [hdr] at hsl
   have hsz:=szL_at ks i y hy
   obtain⟨q,aky,cky,Sy,rfl,ny,ndy,lty,hcell,hnc,hcm,hst⟩:=hsl.step hlt hG hi
   have CK:=hZ (ih y aky cky Sy wq (by omega) (by omega) ny ndy lty)
   have HS:=hZ hst
   obtain⟨yk,yt,yvk,yvn,yvs,yf,yks,yp⟩:=y
   obtain⟨yn,hyn⟩:∃m,yks.length=m:=⟨_,rfl⟩
   simp only [cN,ndC,hyn] at hcell CK
   obtain⟨o,ho⟩:∃o,i * 10=o:=⟨_,rfl⟩
   have r1:=add_row q (i * 10)
   rw [ho] at r1 hcell HS
   have x0:wq.cell? ⟨q,o,none⟩=some (.int .i64 (yk:Int)):=hcell 0 _ rfl
   have x1:=hcell 1 _ rfl
   have x2:=hcell 2 _ rfl
   have x3:=hcell 3 _ rfl
   have x4:=hcell 4 _ rfl
   have x5:=hcell 5 _ rfl
   have x6:=hcell 6 _ rfl
   have x7:=hcell 7 _ rfl
   have x8:=hcell 8 _ rfl
   have x9:=hcell 9 _ rfl
   have HC:=hZ hcell
   clear hsl hsz hst hcell ny ndy lty hy hdr hyn hn hb hb9 hlt
   have j0:(0:Int)≤(i:Int):=by omega
   go_wp2_with fail
   refine(uZ CK).mono ?_
   rintro e w2 ⟨rfl,sp2⟩
   obtain⟨q1,q2,q3,q4⟩:=uZ HS w2 sp2
   have d8:w2.cell? ⟨G,8,none⟩=some (.slice (some ⟨q,0,none⟩) n ck):=(World.cell?_of_block q2).trans c8
   have d_0:=(World.cell?_of_block q1).trans x0
   have f_0:=q3 o
   have d_1:=(World.cell?_of_block q1).trans x1
   have f_1:=q3 (o+1)
   have d_2:=(World.cell?_of_block q1).trans x2
   have f_2:=q3 (o+2)
   have d_3:=(World.cell?_of_block q1).trans x3
   have f_3:=q3 (o+3)
   have d_4:=(World.cell?_of_block q1).trans x4
   have f_4:=q3 (o+4)
   have d_5:=(World.cell?_of_block q1).trans x5
   have f_5:=q3 (o+5)
   have d_6:=(World.cell?_of_block q1).trans x6
   have f_6:=q3 (o+6)
   have d_7:=(World.cell?_of_block q1).trans x7
   have f_7:=q3 (o+7)
   have d_8:=(World.cell?_of_block q1).trans x8
   have f_8:=q3 (o+8)
   have d_9:=(World.cell?_of_block q1).trans x9
   have f_9:=q3 (o+9)
   obtain⟨D',T2,hsl3⟩:=q4 (.int .i64 (-1)) (.string ⟨#[109,105,110,101]⟩) (.int .i64 0) (.int .i64 0) (.string ⟨#[]⟩) (.slice none 0 0) (.slice none 0 0) (.bool false) (.slice none 0 0) (.int .i64 0)
   obtain⟨w3,hw3⟩:∃w3,((((((((((w2.setCell ⟨q,o,none⟩ (.int .i64 (-1))).setCell ⟨q,o+1,none⟩ (.string ⟨#[109,105,110,101]⟩)).setCell ⟨q,o+2,none⟩ (.int .i64 0)).setCell ⟨q,o+3,none⟩ (.int .i64 0)).setCell ⟨q,o+4,none⟩ (.string ⟨#[]⟩)).setCell ⟨q,o+5,none⟩ (.slice none 0 0)).setCell ⟨q,o+6,none⟩ (.slice none 0 0)).setCell ⟨q,o+7,none⟩ (.bool false)).setCell ⟨q,o+8,none⟩ (.slice none 0 0)).setCell ⟨q,o+9,none⟩ (.int .i64 0))=w3:=⟨_,rfl⟩
   rw [hw3] at hsl3
   have HZ:=hZ hsl3
   have HW3:=hZ hw3
   clear hsl3 hw3 q1 q2 q3 q4 sp2 x0 x1 x2 x3 x4 x5 x6 x7 x8 x9 c8 CK HS HC
   go_wp2_with fail
   rw [uZ HW3]
   go_roundw
   case rel=>exact⟨i+1,by go_num,by omega,hZ ⟨D',T2,uZ HZ⟩⟩
   case measure=>simp [intOf];omega
  ·have i2:¬(i:Int)<(n:Int):=by omega
   have hs1:=hsl.sp
   obtain⟨w4,hw4⟩:∃w4,wq.alloc (.cells #[.int .i64 (-2),.string ⟨#[]⟩,.int .i64 0,.int .i64 0,.string ⟨#[]⟩,.slice none 0 0,.slice none 0 0,.bool false,.slice none 0 0,.int .i64 0,.int .i64 (-2),.string ⟨#[]⟩,.int .i64 0,.int .i64 0,.string ⟨#[]⟩,.slice none 0 0,.slice none 0 0,.bool false,.slice none 0 0,.int .i64 0,.int .i64 (-2),.string ⟨#[]⟩,.int .i64 0,.int .i64 0,.string ⟨#[]⟩,.slice none 0 0,.slice none 0 0,.bool false,.slice none 0 0,.int .i64 0] 29)=w4:=⟨_,rfl⟩
   have b4:Below wq.heap.size wq w4:=by rw [←hw4];exact(Below.refl _ _).alloc (Nat.le_refl _) _
   obtain⟨hx,hhx⟩:∃z,wq.heap.size=z:=⟨_,rfl⟩
   have at4:Hid (w4.heap[hx]?=some (.cells #[.int .i64 (-2),.string ⟨#[]⟩,.int .i64 0,.int .i64 0,.string ⟨#[]⟩,.slice none 0 0,.slice none 0 0,.bool false,.slice none 0 0,.int .i64 0,.int .i64 (-2),.string ⟨#[]⟩,.int .i64 0,.int .i64 0,.string ⟨#[]⟩,.slice none 0 0,.slice none 0 0,.bool false,.slice none 0 0,.int .i64 0,.int .i64 (-2),.string ⟨#[]⟩,.int .i64 0,.int .i64 0,.string ⟨#[]⟩,.slice none 0 0,.slice none 0 0,.bool false,.slice none 0 0,.int .i64 0] 29 (0,0))):=hZ (by rw [←hw4,←hhx];exact heap_alloc_new _ _)
   have own4:=hZ (own_at hsl.own (fun b hb=>b4.block b (hsl.own.lt b hb).2))
   have S4:=hZ (hs1.trans (Spo.of [] b4) (fun b hb=>by cases hb))
   have HAP:=hZ hsl.ap
   have tokA:True:=trivial
   have HW4:=hZ hw4
   clear hsl hs1 b4 hlt hn hb hb9 hw4
   go_upto_region 7 with (first|(rw [uZ HW4];clear HW4;try rw [hhx])|(at_builtin;have _t:=tokA;refine wpl_appM 3 rfl (.tmp 23) (.tmp 27) rfl 0 (.slice ak n ck) n _ rfl (uZ own4) hx #[.int .i64 (-2),.string ⟨#[]⟩,.int .i64 0,.int .i64 0,.string ⟨#[]⟩,.slice none 0 0,.slice none 0 0,.bool false,.slice none 0 0,.int .i64 0,.int .i64 (-2),.string ⟨#[]⟩,.int .i64 0,.int .i64 0,.string ⟨#[]⟩,.slice none 0 0,.slice none 0 0,.bool false,.slice none 0 0,.int .i64 0,.int .i64 (-2),.string ⟨#[]⟩,.int .i64 0,.int .i64 0,.string ⟨#[]⟩,.slice none 0 0,.slice none 0 0,.bool false,.slice none 0 0,.int .i64 0] rfl (uZ at4) rfl three_one (by decide) (by omega) (Nat.zero_le _) ?_;clear tokA;intro g5 cap5 w5 H5))
   obtain⟨o5,gr5,a5⟩:=uZ H5
   have S5:=(uZ S4).grown gr5 (fun b e _=>((uZ HAP) b e).2)
   have hg5:∀b,some g5=some b→b<w.heap.size→b∈S:=fun b e hb=>by
    cases e
    rcases a5 with e|e
    ·exact((uZ HAP) _ e).2
    ·have:=(uZ S4).size
     omega
   obtain⟨D',o6,d6,g6⟩:=own_ten (o:=0) o5 (.int .i64 (-3)) (.string ⟨#[]⟩) (.int .i64 0) (.int .i64 0) (.string ⟨#[]⟩) (.slice none 0 0) (.slice none 0 0) (.bool false) (.slice none 0 0) (.int .i64 0)
   have S6:=hZ (S5.grown g6 hg5)
   obtain⟨z0,k0⟩:∃v,w5.cell? ⟨g5,0,none⟩=some v:=by rw [o5.cellAt 0 (by omega)];exact⟨_,List.getElem?_eq_getElem (by have:=o5.1;omega)⟩
   obtain⟨z1,k1⟩:∃v,w5.cell? ⟨g5,1,none⟩=some v:=by rw [o5.cellAt 1 (by omega)];exact⟨_,List.getElem?_eq_getElem (by have:=o5.1;omega)⟩
   obtain⟨z2,k2⟩:∃v,w5.cell? ⟨g5,2,none⟩=some v:=by rw [o5.cellAt 2 (by omega)];exact⟨_,List.getElem?_eq_getElem (by have:=o5.1;omega)⟩
   obtain⟨z3,k3⟩:∃v,w5.cell? ⟨g5,3,none⟩=some v:=by rw [o5.cellAt 3 (by omega)];exact⟨_,List.getElem?_eq_getElem (by have:=o5.1;omega)⟩
   obtain⟨z4,k4⟩:∃v,w5.cell? ⟨g5,4,none⟩=some v:=by rw [o5.cellAt 4 (by omega)];exact⟨_,List.getElem?_eq_getElem (by have:=o5.1;omega)⟩
   obtain⟨z5,k5⟩:∃v,w5.cell? ⟨g5,5,none⟩=some v:=by rw [o5.cellAt 5 (by omega)];exact⟨_,List.getElem?_eq_getElem (by have:=o5.1;omega)⟩
   obtain⟨z6,k6⟩:∃v,w5.cell? ⟨g5,6,none⟩=some v:=by rw [o5.cellAt 6 (by omega)];exact⟨_,List.getElem?_eq_getElem (by have:=o5.1;omega)⟩
   obtain⟨z7,k7⟩:∃v,w5.cell? ⟨g5,7,none⟩=some v:=by rw [o5.cellAt 7 (by omega)];exact⟨_,List.getElem?_eq_getElem (by have:=o5.1;omega)⟩
   obtain⟨z8,k8⟩:∃v,w5.cell? ⟨g5,8,none⟩=some v:=by rw [o5.cellAt 8 (by omega)];exact⟨_,List.getElem?_eq_getElem (by have:=o5.1;omega)⟩
   obtain⟨z9,k9⟩:∃v,w5.cell? ⟨g5,9,none⟩=some v:=by rw [o5.cellAt 9 (by omega)];exact⟨_,List.getElem?_eq_getElem (by have:=o5.1;omega)⟩
   have y0:=o5.frozenAt 0
   have y1:=o5.frozenAt 1
   have y2:=o5.frozenAt 2
   have y3:=o5.frozenAt 3
   have y4:=o5.frozenAt 4
   have y5:=o5.frozenAt 5
   have y6:=o5.frozenAt 6
   have y7:=o5.frozenAt 7
   have y8:=o5.frozenAt 8
   have y9:=o5.frozenAt 9
   clear o5 gr5 a5 S5 hg5 o6 d6 g6 H5 S4 HAP own4 at4
   go_wp2_with fail
   go_end0
   exact⟨rfl,by simpa using uZ S6⟩
theorem spoil_any:∀m,SpAt m
 |0=>fun x ak ck S w h=>by obtain⟨k,t,vk,vn,vs,f,ks,p⟩:=x;simp only [szL] at h;omega
 |b+1=>fun x ak ck S w h h9 hx hnd hlt=>by
  obtain⟨k,t,vk,vn,vs,f,ks,p⟩:=x
  simp only [szL] at h h9
  exact spoil_step b (spoil_any b) k t vk vn vs f ks p ak ck S w (by omega) (by omega) hx hnd hlt
def ndOf (r:Rs (List Nd)):Nd:=match r with
 |.ok (x :: _,l)=>if (hdT l).k=0 then x else ndz
 |_=>ndz
theorem TrR.nd {w:World} {r:Rs (List Nd)} {e:Ending} {w':World} (h:TrR w r e w') (hle:w.heap.size≤w'.heap.size) {E P:Nat} (hr:erOf r=(E,P)) :
  ∃ak ck S,e=.returned (.tuple #[.agg (cN (ndOf r) ak ck).toArray,.int .i64 (P:Int),.int .i64 (E:Int)])∧NdOk w.heap.size w' [ndOf r] (cN (ndOf r) ak ck) S:=by
 obtain⟨k,t,vk,vn,vs,f,n,ak,ck,p,pl,er,S,rfl,h⟩:=h
 replace h:=uZ h
 have hz:NdOk w.heap.size w' [ndz] (cN ndz none 0) []:=NdOk.leaf hle 0 [] 0 0 [] false 0
 match r,h,hr with
 |.error (a,q),h,hr=>
  obtain⟨⟨rfl,rfl,rfl,rfl,rfl,rfl,rfl,rfl,rfl,rfl⟩,rfl,rfl⟩:=h
  cases hr
  exact⟨none,0,[],rfl,hz⟩
 |.ok (ns,l),h,hr=>
  unfold erOf at hr
  by_cases hk:(hdT l).k=0
  ·simp only [hk,if_true] at hr
   cases hr
   obtain⟨rfl,rfl,h1,h2⟩:=h.1 hk
   obtain⟨⟨k',t',vk',vn',vs',f',ks',p'⟩,rfl⟩:=List.length_eq_one_iff.1 h1
   obtain⟨rfl,rfl,rfl,rfl,rfl,rfl,rfl,rfl⟩:=one_of h2
   have e1:ndOf (.ok ([⟨k,t,vk,vn,vs,f,ks',p⟩],l))=⟨k,t,vk,vn,vs,f,ks',p⟩:=by unfold ndOf;simp only [hk,if_true]
   rw [e1]
   exact⟨ak,ck,S,rfl,h2⟩
  ·simp only [hk,if_false] at hr
   cases hr
   obtain⟨⟨rfl,rfl,rfl,rfl,rfl,rfl,rfl,rfl,rfl,rfl⟩,rfl,rfl⟩:=h.2 hk
   have e1:ndOf (.ok (ns,l))=ndz:=by
    unfold ndOf
    split
    ·rename_i e
     cases e
     rw [if_neg hk]
    ·rfl
   rw [e1]
   exact⟨none,0,[],rfl,hz⟩
theorem nd_sz {s:List UInt8} {r:Rs (List Nd)} (h:PgOf 27 s r):szL [ndOf r]≤900000:=by
 have hz:szL [ndz]≤900000:=by simp [ndz,szL]
 rcases h with ⟨p,er,_,rfl⟩|⟨ts,f,h1,h2⟩
 ·exact hz
 ·match r,h2 with
  |.error e,_=>exact hz
  |.ok (ns,l),h2=>
   cases f with
   |zero=>cases h2
   |succ f=>
    replace h2:bnd (PJ f 14 0 [] ts 0) (fun ks l1=>okN [nd0 1 [] ks 0] l1)=some (.ok (ns,l)):=h2
    obtain⟨ks,l1,h3,h4⟩:=bndE h2
    obtain⟨rfl,rfl⟩:=okE h4
    have h5:=PJ_sz f 14 0 [] ts 0 ks l1 ⟨by decide,by omega⟩ h3
    have h6:=(all_fin h1).1
    have e1:ndOf (.ok ([nd0 1 [] ks 0],l1))=if (hdT l1).k=0 then nd0 1 [] ks 0 else ndz:=rfl
    rw [e1]
    split
    ·simp only [nd0,szL,twoJ,reduceIte,Nat.reduceEqDiff] at h5 ⊢
     omega
    ·exact hz
theorem NdS.apart {u u':World} {ks:List Nd} {C:List Value} {S S2:List Nat} (h:NdS u ks C S2) (hs:Spo u u' S) (hd:∀b∈S2,b∉S):NdS u' ks C S2:=
 ⟨IsNL.to ks C S2 h.nl (fun b hb=>hs.block b (h.lt b hb) (hd b hb)),fun b hb=>Nat.lt_of_lt_of_le (h.lt b hb) hs.size⟩
set_option maxRecDepth 100000 in
set_option maxHeartbeats 2000000 in
theorem reads_walk (s:ByteArray) (w:World) (he:Ev w) (hw6:5<w.heap.size) :
  Calls Tryz.prog 3 #[.string s] w fun e w'=>e=.returned (.bool true)∧Below w.heap.size w w':=by
 obtain⟨r,hr,hD⟩:=both_any s
 have hsz:=nd_sz hr
 obtain⟨⟨E,P⟩,hx⟩:∃x,erOf r=x:=⟨_,rfl⟩
 obtain⟨⟨k,t,vk,vn,vs,f,ks,p⟩,hnd⟩:∃x,ndOf r=x:=⟨_,rfl⟩
 obtain⟨n,hn⟩:∃n,ks.length=n:=⟨_,rfl⟩
 have CS:=hZ (shown_any w he hw6)
 have CE:Hid (∀u,Below w.heap.size w u→Calls Tryz.prog 5 #[.string s] u fun e w'=>∃(ak:Option Addr) (ck:Nat) (S:List Nat),e=.returned (.tuple #[.agg #[.int .i64 (k:Int),.string (bA t),.int .i64 (vk:Int),.int .i64 (vn:Int),.string (bA vs),.slice none 0 0,.slice none 0 0,.bool f,.slice ak n ck,.int .i64 (p:Int)],.int .i64 (P:Int),.int .i64 (E:Int)])∧Hid (NdOk u.heap.size w' [⟨k,t,vk,vn,vs,f,ks,p⟩] (cN ⟨k,t,vk,vn,vs,f,ks,p⟩ ak ck) S)∧Below u.heap.size u w'):=hZ (fun u hu=>(program_any s u (he.below hu hw6) (Nat.lt_of_lt_of_le hw6 hu.size) hr).mono (fun e w' h=>by
  obtain⟨ak,ck,S,e1,h2⟩:=h.1.nd h.2.size hx
  rw [hnd] at e1 h2
  refine⟨ak,ck,S,?_,hZ h2,h.2⟩
  rw [←hn]
  exact e1))
 have CD:Hid (∀u,Calls Tryz.prog 6 #[.string s] u fun e w'=>∃(ak:Option Addr) (ck:Nat) (S:List Nat),e=.returned (.tuple #[.agg #[.int .i64 (k:Int),.string (bA t),.int .i64 (vk:Int),.int .i64 (vn:Int),.string (bA vs),.slice none 0 0,.slice none 0 0,.bool f,.slice ak n ck,.int .i64 (p:Int)],.int .i64 (P:Int),.int .i64 (E:Int)])∧Hid (NdOk u.heap.size w' [⟨k,t,vk,vn,vs,f,ks,p⟩] (cN ⟨k,t,vk,vn,vs,f,ks,p⟩ ak ck) S)∧Below u.heap.size u w'):=hZ (fun u=>(hD u).mono (fun e w' h=>by
  obtain⟨ak,ck,S,e1,h2⟩:=h.1.nd h.2.size hx
  rw [hnd] at e1 h2
  refine⟨ak,ck,S,?_,hZ h2,h.2⟩
  rw [←hn]
  exact e1))
 rw [hnd] at hsz
 have HN:=hZ (And.intro hn hsz)
 have q1:((P:Int) == (P:Int))=true:=beq_self_eq_true _
 have q2:((E:Int) == (E:Int))=true:=beq_self_eq_true _
 clear he hw6 hr hx hnd hn hD hsz
 go_enter Tryz.func3,Tryz.ntmps3
 go_wp2_with fail
 refine(uZ CS).mono ?_
 rintro e u1 ⟨rfl,b1⟩
 have B1:=hZ b1
 clear b1 CS
 go_wp2_with fail
 refine((uZ CE) u1 (uZ B1)).mono ?_
 rintro e u2 ⟨ak,ck,S,rfl,HS,b2⟩
 have B2:Hid (Below w.heap.size w u2):=hZ ((uZ B1).trans (b2.mono (uZ B1).size))
 clear b2
 obtain⟨Au3,Gu3⟩:=bx u2 #[.int .i64 (k:Int),.string (bA t),.int .i64 (vk:Int),.int .i64 (vn:Int),.string (bA vs),.slice none 0 0,.slice none 0 0,.bool f,.slice ak n ck,.int .i64 (p:Int)] 29
 obtain⟨u3,hu3⟩:∃u3,u2.alloc (.cells #[.int .i64 (k:Int),.string (bA t),.int .i64 (vk:Int),.int .i64 (vn:Int),.string (bA vs),.slice none 0 0,.slice none 0 0,.bool f,.slice ak n ck,.int .i64 (p:Int)] 29)=u3:=⟨_,rfl⟩
 rw [hu3] at Au3 Gu3
 have B3:Hid (Below w.heap.size w u3):=hZ ((uZ B2).trans (Gu3.mono (uZ B2).size))
 have Wu3:=hZ hu3
 have Xu3:=hZ (And.intro Au3 Gu3)
 have S3:=hZ ((uZ HS).s.later Gu3)
 clear Au3 Gu3 hu3
 go_upto_region 3 with fail
 rw [uZ Wu3]
 clear Wu3
 go_wp2_with fail
 refine((uZ CD) u3).mono ?_
 rintro e u4 ⟨bk,dk,S2,rfl,HM,b4⟩
 have B34:=hZ b4
 have S4:=hZ ((uZ S3).later b4)
 have B4:Hid (Below w.heap.size w u4):=hZ ((uZ B3).trans (b4.mono (uZ B3).size))
 clear b4 CD S3
 obtain⟨Au5,Gu5⟩:=bx u4 #[.int .i64 (k:Int),.string (bA t),.int .i64 (vk:Int),.int .i64 (vn:Int),.string (bA vs),.slice none 0 0,.slice none 0 0,.bool f,.slice bk n dk,.int .i64 (p:Int)] 29
 obtain⟨u5,hu5⟩:∃u5,u4.alloc (.cells #[.int .i64 (k:Int),.string (bA t),.int .i64 (vk:Int),.int .i64 (vn:Int),.string (bA vs),.slice none 0 0,.slice none 0 0,.bool f,.slice bk n dk,.int .i64 (p:Int)] 29)=u5:=⟨_,rfl⟩
 rw [hu5] at Au5 Gu5
 have B5:Hid (Below w.heap.size w u5):=hZ ((uZ B4).trans (Gu5.mono (uZ B4).size))
 have Wu5:=hZ hu5
 have Xu5:=hZ (And.intro Au5 Gu5)
 have S5:=hZ ((uZ S4).later Gu5)
 have M5:=hZ ((uZ HM).s.later Gu5)
 clear Au5 Gu5 hu5
 go_upto_region 4 with fail
 rw [uZ Wu5]
 clear Wu5
 have h23:u2.heap.size<u3.heap.size:=(Array.getElem?_eq_some_iff.1 (uZ Xu3).1).1
 have h34:=(uZ B34).size
 have hc3:u5.heap[u2.heap.size]?=u3.heap[u2.heap.size]?:=by rw [(uZ Xu5).2.block _ (by omega),(uZ B34).block _ h23]
 have N3:=hZ (hc3.trans (uZ Xu3).1)
 have N5:=hZ (uZ Xu5).1
 have H23:=hZ (And.intro h23 h34)
 obtain⟨x0,x1,x2,x3,x4,x5,x6,x7,x8,x9⟩:=row_cell10 (uZ N3)
 obtain⟨y0,y1,y2,y3,y4,y5,y6,y7,y8,y9⟩:=row_cell10 (uZ N5)
 have CM:Hid (Calls Tryz.prog 7 #[.agg #[.int .i64 (k:Int),.string (bA t),.int .i64 (vk:Int),.int .i64 (vn:Int),.string (bA vs),.slice none 0 0,.slice none 0 0,.bool f,.slice ak n ck,.int .i64 (p:Int)],.agg #[.int .i64 (k:Int),.string (bA t),.int .i64 (vk:Int),.int .i64 (vn:Int),.string (bA vs),.slice none 0 0,.slice none 0 0,.bool f,.slice bk n dk,.int .i64 (p:Int)],.bool true] u5 fun e w'=>e=.returned (.bool true)∧Below u5.heap.size u5 w'):=hZ (by
  have h:=same_any _ ⟨k,t,vk,vn,vs,f,ks,p⟩ ⟨k,t,vk,vn,vs,f,ks,p⟩ true ak bk ck dk S S2 u5 (Nat.le_refl _) (uZ S5) (uZ M5) ⟨rfl,rfl⟩
  simp only [cN,ndC,(uZ HN).1] at h
  exact h)
 clear h23 h34 hc3
 go_wp2_with fail
 refine(uZ CM).mono ?_
 rintro e u6 ⟨rfl,b6⟩
 have B6:Hid (Below w.heap.size w u6):=hZ ((uZ B5).trans (b6.mono (uZ B5).size))
 have S6:=hZ ((uZ S5).later b6)
 have M6:=hZ ((uZ M5).later b6)
 have e3:=hZ ((b6.block _ (Array.getElem?_eq_some_iff.1 (uZ N3)).1).trans (uZ N3))
 have e5:=hZ ((b6.block _ (Array.getElem?_eq_some_iff.1 (uZ N5)).1).trans (uZ N5))
 have H56:=hZ b6.size
 clear b6 CM x0 x1 x2 x3 x4 x5 x6 x7 x8 x9 y0 y1 y2 y3 y4 y5 y6 y7 y8 y9 S5 M5 N3 N5 B5
 obtain⟨x0,x1,x2,x3,x4,x5,x6,x7,x8,x9⟩:=row_cell10 (uZ e3)
 have CP:Hid (Calls Tryz.prog 8 #[.agg #[.int .i64 (k:Int),.string (bA t),.int .i64 (vk:Int),.int .i64 (vn:Int),.string (bA vs),.slice none 0 0,.slice none 0 0,.bool f,.slice ak n ck,.int .i64 (p:Int)]] u6 fun e w'=>e=.returned (.tuple #[])∧Spo u6 w' S):=hZ (by
  have h:=spoil_any _ ⟨k,t,vk,vn,vs,f,ks,p⟩ ak ck S u6 (Nat.le_refl _) (uZ HN).2 (uZ S6).nl (uZ HS).nd (uZ S6).lt
  simp only [cN,ndC,(uZ HN).1] at h
  exact h)
 go_wp2_with fail
 refine(uZ CP).mono ?_
 rintro e u7 ⟨rfl,sp⟩
 obtain⟨h23,h34⟩:=uZ H23
 have hlo:∀b∈S,u1.heap.size≤b∧b<u2.heap.size:=(uZ HS).rg
 have h56:=uZ H56
 have h45:u4.heap.size<u5.heap.size:=(Array.getElem?_eq_some_iff.1 (uZ Xu5).1).1
 have M7:=hZ ((uZ M6).apart sp (fun b hb hm=>by have h1:=((uZ HM).rg b hb).1;have h2:=(hlo b hm).2;omega))
 have e7:=hZ ((sp.block _ (Array.getElem?_eq_some_iff.1 (uZ e5)).1 (fun hm=>by have h2:=(hlo _ hm).2;omega)).trans (uZ e5))
 have B7:Hid (Below w.heap.size w u7):=hZ ((uZ B6).trans ⟨sp.os,sp.tape,sp.output,sp.size,fun b hb=>sp.block b (Nat.lt_of_lt_of_le hb (uZ B6).size) (fun hm=>by have h2:=(hlo b hm).1;have h3:=(uZ B1).size;omega)⟩)
 clear sp CP x0 x1 x2 x3 x4 x5 x6 x7 x8 x9 h23 h34 hlo h56 h45 e3 e5 M6 S6 B6
 go_wp2_with fail
 refine((uZ CE) u7 (uZ B7)).mono ?_
 rintro e u8 ⟨rk',sk,S8,rfl,H8,b8⟩
 have B8:Hid (Below w.heap.size w u8):=hZ ((uZ B7).trans (b8.mono (uZ B7).size))
 have M8:=hZ ((uZ M7).later b8)
 have e8:=hZ ((b8.block _ (Array.getElem?_eq_some_iff.1 (uZ e7)).1).trans (uZ e7))
 clear b8 CE e7 M7
 obtain⟨Au9,Gu9⟩:=bx u8 #[.int .i64 (k:Int),.string (bA t),.int .i64 (vk:Int),.int .i64 (vn:Int),.string (bA vs),.slice none 0 0,.slice none 0 0,.bool f,.slice rk' n sk,.int .i64 (p:Int)] 29
 obtain⟨u9,hu9⟩:∃u9,u8.alloc (.cells #[.int .i64 (k:Int),.string (bA t),.int .i64 (vk:Int),.int .i64 (vn:Int),.string (bA vs),.slice none 0 0,.slice none 0 0,.bool f,.slice rk' n sk,.int .i64 (p:Int)] 29)=u9:=⟨_,rfl⟩
 rw [hu9] at Au9 Gu9
 have B9:Hid (Below w.heap.size w u9):=hZ ((uZ B8).trans (Gu9.mono (uZ B8).size))
 have Wu9:=hZ hu9
 have Xu9:=hZ (And.intro Au9 Gu9)
 have T9:=hZ ((uZ H8).s.later Gu9)
 have M9:=hZ ((uZ M8).later Gu9)
 have e9:=hZ ((Gu9.block _ (Array.getElem?_eq_some_iff.1 (uZ e8)).1).trans (uZ e8))
 clear Au9 Gu9 hu9
 go_upto_region 7 with fail
 rw [uZ Wu9]
 clear Wu9
 obtain⟨x0,x1,x2,x3,x4,x5,x6,x7,x8,x9⟩:=row_cell10 (uZ Xu9).1
 obtain⟨y0,y1,y2,y3,y4,y5,y6,y7,y8,y9⟩:=row_cell10 (uZ e9)
 have CM:Hid (Calls Tryz.prog 7 #[.agg #[.int .i64 (k:Int),.string (bA t),.int .i64 (vk:Int),.int .i64 (vn:Int),.string (bA vs),.slice none 0 0,.slice none 0 0,.bool f,.slice rk' n sk,.int .i64 (p:Int)],.agg #[.int .i64 (k:Int),.string (bA t),.int .i64 (vk:Int),.int .i64 (vn:Int),.string (bA vs),.slice none 0 0,.slice none 0 0,.bool f,.slice bk n dk,.int .i64 (p:Int)],.bool true] u9 fun e w'=>e=.returned (.bool true)∧Below u9.heap.size u9 w'):=hZ (by
  have h:=same_any _ ⟨k,t,vk,vn,vs,f,ks,p⟩ ⟨k,t,vk,vn,vs,f,ks,p⟩ true rk' bk sk dk S8 S2 u9 (Nat.le_refl _) (uZ T9) (uZ M9) ⟨rfl,rfl⟩
  simp only [cN,ndC,(uZ HN).1] at h
  exact h)
 go_wp2_with fail
 refine(uZ CM).mono ?_
 rintro e u10 ⟨rfl,b10⟩
 have B10:Hid (Below w.heap.size w u10):=hZ ((uZ B9).trans (b10.mono (uZ B9).size))
 clear b10 CM x0 x1 x2 x3 x4 x5 x6 x7 x8 x9 y0 y1 y2 y3 y4 y5 y6 y7 y8 y9
 go_wp2_with fail
 go_ret
 exact⟨rfl,uZ B10⟩
open Go.ChangeShapes Go.WideShapes Go.ChangeAt Go.RowKit
theorem own:ownKnob Tryz.prog.godebug=none:=by kernel_rfl
theorem tPow:(Tryz.prog.globals[2]?).map (·.type)=some 122:=by kernel_rfl
theorem tab_pow:(Rows.laid_internal_strconv_uint64pow10:DataW Unit)=Lib.tabData .u64 Lib.pow10Tab:=by kernel_rfl
theorem gSyn:Tryz.prog.globalNamed "strconv.ErrSyntax"=some 0:=by kernel_rfl
theorem tSyn:(Tryz.prog.globals[0]?).map (·.type)=some 83:=by kernel_rfl
theorem gRng:Tryz.prog.globalNamed "strconv.ErrRange"=some 1:=by kernel_rfl
theorem tRng:(Tryz.prog.globals[1]?).map (·.type)=some 83:=by kernel_rfl
theorem gBits:Tryz.prog.globalNamed "math/bits.deBruijn64tab"=some 5:=by kernel_rfl
theorem cellsES:Tryz.prog.cellsOf 129=1:=by kernel_rfl
theorem cellsSt:Tryz.prog.cellsOf 9=1:=by kernel_rfl
theorem starES:"*"++"errors.errorString"="*errors.errorString":=by decide
theorem rowES (u:TypeId) (h:Tryz.prog.typeName? 3 u=some "*errors.errorString"):u=127:=
 typeName_ptr_named (nm:="errors.errorString") (by rw [starES];kernel_rfl) (by kernel_rfl) (by decide) u (by rw [starES];exact h)
def seatLaid:List (String × DataW Unit):=[("math/bits.deBruijn32tab",Rows.laid_math_bits_deBruijn32tab),("math/bits.deBruijn64tab",Rows.laid_math_bits_deBruijn64tab),("internal/strconv.uint64pow10",Rows.laid_internal_strconv_uint64pow10),("strconv.ErrRange",Rows.laid_strconv_ErrRange),("strconv.ErrSyntax",Rows.laid_strconv_ErrSyntax)]
theorem laid_tail {P:Program} {x:String × DataW Unit} {l:List (String × DataW Unit)} {w:World} (h:laidMet P (x :: l) w):laidMet P l w:=by
 obtain⟨ps,⟨g0,t0,cs0,f0,p0,q0,hg0,ht0,hv0,hd0,hl,hps⟩,hn,hf⟩:=h
 subst hps
 exact⟨q0,hl,(List.nodup_append.1 hn).2.1,fun b off hm=>hf b off (List.mem_append_right _ hm)⟩
theorem of_laid {W:World} (h:laidMetH Tryz.prog seatLaid W):Ev W∧5<W.heap.size:=by
 rw [MakeChecks.laidMetH_plain _ _ _ (by kernel_rfl)] at h
 have h1:=laid_tail h
 have h2:=laid_tail h1
 have h3:=laid_tail h2
 have h4:=laid_tail h3
 obtain⟨ar,sr,hvr,-,-,-⟩:=laid_sentinel h3 gRng tRng Tryz.underlying83 rowES Tryz.underlying127 Tryz.underlying129 rfl rfl Tryz.underlying9 cellsES cellsSt
 obtain⟨asy,ssy,hvs,-,-,-⟩:=laid_sentinel h4 gSyn tSyn Tryz.underlying83 rowES Tryz.underlying127 Tryz.underlying129 rfl rfl Tryz.underlying9 cellsES cellsSt
 obtain⟨ps,⟨g2,t2,cs2,f2,p2,q2,hg2,ht2,hv2,hd2,_,hq2⟩,_,_⟩:=h2
 obtain⟨ps1,⟨g1,t1,cs1,f1,p1,q1,hg1,ht1,hv1,hd1,_,hq1⟩,_,_⟩:=h1
 obtain rfl:=Option.some.inj (gPow.symm.trans hg2)
 obtain rfl:=Option.some.inj (tPow.symm.trans ht2)
 rw [tab_pow] at hd2
 have e2:=Lib.cells_of_tab Tryz.underlying122 Tryz.underlying76 (by kernel_rfl) (by kernel_rfl) hd2
 refine⟨⟨?_,⟨_,by have h0:=World.var?_cell gSyn hvs 0;simpa using h0,Or.inr ⟨_,_,rfl⟩⟩,⟨_,by have h0:=World.var?_cell gRng hvr 0;simpa using h0,Or.inr ⟨_,_,rfl⟩⟩⟩,?_⟩
 ·unfold Lib.TabIs
  rw [hv2,←e2]
 ·rcases Nat.lt_or_ge 5 W.heap.size with h|h
  ·exact h
  ·unfold World.var? at hv1
   rw [gBits] at hv1
   simp only [Option.bind_some] at hv1
   rw [Array.getElem?_eq_none h] at hv1
   cases hv1
theorem door_met (os:Os) (args:Array Value):laidMetH Tryz.prog seatLaid ((World.doorLaid Tryz.prog 400 os).forCall (fun _ _=>0) ⟨#[],args,[]⟩).memory:=
 laidMetH_of_parts3 (fuel:=8) (laidMet_of_run' 8 (by kernel_rfl) (by kernel_rfl)) (by kernel_rfl) (by kernel_rfl)
end Go.Proofs.YtilhlmmcdfoaoaaGreatDoor
