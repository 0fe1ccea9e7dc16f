/-
  the walk of the law's tree of a node that is small, or the node as it is: no conditions.
  the walk of the law's shown; conditions: the table of strconv.
  Conditions: where nodes are told of, they lie in memory.
-/
import Derived.Test.YtlkeaaopdnnceaaGreatDoorA47
import Derived.Test.YtlkeaaopdnnceaaGreatDoorA30
set_option linter.unusedVariables false
set_option linter.unusedSimpArgs false
set_option maxRecDepth 100000
set_option maxHeartbeats 8000000
namespace Go.Proofs.YtlkeaaopdnnceaaGreatDoor
open Go.RowKit
set_option linter.unusedVariables false
set_option linter.unusedSimpArgs false
theorem tree_all:∀N,TreAt N
 |0=>fun y x B w hN _ _ _=>absurd hN (by have h2:=cns_one y;obtain⟨k,t,v,f,ks,p⟩:=y;have h3:=cns_one ⟨k,t,v,f,ks,p⟩;omega)
 |N+1=>tre_step N (tree_all N)
theorem treeOf_any (y:Tn) (x:List Value) (B:Nat) (w:World) (hx:IsN w (fun b=>b<B) y x) (hB:B≤w.heap.size):Calls Tryz.prog 6 #[.agg x.toArray] w fun e w'=>∃x',e=.returned (.agg x'.toArray)∧IsN w' (fun b=>b<w'.heap.size) y x'∧Below w.heap.size w w':=by
 obtain⟨vk,vn,vs,al,ak,a,ll,cl,lk,ck,cc,rfl,_⟩:=hx.opn
 obtain⟨k,t,v,f,ks,p⟩:=y
 simp only at hx ⊢
 obtain⟨n,hn⟩:∃n,ks.length=n:=⟨_,rfl⟩
 simp only [hn] at hx ⊢
 obtain⟨w1,hw1⟩:∃w1,w.alloc (.cells #[.int .i64 k,.string t,.int .i64 vk,.int .i64 vn,.string vs,.slice al ll cl,.slice ak lk ck,.bool f,.slice a n cc,.int .i64 p] 28)=w1:=⟨_,rfl⟩
 obtain⟨w2,hw2⟩:∃w2,w1.alloc (.cells #[.int .i64 0,.string ⟨#[]⟩,.int .i64 0,.int .i64 0,.string ⟨#[]⟩,.slice none 0 0,.slice none 0 0,.bool false,.slice none 0 0,.int .i64 0] 28)=w2:=⟨_,rfl⟩
 obtain⟨G,hG⟩:∃G,w.heap.size=G:=⟨_,rfl⟩
 have z1:w1.heap.size=G+1:=by rw [←hw1];simp [hG]
 have z2:w2.heap.size=G+2:=by rw [←hw2];simp [z1]
 have b1:Below w.heap.size w w1:=by rw [←hw1];exact(Below.refl _ _).alloc (Nat.le_refl _) _
 have b2:Below w1.heap.size w1 w2:=by rw [←hw2];exact(Below.refl _ _).alloc (Nat.le_refl _) _
 have A2:w2.heap[G]?=some (.cells #[.int .i64 k,.string t,.int .i64 vk,.int .i64 vn,.string vs,.slice al ll cl,.slice ak lk ck,.bool f,.slice a n cc,.int .i64 p] 28 (0,0)):=Below.cellsAt b2 (by rw [←hw1,←hG];exact heap_alloc_new _ _)
 have Z2:w2.heap[G+1]?=some (.cells #[.int .i64 0,.string ⟨#[]⟩,.int .i64 0,.int .i64 0,.string ⟨#[]⟩,.slice none 0 0,.slice none 0 0,.bool false,.slice none 0 0,.int .i64 0] 28 (0,0)):=by rw [←hw2,←z1];exact heap_alloc_new _ _
 have X2:Below G w w2:=by rw [←hG];exact b1.trans (b2.mono (by omega))
 have hBG:B≤G:=by rw [←hG];exact hB
 have HV:Hid (∀u,Below w2.heap.size w2 u→IsN u (fun b=>b<B) ⟨k,t,v,f,ks,p⟩ [.int .i64 k,.string t,.int .i64 vk,.int .i64 vn,.string vs,.slice al ll cl,.slice ak lk ck,.bool f,.slice a n cc,.int .i64 p]∧B≤u.heap.size∧Below w.heap.size w u∧u.heap[G]?=some (.cells #[.int .i64 k,.string t,.int .i64 vk,.int .i64 vn,.string vs,.slice al ll cl,.slice ak lk ck,.bool f,.slice a n cc,.int .i64 p] 28 (0,0))∧u.heap[G+1]?=some (.cells #[.int .i64 0,.string ⟨#[]⟩,.int .i64 0,.int .i64 0,.string ⟨#[]⟩,.slice none 0 0,.slice none 0 0,.bool false,.slice none 0 0,.int .i64 0] 28 (0,0))∧G+2≤u.heap.size):=hZ (fun u hu=>by
  have h1:Below G w u:=X2.trans (hu.mono (by omega))
  have h2:=hu.size
  exact⟨hx.laterB (h1.mono hBG),by omega,by rw [hG];exact h1,Below.cellsAt hu A2,Below.cellsAt hu Z2,by omega⟩)
 have HW:=hZ (And.intro hw1 hw2)
 have HGE:=hZ hG
 have HBG:=hZ hBG
 obtain⟨R,hR⟩:∃R,decide (cns [⟨k,t,v,f,ks,p⟩]≤40000)=R:=⟨_,rfl⟩
 have CS:=hZ (slim_any B ⟨k,t,v,f,ks,p⟩ [.int .i64 k,.string t,.int .i64 vk,.int .i64 vn,.string vs,.slice al ll cl,.slice ak lk ck,.bool f,.slice a n cc,.int .i64 p] w2 ((uZ HV) w2 (Below.refl _ _)).2.1 ((uZ HV) w2 (Below.refl _ _)).1)
 rw [hR] at CS
 have HR:=hZ hR
 obtain⟨x0,x1,x2,x3,x4,x5,x6,x7,x8,x9⟩:=row_ten A2
 clear hw1 hw2 z1 z2 b1 b2 A2 Z2 X2 hBG hB hx hn hR
 go_enter Tryz.func6,Tryz.ntmps6
 go_upto_region 1 with fail
 rw [(uZ HW).1,(uZ HW).2]
 try rw [hG]
 clear HW hG
 go_wp2_with fail
 refine(uZ CS).mono ?_
 rintro e w3 ⟨rfl,b3⟩
 have X3:=hZ b3
 clear b3 CS x0 x1 x2 x3 x4 x5 x6 x7 x8 x9
 obtain⟨x0,x1,x2,x3,x4,x5,x6,x7,x8,x9⟩:=row_ten ((uZ HV) w3 (uZ X3)).2.2.2.1
 cases R with
 |false=>
  have HRZ:=hZ ((uZ HV) w3 (uZ X3)).2.2.2.2.1
  have HIN:=hZ ((uZ HV) w3 (uZ X3)).1
  have HBW:=hZ ((uZ HV) w3 (uZ X3)).2.2.1
  have HSZ:=hZ ((uZ HV) w3 (uZ X3)).2.2.2.2.2
  have hsz:=uZ HSZ
  have hbg:=uZ HBG
  obtain⟨z0,z1,z2,z3,z4,z5,z6,z7,z8,z9⟩:=row_ten (uZ HRZ)
  have f0:=frozen_of_row w3 (G+1) 0 _ _ (uZ HRZ)
  have f1:=frozen_of_row w3 (G+1) 1 _ _ (uZ HRZ)
  have f2:=frozen_of_row w3 (G+1) 2 _ _ (uZ HRZ)
  have f3:=frozen_of_row w3 (G+1) 3 _ _ (uZ HRZ)
  have f4:=frozen_of_row w3 (G+1) 4 _ _ (uZ HRZ)
  have f5:=frozen_of_row w3 (G+1) 5 _ _ (uZ HRZ)
  have f6:=frozen_of_row w3 (G+1) 6 _ _ (uZ HRZ)
  have f7:=frozen_of_row w3 (G+1) 7 _ _ (uZ HRZ)
  have f8:=frozen_of_row w3 (G+1) 8 _ _ (uZ HRZ)
  have f9:=frozen_of_row w3 (G+1) 9 _ _ (uZ HRZ)
  go_wp2_with fail
  refine bodyPost_ret (ret_n1 rfl _ _ (G+1) #[.int .i64 k,.string t,.int .i64 vk,.int .i64 vn,.string vs,.slice al ll cl,.slice ak lk ck,.bool f,.slice a n cc,.int .i64 p] _ _ rfl (set_ten (uZ HRZ) (.int .i64 k) (.string t) (.int .i64 vk) (.int .i64 vn) (.string vs) (.slice al ll cl) (.slice ak lk ck) (.bool f) (.slice a n cc) (.int .i64 p)) Tryz.underlying28 rfl size_nd) rfl ?_
  refine⟨[.int .i64 k,.string t,.int .i64 vk,.int .i64 vn,.string vs,.slice al ll cl,.slice ak lk ck,.bool f,.slice a n cc,.int .i64 p],rfl,?_,?_⟩
  ·exact IsN.to (fun q hq=>set_ten_other (by have:=uZ HGE;omega) (.int .i64 k) (.string t) (.int .i64 vk) (.int .i64 vn) (.string vs) (.slice al ll cl) (.slice ak lk ck) (.bool f) (.slice a n cc) (.int .i64 p)) (fun q hq=>by rw [set_ten_size];have:=uZ HGE;omega) (uZ HIN)
  ·have hx:=set_ten_below (uZ HBW) (g:=G+1) (by have:=uZ HGE;omega) (.int .i64 k) (.string t) (.int .i64 vk) (.int .i64 vn) (.string vs) (.slice al ll cl) (.slice ak lk ck) (.bool f) (.slice a n cc) (.int .i64 p)
   first|exact hx|(rw [uZ HGE];exact hx)
 |true=>
  have CT:=hZ (tree_all _ ⟨k,t,v,f,ks,p⟩ [.int .i64 k,.string t,.int .i64 vk,.int .i64 vn,.string vs,.slice al ll cl,.slice ak lk ck,.bool f,.slice a n cc,.int .i64 p] B w3 (Nat.le_refl _) (of_decide_eq_true (uZ HR)) ((uZ HV) w3 (uZ X3)).1 ((uZ HV) w3 (uZ X3)).2.1)
  go_wp2_with fail
  refine(uZ CT).mono ?_
  rintro e w4 ⟨x5,rfl,hk5,b5⟩
  obtain⟨vk5,vn5,vs5,al5,ak5,a5,ll5,cl5,lk5,ck5,cc5,hx5,_⟩:=hk5.shape
  simp only [] at hx5
  have X4:=hZ ((uZ X3).trans (b5.mono (uZ X3).size))
  have hs4:=b5.size
  have hs3:=((uZ HV) w3 (uZ X3)).2.2.2.2.2
  have HIN4:=hk5
  subst hx5
  obtain⟨n5,hn5⟩:∃m,ks.length=m:=⟨_,rfl⟩
  simp only [hn5] at HIN4 ⊢
  have HRZ:=hZ ((uZ HV) w4 (uZ X4)).2.2.2.2.1
  have HBW:=hZ ((uZ HV) w4 (uZ X4)).2.2.1
  have HIN:=hZ HIN4
  have HS5:=hZ (And.intro hs3 hs4)
  clear hk5 b5 HIN4 CT x0 x1 x2 x3 x4 x5 x6 x7 x8 x9 hs4 hs3 hn5
  have hbg:=uZ HBG
  have hs3:=(uZ HS5).1
  have hs4:=(uZ HS5).2
  obtain⟨z0,z1,z2,z3,z4,z5,z6,z7,z8,z9⟩:=row_ten (uZ HRZ)
  have f0:=frozen_of_row w4 (G+1) 0 _ _ (uZ HRZ)
  have f1:=frozen_of_row w4 (G+1) 1 _ _ (uZ HRZ)
  have f2:=frozen_of_row w4 (G+1) 2 _ _ (uZ HRZ)
  have f3:=frozen_of_row w4 (G+1) 3 _ _ (uZ HRZ)
  have f4:=frozen_of_row w4 (G+1) 4 _ _ (uZ HRZ)
  have f5:=frozen_of_row w4 (G+1) 5 _ _ (uZ HRZ)
  have f6:=frozen_of_row w4 (G+1) 6 _ _ (uZ HRZ)
  have f7:=frozen_of_row w4 (G+1) 7 _ _ (uZ HRZ)
  have f8:=frozen_of_row w4 (G+1) 8 _ _ (uZ HRZ)
  have f9:=frozen_of_row w4 (G+1) 9 _ _ (uZ HRZ)
  go_wp2_with fail
  refine bodyPost_ret (ret_n1 rfl _ _ (G+1) #[.int .i64 k,.string t,.int .i64 vk5,.int .i64 vn5,.string vs5,.slice al5 ll5 cl5,.slice ak5 lk5 ck5,.bool f,.slice a5 n5 cc5,.int .i64 p] _ _ rfl (set_ten (uZ HRZ) (.int .i64 k) (.string t) (.int .i64 vk5) (.int .i64 vn5) (.string vs5) (.slice al5 ll5 cl5) (.slice ak5 lk5 ck5) (.bool f) (.slice a5 n5 cc5) (.int .i64 p)) Tryz.underlying28 rfl size_nd) rfl ?_
  refine⟨[.int .i64 k,.string t,.int .i64 vk5,.int .i64 vn5,.string vs5,.slice al5 ll5 cl5,.slice ak5 lk5 ck5,.bool f,.slice a5 n5 cc5,.int .i64 p],rfl,?_,?_⟩
  ·exact IsN.to (fun q hq=>set_ten_other (by have:=uZ HGE;omega) (.int .i64 k) (.string t) (.int .i64 vk5) (.int .i64 vn5) (.string vs5) (.slice al5 ll5 cl5) (.slice ak5 lk5 ck5) (.bool f) (.slice a5 n5 cc5) (.int .i64 p)) (fun q hq=>by rw [set_ten_size];have:=uZ HGE;omega) (uZ HIN)
  ·have hx:=set_ten_below (uZ HBW) (g:=G+1) (by have:=uZ HGE;omega) (.int .i64 k) (.string t) (.int .i64 vk5) (.int .i64 vn5) (.string vs5) (.slice al5 ll5 cl5) (.slice ak5 lk5 ck5) (.bool f) (.slice a5 n5 cc5) (.int .i64 p)
   first|exact hx|(rw [uZ HGE];exact hx)
theorem flatP (w:World) (P:Nat→Prop) (k n:Int) (bk:0≤k∧k≤5) (bn:0≤n∧n≤9223372036854775807):IsP w P (.mk k n ⟨#[]⟩ [] []) (.agg #[.int .i64 k,.int .i64 n,.string ⟨#[]⟩,.slice none 0 0,.slice none 0 0]):=
 IsP.of (V:=fun _=>[]) ⟨by omega,by omega,(show (0:Nat)≤140737488351232 by omega),fun _=>⟨rfl,rfl⟩,fun _=>⟨rfl,rfl⟩,Nat.le_refl _,Nat.le_refl _,Nat.zero_le _,Nat.zero_le _,Nat.zero_le _,fun a ha=>(by cases ha),fun i hi=>(by cases hi),fun a ha=>(by cases ha),fun t ht=>(by cases ht)⟩ (fun i y hy=>by simp at hy)
theorem add_at (g o j:Nat):(⟨g,o,none⟩:Addr).add j=⟨g,o+j,none⟩:=by unfold Addr.add;split <;> simp_all
theorem isN_row {w:World} {P:Nat→Prop} {k vk vn p:Int} {t:ByteArray} {f:Bool} {ks:List Tn} {C:Nat→List Value} {g n:Nat} (bk:0≤k∧k≤30) (bp:p=0) (bt:t.size≤2048) (bv:0≤vk∧vk≤5) (bn:0≤vn∧vn≤9223372036854775807) (hn:ks.length=n) (hn9:n≤100) (hg:P g)
  (hc:∀i j v,i<n→(C i)[j]?=some v→w.cell? ⟨g,i * 10+j,none⟩=some v) (hl:∀i,i<n→(C i).length=10) (hk:∀i y,ks[i]?=some y→IsN w P y (C i)) :
  IsN w P ⟨k,t,.mk vk vn ⟨#[]⟩ [] [],f,ks,p⟩ [.int .i64 k,.string t,.int .i64 vk,.int .i64 vn,.string ⟨#[]⟩,.slice none 0 0,.slice none 0 0,.bool f,.slice (some ⟨g,0,none⟩) n n,.int .i64 p]:=by
 refine⟨[.int .i64 vk,.int .i64 vn,.string ⟨#[]⟩,.slice none 0 0,.slice none 0 0],some ⟨g,0,none⟩,n,C,by simp only [hn];rfl,rfl,flatP w P vk vn bv bn,⟨?_,?_,?_,?_,?_,?_,?_,?_⟩,(IsNs_iff w P _ _).2 hk⟩
 ·simp only;omega
 ·simp only;omega
 ·simp only;omega
 ·intro e;cases e
 ·simp only;omega
 ·simp only;omega
 ·intro x hx i hi
  obtain rfl:=Option.some.inj hx
  refine⟨by first|exact hg|(rw [block_add];exact hg),fun j v hj=>?_⟩
  rw [add_at,add_at,Nat.zero_add]
  exact hc i j v (by simp only at hi;omega) hj
 ·intro i hi
  exact hl i (by simp only at hi;omega)
theorem isN_leaf {w:World} {P:Nat→Prop} {k vk vn p:Int} {t:ByteArray} {f:Bool} (bk:0≤k∧k≤30) (bp:p=0) (bt:t.size≤2048) (bv:0≤vk∧vk≤5) (bn:0≤vn∧vn≤9223372036854775807) :
  IsN w P ⟨k,t,.mk vk vn ⟨#[]⟩ [] [],f,[],p⟩ [.int .i64 k,.string t,.int .i64 vk,.int .i64 vn,.string ⟨#[]⟩,.slice none 0 0,.slice none 0 0,.bool f,.slice none 0 0,.int .i64 p]:=
 ⟨[.int .i64 vk,.int .i64 vn,.string ⟨#[]⟩,.slice none 0 0,.slice none 0 0],none,0,fun _=>[],rfl,rfl,flatP w P vk vn bv bn,⟨by simp only;omega,by simp only;omega,by simp only;omega,fun _=>⟨rfl,rfl⟩,by simp,by simp,fun x hx=>(by cases hx),fun i hi=>(by simp at hi)⟩,by simp [IsNs]⟩
def tnA:Tn:=⟨14,⟨#[97]⟩,.mk 0 0 ⟨#[]⟩ [] [],false,[],0⟩
def tnB:Tn:=⟨13,⟨#[]⟩,.mk 2 1 ⟨#[]⟩ [] [],false,[],0⟩
def tnP:Tn:=⟨17,⟨#[43]⟩,.mk 0 0 ⟨#[]⟩ [] [],false,[tnA,tnB],0⟩
def tnU:Tn:=⟨16,⟨#[45]⟩,.mk 0 0 ⟨#[]⟩ [] [],false,[tnP],0⟩
def tn0:Tn:=⟨1,⟨#[]⟩,.mk 0 0 ⟨#[]⟩ [] [],false,[],0⟩
theorem r_one:rightB (.mk 2 1 ⟨#[]⟩ [] [])=true:=by
 have e0:(⟨#[]⟩:ByteArray).size=0:=rfl
 simp [rightB,okB,formB,formM,risingFrom,okL,wt,keysW,wtL,e0]
theorem d_one:Lib.itoa 1=[49]:=by decide +kernel
theorem p_one:prt (.mk 2 1 ⟨#[]⟩ [] [])=[49]:=by
 simp [prt,r_one,txt,oneT,d_one]
theorem l1:(⟨#[97]⟩:ByteArray).toList=[97]:=by rw [ByteArray.toList_eq]
theorem l2:(⟨#[]⟩:ByteArray).toList=[]:=by rw [ByteArray.toList_eq]
theorem l3:(⟨#[43]⟩:ByteArray).toList=[43]:=by rw [ByteArray.toList_eq]
theorem l4:(⟨#[45]⟩:ByteArray).toList=[45]:=by rw [ByteArray.toList_eq]
theorem n_a:nameL [97]=true:=by decide +kernel
theorem exU:exT tnU=[45,40,97,32,43,32,49,41]:=by
 simp [exT,exM,ex1,opX,brk,tnU,tnP,tnA,tnB,l1,l2,l3,l4,bnS,p_one]
theorem rgU:rgB tnU=true:=by
 simp [rgB,fmB,fmL,rwB,dpN,dpL,cns,cvs,arnd,opn,brk,tnU,tnP,tnA,tnB,l1,l2,l3,l4,bnS,txB,flB,vlB,kdB,isEx,r_one,n_a]
theorem rg0:rgB tn0=true:=by
 simp [rgB,fmB,fmL,rwB,dpN,dpL,cns,cvs,arnd,opn,brk,tn0,l2,bnS,txB,flB,vlB,kdB,isEx]
theorem shown18 (w:World) (hG0:0<w.heap.size) (hP:PowAt w):Calls Tryz.prog 14 #[] w fun e w'=>e=.returned (.bool true)∧Below w.heap.size w w':=by
 obtain⟨g,hg⟩:∃g,w.heap.size=g:=⟨_,rfl⟩
 obtain⟨w1,hw1⟩:∃w1,w.alloc (.cells #[.int .i64 14,.string ⟨#[97]⟩,.int .i64 0,.int .i64 0,.string ⟨#[]⟩,.slice none 0 0,.slice none 0 0,.bool false,.slice none 0 0,.int .i64 0,.int .i64 13,.string ⟨#[]⟩,.int .i64 2,.int .i64 1,.string ⟨#[]⟩,.slice none 0 0,.slice none 0 0,.bool false,.slice none 0 0,.int .i64 0] 28)=w1:=⟨_,rfl⟩
 have z1:w1.heap.size=g+1:=by rw [←hw1];simp [hg]
 obtain⟨w2,hw2⟩:∃w2,w1.alloc (.cells #[.int .i64 17,.string ⟨#[43]⟩,.int .i64 0,.int .i64 0,.string ⟨#[]⟩,.slice none 0 0,.slice none 0 0,.bool false,.slice (some ⟨g,0,none⟩) 2 2,.int .i64 0] 28)=w2:=⟨_,rfl⟩
 have z2:w2.heap.size=g+1+1:=by rw [←hw2];simp [z1]
 obtain⟨w3,hw3⟩:∃w3,w2.alloc (.cells #[.int .i64 16,.string ⟨#[45]⟩,.int .i64 0,.int .i64 0,.string ⟨#[]⟩,.slice none 0 0,.slice none 0 0,.bool false,.slice (some ⟨g+1,0,none⟩) 1 1,.int .i64 0] 28)=w3:=⟨_,rfl⟩
 have z3:w3.heap.size=g+1+1+1:=by rw [←hw3];simp [z2]
 have b1:Below w.heap.size w w1:=by rw [←hw1];exact(Below.refl _ _).alloc (Nat.le_refl _) _
 have b2:Below w1.heap.size w1 w2:=by rw [←hw2];exact(Below.refl _ _).alloc (Nat.le_refl _) _
 have b3:Below w2.heap.size w2 w3:=by rw [←hw3];exact(Below.refl _ _).alloc (Nat.le_refl _) _
 have r1:w1.heap[g]?=some (.cells #[.int .i64 14,.string ⟨#[97]⟩,.int .i64 0,.int .i64 0,.string ⟨#[]⟩,.slice none 0 0,.slice none 0 0,.bool false,.slice none 0 0,.int .i64 0,.int .i64 13,.string ⟨#[]⟩,.int .i64 2,.int .i64 1,.string ⟨#[]⟩,.slice none 0 0,.slice none 0 0,.bool false,.slice none 0 0,.int .i64 0] 28 (0,0)):=by rw [←hw1,←hg];exact heap_alloc_new _ _
 have r2:w2.heap[g+1]?=some (.cells #[.int .i64 17,.string ⟨#[43]⟩,.int .i64 0,.int .i64 0,.string ⟨#[]⟩,.slice none 0 0,.slice none 0 0,.bool false,.slice (some ⟨g,0,none⟩) 2 2,.int .i64 0] 28 (0,0)):=by rw [←hw2,←z1];exact heap_alloc_new _ _
 have r3:w3.heap[g+1+1]?=some (.cells #[.int .i64 16,.string ⟨#[45]⟩,.int .i64 0,.int .i64 0,.string ⟨#[]⟩,.slice none 0 0,.slice none 0 0,.bool false,.slice (some ⟨g+1,0,none⟩) 1 1,.int .i64 0] 28 (0,0)):=by rw [←hw3,←z2];exact heap_alloc_new _ _
 have q1:=Below.cellsAt b3 (Below.cellsAt b2 r1)
 have q2:=Below.cellsAt b3 r2
 have bw:Below w.heap.size w w3:=(b1.trans (b2.mono (by omega))).trans (b3.mono (by omega))
 have hA:IsN w3 (fun b=>b<w3.heap.size) tnA [.int .i64 14,.string ⟨#[97]⟩,.int .i64 0,.int .i64 0,.string ⟨#[]⟩,.slice none 0 0,.slice none 0 0,.bool false,.slice none 0 0,.int .i64 0]:=isN_leaf (by omega) rfl (by decide) (by omega) (by omega)
 have hB:IsN w3 (fun b=>b<w3.heap.size) tnB [.int .i64 13,.string ⟨#[]⟩,.int .i64 2,.int .i64 1,.string ⟨#[]⟩,.slice none 0 0,.slice none 0 0,.bool false,.slice none 0 0,.int .i64 0]:=isN_leaf (by omega) rfl (by decide) (by omega) (by omega)
 have hPn:IsN w3 (fun b=>b<w3.heap.size) tnP [.int .i64 17,.string ⟨#[43]⟩,.int .i64 0,.int .i64 0,.string ⟨#[]⟩,.slice none 0 0,.slice none 0 0,.bool false,.slice (some ⟨g,0,none⟩) 2 2,.int .i64 0]:=by
  refine isN_row (C:=fun i=>if i=0 then [.int .i64 14,.string ⟨#[97]⟩,.int .i64 0,.int .i64 0,.string ⟨#[]⟩,.slice none 0 0,.slice none 0 0,.bool false,.slice none 0 0,.int .i64 0] else [.int .i64 13,.string ⟨#[]⟩,.int .i64 2,.int .i64 1,.string ⟨#[]⟩,.slice none 0 0,.slice none 0 0,.bool false,.slice none 0 0,.int .i64 0]) (by omega) rfl (by decide) (by omega) (by omega) rfl (by omega) (by omega) (fun i j v hi hj=>?_) (fun i hi=>by split <;> rfl) (fun i y hy=>?_)
  ·have hj10:j<10:=by
    have:=(List.getElem?_eq_some_iff.1 hj).1
    split at this <;> simpa using this
   rw [cell_of_row w3 g (i * 10+j) ([.int .i64 14,.string ⟨#[97]⟩,.int .i64 0,.int .i64 0,.string ⟨#[]⟩,.slice none 0 0,.slice none 0 0,.bool false,.slice none 0 0,.int .i64 0]++[.int .i64 13,.string ⟨#[]⟩,.int .i64 2,.int .i64 1,.string ⟨#[]⟩,.slice none 0 0,.slice none 0 0,.bool false,.slice none 0 0,.int .i64 0]:List Value).toArray _ (0,0) q1,List.getElem?_toArray]
   rcases i with _|_|i
   ·rw [List.getElem?_append_left (by simpa using hj10)];simpa using hj
   ·rw [List.getElem?_append_right (by simp)]
    simpa using hj
   ·omega
  ·rcases i with _|_|i
   ·simp at hy;subst hy;exact hA
   ·simp at hy;subst hy;exact hB
   ·simp at hy
 have hU:IsN w3 (fun b=>b<w3.heap.size) tnU [.int .i64 16,.string ⟨#[45]⟩,.int .i64 0,.int .i64 0,.string ⟨#[]⟩,.slice none 0 0,.slice none 0 0,.bool false,.slice (some ⟨g+1,0,none⟩) 1 1,.int .i64 0]:=by
  refine isN_row (C:=fun _=>[.int .i64 17,.string ⟨#[43]⟩,.int .i64 0,.int .i64 0,.string ⟨#[]⟩,.slice none 0 0,.slice none 0 0,.bool false,.slice (some ⟨g,0,none⟩) 2 2,.int .i64 0]) (by omega) rfl (by decide) (by omega) (by omega) rfl (by omega) (by omega) (fun i j v hi hj=>?_) (fun i hi=>rfl) (fun i y hy=>?_)
  ·obtain rfl:i=0:=by omega
   rw [cell_of_row w3 (g+1) (0 * 10+j) ([.int .i64 17,.string ⟨#[43]⟩,.int .i64 0,.int .i64 0,.string ⟨#[]⟩,.slice none 0 0,.slice none 0 0,.bool false,.slice (some ⟨g,0,none⟩) 2 2,.int .i64 0]:List Value).toArray _ (0,0) q2,List.getElem?_toArray]
   simpa using hj
  ·rcases i with _|i
   ·simp at hy;subst hy;exact hPn
   ·simp at hy
 have hP3:=hP.later bw hG0
 have CE:=hZ (pexpr_ok w3.heap.size tnU [.int .i64 16,.string ⟨#[45]⟩,.int .i64 0,.int .i64 0,.string ⟨#[]⟩,.slice none 0 0,.slice none 0 0,.bool false,.slice (some ⟨g+1,0,none⟩) 1 1,.int .i64 0] w3 (Nat.le_refl _) hU (by decide) rgU (by omega) hP3 (by rw [exU];decide))
 rw [exU] at CE
 have HU:Hid (∀u,Below w3.heap.size w3 u→IsN u (fun b=>b<w3.heap.size) tnU [.int .i64 16,.string ⟨#[45]⟩,.int .i64 0,.int .i64 0,.string ⟨#[]⟩,.slice none 0 0,.slice none 0 0,.bool false,.slice (some ⟨g+1,0,none⟩) 1 1,.int .i64 0]):=hZ (fun u h=>hU.laterB h)
 have HR:=hZ r3
 have HW:=hZ (And.intro hw1 (And.intro hw2 hw3))
 have HX:=hZ bw
 have HZ:=hZ (And.intro z1 (And.intro z2 z3))
 obtain⟨x0,x1,x2,x3,x4,x5,x6,x7,x8,x9⟩:=row_ten r3
 clear hw1 hw2 hw3 b1 b2 b3 r1 r2 r3 q1 q2 bw hA hB hPn hU hP3 hP hG0 z1 z2 z3
 go_enter Tryz.func14,Tryz.ntmps14
 go_upto_region 2 with fail
 rw [(uZ HW).1,(uZ HW).2.1,(uZ HW).2.2]
 clear HW
 go_wp2_with fail
 refine(uZ CE).mono ?_
 rintro e w4 ⟨rfl,b4⟩
 have H4:=hZ b4
 have hr1:(decide (tnU.k=1) && rgB tnU)=false:=rfl
 have CP:=hZ (pprog_no w3.heap.size tnU [.int .i64 16,.string ⟨#[45]⟩,.int .i64 0,.int .i64 0,.string ⟨#[]⟩,.slice none 0 0,.slice none 0 0,.bool false,.slice (some ⟨g+1,0,none⟩) 1 1,.int .i64 0] w4 b4.size ((uZ HU) w4 b4) hr1)
 clear b4 CE x0 x1 x2 x3 x4 x5 x6 x7 x8 x9 hr1
 obtain⟨x0,x1,x2,x3,x4,x5,x6,x7,x8,x9⟩:=row_ten (Below.cellsAt (uZ H4) (uZ HR))
 go_wp2_with fail
 refine(uZ CP).mono ?_
 rintro e w5 ⟨rfl,b5⟩
 have H5:=hZ ((uZ H4).trans (b5.mono (uZ H4).size))
 clear b5 CP x0 x1 x2 x3 x4 x5 x6 x7 x8 x9
 have CR:=hZ (Right_any w5.heap.size tn0 [.int .i64 1,.string ⟨#[]⟩,.int .i64 0,.int .i64 0,.string ⟨#[]⟩,.slice none 0 0,.slice none 0 0,.bool false,.slice none 0 0,.int .i64 0] w5 (Nat.le_refl _) (isN_leaf (by omega) rfl (by decide) (by omega) (by omega)))
 have hr0:(decide (tn0.k=1) && rgB tn0)=true:=by rw [rg0];rfl
 rw [hr0] at CR
 have hcmp:((bA [45,40,97,32,43,32,49,41]).toList == [45,40,97,32,43,32,49,41])=true:=by rw [bA_list];rfl
 clear hr0
 go_wp2_with fail
 refine(uZ CR).mono ?_
 rintro e w6 ⟨rfl,b6⟩
 have H6:=hZ ((uZ H5).trans (b6.mono (uZ H5).size))
 clear b6 CR
 go_wp2_with fail
 go_ret
 have XX:Below w.heap.size w w6:=(uZ HX).trans ((uZ H6).mono (uZ HX).size)
 exact⟨rfl,by first|exact XX|(rw [←hg];exact XX)⟩
end Go.Proofs.YtlkeaaopdnnceaaGreatDoor
