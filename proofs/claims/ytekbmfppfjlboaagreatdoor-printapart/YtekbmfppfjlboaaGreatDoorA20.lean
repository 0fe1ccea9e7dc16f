/-
  Layer 18 (print): the walk of the law's tree of a node that is small, or the node as it is: no conditions.
  The walk of the document's values (how many parts a value has); no conditions but the form's own reach.
  Layer 18 (print): how many parts a tree has: the document's parts and fits; conditions: the nodes lie in memory.
  Layer 18 (print): Same, the code's and the document's; conditions: the nodes lie in memory.
-/
import Derived.Test.YtekbmfppfjlboaaGreatDoorA19
import Derived.Test.YtekbmfppfjlboaaGreatDoorA16
import Derived.Test.YtekbmfppfjlboaaGreatDoorA18
import Derived.Test.YtekbmfppfjlboaaGreatDoorA15
set_option linter.unusedVariables false
set_option linter.unusedSimpArgs false
namespace Go.Proofs.YtekbmfppfjlboaaGreatDoor
open Go.RowKit
set_option linter.unusedVariables false
set_option linter.unusedSimpArgs false
theorem tree_all:∀N,TreAt N
 |0=>fun y x B w hN _ _ _=>absurd hN (by have h2:=cns_one y;obtain⟨k,t,v,f,ks,p⟩:=y;have h3:=cns_one ⟨k,t,v,f,ks,p⟩;omega)
 |N+1=>tre_step N (tree_all N)
set_option maxRecDepth 100000 in
set_option maxHeartbeats 4000000 in
theorem treeOf_any (y:Tn) (x:List Value) (B:Nat) (w:World) (hx:IsN w (fun b=>b<B) y x) (hB:B≤w.heap.size):Calls Tryz.prog 6 #[.agg x.toArray] w fun e w'=>∃x',e=.returned (.agg x'.toArray)∧IsN w' (fun b=>b<w'.heap.size) y x'∧Below w.heap.size w w':=by
 obtain⟨vk,vn,vs,al,ak,a,ll,cl,lk,ck,cc,rfl,_⟩:=hx.opn
 obtain⟨k,t,v,f,ks,p⟩:=y
 simp only at hx ⊢
 obtain⟨n,hn⟩:∃n,ks.length=n:=⟨_,rfl⟩
 simp only [hn] at hx ⊢
 obtain⟨w1,hw1⟩:∃w1,w.alloc (.cells #[.int .i64 k,.string t,.int .i64 vk,.int .i64 vn,.string vs,.slice al ll cl,.slice ak lk ck,.bool f,.slice a n cc,.int .i64 p] 28)=w1:=⟨_,rfl⟩
 obtain⟨w2,hw2⟩:∃w2,w1.alloc (.cells #[.int .i64 0,.string ⟨#[]⟩,.int .i64 0,.int .i64 0,.string ⟨#[]⟩,.slice none 0 0,.slice none 0 0,.bool false,.slice none 0 0,.int .i64 0] 28)=w2:=⟨_,rfl⟩
 obtain⟨G,hG⟩:∃G,w.heap.size=G:=⟨_,rfl⟩
 have z1:w1.heap.size=G+1:=by rw [←hw1];simp [hG]
 have z2:w2.heap.size=G+2:=by rw [←hw2];simp [z1]
 have b1:Below w.heap.size w w1:=by rw [←hw1];exact(Below.refl _ _).alloc (Nat.le_refl _) _
 have b2:Below w1.heap.size w1 w2:=by rw [←hw2];exact(Below.refl _ _).alloc (Nat.le_refl _) _
 have A2:w2.heap[G]?=some (.cells #[.int .i64 k,.string t,.int .i64 vk,.int .i64 vn,.string vs,.slice al ll cl,.slice ak lk ck,.bool f,.slice a n cc,.int .i64 p] 28 (0,0)):=Below.cellsAt b2 (by rw [←hw1,←hG];exact heap_alloc_new _ _)
 have Z2:w2.heap[G+1]?=some (.cells #[.int .i64 0,.string ⟨#[]⟩,.int .i64 0,.int .i64 0,.string ⟨#[]⟩,.slice none 0 0,.slice none 0 0,.bool false,.slice none 0 0,.int .i64 0] 28 (0,0)):=by rw [←hw2,←z1];exact heap_alloc_new _ _
 have X2:Below G w w2:=by rw [←hG];exact b1.trans (b2.mono (by omega))
 have hBG:B≤G:=by rw [←hG];exact hB
 have HV:Hid (∀u,Below w2.heap.size w2 u→IsN u (fun b=>b<B) ⟨k,t,v,f,ks,p⟩ [.int .i64 k,.string t,.int .i64 vk,.int .i64 vn,.string vs,.slice al ll cl,.slice ak lk ck,.bool f,.slice a n cc,.int .i64 p]∧B≤u.heap.size∧Below w.heap.size w u∧u.heap[G]?=some (.cells #[.int .i64 k,.string t,.int .i64 vk,.int .i64 vn,.string vs,.slice al ll cl,.slice ak lk ck,.bool f,.slice a n cc,.int .i64 p] 28 (0,0))∧u.heap[G+1]?=some (.cells #[.int .i64 0,.string ⟨#[]⟩,.int .i64 0,.int .i64 0,.string ⟨#[]⟩,.slice none 0 0,.slice none 0 0,.bool false,.slice none 0 0,.int .i64 0] 28 (0,0))∧G+2≤u.heap.size):=hide (fun u hu=>by
  have h1:Below G w u:=X2.trans (hu.mono (by omega))
  have h2:=hu.size
  exact⟨hx.laterB (h1.mono hBG),by omega,by rw [hG];exact h1,Below.cellsAt hu A2,Below.cellsAt hu Z2,by omega⟩)
 have HW:=hide (And.intro hw1 hw2)
 have HGE:=hide hG
 have HBG:=hide hBG
 obtain⟨R,hR⟩:∃R,decide (cns [⟨k,t,v,f,ks,p⟩]≤40000)=R:=⟨_,rfl⟩
 have CS:=hide (slim_any B ⟨k,t,v,f,ks,p⟩ [.int .i64 k,.string t,.int .i64 vk,.int .i64 vn,.string vs,.slice al ll cl,.slice ak lk ck,.bool f,.slice a n cc,.int .i64 p] w2 ((unhide HV) w2 (Below.refl _ _)).2.1 ((unhide HV) w2 (Below.refl _ _)).1)
 rw [hR] at CS
 have HR:=hide hR
 obtain⟨x0,x1,x2,x3,x4,x5,x6,x7,x8,x9⟩:=row_ten A2
 clear hw1 hw2 z1 z2 b1 b2 A2 Z2 X2 hBG hB hx hn hR
 go_enter Tryz.func6,Tryz.ntmps6
 go_upto_region 1 with fail
 rw [(unhide HW).1,(unhide HW).2]
 try rw [hG]
 clear HW hG
 go_wp2_with fail
 refine(unhide CS).mono ?_
 rintro e w3 ⟨rfl,b3⟩
 have X3:=hide b3
 clear b3 CS x0 x1 x2 x3 x4 x5 x6 x7 x8 x9
 obtain⟨x0,x1,x2,x3,x4,x5,x6,x7,x8,x9⟩:=row_ten ((unhide HV) w3 (unhide X3)).2.2.2.1
 cases R with
 |false=>
  have HRZ:=hide ((unhide HV) w3 (unhide X3)).2.2.2.2.1
  have HIN:=hide ((unhide HV) w3 (unhide X3)).1
  have HBW:=hide ((unhide HV) w3 (unhide X3)).2.2.1
  have HSZ:=hide ((unhide HV) w3 (unhide X3)).2.2.2.2.2
  have hsz:=unhide HSZ
  have hbg:=unhide HBG
  obtain⟨z0,z1,z2,z3,z4,z5,z6,z7,z8,z9⟩:=row_ten (unhide HRZ)
  have f0:=frozen_of_row w3 (G+1) 0 _ _ (unhide HRZ)
  have f1:=frozen_of_row w3 (G+1) 1 _ _ (unhide HRZ)
  have f2:=frozen_of_row w3 (G+1) 2 _ _ (unhide HRZ)
  have f3:=frozen_of_row w3 (G+1) 3 _ _ (unhide HRZ)
  have f4:=frozen_of_row w3 (G+1) 4 _ _ (unhide HRZ)
  have f5:=frozen_of_row w3 (G+1) 5 _ _ (unhide HRZ)
  have f6:=frozen_of_row w3 (G+1) 6 _ _ (unhide HRZ)
  have f7:=frozen_of_row w3 (G+1) 7 _ _ (unhide HRZ)
  have f8:=frozen_of_row w3 (G+1) 8 _ _ (unhide HRZ)
  have f9:=frozen_of_row w3 (G+1) 9 _ _ (unhide HRZ)
  go_wp2_with fail
  refine bodyPost_ret (ret_n1 rfl _ _ (G+1) #[.int .i64 k,.string t,.int .i64 vk,.int .i64 vn,.string vs,.slice al ll cl,.slice ak lk ck,.bool f,.slice a n cc,.int .i64 p] _ _ rfl (set_ten (unhide HRZ) (.int .i64 k) (.string t) (.int .i64 vk) (.int .i64 vn) (.string vs) (.slice al ll cl) (.slice ak lk ck) (.bool f) (.slice a n cc) (.int .i64 p)) Tryz.underlying28 rfl size_nd) rfl ?_
  refine⟨[.int .i64 k,.string t,.int .i64 vk,.int .i64 vn,.string vs,.slice al ll cl,.slice ak lk ck,.bool f,.slice a n cc,.int .i64 p],rfl,?_,?_⟩
  ·exact IsN.to (fun q hq=>set_ten_other (by have:=unhide HGE;omega) (.int .i64 k) (.string t) (.int .i64 vk) (.int .i64 vn) (.string vs) (.slice al ll cl) (.slice ak lk ck) (.bool f) (.slice a n cc) (.int .i64 p)) (fun q hq=>by rw [set_ten_size];have:=unhide HGE;omega) (unhide HIN)
  ·have hx:=set_ten_below (unhide HBW) (g:=G+1) (by have:=unhide HGE;omega) (.int .i64 k) (.string t) (.int .i64 vk) (.int .i64 vn) (.string vs) (.slice al ll cl) (.slice ak lk ck) (.bool f) (.slice a n cc) (.int .i64 p)
   first|exact hx|(rw [unhide HGE];exact hx)
 |true=>
  have CT:=hide (tree_all _ ⟨k,t,v,f,ks,p⟩ [.int .i64 k,.string t,.int .i64 vk,.int .i64 vn,.string vs,.slice al ll cl,.slice ak lk ck,.bool f,.slice a n cc,.int .i64 p] B w3 (Nat.le_refl _) (of_decide_eq_true (unhide HR)) ((unhide HV) w3 (unhide X3)).1 ((unhide HV) w3 (unhide X3)).2.1)
  go_wp2_with fail
  refine(unhide CT).mono ?_
  rintro e w4 ⟨x5,rfl,hk5,b5⟩
  obtain⟨vk5,vn5,vs5,al5,ak5,a5,ll5,cl5,lk5,ck5,cc5,hx5,_⟩:=hk5.shape
  simp only [] at hx5
  have X4:=hide ((unhide X3).trans (b5.mono (unhide X3).size))
  have hs4:=b5.size
  have hs3:=((unhide HV) w3 (unhide X3)).2.2.2.2.2
  have HIN4:=hk5
  subst hx5
  obtain⟨n5,hn5⟩:∃m,ks.length=m:=⟨_,rfl⟩
  simp only [hn5] at HIN4 ⊢
  have HRZ:=hide ((unhide HV) w4 (unhide X4)).2.2.2.2.1
  have HBW:=hide ((unhide HV) w4 (unhide X4)).2.2.1
  have HIN:=hide HIN4
  have HS5:=hide (And.intro hs3 hs4)
  clear hk5 b5 HIN4 CT x0 x1 x2 x3 x4 x5 x6 x7 x8 x9 hs4 hs3 hn5
  have hbg:=unhide HBG
  have hs3:=(unhide HS5).1
  have hs4:=(unhide HS5).2
  obtain⟨z0,z1,z2,z3,z4,z5,z6,z7,z8,z9⟩:=row_ten (unhide HRZ)
  have f0:=frozen_of_row w4 (G+1) 0 _ _ (unhide HRZ)
  have f1:=frozen_of_row w4 (G+1) 1 _ _ (unhide HRZ)
  have f2:=frozen_of_row w4 (G+1) 2 _ _ (unhide HRZ)
  have f3:=frozen_of_row w4 (G+1) 3 _ _ (unhide HRZ)
  have f4:=frozen_of_row w4 (G+1) 4 _ _ (unhide HRZ)
  have f5:=frozen_of_row w4 (G+1) 5 _ _ (unhide HRZ)
  have f6:=frozen_of_row w4 (G+1) 6 _ _ (unhide HRZ)
  have f7:=frozen_of_row w4 (G+1) 7 _ _ (unhide HRZ)
  have f8:=frozen_of_row w4 (G+1) 8 _ _ (unhide HRZ)
  have f9:=frozen_of_row w4 (G+1) 9 _ _ (unhide HRZ)
  go_wp2_with fail
  refine bodyPost_ret (ret_n1 rfl _ _ (G+1) #[.int .i64 k,.string t,.int .i64 vk5,.int .i64 vn5,.string vs5,.slice al5 ll5 cl5,.slice ak5 lk5 ck5,.bool f,.slice a5 n5 cc5,.int .i64 p] _ _ rfl (set_ten (unhide HRZ) (.int .i64 k) (.string t) (.int .i64 vk5) (.int .i64 vn5) (.string vs5) (.slice al5 ll5 cl5) (.slice ak5 lk5 ck5) (.bool f) (.slice a5 n5 cc5) (.int .i64 p)) Tryz.underlying28 rfl size_nd) rfl ?_
  refine⟨[.int .i64 k,.string t,.int .i64 vk5,.int .i64 vn5,.string vs5,.slice al5 ll5 cl5,.slice ak5 lk5 ck5,.bool f,.slice a5 n5 cc5,.int .i64 p],rfl,?_,?_⟩
  ·exact IsN.to (fun q hq=>set_ten_other (by have:=unhide HGE;omega) (.int .i64 k) (.string t) (.int .i64 vk5) (.int .i64 vn5) (.string vs5) (.slice al5 ll5 cl5) (.slice ak5 lk5 ck5) (.bool f) (.slice a5 n5 cc5) (.int .i64 p)) (fun q hq=>by rw [set_ten_size];have:=unhide HGE;omega) (unhide HIN)
  ·have hx:=set_ten_below (unhide HBW) (g:=G+1) (by have:=unhide HGE;omega) (.int .i64 k) (.string t) (.int .i64 vk5) (.int .i64 vn5) (.string vs5) (.slice al5 ll5 cl5) (.slice ak5 lk5 ck5) (.bool f) (.slice a5 n5 cc5) (.int .i64 p)
   first|exact hx|(rw [unhide HGE];exact hx)
def ValsAt (b:Nat):Prop:=∀(v:Vl) (x:Value) (most B:Nat) (w:World),dep v≤b→IsV w B v x→B≤w.heap.size→most≤40000 →
  Calls Tryz.prog 83 #[x,.int .i64 (most:Int)] w fun e w'=>e=.returned (.int .i64 ((min (cnt v) (most+1):Nat):Int))∧Below w.heap.size w w'
theorem vals_zero:ValsAt 0:=by
 intro v x most B w h
 have:=dep_pos v
 omega
set_option maxRecDepth 100000 in
set_option maxHeartbeats 800000 in
theorem vals_step (b:Nat) (ih:ValsAt b):ValsAt (b+1):=by
 intro v x most B w hd hv hBs hmo
 obtain⟨k,n,s,l,ks,al,ak,cl,ck,rfl,rfl⟩:=hv.shape
 obtain⟨m,hm⟩:∃m,ks.length=m:=⟨_,rfl⟩
 obtain⟨ln,hln⟩:∃ln,l.length=ln:=⟨_,rfl⟩
 rw [hm,hln] at hv
 rw [hm,hln]
 have hlb:ln≤140737488351232:=by
  obtain⟨_,_,_,h1,h2,V,hf,_⟩:=IsP.at hv
  have:=hf.bl
  omega
 obtain⟨w1,hw1⟩:∃w1,w.alloc (.cells #[.int .i64 k,.int .i64 n,.string s,.slice al ln cl,.slice ak m ck] 26)=w1:=⟨_,rfl⟩
 have BX:=Box.mk' w (.int .i64 k) (.int .i64 n) (.string s) (.slice al ln cl) (.slice ak m ck)
 rw [hw1] at BX
 obtain⟨g,hg⟩:∃g,w.heap.size=g:=⟨_,rfl⟩
 have z1:=BX.size
 have HRW:Hid (∀u,Below w1.heap.size w1 u→u.heap[g]?=some (.cells #[.int .i64 k,.int .i64 n,.string s,.slice al ln cl,.slice ak m ck] 26 (0,0))):=hide (fun u hu=>by rw [←hg];exact(hu.block _ (by omega)).trans BX.row)
 have HV:Hid (∀u,Below w1.heap.size w1 u→IsV u B (.mk k n s l ks) (.agg #[.int .i64 k,.int .i64 n,.string s,.slice al ln cl,.slice ak m ck])∧B≤u.heap.size):=hide (fun u hu=>⟨hv.mono ((BX.below.mono (by omega)).trans (hu.mono (by omega))),by have:=hu.size;omega⟩)
 have HB:Hid (∀u,Below w1.heap.size w1 u→Below w.heap.size w u):=hide (fun u hu=>BX.below.trans (hu.mono (by omega)))
 have HL:=hide hln
 have hdl:∀i y,l[i]?=some y→dep y≤b:=fun i y h=>by have h1:=dep_elem l i y h;simp only [dep] at hd;omega
 have HD:=hide hdl
 obtain⟨c0,c1,c2,c3,c4⟩:=row_cell (unhide HRW w1 (Below.refl _ _))
 have HC:Hid (cnt (.mk k n s l ks)=1+cntL l):=hide (by simp only [cnt])
 clear BX hv hm hln hdl hd
 go_enter Tryz.func83,Tryz.ntmps83
 go_wp2_with fail
 clear c0 c1 c2 c3 c4
 go_loopw [5,6] (fun y x wr=>∃(i N:Nat),i≤ln∧N≤most+1∧x=.int .i64 i∧y=.int .i64 (N:Int)∧Hid (Below w1.heap.size w1 wr)∧Hid (1≤N∧N=max 1 (min (1+cntL (l.take i)) (most+1)))) (fun _ x _=>ln - (intOf x).toNat)
 case atStart=>exact⟨0,1,Nat.zero_le _,by omega,rfl,rfl,hide (Below.refl _ _),hide (by simp [cntL])⟩
 case round=>
  obtain⟨i,N,hi,hN,rfl,rfl,HX,HN⟩:=hrel
  obtain⟨c0,c1,c2,c3,c4⟩:=row_cell (unhide HRW wr (unhide HX))
  by_cases hlt:i<ln
  ·have i1:(i:Int)<(ln:Int):=by omega
   by_cases hNm:N≤most
   ·have n1:(N:Int)≤(most:Int):=by omega
    obtain⟨y,hy⟩:∃y,l[i]?=some y:=⟨_,List.getElem?_eq_getElem (by have:=unhide HL;omega)⟩
    obtain⟨a,y0,y1,y2,al',ak',ll',m',cl',ck',rfl,hab,hce,hve⟩:=(unhide HV wr (unhide HX)).1.elem i y hy
    have e0:wr.cell? (a.add (i * 5))=some (.int .i64 y0):=hce 0 _ rfl
    have e1:wr.cell? ⟨(a.add (i * 5)).block,(a.add (i * 5)).off+1,none⟩=some (.int .i64 y1):=hce 1 _ rfl
    have e2:wr.cell? ⟨(a.add (i * 5)).block,(a.add (i * 5)).off+2,none⟩=some (.string y2):=hce 2 _ rfl
    have e3:wr.cell? ⟨(a.add (i * 5)).block,(a.add (i * 5)).off+3,none⟩=some (.slice al' ll' cl'):=hce 3 _ rfl
    have e4:wr.cell? ⟨(a.add (i * 5)).block,(a.add (i * 5)).off+4,none⟩=some (.slice ak' m' ck'):=hce 4 _ rfl
    obtain⟨D,hD⟩:∃D,most - N=D:=⟨_,rfl⟩
    have d1:(most:Int) - (N:Int)=(D:Int):=by omega
    have d2:IntKind.i64.wrap (D:Int)=(D:Int):=by rw [IntKind.wrap_i64];omega
    have CI:=hide (ih y _ D B wr (unhide HD i y hy) hve (unhide HV wr (unhide HX)).2 (by omega))
    obtain⟨C,hC⟩:∃C,min (cnt y) (D+1)=C:=⟨_,rfl⟩
    rw [hC] at CI
    have hCb:C≤D+1:=by omega
    have HN':Hid (1≤N+C∧N+C=max 1 (min (1+cntL (l.take (i+1))) (most+1))):=hide (by
     have h1:=cntL_next l i y hy
     have h2:=unhide HN
     omega)
    have HI1:Hid (i+1≤ln):=hide (by omega)
    obtain⟨NC,hNCe⟩:∃NC,N+C=NC:=⟨_,rfl⟩
    rw [hNCe] at HN'
    have s1:(N:Int)+(C:Int)=(NC:Int):=by omega
    have s2:IntKind.i64.wrap (NC:Int)=(NC:Int):=by rw [IntKind.wrap_i64];omega
    have hNC:NC≤most+1:=by omega
    clear hy hce hve hC hD hNCe
    go_wp2_with fail
    refine(unhide CI).mono ?_
    rintro e w5 ⟨rfl,b5⟩
    have HX5:Hid (Below w1.heap.size w1 w5):=hide ((unhide HX).trans (b5.mono (unhide HX).size))
    clear b5 CI
    go_wp2_with fail
    go_roundw
    case rel=>exact⟨i+1,NC,unhide HI1,hNC,by go_num,rfl,HX5,HN'⟩
    case measure=>have:=unhide HI1;simp [intOf];omega
   ·have n1:¬(N:Int)≤(most:Int):=by omega
    have HG:Hid (((min (cnt (.mk k n s l ks)) (most+1):Nat):Int)=(N:Int)):=hide (by
     have h1:=cntL_take_le l i
     have h2:=unhide HN
     rw [unhide HC]
     omega)
    go_wp2_with fail
    go_ret
    exact⟨by rw [unhide HG];rfl,by first|exact unhide HB _ (unhide HX)|(rw [←hg];exact unhide HB _ (unhide HX))⟩
  ·have i1:¬(i:Int)<(ln:Int):=by omega
   have HG:Hid (((min (cnt (.mk k n s l ks)) (most+1):Nat):Int)=(N:Int)):=hide (by
    have h2:=unhide HN
    rw [List.take_of_length_le (by have:=unhide HL;omega)] at h2
    rw [unhide HC]
    omega)
   go_wp2_with fail
   go_ret
   exact⟨by rw [unhide HG];rfl,by first|exact unhide HB _ (unhide HX)|(rw [←hg];exact unhide HB _ (unhide HX))⟩
theorem vals_any:∀b,ValsAt b
 |0=>vals_zero
 |b+1=>vals_step b (vals_any b)
def ParAt (N:Nat):Prop:=∀(y:Tn) (x:List Value) (most B:Nat) (w:World),cns [y]≤N→IsN w (fun b=>b<B) y x→B≤w.heap.size→most≤40000 →
  Calls Tryz.prog 48 #[.agg x.toArray,.int .i64 (most:Int)] w fun e w'=>e=.returned (.int .i64 ((min (cns [y]) (most+1):Nat):Int))∧Below w.heap.size w w'
set_option maxRecDepth 100000 in
set_option maxHeartbeats 2000000 in
theorem ParAt_step (N:Nat) (ih:ParAt N):ParAt (N+1):=by
 intro y0 x most B w hN hx hB hmo
 obtain⟨vk,vn,vs,al,ak,a,ll,cl,lk,ck,cc,rfl,hv,hr,hbk,hbp⟩:=hx.opn
 obtain⟨k,t,v,f,ks,p⟩:=y0
 simp only at hv hr ⊢
 obtain⟨n,hn⟩:∃n,ks.length=n:=⟨_,rfl⟩
 simp only [hn]
 have hc1:cns [⟨k,t,v,f,ks,p⟩]=1+cvs v.l+cns ks:=cns_one _
 have hsub:∀z∈ks,cns [z]≤N:=fun z hz=>by
  have h1:=cns_mem ks z hz
  omega
 have hnb:n≤140737488351232:=by rw [←hn];exact hr.len
 obtain⟨w1,hw1⟩:∃w1,w.alloc (.cells #[.int .i64 k,.string t,.int .i64 vk,.int .i64 vn,.string vs,.slice al ll cl,.slice ak lk ck,.bool f,.slice a n cc,.int .i64 p] 28)=w1:=⟨_,rfl⟩
 obtain⟨G,hG⟩:∃G,w.heap.size=G:=⟨_,rfl⟩
 have A1:w1.heap[G]?=some (.cells #[.int .i64 k,.string t,.int .i64 vk,.int .i64 vn,.string vs,.slice al ll cl,.slice ak lk ck,.bool f,.slice a n cc,.int .i64 p] 28 (0,0)):=by rw [←hw1,←hG];exact heap_alloc_new _ _
 have X1:Below G w w1:=by rw [←hw1,←hG];exact(Below.refl _ _).alloc (Nat.le_refl _) _
 have hBG:B≤G:=by rw [←hG];exact hB
 have CM:=hide (vals_any (dep v) v (.agg #[.int .i64 vk,.int .i64 vn,.string vs,.slice al ll cl,.slice ak lk ck]) most B w1 (Nat.le_refl _) (hv.mono (X1.mono hBG)) (Nat.le_trans hBG (Nat.le_of_lt (lt_of_row A1))) hmo)
 have hcv:cnt v=1+cvs v.l:=by obtain⟨k',n',s',l',ks'⟩:=v;simp only [cnt,cvs_cnt]
 obtain⟨c,hcc⟩:∃c,cvs v.l=c:=⟨_,rfl⟩
 rw [hcv,hcc] at CM
 rw [hcc] at hc1
 obtain⟨K0,hK0⟩:∃K0,min (1+c) (most+1)=K0:=⟨_,rfl⟩
 rw [hK0] at CM
 obtain⟨R,hR⟩:∃R,min (cns [⟨k,t,v,f,ks,p⟩]) (most+1)=R:=⟨_,rfl⟩
 rw [hR]
 have hR2:min (1+c+cns ks) (most+1)=R:=by rw [←hR,hc1]
 have HR:=hide hR2
 have HM:Hid (∀u,Below w1.heap.size w1 u→RowN u B ks a cc∧Below G w u∧B≤u.heap.size):=hide (fun u h=>by
  have h2:=X1.trans (h.mono (Nat.le_of_lt (lt_of_row A1)))
  exact⟨hr.later (h2.mono hBG),h2,Nat.le_trans hBG (by rw [←hG];exact h2.size)⟩)
 have HA:=hide A1
 have HS:=hide (And.intro hn hsub)
 have HW:=hide hw1
 obtain⟨x0,x1,x2,x3,x4,x5,x6,x7,x8,x9⟩:=row_ten A1
 have hK1:1≤K0∧K0≤most+1:=by omega
 have HK0:=hide hK0
 clear A1 X1 hw1 hBG hB hr hv hx hn hsub hcv hcc hc1 hR hR2 hN hbk hbp hK0
 go_enter Tryz.func48,Tryz.ntmps48
 go_upto_region 1 with fail
 rw [unhide HW]
 try rw [hG]
 clear HW
 go_wp2_with fail
 refine(unhide CM).mono ?_
 rintro e w2 ⟨rfl,b2⟩
 have H2:=hide b2
 clear b2 CM x0 x1 x2 x3 x4 x5 x6 x7 x8 x9
 go_wp2_with fail
 go_loopw [5,6] (fun yv x wr=>∃(i K:Nat),i≤n∧K≤most+1∧x=.int .i64 i∧yv=.int .i64 (K:Int)∧Hid (Below w1.heap.size w1 wr)∧Hid (K=min (1+c+kcnt ks i) (most+1))) (fun _ x _=>n - (intOf x).toNat)
 case atStart=>exact⟨0,K0,Nat.zero_le _,hK1.2,rfl,rfl,H2,hide (by rw [kcnt_zero];exact(unhide HK0).symm)⟩
 case round=>
  obtain⟨i,K,hi,hKm,rfl,rfl,HX,HK⟩:=hrel
  obtain⟨x0,x1,x2,x3,x4,x5,x6,x7,x8,x9⟩:=row_ten (Below.cellsAt (unhide HX) (unhide HA))
  by_cases hlt:i<n
  ·have i1:(i:Int)<(n:Int):=by omega
   by_cases hNm:K≤most
   ·have n1:(K:Int)≤(most:Int):=by omega
    obtain⟨y,hy⟩:∃y,ks[i]?=some y:=⟨_,List.getElem?_eq_getElem (by have:=(unhide HS).1;omega)⟩
    obtain⟨b,vky,vny,vsy,aly,aky,ay,lly,cly,lky,cky,ny,ccy,rfl,hcy,hby,hny,hzy,hcelly⟩:=((unhide HM) wr (unhide HX)).1.ten hy
    have e0:wr.cell? (b.add (i * 10))=some (.int .i64 y.k):=hcelly 0 _ rfl
    have e1:wr.cell? ⟨(b.add (i * 10)).block,(b.add (i * 10)).off+1,none⟩=some (.string y.t):=hcelly 1 _ rfl
    have e2:wr.cell? ⟨(b.add (i * 10)).block,(b.add (i * 10)).off+2,none⟩=some (.int .i64 vky):=hcelly 2 _ rfl
    have e3:wr.cell? ⟨(b.add (i * 10)).block,(b.add (i * 10)).off+3,none⟩=some (.int .i64 vny):=hcelly 3 _ rfl
    have e4:wr.cell? ⟨(b.add (i * 10)).block,(b.add (i * 10)).off+4,none⟩=some (.string vsy):=hcelly 4 _ rfl
    have e5:wr.cell? ⟨(b.add (i * 10)).block,(b.add (i * 10)).off+5,none⟩=some (.slice aly lly cly):=hcelly 5 _ rfl
    have e6:wr.cell? ⟨(b.add (i * 10)).block,(b.add (i * 10)).off+6,none⟩=some (.slice aky lky cky):=hcelly 6 _ rfl
    have e7:wr.cell? ⟨(b.add (i * 10)).block,(b.add (i * 10)).off+7,none⟩=some (.bool y.f):=hcelly 7 _ rfl
    have e8:wr.cell? ⟨(b.add (i * 10)).block,(b.add (i * 10)).off+8,none⟩=some (.slice ay ny ccy):=hcelly 8 _ rfl
    have e9:wr.cell? ⟨(b.add (i * 10)).block,(b.add (i * 10)).off+9,none⟩=some (.int .i64 y.p):=hcelly 9 _ rfl
    obtain⟨D,hD⟩:∃D,most - K=D:=⟨_,rfl⟩
    have d1:(most:Int) - (K:Int)=(D:Int):=by omega
    have d2:IntKind.i64.wrap (D:Int)=(D:Int):=by rw [IntKind.wrap_i64];omega
    have CI:=hide (ih y _ D B wr ((unhide HS).2 y (List.mem_of_getElem? hy)) hzy ((unhide HM) wr (unhide HX)).2.2 (by omega))
    obtain⟨C,hC⟩:∃C,min (cns [y]) (D+1)=C:=⟨_,rfl⟩
    rw [hC] at CI
    have hup:=kcnt_up ks i y hy
    have HK2:Hid (K+C=min (1+c+kcnt ks (i+1)) (most+1)):=hide (by have h2:=unhide HK;omega)
    have HI1:Hid (i+1≤n):=hide (by omega)
    have hKC:K+C≤most+1:=by omega
    obtain⟨KC,hKCe⟩:∃KC,K+C=KC:=⟨_,rfl⟩
    rw [hKCe] at HK2 hKC
    have d3:(K:Int)+(C:Int)=(KC:Int):=by omega
    have d4:IntKind.i64.wrap (KC:Int)=(KC:Int):=by rw [IntKind.wrap_i64];omega
    clear hy hcy hby hny hzy hcelly hD hC hup hKCe HK
    go_wp2_with fail
    refine(unhide CI).mono ?_
    rintro e w5 ⟨rfl,b5⟩
    have HX5:Hid (Below w1.heap.size w1 w5):=hide ((unhide HX).trans (b5.mono (unhide HX).size))
    clear b5 CI x0 x1 x2 x3 x4 x5 x6 x7 x8 x9 e0 e1 e2 e3 e4 e5 e6 e7 e8 e9
    go_wp2_with fail
    go_roundw
    case rel=>exact⟨i+1,KC,unhide HI1,hKC,by go_num,rfl,HX5,HK2⟩
    case measure=>have:=unhide HI1;simp [intOf];omega
   ·have n1:¬(K:Int)≤(most:Int):=by omega
    have HG:Hid (R=K):=hide (by
     have h1:=kcnt_mono ks i
     have h2:=unhide HK
     have h3:=unhide HR
     omega)
    have hb:=((unhide HM) wr (unhide HX)).2.1
    have HB:=hide hb
    clear hb
    go_wp2_with fail
    go_ret
    exact⟨by rw [unhide HG] <;> rfl,by first|exact unhide HB|(rw [hG];exact unhide HB)⟩
  ·have i1:¬(i:Int)<(n:Int):=by omega
   have HG:Hid (R=K):=hide (by
    have h2:=unhide HK
    have h3:=unhide HR
    have h4:kcnt ks i=cns ks:=by rw [show i=ks.length by have:=(unhide HS).1;omega];exact kcnt_all ks
    rw [h4] at h2
    omega)
   have hb:=((unhide HM) wr (unhide HX)).2.1
   have HB:=hide hb
   clear hb
   go_wp2_with fail
   go_ret
   exact⟨by rw [unhide HG] <;> rfl,by first|exact unhide HB|(rw [hG];exact unhide HB)⟩
theorem ParAt_all:∀N,ParAt N
 |0=>fun y x most B w hN=>by rw [cns_one] at hN;omega
 |N+1=>ParAt_step N (ParAt_all N)
set_option maxRecDepth 100000 in
set_option maxHeartbeats 1000000 in
theorem fits_any (B0:Nat) (y:Tn) (x:List Value) (w:World) (hB:B0≤w.heap.size) (hx:IsN w (fun b=>b<B0) y x):Calls Tryz.prog 26 #[.agg x.toArray] w fun e w'=>e=.returned (.bool (decide (cns [y]≤20000)))∧Below w.heap.size w w':=by
 have hx0:=hx
 obtain⟨vk,vn,vs,al,ak,a,ll,cl,lk,ck,cc,rfl,_⟩:=hx.shape
 obtain⟨k,t,v,f,ks,p⟩:=y
 obtain⟨n,hn⟩:∃n,ks.length=n:=⟨_,rfl⟩
 simp only [hn] at hx0 ⊢
 obtain⟨w1,hw1⟩:∃w1,w.alloc (.cells #[.int .i64 k,.string t,.int .i64 vk,.int .i64 vn,.string vs,.slice al ll cl,.slice ak lk ck,.bool f,.slice a n cc,.int .i64 p] 28)=w1:=⟨_,rfl⟩
 obtain⟨G,hG⟩:∃G,w.heap.size=G:=⟨_,rfl⟩
 have A1:w1.heap[G]?=some (.cells #[.int .i64 k,.string t,.int .i64 vk,.int .i64 vn,.string vs,.slice al ll cl,.slice ak lk ck,.bool f,.slice a n cc,.int .i64 p] 28 (0,0)):=by rw [←hw1,←hG];exact heap_alloc_new _ _
 have X1:Below G w w1:=by rw [←hw1,←hG];exact(Below.refl _ _).alloc (Nat.le_refl _) _
 have CM:=hide (ParAt_all _ ⟨k,t,v,f,ks,p⟩ _ 20000 B0 w1 (Nat.le_refl _) (hx0.laterB (X1.mono (by rw [←hG];exact hB))) (Nat.le_trans hB (by have:=X1.size;exact this)) (by decide))
 obtain⟨C,hC⟩:∃C,min (cns [⟨k,t,v,f,ks,p⟩]) (20000+1)=C:=⟨_,rfl⟩
 rw [hC] at CM
 have HRB:Hid (decide ((C:Int)≤20000)=decide (cns [⟨k,t,v,f,ks,p⟩]≤20000)):=hide (by rw [decide_eq_decide];omega)
 obtain⟨x0,x1,x2,x3,x4,x5,x6,x7,x8,x9⟩:=row_ten A1
 have HX:=hide X1
 have HW:=hide hw1
 have HGs:=hide (Nat.le_of_lt (lt_of_row A1))
 clear A1 X1 hw1 hx hx0 hn hC
 go_enter Tryz.func26,Tryz.ntmps26
 go_upto_region 1 with fail
 rw [unhide HW]
 try rw [hG]
 clear HW
 go_wp2_with fail
 refine(unhide CM).mono ?_
 rintro e w2 ⟨rfl,b2⟩
 have H2:=hide ((unhide HX).trans (b2.mono (unhide HGs)))
 clear b2 CM x0 x1 x2 x3 x4 x5 x6 x7 x8 x9
 go_wp2_with fail
 go_ret
 exact⟨by rw [←unhide HRB];rfl,by first|exact unhide H2|(rw [hG];exact unhide H2)⟩
def saB (y z:Tn):Bool:=decide (cns [y]≤20000) && decide (cns [z]≤20000) && smN y z
set_option maxRecDepth 100000 in
set_option maxHeartbeats 2000000 in
theorem same_any (y z:Tn) (x x':List Value) (B:Nat) (w:World) (hx:IsN w (fun b=>b<B) y x) (hx':IsN w (fun b=>b<B) z x') (hB:B≤w.heap.size):Calls Tryz.prog 15 #[.agg x.toArray,.agg x'.toArray] w fun e w'=>e=.returned (.bool (saB y z))∧Below w.heap.size w w':=by
 obtain⟨vk,vn,vs,al,ak,a,ll,cl,lk,ck,cc,rfl,hv,hr,-,-⟩:=hx.opn
 obtain⟨vk',vn',vs',al',ak',a',ll',cl',lk',ck',cc',rfl,hv',hr',-,-⟩:=hx'.opn
 obtain⟨k,t,v,f,ks,p⟩:=y
 obtain⟨k',t',v',f',ks',p'⟩:=z
 simp only at hv hr hv' hr' hx hx' ⊢
 obtain⟨n,hn⟩:∃n,ks.length=n:=⟨_,rfl⟩
 obtain⟨n',hn'⟩:∃n,ks'.length=n:=⟨_,rfl⟩
 simp only [hn,hn'] at hx hx' ⊢
 have TW:=TwoL.mk' w 28 #[.int .i64 k,.string t,.int .i64 vk,.int .i64 vn,.string vs,.slice al ll cl,.slice ak lk ck,.bool f,.slice a n cc,.int .i64 p] #[.int .i64 k',.string t',.int .i64 vk',.int .i64 vn',.string vs',.slice al' ll' cl',.slice ak' lk' ck',.bool f',.slice a' n' cc',.int .i64 p']
 obtain⟨w2,hw2⟩:∃w2,(w.alloc (.cells #[.int .i64 k,.string t,.int .i64 vk,.int .i64 vn,.string vs,.slice al ll cl,.slice ak lk ck,.bool f,.slice a n cc,.int .i64 p] 28)).alloc (.cells #[.int .i64 k',.string t',.int .i64 vk',.int .i64 vn',.string vs',.slice al' ll' cl',.slice ak' lk' ck',.bool f',.slice a' n' cc',.int .i64 p'] 28)=w2:=⟨_,rfl⟩
 rw [hw2] at TW
 obtain⟨g,hg⟩:∃g,w.heap.size=g:=⟨_,rfl⟩
 rw [hg] at TW
 have HT:=hide TW
 have HV:Hid (∀u,Below w2.heap.size w2 u→IsN u (fun b=>b<B) ⟨k,t,v,f,ks,p⟩ [.int .i64 k,.string t,.int .i64 vk,.int .i64 vn,.string vs,.slice al ll cl,.slice ak lk ck,.bool f,.slice a n cc,.int .i64 p]∧IsN u (fun b=>b<B) ⟨k',t',v',f',ks',p'⟩ [.int .i64 k',.string t',.int .i64 vk',.int .i64 vn',.string vs',.slice al' ll' cl',.slice ak' lk' ck',.bool f',.slice a' n' cc',.int .i64 p']∧RowN u B ks a cc∧RowN u B ks' a' cc'∧B≤u.heap.size∧Below w.heap.size w u∧IsV u B v (.agg #[.int .i64 vk,.int .i64 vn,.string vs,.slice al ll cl,.slice ak lk ck])∧IsV u B v' (.agg #[.int .i64 vk',.int .i64 vn',.string vs',.slice al' ll' cl',.slice ak' lk' ck'])):=
  hide (fun u hu=>by
   have h0:Below w.heap.size w u:=TW.below.trans (hu.mono (by have:=TW.size;omega))
   have h1:Below B w u:=h0.mono hB
   exact⟨hx.laterB h1,hx'.laterB h1,hr.later h1,hr'.later h1,by have:=TW.size;have:=hu.size;omega,h0,hv.mono h1,hv'.mono h1⟩)
 have HB:Hid (Below w.heap.size w w2):=hide TW.below
 have HGs:Hid (g≤w2.heap.size):=hide (by have:=TW.size;omega)
 obtain⟨R,hR⟩:∃R,saB ⟨k,t,v,f,ks,p⟩ ⟨k',t',v',f',ks',p'⟩=R:=⟨_,rfl⟩
 rw [hR]
 have HR:=hide hR
 clear TW hx hx' hr hr' hn hn' hR hB hv hv'
 obtain⟨c0,c1,c2,c3,c4,c5,c6,c7,c8,c9⟩:=row_ten (unhide HT).at0
 obtain⟨d0,d1,d2,d3,d4,d5,d6,d7,d8,d9⟩:=row_ten (unhide HT).at1
 have C1:=hide (small_any B ⟨k,t,v,f,ks,p⟩ _ w2 ((unhide HV) w2 (Below.refl _ _)).2.2.2.2.1 ((unhide HV) w2 (Below.refl _ _)).1)
 obtain⟨q1,hq1⟩:∃q,decide (cns [⟨k,t,v,f,ks,p⟩]≤20000)=q:=⟨_,rfl⟩
 rw [hq1] at C1
 have HQ1:=hide hq1
 clear hq1
 go_enter Tryz.func15,Tryz.ntmps15
 go_wp2_with fail
 refine(unhide C1).mono ?_
 rintro e w3 ⟨rfl,b3⟩
 have X3:=hide b3
 clear b3 C1 c0 c1 c2 c3 c4 c5 c6 c7 c8 c9 d0 d1 d2 d3 d4 d5 d6 d7 d8 d9
 cases q1 with
 |false=>
  have HG:Hid (R=false):=hide (by rw [←unhide HR];unfold saB;rw [unhide HQ1];simp)
  have XX:=hide ((unhide HV) w3 (unhide X3)).2.2.2.2.2.1
  go_wp2_with fail
  go_ret
  exact⟨by rw [unhide HG] <;> rfl,by first|exact unhide XX|(rw [←hg];exact unhide XX)⟩
 |true=>
  have V4:=(unhide HV) w3 (unhide X3)
  have C2:=hide (small_any B ⟨k',t',v',f',ks',p'⟩ _ w3 V4.2.2.2.2.1 V4.2.1)
  obtain⟨q2,hq2⟩:∃q,decide (cns [⟨k',t',v',f',ks',p'⟩]≤20000)=q:=⟨_,rfl⟩
  rw [hq2] at C2
  have HQ2:=hide hq2
  obtain⟨c0,c1,c2,c3,c4,c5,c6,c7,c8,c9⟩:=row_ten ((unhide HT).later (unhide X3)).1
  obtain⟨d0,d1,d2,d3,d4,d5,d6,d7,d8,d9⟩:=row_ten ((unhide HT).later (unhide X3)).2
  clear V4 hq2
  go_wp2_with fail
  refine(unhide C2).mono ?_
  rintro e w4 ⟨rfl,b4⟩
  have X4:=hide ((unhide X3).trans (b4.mono (unhide X3).size))
  clear b4 C2 c0 c1 c2 c3 c4 c5 c6 c7 c8 c9 d0 d1 d2 d3 d4 d5 d6 d7 d8 d9
  cases q2 with
  |false=>
   have HG:Hid (R=false):=hide (by rw [←unhide HR];unfold saB;rw [unhide HQ2];simp)
   have XX:=hide ((unhide HV) w4 (unhide X4)).2.2.2.2.2.1
   go_wp2_with fail
   go_ret
   exact⟨by rw [unhide HG] <;> rfl,by first|exact unhide XX|(rw [←hg];exact unhide XX)⟩
  |true=>
   have V5:=(unhide HV) w4 (unhide X4)
   have C3:=hide (smn_all _ ⟨k,t,v,f,ks,p⟩ ⟨k',t',v',f',ks',p'⟩ _ _ B w4 (Nat.le_refl _) V5.1 V5.2.1 V5.2.2.2.2.1)
   obtain⟨q3,hq3⟩:∃q,smN ⟨k,t,v,f,ks,p⟩ ⟨k',t',v',f',ks',p'⟩=q:=⟨_,rfl⟩
   rw [hq3] at C3
   have HG:Hid (R=q3):=hide (by rw [←unhide HR,←hq3];unfold saB;rw [unhide HQ1,unhide HQ2];rfl)
   obtain⟨c0,c1,c2,c3,c4,c5,c6,c7,c8,c9⟩:=row_ten ((unhide HT).later (unhide X4)).1
   obtain⟨d0,d1,d2,d3,d4,d5,d6,d7,d8,d9⟩:=row_ten ((unhide HT).later (unhide X4)).2
   clear V5 hq3
   go_wp2_with fail
   refine(unhide C3).mono ?_
   rintro e w5 ⟨rfl,b5⟩
   have X5:=hide ((unhide X4).trans (b5.mono (unhide X4).size))
   clear b5 C3 c0 c1 c2 c3 c4 c5 c6 c7 c8 c9 d0 d1 d2 d3 d4 d5 d6 d7 d8 d9
   have XX:=hide ((unhide HV) w5 (unhide X5)).2.2.2.2.2.1
   go_wp2_with fail
   go_ret
   exact⟨by rw [unhide HG] <;> rfl,by first|exact unhide XX|(rw [←hg];exact unhide XX)⟩
end Go.Proofs.YtekbmfppfjlboaaGreatDoor
