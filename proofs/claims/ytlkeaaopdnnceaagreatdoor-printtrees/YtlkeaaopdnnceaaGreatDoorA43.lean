/-
  Expr (the document's); the code's of what is none.
  The walks of alike and same: are two values the same, field by field? no conditions but the form's own reach.
  Layer 18, the statements' own alike; no conditions but the form's own reach.
  Layer 18, the statements' own same: of one value, wherever it lies; no conditions but the form's own reach.
  Conditions: where nodes are told of, they lie in memory.
-/
import Derived.Test.YtlkeaaopdnnceaaGreatDoorA41
import Derived.Test.YtlkeaaopdnnceaaGreatDoorA14
import Derived.Test.YtlkeaaopdnnceaaGreatDoorA10
import Derived.Deep.RegionHeld3
import Derived.Deep.QuietTactic
import Derived.BigQuiet
import Derived.Test.YtlkeaaopdnnceaaGreatDoorA31
set_option linter.unusedVariables false
set_option linter.unusedSimpArgs false
set_option maxRecDepth 100000
set_option maxHeartbeats 8000000
namespace Go.Proofs.YtlkeaaopdnnceaaGreatDoor
open Go.RowKit
set_option linter.unusedVariables false
set_option linter.unusedSimpArgs false
theorem rexpr_any (B0:Nat) (y:Tn) (x:List Value) (w:World) (hB:B0≤w.heap.size) (hx:IsN w (fun b=>b<B0) y x) :
  Calls Tryz.prog 10 #[.agg x.toArray] w fun e w'=>e=.returned ((exR y))∧Below w.heap.size w w':=by
 have hx0:=hx
 obtain⟨vk,vn,vs,al,ak,a,ll,cl,lk,ck,cc,rfl,hvv,hr,hbk,hbp⟩:=hx.opn
 obtain⟨k,t,v,f,ks,p⟩:=y
 obtain⟨n,hn⟩:∃n,ks.length=n:=⟨_,rfl⟩
 have hnb:n≤140737488351232:=by rw [←hn];exact hr.len
 simp only [hn] at hx0 hvv hr hbk hbp ⊢
 obtain⟨R,hR⟩:∃R,((exR ⟨k,t,v,f,ks,p⟩):Value)=R:=⟨_,rfl⟩
 rw [hR]
 have HR:=hZ hR
 obtain⟨w1,hw1⟩:∃w1,w.alloc (.cells #[.int .i64 k,.string t,.int .i64 vk,.int .i64 vn,.string vs,.slice al ll cl,.slice ak lk ck,.bool f,.slice a n cc,.int .i64 p] 28)=w1:=⟨_,rfl⟩
 obtain⟨G,hG⟩:∃G,w.heap.size=G:=⟨_,rfl⟩
 obtain⟨A1,X1⟩:=al1 hw1 hG
 have hBG:B0≤G:=by rw [←hG];exact hB
 have HM:Hid (NM5 B0 G w w1 ⟨k,t,v,f,ks,p⟩ [.int .i64 k,.string t,.int .i64 vk,.int .i64 vn,.string vs,.slice al ll cl,.slice ak lk ck,.bool f,.slice a n cc,.int .i64 p] ks a cc v (.agg #[.int .i64 vk,.int .i64 vn,.string vs,.slice al ll cl,.slice ak lk ck])):=hZ (fun u hu=>by
  have h2:=X1.trans (hu.mono (Nat.le_of_lt (lt_of_row A1)))
  exact⟨hx0.laterB (h2.mono hBG),hr.later (h2.mono hBG),Nat.le_trans hBG (by rw [←hG];exact h2.size),hvv.mono (h2.mono hBG),h2⟩)
 have HF:Hid (NF10 w1 G (.int .i64 k) (.string t) (.int .i64 vk) (.int .i64 vn) (.string vs) (.slice al ll cl) (.slice ak lk ck) (.bool f) (.slice a n cc) (.int .i64 p)):=hZ (fun u hu=>row_ten (Below.cellsAt hu A1))
 have HN:=hZ hn
 have HS0:Hid (Below w1.heap.size w1 w1):=hZ (Below.refl _ _)
 have HW:=hZ hw1
 clear A1 X1 hw1 hx hx0 hr hvv hB hBG hn hR
 go_enter Tryz.func10,Tryz.ntmps10
 go_upto_region 1 with fail
 rw [uZ HW]
 try rw [hG]
 clear HW
 obtain⟨x0,x1,x2,x3,x4,x5,x6,x7,x8,x9⟩:=uZ HF w1 (Below.refl _ _)
 have CE:=hZ (risex_any k w1)
 obtain⟨r,hr9⟩:∃r,isEx k=r:=⟨_,rfl⟩
 rw [hr9] at CE
 have HR9:=hZ hr9
 clear hr9
 go_wp2_with fail
 refine(uZ CE).mono ?_
 rintro e w2 ⟨rfl,bb⟩
 have HS2:=hZ bb
 clear bb CE x0 x1 x2 x3 x4 x5 x6 x7 x8 x9
 obtain⟨x0,x1,x2,x3,x4,x5,x6,x7,x8,x9⟩:=uZ HF w2 (uZ HS2)
 cases r with
 |false=>
  have HV:=hZ (show R=.tuple #[.string ⟨#[]⟩,.int .i64 180] by rw [←uZ HR];unfold exR;rw [if_neg (by rintro ⟨h,_⟩;simp only at h;rw [uZ HR9] at h;cases h)])
  go_wp2_with fail
  go_ret2
  have hbz:=((uZ HM) w2 (uZ HS2)).2.2.2.2
  exact⟨by rw [uZ HV] <;> rfl,by subst hG;exact hbz⟩
 |true=>
  have CF:=hZ (fits_any B0 ⟨k,t,v,f,ks,p⟩ _ w2 ((uZ HM) w2 (uZ HS2)).2.2.1 ((uZ HM) w2 (uZ HS2)).1)
  obtain⟨q,hq⟩:∃q,decide (cns [⟨k,t,v,f,ks,p⟩]≤20000)=q:=⟨_,rfl⟩
  rw [hq] at CF
  have HQ:=hZ hq
  clear hq
  go_wp2_with fail
  refine(uZ CF).mono ?_
  rintro e w3 ⟨rfl,bb⟩
  have HS3:=hZ ((uZ HS2).trans (bb.mono (uZ HS2).size))
  clear bb CF x0 x1 x2 x3 x4 x5 x6 x7 x8 x9
  obtain⟨x0,x1,x2,x3,x4,x5,x6,x7,x8,x9⟩:=uZ HF w3 (uZ HS3)
  cases q with
  |false=>
   have HV:=hZ (show R=.tuple #[.string ⟨#[]⟩,.int .i64 180] by rw [←uZ HR];unfold exR;rw [if_neg (by rintro ⟨_,h⟩;unfold rgB at h;rw [uZ HQ] at h;cases h)])
   go_wp2_with fail
   go_ret2
   have hbz:=((uZ HM) w3 (uZ HS3)).2.2.2.2
   exact⟨by rw [uZ HV] <;> rfl,by subst hG;exact hbz⟩
  |true=>
   have CR:=hZ (rrg_all _ B0 ⟨k,t,v,f,ks,p⟩ _ 0 w3 (Nat.le_refl _) ((uZ HM) w3 (uZ HS3)).2.2.1 ((uZ HM) w3 (uZ HS3)).1 (by omega))
   obtain⟨s,hs⟩:∃r,(fmB ⟨k,t,v,f,ks,p⟩ && decide (0+dpN ⟨k,t,v,f,ks,p⟩≤24))=r:=⟨_,rfl⟩
   rw [hs] at CR
   have HRG:=hZ (show rgB ⟨k,t,v,f,ks,p⟩=s by rw [←hs];unfold rgB;rw [uZ HQ,Nat.zero_add];rfl)
   clear hs
   go_wp2_with fail
   refine(uZ CR).mono ?_
   rintro e w4 ⟨rfl,bb⟩
   have HS4:=hZ ((uZ HS3).trans (bb.mono (uZ HS3).size))
   clear bb CR x0 x1 x2 x3 x4 x5 x6 x7 x8 x9
   obtain⟨x0,x1,x2,x3,x4,x5,x6,x7,x8,x9⟩:=uZ HF w4 (uZ HS4)
   cases s with
   |false=>
    have HV:=hZ (show R=.tuple #[.string ⟨#[]⟩,.int .i64 180] by rw [←uZ HR];unfold exR;rw [if_neg (by rintro ⟨_,h⟩;rw [uZ HRG] at h;cases h)])
    go_wp2_with fail
    go_ret2
    have hbz:=((uZ HM) w4 (uZ HS4)).2.2.2.2
    exact⟨by rw [uZ HV] <;> rfl,by subst hG;exact hbz⟩
   |true=>
    have hrg:=uZ HRG
    have hfm:fmB ⟨k,t,v,f,ks,p⟩=true∧cns [⟨k,t,v,f,ks,p⟩]≤20000:=by unfold rgB at hrg;simp only [Bool.and_eq_true,decide_eq_true_eq] at hrg;exact⟨hrg.1.2,hrg.1.1⟩
    have CX:=hZ (rex_all 25000 B0 ⟨k,t,v,f,ks,p⟩ (by have:=hfm.2;omega) (by omega) hfm.1 (by simp only [isP];rw [uZ HR9];rfl) _ w4 ((uZ HM) w4 (uZ HS4)).2.2.1 ((uZ HM) w4 (uZ HS4)).1)
    have HV:=hZ (show R=.tuple #[.string (bA (exT ⟨k,t,v,f,ks,p⟩)),.int .i64 0] by rw [←uZ HR];unfold exR;rw [if_pos ⟨uZ HR9,uZ HRG⟩])
    obtain⟨S,hS⟩:∃S,bA (exT ⟨k,t,v,f,ks,p⟩)=S:=⟨_,rfl⟩
    rw [hS] at CX HV
    clear hfm hrg hS HR
    go_wp2_with fail
    refine(uZ CX).mono ?_
    rintro e w5 ⟨rfl,bb⟩
    have HS5:=hZ ((uZ HS4).trans (bb.mono (uZ HS4).size))
    clear bb CX x0 x1 x2 x3 x4 x5 x6 x7 x8 x9
    go_wp2_with fail
    go_ret2
    have hbz:=((uZ HM) w5 (uZ HS5)).2.2.2.2
    exact⟨by rw [uZ HV] <;> rfl,by subst hG;exact hbz⟩
theorem pexpr_no (B0:Nat) (y:Tn) (x:List Value) (w:World) (hB:B0≤w.heap.size) (hx:IsN w (fun b=>b<B0) y x) (hno:¬(isEx y.k=true∧rgB y=true)) :
  Calls Tryz.prog 8 #[.agg x.toArray] w fun e w'=>e=.returned (.tuple #[.string ⟨#[]⟩,.int .i64 180])∧Below w.heap.size w w':=by
 have hx0:=hx
 obtain⟨vk,vn,vs,al,ak,a,ll,cl,lk,ck,cc,rfl,hvv,hr,hbk,hbp⟩:=hx.opn
 obtain⟨k,t,v,f,ks,p⟩:=y
 obtain⟨n,hn⟩:∃n,ks.length=n:=⟨_,rfl⟩
 have hnb:n≤140737488351232:=by rw [←hn];exact hr.len
 simp only at hno
 simp only [hn] at hx0 hvv hr hbk hbp ⊢
 obtain⟨w1,hw1⟩:∃w1,w.alloc (.cells #[.int .i64 k,.string t,.int .i64 vk,.int .i64 vn,.string vs,.slice al ll cl,.slice ak lk ck,.bool f,.slice a n cc,.int .i64 p] 28)=w1:=⟨_,rfl⟩
 obtain⟨G,hG⟩:∃G,w.heap.size=G:=⟨_,rfl⟩
 obtain⟨A1,X1⟩:=al1 hw1 hG
 have hBG:B0≤G:=by rw [←hG];exact hB
 have HM:Hid (NM5 B0 G w w1 ⟨k,t,v,f,ks,p⟩ [.int .i64 k,.string t,.int .i64 vk,.int .i64 vn,.string vs,.slice al ll cl,.slice ak lk ck,.bool f,.slice a n cc,.int .i64 p] ks a cc v (.agg #[.int .i64 vk,.int .i64 vn,.string vs,.slice al ll cl,.slice ak lk ck])):=hZ (fun u hu=>by
  have h2:=X1.trans (hu.mono (Nat.le_of_lt (lt_of_row A1)))
  exact⟨hx0.laterB (h2.mono hBG),hr.later (h2.mono hBG),Nat.le_trans hBG (by rw [←hG];exact h2.size),hvv.mono (h2.mono hBG),h2⟩)
 have HF:Hid (NF10 w1 G (.int .i64 k) (.string t) (.int .i64 vk) (.int .i64 vn) (.string vs) (.slice al ll cl) (.slice ak lk ck) (.bool f) (.slice a n cc) (.int .i64 p)):=hZ (fun u hu=>row_ten (Below.cellsAt hu A1))
 have HN:=hZ hn
 have HS0:Hid (Below w1.heap.size w1 w1):=hZ (Below.refl _ _)
 have HW:=hZ hw1
 have HNO:=hZ hno
 clear hno
 clear A1 X1 hw1 hx hx0 hr hvv hB hBG hn
 go_enter Tryz.func8,Tryz.ntmps8
 go_upto_region 1 with fail
 rw [uZ HW]
 try rw [hG]
 clear HW
 obtain⟨x0,x1,x2,x3,x4,x5,x6,x7,x8,x9⟩:=uZ HF w1 (Below.refl _ _)
 have CC:=hZ (isExpr_any k vk vn p t vs al ak a ll cl lk ck n cc f w1)
 obtain⟨r,hr9⟩:∃r,isEx k=r:=⟨_,rfl⟩
 rw [hr9] at CC
 have HR9:=hZ hr9
 clear hr9
 go_wp2_with fail
 refine(uZ CC).mono ?_
 rintro e w2 ⟨rfl,bb⟩
 have HS2:=hZ bb
 clear bb CC x0 x1 x2 x3 x4 x5 x6 x7 x8 x9
 obtain⟨x0,x1,x2,x3,x4,x5,x6,x7,x8,x9⟩:=uZ HF w2 (uZ HS2)
 cases r with
 |false=>
  go_wp2_with fail
  go_ret2
  have hbz:=((uZ HM) w2 (uZ HS2)).2.2.2.2
  exact⟨rfl,by subst hG;exact hbz⟩
 |true=>
  have hrg:rgB ⟨k,t,v,f,ks,p⟩=false:=by
   cases h:rgB ⟨k,t,v,f,ks,p⟩ with
   |false=>rfl
   |true=>exact absurd ⟨uZ HR9,h⟩ (uZ HNO)
  have CR:=hZ (right_node B0 ⟨k,t,v,f,ks,p⟩ _ w2 ((uZ HM) w2 (uZ HS2)).2.2.1 ((uZ HM) w2 (uZ HS2)).1)
  rw [hrg] at CR
  clear hrg
  go_wp2_with fail
  refine(uZ CR).mono ?_
  rintro e w3 ⟨rfl,bb⟩
  have HS3:=hZ ((uZ HS2).trans (bb.mono (uZ HS2).size))
  clear bb CR x0 x1 x2 x3 x4 x5 x6 x7 x8 x9
  go_wp2_with fail
  go_ret2
  have hbz:=((uZ HM) w3 (uZ HS3)).2.2.2.2
  exact⟨rfl,by subst hG;exact hbz⟩
theorem sameL_next:∀(l l':List Vl) (i:Nat) (x y:Vl),l[i]?=some x→l'[i]?=some y→sameL (l.take (i+1)) (l'.take (i+1))=(sameL (l.take i) (l'.take i) && sameB x y)
 |[],_,i,x,y,h,_=>by simp at h
 |_ :: _,[],i,x,y,_,h=>by simp at h
 |a :: l,b :: l',0,x,y,h,h'=>by
  simp at h h'
  subst h
  subst h'
  simp [sameL_cons,sameL_nil]
 |a :: l,b :: l',i+1,x,y,h,h'=>by
  have ih:=sameL_next l l' i x y (by simpa using h) (by simpa using h')
  rw [List.take_succ_cons,List.take_succ_cons,List.take_succ_cons,List.take_succ_cons,sameL_cons,sameL_cons,ih,Bool.and_assoc]
theorem sameL_no (l l':List Vl) (i:Nat) (x y:Vl) (h:l[i]?=some x) (h':l'[i]?=some y) (hl:l.length=l'.length) (hs:sameB x y=false):sameL l l'=false:=by
 cases hc:sameL l l' with
 |false=>rfl
 |true=>
  have e:=(sameL_iff l l' hl).1 hc
  rw [e,h'] at h
  have:=(sameB_iff x y).2 (Option.some.inj h).symm
  rw [hs] at this
  cases this
theorem take_next {α:Type} (ks ks':List α) (i:Nat) (t:α) (h:ks[i]?=some t) (h':ks'[i]?=some t) (he:ks.take i=ks'.take i):ks.take (i+1)=ks'.take (i+1):=by
 obtain⟨h1,e1⟩:=List.getElem?_eq_some_iff.1 h
 obtain⟨h2,e2⟩:=List.getElem?_eq_some_iff.1 h'
 rw [List.take_succ_eq_append_getElem h1,List.take_succ_eq_append_getElem h2,he,e1,e2]
structure TwoL (w w2:World) (g:Nat) (T:TypeId) (x y:Array Value):Prop where
 at0:w2.heap[g]?=some (.cells x T (0,0))
 at1:w2.heap[g+1]?=some (.cells y T (0,0))
 size:w2.heap.size=g+2
 below:Below w.heap.size w w2
theorem TwoL.mk' (w:World) (T:TypeId) (x y:Array Value):TwoL w ((w.alloc (.cells x T)).alloc (.cells y T)) w.heap.size T x y:=by
 have h1:Below w.heap.size w ((w.alloc (.cells x T)).alloc (.cells y T)):=((Below.refl _ _).alloc (Nat.le_refl _) _).alloc (by simp) _
 refine⟨?_,?_,by simp,h1⟩
 ·have:=((Below.refl (w.alloc (.cells x T)).heap.size (w.alloc (.cells x T))).alloc (Nat.le_refl _) (.cells y T)).block w.heap.size (by simp)
  rw [this]
  exact heap_alloc_new w _
 ·have:=heap_alloc_new (w.alloc (.cells x T)) (.cells y T)
  simpa using this
theorem TwoL.later {w w2 u:World} {g:Nat} {T:TypeId} {x y:Array Value} (h:TwoL w w2 g T x y) (hb:Below w2.heap.size w2 u):u.heap[g]?=some (.cells x T (0,0))∧u.heap[g+1]?=some (.cells y T (0,0)):=by
 have:=h.size
 exact⟨(hb.block g (by omega)).trans h.at0,(hb.block (g+1) (by omega)).trans h.at1⟩
def AlikeAt (b:Nat):Prop:=∀(v v':Vl) (x x':Value) (B:Nat) (w:World),dep v≤b→IsV w B v x→IsV w B v' x'→B≤w.heap.size →
  Calls Tryz.prog 94 #[x,x'] w fun e w'=>e=.returned (.bool (sameB v v'))∧Below w.heap.size w w'
theorem alike_zero:AlikeAt 0:=by
 intro v v' x x' B w h
 have:=dep_pos v
 omega
theorem alike_step (b:Nat) (ih:AlikeAt b):AlikeAt (b+1):=by
 intro v v' x x' B w hd hv hv' hBs
 obtain⟨k,n,s,l,ks,al,ak,cl,ck,rfl,rfl⟩:=hv.shape
 obtain⟨k',n',s',l',ks',al',ak',cl',ck',rfl,rfl⟩:=hv'.shape
 obtain⟨m,hm⟩:∃m,ks.length=m:=⟨_,rfl⟩
 obtain⟨ln,hln⟩:∃ln,l.length=ln:=⟨_,rfl⟩
 obtain⟨m',hm'⟩:∃m',ks'.length=m':=⟨_,rfl⟩
 obtain⟨ln',hln'⟩:∃ln',l'.length=ln':=⟨_,rfl⟩
 rw [hm,hln] at hv
 rw [hm',hln'] at hv'
 rw [hm,hln,hm',hln']
 have hb1:(ln≤140737488351232∧ln'≤140737488351232)∧m≤140737488351232∧m'≤140737488351232:=by
  obtain⟨_,_,_,h1,h2,V,hf,_⟩:=IsP.at hv
  obtain⟨_,_,_,h1',h2',V',hf',_⟩:=IsP.at hv'
  have:=hf.bl
  have:=hf'.bl
  have:=hf.bc
  have:=hf'.bc
  omega
 obtain⟨⟨hlb,hlb'⟩,hmb,hmb'⟩:=hb1
 have TW:=TwoL.mk' w 26 #[.int .i64 k,.int .i64 n,.string s,.slice al ln cl,.slice ak m ck] #[.int .i64 k',.int .i64 n',.string s',.slice al' ln' cl',.slice ak' m' ck']
 obtain⟨w2,hw2⟩:∃w2,(w.alloc (.cells #[.int .i64 k,.int .i64 n,.string s,.slice al ln cl,.slice ak m ck] 26)).alloc (.cells #[.int .i64 k',.int .i64 n',.string s',.slice al' ln' cl',.slice ak' m' ck'] 26)=w2:=⟨_,rfl⟩
 rw [hw2] at TW
 obtain⟨g,hg⟩:∃g,w.heap.size=g:=⟨_,rfl⟩
 rw [hg] at TW
 have HT:=hZ TW
 have HV:Hid (∀u,Below w2.heap.size w2 u→IsV u B (.mk k n s l ks) (.agg #[.int .i64 k,.int .i64 n,.string s,.slice al ln cl,.slice ak m ck])∧IsV u B (.mk k' n' s' l' ks') (.agg #[.int .i64 k',.int .i64 n',.string s',.slice al' ln' cl',.slice ak' m' ck'])):=
  hZ (fun u hu=>by
   have h1:Below B w u:=(TW.below.mono (by omega)).trans (hu.mono (by have:=TW.size;omega))
   exact⟨hv.mono h1,hv'.mono h1⟩)
 have HB:Hid (Below w.heap.size w w2):=hZ TW.below
 obtain⟨c0,c1,c2,c3,c4⟩:=row_cell TW.at0
 obtain⟨d0,d1,d2,d3,d4⟩:=row_cell TW.at1
 have HL:=hZ (And.intro hm (And.intro hln (And.intro hm' hln')))
 have hdl:∀i y,l[i]?=some y→dep y≤b:=fun i y h=>by have h1:=dep_elem l i y h;simp only [dep] at hd;omega
 have HD:=hZ hdl
 clear TW hv hv' hm hln hm' hln' hdl hd
 by_cases h1:k=k'
 ·subst h1
  by_cases h2:n=n'
  ·subst h2
   cases h3:(s.toList == s'.toList) with
   |true=>
    by_cases h4:ln=ln'
    ·subst h4
     by_cases h5:m=m'
     ·subst h5
      have HG:Hid (sameB (.mk k n s l ks) (.mk k n s' l' ks')=(decide (ks=ks') && sameL l l')):=hZ (by
       obtain⟨e1,e2,e3,e4⟩:=uZ HL
       simp only [sameB]
       rw [h3,e2,e4]
       simp)
      have hs1:(!(s.toList == s'.toList))=false:=by rw [h3];rfl
      clear h3
      go_enter Tryz.func94,Tryz.ntmps94
      go_wp2_with fail
      clear c0 c1 c2 c3 c4 d0 d1 d2 d3 d4
      go_loopw [5] (fun x wr=>∃(i:Nat),i≤m∧x=.int .i64 i∧Hid (Below w2.heap.size w2 wr)∧Hid (ks.take i=ks'.take i)) (fun x _=>m - (intOf x).toNat)
      case atStart=>exact⟨0,Nat.zero_le _,rfl,hZ (Below.refl _ _),hZ rfl⟩
      case round=>
       obtain⟨i,hi,rfl,HX,HR⟩:=hrel
       obtain⟨r0,r1⟩:=(uZ HT).later (uZ HX)
       obtain⟨c0,c1,c2,c3,c4⟩:=row_cell r0
       obtain⟨d0,d1,d2,d3,d4⟩:=row_cell r1
       clear r0 r1
       by_cases hlt:i<m
       ·have i2:(i:Int)<(m:Int):=by omega
        obtain⟨v1,v2⟩:=uZ HV wr (uZ HX)
        obtain⟨tk,htk⟩:∃tk,ks[i]?=some tk:=⟨_,List.getElem?_eq_getElem (by have:=(uZ HL).1;omega)⟩
        obtain⟨tk',htk'⟩:∃tk',ks'[i]?=some tk':=⟨_,List.getElem?_eq_getElem (by have:=(uZ HL).2.2.1;omega)⟩
        obtain⟨a2,rfl⟩:∃a2,ak=some a2:=by
         cases ak with
         |none=>have h1:=v1.keys.1.none rfl;have h2:=(uZ HL).1;omega
         |some a2=>exact⟨a2,rfl⟩
        obtain⟨a2',rfl⟩:∃a2',ak'=some a2':=by
         cases ak' with
         |none=>have h1:=v2.keys.1.none rfl;have h2:=(uZ HL).2.2.1;omega
         |some a2=>exact⟨a2,rfl⟩
        have cK:=v1.keys.1.cell a2 rfl i tk htk
        have cK':=v2.keys.1.cell a2' rfl i tk' htk'
        have HTK:=hZ (And.intro htk htk')
        have HI1:Hid (i+1≤m):=hZ (by omega)
        clear v1 v2 htk htk'
        go_upto_region 6 with fail
        cases hbe:(tk.toList == tk'.toList) with
        |true=>
         have HR':Hid (ks.take (i+1)=ks'.take (i+1)):=hZ (by
          have e:=(bytes_beq tk tk').1 hbe
          exact take_next ks ks' i tk (uZ HTK).1 (by rw [e];exact(uZ HTK).2) (uZ HR))
         go_quiet (fail)
         go_wp2_with fail
         go_roundw
         case rel=>exact⟨i+1,uZ HI1,by go_num,hZ (below_drewP (uZ HX) _),HR'⟩
         case measure=>have:=uZ HI1;simp [intOf];omega
        |false=>
         have HG2:Hid (sameB (.mk k n s l ks) (.mk k n s' l' ks')=false):=hZ (by
          have hne:¬ks=ks':=fun e=>by
           have h1:=(uZ HTK).1
           rw [e,(uZ HTK).2] at h1
           have h2:=(bytes_beq tk tk').2 (Option.some.inj h1).symm
           rw [hbe] at h2
           cases h2
          rw [uZ HG,decide_eq_false hne];rfl)
         go_quiet (fail)
         go_wp2_with fail
         go_ret
         have XX:Below w.heap.size w (wr.drewN nq):=(uZ HB).trans ((below_drewP (uZ HX) _).mono (by have:=(uZ HT).size;omega))
         exact⟨by rw [uZ HG2];rfl,by first|exact XX|(rw [←hg];exact XX)⟩
       ·have i2:¬(i:Int)<(m:Int):=by omega
        have HK:Hid (ks=ks'):=hZ (by
         have h:=uZ HR
         have e1:=(uZ HL).1
         have e3:=(uZ HL).2.2.1
         rw [List.take_of_length_le (by omega),List.take_of_length_le (by omega)] at h
         exact h)
        have HX0:=HX
        clear HR HX
        go_wp2_with fail
        clear c0 c1 c2 c3 c4 d0 d1 d2 d3 d4
        go_loopw [6] (fun x wr=>∃(i:Nat),i≤ln∧x=.int .i64 i∧Hid (Below w2.heap.size w2 wr)∧Hid (sameL (l.take i) (l'.take i)=true)) (fun x _=>ln - (intOf x).toNat)
        case atStart=>exact⟨0,Nat.zero_le _,rfl,HX0,hZ (by simp [sameL])⟩
        case round=>
         clear HX0
         obtain⟨i,hi,rfl,HX,HR⟩:=hrel
         obtain⟨wq,hwq⟩:∃wq,wq=wr:=⟨_,rfl⟩
         subst hwq
         obtain⟨r0,r1⟩:=(uZ HT).later (uZ HX)
         obtain⟨c0,c1,c2,c3,c4⟩:=row_cell r0
         obtain⟨d0,d1,d2,d3,d4⟩:=row_cell r1
         clear r0 r1
         by_cases hlt:i<ln
         ·have i3:(i:Int)<(ln:Int):=by omega
          obtain⟨v1,v2⟩:=uZ HV _ (uZ HX)
          obtain⟨y,hy⟩:∃y,l[i]?=some y:=⟨_,List.getElem?_eq_getElem (by have:=(uZ HL).2.1;omega)⟩
          obtain⟨y',hy'⟩:∃y',l'[i]?=some y':=⟨_,List.getElem?_eq_getElem (by have:=(uZ HL).2.2.2;omega)⟩
          have HY:=hZ (And.intro hy hy')
          have HVc:=hZ (And.intro v1 v2)
          clear v1 v2 hy hy'
          obtain⟨a,y0,y1,y2,bl,bk,ll',mm,cl1,ck1,rfl,hab,hce,hve⟩:=(uZ HVc).1.elem i y (uZ HY).1
          obtain⟨a',z0,z1,z2,bl',bk',zl',zm,cl2,ck2,rfl,hab',hce',hve'⟩:=(uZ HVc).2.elem i y' (uZ HY).2
          have e0:wq.cell? (a.add (i * 5))=some (.int .i64 y0):=hce 0 _ rfl
          have e1:wq.cell? ⟨(a.add (i * 5)).block,(a.add (i * 5)).off+1,none⟩=some (.int .i64 y1):=hce 1 _ rfl
          have e2:wq.cell? ⟨(a.add (i * 5)).block,(a.add (i * 5)).off+2,none⟩=some (.string y2):=hce 2 _ rfl
          have e3:wq.cell? ⟨(a.add (i * 5)).block,(a.add (i * 5)).off+3,none⟩=some (.slice bl ll' cl1):=hce 3 _ rfl
          have e4:wq.cell? ⟨(a.add (i * 5)).block,(a.add (i * 5)).off+4,none⟩=some (.slice bk mm ck1):=hce 4 _ rfl
          have f0:wq.cell? (a'.add (i * 5))=some (.int .i64 z0):=hce' 0 _ rfl
          have f1:wq.cell? ⟨(a'.add (i * 5)).block,(a'.add (i * 5)).off+1,none⟩=some (.int .i64 z1):=hce' 1 _ rfl
          have f2:wq.cell? ⟨(a'.add (i * 5)).block,(a'.add (i * 5)).off+2,none⟩=some (.string z2):=hce' 2 _ rfl
          have f3:wq.cell? ⟨(a'.add (i * 5)).block,(a'.add (i * 5)).off+3,none⟩=some (.slice bl' zl' cl2):=hce' 3 _ rfl
          have f4:wq.cell? ⟨(a'.add (i * 5)).block,(a'.add (i * 5)).off+4,none⟩=some (.slice bk' zm ck2):=hce' 4 _ rfl
          have hBc:B≤wq.heap.size:=by have:=(uZ HX).size;have:=(uZ HT).size;omega
          have hdr:Below wq.heap.size wq wq.drew:=(Below.refl _ _).drew
          have CR:=hZ (ih y y' _ _ B wq.drew (uZ HD i y (uZ HY).1) (hve.mono (hdr.mono hBc)) (hve'.mono (hdr.mono hBc)) (by have:=hdr.size;omega))
          obtain⟨R,hR⟩:∃R,sameB y y'=R:=⟨_,rfl⟩
          rw [hR] at CR
          have HRR:=hZ hR
          clear hR hce hce' hve hve' hdr
          go_upto_region 11 with fail
          go_cut [7] from 70 to 82 (fun r wx=>r=.bool R∧Hid (Below w2.heap.size w2 wx))
          case first=>
           go_region_held3 (fun w'=>w'.cell? ⟨g,3,none⟩=some (.slice (some a) ln cl)∧w'.cell? ⟨g+1,3,none⟩=some (.slice (some a') ln cl') ∧
             w'.cell? (a.add (i * 5))=some (.int .i64 y0)∧w'.cell? ⟨(a.add (i * 5)).block,(a.add (i * 5)).off+1,none⟩=some (.int .i64 y1)∧w'.cell? ⟨(a.add (i * 5)).block,(a.add (i * 5)).off+2,none⟩=some (.string y2)∧w'.cell? ⟨(a.add (i * 5)).block,(a.add (i * 5)).off+3,none⟩=some (.slice bl ll' cl1)∧w'.cell? ⟨(a.add (i * 5)).block,(a.add (i * 5)).off+4,none⟩=some (.slice bk mm ck1) ∧
             w'.cell? (a'.add (i * 5))=some (.int .i64 z0)∧w'.cell? ⟨(a'.add (i * 5)).block,(a'.add (i * 5)).off+1,none⟩=some (.int .i64 z1)∧w'.cell? ⟨(a'.add (i * 5)).block,(a'.add (i * 5)).off+2,none⟩=some (.string z2)∧w'.cell? ⟨(a'.add (i * 5)).block,(a'.add (i * 5)).off+3,none⟩=some (.slice bl' zl' cl2)∧w'.cell? ⟨(a'.add (i * 5)).block,(a'.add (i * 5)).off+4,none⟩=some (.slice bk' zm ck2))
            (first|go_keep|(have hb6:=below_drew_of' b5;exact⟨cell_later hb6 c3,cell_later hb6 d3,cell_later hb6 e0,cell_later hb6 e1,cell_later hb6 e2,cell_later hb6 e3,cell_later hb6 e4,cell_later hb6 f0,cell_later hb6 f1,cell_later hb6 f2,cell_later hb6 f3,cell_later hb6 f4⟩))
            (first|(go_at_call 94;refine(uZ CR).mono ?_;rintro e w5 ⟨rfl,b5⟩))
           have HX5:Hid (Below w2.heap.size w2 w5):=hZ ((uZ HX).trans ((below_drew_of' b5).mono (uZ HX).size))
           clear b5 CR
           go_wp2_with fail
           go_meet
           exact⟨rfl,HX5⟩
          case rest=>
           obtain⟨rfl,HX5⟩:=hcut
           clear c0 c1 c2 c3 c4 d0 d1 d2 d3 d4 e0 e1 e2 e3 e4 f0 f1 f2 f3 f4 CR HVc HX
           have HI1:Hid (i+1≤ln):=hZ (by omega)
           cases R with
           |true=>
            have HR':Hid (sameL (l.take (i+1)) (l'.take (i+1))=true):=hZ (by
             rw [sameL_next l l' i y y' (uZ HY).1 (uZ HY).2,uZ HR,uZ HRR];rfl)
            go_wp2_with fail
            go_roundw
            case rel=>exact⟨i+1,uZ HI1,by go_num,HX5,HR'⟩
            case measure=>have:=uZ HI1;simp [intOf];omega
           |false=>
            have HG2:Hid (sameB (.mk k n s l ks) (.mk k n s' l' ks')=false):=hZ (by
             obtain⟨e1,e2,e3,e4⟩:=uZ HL
             rw [uZ HG,sameL_no l l' i y y' (uZ HY).1 (uZ HY).2 (by omega) (uZ HRR),Bool.and_false])
            go_wp2_with fail
            go_ret
            exact⟨by rw [uZ HG2];rfl,by first|exact(uZ HB).trans ((uZ HX5).mono (by have:=(uZ HT).size;omega))|(rw [←hg];exact(uZ HB).trans ((uZ HX5).mono (by have:=(uZ HT).size;omega)))⟩
         ·have i3:¬(i:Int)<(ln:Int):=by omega
          have HG2:Hid (sameB (.mk k n s l ks) (.mk k n s' l' ks')=true):=hZ (by
           obtain⟨e1,e2,e3,e4⟩:=uZ HL
           have h:=uZ HR
           rw [List.take_of_length_le (by omega),List.take_of_length_le (by omega)] at h
           rw [uZ HG,h,decide_eq_true (uZ HK)];rfl)
          go_wp2_with fail
          go_ret
          exact⟨by rw [uZ HG2];rfl,by first|exact(uZ HB).trans ((uZ HX).mono (by have:=(uZ HT).size;omega))|(rw [←hg];exact(uZ HB).trans ((uZ HX).mono (by have:=(uZ HT).size;omega)))⟩
     ·have h5':(m:Int)≠(m':Int):=by omega
      have hs1:(!(s.toList == s'.toList))=false:=by rw [h3];rfl
      have HG:Hid (sameB (.mk k n s l ks) (.mk k n s' l' ks')=false):=hZ (by
       obtain⟨e1,e2,e3,e4⟩:=uZ HL
       have:¬ks=ks':=fun e=>h5 (by rw [←e1,←e3,e])
       simp [sameB,this])
      have hb:((m:Int) != (m':Int))=true:=by simpa using h5'
      clear h5 h5' h3
      go_enter Tryz.func94,Tryz.ntmps94
      go_wp2_with fail
      go_ret
      exact⟨by rw [uZ HG];rfl,by first|exact uZ HB|(rw [←hg];exact uZ HB)⟩
    ·have h4':(ln:Int)≠(ln':Int):=by omega
     have hs1:(!(s.toList == s'.toList))=false:=by rw [h3];rfl
     have HG:Hid (sameB (.mk k n s l ks) (.mk k n s' l' ks')=false):=hZ (by
      obtain⟨e1,e2,e3,e4⟩:=uZ HL
      simp [sameB,e2,e4,h4])
     have hb:((ln:Int) != (ln':Int))=true:=by simpa using h4'
     clear h4 h4' h3
     go_enter Tryz.func94,Tryz.ntmps94
     go_wp2_with fail
     go_ret
     exact⟨by rw [uZ HG];rfl,by first|exact uZ HB|(rw [←hg];exact uZ HB)⟩
   |false=>
    have HG:Hid (sameB (.mk k n s l ks) (.mk k n s' l' ks')=false):=hZ (by simp only [sameB];rw [h3];simp)
    have hs1:(!(s.toList == s'.toList))=true:=by rw [h3];rfl
    go_enter Tryz.func94,Tryz.ntmps94
    go_wp2_with fail
    go_ret
    exact⟨by rw [uZ HG];rfl,by first|exact uZ HB|(rw [←hg];exact uZ HB)⟩
  ·have HG:Hid (sameB (.mk k n s l ks) (.mk k n' s' l' ks')=false):=hZ (by simp [sameB,h2])
   have hb:(n != n')=true:=by simpa using h2
   clear h2
   go_enter Tryz.func94,Tryz.ntmps94
   go_wp2_with fail
   go_ret
   exact⟨by rw [uZ HG];rfl,by first|exact uZ HB|(rw [←hg];exact uZ HB)⟩
 ·have HG:Hid (sameB (.mk k n s l ks) (.mk k' n' s' l' ks')=false):=hZ (by simp [sameB,h1])
  have hb:(k != k')=true:=by simpa using h1
  clear h1
  go_enter Tryz.func94,Tryz.ntmps94
  go_wp2_with fail
  go_ret
  exact⟨by rw [uZ HG];rfl,by first|exact uZ HB|(rw [←hg];exact uZ HB)⟩
theorem alike_any:∀b,AlikeAt b
 |0=>alike_zero
 |b+1=>alike_step b (alike_any b)
theorem sameV_any (v:Vl) (x y:Value) (B:Nat) (w:World) (hx:IsV w B v x) (hy:IsV w B v y) (hBs:B≤w.heap.size) :
  Calls Tryz.prog 57 #[x,y] w fun e w'=>e=.returned (.bool true)∧Below w.heap.size w w':=by
 have hx':=hx
 have hy':=hy
 obtain⟨k,n,s,l,ks,al,ak,cl,ck,hv,hxe⟩:=hx.shape
 obtain⟨k2,n2,s2,l2,ks2,al2,ak2,cl2,ck2,hv2,hye⟩:=hy.shape
 obtain⟨ll,hll⟩:∃ll,l.length=ll:=⟨_,rfl⟩
 obtain⟨m,hm⟩:∃m,ks.length=m:=⟨_,rfl⟩
 obtain⟨ll2,hll2⟩:∃ll2,l2.length=ll2:=⟨_,rfl⟩
 obtain⟨m2,hm2⟩:∃m2,ks2.length=m2:=⟨_,rfl⟩
 rw [hll,hm] at hxe
 rw [hll2,hm2] at hye
 subst hxe
 subst hye
 obtain⟨G,hG⟩:∃G,w.heap.size=G:=⟨_,rfl⟩
 obtain⟨w1,hw1⟩:∃w1,w.alloc (.cells #[.int .i64 k,.int .i64 n,.string s,.slice al ll cl,.slice ak m ck] 26)=w1:=⟨_,rfl⟩
 have z1:w1.heap.size=G+1:=by rw [←hw1,←hG];simp
 have A1:=(al1 hw1 hG).1
 have B1:Below w.heap.size w w1:=by rw [←hw1];exact(Below.refl _ _).alloc (Nat.le_refl _) _
 obtain⟨w2,hw2⟩:∃w2,w1.alloc (.cells #[.int .i64 k2,.int .i64 n2,.string s2,.slice al2 ll2 cl2,.slice ak2 m2 ck2] 26)=w2:=⟨_,rfl⟩
 have A2:w2.heap[G+1]?=some (.cells #[.int .i64 k2,.int .i64 n2,.string s2,.slice al2 ll2 cl2,.slice ak2 m2 ck2] 26 (0,0)):=by rw [←hw2,←z1];exact heap_alloc_new _ _
 have B2:Below w1.heap.size w1 w2:=by rw [←hw2];exact(Below.refl _ _).alloc (Nat.le_refl _) _
 have BW:Below w.heap.size w w2:=B1.trans (B2.mono B1.size)
 have KEEP:Hid (∀u,Below w2.heap.size w2 u→u.heap[G]?=some (.cells #[.int .i64 k,.int .i64 n,.string s,.slice al ll cl,.slice ak m ck] 26 (0,0))∧u.heap[G+1]?=some (.cells #[.int .i64 k2,.int .i64 n2,.string s2,.slice al2 ll2 cl2,.slice ak2 m2 ck2] 26 (0,0))∧IsV u B v (.agg #[.int .i64 k,.int .i64 n,.string s,.slice al ll cl,.slice ak m ck])∧IsV u B v (.agg #[.int .i64 k2,.int .i64 n2,.string s2,.slice al2 ll2 cl2,.slice ak2 m2 ck2])∧Below w.heap.size w u):=hZ (fun u hu=>by
  have bu:=BW.trans (hu.mono BW.size)
  have z2:w2.heap.size=G+2:=by rw [←hw2];simp;omega
  exact⟨((hu.block G (by omega)).trans (B2.block G (by omega))).trans A1,(hu.block (G+1) (by omega)).trans A2,hx'.mono (bu.mono hBs),hy'.mono (bu.mono hBs),bu⟩)
 obtain⟨c0,c1,c2,c3,c4⟩:=row_cell (uZ KEEP w2 (Below.refl _ _)).2.1
 have CF:=hZ (few_any v _ B w2 (uZ KEEP w2 (Below.refl _ _)).2.2.2.1 (Nat.le_trans hBs BW.size))
 have HS:=hZ (Nat.le_trans hBs BW.size)
 clear hx hy hx' hy' hv hv2 A1 B1 A2 B2 BW hll hm hll2 hm2
 cases hF:fewB v with
 |false=>
  rw [hF] at CF
  go_enter Tryz.func57,Tryz.ntmps57
  go_wp2_with fail
  refine(uZ CF).mono ?_
  rintro e w3 ⟨rfl,b3⟩
  have H3:=hZ (uZ KEEP w3 b3).2.2.2.2
  clear b3 CF
  go_wp2_with fail
  go_ret
  exact⟨rfl,by first|exact uZ H3|(rw [←hG];exact uZ H3)⟩
 |true=>
  rw [hF] at CF
  go_enter Tryz.func57,Tryz.ntmps57
  go_wp2_with fail
  refine(uZ CF).mono ?_
  rintro e w3 ⟨rfl,b3⟩
  have H3:=hZ b3
  obtain⟨d0,d1,d2,d3,d4⟩:=row_cell (uZ KEEP w3 b3).1
  obtain⟨e0,e1,e2,e3,e4⟩:=row_cell (uZ KEEP w3 b3).2.1
  have CA:=hZ (alike_any (dep v) v v _ _ B w3 (Nat.le_refl _) (uZ KEEP w3 b3).2.2.1 (uZ KEEP w3 b3).2.2.2.1 (Nat.le_trans (uZ HS) b3.size))
  rw [show sameB v v=true from (sameB_iff v v).2 rfl] at CA
  clear b3 CF c0 c1 c2 c3 c4
  go_wp2_with fail
  refine(uZ CA).mono ?_
  rintro e w4 ⟨rfl,b4⟩
  have H4:=hZ (uZ KEEP w4 ((uZ H3).trans (b4.mono (uZ H3).size))).2.2.2.2
  clear b4 CA
  go_wp2_with fail
  go_ret
  exact⟨rfl,by first|exact uZ H4|(rw [←hG];exact uZ H4)⟩
end Go.Proofs.YtlkeaaopdnnceaaGreatDoor
