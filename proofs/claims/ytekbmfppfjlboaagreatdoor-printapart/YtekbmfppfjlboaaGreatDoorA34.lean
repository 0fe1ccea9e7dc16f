/-
  The walks of the document's letter, digit, word, Keywords, isIn, IsName (layer 16); conditions: a text of at most 2^47 bytes.
  The walk of the document's IsName (layer 16); no conditions.
  Layer 18 (print): are a node's own fields such as they must be (the document's); conditions: the nodes lie in memory.
-/
import Derived.Test.YtekbmfppfjlboaaGreatDoorA06
import Derived.Test.YtekbmfppfjlboaaGreatDoorA33
import Derived.Test.YtekbmfppfjlboaaGreatDoorA27
import Derived.Deep.CutBlock
import Derived.Deep.CutRange
set_option linter.unusedVariables false
set_option linter.unusedSimpArgs false
namespace Go.Proofs.YtekbmfppfjlboaaGreatDoor
open Go.RowKit
set_option linter.unusedVariables false
set_option linter.unusedSimpArgs false
theorem letterD_any (c:Int) (w:World) :
  Calls Tryz.prog 90 #[.int .u8 c] w fun e w'=>e=.returned (.bool (rLet c))∧w'=w:=by
 rcases rLet_cases c with ⟨hR,h1,h2,h3⟩|⟨hR,h1,h2,h3⟩|⟨hR,h1,h2,h3,h4⟩|⟨hR,h1,h2,h3,h4⟩|⟨hR,h1,h2⟩|⟨hR,h1,h2,h3,h4,h5⟩
 all_goals
  rw [hR]
  clear hR
  go_enter Tryz.func90,Tryz.ntmps90
  go_wp2_with fail
  go_ret
  exact⟨rfl,rfl⟩
theorem digitD_any (c:Int) (w:World) :
  Calls Tryz.prog 124 #[.int .u8 c] w fun e w'=>e=.returned (.bool (rDig c))∧w'=w:=by
 by_cases h1:48≤c <;> by_cases h2:c≤57
 all_goals
  have hR:rDig c=decide (48≤c∧c≤57):=rfl
  simp only [h1,h2,decide_true,decide_false,and_self,and_true,and_false,true_and] at hR
  rw [hR]
  clear hR
  go_enter Tryz.func124,Tryz.ntmps124
  go_wp2_with fail
  go_ret
  exact⟨rfl,rfl⟩
theorem letterD_at (s:ByteArray) (i:Nat) (h:i<s.size) (w:World) :
  Calls Tryz.prog 90 #[.int .u8 ((s[i]'h).toNat:Int)] w fun e w'=>e=.returned (.bool (lxLet (s[i]'h)))∧w'=w:=by
 rw [←lxLet_r];exact letterD_any _ w
theorem digitD_at (s:ByteArray) (i:Nat) (h:i<s.size) (w:World) :
  Calls Tryz.prog 124 #[.int .u8 ((s[i]'h).toNat:Int)] w fun e w'=>e=.returned (.bool (lxDig (s[i]'h)))∧w'=w:=by
 rw [←lxDig_r];exact digitD_any _ w
theorem tw_len (p:UInt8→Bool) (s:ByteArray) (a n:Nat) (hn:a+n≤s.size) (h1:∀j c,j<n→s.data.toList[a+j]?=some c→p c=true) (h2:∀c,s.data.toList[a+n]?=some c→p c=false):((s.data.toList.drop a).takeWhile p).length=n:=by
 have hl:=len_list s
 have hd:(s.extract a s.size).data.toList=s.data.toList.drop a:=by rw [ext_drop,bA_data]
 have hz:(s.extract a s.size).size=s.size - a:=by rw [←len_list,hd,List.length_drop,hl]
 have:=tw_stop p (s.extract a s.size) n (by omega) (fun j c hj hc=>h1 j c hj (by rw [hd,List.getElem?_drop] at hc;exact hc)) (fun c hc=>h2 c (by rw [hd,List.getElem?_drop] at hc;exact hc))
 rw [hd] at this
 rw [this,List.length_take,List.length_drop]
 omega
set_option maxRecDepth 100000 in
set_option maxHeartbeats 1000000 in
theorem wordD_any (s:ByteArray) (a:Nat) (ha:a≤s.size) (hs:s.size≤140737488355328) (w:World) :
  Calls Tryz.prog 91 #[.string s,.int .i64 (a:Int)] w fun e w'=>e=.returned (.int .i64 (((s.data.toList.drop a).takeWhile lxW).length:Int))∧w'=w:=by
 obtain⟨R,hR⟩:∃R,((s.data.toList.drop a).takeWhile lxW).length=R:=⟨_,rfl⟩
 have HR:=hide hR
 rw [hR]
 clear hR
 have h47:(s.size:Int)≤140737488355328:=by omega
 go_enter Tryz.func91,Tryz.ntmps91
 go_wp2_with fail
 go_loop [5] (fun x=>∃n:Nat,x=.int .i64 (n:Int)∧a+n≤s.size∧Hid (∀j c,j<n→s.data.toList[a+j]?=some c→lxW c=true)) (fun x=>s.size - (intOf x).toNat)
 case atStart=>exact⟨0,rfl,ha,hide (fun j c h=>by omega)⟩
 case round=>
  obtain⟨n,rfl,hn,HJ⟩:=hrel
  by_cases hlt:a+n<s.size
  ·have j1:(a:Int)+(n:Int)<(s.size:Int):=by omega
   have j2:((a:Int)+(n:Int)).toNat=a+n:=by omega
   have CL:=hide (letterD_at s (a+n) hlt w)
   have CD:=hide (digitD_at s (a+n) hlt w)
   have hat:=at_list s (a+n) hlt
   obtain⟨c,hc⟩:∃c,s[a+n]'hlt=c:=⟨_,rfl⟩
   have hci:((s[a+n]'hlt).toNat:Int)=(c.toNat:Int):=by rw [hc]
   have HC:=hide hc
   rw [hc] at CL CD hat
   have HW:Hid (lxW c=true→∀j d,j<n+1→s.data.toList[a+j]?=some d→lxW d=true):=hide (fun hw j d hj hd=>by
    rcases Nat.lt_or_ge j n with h|h
    ·exact unhide HJ j d h hd
    ·obtain rfl:j=n:=by omega
     rw [hat] at hd
     cases hd
     exact hw)
   have HE:Hid (lxW c=false→n=R):=hide (fun hw=>by
    rw [←unhide HR]
    exact(tw_len lxW s a n hn (unhide HJ) (fun d hd=>by
     rw [hat] at hd
     cases hd
     exact hw)).symm)
   clear hc hat
   cases hL:lxLet c <;> cases hD:lxDig c
   all_goals
    rw [hL] at CL
    rw [hD] at CD
    have hW:lxW c=(lxLet c ||lxDig c):=rfl
    rw [hL,hD] at hW
    simp only [Bool.or_true,Bool.true_or,Bool.or_false] at hW
    have HWW:=hide hW
    clear hW hL hD
    go_wp2_with fail
    refine(unhide CL).mono ?_
    rintro e u ⟨rfl,rfl⟩
    go_wp2_with fail
    refine(unhide CD).mono ?_
    rintro e u ⟨rfl,rfl⟩
    go_wp2_with fail
    first
    |go_ret
     exact⟨by rw [←unhide HE (unhide HWW)];rfl,rfl⟩
    |go_round
     case rel=>exact⟨n+1,by go_num,by omega,hide (unhide HW (unhide HWW))⟩
     case measure=>simp [intOf];omega
  ·have j1:¬(a:Int)+(n:Int)<(s.size:Int):=by omega
   have HE:Hid (n=R):=hide (by
    rw [←unhide HR]
    exact(tw_len lxW s a n hn (unhide HJ) (fun d hd=>by
     rw [List.getElem?_eq_none (show s.data.toList.length≤a+n by rw [len_list];omega)] at hd
     cases hd)).symm)
   go_wp2_with fail
   go_ret
   exact⟨by rw [unhide HE];rfl,rfl⟩
def RowT (w:World) (b:Nat) (L:List (List UInt8)):Prop:=b<w.heap.size∧∀j x,L[j]?=some x→w.cell? ⟨b,j,none⟩=some (.string (bA x))
set_option maxRecDepth 100000 in
set_option maxHeartbeats 1000000 in
theorem isIn_any (w:World) (b:Nat) (L:List (List UInt8)) (c:Nat) (h:RowT w b L) (hL:L.length≤c) (hc:c≤1000) (s:ByteArray) :
  Calls Tryz.prog 92 #[.slice (some ⟨b,0,none⟩) L.length c,.string s] w fun e w'=>e=.returned (.bool (L.contains s.data.toList))∧w'=w:=by
 obtain⟨R,hR⟩:∃R,L.contains s.data.toList=R:=⟨_,rfl⟩
 have HR:=hide hR
 rw [hR]
 clear hR
 have hlt:=h.1
 have HC:=hide h.2
 obtain⟨m,hm⟩:∃m,L.length=m:=⟨_,rfl⟩
 have HM:=hide hm
 rw [hm] at hL ⊢
 have hm1:(m:Int)≤1000:=by omega
 clear hm h
 go_enter Tryz.func92,Tryz.ntmps92
 go_wp2_with fail
 go_loop [5] (fun x=>∃n:Nat,x=.int .i64 (n:Int)∧n≤m∧Hid (∀j x,j<n→L[j]?=some x→¬x=s.data.toList)) (fun x=>m - (intOf x).toNat)
 case atStart=>exact⟨0,rfl,by omega,hide (fun j c h=>by omega)⟩
 case round=>
  obtain⟨n,rfl,hn,HJ⟩:=hrel
  by_cases hlm:n<m
  ·have j1:(n:Int)<(m:Int):=by omega
   obtain⟨x,hx⟩:∃x,L[n]?=some x:=⟨_,List.getElem?_eq_getElem (by have:=unhide HM;omega)⟩
   have hcell:=unhide HC n x hx
   have hp:(⟨b,0,none⟩:Addr).add n=⟨b,n,none⟩:=by unfold Addr.add;split <;> simp_all
   have hcmp:((bA x).toList == s.toList)=(x == s.data.toList):=by rw [bA_list,ByteArray.toList_eq]
   obtain⟨X,hX⟩:∃X,bA x=X:=⟨_,rfl⟩
   rw [hX] at hcell hcmp
   cases hq:(x == s.data.toList) with
   |true=>
    rw [hq] at hcmp
    have HE:Hid (R=true):=hide (by
     rw [←unhide HR,List.contains_iff_mem.2]
     rw [beq_iff_eq] at hq
     rw [←hq]
     exact List.mem_of_getElem? hx)
    clear hq hx hX
    go_wp2_with fail
    go_ret
    exact⟨by rw [unhide HE];rfl,rfl⟩
   |false=>
    rw [hq] at hcmp
    have HE:Hid (∀j x,j<n+1→L[j]?=some x→¬x=s.data.toList):=hide (fun j y hj hy=>by
     rcases Nat.lt_or_ge j n with h|h
     ·exact unhide HJ j y h hy
     ·obtain rfl:j=n:=by omega
      rw [hx] at hy
      cases hy
      exact beq_eq_false_iff_ne.1 hq)
    clear hq hx hX
    go_wp2_with fail
    go_round
    case rel=>exact⟨n+1,by go_num,by omega,HE⟩
    case measure=>simp [intOf];omega
  ·have j1:¬(n:Int)<(m:Int):=by omega
   have HE:Hid (R=false):=hide (by
    rw [←unhide HR,Bool.eq_false_iff]
    intro e
    rw [List.contains_iff_mem] at e
    obtain⟨j,hj⟩:=List.mem_iff_getElem?.1 e
    have hjl:j<L.length:=(List.getElem?_eq_some_iff.1 hj).1
    exact unhide HJ j _ (by have:=unhide HM;omega) hj rfl)
   go_wp2_with fail
   go_ret
   exact⟨by rw [unhide HE];rfl,rfl⟩
theorem rowT_alloc (w:World) (L:List (List UInt8)) (C:Array Value) (t:TypeId) (hC:C.toList=L.map (fun x=>.string (bA x))):RowT (w.alloc (.cells C t)) w.heap.size L:=by
 refine⟨by simp,fun j x hx=>?_⟩
 have hj:C[j]?=some (.string (bA x)):=by
  rw [←Array.getElem?_toList,hC,List.getElem?_map,hx]
  rfl
 simp only [World.cell?,World.alloc]
 simp [hj]
def keysC:Array Value:=#[.string ⟨#[102,110]⟩,.string ⟨#[101,120,112,111,114,116]⟩,.string ⟨#[108,101,116]⟩,.string ⟨#[105,102]⟩,.string ⟨#[101,108,115,101]⟩,.string ⟨#[119,104,105,108,101]⟩,.string ⟨#[114,101,116,117,114,110]⟩,.string ⟨#[98,114,101,97,107]⟩,.string ⟨#[99,111,110,116,105,110,117,101]⟩,.string ⟨#[116,114,117,101]⟩,.string ⟨#[102,97,108,115,101]⟩,.string ⟨#[117,110,105,116]⟩]
set_option maxRecDepth 100000 in
set_option maxHeartbeats 1000000 in
theorem keywords_any (w:World) :
  Calls Tryz.prog 93 #[] w fun e w'=>e=.returned (.slice (some ⟨w.heap.size,0,none⟩) 12 12)∧RowT w' w.heap.size keyL∧Below w.heap.size w w':=by
 have HX:Hid (RowT (w.alloc (.cells keysC 9)) w.heap.size keyL∧Below w.heap.size w (w.alloc (.cells keysC 9))):=hide ⟨rowT_alloc w keyL keysC 9 rfl,(Below.refl _ _).alloc (Nat.le_refl _) _⟩
 unfold keysC at HX
 go_enter Tryz.func93,Tryz.ntmps93
 go_wp2_with fail
 go_ret
 exact⟨rfl,unhide HX⟩
set_option maxRecDepth 100000 in
set_option maxHeartbeats 1000000 in
theorem isNameD_any (s:ByteArray) (w:World) :
  Calls Tryz.prog 54 #[.string s] w fun e w'=>e=.returned (.bool (nameL s.data.toList))∧Below w.heap.size w w':=by
 by_cases h0:s.size=0
 ·have hN:nameL s.data.toList=false:=by unfold nameL;rw [len_list,h0];rfl
  have i1:(s.size:Int)<1:=by omega
  rw [hN]
  clear hN
  go_enter Tryz.func54,Tryz.ntmps54
  go_wp2_with fail
  go_ret
  exact⟨rfl,Below.refl _ _⟩
 have i1:¬(s.size:Int)<1:=by omega
 by_cases h20:20<s.size
 ·have hN:nameL s.data.toList=false:=by unfold nameL;rw [len_list,decide_eq_false (show ¬s.size≤20 by omega)];simp
  have i3:(20:Int)<(s.size:Int):=by omega
  rw [hN]
  clear hN
  go_enter Tryz.func54,Tryz.ntmps54
  go_wp2_with fail
  go_ret
  exact⟨rfl,Below.refl _ _⟩
 have i3:¬(20:Int)<(s.size:Int):=by omega
 have hp:0<s.size:=by omega
 have HN:=hide (name_is s hp (by omega))
 obtain⟨N,hN⟩:∃N,nameL s.data.toList=N:=⟨_,rfl⟩
 have HE:=hide hN
 rw [hN]
 clear hN
 have CL:=hide (letterD_at s 0 hp w)
 have CW:=hide (wordD_any s 0 (by omega) (by omega) w)
 have CK:=hide (keywords_any w)
 have CI:=hide (fun u (h:RowT u w.heap.size keyL)=>isIn_any u w.heap.size keyL 12 h (by decide) (by decide) s)
 have hall:(s.data.toList.takeWhile lxW).length=s.size↔s.data.toList.all lxW=true:=by
  rw [←tw_all,beq_iff_eq]
  constructor
  ·intro h
   have h1:=List.takeWhile_prefix lxW (l:=s.data.toList)
   exact h1.eq_of_length (by rw [h,len_list])
  ·intro h
   rw [h,len_list]
 obtain⟨n,hn⟩:∃n,(s.data.toList.takeWhile lxW).length=n:=⟨_,rfl⟩
 rw [List.drop_zero,hn] at CW
 rw [hn] at hall
 have hkk:keyL.contains s.data.toList=keyB s.data.toList:=rfl
 rw [hkk] at CI
 cases hL:lxLet (s[0]'hp) <;> cases hK:keyB s.data.toList <;> by_cases hA:n=s.size
 all_goals
  rw [hL] at CL
  rw [hK] at CI
  have hB:s.data.toList.all lxW=decide (n=s.size):=by
   rw [Bool.eq_iff_iff,decide_eq_true_eq]
   exact hall.symm
  have HF:Hid (N=_):=hide (by rw [←unhide HE,unhide HN,hB,hL,hK])
  simp only [hA,decide_true,decide_false,Bool.and_true,Bool.and_false,Bool.not_true,Bool.not_false,Bool.true_and,Bool.false_and] at HF
  have n1:((n:Int) == (s.size:Int))=decide (n=s.size):=by
   rw [Bool.eq_iff_iff,beq_iff_eq,decide_eq_true_eq]
   omega
  simp only [hA,decide_true,decide_false] at n1
  have CLL:=CL
  clear hall hB hK hL hn hkk
  try subst hA
  go_enter Tryz.func54,Tryz.ntmps54
  go_wp2_with fail
  refine(unhide CL).mono ?_
  rintro e u ⟨rfl,rfl⟩
  go_wp2_with fail
  refine(unhide CW).mono ?_
  rintro e u ⟨rfl,rfl⟩
  go_wp2_with fail
  refine(unhide CK).mono ?_
  rintro e u1 ⟨rfl,hrow,b1⟩
  have CI2:=hide (unhide CI u1 hrow)
  have B1:=hide b1
  clear hrow b1
  go_wp2_with fail
  refine(unhide CI2).mono ?_
  rintro e u2 ⟨rfl,rfl⟩
  go_wp2_with fail
  go_ret
  exact⟨by rw [unhide HF];rfl,unhide B1⟩
theorem right_kind {k n:Int} {s:ByteArray} {l:List Vl} {ks:List ByteArray} (h:rightB ⟨k,n,s,l,ks⟩=true):0≤k:=by
 have h1:=(right_ok h).1
 rw [okB,Bool.and_eq_true] at h1
 rcases form_kind h1.1 with h|h|h|h|h|⟨h,_⟩ <;> omega
set_option maxRecDepth 100000 in
set_option maxHeartbeats 4000000 in
theorem rplain_any (B0:Nat) (y:Tn) (x:List Value) (w:World) (hB:B0≤w.heap.size) (hx:IsN w (fun b=>b<B0) y x) :
  Calls Tryz.prog 49 #[.agg x.toArray] w fun e w'=>e=.returned (.bool (txB y.k y.t && flB y.k y.f && vlB y.k y.v))∧Below w.heap.size w w':=by
 have hx0:=hx
 obtain⟨vk,vn,vs,al,ak,a,ll,cl,lk,ck,cc,rfl,hvv,hr,hbk,hbp⟩:=hx.opn
 obtain⟨k,t,v,f,ks,p⟩:=y
 obtain⟨n,hn⟩:∃n,ks.length=n:=⟨_,rfl⟩
 have hnb:n≤140737488351232:=by rw [←hn];exact hr.len
 simp only [hn] at hx0 hvv hr hbk hbp ⊢
 obtain⟨R,hR⟩:∃R,(.bool (txB k t && flB k f && vlB k v):Value)=R:=⟨_,rfl⟩
 rw [hR]
 have HR:=hide hR
 obtain⟨w1,hw1⟩:∃w1,w.alloc (.cells #[.int .i64 k,.string t,.int .i64 vk,.int .i64 vn,.string vs,.slice al ll cl,.slice ak lk ck,.bool f,.slice a n cc,.int .i64 p] 28)=w1:=⟨_,rfl⟩
 obtain⟨G,hG⟩:∃G,w.heap.size=G:=⟨_,rfl⟩
 have A1:w1.heap[G]?=some (.cells #[.int .i64 k,.string t,.int .i64 vk,.int .i64 vn,.string vs,.slice al ll cl,.slice ak lk ck,.bool f,.slice a n cc,.int .i64 p] 28 (0,0)):=by rw [←hw1,←hG];exact heap_alloc_new _ _
 have X1:Below G w w1:=by rw [←hw1,←hG];exact(Below.refl _ _).alloc (Nat.le_refl _) _
 have hBG:B0≤G:=by rw [←hG];exact hB
 have HM:Hid (∀u,Below w1.heap.size w1 u→IsN u (fun b=>b<B0) ⟨k,t,v,f,ks,p⟩ [.int .i64 k,.string t,.int .i64 vk,.int .i64 vn,.string vs,.slice al ll cl,.slice ak lk ck,.bool f,.slice a n cc,.int .i64 p]∧RowN u B0 ks a cc∧B0≤u.heap.size∧IsV u B0 v (.agg #[.int .i64 vk,.int .i64 vn,.string vs,.slice al ll cl,.slice ak lk ck])∧Below G w u):=hide (fun u hu=>by
  have h2:=X1.trans (hu.mono (Nat.le_of_lt (lt_of_row A1)))
  exact⟨hx0.laterB (h2.mono hBG),hr.later (h2.mono hBG),Nat.le_trans hBG (by rw [←hG];exact h2.size),hvv.mono (h2.mono hBG),h2⟩)
 have HF:Hid (∀u,Below w1.heap.size w1 u→u.cell? ⟨G,0,none⟩=some (.int .i64 k)∧u.cell? ⟨G,1,none⟩=some (.string t)∧u.cell? ⟨G,2,none⟩=some (.int .i64 vk)∧u.cell? ⟨G,3,none⟩=some (.int .i64 vn)∧u.cell? ⟨G,4,none⟩=some (.string vs)∧u.cell? ⟨G,5,none⟩=some (.slice al ll cl)∧u.cell? ⟨G,6,none⟩=some (.slice ak lk ck)∧u.cell? ⟨G,7,none⟩=some (.bool f)∧u.cell? ⟨G,8,none⟩=some (.slice a n cc)∧u.cell? ⟨G,9,none⟩=some (.int .i64 p)):=hide (fun u hu=>row_ten (Below.cellsAt hu A1))
 have HN:=hide hn
 have HS0:Hid (Below w1.heap.size w1 w1):=hide (Below.refl _ _)
 have HW:=hide hw1
 obtain⟨kd,nn,ss,l,vks,al',ak',cl',ck',rfl,hsh⟩:=hvv.shape
 simp only [Value.agg.injEq,Array.mk.injEq,List.cons.injEq,Value.int.injEq,Value.string.injEq,Value.slice.injEq,and_true,true_and] at hsh
 obtain⟨rfl,rfl,rfl,⟨rfl,hll,rfl⟩,rfl,hlk,rfl⟩:=hsh
 have HL:=hide (And.intro hll.symm hlk.symm)
 clear hll hlk
 clear A1 X1 hw1 hx hx0 hr hvv hB hBG hn hR
 go_enter Tryz.func49,Tryz.ntmps49
 go_upto_region 1 with fail
 rw [unhide HW]
 try rw [hG]
 clear HW
 obtain⟨x0,x1,x2,x3,x4,x5,x6,x7,x8,x9⟩:=unhide HF w1 (Below.refl _ _)
 go_upto_block 0 with fail
 go_cut [3] from 5 to 42 (fun v3 wx=>∃q:Bool,v3=.bool q∧Hid (q=txB k t)∧Hid (Below w1.heap.size w1 wx))
 case first=>
  by_cases h2:k=2
  ·subst h2
   have CC:=hide (isNameD_any t w1)
   go_wp2_with fail
   refine(unhide CC).mono ?_
   rintro e w2 ⟨rfl,bb⟩
   have HS2:=hide bb
   clear bb CC
   go_wp2_with fail
   go_meet
   exact⟨_,rfl,hide (by simp [txB]),HS2⟩
  have b2:(k == 2)=false:=by simpa using h2
  by_cases h3:k=3
  ·subst h3
   have CC:=hide (isNameD_any t w1)
   go_wp2_with fail
   refine(unhide CC).mono ?_
   rintro e w2 ⟨rfl,bb⟩
   have HS2:=hide bb
   clear bb CC
   go_wp2_with fail
   go_meet
   exact⟨_,rfl,hide (by simp [txB]),HS2⟩
  have b3:(k == 3)=false:=by simpa using h3
  by_cases h5:k=5
  ·subst h5
   have CC:=hide (isNameD_any t w1)
   go_wp2_with fail
   refine(unhide CC).mono ?_
   rintro e w2 ⟨rfl,bb⟩
   have HS2:=hide bb
   clear bb CC
   go_wp2_with fail
   go_meet
   exact⟨_,rfl,hide (by simp [txB]),HS2⟩
  have b5:(k == 5)=false:=by simpa using h5
  by_cases h6:k=6
  ·subst h6
   have CC:=hide (isNameD_any t w1)
   go_wp2_with fail
   refine(unhide CC).mono ?_
   rintro e w2 ⟨rfl,bb⟩
   have HS2:=hide bb
   clear bb CC
   go_wp2_with fail
   go_meet
   exact⟨_,rfl,hide (by simp [txB]),HS2⟩
  have b6:(k == 6)=false:=by simpa using h6
  by_cases h14:k=14
  ·subst h14
   have CC:=hide (isNameD_any t w1)
   go_wp2_with fail
   refine(unhide CC).mono ?_
   rintro e w2 ⟨rfl,bb⟩
   have HS2:=hide bb
   clear bb CC
   go_wp2_with fail
   go_meet
   exact⟨_,rfl,hide (by simp [txB]),HS2⟩
  have b14:(k == 14)=false:=by simpa using h14
  by_cases h15:k=15
  ·subst h15
   have CC:=hide (isNameD_any t w1)
   go_wp2_with fail
   refine(unhide CC).mono ?_
   rintro e w2 ⟨rfl,bb⟩
   have HS2:=hide bb
   clear bb CC
   go_wp2_with fail
   go_meet
   exact⟨_,rfl,hide (by simp [txB]),HS2⟩
  have b15:(k == 15)=false:=by simpa using h15
  by_cases h22:k=22
  ·subst h22
   have CC:=hide (isNameD_any t w1)
   go_wp2_with fail
   refine(unhide CC).mono ?_
   rintro e w2 ⟨rfl,bb⟩
   have HS2:=hide bb
   clear bb CC
   go_wp2_with fail
   go_meet
   exact⟨_,rfl,hide (by simp [txB]),HS2⟩
  have b22:(k == 22)=false:=by simpa using h22
  by_cases h16:k=16
  ·subst h16
   by_cases h45:t.toList=[45]
   ·have HV:=hide (show true=txB 16 t by simp [txB,h45])
    go_wp2_with fail
    go_meet
    exact⟨_,rfl,HV,HS0⟩
   have c45:(t.toList == [45])=false:=by simpa using h45
   by_cases h33:t.toList=[33]
   ·have HV:=hide (show true=txB 16 t by simp [txB,h33])
    go_wp2_with fail
    go_meet
    exact⟨_,rfl,HV,HS0⟩
   ·have c33:(t.toList == [33])=false:=by simpa using h33
    have HV:=hide (show false=txB 16 t by simp [txB,h45,h33])
    go_wp2_with fail
    go_meet
    exact⟨_,rfl,HV,HS0⟩
  have b16:(k == 16)=false:=by simpa using h16
  by_cases h17:k=17
  ·subst h17
   have CC:=hide (rbinds_any t w1)
   obtain⟨q,hq⟩:∃q,bnS t.toList=q:=⟨_,rfl⟩
   rw [hq] at CC
   have HV:=hide (show decide (0<q)=txB 17 t by simp [txB,hq])
   clear hq
   go_wp2_with fail
   refine(unhide CC).mono ?_
   rintro e w2 ⟨rfl,bb⟩
   have HS2:=hide bb
   clear bb CC
   go_wp2_with fail
   go_meet
   exact⟨_,rfl,HV,HS2⟩
  have b17:(k == 17)=false:=by simpa using h17
  by_cases h20:k=20
  ·subst h20
   by_cases h0:t.size≤32
   ·have c0:(t.size:Int)≤32:=by omega
    have HV:=hide (show true=txB 20 t by simp [txB,h0])
    go_wp2_with fail
    go_meet
    exact⟨_,rfl,HV,HS0⟩
   ·have c0:¬(t.size:Int)≤32:=by omega
    have HV:=hide (show false=txB 20 t by simp [txB,h0])
    go_wp2_with fail
    go_meet
    exact⟨_,rfl,HV,HS0⟩
  have b20:(k == 20)=false:=by simpa using h20
  have HV:=hide (show txB k t=decide (t.toList=[]) by simp [txB,h2,h3,h5,h6,h14,h15,h22,h16,h17,h20])
  go_wp2_with fail
  go_meet
  exact⟨_,rfl,hide (by rw [unhide HV];first|rfl|(rw [Bool.eq_iff_iff];simp)),HS0⟩
 case rest=>
  obtain⟨q,rfl,HQ,HS2⟩:=hcut
  clear x0 x1 x2 x3 x4 x5 x6 x7 x8 x9 HS0
  obtain⟨x0,x1,x2,x3,x4,x5,x6,x7,x8,x9⟩:=unhide HF wc (unhide HS2)
  by_cases h13:k=13
  ·subst h13
   have CC:=hide (right_ref ⟨vk,vn,vs,l,vks⟩ _ B0 wc ((unhide HM) wc (unhide HS2)).2.2.2.1 ((unhide HM) wc (unhide HS2)).2.2.1)
   obtain⟨rv,hrv⟩:∃q,rightB ⟨vk,vn,vs,l,vks⟩=q:=⟨_,rfl⟩
   rw [hrv] at CC
   have HV0:=hide hrv
   clear hrv
   go_wp2_with fail
   refine(unhide CC).mono ?_
   rintro e w3 ⟨rfl,bb⟩
   have HS3:=hide ((unhide HS2).trans (bb.mono (unhide HS2).size))
   clear bb CC x0 x1 x2 x3 x4 x5 x6 x7 x8 x9
   obtain⟨x0,x1,x2,x3,x4,x5,x6,x7,x8,x9⟩:=unhide HF w3 (unhide HS3)
   cases q with
   |false=>
    have HV:=hide (show R=.bool false by rw [←unhide HR,←unhide HQ];simp [flB,vlB,])
    clear HR HQ
    go_wp2_with fail
    go_ret
    have hbz:=((unhide HM) w3 (unhide HS3)).2.2.2.2
    exact⟨by rw [unhide HV] <;> rfl,by first|exact hbz|(rw [hG];exact hbz)⟩
   |true=>
    cases f with
    |true=>
     have HV:=hide (show R=.bool false by rw [←unhide HR,←unhide HQ];simp [flB,vlB,])
     clear HR HQ
     go_wp2_with fail
     go_ret
     have hbz:=((unhide HM) w3 (unhide HS3)).2.2.2.2
     exact⟨by rw [unhide HV] <;> rfl,by first|exact hbz|(rw [hG];exact hbz)⟩
    |false=>
     cases rv with
     |false=>
      have HV:=hide (show R=.bool false by rw [←unhide HR,←unhide HQ];simp [flB,vlB,unhide HV0])
      clear HR HQ
      go_wp2_with fail
      go_ret
      have hbz:=((unhide HM) w3 (unhide HS3)).2.2.2.2
      exact⟨by rw [unhide HV] <;> rfl,by first|exact hbz|(rw [hG];exact hbz)⟩
     |true=>
      have hk0:=right_kind (unhide HV0)
      by_cases h3:vk≤3
      ·by_cases h2:vk=2
       ·subst h2
        have HV:=hide (show R=.bool (decide (0≤vn)) by rw [←unhide HR,←unhide HQ];simp [flB,vlB,unhide HV0])
        clear HR HQ
        go_wp2_with fail
        go_ret
        have hbz:=((unhide HM) w3 (unhide HS3)).2.2.2.2
        exact⟨by rw [unhide HV] <;> rfl,by first|exact hbz|(rw [hG];exact hbz)⟩
       ·have b2:(vk != 2)=true:=by simpa using h2
        have h013:vk=0∨vk=1∨vk=3:=by omega
        have HV:=hide (show R=.bool true by rw [←unhide HR,←unhide HQ];simp [flB,vlB,unhide HV0,h013])
        clear HR HQ
        go_wp2_with fail
        go_ret
        have hbz:=((unhide HM) w3 (unhide HS3)).2.2.2.2
        exact⟨by rw [unhide HV] <;> rfl,by first|exact hbz|(rw [hG];exact hbz)⟩
      ·have h013:¬(vk=0∨vk=1∨vk=3):=by omega
       have h2:¬vk=2:=by omega
       have HV:=hide (show R=.bool false by rw [←unhide HR,←unhide HQ];simp [flB,vlB,h013,h2])
       clear HR HQ
       go_wp2_with fail
       go_ret
       have hbz:=((unhide HM) w3 (unhide HS3)).2.2.2.2
       exact⟨by rw [unhide HV] <;> rfl,by first|exact hbz|(rw [hG];exact hbz)⟩
  ·have b13:(k == 13)=false:=by simpa using h13
   cases q with
   |false=>
    have HV:=hide (show R=.bool false by rw [←unhide HR,←unhide HQ];simp [flB,vlB,])
    clear HR HQ
    go_wp2_with fail
    go_ret
    have hbz:=((unhide HM) wc (unhide HS2)).2.2.2.2
    exact⟨by rw [unhide HV] <;> rfl,by first|exact hbz|(rw [hG];exact hbz)⟩
   |true=>
    cases f with
    |true=>
     by_cases k2:k=2
     ·subst k2
      by_cases v0:vk=0
      ·subst v0
       by_cases v1:vn=0
       ·subst v1
        by_cases v2:vs.toList=[]
        ·by_cases v3:ll=0
         ·subst v3
          by_cases v4:lk=0
          ·subst v4
           have HV:=hide (show R=.bool true by rw [←unhide HR,←unhide HQ];simp [flB,vlB,h13,v2,(unhide HL).1,(unhide HL).2])
           clear HR HQ
           go_wp2_with fail
           go_ret
           have hbz:=((unhide HM) wc (unhide HS2)).2.2.2.2
           exact⟨by rw [unhide HV] <;> rfl,by first|exact hbz|(rw [hG];exact hbz)⟩
          ·have c4:((lk:Int) == 0)=false:=by simp;omega
           have HV:=hide (show R=.bool false by rw [←unhide HR,←unhide HQ];simp [flB,vlB,h13,v2,(unhide HL).1,(unhide HL).2,v4])
           clear HR HQ
           go_wp2_with fail
           go_ret
           have hbz:=((unhide HM) wc (unhide HS2)).2.2.2.2
           exact⟨by rw [unhide HV] <;> rfl,by first|exact hbz|(rw [hG];exact hbz)⟩
         ·have c3:((ll:Int) == 0)=false:=by simp;omega
          have HV:=hide (show R=.bool false by rw [←unhide HR,←unhide HQ];simp [flB,vlB,h13,v2,(unhide HL).1,v3])
          clear HR HQ
          go_wp2_with fail
          go_ret
          have hbz:=((unhide HM) wc (unhide HS2)).2.2.2.2
          exact⟨by rw [unhide HV] <;> rfl,by first|exact hbz|(rw [hG];exact hbz)⟩
        ·have c2:(vs.toList == [])=false:=by simpa using v2
         have HV:=hide (show R=.bool false by rw [←unhide HR,←unhide HQ];simp [flB,vlB,h13,v2])
         clear HR HQ
         go_wp2_with fail
         go_ret
         have hbz:=((unhide HM) wc (unhide HS2)).2.2.2.2
         exact⟨by rw [unhide HV] <;> rfl,by first|exact hbz|(rw [hG];exact hbz)⟩
       ·have c1:(vn == 0)=false:=by simpa using v1
        have HV:=hide (show R=.bool false by rw [←unhide HR,←unhide HQ];simp [flB,vlB,h13,v1])
        clear HR HQ
        go_wp2_with fail
        go_ret
        have hbz:=((unhide HM) wc (unhide HS2)).2.2.2.2
        exact⟨by rw [unhide HV] <;> rfl,by first|exact hbz|(rw [hG];exact hbz)⟩
      ·have c0:(vk == 0)=false:=by simpa using v0
       have HV:=hide (show R=.bool false by rw [←unhide HR,←unhide HQ];simp [flB,vlB,h13,v0])
       clear HR HQ
       go_wp2_with fail
       go_ret
       have hbz:=((unhide HM) wc (unhide HS2)).2.2.2.2
       exact⟨by rw [unhide HV] <;> rfl,by first|exact hbz|(rw [hG];exact hbz)⟩
     ·have b2:(k == 2)=false:=by simpa using k2
      have HV:=hide (show R=.bool false by rw [←unhide HR,←unhide HQ];simp [flB,vlB,k2])
      clear HR HQ
      go_wp2_with fail
      go_ret
      have hbz:=((unhide HM) wc (unhide HS2)).2.2.2.2
      exact⟨by rw [unhide HV] <;> rfl,by first|exact hbz|(rw [hG];exact hbz)⟩
    |false=>
     by_cases v0:vk=0
     ·subst v0
      by_cases v1:vn=0
      ·subst v1
       by_cases v2:vs.toList=[]
       ·by_cases v3:ll=0
        ·subst v3
         by_cases v4:lk=0
         ·subst v4
          have HV:=hide (show R=.bool true by rw [←unhide HR,←unhide HQ];simp [flB,vlB,h13,v2,(unhide HL).1,(unhide HL).2])
          clear HR HQ
          go_wp2_with fail
          go_ret
          have hbz:=((unhide HM) wc (unhide HS2)).2.2.2.2
          exact⟨by rw [unhide HV] <;> rfl,by first|exact hbz|(rw [hG];exact hbz)⟩
         ·have c4:((lk:Int) == 0)=false:=by simp;omega
          have HV:=hide (show R=.bool false by rw [←unhide HR,←unhide HQ];simp [flB,vlB,h13,v2,(unhide HL).1,(unhide HL).2,v4])
          clear HR HQ
          go_wp2_with fail
          go_ret
          have hbz:=((unhide HM) wc (unhide HS2)).2.2.2.2
          exact⟨by rw [unhide HV] <;> rfl,by first|exact hbz|(rw [hG];exact hbz)⟩
        ·have c3:((ll:Int) == 0)=false:=by simp;omega
         have HV:=hide (show R=.bool false by rw [←unhide HR,←unhide HQ];simp [flB,vlB,h13,v2,(unhide HL).1,v3])
         clear HR HQ
         go_wp2_with fail
         go_ret
         have hbz:=((unhide HM) wc (unhide HS2)).2.2.2.2
         exact⟨by rw [unhide HV] <;> rfl,by first|exact hbz|(rw [hG];exact hbz)⟩
       ·have c2:(vs.toList == [])=false:=by simpa using v2
        have HV:=hide (show R=.bool false by rw [←unhide HR,←unhide HQ];simp [flB,vlB,h13,v2])
        clear HR HQ
        go_wp2_with fail
        go_ret
        have hbz:=((unhide HM) wc (unhide HS2)).2.2.2.2
        exact⟨by rw [unhide HV] <;> rfl,by first|exact hbz|(rw [hG];exact hbz)⟩
      ·have c1:(vn == 0)=false:=by simpa using v1
       have HV:=hide (show R=.bool false by rw [←unhide HR,←unhide HQ];simp [flB,vlB,h13,v1])
       clear HR HQ
       go_wp2_with fail
       go_ret
       have hbz:=((unhide HM) wc (unhide HS2)).2.2.2.2
       exact⟨by rw [unhide HV] <;> rfl,by first|exact hbz|(rw [hG];exact hbz)⟩
     ·have c0:(vk == 0)=false:=by simpa using v0
      have HV:=hide (show R=.bool false by rw [←unhide HR,←unhide HQ];simp [flB,vlB,h13,v0])
      clear HR HQ
      go_wp2_with fail
      go_ret
      have hbz:=((unhide HM) wc (unhide HS2)).2.2.2.2
      exact⟨by rw [unhide HV] <;> rfl,by first|exact hbz|(rw [hG];exact hbz)⟩
end Go.Proofs.YtekbmfppfjlboaaGreatDoor
