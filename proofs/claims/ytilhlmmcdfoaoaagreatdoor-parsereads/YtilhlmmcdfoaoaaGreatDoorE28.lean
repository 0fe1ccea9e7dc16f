/-
  The walks of the document's letter, digit, word, Keywords, isIn, IsName (layer 16); conditions: a text of at most 2^47 bytes.
  The walks of the document's blanks, hex, piece, number (layer 16); conditions: a text of at most 2^40 bytes.
  The walks of the document's piece, number, quoted (layer 16); conditions: a text of at most 8192 bytes.
-/
import Derived.Test.YtilhlmmcdfoaoaaGreatDoorE01
import Derived.Test.YtilhlmmcdfoaoaaGreatDoorE04
import Derived.Test.YtilhlmmcdfoaoaaGreatDoorE06
set_option linter.unusedVariables false
set_option linter.unusedSimpArgs false
namespace Go.Proofs.YtilhlmmcdfoaoaaGreatDoor
open Go.RowKit
set_option linter.unusedVariables false
set_option linter.unusedSimpArgs false
theorem letterD_any (c:Int) (w:World) :
  Calls Tryz.prog 37 #[.int .u8 c] w fun e w'=>e=.returned (.bool (rLet c))∧w'=w:=by
 rcases rLet_cases c with ⟨hR,h1,h2,h3⟩|⟨hR,h1,h2,h3⟩|⟨hR,h1,h2,h3,h4⟩|⟨hR,h1,h2,h3,h4⟩|⟨hR,h1,h2⟩|⟨hR,h1,h2,h3,h4,h5⟩
 all_goals
  rw [hR]
  clear hR
  go_enter Tryz.func37,Tryz.ntmps37
  go_wp2_with fail
  go_ret
  exact⟨rfl,rfl⟩
theorem digitD_any (c:Int) (w:World) :
  Calls Tryz.prog 38 #[.int .u8 c] w fun e w'=>e=.returned (.bool (rDig c))∧w'=w:=by
 by_cases h1:48≤c <;> by_cases h2:c≤57
 all_goals
  have hR:rDig c=decide (48≤c∧c≤57):=rfl
  simp only [h1,h2,decide_true,decide_false,and_self,and_true,and_false,true_and] at hR
  rw [hR]
  clear hR
  go_enter Tryz.func38,Tryz.ntmps38
  go_wp2_with fail
  go_ret
  exact⟨rfl,rfl⟩
theorem letterD_at (s:ByteArray) (i:Nat) (h:i<s.size) (w:World) :
  Calls Tryz.prog 37 #[.int .u8 ((s[i]'h).toNat:Int)] w fun e w'=>e=.returned (.bool (lxLet (s[i]'h)))∧w'=w:=by
 rw [←lxLet_r];exact letterD_any _ w
theorem digitD_at (s:ByteArray) (i:Nat) (h:i<s.size) (w:World) :
  Calls Tryz.prog 38 #[.int .u8 ((s[i]'h).toNat:Int)] w fun e w'=>e=.returned (.bool (lxDig (s[i]'h)))∧w'=w:=by
 rw [←lxDig_r];exact digitD_any _ w
theorem tw_len (p:UInt8→Bool) (s:ByteArray) (a n:Nat) (hn:a+n≤s.size) (h1:∀j c,j<n→s.data.toList[a+j]?=some c→p c=true) (h2:∀c,s.data.toList[a+n]?=some c→p c=false):((s.data.toList.drop a).takeWhile p).length=n:=by
 have hl:=len_list s
 have hd:(s.extract a s.size).data.toList=s.data.toList.drop a:=by rw [ext_drop,bA_data]
 have hz:(s.extract a s.size).size=s.size - a:=by rw [←len_list,hd,List.length_drop,hl]
 have:=tw_stop p (s.extract a s.size) n (by omega) (fun j c hj hc=>h1 j c hj (by rw [hd,List.getElem?_drop] at hc;exact hc)) (fun c hc=>h2 c (by rw [hd,List.getElem?_drop] at hc;exact hc))
 rw [hd] at this
 rw [this,List.length_take,List.length_drop]
 omega
set_option maxRecDepth 100000 in
set_option maxHeartbeats 1000000 in
theorem wordD_any (s:ByteArray) (a:Nat) (ha:a≤s.size) (hs:s.size≤140737488355328) (w:World) :
  Calls Tryz.prog 36 #[.string s,.int .i64 (a:Int)] w fun e w'=>e=.returned (.int .i64 (((s.data.toList.drop a).takeWhile lxW).length:Int))∧w'=w:=by
 obtain⟨R,hR⟩:∃R,((s.data.toList.drop a).takeWhile lxW).length=R:=⟨_,rfl⟩
 have HR:=hZ hR
 rw [hR]
 clear hR
 have h47:(s.size:Int)≤140737488355328:=by omega
 go_enter Tryz.func36,Tryz.ntmps36
 go_wp2_with fail
 go_loop [5] (fun x=>∃n:Nat,x=.int .i64 (n:Int)∧a+n≤s.size∧Hid (∀j c,j<n→s.data.toList[a+j]?=some c→lxW c=true)) (fun x=>s.size - (intOf x).toNat)
 case atStart=>exact⟨0,rfl,ha,hZ (fun j c h=>by omega)⟩
 case round=>
  obtain⟨n,rfl,hn,HJ⟩:=hrel
  by_cases hlt:a+n<s.size
  ·have j1:(a:Int)+(n:Int)<(s.size:Int):=by omega
   have j2:((a:Int)+(n:Int)).toNat=a+n:=by omega
   have CL:=hZ (letterD_at s (a+n) hlt w)
   have CD:=hZ (digitD_at s (a+n) hlt w)
   have hat:=at_list s (a+n) hlt
   obtain⟨c,hc⟩:∃c,s[a+n]'hlt=c:=⟨_,rfl⟩
   have hci:((s[a+n]'hlt).toNat:Int)=(c.toNat:Int):=by rw [hc]
   have HC:=hZ hc
   rw [hc] at CL CD hat
   have HW:Hid (lxW c=true→∀j d,j<n+1→s.data.toList[a+j]?=some d→lxW d=true):=hZ (fun hw j d hj hd=>by
    rcases Nat.lt_or_ge j n with h|h
    ·exact uZ HJ j d h hd
    ·obtain rfl:j=n:=by omega
     rw [hat] at hd
     cases hd
     exact hw)
   have HE:Hid (lxW c=false→n=R):=hZ (fun hw=>by
    rw [←uZ HR]
    exact(tw_len lxW s a n hn (uZ HJ) (fun d hd=>by
     rw [hat] at hd
     cases hd
     exact hw)).symm)
   clear hc hat
   cases hL:lxLet c <;> cases hD:lxDig c
   all_goals
    rw [hL] at CL
    rw [hD] at CD
    have hW:lxW c=(lxLet c ||lxDig c):=rfl
    rw [hL,hD] at hW
    simp only [Bool.or_true,Bool.true_or,Bool.or_false] at hW
    have HWW:=hZ hW
    clear hW hL hD
    go_wp2_with fail
    refine(uZ CL).mono ?_
    rintro e u ⟨rfl,rfl⟩
    go_wp2_with fail
    refine(uZ CD).mono ?_
    rintro e u ⟨rfl,rfl⟩
    go_wp2_with fail
    first
    |go_ret
     exact⟨by rw [←uZ HE (uZ HWW)];rfl,rfl⟩
    |go_round
     case rel=>exact⟨n+1,by go_num,by omega,hZ (uZ HW (uZ HWW))⟩
     case measure=>simp [intOf];omega
  ·have j1:¬(a:Int)+(n:Int)<(s.size:Int):=by omega
   have HE:Hid (n=R):=hZ (by
    rw [←uZ HR]
    exact(tw_len lxW s a n hn (uZ HJ) (fun d hd=>by
     rw [List.getElem?_eq_none (show s.data.toList.length≤a+n by rw [len_list];omega)] at hd
     cases hd)).symm)
   go_wp2_with fail
   go_ret
   exact⟨by rw [uZ HE];rfl,rfl⟩
def RowT (w:World) (b:Nat) (L:List (List UInt8)):Prop:=b<w.heap.size∧∀j x,L[j]?=some x→w.cell? ⟨b,j,none⟩=some (.string (bA x))
set_option maxRecDepth 100000 in
set_option maxHeartbeats 1000000 in
theorem isIn_any (w:World) (b:Nat) (L:List (List UInt8)) (c:Nat) (h:RowT w b L) (hL:L.length≤c) (hc:c≤1000) (s:ByteArray) :
  Calls Tryz.prog 39 #[.slice (some ⟨b,0,none⟩) L.length c,.string s] w fun e w'=>e=.returned (.bool (L.contains s.data.toList))∧w'=w:=by
 obtain⟨R,hR⟩:∃R,L.contains s.data.toList=R:=⟨_,rfl⟩
 have HR:=hZ hR
 rw [hR]
 clear hR
 have hlt:=h.1
 have HC:=hZ h.2
 obtain⟨m,hm⟩:∃m,L.length=m:=⟨_,rfl⟩
 have HM:=hZ hm
 rw [hm] at hL ⊢
 have hm1:(m:Int)≤1000:=by omega
 clear hm h
 go_enter Tryz.func39,Tryz.ntmps39
 go_wp2_with fail
 go_loop [5] (fun x=>∃n:Nat,x=.int .i64 (n:Int)∧n≤m∧Hid (∀j x,j<n→L[j]?=some x→¬x=s.data.toList)) (fun x=>m - (intOf x).toNat)
 case atStart=>exact⟨0,rfl,by omega,hZ (fun j c h=>by omega)⟩
 case round=>
  obtain⟨n,rfl,hn,HJ⟩:=hrel
  by_cases hlm:n<m
  ·have j1:(n:Int)<(m:Int):=by omega
   obtain⟨x,hx⟩:∃x,L[n]?=some x:=⟨_,List.getElem?_eq_getElem (by have:=uZ HM;omega)⟩
   have hcell:=uZ HC n x hx
   have hp:(⟨b,0,none⟩:Addr).add n=⟨b,n,none⟩:=by unfold Addr.add;split <;> simp_all
   have hcmp:((bA x).toList == s.toList)=(x == s.data.toList):=by rw [bA_list,ByteArray.toList_eq]
   obtain⟨X,hX⟩:∃X,bA x=X:=⟨_,rfl⟩
   rw [hX] at hcell hcmp
   cases hq:(x == s.data.toList) with
   |true=>
    rw [hq] at hcmp
    have HE:Hid (R=true):=hZ (by
     rw [←uZ HR,List.contains_iff_mem.2]
     rw [beq_iff_eq] at hq
     rw [←hq]
     exact List.mem_of_getElem? hx)
    clear hq hx hX
    go_wp2_with fail
    go_ret
    exact⟨by rw [uZ HE];rfl,rfl⟩
   |false=>
    rw [hq] at hcmp
    have HE:Hid (∀j x,j<n+1→L[j]?=some x→¬x=s.data.toList):=hZ (fun j y hj hy=>by
     rcases Nat.lt_or_ge j n with h|h
     ·exact uZ HJ j y h hy
     ·obtain rfl:j=n:=by omega
      rw [hx] at hy
      cases hy
      exact beq_eq_false_iff_ne.1 hq)
    clear hq hx hX
    go_wp2_with fail
    go_round
    case rel=>exact⟨n+1,by go_num,by omega,HE⟩
    case measure=>simp [intOf];omega
  ·have j1:¬(n:Int)<(m:Int):=by omega
   have HE:Hid (R=false):=hZ (by
    rw [←uZ HR,Bool.eq_false_iff]
    intro e
    rw [List.contains_iff_mem] at e
    obtain⟨j,hj⟩:=List.mem_iff_getElem?.1 e
    have hjl:j<L.length:=(List.getElem?_eq_some_iff.1 hj).1
    exact uZ HJ j _ (by have:=uZ HM;omega) hj rfl)
   go_wp2_with fail
   go_ret
   exact⟨by rw [uZ HE];rfl,rfl⟩
theorem rowT_alloc (w:World) (L:List (List UInt8)) (C:Array Value) (t:TypeId) (hC:C.toList=L.map (fun x=>.string (bA x))):RowT (w.alloc (.cells C t)) w.heap.size L:=by
 refine⟨by simp,fun j x hx=>?_⟩
 have hj:C[j]?=some (.string (bA x)):=by
  rw [←Array.getElem?_toList,hC,List.getElem?_map,hx]
  rfl
 simp only [World.cell?,World.alloc]
 simp [hj]
def keysC:Array Value:=#[.string ⟨#[102,110]⟩,.string ⟨#[101,120,112,111,114,116]⟩,.string ⟨#[108,101,116]⟩,.string ⟨#[105,102]⟩,.string ⟨#[101,108,115,101]⟩,.string ⟨#[119,104,105,108,101]⟩,.string ⟨#[114,101,116,117,114,110]⟩,.string ⟨#[98,114,101,97,107]⟩,.string ⟨#[99,111,110,116,105,110,117,101]⟩,.string ⟨#[116,114,117,101]⟩,.string ⟨#[102,97,108,115,101]⟩,.string ⟨#[117,110,105,116]⟩]
set_option maxRecDepth 100000 in
set_option maxHeartbeats 1000000 in
theorem keywords_any (w:World) :
  Calls Tryz.prog 40 #[] w fun e w'=>e=.returned (.slice (some ⟨w.heap.size,0,none⟩) 12 12)∧RowT w' w.heap.size keyL∧Below w.heap.size w w':=by
 have HX:Hid (RowT (w.alloc (.cells keysC 9)) w.heap.size keyL∧Below w.heap.size w (w.alloc (.cells keysC 9))):=hZ ⟨rowT_alloc w keyL keysC 9 rfl,(Below.refl _ _).alloc (Nat.le_refl _) _⟩
 unfold keysC at HX
 go_enter Tryz.func40,Tryz.ntmps40
 go_wp2_with fail
 go_ret
 exact⟨rfl,uZ HX⟩
theorem blk_step {c:UInt8} {r:List UInt8} (h:lxB c=true):blk false (c :: r)=blk false r+1:=by simp only [blk,h,if_true]
set_option maxRecDepth 100000 in
set_option maxHeartbeats 1000000 in
theorem blanksD_any (s:ByteArray) (a:Nat) (ha:a≤s.size) (hs:s.size≤1099511627776) (w:World) :
  Calls Tryz.prog 21 #[.string s,.int .i64 (a:Int)] w fun e w'=>e=.returned (.int .i64 ((a+blk false (s.data.toList.drop a):Nat):Int))∧w'=w:=by
 obtain⟨R,hR⟩:∃R,a+blk false (s.data.toList.drop a)=R:=⟨_,rfl⟩
 have HR:=hZ hR
 rw [hR]
 clear hR
 have hs2:(s.size:Int)≤1099511627776:=by omega
 go_enter Tryz.func21,Tryz.ntmps21
 go_wp2_with fail
 go_loopw [1] (fun x wr=>∃p:Nat,x=.int .i64 (p:Int)∧p≤s.size∧Hid (R=p+blk false (s.data.toList.drop p)∧wr=w)) (fun x _=>s.size - (intOf x).toNat)
 case atStart=>exact⟨a,rfl,ha,hZ ⟨(uZ HR).symm,rfl⟩⟩
 case round=>
  obtain⟨p,rfl,hps,HX⟩:=hrel
  by_cases hlt:p<s.size
  ·have j1:(p:Int)<(s.size:Int):=by omega
   have hdr:=drop_at s p hlt
   obtain⟨c,hc⟩:∃c,s[p]'hlt=c:=⟨_,rfl⟩
   obtain⟨z,hz⟩:∃z:Nat,c.toNat=z:=⟨_,rfl⟩
   have hzi:((s[p]'hlt).toNat:Int)=(z:Int):=by rw [hc,hz]
   rw [hc] at hdr
   have HC:=hZ (And.intro hz hdr)
   have HLT:=hZ hlt
   by_cases hb:z=32∨z=9∨z=10∨z=13
   ·have HN:Hid (R=p+1+blk false (s.data.toList.drop (p+1))∧wr=w):=hZ ⟨by
     have hB:lxB c=true:=decide_eq_true (by rw [hz];exact hb)
     rw [(uZ HX).1,hdr,blk_step hB]
     omega,(uZ HX).2⟩
    clear hdr hc hz HX
    rcases hb with h|h|h|h
    ·have p32:((z:Int) == 32)=true:=beq_iff_eq.2 (by omega)
     clear h
     go_wp2_with fail
     go_roundw
     case rel=>exact⟨p+1,by go_num,uZ HLT,HN⟩
     case measure=>have:=uZ HLT;simp [intOf];omega
    ·have p32:((z:Int) == 32)=false:=beq_eq_false_iff_ne.2 (by omega)
     have n32:¬(z:Int)=32:=by omega
     have p9:((z:Int) == 9)=true:=beq_iff_eq.2 (by omega)
     clear h
     go_wp2_with fail
     go_roundw
     case rel=>exact⟨p+1,by go_num,uZ HLT,HN⟩
     case measure=>have:=uZ HLT;simp [intOf];omega
    ·have p32:((z:Int) == 32)=false:=beq_eq_false_iff_ne.2 (by omega)
     have n32:¬(z:Int)=32:=by omega
     have p9:((z:Int) == 9)=false:=beq_eq_false_iff_ne.2 (by omega)
     have n9:¬(z:Int)=9:=by omega
     have p10:((z:Int) == 10)=true:=beq_iff_eq.2 (by omega)
     clear h
     go_wp2_with fail
     go_roundw
     case rel=>exact⟨p+1,by go_num,uZ HLT,HN⟩
     case measure=>have:=uZ HLT;simp [intOf];omega
    ·have p32:((z:Int) == 32)=false:=beq_eq_false_iff_ne.2 (by omega)
     have n32:¬(z:Int)=32:=by omega
     have p9:((z:Int) == 9)=false:=beq_eq_false_iff_ne.2 (by omega)
     have n9:¬(z:Int)=9:=by omega
     have p10:((z:Int) == 10)=false:=beq_eq_false_iff_ne.2 (by omega)
     have n10:¬(z:Int)=10:=by omega
     have p13:((z:Int) == 13)=true:=beq_iff_eq.2 (by omega)
     clear h
     go_wp2_with fail
     go_roundw
     case rel=>exact⟨p+1,by go_num,uZ HLT,HN⟩
     case measure=>have:=uZ HLT;simp [intOf];omega
   ·have q1:((z:Int) == 32)=false:=beq_eq_false_iff_ne.2 (by omega)
    have q2:((z:Int) == 9)=false:=beq_eq_false_iff_ne.2 (by omega)
    have q3:((z:Int) == 10)=false:=beq_eq_false_iff_ne.2 (by omega)
    have q4:((z:Int) == 13)=false:=beq_eq_false_iff_ne.2 (by omega)
    have q5:¬(z:Int)=32:=by omega
    have q6:¬(z:Int)=9:=by omega
    have q7:¬(z:Int)=10:=by omega
    have q8:¬(z:Int)=13:=by omega
    have hB:lxB c=false:=decide_eq_false (by rw [hz];exact hb)
    by_cases h47:¬(z=47)
    ·have k1:((z:Int) == 47)=false:=beq_eq_false_iff_ne.2 (by omega)
     have k2:¬(z:Int)=47:=by omega
     have HE:Hid (R=p∧wr=w):=hZ ⟨by
      rw [(uZ HX).1,hdr]
      simp only [blk,hB,Bool.false_eq_true,if_false]
      rw [if_neg (fun h=>h47 (by rw [←hz];exact h.1))]
      omega,(uZ HX).2⟩
     clear hdr hc hz HX hb hB h47
     go_wp2_with fail
     go_ret
     exact⟨by rw [(uZ HE).1];rfl,(uZ HE).2⟩
    replace h47:z=47:=Decidable.of_not_not h47
    have k1:((z:Int) == 47)=true:=beq_iff_eq.2 (by omega)
    by_cases hn:¬(p+1<s.size)
    ·have k3:¬(p:Int)+1<(s.size:Int):=by omega
     have HE:Hid (R=p∧wr=w):=hZ ⟨by
      rw [(uZ HX).1,hdr,List.drop_of_length_le (by rw [len_list];omega)]
      simp only [blk,hB,Bool.false_eq_true,if_false]
      rw [if_neg (fun h=>by cases h.2)]
      omega,(uZ HX).2⟩
     clear hdr hc hz HX hb hB h47
     go_wp2_with fail
     go_ret
     exact⟨by rw [(uZ HE).1];rfl,(uZ HE).2⟩
    replace hn:p+1<s.size:=Decidable.of_not_not hn
    have k3:(p:Int)+1<(s.size:Int):=by omega
    have hdr2:=drop_at s (p+1) hn
    obtain⟨d,hd⟩:∃d,s[p+1]'hn=d:=⟨_,rfl⟩
    obtain⟨y,hy⟩:∃y:Nat,d.toNat=y:=⟨_,rfl⟩
    have hyi:((s[p+1]'hn).toNat:Int)=(y:Int):=by rw [hd,hy]
    rw [hd] at hdr2
    by_cases hy47:¬(y=47)
    ·have k4:((y:Int) == 47)=false:=beq_eq_false_iff_ne.2 (by omega)
     have k5:¬(y:Int)=47:=by omega
     have HE:Hid (R=p∧wr=w):=hZ ⟨by
      rw [(uZ HX).1,hdr,hdr2]
      simp only [blk,hB,Bool.false_eq_true,if_false,List.head?_cons,Option.some.injEq]
      rw [if_neg (fun h=>hy47 (by rw [←hy,h.2];rfl))]
      omega,(uZ HX).2⟩
     clear hdr hdr2 hc hd hz hy HX hb hB h47 hy47
     go_wp2_with fail
     go_ret
     exact⟨by rw [(uZ HE).1];rfl,(uZ HE).2⟩
    replace hy47:y=47:=Decidable.of_not_not hy47
    have k4:((y:Int) == 47)=true:=beq_iff_eq.2 (by omega)
    have HN:Hid (R=p+blk true (s.data.toList.drop p)∧wr=w):=hZ ⟨by
     have e1:(decide (c.toNat≠10))=true:=decide_eq_true (by omega)
     rw [(uZ HX).1,hdr]
     have e2:blk false (c :: s.data.toList.drop (p+1))=blk true (s.data.toList.drop (p+1))+1:=by
      simp only [blk,hB,Bool.false_eq_true,if_false]
      rw [if_pos ⟨by omega,by rw [hdr2,List.head?_cons,UInt8.toNat_inj.1 (show d.toNat=(47:UInt8).toNat by show d.toNat=47;omega)]⟩]
     have e3:blk true (c :: s.data.toList.drop (p+1))=blk true (s.data.toList.drop (p+1))+1:=by
      simp only [blk]
      rw [e1]
     rw [e2,e3],(uZ HX).2⟩
    have HZ10:Hid (¬z=10):=hZ (by omega)
    have hzi2:=hzi
    clear hdr hdr2 hc hd hz hy HX hb hB hy47
    go_wp2_with fail
    go_loopw [1] (fun x wq=>∃q:Nat,x=.int .i64 (q:Int)∧p≤q∧q≤s.size∧Hid (R=q+blk true (s.data.toList.drop q)∧wq=w)) (fun x _=>s.size - (intOf x).toNat)
    case atStart=>exact⟨p,rfl,Nat.le_refl _,by omega,HN⟩
    case round=>
     clear HN
     obtain⟨q,rfl,hpq,hqs,HY⟩:=hrel
     by_cases hlq:q<s.size
     ·have j2:(q:Int)<(s.size:Int):=by omega
      have hdq:=drop_at s q hlq
      obtain⟨e,he⟩:∃e,s[q]'hlq=e:=⟨_,rfl⟩
      obtain⟨x,hx⟩:∃x:Nat,e.toNat=x:=⟨_,rfl⟩
      have hxi:((s[q]'hlq).toNat:Int)=(x:Int):=by rw [he,hx]
      rw [he] at hdq
      by_cases hx10:x=10
      ·have k6:((x:Int) == 10)=true:=beq_iff_eq.2 (by omega)
       have k7:((x:Int) != 10)=false:=by simp [show (x:Int)=10 by omega]
       have HQ:Hid (p<q∧R=q+blk false (s.data.toList.drop q)∧wr=w):=hZ ⟨by
        rcases Nat.lt_or_ge p q with g|g
        ·exact g
        ·exfalso
         have e0:q=p:=by omega
         subst e0
         exact uZ HZ10 (by omega),by
        rw [(uZ HY).1,hdq]
        simp only [blk]
        rw [decide_eq_false (by omega),if_pos (show lxB e=true from decide_eq_true (by omega))],(uZ HY).2⟩
       clear hdq he hx HY hx10
       go_wp2_with fail
       go_roundw
       case rel=>exact⟨q,rfl,hqs,hZ (uZ HQ).2⟩
       case measure=>have:=(uZ HQ).1;simp [intOf];omega
      ·have k6:((x:Int) == 10)=false:=beq_eq_false_iff_ne.2 (by omega)
       have k7:((x:Int) != 10)=true:=by simp;omega
       have k8:¬(x:Int)=10:=by omega
       have HQ:Hid (R=q+1+blk true (s.data.toList.drop (q+1))∧wr=w):=hZ ⟨by
        rw [(uZ HY).1,hdq]
        simp only [blk]
        rw [decide_eq_true (by omega)]
        omega,(uZ HY).2⟩
       have HLQ:=hZ hlq
       clear hdq he hx HY hx10
       go_wp2_with fail
       go_roundw
       case rel=>exact⟨q+1,by go_num,by omega,uZ HLQ,HQ⟩
       case measure=>have:=uZ HLQ;simp [intOf];omega
     ·have j2:¬(q:Int)<(s.size:Int):=by omega
      have HQ:Hid (R=q+blk false (s.data.toList.drop q)∧wr=w):=hZ ⟨by
       rw [(uZ HY).1,List.drop_of_length_le (by rw [len_list];omega)]
       rfl,(uZ HY).2⟩
      clear HY
      go_wp2_with fail
      go_roundw
      case rel=>exact⟨q,rfl,hqs,HQ⟩
      case measure=>have:=uZ HLT;simp [intOf];omega
  ·have j1:¬(p:Int)<(s.size:Int):=by omega
   have HE:Hid (R=p∧wr=w):=hZ ⟨by
    rw [(uZ HX).1,List.drop_of_length_le (by rw [len_list];omega)]
    simp [blk],(uZ HX).2⟩
   clear HX
   go_wp2_with fail
   go_ret
   exact⟨by rw [(uZ HE).1];rfl,(uZ HE).2⟩
theorem hexB_V:∀c:Fin 256,∀a:Fin 16,(hexB[a.val]'(by have:=a.isLt;show a.val<16;omega)=UInt8.ofNat c.val)→hexI (UInt8.ofNat c.val)=(a.val:Int):=by decide +kernel
theorem hexV_B:∀c:Fin 256,0≤hexI (UInt8.ofNat c.val)→∃a:Fin 16,hexB[a.val]'(by have:=a.isLt;show a.val<16;omega)=UInt8.ofNat c.val:=by decide +kernel
theorem hexI_low:∀c:Fin 256,-1≤hexI (UInt8.ofNat c.val):=by decide +kernel
theorem hexI_at (c:UInt8) (i:Nat) (h:i<16) (hh:i<hexB.size) (e:hexB[i]'hh=c):hexI c=(i:Int):=by
 have h2:=hexB_V ⟨c.toNat,c.toNat_lt⟩ ⟨i,h⟩ (by simpa using e)
 simpa using h2
theorem hexI_none (c:UInt8) (h:∀i (hi:i<16),¬hexB[i]'(by show i<16;omega)=c):hexI c=-1:=by
 have h1:=hexI_low ⟨c.toNat,c.toNat_lt⟩
 have h2:=hexV_B ⟨c.toNat,c.toNat_lt⟩
 have e:UInt8.ofNat (⟨c.toNat,c.toNat_lt⟩:Fin 256).val=c:=by simp
 rw [e] at h1 h2
 by_cases g:0≤hexI c
 ·obtain⟨a,ha⟩:=h2 g
  exact absurd ha (h a.val a.isLt)
 ·omega
set_option maxRecDepth 100000 in
set_option maxHeartbeats 1000000 in
theorem hexD_any (c:UInt8) (z:Int) (hz:(c.toNat:Int)=z) (w:World) :
  Calls Tryz.prog 89 #[.int .u8 z] w fun e w'=>e=.returned (.int .i64 (hexI c))∧w'=w:=by
 obtain⟨R,hR⟩:∃R,hexI c=R:=⟨_,rfl⟩
 have HR:=hZ hR
 rw [hR]
 have HZ:=hZ hz
 clear hR hz
 go_enter Tryz.func89,Tryz.ntmps89
 go_wp2_with fail
 go_loop [4] (fun x=>∃i:Nat,x=.int .i64 (i:Int)∧i≤16∧Hid (∀j (hj:j<16),j<i→¬hexB[j]'(by show j<16;omega)=c)) (fun x=>16 - (intOf x).toNat)
 case atStart=>exact⟨0,rfl,by omega,hZ (fun j _ h=>by omega)⟩
 case round=>
  obtain⟨i,rfl,hi,HJ⟩:=hrel
  by_cases hlt:i<16
  ·have j1:(i:Int)<16:=by omega
   have hs1:hexB.size=16:=rfl
   obtain⟨d,hd⟩:∃d,hexB[i]'(by omega)=d:=⟨_,rfl⟩
   have hdi:(((⟨#[48,49,50,51,52,53,54,55,56,57,97,98,99,100,101,102]⟩:ByteArray)[i]'(by show i<16;omega)).toNat:Int)=(d.toNat:Int):=by rw [←hd];rfl
   have HD:=hZ hd
   have HLT:=hZ hlt
   by_cases he:d=c
   ·have k1:((d.toNat:Int) == z)=true:=beq_iff_eq.2 (by rw [he];exact uZ HZ)
    have HE:Hid (R=(i:Int)):=hZ (by rw [←uZ HR];exact hexI_at c i hlt (by omega) (by rw [hd,he]))
    clear he hd
    go_wp2_with fail
    go_ret
    exact⟨by rw [uZ HE];rfl,rfl⟩
   ·have k0:¬(d.toNat:Int)=z:=fun e=>he (UInt8.toNat_inj.1 (by have:=uZ HZ;omega))
    have k1:((d.toNat:Int) == z)=false:=beq_eq_false_iff_ne.2 k0
    have HE:Hid (∀j (hj:j<16),j<i+1→¬hexB[j]'(by show j<16;omega)=c):=hZ (fun j hj h=>by
     rcases Nat.lt_or_ge j i with g|g
     ·exact uZ HJ j hj g
     ·obtain rfl:j=i:=by omega
      rw [uZ HD]
      exact he)
    clear he hd
    go_wp2_with fail
    go_round
    case rel=>exact⟨i+1,by go_num,by have:=uZ HLT;omega,HE⟩
    case measure=>have:=uZ HLT;simp [intOf];omega
  ·have j1:¬(i:Int)<16:=by omega
   have HE:Hid (R=-1):=hZ (by rw [←uZ HR];exact hexI_none c (fun j hj=>uZ HJ j hj (by omega)))
   go_wp2_with fail
   go_ret
   exact⟨by rw [uZ HE];rfl,rfl⟩
set_option maxRecDepth 100000 in
set_option maxHeartbeats 1000000 in
theorem pieceD_any (s:ByteArray) (a:Nat) (h0:a<s.size) (h34:¬(s[a]'h0).toNat=34) (hs:s.size≤8192) (w:World) :
  Calls Tryz.prog 63 #[.string s,.int .i64 (a:Int)] w fun e w'=>e=.returned (pcV (pcL (s.data.toList.drop a)))∧w'=w:=by
 have hs2:(s.size:Int)≤8192:=by omega
 have ha2:(a:Int)<(s.size:Int):=by omega
 have hd0:=drop_at s a h0
 obtain⟨c,hc⟩:∃c,s[a]'h0=c:=⟨_,rfl⟩
 rw [hc] at hd0 h34
 obtain⟨z,hz⟩:∃z:Nat,c.toNat=z:=⟨_,rfl⟩
 have hzi:((s[a]'h0).toNat:Int)=(z:Int):=by rw [hc,hz]
 have hcz:(c.toNat:Int)=(z:Int):=by rw [hz]
 have z1:(z:Int)≤255:=by have:=c.toNat_lt;omega
 have m1:((z:Int) == 34)=false:=beq_eq_false_iff_ne.2 (by omega)
 have m2:¬(z:Int)=34:=by omega
 obtain⟨b1,hb1⟩:∃b,a+1=b:=⟨_,rfl⟩
 obtain⟨b2,hb2⟩:∃b,a+2=b:=⟨_,rfl⟩
 obtain⟨b3,hb3⟩:∃b,a+3=b:=⟨_,rfl⟩
 have e1:(a:Int)+1=(b1:Int):=by omega
 have e2:(a:Int)+2=(b2:Int):=by omega
 have e3:(a:Int)+3=(b3:Int):=by omega
 obtain⟨R,hR⟩:∃R,pcL (s.data.toList.drop a)=R:=⟨_,rfl⟩
 have hR2:=hR
 rw [hd0,pcL_cons,hz,hb1] at hR2
 rw [hR]
 have HB:=hZ (And.intro hb1 (And.intro hb2 hb3))
 clear hR hd0 h34
 by_cases hb:z<32∨126<z
 ·rw [if_pos hb] at hR2
  subst hR2
  unfold pcV
  clear hc hz hb1 hb2 hb3
  rcases hb with g|g
  ·have i1:(z:Int)<32:=by omega
   go_enter Tryz.func63,Tryz.ntmps63
   go_wp2_with fail
   go_ret2
   exact⟨rfl,rfl⟩
  ·have i0:¬(z:Int)<32:=by omega
   have i1:(126:Int)<(z:Int):=by omega
   go_enter Tryz.func63,Tryz.ntmps63
   go_wp2_with fail
   go_ret2
   exact⟨rfl,rfl⟩
 rw [if_neg hb] at hR2
 have i0:¬(z:Int)<32:=by omega
 have i1:¬(126:Int)<(z:Int):=by omega
 by_cases h92:¬z=92
 ·rw [if_neg h92] at hR2
  subst hR2
  rw [pcV_some,hcz]
  have i2:((z:Int) == 92)=false:=beq_eq_false_iff_ne.2 (by omega)
  have i3:¬(z:Int)=92:=by omega
  have i4:((z:Int) != 92)=true:=by simp [i3]
  clear hc hz hb1 hb2 hb3
  go_enter Tryz.func63,Tryz.ntmps63
  go_wp2_with fail
  go_ret2
  exact⟨rfl,rfl⟩
 replace h92:z=92:=Decidable.of_not_not h92
 rw [if_pos h92] at hR2
 have i2:((z:Int) == 92)=true:=beq_iff_eq.2 (by omega)
 have i4:((z:Int) != 92)=false:=by simp [show (z:Int)=92 by omega]
 clear hc hcz
 by_cases hn2:¬b1<s.size
 ·have q1:s.data.toList.drop b1=[]:=List.drop_of_length_le (by rw [len_list];omega)
  rw [q1] at hR2
  have hR3:R=none:=hR2.symm
  subst hR3
  unfold pcV
  have j1:¬(b1:Int)<(s.size:Int):=by omega
  have j2:¬(b3:Int)<(s.size:Int):=by omega
  clear hR2 h92 hz hb1 hb2 hb3 hn2 q1
  go_enter Tryz.func63,Tryz.ntmps63
  go_wp2_with fail
  go_ret2
  exact⟨rfl,rfl⟩
 have hlt1:b1<s.size:=Decidable.of_not_not hn2
 have hd1:=drop_at s b1 hlt1
 obtain⟨d,hd⟩:∃d,s[b1]'hlt1=d:=⟨_,rfl⟩
 rw [hd] at hd1
 obtain⟨y,hy⟩:∃y:Nat,d.toNat=y:=⟨_,rfl⟩
 have hyi:((s[b1]'hlt1).toNat:Int)=(y:Int):=by rw [hd,hy]
 have hdy:(d.toNat:Int)=(y:Int):=by rw [hy]
 have y1:(y:Int)≤255:=by have:=d.toNat_lt;omega
 have j1:(b1:Int)<(s.size:Int):=by omega
 rw [hd1,escP_cons,hy,show b1+1=b2 by omega] at hR2
 by_cases hq:y=34∨y=92
 ·rw [if_pos hq] at hR2
  subst hR2
  rw [pcV_some,hdy]
  clear h92 hd hd1 hb1 hb2 hb3 hz hn2
  rcases hq with g|g
  ·have k1:((y:Int) == 34)=true:=beq_iff_eq.2 (by omega)
   have k2:(y:Int)=34:=by omega
   rw [k2]
   rw [k2] at hyi
   clear k2 hy hdy g k1 y1
   go_enter Tryz.func63,Tryz.ntmps63
   go_wp2_with fail
   go_ret2
   exact⟨rfl,rfl⟩
  ·have k2:(y:Int)=92:=by omega
   rw [k2]
   rw [k2] at hyi
   clear k2 hy hdy g y1
   go_enter Tryz.func63,Tryz.ntmps63
   go_wp2_with fail
   go_ret2
   exact⟨rfl,rfl⟩
 rw [if_neg hq] at hR2
 have k1:((y:Int) == 34)=false:=beq_eq_false_iff_ne.2 (by omega)
 have k2:((y:Int) == 92)=false:=beq_eq_false_iff_ne.2 (by omega)
 have k3:¬(y:Int)=34:=by omega
 have k4:¬(y:Int)=92:=by omega
 clear hd hd1 hdy
 by_cases hx:¬y=120
 ·rw [if_neg hx] at hR2
  subst hR2
  unfold pcV
  have k5:((y:Int) == 120)=false:=beq_eq_false_iff_ne.2 (by omega)
  have k6:¬(y:Int)=120:=by omega
  clear h92 hb1 hb2 hb3 hz hn2 hy
  by_cases hn4:(b3:Int)<(s.size:Int)
  all_goals
   go_enter Tryz.func63,Tryz.ntmps63
   go_wp2_with fail
   go_ret2
   exact⟨rfl,rfl⟩
 replace hx:y=120:=Decidable.of_not_not hx
 rw [if_pos hx] at hR2
 have k6:(y:Int)=120:=by omega
 rw [k6] at hyi
 clear k1 k2 k3 k4 k6 y1
 by_cases hn4:¬b3<s.size
 ·have q1:hexP (s.data.toList.drop b2)=none:=by
   have hl:(s.data.toList.drop b2).length=s.size - b2:=by rw [List.length_drop,len_list]
   match s.data.toList.drop b2,hl with
   |[],_=>rfl
   |[_],_=>rfl
   |_ :: _ :: _,hl=>simp at hl;omega
  rw [q1] at hR2
  subst hR2
  unfold pcV
  have j2:¬(b3:Int)<(s.size:Int):=by omega
  clear h92 hb1 hb2 hb3 hz hn2 hy hx hn4 q1
  go_enter Tryz.func63,Tryz.ntmps63
  go_wp2_with fail
  go_ret2
  exact⟨rfl,rfl⟩
 have hlt3:b3<s.size:=Decidable.of_not_not hn4
 have j2:(b3:Int)<(s.size:Int):=by omega
 have hlt2:b2<s.size:=by omega
 have j3:(b2:Int)<(s.size:Int):=by omega
 obtain⟨e,he⟩:∃e,s[b2]'hlt2=e:=⟨_,rfl⟩
 obtain⟨f,hf⟩:∃f,s[b3]'hlt3=f:=⟨_,rfl⟩
 have hd2:=drop_at s b2 hlt2
 have hd3:=drop_at s b3 hlt3
 rw [he] at hd2
 rw [hf] at hd3
 rw [hd2,show b2+1=b3 by omega,hd3] at hR2
 obtain⟨x2,hx2⟩:∃x:Int,(e.toNat:Int)=x:=⟨_,rfl⟩
 obtain⟨x3,hx3⟩:∃x:Int,(f.toNat:Int)=x:=⟨_,rfl⟩
 have he2:((s[b2]'hlt2).toNat:Int)=x2:=by rw [he,hx2]
 have hf2:((s[b3]'hlt3).toNat:Int)=x3:=by rw [hf,hx3]
 have C2:=hZ (hexD_any e x2 hx2 w)
 have C3:=hZ (hexD_any f x3 hx3 w)
 obtain⟨A,hA⟩:∃A,hexI e=A:=⟨_,rfl⟩
 obtain⟨B,hB⟩:∃B,hexI f=B:=⟨_,rfl⟩
 rw [hA] at C2
 rw [hB] at C3
 have HZ2:Hid (hexP (e :: f :: s.data.toList.drop (b3+1))=R):=hZ hR2
 have HAB:=hZ (And.intro hA hB)
 have hAr:-1≤A∧A≤15:=by
  rw [←hA]
  unfold hexI
  cases h:hexV e with
  |none=>simp
  |some a=>have:=hexV_lt h;simp;omega
 have hBr:-1≤B∧B≤15:=by
  rw [←hB]
  unfold hexI
  cases h:hexV f with
  |none=>simp
  |some a=>have:=hexV_lt h;simp;omega
 clear hR2 hd2 hd3 h92 hx hn4 hn2 hb hA hB hx2 hx3 he hf hy hz hb1 hb2 hb3
 by_cases hA0:0≤A
 ·by_cases hB0:0≤B
  ·obtain⟨aa,rfl⟩:∃a:Nat,A=(a:Int):=⟨A.toNat,by omega⟩
   obtain⟨bb,rfl⟩:∃b:Nat,B=(b:Int):=⟨B.toNat,by omega⟩
   have HQ:Hid (R=some (UInt8.ofNat (16 * aa+bb),4)∧aa<16∧bb<16):=hZ (by
    obtain⟨h1,h2⟩:=uZ HAB
    have h3:=uZ HZ2
    unfold hexI at h1 h2
    cases he:hexV e with
    |none=>rw [he] at h1;simp only at h1;omega
    |some a'=>
     cases hf:hexV f with
     |none=>rw [hf] at h2;simp only at h2;omega
     |some b'=>
      rw [he] at h1
      rw [hf] at h2
      simp only at h1 h2
      obtain rfl:a'=aa:=by omega
      obtain rfl:b'=bb:=by omega
      refine⟨?_,hexV_lt he,hexV_lt hf⟩
      rw [←h3]
      simp only [hexP,he,hf])
   have hof:Hid (((UInt8.ofNat (16 * aa+bb)).toNat:Int)=16 * (aa:Int)+(bb:Int)):=hZ (by
    have:=(uZ HQ).2
    rw [UInt8.toNat_ofNat']
    omega)
   go_enter Tryz.func63,Tryz.ntmps63
   go_wp2_with fail
   refine(uZ C2).mono ?_
   rintro e u ⟨rfl,rfl⟩
   go_wp2_with fail
   refine(uZ C3).mono ?_
   rintro e u ⟨rfl,rfl⟩
   go_wp2_with fail
   go_ret2
   refine⟨?_,rfl⟩
   rw [(uZ HQ).1,pcV_some,uZ hof]
   rfl
  ·have HQ:Hid (R=none):=hZ (by
    obtain⟨h1,h2⟩:=uZ HAB
    rw [←uZ HZ2]
    unfold hexI at h2
    cases hf:hexV f with
    |none=>simp only [hexP,hf];cases hexV e <;> rfl
    |some b'=>rw [hf] at h2;simp at h2;omega)
   go_enter Tryz.func63,Tryz.ntmps63
   go_wp2_with fail
   refine(uZ C2).mono ?_
   rintro e u ⟨rfl,rfl⟩
   go_wp2_with fail
   refine(uZ C3).mono ?_
   rintro e u ⟨rfl,rfl⟩
   go_wp2_with fail
   go_ret2
   exact⟨by rw [uZ HQ];rfl,rfl⟩
 ·have HQ:Hid (R=none):=hZ (by
   obtain⟨h1,h2⟩:=uZ HAB
   rw [←uZ HZ2]
   unfold hexI at h1
   cases he:hexV e with
   |none=>simp only [hexP,he]
   |some b'=>rw [he] at h1;simp at h1;omega)
  go_enter Tryz.func63,Tryz.ntmps63
  go_wp2_with fail
  refine(uZ C2).mono ?_
  rintro e u ⟨rfl,rfl⟩
  go_wp2_with fail
  refine(uZ C3).mono ?_
  rintro e u ⟨rfl,rfl⟩
  go_wp2_with fail
  go_ret2
  exact⟨by rw [uZ HQ];rfl,rfl⟩
def NumR (W:List UInt8) (e:Ending):Prop:=∃z:Int,e=.returned (.tuple #[.int .i64 z,.bool (intV W).isSome])∧∀n,intV W=some n→z=(n:Int)
theorem all_next (s:ByteArray) (i:Nat) (h:i<s.size):(s.data.toList.take (i+1))=s.data.toList.take i++[s[i]'h]:=by
 rw [List.take_add_one,at_list s i h]
 rfl
theorem pow_19 (i:Nat) (h:i≤18):10 ^ i≤1000000000000000000:=Nat.le_trans (Nat.pow_le_pow_right (by decide) h) (by decide)
set_option maxRecDepth 100000 in
set_option maxHeartbeats 1000000 in
theorem numberD_any (s:ByteArray) (h0:0<s.size) (hs:s.size≤8192) (w:World) :
  Calls Tryz.prog 41 #[.string s] w fun e w'=>NumR s.data.toList e∧w'=w:=by
 have hs2:(s.size:Int)≤8192:=by omega
 obtain⟨r,hr⟩:=head_list s h0
 obtain⟨c,hc⟩:∃c,s[0]'h0=c:=⟨_,rfl⟩
 obtain⟨z,hz⟩:∃z:Nat,c.toNat=z:=⟨_,rfl⟩
 have hzi:((s[0]'h0).toNat:Int)=(z:Int):=by rw [hc,hz]
 rw [hc] at hr
 by_cases h19:19<s.size
 ·have hN:intV s.data.toList=none:=by rw [hr];exact int_long (by rw [←hr,len_list];exact h19)
  have HP:Hid (NumR s.data.toList (.returned (.tuple #[.int .i64 0,.bool false]))):=hZ ⟨0,by rw [hN];rfl,fun n h=>by rw [hN] at h;cases h⟩
  have i1:(19:Int)<(s.size:Int):=by omega
  clear hN hr hc hz
  go_enter Tryz.func41,Tryz.ntmps41
  go_wp2_with fail
  go_ret2
  exact⟨uZ HP,rfl⟩
 have i1:¬(19:Int)<(s.size:Int):=by omega
 by_cases hzero:1<s.size∧z=48
 ·have hN:intV s.data.toList=none:=by
   unfold intV
   rw [if_neg]
   rintro ⟨_,h2,_⟩
   rcases h2 with h2|h2
   ·rw [len_list] at h2;omega
   ·exact h2 (by rw [hr,List.head?_cons,UInt8.toNat_inj.1 (show c.toNat=(48:UInt8).toNat by show c.toNat=48;omega)])
  have HP:Hid (NumR s.data.toList (.returned (.tuple #[.int .i64 0,.bool false]))):=hZ ⟨0,by rw [hN];rfl,fun n h=>by rw [hN] at h;cases h⟩
  have i2:(1:Int)<(s.size:Int):=by omega
  have i3:((z:Int) == 48)=true:=beq_iff_eq.2 (by omega)
  clear hN hr hc hz hzero
  go_enter Tryz.func41,Tryz.ntmps41
  go_wp2_with fail
  go_ret2
  exact⟨uZ HP,rfl⟩
 have HCAN:Hid (s.data.toList.length≤1∨s.data.toList.head?≠some 48):=hZ (by
  rw [len_list]
  rcases Nat.lt_or_ge 1 s.size with h|h
  ·right
   rw [hr,List.head?_cons]
   intro e
   exact hzero ⟨h,by rw [←hz,Option.some.inj e];rfl⟩
  ·exact Or.inl h)
 have H19:=hZ h19
 have walkIt:∀(hcond:(1:Int)<(s.size:Int)∧((z:Int) == 48)=false∧¬(z:Int)=48∨¬(1:Int)<(s.size:Int)),Calls Tryz.prog 41 #[.string s] w fun e w'=>NumR s.data.toList e∧w'=w:=by
  intro hcond
  clear hr hc hz hzero
  rcases hcond with ⟨i2,i3,i4⟩|i2
  all_goals
   go_enter Tryz.func41,Tryz.ntmps41
   go_wp2_with fail
   go_loop [4,5] (fun y x=>∃i:Nat,x=.int .i64 (i:Int)∧i≤s.size∧y=.int .u64 (valF 0 (s.data.toList.take i):Nat)∧Hid ((s.data.toList.take i).all lxDig=true)) (fun _ x=>s.size - (intOf x).toNat)
   case atStart=>exact⟨0,rfl,by omega,rfl,hZ rfl⟩
   case round=>
    obtain⟨i,rfl,hi,rfl,HA⟩:=hrel
    obtain⟨v,hv⟩:∃v,valF 0 (s.data.toList.take i)=v:=⟨_,rfl⟩
    rw [hv]
    by_cases hlt:i<s.size
    ·have j1:(i:Int)<(s.size:Int):=by omega
     have hvl:v<1000000000000000000:=by
      have h1:=valF_small (s.data.toList.take i) 0 (uZ HA)
      have h2:(s.data.toList.take i).length≤i:=List.length_take_le _ _
      have h3:=pow_19 (s.data.toList.take i).length (by have:=uZ H19;omega)
      rw [hv] at h1
      omega
     have CD:=hZ (digitD_at s i hlt w)
     obtain⟨d,hd⟩:∃d,s[i]'hlt=d:=⟨_,rfl⟩
     obtain⟨y,hy⟩:∃y:Nat,d.toNat=y:=⟨_,rfl⟩
     have hyi:((s[i]'hlt).toNat:Int)=(y:Int):=by rw [hd,hy]
     have hdy:(d.toNat:Int)=(y:Int):=by rw [hy]
     rw [hd,hdy] at CD
     have HNX:=hZ (all_next s i hlt)
     have HD:=hZ (And.intro hd hy)
     have HLT:=hZ hlt
     cases hD:lxDig d with
     |false=>
      have HP:Hid (NumR s.data.toList (.returned (.tuple #[.int .i64 0,.bool false]))):=hZ (by
       have hN:intV s.data.toList=none:=by
        unfold intV
        rw [if_neg]
        rintro ⟨h1,_,_⟩
        rw [List.all_eq_true] at h1
        have:=h1 d (List.mem_of_getElem? (by rw [at_list s i hlt,hd]))
        rw [hD] at this
        cases this
       exact⟨0,by rw [hN];rfl,fun n h=>by rw [hN] at h;cases h⟩)
      rw [hD] at CD
      clear hd hy hD hdy hv
      go_wp2_with fail
      refine(uZ CD).mono ?_
      rintro e u ⟨rfl,rfl⟩
      go_wp2_with fail
      go_ret2
      exact⟨uZ HP,rfl⟩
     |true=>
      have hrg:=dig_range hD
      rw [hy] at hrg
      have HN2:Hid (valF 0 (s.data.toList.take (i+1))=10 * v+(y - 48)∧(s.data.toList.take (i+1)).all lxDig=true):=hZ (by
       rw [uZ HNX,valF_one,hv,hd,hy,List.all_append,uZ HA]
       refine⟨rfl,?_⟩
       simp [hD])
      have w1:IntKind.u64.wrap (10 * (v:Int))=10 * (v:Int):=by rw [IntKind.wrap_u64];omega
      have w2:IntKind.u8.wrap ((y:Int) - 48)=(y:Int) - 48:=by rw [IntKind.wrap_u8];omega
      have w4:IntKind.u64.wrap ((y:Int) - 48)=(y:Int) - 48:=by rw [IntKind.wrap_u64];omega
      have w3:IntKind.u64.wrap (10 * (v:Int)+((y:Int) - 48))=10 * (v:Int)+((y:Int) - 48):=by rw [IntKind.wrap_u64];omega
      have HEQ:Hid (10 * (v:Int)+((y:Int) - 48)=((10 * v+(y - 48):Nat):Int)):=hZ (by omega)
      rw [hD] at CD
      clear hd hy hD hdy hv
      go_wp2_with fail
      refine(uZ CD).mono ?_
      rintro e u ⟨rfl,rfl⟩
      go_wp2_with fail
      go_round
      case rel=>exact⟨i+1,by go_num,uZ HLT,by rw [(uZ HN2).1,←uZ HEQ],hZ (uZ HN2).2⟩
      case measure=>have:=uZ HLT;simp [intOf];omega
    ·have j1:¬(i:Int)<(s.size:Int):=by omega
     have ei:i=s.size:=by omega
     have hfull:s.data.toList.take i=s.data.toList:=List.take_of_length_le (by rw [len_list];omega)
     have HAA:=HA
     rw [hfull] at hv HAA
     by_cases hmax:v≤9223372036854775807
     ·have HP:Hid (NumR s.data.toList (.returned (.tuple #[.int .i64 (v:Int),.bool true]))):=hZ (by
       have hN:intV s.data.toList=some v:=by
        unfold intV
        rw [if_pos ⟨uZ HAA,uZ HCAN,by rw [valD_F,hv];exact hmax⟩,valD_F,hv]
       exact⟨(v:Int),by rw [hN];rfl,fun n h=>by rw [hN] at h;cases h;rfl⟩)
      have k1:(v:Int)≤9223372036854775807:=by omega
      have k2:IntKind.i64.wrap (v:Int)=(v:Int):=by rw [IntKind.wrap_i64];omega
      clear hfull hv ei hmax HAA HA
      go_wp2_with fail
      go_ret2
      exact⟨uZ HP,rfl⟩
     ·have k1:¬(v:Int)≤9223372036854775807:=by omega
      have HP:Hid (∀z:Int,NumR s.data.toList (.returned (.tuple #[.int .i64 z,.bool false]))):=hZ (fun z=>by
       have hN:intV s.data.toList=none:=by
        unfold intV
        rw [if_neg]
        rintro ⟨_,_,h3⟩
        rw [valD_F,hv] at h3
        exact hmax h3
       exact⟨z,by rw [hN];rfl,fun n h=>by rw [hN] at h;cases h⟩)
      clear hfull hv ei hmax HAA HA
      go_wp2_with fail
      go_ret2
      exact⟨uZ HP _,rfl⟩
 by_cases h1:1<s.size
 ·exact walkIt (Or.inl ⟨by omega,beq_eq_false_iff_ne.2 (by intro e;exact hzero ⟨h1,by omega⟩),by intro e;exact hzero ⟨h1,by omega⟩⟩)
 ·exact walkIt (Or.inr (by omega))
end Go.Proofs.YtilhlmmcdfoaoaaGreatDoor
