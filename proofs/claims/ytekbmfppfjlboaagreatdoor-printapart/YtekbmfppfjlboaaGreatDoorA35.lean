/-
  Layer 18 (print): has a node such kids as its row says (the document's); conditions: the nodes lie in memory.
-/
import Derived.Test.YtekbmfppfjlboaaGreatDoorA34
import Derived.Test.YtekbmfppfjlboaaGreatDoorA09
set_option linter.unusedVariables false
set_option linter.unusedSimpArgs false
namespace Go.Proofs.YtekbmfppfjlboaaGreatDoor
open Go.RowKit
set_option linter.unusedVariables false
set_option linter.unusedSimpArgs false
def KidA (k:Int) (l:List Int) (e:Ending):Prop:=∃q:Bool,e=.returned (.bool q)∧(1≤k→k≤22→q=kdB k l)
theorem kd_one' {k:Int} (h:k=6∨k=12∨k=16∨k=22∨k=20) (l:List Int):kdB k l=(decide (l.length=1) && l.all isEx):=by
 rw [kd_one h]
 match l with
 |[]=>rfl
 |[a]=>simp
 |a :: b :: r=>simp
set_option maxRecDepth 100000 in
set_option maxHeartbeats 4000000 in
theorem rkids_any (B0:Nat) (y:Tn) (x:List Value) (w:World) (hB:B0≤w.heap.size) (hx:IsN w (fun b=>b<B0) y x) :
  Calls Tryz.prog 50 #[.agg x.toArray] w fun e w'=>KidA y.k (y.ks.map (·.k)) e∧Below w.heap.size w w':=by
 have hx0:=hx
 obtain⟨vk,vn,vs,al,ak,a,ll,cl,lk,ck,cc,rfl,hvv,hr,hbk,hbp⟩:=hx.opn
 obtain⟨k,t,v,f,ks,p⟩:=y
 obtain⟨n,hn⟩:∃n,ks.length=n:=⟨_,rfl⟩
 have hnb:n≤140737488351232:=by rw [←hn];exact hr.len
 simp only [hn] at hx0 hvv hr hbk hbp ⊢
 obtain⟨w1,hw1⟩:∃w1,w.alloc (.cells #[.int .i64 k,.string t,.int .i64 vk,.int .i64 vn,.string vs,.slice al ll cl,.slice ak lk ck,.bool f,.slice a n cc,.int .i64 p] 28)=w1:=⟨_,rfl⟩
 obtain⟨G,hG⟩:∃G,w.heap.size=G:=⟨_,rfl⟩
 have A1:w1.heap[G]?=some (.cells #[.int .i64 k,.string t,.int .i64 vk,.int .i64 vn,.string vs,.slice al ll cl,.slice ak lk ck,.bool f,.slice a n cc,.int .i64 p] 28 (0,0)):=by rw [←hw1,←hG];exact heap_alloc_new _ _
 have X1:Below G w w1:=by rw [←hw1,←hG];exact(Below.refl _ _).alloc (Nat.le_refl _) _
 have hBG:B0≤G:=by rw [←hG];exact hB
 have HM:Hid (∀u,Below w1.heap.size w1 u→IsN u (fun b=>b<B0) ⟨k,t,v,f,ks,p⟩ [.int .i64 k,.string t,.int .i64 vk,.int .i64 vn,.string vs,.slice al ll cl,.slice ak lk ck,.bool f,.slice a n cc,.int .i64 p]∧RowN u B0 ks a cc∧B0≤u.heap.size∧IsV u B0 v (.agg #[.int .i64 vk,.int .i64 vn,.string vs,.slice al ll cl,.slice ak lk ck])∧Below G w u):=hide (fun u hu=>by
  have h2:=X1.trans (hu.mono (Nat.le_of_lt (lt_of_row A1)))
  exact⟨hx0.laterB (h2.mono hBG),hr.later (h2.mono hBG),Nat.le_trans hBG (by rw [←hG];exact h2.size),hvv.mono (h2.mono hBG),h2⟩)
 have HF:Hid (∀u,Below w1.heap.size w1 u→u.cell? ⟨G,0,none⟩=some (.int .i64 k)∧u.cell? ⟨G,1,none⟩=some (.string t)∧u.cell? ⟨G,2,none⟩=some (.int .i64 vk)∧u.cell? ⟨G,3,none⟩=some (.int .i64 vn)∧u.cell? ⟨G,4,none⟩=some (.string vs)∧u.cell? ⟨G,5,none⟩=some (.slice al ll cl)∧u.cell? ⟨G,6,none⟩=some (.slice ak lk ck)∧u.cell? ⟨G,7,none⟩=some (.bool f)∧u.cell? ⟨G,8,none⟩=some (.slice a n cc)∧u.cell? ⟨G,9,none⟩=some (.int .i64 p)):=hide (fun u hu=>row_ten (Below.cellsAt hu A1))
 have HN:=hide hn
 have HS0:Hid (Below w1.heap.size w1 w1):=hide (Below.refl _ _)
 have HW:=hide hw1
 have hncc:n≤cc:=by obtain⟨C,hf,_⟩:=hr;rw [←hn];exact hf.ll
 have HML:=hide (show (ks.map (·.k)).length=n by rw [List.length_map];exact hn)
 clear A1 X1 hw1 hx hx0 hr hvv hB hBG hn
 go_enter Tryz.func50,Tryz.ntmps50
 go_upto_region 1 with fail
 rw [unhide HW]
 try rw [hG]
 clear HW
 obtain⟨x0,x1,x2,x3,x4,x5,x6,x7,x8,x9⟩:=unhide HF w1 (Below.refl _ _)
 go_wp2_with fail
 clear x0 x1 x2 x3 x4 x5 x6 x7 x8 x9
 go_loopw [4,5] (fun ev x wr=>∃(i:Nat) (q:Bool),x=.int .i64 (i:Int)∧ev=.bool q∧i≤n∧Hid (Below w1.heap.size w1 wr)∧Hid (q=(ks.take i).all (fun z=>isEx z.k))) (fun _ x _=>n - (intOf x).toNat)
 case atStart=>exact⟨0,true,rfl,rfl,Nat.zero_le _,HS0,hide (by simp)⟩
 case round=>
  obtain⟨i,q,rfl,rfl,hi,HX,HQ⟩:=hrel
  obtain⟨x0,x1,x2,x3,x4,x5,x6,x7,x8,x9⟩:=unhide HF wr (unhide HX)
  by_cases hlt:i<n
  ·have i1:(i:Int)<(n:Int):=by omega
   obtain⟨z,hz⟩:∃z,ks[i]?=some z:=⟨_,List.getElem?_eq_getElem (by have:=unhide HN;omega)⟩
   obtain⟨b,vky,vny,vsy,aly,aky,ay,lly,cly,lky,cky,ny,ccy,rfl,hcy,hby,hny,hzy,hcelly⟩:=((unhide HM) wr (unhide HX)).2.1.ten hz
   have e0:wr.cell? (b.add (i * 10))=some (.int .i64 z.k):=hcelly 0 _ rfl
   have CC:=hide (risex_any z.k wr)
   obtain⟨r,hrr⟩:∃r,isEx z.k=r:=⟨_,rfl⟩
   rw [hrr] at CC
   have HQ1:Hid (∀p:Bool,p=(q && r)→p=(ks.take (i+1)).all (fun z=>isEx z.k)):=hide (fun p hp=>by rw [hp,unhide HQ,List.take_add_one,hz,List.all_append];simp [hrr])
   have HI1:=hide (show i+1≤n by omega)
   clear hz hcy hby hny hzy hcelly hrr HQ
   go_wp2_with fail
   refine(unhide CC).mono ?_
   rintro e w5 ⟨rfl,bb⟩
   have HX5:=hide ((unhide HX).trans (bb.mono (unhide HX).size))
   clear bb CC x0 x1 x2 x3 x4 x5 x6 x7 x8 x9 e0
   cases q with
   |false=>
    go_wp2_with fail
    go_roundw
    case rel=>exact⟨i+1,_,by go_num,rfl,unhide HI1,HX5,hide (unhide HQ1 _ (by simp))⟩
    case measure=>have:=unhide HI1;simp [intOf];omega
   |true=>
    go_wp2_with fail
    go_roundw
    case rel=>exact⟨i+1,_,by go_num,rfl,unhide HI1,HX5,hide (unhide HQ1 _ (by simp))⟩
    case measure=>have:=unhide HI1;simp [intOf];omega
  ·have i1:¬(i:Int)<(n:Int):=by omega
   have HE:Hid ((ks.map (·.k)).all isEx=q):=hide (by rw [all_k,unhide HQ,List.take_of_length_le (by have:=unhide HN;omega)])
   clear HQ
   by_cases h1:k=1
   ·subst h1
    have CC:=hide (rall_any B0 ks a n cc 2 wr ((unhide HM) wr (unhide HX)).2.1 (unhide HN))
    go_wp2_with fail
    refine(unhide CC).mono ?_
    rintro e w5 ⟨rfl,bb⟩
    have HX5:=hide ((unhide HX).trans (bb.mono (unhide HX).size))
    clear bb CC x0 x1 x2 x3 x4 x5 x6 x7 x8 x9
    have HV:=hide (show ks.all (fun z=>decide (z.k=2))=kdB 1 (ks.map (·.k)) by rw [show kdB 1 (ks.map (·.k))=(ks.map (·.k)).all (fun x=>decide (x=2)) by simp [kdB],all_k])
    go_wp2_with fail
    go_ret
    have hbz:=((unhide HM) w5 (unhide HX5)).2.2.2.2
    exact⟨⟨_,rfl,fun _ _=>unhide HV⟩,by first|exact hbz|(rw [hG];exact hbz)⟩
   have b1:(k == 1)=false:=by simpa using h1
   by_cases h2:k=2
   ·subst h2
    by_cases hl:n=0
    ·subst hl
     have HV:=hide (show false=kdB 2 (ks.map (·.k)) by rw [kd_fn,unhide HML];rfl)
     go_wp2_with fail
     go_ret
     have hbz:=((unhide HM) wr (unhide HX)).2.2.2.2
     exact⟨⟨_,rfl,fun _ _=>unhide HV⟩,by first|exact hbz|(rw [hG];exact hbz)⟩
    ·have q1:(0:Int)<(n:Int):=by omega
     obtain⟨m,hm⟩:∃m,n=m+1:=⟨n - 1,by omega⟩
     have q2:(n:Int) - 1=(m:Int):=by omega
     have q3:m≤cc:=by omega
     have q4:(m:Int)≤(cc:Int):=by omega
     have q5:(m:Int)<(n:Int):=by omega
     have q6:(0:Int)≤(m:Int):=by omega
     have q7:IntKind.i64.wrap (m:Int)=(m:Int):=by rw [IntKind.wrap_i64];omega
     have hmt:(ks.take m).length=m:=by rw [List.length_take,unhide HN];omega
     have HMM:=hide hm
     clear hm
     obtain⟨z,hz⟩:∃z,ks[m]?=some z:=⟨_,List.getElem?_eq_getElem (by rw [unhide HN,unhide HMM];omega)⟩
     have HRT:=hide (((unhide HM) wr (unhide HX)).2.1.take m)
     obtain⟨b,vky,vny,vsy,aly,aky,ay,lly,cly,lky,cky,ny,ccy,rfl,hcy,hby,hny,hzy,hcelly⟩:=((unhide HM) wr (unhide HX)).2.1.ten hz
     have e0:wr.cell? (b.add (m * 10))=some (.int .i64 z.k):=hcelly 0 _ rfl
     have HZ:=hide (show (ks.map (·.k))[m]?=some z.k by rw [List.getElem?_map,hz];rfl)
     clear hz hcy hby hny hzy hcelly
     by_cases h4:z.k=4
     ·have c4:(z.k == 4)=true:=by simp [h4]
      have CC:=hide (rall_any B0 (ks.take m) (some b) m cc 3 wr (unhide HRT) hmt)
      obtain⟨r,hrr⟩:∃r,(ks.take m).all (fun z=>decide (z.k=3))=r:=⟨_,rfl⟩
      rw [hrr] at CC
      have HRR:=hide hrr
      clear hrr hmt
      go_wp2_with fail
      refine(unhide CC).mono ?_
      rintro e w5 ⟨rfl,bb⟩
      have HX5:=hide ((unhide HX).trans (bb.mono (unhide HX).size))
      clear bb CC x0 x1 x2 x3 x4 x5 x6 x7 x8 x9
      have HV:=hide (show r=kdB 2 (ks.map (·.k)) by rw [kd_fn,unhide HML,unhide HMM,Nat.add_sub_cancel,decide_eq_true (by omega),Bool.true_and,←List.map_take,all_k,unhide HZ,unhide HRR];simp [h4])
      go_wp2_with fail
      go_ret
      have hbz:=((unhide HM) w5 (unhide HX5)).2.2.2.2
      exact⟨⟨_,rfl,fun _ _=>unhide HV⟩,by first|exact hbz|(rw [hG];exact hbz)⟩
     ·have c4:(z.k == 4)=false:=by simpa using h4
      have HV:=hide (show false=kdB 2 (ks.map (·.k)) by rw [kd_fn,unhide HML,unhide HMM,Nat.add_sub_cancel,decide_eq_true (by omega),Bool.true_and,←List.map_take,all_k,unhide HZ];simp [h4])
      go_wp2_with fail
      go_ret
      have hbz:=((unhide HM) wr (unhide HX)).2.2.2.2
      exact⟨⟨_,rfl,fun _ _=>unhide HV⟩,by first|exact hbz|(rw [hG];exact hbz)⟩
   have b2:(k == 2)=false:=by simpa using h2
   by_cases h4:k=4
   ·subst h4
    go_wp2_with fail
    clear x0 x1 x2 x3 x4 x5 x6 x7 x8 x9
    go_loopw [7] (fun x w9=>∃(j:Nat),x=.int .i64 (j:Int)∧j≤n∧Hid (Below w1.heap.size w1 w9)∧Hid (∀(p:Nat) (y:Tn),p<j→ks[p]?=some y→isStm y.k=true)) (fun x _=>n - (intOf x).toNat)
    case atStart=>exact⟨0,rfl,Nat.zero_le _,HX,hide (fun p y h=>absurd h (by omega))⟩
    case round=>
     obtain⟨j,rfl,hj,HX4,HJ⟩:=hrel
     obtain⟨w8,hw8⟩:∃u,u=wr:=⟨_,rfl⟩
     subst hw8
     obtain⟨x0,x1,x2,x3,x4,x5,x6,x7,x8,x9⟩:=unhide HF w8 (unhide HX4)
     by_cases hlj:j<n
     ·have j1:(j:Int)<(n:Int):=by omega
      obtain⟨z,hz⟩:∃z,ks[j]?=some z:=⟨_,List.getElem?_eq_getElem (by have:=unhide HN;omega)⟩
      obtain⟨b,vky,vny,vsy,aly,aky,ay,lly,cly,lky,cky,ny,ccy,rfl,hcy,hby,hny,hzy,hcelly⟩:=((unhide HM) w8 (unhide HX4)).2.1.ten hz
      have e0:w8.cell? (b.add (j * 10))=some (.int .i64 z.k):=hcelly 0 _ rfl
      have CC:=hide (risst_any z.k w8)
      obtain⟨r,hrr⟩:∃r,isStm z.k=r:=⟨_,rfl⟩
      rw [hrr] at CC
      have HZ:=hide (And.intro hz hrr)
      have HI1:=hide (show j+1≤n by omega)
      clear hz hcy hby hny hzy hcelly hrr
      go_wp2_with fail
      refine(unhide CC).mono ?_
      rintro e w5 ⟨rfl,bb⟩
      have HX5:=hide ((unhide HX4).trans (bb.mono (unhide HX4).size))
      clear bb CC x0 x1 x2 x3 x4 x5 x6 x7 x8 x9 e0
      cases r with
      |false=>
       have HV:=hide (show false=kdB 4 (ks.map (·.k)) by symm;rw [show kdB 4 (ks.map (·.k))=(ks.map (·.k)).all isStm by simp [kdB],all_k,List.all_eq_false];exact⟨z,List.mem_of_getElem? (unhide HZ).1,by rw [(unhide HZ).2];simp⟩)
       go_wp2_with fail
       go_ret
       have hbz:=((unhide HM) w5 (unhide HX5)).2.2.2.2
       exact⟨⟨_,rfl,fun _ _=>unhide HV⟩,by first|exact hbz|(rw [hG];exact hbz)⟩
      |true=>
       have HJ1:Hid (∀(p:Nat) (y:Tn),p<j+1→ks[p]?=some y→isStm y.k=true):=hide (fun p y h hp=>by
        by_cases h2:p<j
        ·exact unhide HJ p y h2 hp
        ·obtain rfl:p=j:=by omega
         obtain rfl:=Option.some.inj ((unhide HZ).1.symm.trans hp)
         exact(unhide HZ).2)
       go_wp2_with fail
       go_roundw
       case rel=>exact⟨j+1,by go_num,unhide HI1,HX5,HJ1⟩
       case measure=>have:=unhide HI1;simp [intOf];omega
     ·have j1:¬(j:Int)<(n:Int):=by omega
      have HV:=hide (show true=kdB 4 (ks.map (·.k)) by symm;rw [show kdB 4 (ks.map (·.k))=(ks.map (·.k)).all isStm by simp [kdB],all_k,List.all_eq_true];intro z hz;obtain⟨p,hp⟩:=List.getElem?_of_mem hz;exact unhide HJ p z (by have:=(List.getElem?_eq_some_iff.1 hp).1;have:=unhide HN;omega) hp)
      go_wp2_with fail
      go_ret
      have hbz:=((unhide HM) w8 (unhide HX4)).2.2.2.2
      exact⟨⟨_,rfl,fun _ _=>unhide HV⟩,by first|exact hbz|(rw [hG];exact hbz)⟩
   have b4:(k == 4)=false:=by simpa using h4
   by_cases h5:k=5
   ·subst h5
    cases q with
    |false=>
     have HV:=hide (show false=kdB 5 (ks.map (·.k)) by rw [kd_le (by omega),unhide HE,Bool.and_false])
     go_wp2_with fail
     go_ret
     have hbz:=((unhide HM) wr (unhide HX)).2.2.2.2
     exact⟨⟨_,rfl,fun _ _=>unhide HV⟩,by first|exact hbz|(rw [hG];exact hbz)⟩
    |true=>
     by_cases hl:n≤1
     ·have c1:(n:Int)≤1:=by omega
      have HV:=hide (show true=kdB 5 (ks.map (·.k)) by rw [kd_le (by omega),unhide HE,unhide HML,Bool.and_true,decide_eq_true hl])
      go_wp2_with fail
      go_ret
      have hbz:=((unhide HM) wr (unhide HX)).2.2.2.2
      exact⟨⟨_,rfl,fun _ _=>unhide HV⟩,by first|exact hbz|(rw [hG];exact hbz)⟩
     ·have c1:¬(n:Int)≤1:=by omega
      have HV:=hide (show false=kdB 5 (ks.map (·.k)) by rw [kd_le (by omega),unhide HE,unhide HML,Bool.and_true,decide_eq_false hl])
      go_wp2_with fail
      go_ret
      have hbz:=((unhide HM) wr (unhide HX)).2.2.2.2
      exact⟨⟨_,rfl,fun _ _=>unhide HV⟩,by first|exact hbz|(rw [hG];exact hbz)⟩
   have b5:(k == 5)=false:=by simpa using h5
   by_cases h9:k=9
   ·subst h9
    cases q with
    |false=>
     have HV:=hide (show false=kdB 9 (ks.map (·.k)) by rw [kd_le (by omega),unhide HE,Bool.and_false])
     go_wp2_with fail
     go_ret
     have hbz:=((unhide HM) wr (unhide HX)).2.2.2.2
     exact⟨⟨_,rfl,fun _ _=>unhide HV⟩,by first|exact hbz|(rw [hG];exact hbz)⟩
    |true=>
     by_cases hl:n≤1
     ·have c1:(n:Int)≤1:=by omega
      have HV:=hide (show true=kdB 9 (ks.map (·.k)) by rw [kd_le (by omega),unhide HE,unhide HML,Bool.and_true,decide_eq_true hl])
      go_wp2_with fail
      go_ret
      have hbz:=((unhide HM) wr (unhide HX)).2.2.2.2
      exact⟨⟨_,rfl,fun _ _=>unhide HV⟩,by first|exact hbz|(rw [hG];exact hbz)⟩
     ·have c1:¬(n:Int)≤1:=by omega
      have HV:=hide (show false=kdB 9 (ks.map (·.k)) by rw [kd_le (by omega),unhide HE,unhide HML,Bool.and_true,decide_eq_false hl])
      go_wp2_with fail
      go_ret
      have hbz:=((unhide HM) wr (unhide HX)).2.2.2.2
      exact⟨⟨_,rfl,fun _ _=>unhide HV⟩,by first|exact hbz|(rw [hG];exact hbz)⟩
   have b9:(k == 9)=false:=by simpa using h9
   by_cases h6:k=6
   ·subst h6
    cases q with
    |false=>
     have HV:=hide (show false=kdB 6 (ks.map (·.k)) by rw [kd_one' (by omega),unhide HE,Bool.and_false])
     go_wp2_with fail
     go_ret
     have hbz:=((unhide HM) wr (unhide HX)).2.2.2.2
     exact⟨⟨_,rfl,fun _ _=>unhide HV⟩,by first|exact hbz|(rw [hG];exact hbz)⟩
    |true=>
     by_cases hl:n=1
     ·subst hl
      have HV:=hide (show true=kdB 6 (ks.map (·.k)) by rw [kd_one' (by omega),unhide HE,unhide HML,decide_eq_true rfl,Bool.and_true])
      go_wp2_with fail
      go_ret
      have hbz:=((unhide HM) wr (unhide HX)).2.2.2.2
      exact⟨⟨_,rfl,fun _ _=>unhide HV⟩,by first|exact hbz|(rw [hG];exact hbz)⟩
     ·have c1:((n:Int) == 1)=false:=by simp;omega
      have HV:=hide (show false=kdB 6 (ks.map (·.k)) by rw [kd_one' (by omega),unhide HE,unhide HML,decide_eq_false hl,Bool.false_and])
      go_wp2_with fail
      go_ret
      have hbz:=((unhide HM) wr (unhide HX)).2.2.2.2
      exact⟨⟨_,rfl,fun _ _=>unhide HV⟩,by first|exact hbz|(rw [hG];exact hbz)⟩
   have b6:(k == 6)=false:=by simpa using h6
   by_cases h12:k=12
   ·subst h12
    cases q with
    |false=>
     have HV:=hide (show false=kdB 12 (ks.map (·.k)) by rw [kd_one' (by omega),unhide HE,Bool.and_false])
     go_wp2_with fail
     go_ret
     have hbz:=((unhide HM) wr (unhide HX)).2.2.2.2
     exact⟨⟨_,rfl,fun _ _=>unhide HV⟩,by first|exact hbz|(rw [hG];exact hbz)⟩
    |true=>
     by_cases hl:n=1
     ·subst hl
      have HV:=hide (show true=kdB 12 (ks.map (·.k)) by rw [kd_one' (by omega),unhide HE,unhide HML,decide_eq_true rfl,Bool.and_true])
      go_wp2_with fail
      go_ret
      have hbz:=((unhide HM) wr (unhide HX)).2.2.2.2
      exact⟨⟨_,rfl,fun _ _=>unhide HV⟩,by first|exact hbz|(rw [hG];exact hbz)⟩
     ·have c1:((n:Int) == 1)=false:=by simp;omega
      have HV:=hide (show false=kdB 12 (ks.map (·.k)) by rw [kd_one' (by omega),unhide HE,unhide HML,decide_eq_false hl,Bool.false_and])
      go_wp2_with fail
      go_ret
      have hbz:=((unhide HM) wr (unhide HX)).2.2.2.2
      exact⟨⟨_,rfl,fun _ _=>unhide HV⟩,by first|exact hbz|(rw [hG];exact hbz)⟩
   have b12:(k == 12)=false:=by simpa using h12
   by_cases h16:k=16
   ·subst h16
    cases q with
    |false=>
     have HV:=hide (show false=kdB 16 (ks.map (·.k)) by rw [kd_one' (by omega),unhide HE,Bool.and_false])
     go_wp2_with fail
     go_ret
     have hbz:=((unhide HM) wr (unhide HX)).2.2.2.2
     exact⟨⟨_,rfl,fun _ _=>unhide HV⟩,by first|exact hbz|(rw [hG];exact hbz)⟩
    |true=>
     by_cases hl:n=1
     ·subst hl
      have HV:=hide (show true=kdB 16 (ks.map (·.k)) by rw [kd_one' (by omega),unhide HE,unhide HML,decide_eq_true rfl,Bool.and_true])
      go_wp2_with fail
      go_ret
      have hbz:=((unhide HM) wr (unhide HX)).2.2.2.2
      exact⟨⟨_,rfl,fun _ _=>unhide HV⟩,by first|exact hbz|(rw [hG];exact hbz)⟩
     ·have c1:((n:Int) == 1)=false:=by simp;omega
      have HV:=hide (show false=kdB 16 (ks.map (·.k)) by rw [kd_one' (by omega),unhide HE,unhide HML,decide_eq_false hl,Bool.false_and])
      go_wp2_with fail
      go_ret
      have hbz:=((unhide HM) wr (unhide HX)).2.2.2.2
      exact⟨⟨_,rfl,fun _ _=>unhide HV⟩,by first|exact hbz|(rw [hG];exact hbz)⟩
   have b16:(k == 16)=false:=by simpa using h16
   by_cases h22:k=22
   ·subst h22
    cases q with
    |false=>
     have HV:=hide (show false=kdB 22 (ks.map (·.k)) by rw [kd_one' (by omega),unhide HE,Bool.and_false])
     go_wp2_with fail
     go_ret
     have hbz:=((unhide HM) wr (unhide HX)).2.2.2.2
     exact⟨⟨_,rfl,fun _ _=>unhide HV⟩,by first|exact hbz|(rw [hG];exact hbz)⟩
    |true=>
     by_cases hl:n=1
     ·subst hl
      have HV:=hide (show true=kdB 22 (ks.map (·.k)) by rw [kd_one' (by omega),unhide HE,unhide HML,decide_eq_true rfl,Bool.and_true])
      go_wp2_with fail
      go_ret
      have hbz:=((unhide HM) wr (unhide HX)).2.2.2.2
      exact⟨⟨_,rfl,fun _ _=>unhide HV⟩,by first|exact hbz|(rw [hG];exact hbz)⟩
     ·have c1:((n:Int) == 1)=false:=by simp;omega
      have HV:=hide (show false=kdB 22 (ks.map (·.k)) by rw [kd_one' (by omega),unhide HE,unhide HML,decide_eq_false hl,Bool.false_and])
      go_wp2_with fail
      go_ret
      have hbz:=((unhide HM) wr (unhide HX)).2.2.2.2
      exact⟨⟨_,rfl,fun _ _=>unhide HV⟩,by first|exact hbz|(rw [hG];exact hbz)⟩
   have b22:(k == 22)=false:=by simpa using h22
   by_cases h20:k=20
   ·subst h20
    cases q with
    |false=>
     have HV:=hide (show false=kdB 20 (ks.map (·.k)) by rw [kd_one' (by omega),unhide HE,Bool.and_false])
     go_wp2_with fail
     go_ret
     have hbz:=((unhide HM) wr (unhide HX)).2.2.2.2
     exact⟨⟨_,rfl,fun _ _=>unhide HV⟩,by first|exact hbz|(rw [hG];exact hbz)⟩
    |true=>
     by_cases hl:n=1
     ·subst hl
      have HV:=hide (show true=kdB 20 (ks.map (·.k)) by rw [kd_one' (by omega),unhide HE,unhide HML,decide_eq_true rfl,Bool.and_true])
      go_wp2_with fail
      go_ret
      have hbz:=((unhide HM) wr (unhide HX)).2.2.2.2
      exact⟨⟨_,rfl,fun _ _=>unhide HV⟩,by first|exact hbz|(rw [hG];exact hbz)⟩
     ·have c1:((n:Int) == 1)=false:=by simp;omega
      have HV:=hide (show false=kdB 20 (ks.map (·.k)) by rw [kd_one' (by omega),unhide HE,unhide HML,decide_eq_false hl,Bool.false_and])
      go_wp2_with fail
      go_ret
      have hbz:=((unhide HM) wr (unhide HX)).2.2.2.2
      exact⟨⟨_,rfl,fun _ _=>unhide HV⟩,by first|exact hbz|(rw [hG];exact hbz)⟩
   have b20:(k == 20)=false:=by simpa using h20
   by_cases h7:k=7
   ·subst h7
    by_cases l2:n<2
    ·have c2:(n:Int)<2:=by omega
     have HV:=hide (show false=kdB 7 (ks.map (·.k)) by rw [kd_if,unhide HML,decide_eq_false (show ¬n=2 by omega),decide_eq_false (show ¬n=3 by omega)];simp)
     go_wp2_with fail
     go_ret
     have hbz:=((unhide HM) wr (unhide HX)).2.2.2.2
     exact⟨⟨_,rfl,fun _ _=>unhide HV⟩,by first|exact hbz|(rw [hG];exact hbz)⟩
    have c2:¬(n:Int)<2:=by omega
    by_cases l3:3<n
    ·have c3:(3:Int)<(n:Int):=by omega
     have HV:=hide (show false=kdB 7 (ks.map (·.k)) by rw [kd_if,unhide HML,decide_eq_false (show ¬n=2 by omega),decide_eq_false (show ¬n=3 by omega)];simp)
     go_wp2_with fail
     go_ret
     have hbz:=((unhide HM) wr (unhide HX)).2.2.2.2
     exact⟨⟨_,rfl,fun _ _=>unhide HV⟩,by first|exact hbz|(rw [hG];exact hbz)⟩
    have c3:¬(3:Int)<(n:Int):=by omega
    have p0:(0:Int)<(n:Int):=by omega
    have p1:(1:Int)<(n:Int):=by omega
    obtain⟨z,hz⟩:∃z,ks[0]?=some z:=⟨_,List.getElem?_eq_getElem (by have:=unhide HN;omega)⟩
    obtain⟨y,hy⟩:∃z,ks[1]?=some z:=⟨_,List.getElem?_eq_getElem (by have:=unhide HN;omega)⟩
    obtain⟨b,vky,vny,vsy,aly,aky,ay,lly,cly,lky,cky,ny,ccy,rfl,hcy,hby,hny,hzy,hcelly⟩:=((unhide HM) wr (unhide HX)).2.1.ten hz
    have e0:wr.cell? b=some (.int .i64 z.k):=hcelly 0 _ rfl
    have HK1:Hid (∀u,Below w1.heap.size w1 u→u.cell? ⟨b.block,b.off+10,none⟩=some (.int .i64 y.k)):=hide (fun u hu=>by
     obtain⟨b',_,_,_,_,_,_,_,_,_,_,_,_,eb,_,_,_,_,hc⟩:=((unhide HM) u hu).2.1.ten hy
     obtain rfl:b=b':=Option.some.inj eb
     exact hc 0 _ rfl)
    have HZ:=hide (And.intro (show (ks.map (·.k))[0]?=some z.k by rw [List.getElem?_map,hz];rfl) (show (ks.map (·.k))[1]?=some y.k by rw [List.getElem?_map,hy];rfl))
    have HK2:Hid (∀u (x:Tn),Below w1.heap.size w1 u→ks[2]?=some x→u.cell? ⟨b.block,b.off+20,none⟩=some (.int .i64 x.k)):=hide (fun u x hu hx=>by
     obtain⟨b',_,_,_,_,_,_,_,_,_,_,_,_,eb,_,_,_,_,hc⟩:=((unhide HM) u hu).2.1.ten hx
     obtain rfl:b=b':=Option.some.inj eb
     exact hc 0 _ rfl)
    have CC:=hide (risex_any z.k wr)
    obtain⟨r,hrr⟩:∃r,isEx z.k=r:=⟨_,rfl⟩
    rw [hrr] at CC
    have HRR:=hide hrr
    clear hz hy hcy hby hny hzy hcelly hrr
    go_wp2_with fail
    refine(unhide CC).mono ?_
    rintro e w5 ⟨rfl,bb⟩
    have HX5:=hide ((unhide HX).trans (bb.mono (unhide HX).size))
    clear bb CC e0 x0 x1 x2 x3 x4 x5 x6 x7 x8 x9
    obtain⟨x0,x1,x2,x3,x4,x5,x6,x7,x8,x9⟩:=unhide HF w5 (unhide HX5)
    have k1:=unhide HK1 w5 (unhide HX5)
    cases r with
    |false=>
     have HV:=hide (show false=kdB 7 (ks.map (·.k)) by rw [kd_if,unhide HML,(unhide HZ).1,(unhide HZ).2,Option.getD_some,unhide HRR];simp)
     go_wp2_with fail
     go_ret
     have hbz:=((unhide HM) w5 (unhide HX5)).2.2.2.2
     exact⟨⟨_,rfl,fun _ _=>unhide HV⟩,by first|exact hbz|(rw [hG];exact hbz)⟩
    |true=>
     by_cases y4:y.k=4
     ·have d4:(y.k == 4)=true:=by simp [y4]
      by_cases n2:n=2
      ·subst n2
       have HV:=hide (show true=kdB 7 (ks.map (·.k)) by rw [kd_if,unhide HML,(unhide HZ).1,(unhide HZ).2,Option.getD_some,unhide HRR];simp [y4])
       go_wp2_with fail
       go_ret
       have hbz:=((unhide HM) w5 (unhide HX5)).2.2.2.2
       exact⟨⟨_,rfl,fun _ _=>unhide HV⟩,by first|exact hbz|(rw [hG];exact hbz)⟩
      ·have e2:((n:Int) == 2)=false:=by simp;omega
       obtain rfl:n=3:=by omega
       obtain⟨x,hx⟩:∃x,ks[2]?=some x:=⟨_,List.getElem?_eq_getElem (by have:=unhide HN;omega)⟩
       have k2:=unhide HK2 w5 x (unhide HX5) hx
       have HZ2:=hide (show (ks.map (·.k))[2]?=some x.k by rw [List.getElem?_map,hx];rfl)
       clear hx
       by_cases a4:x.k=4
       ·have d5:(x.k == 4)=true:=by simp [a4]
        have HV:=hide (show true=kdB 7 (ks.map (·.k)) by rw [kd_if,unhide HML,(unhide HZ).1,(unhide HZ).2,Option.getD_some,unhide HRR];rw [unhide HZ2];simp [y4,a4])
        go_wp2_with fail
        go_ret
        have hbz:=((unhide HM) w5 (unhide HX5)).2.2.2.2
        exact⟨⟨_,rfl,fun _ _=>unhide HV⟩,by first|exact hbz|(rw [hG];exact hbz)⟩
       have d5:(x.k == 4)=false:=by simpa using a4
       by_cases a7:x.k=7
       ·have d6:(x.k == 7)=true:=by simp [a7]
        have HV:=hide (show true=kdB 7 (ks.map (·.k)) by rw [kd_if,unhide HML,(unhide HZ).1,(unhide HZ).2,Option.getD_some,unhide HRR];rw [unhide HZ2];simp [y4,a7])
        go_wp2_with fail
        go_ret
        have hbz:=((unhide HM) w5 (unhide HX5)).2.2.2.2
        exact⟨⟨_,rfl,fun _ _=>unhide HV⟩,by first|exact hbz|(rw [hG];exact hbz)⟩
       ·have d6:(x.k == 7)=false:=by simpa using a7
        have HV:=hide (show false=kdB 7 (ks.map (·.k)) by rw [kd_if,unhide HML,(unhide HZ).1,(unhide HZ).2,Option.getD_some,unhide HRR];rw [unhide HZ2];simp [y4,a4,a7])
        go_wp2_with fail
        go_ret
        have hbz:=((unhide HM) w5 (unhide HX5)).2.2.2.2
        exact⟨⟨_,rfl,fun _ _=>unhide HV⟩,by first|exact hbz|(rw [hG];exact hbz)⟩
     ·have d4:(y.k == 4)=false:=by simpa using y4
      have HV:=hide (show false=kdB 7 (ks.map (·.k)) by rw [kd_if,unhide HML,(unhide HZ).1,(unhide HZ).2,Option.getD_some,unhide HRR];simp [y4])
      go_wp2_with fail
      go_ret
      have hbz:=((unhide HM) w5 (unhide HX5)).2.2.2.2
      exact⟨⟨_,rfl,fun _ _=>unhide HV⟩,by first|exact hbz|(rw [hG];exact hbz)⟩
   have b7:(k == 7)=false:=by simpa using h7
   by_cases h8:k=8
   ·subst h8
    by_cases l2:n<2
    ·have c2:(n:Int)<2:=by omega
     have HV:=hide (show false=kdB 8 (ks.map (·.k)) by rw [kd_wh,unhide HML,decide_eq_false (show ¬n=2 by omega)];simp)
     go_wp2_with fail
     go_ret
     have hbz:=((unhide HM) wr (unhide HX)).2.2.2.2
     exact⟨⟨_,rfl,fun _ _=>unhide HV⟩,by first|exact hbz|(rw [hG];exact hbz)⟩
    have c2:¬(n:Int)<2:=by omega
    by_cases l3:3<n
    ·have c3:(3:Int)<(n:Int):=by omega
     have HV:=hide (show false=kdB 8 (ks.map (·.k)) by rw [kd_wh,unhide HML,decide_eq_false (show ¬n=2 by omega)];simp)
     go_wp2_with fail
     go_ret
     have hbz:=((unhide HM) wr (unhide HX)).2.2.2.2
     exact⟨⟨_,rfl,fun _ _=>unhide HV⟩,by first|exact hbz|(rw [hG];exact hbz)⟩
    have c3:¬(3:Int)<(n:Int):=by omega
    by_cases l33:n=3
    ·subst l33
     have HV:=hide (show false=kdB 8 (ks.map (·.k)) by rw [kd_wh,unhide HML];rfl)
     go_wp2_with fail
     go_ret
     have hbz:=((unhide HM) wr (unhide HX)).2.2.2.2
     exact⟨⟨_,rfl,fun _ _=>unhide HV⟩,by first|exact hbz|(rw [hG];exact hbz)⟩
    have c33:((n:Int) == 3)=false:=by simp;omega
    have p0:(0:Int)<(n:Int):=by omega
    have p1:(1:Int)<(n:Int):=by omega
    obtain⟨z,hz⟩:∃z,ks[0]?=some z:=⟨_,List.getElem?_eq_getElem (by have:=unhide HN;omega)⟩
    obtain⟨y,hy⟩:∃z,ks[1]?=some z:=⟨_,List.getElem?_eq_getElem (by have:=unhide HN;omega)⟩
    obtain⟨b,vky,vny,vsy,aly,aky,ay,lly,cly,lky,cky,ny,ccy,rfl,hcy,hby,hny,hzy,hcelly⟩:=((unhide HM) wr (unhide HX)).2.1.ten hz
    have e0:wr.cell? b=some (.int .i64 z.k):=hcelly 0 _ rfl
    have HK1:Hid (∀u,Below w1.heap.size w1 u→u.cell? ⟨b.block,b.off+10,none⟩=some (.int .i64 y.k)):=hide (fun u hu=>by
     obtain⟨b',_,_,_,_,_,_,_,_,_,_,_,_,eb,_,_,_,_,hc⟩:=((unhide HM) u hu).2.1.ten hy
     obtain rfl:b=b':=Option.some.inj eb
     exact hc 0 _ rfl)
    have HZ:=hide (And.intro (show (ks.map (·.k))[0]?=some z.k by rw [List.getElem?_map,hz];rfl) (show (ks.map (·.k))[1]?=some y.k by rw [List.getElem?_map,hy];rfl))
    have CC:=hide (risex_any z.k wr)
    obtain⟨r,hrr⟩:∃r,isEx z.k=r:=⟨_,rfl⟩
    rw [hrr] at CC
    have HRR:=hide hrr
    clear hz hy hcy hby hny hzy hcelly hrr
    go_wp2_with fail
    refine(unhide CC).mono ?_
    rintro e w5 ⟨rfl,bb⟩
    have HX5:=hide ((unhide HX).trans (bb.mono (unhide HX).size))
    clear bb CC e0 x0 x1 x2 x3 x4 x5 x6 x7 x8 x9
    obtain⟨x0,x1,x2,x3,x4,x5,x6,x7,x8,x9⟩:=unhide HF w5 (unhide HX5)
    have k1:=unhide HK1 w5 (unhide HX5)
    cases r with
    |false=>
     have HV:=hide (show false=kdB 8 (ks.map (·.k)) by rw [kd_wh,unhide HML,(unhide HZ).1,(unhide HZ).2,Option.getD_some,unhide HRR];simp)
     go_wp2_with fail
     go_ret
     have hbz:=((unhide HM) w5 (unhide HX5)).2.2.2.2
     exact⟨⟨_,rfl,fun _ _=>unhide HV⟩,by first|exact hbz|(rw [hG];exact hbz)⟩
    |true=>
     by_cases y4:y.k=4
     ·have d4:(y.k == 4)=true:=by simp [y4]
      obtain rfl:n=2:=by omega
      have HV:=hide (show true=kdB 8 (ks.map (·.k)) by rw [kd_wh,unhide HML,(unhide HZ).1,(unhide HZ).2,Option.getD_some,unhide HRR];simp [y4])
      go_wp2_with fail
      go_ret
      have hbz:=((unhide HM) w5 (unhide HX5)).2.2.2.2
      exact⟨⟨_,rfl,fun _ _=>unhide HV⟩,by first|exact hbz|(rw [hG];exact hbz)⟩
     ·have d4:(y.k == 4)=false:=by simpa using y4
      have HV:=hide (show false=kdB 8 (ks.map (·.k)) by rw [kd_wh,unhide HML,(unhide HZ).1,(unhide HZ).2,Option.getD_some,unhide HRR];simp [y4])
      go_wp2_with fail
      go_ret
      have hbz:=((unhide HM) w5 (unhide HX5)).2.2.2.2
      exact⟨⟨_,rfl,fun _ _=>unhide HV⟩,by first|exact hbz|(rw [hG];exact hbz)⟩
   have b8:(k == 8)=false:=by simpa using h8
   by_cases h15:k=15
   ·subst h15
    cases q with
    |false=>
     have HV:=hide (show false=kdB 15 (ks.map (·.k)) by rw [kd_ex (by omega),unhide HE])
     go_wp2_with fail
     go_ret
     have hbz:=((unhide HM) wr (unhide HX)).2.2.2.2
     exact⟨⟨_,rfl,fun _ _=>unhide HV⟩,by first|exact hbz|(rw [hG];exact hbz)⟩
    |true=>
     have HV:=hide (show true=kdB 15 (ks.map (·.k)) by rw [kd_ex (by omega),unhide HE])
     go_wp2_with fail
     go_ret
     have hbz:=((unhide HM) wr (unhide HX)).2.2.2.2
     exact⟨⟨_,rfl,fun _ _=>unhide HV⟩,by first|exact hbz|(rw [hG];exact hbz)⟩
   have b15:(k == 15)=false:=by simpa using h15
   by_cases h18:k=18
   ·subst h18
    cases q with
    |false=>
     have HV:=hide (show false=kdB 18 (ks.map (·.k)) by rw [kd_ex (by omega),unhide HE])
     go_wp2_with fail
     go_ret
     have hbz:=((unhide HM) wr (unhide HX)).2.2.2.2
     exact⟨⟨_,rfl,fun _ _=>unhide HV⟩,by first|exact hbz|(rw [hG];exact hbz)⟩
    |true=>
     have HV:=hide (show true=kdB 18 (ks.map (·.k)) by rw [kd_ex (by omega),unhide HE])
     go_wp2_with fail
     go_ret
     have hbz:=((unhide HM) wr (unhide HX)).2.2.2.2
     exact⟨⟨_,rfl,fun _ _=>unhide HV⟩,by first|exact hbz|(rw [hG];exact hbz)⟩
   have b18:(k == 18)=false:=by simpa using h18
   by_cases h19:k=19
   ·subst h19
    have CC:=hide (rall_any B0 ks a n cc 20 wr ((unhide HM) wr (unhide HX)).2.1 (unhide HN))
    go_wp2_with fail
    refine(unhide CC).mono ?_
    rintro e w5 ⟨rfl,bb⟩
    have HX5:=hide ((unhide HX).trans (bb.mono (unhide HX).size))
    clear bb CC x0 x1 x2 x3 x4 x5 x6 x7 x8 x9
    have HV:=hide (show ks.all (fun z=>decide (z.k=20))=kdB 19 (ks.map (·.k)) by rw [show kdB 19 (ks.map (·.k))=(ks.map (·.k)).all (fun x=>decide (x=20)) by simp [kdB],all_k])
    go_wp2_with fail
    go_ret
    have hbz:=((unhide HM) w5 (unhide HX5)).2.2.2.2
    exact⟨⟨_,rfl,fun _ _=>unhide HV⟩,by first|exact hbz|(rw [hG];exact hbz)⟩
   have b19:(k == 19)=false:=by simpa using h19
   by_cases h17:k=17
   ·subst h17
    cases q with
    |false=>
     have HV:=hide (show false=kdB 17 (ks.map (·.k)) by rw [kd_two (by omega),unhide HE,Bool.and_false])
     go_wp2_with fail
     go_ret
     have hbz:=((unhide HM) wr (unhide HX)).2.2.2.2
     exact⟨⟨_,rfl,fun _ _=>unhide HV⟩,by first|exact hbz|(rw [hG];exact hbz)⟩
    |true=>
     by_cases hl:n=2
     ·subst hl
      have HV:=hide (show true=kdB 17 (ks.map (·.k)) by rw [kd_two (by omega),unhide HE,unhide HML,Bool.and_true,decide_eq_true rfl])
      go_wp2_with fail
      go_ret
      have hbz:=((unhide HM) wr (unhide HX)).2.2.2.2
      exact⟨⟨_,rfl,fun _ _=>unhide HV⟩,by first|exact hbz|(rw [hG];exact hbz)⟩
     ·have c1:((n:Int) == 2)=false:=by simp;omega
      have HV:=hide (show false=kdB 17 (ks.map (·.k)) by rw [kd_two (by omega),unhide HE,unhide HML,Bool.and_true,decide_eq_false hl])
      go_wp2_with fail
      go_ret
      have hbz:=((unhide HM) wr (unhide HX)).2.2.2.2
      exact⟨⟨_,rfl,fun _ _=>unhide HV⟩,by first|exact hbz|(rw [hG];exact hbz)⟩
   have b17:(k == 17)=false:=by simpa using h17
   by_cases h21:k=21
   ·subst h21
    cases q with
    |false=>
     have HV:=hide (show false=kdB 21 (ks.map (·.k)) by rw [kd_two (by omega),unhide HE,Bool.and_false])
     go_wp2_with fail
     go_ret
     have hbz:=((unhide HM) wr (unhide HX)).2.2.2.2
     exact⟨⟨_,rfl,fun _ _=>unhide HV⟩,by first|exact hbz|(rw [hG];exact hbz)⟩
    |true=>
     by_cases hl:n=2
     ·subst hl
      have HV:=hide (show true=kdB 21 (ks.map (·.k)) by rw [kd_two (by omega),unhide HE,unhide HML,Bool.and_true,decide_eq_true rfl])
      go_wp2_with fail
      go_ret
      have hbz:=((unhide HM) wr (unhide HX)).2.2.2.2
      exact⟨⟨_,rfl,fun _ _=>unhide HV⟩,by first|exact hbz|(rw [hG];exact hbz)⟩
     ·have c1:((n:Int) == 2)=false:=by simp;omega
      have HV:=hide (show false=kdB 21 (ks.map (·.k)) by rw [kd_two (by omega),unhide HE,unhide HML,Bool.and_true,decide_eq_false hl])
      go_wp2_with fail
      go_ret
      have hbz:=((unhide HM) wr (unhide HX)).2.2.2.2
      exact⟨⟨_,rfl,fun _ _=>unhide HV⟩,by first|exact hbz|(rw [hG];exact hbz)⟩
   have b21:(k == 21)=false:=by simpa using h21
   by_cases h3:k=3
   ·subst h3
    by_cases hl:n=0
    ·subst hl
     have HV:=hide (show true=kdB 3 (ks.map (·.k)) by rw [kd_none (by omega),unhide HML,decide_eq_true rfl])
     go_wp2_with fail
     go_ret
     have hbz:=((unhide HM) wr (unhide HX)).2.2.2.2
     exact⟨⟨_,rfl,fun _ _=>unhide HV⟩,by first|exact hbz|(rw [hG];exact hbz)⟩
    ·have c1:((n:Int) == 0)=false:=by simp;omega
     have HV:=hide (show false=kdB 3 (ks.map (·.k)) by rw [kd_none (by omega),unhide HML,decide_eq_false hl])
     go_wp2_with fail
     go_ret
     have hbz:=((unhide HM) wr (unhide HX)).2.2.2.2
     exact⟨⟨_,rfl,fun _ _=>unhide HV⟩,by first|exact hbz|(rw [hG];exact hbz)⟩
   have b3:(k == 3)=false:=by simpa using h3
   by_cases h10:k=10
   ·subst h10
    by_cases hl:n=0
    ·subst hl
     have HV:=hide (show true=kdB 10 (ks.map (·.k)) by rw [kd_none (by omega),unhide HML,decide_eq_true rfl])
     go_wp2_with fail
     go_ret
     have hbz:=((unhide HM) wr (unhide HX)).2.2.2.2
     exact⟨⟨_,rfl,fun _ _=>unhide HV⟩,by first|exact hbz|(rw [hG];exact hbz)⟩
    ·have c1:((n:Int) == 0)=false:=by simp;omega
     have HV:=hide (show false=kdB 10 (ks.map (·.k)) by rw [kd_none (by omega),unhide HML,decide_eq_false hl])
     go_wp2_with fail
     go_ret
     have hbz:=((unhide HM) wr (unhide HX)).2.2.2.2
     exact⟨⟨_,rfl,fun _ _=>unhide HV⟩,by first|exact hbz|(rw [hG];exact hbz)⟩
   have b10:(k == 10)=false:=by simpa using h10
   by_cases h11:k=11
   ·subst h11
    by_cases hl:n=0
    ·subst hl
     have HV:=hide (show true=kdB 11 (ks.map (·.k)) by rw [kd_none (by omega),unhide HML,decide_eq_true rfl])
     go_wp2_with fail
     go_ret
     have hbz:=((unhide HM) wr (unhide HX)).2.2.2.2
     exact⟨⟨_,rfl,fun _ _=>unhide HV⟩,by first|exact hbz|(rw [hG];exact hbz)⟩
    ·have c1:((n:Int) == 0)=false:=by simp;omega
     have HV:=hide (show false=kdB 11 (ks.map (·.k)) by rw [kd_none (by omega),unhide HML,decide_eq_false hl])
     go_wp2_with fail
     go_ret
     have hbz:=((unhide HM) wr (unhide HX)).2.2.2.2
     exact⟨⟨_,rfl,fun _ _=>unhide HV⟩,by first|exact hbz|(rw [hG];exact hbz)⟩
   have b11:(k == 11)=false:=by simpa using h11
   by_cases h13:k=13
   ·subst h13
    by_cases hl:n=0
    ·subst hl
     have HV:=hide (show true=kdB 13 (ks.map (·.k)) by rw [kd_none (by omega),unhide HML,decide_eq_true rfl])
     go_wp2_with fail
     go_ret
     have hbz:=((unhide HM) wr (unhide HX)).2.2.2.2
     exact⟨⟨_,rfl,fun _ _=>unhide HV⟩,by first|exact hbz|(rw [hG];exact hbz)⟩
    ·have c1:((n:Int) == 0)=false:=by simp;omega
     have HV:=hide (show false=kdB 13 (ks.map (·.k)) by rw [kd_none (by omega),unhide HML,decide_eq_false hl])
     go_wp2_with fail
     go_ret
     have hbz:=((unhide HM) wr (unhide HX)).2.2.2.2
     exact⟨⟨_,rfl,fun _ _=>unhide HV⟩,by first|exact hbz|(rw [hG];exact hbz)⟩
   have b13:(k == 13)=false:=by simpa using h13
   by_cases h14:k=14
   ·subst h14
    by_cases hl:n=0
    ·subst hl
     have HV:=hide (show true=kdB 14 (ks.map (·.k)) by rw [kd_none (by omega),unhide HML,decide_eq_true rfl])
     go_wp2_with fail
     go_ret
     have hbz:=((unhide HM) wr (unhide HX)).2.2.2.2
     exact⟨⟨_,rfl,fun _ _=>unhide HV⟩,by first|exact hbz|(rw [hG];exact hbz)⟩
    ·have c1:((n:Int) == 0)=false:=by simp;omega
     have HV:=hide (show false=kdB 14 (ks.map (·.k)) by rw [kd_none (by omega),unhide HML,decide_eq_false hl])
     go_wp2_with fail
     go_ret
     have hbz:=((unhide HM) wr (unhide HX)).2.2.2.2
     exact⟨⟨_,rfl,fun _ _=>unhide HV⟩,by first|exact hbz|(rw [hG];exact hbz)⟩
   have b14:(k == 14)=false:=by simpa using h14
   have hout:¬(1≤k∧k≤22):=by omega
   go_wp2_with fail
   go_ret
   have hbz:=((unhide HM) wr (unhide HX)).2.2.2.2
   exact⟨⟨_,rfl,fun h1 h2=>absurd ⟨h1,h2⟩ hout⟩,by first|exact hbz|(rw [hG];exact hbz)⟩
end Go.Proofs.YtekbmfppfjlboaaGreatDoor
