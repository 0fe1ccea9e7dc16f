/-
  The walks of lex's isLetter, isDigit, isKeyword, word, IsName; conditions: a text of at most 2^47 bytes.
  The walk of lex's IsName.
  The walk of rising: may these be a record's keys? no conditions but the form's own reach.
  Conditions: where nodes are told of, they lie in memory.
-/
import Derived.Test.YtlkeaaopdnnceaaGreatDoorRows
import Derived.Test.YtlkeaaopdnnceaaGreatDoorA00
import Derived.Test.YtlkeaaopdnnceaaGreatDoorA01
import Derived.WalkSpells
import Derived.WalkSmall
import Derived.BigQuiet
import Derived.Below
import Derived.Laws.RangeAny
import Derived.Lib.OthersKept
set_option linter.unusedVariables false
set_option linter.unusedSimpArgs false
set_option maxRecDepth 100000
set_option maxHeartbeats 8000000
namespace Go.Proofs.YtlkeaaopdnnceaaGreatDoor
open Go.RowKit
set_option linter.unusedVariables false
set_option linter.unusedSimpArgs false
def rDig (c:Int):Bool:=decide (48≤c∧c≤57)
def rLet (c:Int):Bool:=decide (97≤c∧c≤122∨65≤c∧c≤90∨c=95)
def bA (l:List UInt8):ByteArray:=⟨l.toArray⟩
theorem bA_data (l:List UInt8):(bA l).data.toList=l:=by simp [bA]
theorem bA_list (l:List UInt8):(bA l).toList=l:=by rw [ByteArray.toList_eq];exact bA_data l
theorem bA_size (l:List UInt8):(bA l).size=l.length:=by simp [bA,ByteArray.size]
theorem bA_eq (s:ByteArray) (l:List UInt8) (h:s.data.toList=l):s=bA l:=by
 apply ByteArray.ext
 rw [←h]
 simp [bA]
theorem bA_self (s:ByteArray):bA s.data.toList=s:=(bA_eq s _ rfl).symm
theorem ext_data (s:ByteArray) (a b:Nat):(s.extract a b).data.toList=(s.data.toList.take b).drop a:=by
 rw [ByteArray.data_extract,Array.toList_extract,List.extract_eq_take_drop,List.drop_take]
theorem ext_take (s:ByteArray) (b:Nat):s.extract 0 b=bA (s.data.toList.take b):=bA_eq _ _ (by rw [ext_data];rfl)
theorem ext_drop (s:ByteArray) (a:Nat):s.extract a s.size=bA (s.data.toList.drop a):=bA_eq _ _ (by rw [ext_data,show s.data.toList.take s.size=s.data.toList from List.take_of_length_le (Nat.le_refl _)])
theorem rLet_cases (c:Int):(rLet c=false∧¬97≤c∧¬65≤c∧(c == 95)=false)∨(rLet c=true∧¬97≤c∧65≤c∧c≤90)∨(rLet c=true∧¬97≤c∧65≤c∧¬c≤90∧(c == 95)=true)∨(rLet c=false∧¬97≤c∧65≤c∧¬c≤90∧(c == 95)=false)∨(rLet c=true∧97≤c∧c≤122)∨(rLet c=false∧97≤c∧¬c≤122∧65≤c∧¬c≤90∧(c == 95)=false):=by
 simp only [rLet,decide_eq_true_eq,decide_eq_false_iff_not,beq_iff_eq,beq_eq_false_iff_ne,ne_eq]
 omega
theorem isLetter_any (c:Int) (w:World) :
  Calls Tryz.prog 139 #[.int .i32 c] w fun e w'=>e=.returned (.bool (rLet c))∧w'=w:=by
 rcases rLet_cases c with ⟨hR,h1,h2,h3⟩|⟨hR,h1,h2,h3⟩|⟨hR,h1,h2,h3,h4⟩|⟨hR,h1,h2,h3,h4⟩|⟨hR,h1,h2⟩|⟨hR,h1,h2,h3,h4,h5⟩
 all_goals
  rw [hR]
  clear hR
  go_enter Tryz.func139,Tryz.ntmps139
  go_wp2_with fail
  go_ret
  exact⟨rfl,rfl⟩
theorem isDigit_any (c:Int) (w:World) :
  Calls Tryz.prog 115 #[.int .i32 c] w fun e w'=>e=.returned (.bool (rDig c))∧w'=w:=by
 by_cases h1:48≤c <;> by_cases h2:c≤57
 all_goals
  have hR:rDig c=decide (48≤c∧c≤57):=rfl
  simp only [h1,h2,decide_true,decide_false,and_self,and_true,and_false,true_and] at hR
  rw [hR]
  clear hR
  go_enter Tryz.func115,Tryz.ntmps115
  go_wp2_with fail
  go_ret
  exact⟨rfl,rfl⟩
theorem lxDig_r (c:UInt8):rDig (c.toNat:Int)=lxDig c:=by unfold rDig lxDig;rw [Bool.eq_iff_iff];simp only [decide_eq_true_eq];omega
theorem lxLet_r (c:UInt8):rLet (c.toNat:Int)=lxLet c:=by unfold rLet lxLet;rw [Bool.eq_iff_iff];simp only [decide_eq_true_eq];omega
theorem lxW_low {c:UInt8} (h:lxW c=true):c.toNat<128:=by
 unfold lxW lxLet lxDig at h
 simp only [Bool.or_eq_true,decide_eq_true_eq] at h
 omega
theorem rBig {r:Int} (h:128≤r):rLet r=false∧rDig r=false:=by
 unfold rLet rDig
 simp only [decide_eq_false_iff_not]
 omega
theorem keyB_or (l:List UInt8):keyB l=((l == [102,110]) ||(l == [101,120,112,111,114,116]) ||(l == [108,101,116]) ||(l == [105,102]) ||(l == [101,108,115,101]) ||(l == [119,104,105,108,101]) ||(l == [114,101,116,117,114,110]) ||(l == [98,114,101,97,107]) ||(l == [99,111,110,116,105,110,117,101]) ||(l == [116,114,117,101]) ||(l == [102,97,108,115,101]) ||(l == [117,110,105,116])):=by
 unfold keyB keyL
 simp only [List.contains_cons,List.contains_nil,Bool.or_false,Bool.or_assoc]
theorem isKey_any (s:ByteArray) (w:World) :
  Calls Tryz.prog 117 #[.string s] w fun e w'=>e=.returned (.bool (keyB s.data.toList))∧w'=w:=by
 rw [←ByteArray.toList_eq]
 obtain⟨R,hR⟩:∃R,keyB s.toList=R:=⟨_,rfl⟩
 rw [keyB_or] at hR
 rw [keyB_or,hR]
 cases h0:s.toList == [102,110] with
 |true=>
  have hT:R=true:=by rw [←hR];simp [h0]
  rw [hT]
  clear hR hT
  go_enter Tryz.func117,Tryz.ntmps117
  go_wp2_with fail
  go_ret
  exact⟨rfl,rfl⟩
 |false=>
  cases h1:s.toList == [101,120,112,111,114,116] with
  |true=>
   have hT:R=true:=by rw [←hR];simp [h0,h1]
   rw [hT]
   clear hR hT
   go_enter Tryz.func117,Tryz.ntmps117
   go_wp2_with fail
   go_ret
   exact⟨rfl,rfl⟩
  |false=>
   cases h2:s.toList == [108,101,116] with
   |true=>
    have hT:R=true:=by rw [←hR];simp [h0,h1,h2]
    rw [hT]
    clear hR hT
    go_enter Tryz.func117,Tryz.ntmps117
    go_wp2_with fail
    go_ret
    exact⟨rfl,rfl⟩
   |false=>
    cases h3:s.toList == [105,102] with
    |true=>
     have hT:R=true:=by rw [←hR];simp [h0,h1,h2,h3]
     rw [hT]
     clear hR hT
     go_enter Tryz.func117,Tryz.ntmps117
     go_wp2_with fail
     go_ret
     exact⟨rfl,rfl⟩
    |false=>
     cases h4:s.toList == [101,108,115,101] with
     |true=>
      have hT:R=true:=by rw [←hR];simp [h0,h1,h2,h3,h4]
      rw [hT]
      clear hR hT
      go_enter Tryz.func117,Tryz.ntmps117
      go_wp2_with fail
      go_ret
      exact⟨rfl,rfl⟩
     |false=>
      cases h5:s.toList == [119,104,105,108,101] with
      |true=>
       have hT:R=true:=by rw [←hR];simp [h0,h1,h2,h3,h4,h5]
       rw [hT]
       clear hR hT
       go_enter Tryz.func117,Tryz.ntmps117
       go_wp2_with fail
       go_ret
       exact⟨rfl,rfl⟩
      |false=>
       cases h6:s.toList == [114,101,116,117,114,110] with
       |true=>
        have hT:R=true:=by rw [←hR];simp [h0,h1,h2,h3,h4,h5,h6]
        rw [hT]
        clear hR hT
        go_enter Tryz.func117,Tryz.ntmps117
        go_wp2_with fail
        go_ret
        exact⟨rfl,rfl⟩
       |false=>
        cases h7:s.toList == [98,114,101,97,107] with
        |true=>
         have hT:R=true:=by rw [←hR];simp [h0,h1,h2,h3,h4,h5,h6,h7]
         rw [hT]
         clear hR hT
         go_enter Tryz.func117,Tryz.ntmps117
         go_wp2_with fail
         go_ret
         exact⟨rfl,rfl⟩
        |false=>
         cases h8:s.toList == [99,111,110,116,105,110,117,101] with
         |true=>
          have hT:R=true:=by rw [←hR];simp [h0,h1,h2,h3,h4,h5,h6,h7,h8]
          rw [hT]
          clear hR hT
          go_enter Tryz.func117,Tryz.ntmps117
          go_wp2_with fail
          go_ret
          exact⟨rfl,rfl⟩
         |false=>
          cases h9:s.toList == [116,114,117,101] with
          |true=>
           have hT:R=true:=by rw [←hR];simp [h0,h1,h2,h3,h4,h5,h6,h7,h8,h9]
           rw [hT]
           clear hR hT
           go_enter Tryz.func117,Tryz.ntmps117
           go_wp2_with fail
           go_ret
           exact⟨rfl,rfl⟩
          |false=>
           cases h10:s.toList == [102,97,108,115,101] with
           |true=>
            have hT:R=true:=by rw [←hR];simp [h0,h1,h2,h3,h4,h5,h6,h7,h8,h9,h10]
            rw [hT]
            clear hR hT
            go_enter Tryz.func117,Tryz.ntmps117
            go_wp2_with fail
            go_ret
            exact⟨rfl,rfl⟩
           |false=>
            cases h11:s.toList == [117,110,105,116] with
            |true=>
             have hT:R=true:=by rw [←hR];simp [h0,h1,h2,h3,h4,h5,h6,h7,h8,h9,h10,h11]
             rw [hT]
             clear hR hT
             go_enter Tryz.func117,Tryz.ntmps117
             go_wp2_with fail
             go_ret
             exact⟨rfl,rfl⟩
            |false=>
             have hT:R=false:=by rw [←hR];simp [h0,h1,h2,h3,h4,h5,h6,h7,h8,h9,h10,h11]
             rw [hT]
             clear hR hT
             go_enter Tryz.func117,Tryz.ntmps117
             go_wp2_with fail
             go_ret
             exact⟨rfl,rfl⟩
theorem rune_w (s:ByteArray) (pos:Nat) (h:pos<s.size) :
  (lxW (s[pos]'h)=true∧Utf8.decode s pos=((s[pos]'h).toNat,1)) ∨
  (lxW (s[pos]'h)=false∧rLet ((Utf8.decode s pos).1:Int)=false∧rDig ((Utf8.decode s pos).1:Int)=false):=by
 by_cases ha:(s[pos]'h).toNat<128
 ·have hd:=decode_ascii s pos h ha
  cases hw:lxW (s[pos]'h) with
  |true=>exact .inl ⟨rfl,hd⟩
  |false=>
   right
   rw [hd]
   unfold lxW at hw
   rw [Bool.or_eq_false_iff] at hw
   exact⟨rfl,by rw [lxLet_r];exact hw.1,by rw [lxDig_r];exact hw.2⟩
 ·right
  have hb:=(decode_high s pos h (by omega)).1
  have hr:=rBig (r:=((Utf8.decode s pos).1:Int)) (by omega)
  refine⟨?_,hr.1,hr.2⟩
  rw [Bool.eq_false_iff]
  intro e
  exact ha (lxW_low e)
theorem tw_stop (p:UInt8→Bool) (s:ByteArray) (n:Nat) (hn:n≤s.size) (h1:∀j c,j<n→s.data.toList[j]?=some c→p c=true) (h2:∀c,s.data.toList[n]?=some c→p c=false):s.data.toList.takeWhile p=s.data.toList.take n:=by
 have hl:s.data.toList.length=s.size:=rfl
 rw [←hl] at hn
 clear hl
 revert n
 generalize s.data.toList=l
 induction l with
 |nil=>intro n hn _ _;simp
 |cons c r ih=>
  intro n hn h1 h2
  cases n with
  |zero=>rw [List.takeWhile_cons,if_neg (by rw [h2 c rfl];simp)];rfl
  |succ n=>
   rw [List.takeWhile_cons,if_pos (h1 0 c (by omega) rfl),List.take_succ_cons,ih n (by simpa using hn) (fun j d hj hd=>h1 (j+1) d (by omega) (by simpa using hd)) (fun d hd=>h2 d (by simpa using hd))]
theorem at_list (s:ByteArray) (j:Nat) (h:j<s.size):s.data.toList[j]?=some (s[j]'h):=by
 rw [Array.getElem?_toList]
 exact Array.getElem?_eq_getElem h
theorem word_any (s:ByteArray) (hs:s.size≤140737488355328) (w:World) :
  Calls Tryz.prog 116 #[.string s] w fun e w'=>e=.returned (.string (bA (s.data.toList.takeWhile lxW)))∧Below w.heap.size w w':=by
 obtain⟨R,hR⟩:∃R,bA (s.data.toList.takeWhile lxW)=R:=⟨_,rfl⟩
 have HR:=hZ hR
 rw [hR]
 clear hR
 obtain⟨k,hk⟩:∃k,w.heap.size=k:=⟨_,rfl⟩
 have HK:=hZ hk
 go_enter Tryz.func116,Tryz.ntmps116
 go_wp2_with fail
 go_step3
 go_wp2_with fail
 go_step3
 go_wp2_with fail
 have HS:Hid (Below w.heap.size w (w.iter s 0)∧(w.iter s 0).heap[k]?=some (.stringIter s 0)):=hZ (by
  refine⟨(Below.refl _ _).alloc (Nat.le_refl _) _,?_⟩
  rw [←uZ HK]
  exact World.iter_heap w s 0)
 clear hk
 go_loopw [3] (fun x wr=>∃(pos:Nat),x=.int .i64 (s.size:Int)∧pos≤s.size∧Hid ((∀j c,j<pos→s.data.toList[j]?=some c→lxW c=true)∧Below w.heap.size w wr∧wr.heap[k]?=some (.stringIter s pos))) (fun _ wr=>s.size - wr.iterPos k)
 case atStart=>exact⟨0,rfl,Nat.zero_le _,hZ ⟨fun j c h=>by omega,(uZ HS).1,(uZ HS).2⟩⟩
 case round=>
  clear HS
  obtain⟨pos,rfl,hps,HX⟩:=hrel
  by_cases hp:pos<s.size
  ·have hnx:∀ty,(Instr.next (.pointer (some ⟨k,0,none⟩)) true ty).run Tryz.prog wr=_:=fun ty=>Lib.run_next_any_at wr k s pos ty (uZ HX).2.2 hp
   have hru:=rune_w s pos hp
   obtain⟨r,hr⟩:∃r,(Utf8.decode s pos).1=r:=⟨_,rfl⟩
   obtain⟨n,hn⟩:∃n,(Utf8.decode s pos).2=n:=⟨_,rfl⟩
   rw [hr,hn] at hnx
   have hWn:=Lib.below_iterAt (uZ HX).2.1 (show w.heap.size≤k by have:=uZ HK;omega) s (pos+n)
   have hin:=Lib.iterAt_heap wr k s pos (pos+n) (uZ HX).2.2
   obtain⟨wn,hwn⟩:∃wn,wr.iterAt k s (pos+n)=wn:=⟨_,rfl⟩
   rw [hwn] at hnx hWn hin
   have HIP:Hid (wr.iterPos k=pos):=hZ (by unfold World.iterPos;rw [(uZ HX).2.2])
   have CL:=hZ (isLetter_any (r:Int) wn)
   have CD:=hZ (isDigit_any (r:Int) wn)
   have HP:=hZ hp
   have hrle:(r:Int)≤2147483647:=by have:=decode_le s pos;omega
   rcases hru with ⟨h1,h2⟩|⟨h1,h2,h3⟩
   ·have hrn:r=(s[pos]'hp).toNat:=by rw [←hr,h2]
    obtain rfl:n=1:=by rw [←hn,h2]
    have HN:Hid ((∀j c,j<pos+1→s.data.toList[j]?=some c→lxW c=true)∧Below w.heap.size w wn∧wn.heap[k]?=some (.stringIter s (pos+1))):=hZ ⟨fun j c hj hc=>by
     rcases Nat.lt_or_ge j pos with g|g
     ·exact(uZ HX).1 j c g hc
     ·obtain rfl:j=pos:=by omega
      rw [at_list s j hp] at hc
      cases hc
      exact h1,hWn,hin⟩
    have hmeas:Hid (s.size - wn.iterPos k<s.size - wr.iterPos k):=hZ (by
     rw [uZ HIP,show wn.iterPos k=pos+1 from by unfold World.iterPos;rw [hin]]
     omega)
    cases hL:rLet (r:Int) with
    |true=>
     rw [hL] at CL
     clear hL CD hr hn hwn hWn hin h1 h2 hrn HX
     go_wp2_with fail
     refine(uZ CL).mono ?_
     rintro e u ⟨rfl,rfl⟩
     go_wp2_with fail
     go_roundw
     case rel=>exact⟨pos+1,rfl,uZ HP,HN⟩
     case measure=>exact uZ hmeas
    |false=>
     have hD:rDig (r:Int)=true:=by
      rw [hrn,lxDig_r]
      rw [hrn,lxLet_r] at hL
      unfold lxW at h1
      rw [hL] at h1
      simpa using h1
     rw [hL] at CL
     rw [hD] at CD
     clear hL hD hr hn hwn hWn hin h1 h2 hrn HX
     go_wp2_with fail
     refine(uZ CL).mono ?_
     rintro e u ⟨rfl,rfl⟩
     go_wp2_with fail
     refine(uZ CD).mono ?_
     rintro e u ⟨rfl,rfl⟩
     go_wp2_with fail
     go_roundw
     case rel=>exact⟨pos+1,rfl,uZ HP,HN⟩
     case measure=>exact uZ hmeas
   ·have HE:Hid (s.extract 0 pos=R∧Below w.heap.size w wn):=hZ (by
     refine⟨?_,hWn⟩
     rw [←uZ HR,ext_take,tw_stop lxW s pos hps (uZ HX).1 (fun c hc=>by
      rw [at_list s pos hp] at hc
      cases hc
      exact h1)])
    rw [hr] at h2 h3
    rw [h2] at CL
    rw [h3] at CD
    clear hr hn hwn hWn hin h1 h2 h3 HX
    go_wp2_with fail
    refine(uZ CL).mono ?_
    rintro e u ⟨rfl,rfl⟩
    go_wp2_with fail
    refine(uZ CD).mono ?_
    rintro e u ⟨rfl,rfl⟩
    go_wp2_with fail
    try rw [Exit.noGoto_ret]
    go_ret
    exact⟨by rw [(uZ HE).1];rfl,(uZ HE).2⟩
  ·have e:pos=s.size:=by omega
   have hnx:∀ty,(Instr.next (.pointer (some ⟨k,0,none⟩)) true ty).run Tryz.prog wr=_:=fun ty=>Lib.run_next_end_at wr k s pos ty (uZ HX).2.2 hp
   have HE:Hid (s=R∧Below w.heap.size w wr):=hZ (by
    refine⟨?_,(uZ HX).2.1⟩
    refine(bA_self s).symm.trans ?_
    rw [←uZ HR,tw_stop lxW s s.size (Nat.le_refl _) (fun j c hj hc=>(uZ HX).1 j c (by omega) hc) (fun c hc=>by
     rw [List.getElem?_eq_none (show s.data.toList.length≤s.size from Nat.le_refl _)] at hc
     cases hc),show s.data.toList.take s.size=s.data.toList from List.take_of_length_le (Nat.le_refl _)])
   clear e HX hp hps
   go_wp2_with fail
   try rw [Exit.noGoto_ret]
   go_ret
   exact⟨by rw [←(uZ HE).1];rfl,(uZ HE).2⟩
theorem head_list (s:ByteArray) (h:0<s.size):∃r,s.data.toList=(s[0]'h) :: r:=by
 have:=at_list s 0 h
 cases hl:s.data.toList with
 |nil=>rw [hl] at this;cases this
 |cons c r=>
  rw [hl] at this
  simp at this
  exact⟨r,by rw [this]⟩
theorem len_list (s:ByteArray):s.data.toList.length=s.size:=rfl
def nameL (l:List UInt8):Bool:=decide (1≤l.length) && decide (l.length≤20) && (match l with|[]=>false|c :: _=>lxLet c) && l.all lxW && !keyB l
theorem tw_all (p:UInt8→Bool) (l:List UInt8):(l.takeWhile p == l)=l.all p:=by
 induction l with
 |nil=>rfl
 |cons c r ih=>
  rw [List.takeWhile_cons,List.all_cons]
  cases hc:p c with
  |true=>
   simp only [if_true,Bool.true_and]
   rw [←ih,List.cons_beq_cons]
   simp
  |false=>simp
theorem name_is (s:ByteArray) (h:0<s.size) (h2:s.size≤20):nameL s.data.toList=(lxLet (s[0]'h) && s.data.toList.all lxW && !keyB s.data.toList):=by
 obtain⟨r,hr⟩:=head_list s h
 unfold nameL
 rw [len_list,decide_eq_true (show 1≤s.size from h),decide_eq_true h2]
 rw [hr]
 simp
theorem isNameL_any (s:ByteArray) (w:World) :
  Calls Tryz.prog 80 #[.string s] w fun e w'=>e=.returned (.bool (nameL s.data.toList))∧Below w.heap.size w w':=by
 by_cases h0:s.size=0
 ·have hN:nameL s.data.toList=false:=by unfold nameL;rw [len_list,h0];rfl
  have i1:(s.toList == [])=true:=by
   have:s.toList.length=0:=by rw [ByteArray.toList_eq];simpa using h0
   rw [List.eq_nil_of_length_eq_zero this]
   rfl
  rw [hN]
  clear hN
  go_enter Tryz.func80,Tryz.ntmps80
  go_wp2_with fail
  go_ret
  exact⟨rfl,Below.refl _ _⟩
 have i1:(s.toList == [])=false:=by
  have:s.toList.length≠0:=by rw [ByteArray.toList_eq];simpa using h0
  cases hs:s.toList with
  |nil=>rw [hs] at this;simp at this
  |cons a r=>rfl
 by_cases h20:20<s.size
 ·have hN:nameL s.data.toList=false:=by unfold nameL;rw [len_list,decide_eq_false (show ¬s.size≤20 by omega)];simp
  have i3:(20:Int)<(s.size:Int):=by omega
  rw [hN]
  clear hN
  go_enter Tryz.func80,Tryz.ntmps80
  go_wp2_with fail
  go_ret
  exact⟨rfl,Below.refl _ _⟩
 have i3:¬(20:Int)<(s.size:Int):=by omega
 have hp:0<s.size:=by omega
 have HN:=hZ (name_is s hp (by omega))
 obtain⟨N,hN⟩:∃N,nameL s.data.toList=N:=⟨_,rfl⟩
 have HE:=hZ hN
 rw [hN]
 clear hN
 obtain⟨z,hz⟩:∃z:Nat,(s[0]'hp).toNat=z:=⟨_,rfl⟩
 have hzi:((s[0]'hp).toNat:Int)=(z:Int):=by rw [hz]
 have hz1:(z:Int)≤255:=by have:=(s[0]'hp).toNat_lt;omega
 have hdr:rDig (z:Int)=lxDig (s[0]'hp):=by rw [←hz];exact lxDig_r _
 have CD:=hZ (isDigit_any (z:Int) w)
 cases hD:rDig (z:Int) with
 |true=>
  have HF:Hid (N=false):=hZ (by
   rw [←uZ HE,uZ HN]
   have:lxLet (s[0]'hp)=false:=by
    rw [hdr] at hD
    unfold lxDig at hD
    unfold lxLet
    simp only [decide_eq_true_eq,decide_eq_false_iff_not] at hD ⊢
    omega
   rw [this]
   simp)
  rw [hD] at CD
  clear hD hdr hz
  go_enter Tryz.func80,Tryz.ntmps80
  go_wp2_with fail
  refine(uZ CD).mono ?_
  rintro e u ⟨rfl,rfl⟩
  go_wp2_with fail
  go_ret
  exact⟨by rw [uZ HF];rfl,Below.refl _ _⟩
 |false=>
  rw [hD] at CD
  have hld:lxLet (s[0]'hp)=lxW (s[0]'hp):=by
   rw [hdr] at hD
   unfold lxW
   rw [hD]
   simp
  have CW:=hZ (word_any s (by omega) w)
  have hq:((bA (s.data.toList.takeWhile lxW)).toList == s.toList)=s.data.toList.all lxW:=by
   rw [bA_list,ByteArray.toList_eq]
   exact tw_all _ _
  obtain⟨W,hW⟩:∃W,bA (s.data.toList.takeWhile lxW)=W:=⟨_,rfl⟩
  rw [hW] at CW hq
  have CK:=hZ (fun u=>isKey_any s u)
  have HL:=hZ hld
  cases hA:s.data.toList.all lxW with
  |false=>
   rw [hA] at hq
   have HF:Hid (N=false):=hZ (by rw [←uZ HE,uZ HN,hA];simp)
   clear hD hdr hz hld hW hA
   go_enter Tryz.func80,Tryz.ntmps80
   go_wp2_with fail
   refine(uZ CD).mono ?_
   rintro e u ⟨rfl,rfl⟩
   go_wp2_with fail
   refine(uZ CW).mono ?_
   rintro e u1 ⟨rfl,b1⟩
   have B1:=hZ b1
   clear b1
   go_wp2_with fail
   go_ret
   exact⟨by rw [uZ HF];rfl,uZ B1⟩
  |true=>
   rw [hA] at hq
   have HT:Hid (N=!keyB s.data.toList):=hZ (by
    rw [←uZ HE,uZ HN,hA,uZ HL]
    have:lxW (s[0]'hp)=true:=by
     rw [List.all_eq_true] at hA
     obtain⟨r,hr⟩:=head_list s hp
     exact hA _ (by rw [hr];simp)
    rw [this]
    simp)
   cases hK:keyB s.data.toList <;>
   ·rw [hK] at CK HT
    clear hD hdr hz hld hW hA hK
    go_enter Tryz.func80,Tryz.ntmps80
    go_wp2_with fail
    refine(uZ CD).mono ?_
    rintro e u ⟨rfl,rfl⟩
    go_wp2_with fail
    refine(uZ CW).mono ?_
    rintro e u1 ⟨rfl,b1⟩
    have B1:=hZ b1
    clear b1
    go_wp2_with fail
    refine((uZ CK) _).mono ?_
    rintro e u2 ⟨rfl,rfl⟩
    go_wp2_with fail
    go_ret
    exact⟨by rw [uZ HT];rfl,uZ B1⟩
structure IsK (w:World) (ks:List ByteArray) (ak:Option Addr) (ck:Nat):Prop where
 none:ak=none→ks.length=0
 len:ks.length≤ck
 bnd:ks.length≤140737488351232
 cell:∀a,ak=some a→∀i t,ks[i]?=some t→w.cell? (a.add i)=some (.string t)
 small:∀t∈ks,t.size≤140737488351232
theorem IsK.mono {w w':World} {ks:List ByteArray} {ak:Option Addr} {ck:Nat} (h:IsK w ks ak ck) (hb:Below w.heap.size w w'):IsK w' ks ak ck:=
 ⟨h.none,h.len,h.bnd,fun a ha i t ht=>by
  have h1:=h.cell a ha i t ht
  rw [hb.cell (World.block_lt_of_cell? _ _ (by rw [h1]))]
  exact h1,h.small⟩
theorem drop_cons {ks:List ByteArray} {i:Nat} {t:ByteArray} (h:ks[i]?=some t):ks.drop i=t :: ks.drop (i+1):=by
 obtain⟨hi,rfl⟩:=List.getElem?_eq_some_iff.1 h
 exact List.drop_eq_getElem_cons hi
theorem rising_any (ks:List ByteArray) (ak:Option Addr) (ck:Nat) (w:World) (h:IsK w ks ak ck) :
  Calls Tryz.prog 145 #[.slice ak ks.length ck] w fun e w'=>e=.returned (.bool (risingFrom none ks))∧w'=w:=by
 have hn:=h.len
 have hb:=h.bnd
 have HH:=hZ h
 clear h
 obtain⟨n,hnn⟩:∃n,ks.length=n:=⟨_,rfl⟩
 rw [hnn] at hn hb ⊢
 have HN:=hZ hnn
 clear hnn
 go_enter Tryz.func145,Tryz.ntmps145
 go_wp2_with fail
 go_loopw [7] (fun x wr=>∃i:Nat,i≤n∧x=.int .i64 i∧wr=w∧Hid (risingFrom none ks=risingFrom (if i=0 then none else ks[i - 1]?) (ks.drop i))) (fun x _=>n - (intOf x).toNat)
 case atStart=>exact⟨0,by omega,rfl,rfl,hZ (by simp)⟩
 case round=>
  obtain⟨i,hi,rfl,rfl,HR⟩:=hrel
  by_cases hlt:i<n
  ·have hln:=uZ HN
   obtain⟨t,ht⟩:∃t,ks[i]?=some t:=⟨_,List.getElem?_eq_getElem (by omega)⟩
   obtain⟨a,rfl⟩:∃a,ak=some a:=by
    cases ak with
    |none=>have:=(uZ HH).none rfl;omega
    |some a=>exact⟨a,rfl⟩
   have c1:=(uZ HH).cell a rfl i t ht
   have ts:=(uZ HH).small t (List.mem_of_getElem? ht)
   have HT:=hZ ht
   clear hln ht
   by_cases h32:t.size≤32
   ·by_cases h0:i=0
    ·subst h0
     have c0:wr.cell? a=some (.string t):=c1
     clear c1
     have HR':Hid (risingFrom none ks=risingFrom (if 1=0 then none else ks[1 - 1]?) (ks.drop 1)):=hZ (by
      rw [uZ HR,drop_cons (uZ HT)]
      have e:=uZ HT
      simp [risingFrom,h32,e])
     go_wp2_with fail
     go_roundw
     case rel=>exact⟨1,by omega,by go_num,trivial,HR'⟩
     case measure=>simp [intOf];omega
    ·obtain⟨k,hk⟩:∃k,i=k+1:=⟨i - 1,by omega⟩
     obtain⟨q,hq⟩:∃q,ks[k]?=some q:=⟨_,List.getElem?_eq_getElem (by have:=uZ HN;omega)⟩
     have c2:=(uZ HH).cell a rfl k q hq
     have k1:(i:Int) - 1=(k:Int):=by omega
     have k2:IntKind.i64.wrap ((i:Int) - 1)=(k:Int):=by rw [IntKind.wrap_i64];omega
     have k3:(0:Int)<(i:Int):=by omega
     have k4:(k:Int)<(n:Int):=by omega
     have HQ:=hZ (And.intro hq hk)
     clear hq hk
     have hstep:risingFrom none ks=(Op.bytesLess q.toList t.toList && risingFrom (some t) (ks.drop (i+1))):=by
      rw [uZ HR,drop_cons (uZ HT),if_neg h0,show i - 1=k by have:=(uZ HQ).2;omega,(uZ HQ).1]
      simp [risingFrom,h32]
     have HS:=hZ hstep
     clear hstep
     by_cases hbl:Op.bytesLess q.toList t.toList=true
     ·have HR':Hid (risingFrom none ks=risingFrom (if i+1=0 then none else ks[i+1 - 1]?) (ks.drop (i+1))):=hZ (by
       rw [uZ HS,hbl,if_neg (by omega),show i+1 - 1=i by omega,uZ HT]
       simp)
      go_wp2_with fail
      go_roundw
      case rel=>exact⟨i+1,by omega,by go_num,trivial,HR'⟩
      case measure=>simp [intOf];omega
     ·have hbl':Op.bytesLess q.toList t.toList=false:=by simpa using hbl
      have HF:Hid (risingFrom none ks=false):=hZ (by rw [uZ HS,hbl'];rfl)
      clear hbl
      go_wp2_with fail
      go_ret
      exact⟨by rw [uZ HF];rfl,rfl⟩
   ·have hfin:risingFrom none ks=false:=by
     rw [uZ HR,drop_cons (uZ HT)]
     simp [risingFrom,h32]
    have HF:=hZ hfin
    clear hfin
    go_wp2_with fail
    go_ret
    exact⟨by rw [uZ HF];rfl,rfl⟩
  ·have hfin:risingFrom none ks=true:=by
    rw [uZ HR,List.drop_eq_nil_of_le (by have:=uZ HN;omega)]
    rfl
   have HF:=hZ hfin
   clear hfin
   go_wp2_with fail
   go_ret
   exact⟨by rw [uZ HF];rfl,rfl⟩
end Go.Proofs.YtlkeaaopdnnceaaGreatDoor
