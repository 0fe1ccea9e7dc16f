/-
  The walks of lex's isLetter, isDigit, isKeyword, word, IsName; conditions: a text of at most 2^47 bytes.
  The walk of lex's IsName; no conditions.
  Layer 18 (print): which trees are right, as functions of the tree: how many parts, the form of each node, how deep; no conditions.
-/
import Derived.Test.YtekbmfppfjlboaaGreatDoorRows
import Derived.Test.YtekbmfppfjlboaaGreatDoorA00
import Derived.Test.YtekbmfppfjlboaaGreatDoorA05
import Derived.WalkSpells
import Derived.WalkSmall
import Derived.BigQuiet
import Derived.Below
import Derived.Laws.RangeAny
import Derived.Lib.OthersKept
import Derived.Test.YtekbmfppfjlboaaGreatDoorA03
set_option linter.unusedVariables false
set_option linter.unusedSimpArgs false
namespace Go.Proofs.YtekbmfppfjlboaaGreatDoor
open Go.RowKit
set_option linter.unusedVariables false
set_option linter.unusedSimpArgs false
def rDig (c:Int):Bool:=decide (48≤c∧c≤57)
def rLet (c:Int):Bool:=decide (97≤c∧c≤122∨65≤c∧c≤90∨c=95)
def bA (l:List UInt8):ByteArray:=⟨l.toArray⟩
theorem bA_data (l:List UInt8):(bA l).data.toList=l:=by simp [bA]
theorem bA_list (l:List UInt8):(bA l).toList=l:=by rw [ByteArray.toList_eq];exact bA_data l
theorem bA_eq (s:ByteArray) (l:List UInt8) (h:s.data.toList=l):s=bA l:=by
 apply ByteArray.ext
 rw [←h]
 simp [bA]
theorem bA_self (s:ByteArray):bA s.data.toList=s:=(bA_eq s _ rfl).symm
theorem ext_data (s:ByteArray) (a b:Nat):(s.extract a b).data.toList=(s.data.toList.take b).drop a:=by
 rw [ByteArray.data_extract,Array.toList_extract,List.extract_eq_take_drop,List.drop_take]
theorem ext_take (s:ByteArray) (b:Nat):s.extract 0 b=bA (s.data.toList.take b):=bA_eq _ _ (by rw [ext_data];rfl)
theorem ext_drop (s:ByteArray) (a:Nat):s.extract a s.size=bA (s.data.toList.drop a):=bA_eq _ _ (by rw [ext_data,show s.data.toList.take s.size=s.data.toList from List.take_of_length_le (Nat.le_refl _)])
theorem rLet_cases (c:Int):(rLet c=false∧¬97≤c∧¬65≤c∧(c == 95)=false)∨(rLet c=true∧¬97≤c∧65≤c∧c≤90)∨(rLet c=true∧¬97≤c∧65≤c∧¬c≤90∧(c == 95)=true)∨(rLet c=false∧¬97≤c∧65≤c∧¬c≤90∧(c == 95)=false)∨(rLet c=true∧97≤c∧c≤122)∨(rLet c=false∧97≤c∧¬c≤122∧65≤c∧¬c≤90∧(c == 95)=false):=by
 simp only [rLet,decide_eq_true_eq,decide_eq_false_iff_not,beq_iff_eq,beq_eq_false_iff_ne,ne_eq]
 omega
theorem isLetter_any (c:Int) (w:World) :
  Calls Tryz.prog 139 #[.int .i32 c] w fun e w'=>e=.returned (.bool (rLet c))∧w'=w:=by
 rcases rLet_cases c with ⟨hR,h1,h2,h3⟩|⟨hR,h1,h2,h3⟩|⟨hR,h1,h2,h3,h4⟩|⟨hR,h1,h2,h3,h4⟩|⟨hR,h1,h2⟩|⟨hR,h1,h2,h3,h4,h5⟩
 all_goals
  rw [hR]
  clear hR
  go_enter Tryz.func139,Tryz.ntmps139
  go_wp2_with fail
  go_ret
  exact⟨rfl,rfl⟩
theorem isDigit_any (c:Int) (w:World) :
  Calls Tryz.prog 115 #[.int .i32 c] w fun e w'=>e=.returned (.bool (rDig c))∧w'=w:=by
 by_cases h1:48≤c <;> by_cases h2:c≤57
 all_goals
  have hR:rDig c=decide (48≤c∧c≤57):=rfl
  simp only [h1,h2,decide_true,decide_false,and_self,and_true,and_false,true_and] at hR
  rw [hR]
  clear hR
  go_enter Tryz.func115,Tryz.ntmps115
  go_wp2_with fail
  go_ret
  exact⟨rfl,rfl⟩
theorem lxDig_r (c:UInt8):rDig (c.toNat:Int)=lxDig c:=by unfold rDig lxDig;rw [Bool.eq_iff_iff];simp only [decide_eq_true_eq];omega
theorem lxLet_r (c:UInt8):rLet (c.toNat:Int)=lxLet c:=by unfold rLet lxLet;rw [Bool.eq_iff_iff];simp only [decide_eq_true_eq];omega
theorem lxW_low {c:UInt8} (h:lxW c=true):c.toNat<128:=by
 unfold lxW lxLet lxDig at h
 simp only [Bool.or_eq_true,decide_eq_true_eq] at h
 omega
theorem rBig {r:Int} (h:128≤r):rLet r=false∧rDig r=false:=by
 unfold rLet rDig
 simp only [decide_eq_false_iff_not]
 omega
theorem keyB_or (l:List UInt8):keyB l=((l == [102,110]) ||(l == [101,120,112,111,114,116]) ||(l == [108,101,116]) ||(l == [105,102]) ||(l == [101,108,115,101]) ||(l == [119,104,105,108,101]) ||(l == [114,101,116,117,114,110]) ||(l == [98,114,101,97,107]) ||(l == [99,111,110,116,105,110,117,101]) ||(l == [116,114,117,101]) ||(l == [102,97,108,115,101]) ||(l == [117,110,105,116])):=by
 unfold keyB keyL
 simp only [List.contains_cons,List.contains_nil,Bool.or_false,Bool.or_assoc]
set_option maxRecDepth 100000 in
set_option maxHeartbeats 1000000 in
theorem isKey_any (s:ByteArray) (w:World) :
  Calls Tryz.prog 117 #[.string s] w fun e w'=>e=.returned (.bool (keyB s.data.toList))∧w'=w:=by
 rw [←ByteArray.toList_eq]
 obtain⟨R,hR⟩:∃R,keyB s.toList=R:=⟨_,rfl⟩
 rw [keyB_or] at hR
 rw [keyB_or,hR]
 cases h0:s.toList == [102,110] with
 |true=>
  have hT:R=true:=by rw [←hR];simp [h0]
  rw [hT]
  clear hR hT
  go_enter Tryz.func117,Tryz.ntmps117
  go_wp2_with fail
  go_ret
  exact⟨rfl,rfl⟩
 |false=>
  cases h1:s.toList == [101,120,112,111,114,116] with
  |true=>
   have hT:R=true:=by rw [←hR];simp [h0,h1]
   rw [hT]
   clear hR hT
   go_enter Tryz.func117,Tryz.ntmps117
   go_wp2_with fail
   go_ret
   exact⟨rfl,rfl⟩
  |false=>
   cases h2:s.toList == [108,101,116] with
   |true=>
    have hT:R=true:=by rw [←hR];simp [h0,h1,h2]
    rw [hT]
    clear hR hT
    go_enter Tryz.func117,Tryz.ntmps117
    go_wp2_with fail
    go_ret
    exact⟨rfl,rfl⟩
   |false=>
    cases h3:s.toList == [105,102] with
    |true=>
     have hT:R=true:=by rw [←hR];simp [h0,h1,h2,h3]
     rw [hT]
     clear hR hT
     go_enter Tryz.func117,Tryz.ntmps117
     go_wp2_with fail
     go_ret
     exact⟨rfl,rfl⟩
    |false=>
     cases h4:s.toList == [101,108,115,101] with
     |true=>
      have hT:R=true:=by rw [←hR];simp [h0,h1,h2,h3,h4]
      rw [hT]
      clear hR hT
      go_enter Tryz.func117,Tryz.ntmps117
      go_wp2_with fail
      go_ret
      exact⟨rfl,rfl⟩
     |false=>
      cases h5:s.toList == [119,104,105,108,101] with
      |true=>
       have hT:R=true:=by rw [←hR];simp [h0,h1,h2,h3,h4,h5]
       rw [hT]
       clear hR hT
       go_enter Tryz.func117,Tryz.ntmps117
       go_wp2_with fail
       go_ret
       exact⟨rfl,rfl⟩
      |false=>
       cases h6:s.toList == [114,101,116,117,114,110] with
       |true=>
        have hT:R=true:=by rw [←hR];simp [h0,h1,h2,h3,h4,h5,h6]
        rw [hT]
        clear hR hT
        go_enter Tryz.func117,Tryz.ntmps117
        go_wp2_with fail
        go_ret
        exact⟨rfl,rfl⟩
       |false=>
        cases h7:s.toList == [98,114,101,97,107] with
        |true=>
         have hT:R=true:=by rw [←hR];simp [h0,h1,h2,h3,h4,h5,h6,h7]
         rw [hT]
         clear hR hT
         go_enter Tryz.func117,Tryz.ntmps117
         go_wp2_with fail
         go_ret
         exact⟨rfl,rfl⟩
        |false=>
         cases h8:s.toList == [99,111,110,116,105,110,117,101] with
         |true=>
          have hT:R=true:=by rw [←hR];simp [h0,h1,h2,h3,h4,h5,h6,h7,h8]
          rw [hT]
          clear hR hT
          go_enter Tryz.func117,Tryz.ntmps117
          go_wp2_with fail
          go_ret
          exact⟨rfl,rfl⟩
         |false=>
          cases h9:s.toList == [116,114,117,101] with
          |true=>
           have hT:R=true:=by rw [←hR];simp [h0,h1,h2,h3,h4,h5,h6,h7,h8,h9]
           rw [hT]
           clear hR hT
           go_enter Tryz.func117,Tryz.ntmps117
           go_wp2_with fail
           go_ret
           exact⟨rfl,rfl⟩
          |false=>
           cases h10:s.toList == [102,97,108,115,101] with
           |true=>
            have hT:R=true:=by rw [←hR];simp [h0,h1,h2,h3,h4,h5,h6,h7,h8,h9,h10]
            rw [hT]
            clear hR hT
            go_enter Tryz.func117,Tryz.ntmps117
            go_wp2_with fail
            go_ret
            exact⟨rfl,rfl⟩
           |false=>
            cases h11:s.toList == [117,110,105,116] with
            |true=>
             have hT:R=true:=by rw [←hR];simp [h0,h1,h2,h3,h4,h5,h6,h7,h8,h9,h10,h11]
             rw [hT]
             clear hR hT
             go_enter Tryz.func117,Tryz.ntmps117
             go_wp2_with fail
             go_ret
             exact⟨rfl,rfl⟩
            |false=>
             have hT:R=false:=by rw [←hR];simp [h0,h1,h2,h3,h4,h5,h6,h7,h8,h9,h10,h11]
             rw [hT]
             clear hR hT
             go_enter Tryz.func117,Tryz.ntmps117
             go_wp2_with fail
             go_ret
             exact⟨rfl,rfl⟩
theorem rune_w (s:ByteArray) (pos:Nat) (h:pos<s.size) :
  (lxW (s[pos]'h)=true∧Utf8.decode s pos=((s[pos]'h).toNat,1)) ∨
  (lxW (s[pos]'h)=false∧rLet ((Utf8.decode s pos).1:Int)=false∧rDig ((Utf8.decode s pos).1:Int)=false):=by
 by_cases ha:(s[pos]'h).toNat<128
 ·have hd:=decode_ascii s pos h ha
  cases hw:lxW (s[pos]'h) with
  |true=>exact .inl ⟨rfl,hd⟩
  |false=>
   right
   rw [hd]
   unfold lxW at hw
   rw [Bool.or_eq_false_iff] at hw
   exact⟨rfl,by rw [lxLet_r];exact hw.1,by rw [lxDig_r];exact hw.2⟩
 ·right
  have hb:=(decode_high s pos h (by omega)).1
  have hr:=rBig (r:=((Utf8.decode s pos).1:Int)) (by omega)
  refine⟨?_,hr.1,hr.2⟩
  rw [Bool.eq_false_iff]
  intro e
  exact ha (lxW_low e)
theorem tw_stop (p:UInt8→Bool) (s:ByteArray) (n:Nat) (hn:n≤s.size) (h1:∀j c,j<n→s.data.toList[j]?=some c→p c=true) (h2:∀c,s.data.toList[n]?=some c→p c=false):s.data.toList.takeWhile p=s.data.toList.take n:=by
 have hl:s.data.toList.length=s.size:=rfl
 rw [←hl] at hn
 clear hl
 revert n
 generalize s.data.toList=l
 induction l with
 |nil=>intro n hn _ _;simp
 |cons c r ih=>
  intro n hn h1 h2
  cases n with
  |zero=>rw [List.takeWhile_cons,if_neg (by rw [h2 c rfl];simp)];rfl
  |succ n=>
   rw [List.takeWhile_cons,if_pos (h1 0 c (by omega) rfl),List.take_succ_cons,ih n (by simpa using hn) (fun j d hj hd=>h1 (j+1) d (by omega) (by simpa using hd)) (fun d hd=>h2 d (by simpa using hd))]
theorem at_list (s:ByteArray) (j:Nat) (h:j<s.size):s.data.toList[j]?=some (s[j]'h):=by
 rw [Array.getElem?_toList]
 exact Array.getElem?_eq_getElem h
set_option maxRecDepth 100000 in
set_option maxHeartbeats 1000000 in
theorem word_any (s:ByteArray) (hs:s.size≤140737488355328) (w:World) :
  Calls Tryz.prog 116 #[.string s] w fun e w'=>e=.returned (.string (bA (s.data.toList.takeWhile lxW)))∧Below w.heap.size w w':=by
 obtain⟨R,hR⟩:∃R,bA (s.data.toList.takeWhile lxW)=R:=⟨_,rfl⟩
 have HR:=hide hR
 rw [hR]
 clear hR
 obtain⟨k,hk⟩:∃k,w.heap.size=k:=⟨_,rfl⟩
 have HK:=hide hk
 go_enter Tryz.func116,Tryz.ntmps116
 go_wp2_with fail
 go_step3
 go_wp2_with fail
 go_step3
 go_wp2_with fail
 have HS:Hid (Below w.heap.size w (w.iter s 0)∧(w.iter s 0).heap[k]?=some (.stringIter s 0)):=hide (by
  refine⟨(Below.refl _ _).alloc (Nat.le_refl _) _,?_⟩
  rw [←unhide HK]
  exact World.iter_heap w s 0)
 clear hk
 go_loopw [3] (fun x wr=>∃(pos:Nat),x=.int .i64 (s.size:Int)∧pos≤s.size∧Hid ((∀j c,j<pos→s.data.toList[j]?=some c→lxW c=true)∧Below w.heap.size w wr∧wr.heap[k]?=some (.stringIter s pos))) (fun _ wr=>s.size - wr.iterPos k)
 case atStart=>exact⟨0,rfl,Nat.zero_le _,hide ⟨fun j c h=>by omega,(unhide HS).1,(unhide HS).2⟩⟩
 case round=>
  clear HS
  obtain⟨pos,rfl,hps,HX⟩:=hrel
  by_cases hp:pos<s.size
  ·have hnx:∀ty,(Instr.next (.pointer (some ⟨k,0,none⟩)) true ty).run Tryz.prog wr=_:=fun ty=>Lib.run_next_any_at wr k s pos ty (unhide HX).2.2 hp
   have hru:=rune_w s pos hp
   obtain⟨r,hr⟩:∃r,(Utf8.decode s pos).1=r:=⟨_,rfl⟩
   obtain⟨n,hn⟩:∃n,(Utf8.decode s pos).2=n:=⟨_,rfl⟩
   rw [hr,hn] at hnx
   have hWn:=Lib.below_iterAt (unhide HX).2.1 (show w.heap.size≤k by have:=unhide HK;omega) s (pos+n)
   have hin:=Lib.iterAt_heap wr k s pos (pos+n) (unhide HX).2.2
   obtain⟨wn,hwn⟩:∃wn,wr.iterAt k s (pos+n)=wn:=⟨_,rfl⟩
   rw [hwn] at hnx hWn hin
   have HIP:Hid (wr.iterPos k=pos):=hide (by unfold World.iterPos;rw [(unhide HX).2.2])
   have CL:=hide (isLetter_any (r:Int) wn)
   have CD:=hide (isDigit_any (r:Int) wn)
   have HP:=hide hp
   have hrle:(r:Int)≤2147483647:=by have:=decode_le s pos;omega
   rcases hru with ⟨h1,h2⟩|⟨h1,h2,h3⟩
   ·have hrn:r=(s[pos]'hp).toNat:=by rw [←hr,h2]
    obtain rfl:n=1:=by rw [←hn,h2]
    have HN:Hid ((∀j c,j<pos+1→s.data.toList[j]?=some c→lxW c=true)∧Below w.heap.size w wn∧wn.heap[k]?=some (.stringIter s (pos+1))):=hide ⟨fun j c hj hc=>by
     rcases Nat.lt_or_ge j pos with g|g
     ·exact(unhide HX).1 j c g hc
     ·obtain rfl:j=pos:=by omega
      rw [at_list s j hp] at hc
      cases hc
      exact h1,hWn,hin⟩
    have hmeas:Hid (s.size - wn.iterPos k<s.size - wr.iterPos k):=hide (by
     rw [unhide HIP,show wn.iterPos k=pos+1 from by unfold World.iterPos;rw [hin]]
     omega)
    cases hL:rLet (r:Int) with
    |true=>
     rw [hL] at CL
     clear hL CD hr hn hwn hWn hin h1 h2 hrn HX
     go_wp2_with fail
     refine(unhide CL).mono ?_
     rintro e u ⟨rfl,rfl⟩
     go_wp2_with fail
     go_roundw
     case rel=>exact⟨pos+1,rfl,unhide HP,HN⟩
     case measure=>exact unhide hmeas
    |false=>
     have hD:rDig (r:Int)=true:=by
      rw [hrn,lxDig_r]
      rw [hrn,lxLet_r] at hL
      unfold lxW at h1
      rw [hL] at h1
      simpa using h1
     rw [hL] at CL
     rw [hD] at CD
     clear hL hD hr hn hwn hWn hin h1 h2 hrn HX
     go_wp2_with fail
     refine(unhide CL).mono ?_
     rintro e u ⟨rfl,rfl⟩
     go_wp2_with fail
     refine(unhide CD).mono ?_
     rintro e u ⟨rfl,rfl⟩
     go_wp2_with fail
     go_roundw
     case rel=>exact⟨pos+1,rfl,unhide HP,HN⟩
     case measure=>exact unhide hmeas
   ·have HE:Hid (s.extract 0 pos=R∧Below w.heap.size w wn):=hide (by
     refine⟨?_,hWn⟩
     rw [←unhide HR,ext_take,tw_stop lxW s pos hps (unhide HX).1 (fun c hc=>by
      rw [at_list s pos hp] at hc
      cases hc
      exact h1)])
    rw [hr] at h2 h3
    rw [h2] at CL
    rw [h3] at CD
    clear hr hn hwn hWn hin h1 h2 h3 HX
    go_wp2_with fail
    refine(unhide CL).mono ?_
    rintro e u ⟨rfl,rfl⟩
    go_wp2_with fail
    refine(unhide CD).mono ?_
    rintro e u ⟨rfl,rfl⟩
    go_wp2_with fail
    try rw [Exit.noGoto_ret]
    go_ret
    exact⟨by rw [(unhide HE).1];rfl,(unhide HE).2⟩
  ·have e:pos=s.size:=by omega
   have hnx:∀ty,(Instr.next (.pointer (some ⟨k,0,none⟩)) true ty).run Tryz.prog wr=_:=fun ty=>Lib.run_next_end_at wr k s pos ty (unhide HX).2.2 hp
   have HE:Hid (s=R∧Below w.heap.size w wr):=hide (by
    refine⟨?_,(unhide HX).2.1⟩
    refine(bA_self s).symm.trans ?_
    rw [←unhide HR,tw_stop lxW s s.size (Nat.le_refl _) (fun j c hj hc=>(unhide HX).1 j c (by omega) hc) (fun c hc=>by
     rw [List.getElem?_eq_none (show s.data.toList.length≤s.size from Nat.le_refl _)] at hc
     cases hc),show s.data.toList.take s.size=s.data.toList from List.take_of_length_le (Nat.le_refl _)])
   clear e HX hp hps
   go_wp2_with fail
   try rw [Exit.noGoto_ret]
   go_ret
   exact⟨by rw [←(unhide HE).1];rfl,(unhide HE).2⟩
theorem head_list (s:ByteArray) (h:0<s.size):∃r,s.data.toList=(s[0]'h) :: r:=by
 have:=at_list s 0 h
 cases hl:s.data.toList with
 |nil=>rw [hl] at this;cases this
 |cons c r=>
  rw [hl] at this
  simp at this
  exact⟨r,by rw [this]⟩
theorem len_list (s:ByteArray):s.data.toList.length=s.size:=rfl
def nameL (l:List UInt8):Bool:=decide (1≤l.length) && decide (l.length≤20) && (match l with|[]=>false|c :: _=>lxLet c) && l.all lxW && !keyB l
theorem tw_all (p:UInt8→Bool) (l:List UInt8):(l.takeWhile p == l)=l.all p:=by
 induction l with
 |nil=>rfl
 |cons c r ih=>
  rw [List.takeWhile_cons,List.all_cons]
  cases hc:p c with
  |true=>
   simp only [if_true,Bool.true_and]
   rw [←ih,List.cons_beq_cons]
   simp
  |false=>simp
theorem name_is (s:ByteArray) (h:0<s.size) (h2:s.size≤20):nameL s.data.toList=(lxLet (s[0]'h) && s.data.toList.all lxW && !keyB s.data.toList):=by
 obtain⟨r,hr⟩:=head_list s h
 unfold nameL
 rw [len_list,decide_eq_true (show 1≤s.size from h),decide_eq_true h2]
 rw [hr]
 simp
set_option maxRecDepth 100000 in
set_option maxHeartbeats 1000000 in
theorem isNameL_any (s:ByteArray) (w:World) :
  Calls Tryz.prog 80 #[.string s] w fun e w'=>e=.returned (.bool (nameL s.data.toList))∧Below w.heap.size w w':=by
 by_cases h0:s.size=0
 ·have hN:nameL s.data.toList=false:=by unfold nameL;rw [len_list,h0];rfl
  have i1:(s.toList == [])=true:=by
   have:s.toList.length=0:=by rw [ByteArray.toList_eq];simpa using h0
   rw [List.eq_nil_of_length_eq_zero this]
   rfl
  rw [hN]
  clear hN
  go_enter Tryz.func80,Tryz.ntmps80
  go_wp2_with fail
  go_ret
  exact⟨rfl,Below.refl _ _⟩
 have i1:(s.toList == [])=false:=by
  have:s.toList.length≠0:=by rw [ByteArray.toList_eq];simpa using h0
  cases hs:s.toList with
  |nil=>rw [hs] at this;simp at this
  |cons a r=>rfl
 by_cases h20:20<s.size
 ·have hN:nameL s.data.toList=false:=by unfold nameL;rw [len_list,decide_eq_false (show ¬s.size≤20 by omega)];simp
  have i3:(20:Int)<(s.size:Int):=by omega
  rw [hN]
  clear hN
  go_enter Tryz.func80,Tryz.ntmps80
  go_wp2_with fail
  go_ret
  exact⟨rfl,Below.refl _ _⟩
 have i3:¬(20:Int)<(s.size:Int):=by omega
 have hp:0<s.size:=by omega
 have HN:=hide (name_is s hp (by omega))
 obtain⟨N,hN⟩:∃N,nameL s.data.toList=N:=⟨_,rfl⟩
 have HE:=hide hN
 rw [hN]
 clear hN
 obtain⟨z,hz⟩:∃z:Nat,(s[0]'hp).toNat=z:=⟨_,rfl⟩
 have hzi:((s[0]'hp).toNat:Int)=(z:Int):=by rw [hz]
 have hz1:(z:Int)≤255:=by have:=(s[0]'hp).toNat_lt;omega
 have hdr:rDig (z:Int)=lxDig (s[0]'hp):=by rw [←hz];exact lxDig_r _
 have CD:=hide (isDigit_any (z:Int) w)
 cases hD:rDig (z:Int) with
 |true=>
  have HF:Hid (N=false):=hide (by
   rw [←unhide HE,unhide HN]
   have:lxLet (s[0]'hp)=false:=by
    rw [hdr] at hD
    unfold lxDig at hD
    unfold lxLet
    simp only [decide_eq_true_eq,decide_eq_false_iff_not] at hD ⊢
    omega
   rw [this]
   simp)
  rw [hD] at CD
  clear hD hdr hz
  go_enter Tryz.func80,Tryz.ntmps80
  go_wp2_with fail
  refine(unhide CD).mono ?_
  rintro e u ⟨rfl,rfl⟩
  go_wp2_with fail
  go_ret
  exact⟨by rw [unhide HF];rfl,Below.refl _ _⟩
 |false=>
  rw [hD] at CD
  have hld:lxLet (s[0]'hp)=lxW (s[0]'hp):=by
   rw [hdr] at hD
   unfold lxW
   rw [hD]
   simp
  have CW:=hide (word_any s (by omega) w)
  have hq:((bA (s.data.toList.takeWhile lxW)).toList == s.toList)=s.data.toList.all lxW:=by
   rw [bA_list,ByteArray.toList_eq]
   exact tw_all _ _
  obtain⟨W,hW⟩:∃W,bA (s.data.toList.takeWhile lxW)=W:=⟨_,rfl⟩
  rw [hW] at CW hq
  have CK:=hide (fun u=>isKey_any s u)
  have HL:=hide hld
  cases hA:s.data.toList.all lxW with
  |false=>
   rw [hA] at hq
   have HF:Hid (N=false):=hide (by rw [←unhide HE,unhide HN,hA];simp)
   clear hD hdr hz hld hW hA
   go_enter Tryz.func80,Tryz.ntmps80
   go_wp2_with fail
   refine(unhide CD).mono ?_
   rintro e u ⟨rfl,rfl⟩
   go_wp2_with fail
   refine(unhide CW).mono ?_
   rintro e u1 ⟨rfl,b1⟩
   have B1:=hide b1
   clear b1
   go_wp2_with fail
   go_ret
   exact⟨by rw [unhide HF];rfl,unhide B1⟩
  |true=>
   rw [hA] at hq
   have HT:Hid (N=!keyB s.data.toList):=hide (by
    rw [←unhide HE,unhide HN,hA,unhide HL]
    have:lxW (s[0]'hp)=true:=by
     rw [List.all_eq_true] at hA
     obtain⟨r,hr⟩:=head_list s hp
     exact hA _ (by rw [hr];simp)
    rw [this]
    simp)
   cases hK:keyB s.data.toList <;>
   ·rw [hK] at CK HT
    clear hD hdr hz hld hW hA hK
    go_enter Tryz.func80,Tryz.ntmps80
    go_wp2_with fail
    refine(unhide CD).mono ?_
    rintro e u ⟨rfl,rfl⟩
    go_wp2_with fail
    refine(unhide CW).mono ?_
    rintro e u1 ⟨rfl,b1⟩
    have B1:=hide b1
    clear b1
    go_wp2_with fail
    refine((unhide CK) _).mono ?_
    rintro e u2 ⟨rfl,rfl⟩
    go_wp2_with fail
    go_ret
    exact⟨by rw [unhide HT];rfl,unhide B1⟩
def cvs:List Vl→Nat
 |[]=>0
 |.mk _ _ _ l _ :: r=>1+cvs l+cvs r
def cns:List Tn→Nat
 |[]=>0
 |.mk _ _ v _ ks _ :: r=>1+cvs v.l+cns ks+cns r
theorem cvs_at:∀(l:List Vl) (i:Nat) (y:Vl),l[i]?=some y→cvs (l.drop i)=1+cvs y.l+cvs (l.drop (i+1))
 |[],i,y,h=>by simp at h
 |.mk k n s l ks :: r,0,y,h=>by
  simp only [List.getElem?_cons_zero,Option.some.injEq] at h
  subst h
  simp [cvs]
 |.mk k n s l ks :: r,i+1,y,h=>by
  simp only [List.drop_succ_cons]
  exact cvs_at r i y (by simpa using h)
theorem cns_at:∀(l:List Tn) (i:Nat) (y:Tn),l[i]?=some y→cns (l.drop i)=1+cvs y.v.l+cns y.ks+cns (l.drop (i+1))
 |[],i,y,h=>by simp at h
 |.mk k t v f ks p :: r,0,y,h=>by
  simp only [List.getElem?_cons_zero,Option.some.injEq] at h
  subst h
  simp [cns]
 |.mk k t v f ks p :: r,i+1,y,h=>by
  simp only [List.drop_succ_cons]
  exact cns_at r i y (by simpa using h)
theorem cns_one (y:Tn):cns [y]=1+cvs y.v.l+cns y.ks:=by
 obtain⟨k,t,v,f,ks,p⟩:=y
 simp [cns]
def isEx (k:Int):Bool:=decide (k=13∨k=14∨k=15∨k=16∨k=17∨k=18∨k=19∨k=21∨k=22)
def isStm (k:Int):Bool:=decide (k=5∨k=6∨k=7∨k=8∨k=9∨k=10∨k=11∨k=12)
def txB (k:Int) (t:ByteArray):Bool:=
 if k=2∨k=3∨k=5∨k=6∨k=14∨k=15∨k=22 then nameL t.data.toList
 else if k=16 then decide (t.toList=[45]) ||decide (t.toList=[33])
 else if k=17 then decide (0<bnS t.toList)
 else if k=20 then decide (t.size≤32)
 else decide (t.toList=[])
def flB (k:Int) (f:Bool):Bool:=decide (k=2) ||!f
def vlB (k:Int) (v:Vl):Bool:=
 if k=13 then
  (if v.kind=0∨v.kind=1∨v.kind=3 then rightB v else if v.kind=2 then decide (0≤v.n) && rightB v else false)
 else decide (v.kind=0) && decide (v.n=0) && decide (v.s.toList=[]) && decide (v.l.length=0) && decide (v.ks.length=0)
def kdB (k:Int) (l:List Int):Bool:=
 if k=1 then l.all (fun x=>decide (x=2))
 else if k=2 then decide (1≤l.length) && (l.take (l.length - 1)).all (fun x=>decide (x=3)) && decide (l[l.length - 1]?=some 4)
 else if k=4 then l.all isStm
 else if k=7 then decide (l.length=2) && (isEx ((l[0]?).getD 0) && decide (l[1]?=some 4)) ||decide (l.length=3) && (isEx ((l[0]?).getD 0) && decide (l[1]?=some 4)) && (decide (l[2]?=some 4) ||decide (l[2]?=some 7))
 else if k=8 then decide (l.length=2) && (isEx ((l[0]?).getD 0) && decide (l[1]?=some 4))
 else if k=5∨k=9 then decide (l.length≤1) && l.all isEx
 else if k=6∨k=12∨k=16∨k=22∨k=20 then decide (l.length=1) && isEx ((l[0]?).getD 0)
 else if k=17∨k=21 then decide (l.length=2) && l.all isEx
 else if k=15∨k=18 then l.all isEx
 else if k=19 then l.all (fun x=>decide (x=20))
 else if k=3∨k=10∨k=11∨k=13∨k=14 then decide (l.length=0)
 else false
def rwB (n:Tn):Bool:=txB n.k n.t && flB n.k n.f && vlB n.k n.v && kdB n.k (n.ks.map (·.k))
def fmL:List Tn→Bool
 |[]=>true
 |.mk k t v f ks p :: r=>rwB (.mk k t v f ks p) && fmL ks && fmL r
def fmB (n:Tn):Bool:=rwB n && fmL n.ks
theorem fmL_cons (n:Tn) (r:List Tn):fmL (n :: r)=(fmB n && fmL r):=by
 obtain⟨k,t,v,f,ks,p⟩:=n
 simp only [fmL,fmB]
theorem fmL_all:∀l:List Tn,fmL l=l.all fmB
 |[]=>by simp only [fmL];rfl
 |n :: r=>by rw [fmL_cons,fmL_all r];rfl
def brk (k:Int) (t:ByteArray) (ky:Int) (ty:ByteArray) (i:Nat):Bool:=
 if k=16 then decide (ky=17) else if k=21∨k=22 then decide (i=0∧(ky=16∨ky=17)) else
 if k=17 then decide (ky=17∧((bnS ty.toList=bnS t.toList∧(i=1∨bnS t.toList=3))∨bnS ty.toList<bnS t.toList)) else false
def opn (k:Int):Nat:=if k=4∨k=15∨k=21∨k=18∨k=19∨k=16 then 1 else 0
def arnd (k:Int) (t:ByteArray) (ky:Int) (ty:ByteArray) (i:Nat):Nat:=(if k=21∧i=0 then 0 else opn k)+(if brk k t ky ty i then 1 else 0)
def dpL (k:Int) (t:ByteArray):Nat→List Tn→Nat
 |_,[]=>0
 |i,.mk ky ty v f ks p :: r=>max (arnd k t ky ty i+max (opn ky) (dpL ky ty 0 ks)) (dpL k t (i+1) r)
def dpN (n:Tn):Nat:=max (opn n.k) (dpL n.k n.t 0 n.ks)
theorem dpL_cons (k:Int) (t:ByteArray) (i:Nat) (y:Tn) (r:List Tn):dpL k t i (y :: r)=max (arnd k t y.k y.t i+dpN y) (dpL k t (i+1) r):=by
 obtain⟨ky,ty,v,f,ks,p⟩:=y
 simp only [dpL,dpN]
def rgB (n:Tn):Bool:=decide (cns [n]≤20000) && fmB n && decide (dpN n≤24)
end Go.Proofs.YtekbmfppfjlboaaGreatDoor
