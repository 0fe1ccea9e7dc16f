/-
  The walks of lex's isLetter, isDigit, isKeyword, word, IsName; conditions: a text of at most 2^47 bytes.
  Bytes as a source says them; no conditions.
  A region that draws its order and closes with a store over a cell that it has read: the read may be taken first, since the store waits for it; no conditions.
  Rows of the call's own: append of one element, of some bytes; no conditions.
  Laws for arrays in memory, whole: a load, a store, of whatever cells; rows of bytes; no conditions.
  Laws for variables that hold whole arrays or structs: made, written, with the worlds behind them as letters; no conditions.
-/
import Derived.Test.YtilhlmmcdfoaoaaGreatDoorRows
import Derived.Test.YtilhlmmcdfoaoaaGreatDoorE00
import Derived.WalkSpells
import Derived.WalkSmall
import Derived.BigQuiet
import Derived.Below
import Derived.Laws.RangeAny
import Derived.Lib.OthersKept
import Derived.Deep.RegionHeld3
import Derived.WalkKit
import Derived.OwnWalk
import Derived.Laws.Rows
import Derived.Laws.BytesArg
import Derived.Laws.Strings
import Derived.Maps.AppendAt
import Derived.Deep.CutRange
import Derived.Deep.AppendLies
import Derived.ArgAppend
import Derived.Lib.SlBytesConst
import Derived.Deep.QuietTactic
import Derived.OpenShut
import Derived.Deep.WholeRow
import Derived.Deep.MidRow
import Derived.Laws.Tables
import Derived.Laws.ResultCell
import Derived.Laws.CopyOwn
set_option linter.unusedVariables false
set_option linter.unusedSimpArgs false
namespace Go.Proofs.YtilhlmmcdfoaoaaGreatDoor
open Go.RowKit
set_option linter.unusedVariables false
set_option linter.unusedSimpArgs false
def rDig (c:Int):Bool:=decide (48≤c∧c≤57)
def rLet (c:Int):Bool:=decide (97≤c∧c≤122∨65≤c∧c≤90∨c=95)
def bA (l:List UInt8):ByteArray:=⟨l.toArray⟩
theorem bA_data (l:List UInt8):(bA l).data.toList=l:=by simp [bA]
theorem bA_list (l:List UInt8):(bA l).toList=l:=by rw [ByteArray.toList_eq];exact bA_data l
theorem bA_size (l:List UInt8):(bA l).size=l.length:=by simp [bA,ByteArray.size]
theorem bA_eq (s:ByteArray) (l:List UInt8) (h:s.data.toList=l):s=bA l:=by
 apply ByteArray.ext
 rw [←h]
 simp [bA]
theorem bA_self (s:ByteArray):bA s.data.toList=s:=(bA_eq s _ rfl).symm
theorem ext_data (s:ByteArray) (a b:Nat):(s.extract a b).data.toList=(s.data.toList.take b).drop a:=by
 rw [ByteArray.data_extract,Array.toList_extract,List.extract_eq_take_drop,List.drop_take]
theorem ext_take (s:ByteArray) (b:Nat):s.extract 0 b=bA (s.data.toList.take b):=bA_eq _ _ (by rw [ext_data];rfl)
theorem ext_drop (s:ByteArray) (a:Nat):s.extract a s.size=bA (s.data.toList.drop a):=bA_eq _ _ (by rw [ext_data,show s.data.toList.take s.size=s.data.toList from List.take_of_length_le (Nat.le_refl _)])
theorem rLet_cases (c:Int):(rLet c=false∧¬97≤c∧¬65≤c∧(c == 95)=false)∨(rLet c=true∧¬97≤c∧65≤c∧c≤90)∨(rLet c=true∧¬97≤c∧65≤c∧¬c≤90∧(c == 95)=true)∨(rLet c=false∧¬97≤c∧65≤c∧¬c≤90∧(c == 95)=false)∨(rLet c=true∧97≤c∧c≤122)∨(rLet c=false∧97≤c∧¬c≤122∧65≤c∧¬c≤90∧(c == 95)=false):=by
 simp only [rLet,decide_eq_true_eq,decide_eq_false_iff_not,beq_iff_eq,beq_eq_false_iff_ne,ne_eq]
 omega
theorem isLetter_any (c:Int) (w:World) :
  Calls Tryz.prog 52 #[.int .i32 c] w fun e w'=>e=.returned (.bool (rLet c))∧w'=w:=by
 rcases rLet_cases c with ⟨hR,h1,h2,h3⟩|⟨hR,h1,h2,h3⟩|⟨hR,h1,h2,h3,h4⟩|⟨hR,h1,h2,h3,h4⟩|⟨hR,h1,h2⟩|⟨hR,h1,h2,h3,h4,h5⟩
 all_goals
  rw [hR]
  clear hR
  go_enter Tryz.func52,Tryz.ntmps52
  go_wp2_with fail
  go_ret
  exact⟨rfl,rfl⟩
theorem isDigit_any (c:Int) (w:World) :
  Calls Tryz.prog 54 #[.int .i32 c] w fun e w'=>e=.returned (.bool (rDig c))∧w'=w:=by
 by_cases h1:48≤c <;> by_cases h2:c≤57
 all_goals
  have hR:rDig c=decide (48≤c∧c≤57):=rfl
  simp only [h1,h2,decide_true,decide_false,and_self,and_true,and_false,true_and] at hR
  rw [hR]
  clear hR
  go_enter Tryz.func54,Tryz.ntmps54
  go_wp2_with fail
  go_ret
  exact⟨rfl,rfl⟩
theorem lxDig_r (c:UInt8):rDig (c.toNat:Int)=lxDig c:=by unfold rDig lxDig;rw [Bool.eq_iff_iff];simp only [decide_eq_true_eq];omega
theorem lxLet_r (c:UInt8):rLet (c.toNat:Int)=lxLet c:=by unfold rLet lxLet;rw [Bool.eq_iff_iff];simp only [decide_eq_true_eq];omega
theorem lxW_low {c:UInt8} (h:lxW c=true):c.toNat<128:=by
 unfold lxW lxLet lxDig at h
 simp only [Bool.or_eq_true,decide_eq_true_eq] at h
 omega
theorem rBig {r:Int} (h:128≤r):rLet r=false∧rDig r=false:=by
 unfold rLet rDig
 simp only [decide_eq_false_iff_not]
 omega
theorem keyB_or (l:List UInt8):keyB l=((l == [102,110]) ||(l == [101,120,112,111,114,116]) ||(l == [108,101,116]) ||(l == [105,102]) ||(l == [101,108,115,101]) ||(l == [119,104,105,108,101]) ||(l == [114,101,116,117,114,110]) ||(l == [98,114,101,97,107]) ||(l == [99,111,110,116,105,110,117,101]) ||(l == [116,114,117,101]) ||(l == [102,97,108,115,101]) ||(l == [117,110,105,116])):=by
 unfold keyB keyL
 simp only [List.contains_cons,List.contains_nil,Bool.or_false,Bool.or_assoc]
set_option maxRecDepth 100000 in
set_option maxHeartbeats 1000000 in
theorem isKey_any (s:ByteArray) (w:World) :
  Calls Tryz.prog 73 #[.string s] w fun e w'=>e=.returned (.bool (keyB s.data.toList))∧w'=w:=by
 rw [←ByteArray.toList_eq]
 obtain⟨R,hR⟩:∃R,keyB s.toList=R:=⟨_,rfl⟩
 rw [keyB_or] at hR
 rw [keyB_or,hR]
 cases h0:s.toList == [102,110] with
 |true=>
  have hT:R=true:=by rw [←hR];simp [h0]
  rw [hT]
  clear hR hT
  go_enter Tryz.func73,Tryz.ntmps73
  go_wp2_with fail
  go_ret
  exact⟨rfl,rfl⟩
 |false=>
  cases h1:s.toList == [101,120,112,111,114,116] with
  |true=>
   have hT:R=true:=by rw [←hR];simp [h0,h1]
   rw [hT]
   clear hR hT
   go_enter Tryz.func73,Tryz.ntmps73
   go_wp2_with fail
   go_ret
   exact⟨rfl,rfl⟩
  |false=>
   cases h2:s.toList == [108,101,116] with
   |true=>
    have hT:R=true:=by rw [←hR];simp [h0,h1,h2]
    rw [hT]
    clear hR hT
    go_enter Tryz.func73,Tryz.ntmps73
    go_wp2_with fail
    go_ret
    exact⟨rfl,rfl⟩
   |false=>
    cases h3:s.toList == [105,102] with
    |true=>
     have hT:R=true:=by rw [←hR];simp [h0,h1,h2,h3]
     rw [hT]
     clear hR hT
     go_enter Tryz.func73,Tryz.ntmps73
     go_wp2_with fail
     go_ret
     exact⟨rfl,rfl⟩
    |false=>
     cases h4:s.toList == [101,108,115,101] with
     |true=>
      have hT:R=true:=by rw [←hR];simp [h0,h1,h2,h3,h4]
      rw [hT]
      clear hR hT
      go_enter Tryz.func73,Tryz.ntmps73
      go_wp2_with fail
      go_ret
      exact⟨rfl,rfl⟩
     |false=>
      cases h5:s.toList == [119,104,105,108,101] with
      |true=>
       have hT:R=true:=by rw [←hR];simp [h0,h1,h2,h3,h4,h5]
       rw [hT]
       clear hR hT
       go_enter Tryz.func73,Tryz.ntmps73
       go_wp2_with fail
       go_ret
       exact⟨rfl,rfl⟩
      |false=>
       cases h6:s.toList == [114,101,116,117,114,110] with
       |true=>
        have hT:R=true:=by rw [←hR];simp [h0,h1,h2,h3,h4,h5,h6]
        rw [hT]
        clear hR hT
        go_enter Tryz.func73,Tryz.ntmps73
        go_wp2_with fail
        go_ret
        exact⟨rfl,rfl⟩
       |false=>
        cases h7:s.toList == [98,114,101,97,107] with
        |true=>
         have hT:R=true:=by rw [←hR];simp [h0,h1,h2,h3,h4,h5,h6,h7]
         rw [hT]
         clear hR hT
         go_enter Tryz.func73,Tryz.ntmps73
         go_wp2_with fail
         go_ret
         exact⟨rfl,rfl⟩
        |false=>
         cases h8:s.toList == [99,111,110,116,105,110,117,101] with
         |true=>
          have hT:R=true:=by rw [←hR];simp [h0,h1,h2,h3,h4,h5,h6,h7,h8]
          rw [hT]
          clear hR hT
          go_enter Tryz.func73,Tryz.ntmps73
          go_wp2_with fail
          go_ret
          exact⟨rfl,rfl⟩
         |false=>
          cases h9:s.toList == [116,114,117,101] with
          |true=>
           have hT:R=true:=by rw [←hR];simp [h0,h1,h2,h3,h4,h5,h6,h7,h8,h9]
           rw [hT]
           clear hR hT
           go_enter Tryz.func73,Tryz.ntmps73
           go_wp2_with fail
           go_ret
           exact⟨rfl,rfl⟩
          |false=>
           cases h10:s.toList == [102,97,108,115,101] with
           |true=>
            have hT:R=true:=by rw [←hR];simp [h0,h1,h2,h3,h4,h5,h6,h7,h8,h9,h10]
            rw [hT]
            clear hR hT
            go_enter Tryz.func73,Tryz.ntmps73
            go_wp2_with fail
            go_ret
            exact⟨rfl,rfl⟩
           |false=>
            cases h11:s.toList == [117,110,105,116] with
            |true=>
             have hT:R=true:=by rw [←hR];simp [h0,h1,h2,h3,h4,h5,h6,h7,h8,h9,h10,h11]
             rw [hT]
             clear hR hT
             go_enter Tryz.func73,Tryz.ntmps73
             go_wp2_with fail
             go_ret
             exact⟨rfl,rfl⟩
            |false=>
             have hT:R=false:=by rw [←hR];simp [h0,h1,h2,h3,h4,h5,h6,h7,h8,h9,h10,h11]
             rw [hT]
             clear hR hT
             go_enter Tryz.func73,Tryz.ntmps73
             go_wp2_with fail
             go_ret
             exact⟨rfl,rfl⟩
theorem rune_w (s:ByteArray) (pos:Nat) (h:pos<s.size) :
  (lxW (s[pos]'h)=true∧Utf8.decode s pos=((s[pos]'h).toNat,1)) ∨
  (lxW (s[pos]'h)=false∧rLet ((Utf8.decode s pos).1:Int)=false∧rDig ((Utf8.decode s pos).1:Int)=false):=by
 by_cases ha:(s[pos]'h).toNat<128
 ·have hd:=decode_ascii s pos h ha
  cases hw:lxW (s[pos]'h) with
  |true=>exact .inl ⟨rfl,hd⟩
  |false=>
   right
   rw [hd]
   unfold lxW at hw
   rw [Bool.or_eq_false_iff] at hw
   exact⟨rfl,by rw [lxLet_r];exact hw.1,by rw [lxDig_r];exact hw.2⟩
 ·right
  have hb:=(decode_high s pos h (by omega)).1
  have hr:=rBig (r:=((Utf8.decode s pos).1:Int)) (by omega)
  refine⟨?_,hr.1,hr.2⟩
  rw [Bool.eq_false_iff]
  intro e
  exact ha (lxW_low e)
theorem tw_stop (p:UInt8→Bool) (s:ByteArray) (n:Nat) (hn:n≤s.size) (h1:∀j c,j<n→s.data.toList[j]?=some c→p c=true) (h2:∀c,s.data.toList[n]?=some c→p c=false):s.data.toList.takeWhile p=s.data.toList.take n:=by
 have hl:s.data.toList.length=s.size:=rfl
 rw [←hl] at hn
 clear hl
 revert n
 generalize s.data.toList=l
 induction l with
 |nil=>intro n hn _ _;simp
 |cons c r ih=>
  intro n hn h1 h2
  cases n with
  |zero=>rw [List.takeWhile_cons,if_neg (by rw [h2 c rfl];simp)];rfl
  |succ n=>
   rw [List.takeWhile_cons,if_pos (h1 0 c (by omega) rfl),List.take_succ_cons,ih n (by simpa using hn) (fun j d hj hd=>h1 (j+1) d (by omega) (by simpa using hd)) (fun d hd=>h2 d (by simpa using hd))]
theorem at_list (s:ByteArray) (j:Nat) (h:j<s.size):s.data.toList[j]?=some (s[j]'h):=by
 rw [Array.getElem?_toList]
 exact Array.getElem?_eq_getElem h
set_option maxRecDepth 100000 in
set_option maxHeartbeats 1000000 in
theorem word_any (s:ByteArray) (hs:s.size≤140737488355328) (w:World) :
  Calls Tryz.prog 72 #[.string s] w fun e w'=>e=.returned (.string (bA (s.data.toList.takeWhile lxW)))∧Below w.heap.size w w':=by
 obtain⟨R,hR⟩:∃R,bA (s.data.toList.takeWhile lxW)=R:=⟨_,rfl⟩
 have HR:=hZ hR
 rw [hR]
 clear hR
 obtain⟨k,hk⟩:∃k,w.heap.size=k:=⟨_,rfl⟩
 have HK:=hZ hk
 go_enter Tryz.func72,Tryz.ntmps72
 go_wp2_with fail
 go_step3
 go_wp2_with fail
 go_step3
 go_wp2_with fail
 have HS:Hid (Below w.heap.size w (w.iter s 0)∧(w.iter s 0).heap[k]?=some (.stringIter s 0)):=hZ (by
  refine⟨(Below.refl _ _).alloc (Nat.le_refl _) _,?_⟩
  rw [←uZ HK]
  exact World.iter_heap w s 0)
 clear hk
 go_loopw [3] (fun x wr=>∃(pos:Nat),x=.int .i64 (s.size:Int)∧pos≤s.size∧Hid ((∀j c,j<pos→s.data.toList[j]?=some c→lxW c=true)∧Below w.heap.size w wr∧wr.heap[k]?=some (.stringIter s pos))) (fun _ wr=>s.size - wr.iterPos k)
 case atStart=>exact⟨0,rfl,Nat.zero_le _,hZ ⟨fun j c h=>by omega,(uZ HS).1,(uZ HS).2⟩⟩
 case round=>
  clear HS
  obtain⟨pos,rfl,hps,HX⟩:=hrel
  by_cases hp:pos<s.size
  ·have hnx:∀ty,(Instr.next (.pointer (some ⟨k,0,none⟩)) true ty).run Tryz.prog wr=_:=fun ty=>Lib.run_next_any_at wr k s pos ty (uZ HX).2.2 hp
   have hru:=rune_w s pos hp
   obtain⟨r,hr⟩:∃r,(Utf8.decode s pos).1=r:=⟨_,rfl⟩
   obtain⟨n,hn⟩:∃n,(Utf8.decode s pos).2=n:=⟨_,rfl⟩
   rw [hr,hn] at hnx
   have hWn:=Lib.below_iterAt (uZ HX).2.1 (show w.heap.size≤k by have:=uZ HK;omega) s (pos+n)
   have hin:=Lib.iterAt_heap wr k s pos (pos+n) (uZ HX).2.2
   obtain⟨wn,hwn⟩:∃wn,wr.iterAt k s (pos+n)=wn:=⟨_,rfl⟩
   rw [hwn] at hnx hWn hin
   have HIP:Hid (wr.iterPos k=pos):=hZ (by unfold World.iterPos;rw [(uZ HX).2.2])
   have CL:=hZ (isLetter_any (r:Int) wn)
   have CD:=hZ (isDigit_any (r:Int) wn)
   have HP:=hZ hp
   have hrle:(r:Int)≤2147483647:=by have:=decode_le s pos;omega
   rcases hru with ⟨h1,h2⟩|⟨h1,h2,h3⟩
   ·have hrn:r=(s[pos]'hp).toNat:=by rw [←hr,h2]
    obtain rfl:n=1:=by rw [←hn,h2]
    have HN:Hid ((∀j c,j<pos+1→s.data.toList[j]?=some c→lxW c=true)∧Below w.heap.size w wn∧wn.heap[k]?=some (.stringIter s (pos+1))):=hZ ⟨fun j c hj hc=>by
     rcases Nat.lt_or_ge j pos with g|g
     ·exact(uZ HX).1 j c g hc
     ·obtain rfl:j=pos:=by omega
      rw [at_list s j hp] at hc
      cases hc
      exact h1,hWn,hin⟩
    have hmeas:Hid (s.size - wn.iterPos k<s.size - wr.iterPos k):=hZ (by
     rw [uZ HIP,show wn.iterPos k=pos+1 from by unfold World.iterPos;rw [hin]]
     omega)
    cases hL:rLet (r:Int) with
    |true=>
     rw [hL] at CL
     clear hL CD hr hn hwn hWn hin h1 h2 hrn HX
     go_wp2_with fail
     refine(uZ CL).mono ?_
     rintro e u ⟨rfl,rfl⟩
     go_wp2_with fail
     go_roundw
     case rel=>exact⟨pos+1,rfl,uZ HP,HN⟩
     case measure=>exact uZ hmeas
    |false=>
     have hD:rDig (r:Int)=true:=by
      rw [hrn,lxDig_r]
      rw [hrn,lxLet_r] at hL
      unfold lxW at h1
      rw [hL] at h1
      simpa using h1
     rw [hL] at CL
     rw [hD] at CD
     clear hL hD hr hn hwn hWn hin h1 h2 hrn HX
     go_wp2_with fail
     refine(uZ CL).mono ?_
     rintro e u ⟨rfl,rfl⟩
     go_wp2_with fail
     refine(uZ CD).mono ?_
     rintro e u ⟨rfl,rfl⟩
     go_wp2_with fail
     go_roundw
     case rel=>exact⟨pos+1,rfl,uZ HP,HN⟩
     case measure=>exact uZ hmeas
   ·have HE:Hid (s.extract 0 pos=R∧Below w.heap.size w wn):=hZ (by
     refine⟨?_,hWn⟩
     rw [←uZ HR,ext_take,tw_stop lxW s pos hps (uZ HX).1 (fun c hc=>by
      rw [at_list s pos hp] at hc
      cases hc
      exact h1)])
    rw [hr] at h2 h3
    rw [h2] at CL
    rw [h3] at CD
    clear hr hn hwn hWn hin h1 h2 h3 HX
    go_wp2_with fail
    refine(uZ CL).mono ?_
    rintro e u ⟨rfl,rfl⟩
    go_wp2_with fail
    refine(uZ CD).mono ?_
    rintro e u ⟨rfl,rfl⟩
    go_wp2_with fail
    try rw [Exit.noGoto_ret]
    go_ret
    exact⟨by rw [(uZ HE).1];rfl,(uZ HE).2⟩
  ·have e:pos=s.size:=by omega
   have hnx:∀ty,(Instr.next (.pointer (some ⟨k,0,none⟩)) true ty).run Tryz.prog wr=_:=fun ty=>Lib.run_next_end_at wr k s pos ty (uZ HX).2.2 hp
   have HE:Hid (s=R∧Below w.heap.size w wr):=hZ (by
    refine⟨?_,(uZ HX).2.1⟩
    refine(bA_self s).symm.trans ?_
    rw [←uZ HR,tw_stop lxW s s.size (Nat.le_refl _) (fun j c hj hc=>(uZ HX).1 j c (by omega) hc) (fun c hc=>by
     rw [List.getElem?_eq_none (show s.data.toList.length≤s.size from Nat.le_refl _)] at hc
     cases hc),show s.data.toList.take s.size=s.data.toList from List.take_of_length_le (Nat.le_refl _)])
   clear e HX hp hps
   go_wp2_with fail
   try rw [Exit.noGoto_ret]
   go_ret
   exact⟨by rw [←(uZ HE).1];rfl,(uZ HE).2⟩
theorem head_list (s:ByteArray) (h:0<s.size):∃r,s.data.toList=(s[0]'h) :: r:=by
 have:=at_list s 0 h
 cases hl:s.data.toList with
 |nil=>rw [hl] at this;cases this
 |cons c r=>
  rw [hl] at this
  simp at this
  exact⟨r,by rw [this]⟩
theorem len_list (s:ByteArray):s.data.toList.length=s.size:=rfl
def hx (n:Nat):UInt8:=if n<10 then UInt8.ofNat (48+n) else UInt8.ofNat (87+n)
def hexB:ByteArray:=⟨#[48,49,50,51,52,53,54,55,56,57,97,98,99,100,101,102]⟩
section
variable {P : Program} {ops : Array Oper} {Q : Exit → Act → World → Prop} {md : Region.Mode} {S : World → Prop} {z : Nat}
def Till (P:Program) (md:Region.Mode) (ops:Array Oper) (Q:Exit→Act→World→Prop) (S:World→Prop) (z:Nat):Nat→Array Bool→Act→World→Prop
 |0,listed,a,w=>Region.ready md ops listed=[]∧Q .normal a w
 |f+1,listed,a,w=>(Region.ready md ops listed=[]→Q .normal a w)∧∀i∈Region.ready md ops listed,wpOp P ops Q i (fun a' w'=>(i=z∨S w')∧Till P md ops Q S z f (listed.setIfInBounds i true) a' w') a w
theorem Till.any:∀(f:Nat) (listed:Array Bool) (a:Act) (w:World),Till P md ops Q S z f listed a w→wpAny P md ops Q f listed a w
 |0,_,_,_,h=>h
 |f+1,_,_,_,h=>⟨h.1,fun i hi=>wpOp_mono (fun a' w' h'=>Till.any f _ a' w' h'.2) (h.2 i hi)⟩
theorem Till.first {i:Nat} {oi oz:Oper} {v:Value} (hi:ops[i]?=some oi) (hz:ops[z]?=some oz) (hwait:∃e∈oz.after,Region.binds md e=true∧e.on=i)
  (hsel:∀(j:Nat) (o:Oper) cs b,ops[j]?=some o→o.op≠.select cs b) (hQ:∀c a w,Q (.panic c) (a.put oi.dst v) w→Q (.panic c) a w) :
  ∀(f:Nat) (listed:Array Bool) (a:Act) (w:World),
   (∀j oj,ops[j]?=some oj→j≠i→listed.getD j true=false→(∀e∈oj.after,Region.binds md e=true→e.on≠i)→oi.apart ops oj=true) →
   i∈Region.ready md ops listed→YieldsIf P ops S oi v a→S w →
   Till P md ops Q S z f (listed.setIfInBounds i true) (a.put oi.dst v) w→Till P md ops Q S z (f+1) listed a w:=by
 intro f
 induction f with
 |zero=>
  intro listed a w _ hr hy hS H
  refine⟨fun h=>(by rw [h] at hr;cases hr),fun j hj=>?_⟩
  by_cases e:j=i
  ·rw [e]
   exact hy.wpOp hi hS ⟨Or.inr hS,H⟩
  ·exact absurd (ready_mono hj e) (by rw [H.1];simp)
 |succ f ih=>
  intro listed a w hfree hr hy hS H
  refine⟨fun h=>(by rw [h] at hr;cases hr),fun j hj=>?_⟩
  by_cases e:j=i
  ·rw [e]
   exact hy.wpOp hi hS ⟨Or.inr hS,H⟩
  ·obtain⟨hun,oj,hoj,hall⟩:=mem_ready.1 hj
   have hi0:=(mem_ready.1 hr).1
   -- nobody who may come up now waits for number i
   have hnot:∀x∈oj.after,Region.binds md x=true→x.on≠i:=fun x hx hb he=>by
    have h1:=hall x hx hb
    rw [he] at h1
    rcases Nat.lt_or_ge i listed.size with hl|hl
    ·simp [hl] at hi0 h1
     rw [hi0] at h1
     cases h1
    ·simp [Array.getElem?_eq_none hl] at h1
   have hjz:j≠z:=fun he=>by
    obtain⟨x,hx,hb,hon⟩:=hwait
    rw [he] at hoj
    rw [hoj] at hz
    cases hz
    exact hnot x hx hb hon
   have h2:=wpOp_putIf hoj (hfree j oj hoj e hun hnot) (fun cs b=>hsel i oi cs b hi) (fun cs b=>hsel j oj cs b hoj) hQ hy (H.2 j (ready_mono hj e))
   refine wpOp_mono (fun a' w' h3=>?_) h2
   obtain⟨hy',hS',hT⟩:=h3
   have hSw:S w':=hS'.resolve_left hjz
   refine⟨Or.inr hSw,ih (listed.setIfInBounds j true) a' w' (fun k ok hk hki hu hno=>hfree k ok hk hki ?_ hno) (ready_mono hr (Ne.symm e)) hy' hSw ?_⟩
   ·by_cases hjk:j=k
    ·rw [←hjk];exact hun
    ·rw [getD_set_ne true hjk] at hu;exact hu
   ·rw [Array.setIfInBounds_comm _ _ e]
    exact hT
theorem till_take {f:Nat} {listed:Array Bool} {a:Act} {w:World} (i:Nat) {oi oz:Oper} {v:Value} (d:Option Tmp) (hi:ops[i]?=some oi) (hd:oi.dst=d) (hz:ops[z]?=some oz) (hwait:(oz.after.any fun e=>Region.binds md e && e.on == i)=true)
  (hs:Region.noSelect ops=true) (hf:Region.free md ops listed i=true) (hr:(Region.ready md ops listed).contains i=true)
  (hQ:∀c a w,Q (.panic c) (a.put d v) w→Q (.panic c) a w) (hy:YieldsIf P ops S oi v a) (hS:S w)
  (h:Till P md ops Q S z f (listed.setIfInBounds i true) (a.put d v) w):Till P md ops Q S z (f+1) listed a w:=by
 subst hd
 refine Till.first hi hz ?_ (Region.noSelect_spec hs) hQ f listed a w (Region.free_spec hi hf) (by simpa using hr) hy hS h
 rw [Array.any_eq_true] at hwait
 obtain⟨k,hk,hx⟩:=hwait
 rw [Bool.and_eq_true,beq_iff_eq] at hx
 exact⟨_,Array.getElem_mem hk,hx.1,hx.2⟩
theorem till_one {f:Nat} {listed:Array Bool} {a:Act} {w:World} (i:Nat) {o:Oper} (hr:Region.ready md ops listed=[i]) (ho:ops[i]?=some o)
  (h:∀K':Act→World→Prop,Shut (∀a w,(i=z∨S w)→Till P md ops Q S z f (listed.setIfInBounds i true) a w→K' a w)→if Region.wanted o (yielded ops a.tmps)=true then Oper.wp P o a w K' Q else K' (a.put o.dst undef) w) :
  Till P md ops Q S z (f+1) listed a w:=by
 refine⟨fun e=>(by rw [e] at hr;cases hr),fun j hj=>?_⟩
 rw [hr,List.mem_singleton] at hj
 subst hj
 exact wpOp_step ho (fun K' hK=>h K' (fun a w hS hT=>hK a w ⟨hS,hT⟩))
theorem till_two {f:Nat} {listed:Array Bool} {a:Act} {w:World} (i j:Nat) {oi oj:Oper} (hr:Region.ready md ops listed=[i,j]) (hi:ops[i]?=some oi) (hj:ops[j]?=some oj)
  (h1:∀K':Act→World→Prop,Shut (∀a w,(i=z∨S w)→Till P md ops Q S z f (listed.setIfInBounds i true) a w→K' a w)→if Region.wanted oi (yielded ops a.tmps)=true then Oper.wp P oi a w K' Q else K' (a.put oi.dst undef) w)
  (h2:∀K':Act→World→Prop,Shut (∀a w,(j=z∨S w)→Till P md ops Q S z f (listed.setIfInBounds j true) a w→K' a w)→if Region.wanted oj (yielded ops a.tmps)=true then Oper.wp P oj a w K' Q else K' (a.put oj.dst undef) w) :
  Till P md ops Q S z (f+1) listed a w:=by
 refine⟨fun e=>(by rw [e] at hr;cases hr),fun k hk=>?_⟩
 rw [hr,List.mem_cons,List.mem_singleton] at hk
 rcases hk with e|e
 ·rw [e]
  exact wpOp_step hi (fun K' hK=>h1 K' (fun a w hS hT=>hK a w ⟨hS,hT⟩))
 ·rw [e]
  exact wpOp_step hj (fun K' hK=>h2 K' (fun a w hS hT=>hK a w ⟨hS,hT⟩))
theorem till_done {listed:Array Bool} {a:Act} {w:World} (hr:Region.ready md ops listed=[]) (h:Q .normal a w):∀f,Till P md ops Q S z f listed a w
 |0=>⟨hr,h⟩
 |_+1=>⟨fun _=>h,by rw [hr];simp⟩
theorem till_begin {id:Nat} {a:Act} {w:World} (z:Nat) (hm:P.follows .mixedOrders=true) (h:Till P .any ops Q S z ops.size (Array.replicate ops.size false) a w.drew):(Code.region id ops true).wp P Q a w:=
 wp_region_any hm (Till.any _ _ _ _ h)
end
theorem own_later {w w':World} {base:Nat} {e:TypeId} {size:Nat} {v:Value} {n:Nat} {xs:List Value} (h:w.ownsRow base e size v n xs) (hb:∀b,b<w.heap.size→v.ownBlock=some b→w'.heap[b]?=w.heap[b]?):w'.ownsRow base e size v n xs:=by
 refine⟨h.1,?_⟩
 rcases h.2 with hn|⟨g,cap,cur,rfl,hbs,hg,rest⟩
 ·exact .inl hn
 ·exact .inr ⟨g,cap,cur,rfl,hbs,(hb g (Array.getElem?_eq_some_iff.1 hg).1 rfl).trans hg,rest⟩
theorem slice_form {w:World} {base:Nat} {e:TypeId} {size:Nat} {v:Value} {n:Nat} {xs:List Value} (h:w.ownsRow base e size v n xs):∃ao cap,v=.slice ao n cap∧(ao=none→n=0∧cap=0)∧n≤cap∧cap≤maxLen∧∀a,ao=some a→v.ownBlock=some a.block∧a=⟨a.block,0,none⟩:=by
 rcases h.2 with ⟨rfl,rfl⟩|⟨g,cap,cur,rfl,hb,hg,h1,h2,_⟩
 ·exact⟨none,0,rfl,fun _=>⟨rfl,rfl⟩,Nat.le_refl _,by unfold maxLen;omega,fun a h=>by cases h⟩
 ·exact⟨some ⟨g,0,none⟩,cap,rfl,(fun e=>by cases e),h1,h2,fun a h=>by cases h;exact⟨rfl,rfl⟩⟩
theorem wpl_oneG {P:Program} {w:World} {ops:Array Oper} {rest:List Oper} {o:Oper} {a:Act} {Q:Exit→Act→World→Prop} (hgd:o.guard=none) (sl x:Operand) (T e:TypeId) (i0:TypeInfo) (z:Value) (size bytes:Nat)
  (hu:P.underlying T=some (.slice e)) (hi:P.info? e=some i0) (hz:i0.zero=some z) (hs1:i0.size=size) (hby:i0.bytes=bytes) (hzs:z.cells.size=size) (hsz:0<size)
  (ho:o.op=.call { callee:=.builtin .append,args:=#[sl,x],argTypes:=#[T,T] })
  (base n:Nat) (v:Value) (xs:List Value) (A:List Value) (hA:A.length=size) (h1:∀u∈A,u.oneCell'=true) (hs:a.eval sl=v) (hown:w.ownsRow base e size v n xs)
  (hx:a.eval x=.slice (some ⟨w.heap.size,0,none⟩) 1 1) (hn:n+1≤maxLen) (hbytes:(n+1) * bytes≤140737488355328) (hbase:base≤w.heap.size)
  (h:∀v' w',Hid (w'.ownsRow base e size v' (n+1) (xs++A)∧w.grownBy w' v.ownBlock∧∀b,v'.ownBlock=some b→v.ownBlock=some b∨w.heap.size≤b)→wpList P ops Q rest (a.put o.dst v') w') :
  wpList P ops Q (o :: rest) a (w.alloc (.cells A.toArray e)):=by
 refine wpList_plain hgd fun K hK=>?_
 have hb:Below w.heap.size w (w.alloc (.cells A.toArray e)):=(Below.refl _ _).alloc (Nat.le_refl _) _
 have hnew:=heap_alloc_new w (.cells A.toArray e)
 have hz1:(w.alloc (.cells A.toArray e)).heap.size=w.heap.size+1:=by simp
 obtain⟨v',w',hrun,r1,r2,_,r4⟩:=run_append_own_at (P:=P) (w.alloc (.cells A.toArray e)) base T o.type e i0 z size bytes hu hi hz hs1 hby hzs hsz v n xs (hown.alloc _) ⟨w.heap.size,0,none⟩ 1 1 A (by omega) (fun j u hj=>World.news_of_block hnew j u (by simpa using hj)) h1 hn hbytes (by omega)
 unfold Oper.wp
 simp only [execOp,ho,resolve,invoke,builtin,Sem.run_bind,Sem.run_pure,Result.andThen_ok,List.map_toArray,List.map_cons,List.map_nil,hs,hx,hrun]
 refine hK _ _ (h v' w' ⟨r1,⟨r2.os,r2.tape,r2.output,by have:=r2.size;omega,fun k hk hne=>(r2.block k (by omega) hne).trans (heap_alloc_old w _ hk)⟩,fun b hb'=>?_⟩)
 rcases r4 with e'|e'
 ·exact Or.inl (by rw [←e'];exact hb')
 ·rw [hb'] at e'
  exact Or.inr (by rw [Option.some.inj e',hz1];omega)
theorem byte_conv {w:World} {base n:Nat} {v:Value} {zs:List Int} (h:w.ownsRow base 5 1 v (n+1) (zs.map (Value.int .u8))) :
  ∃b cap,v=.slice (some ⟨b,0,none⟩) (n+1) cap∧Sem.run Tryz.prog (convert 77 9 (.slice (some ⟨b,0,none⟩) (n+1) cap)) w=.ok (.string (strOfNums zs)) w:=by
 have hl:zs.length=n+1:=by have:=h.1;simpa using this
 rcases h.2 with ⟨_,e⟩|⟨b,cap,cur,rfl,_⟩
 ·omega
 ·refine⟨b,cap,rfl,?_⟩
  refine run_convert_bytes_arg (P:=Tryz.prog) w 77 5 Tryz.underlying77 Tryz.underlying5 b 0 (n+1) cap zs hl (fun j hj=>?_) 9 Tryz.underlying9
  have hc:=h.cells (g:=b) rfl j (.int .u8 (zs.getD j 0)) (by
   rw [List.getElem?_map,List.getD_eq_getElem?_getD,List.getElem?_eq_getElem (by omega)]
   rfl)
  have ha:(⟨b,0,none⟩:Addr).add j=⟨b,0+j,none⟩:=by unfold Addr.add;split <;> simp_all
  rw [ha] at hc
  exact hc
theorem wpList_store_arr {P:Program} {w:World} {ops:Array Oper} {rest:List Oper} {o:Oper} {a:Act} {Q:Exit→Act→World→Prop} (hgd:o.guard=none) (T:TypeId) (x y:Operand) (ho:o.op=.store T x y)
  (g:Nat) (c c':Array Value) (hx:a.eval x=.pointer (some ⟨g,0,none⟩)) (hy:a.eval y=.agg c') (hb:w.heap[g]?=some (.cells c T (0,0))) (hs:c.size=c'.size) (hi:(P.info? T).map (·.size)=some c'.size) (h1:c'.all (·.oneCell')=true)
  (h:wpList P ops Q rest (a.put o.dst undef) (w.setRow g c')):wpList P ops Q (o :: rest) a w:=by
 refine wpList_plain hgd fun K hK=>?_
 have hv:=run_storeVar_row (P:=P) w g T T c c' hb hi hs h1
 have hrun:(Instr.storeAt T (.pointer (some ⟨g,0,none⟩)) (.agg c')).run P w=.ok () (w.setRow g c'):=by
  simp only [Instr.storeAt,Instr.sureAddr,Sem.run_bind,Sem.run_pure,Result.andThen]
  exact hv
 unfold Oper.wp
 simp [execOp,ho,hx,hy,hrun,Result.andThen]
 exact hK _ _ h
structure Put (w w':World) (g:Nat) (c:Array Value) (T:TypeId):Prop where
 at':w'.heap[g]?=some (.cells c T (0,0))
 size:w'.heap.size=w.heap.size
 other:∀k,k≠g→w'.heap[k]?=w.heap[k]?
 below:∀(B:Nat) (a:World),Below B a w→B≤g→Below B a w'
theorem Put.mk' {w:World} {g:Nat} {c c':Array Value} {T:TypeId} (hb:w.heap[g]?=some (.cells c T (0,0))):Put w (w.setRow g c') g c' T:=
 ⟨setRow_heap w g c c' T _ hb,by simp,fun k hk=>setRow_other w g k c' hk,fun _ _ h hB=>below_setRow h hB c'⟩
theorem wpList_put_arr {P:Program} {w:World} {ops:Array Oper} {rest:List Oper} {o:Oper} {a:Act} {Q:Exit→Act→World→Prop} (hgd:o.guard=none) (T:TypeId) (x y:Operand) (ho:o.op=.store T x y)
  (g:Nat) (c c':Array Value) (hx:a.eval x=.pointer (some ⟨g,0,none⟩)) (hy:a.eval y=.agg c') (hb:w.heap[g]?=some (.cells c T (0,0))) (hs:c.size=c'.size) (hi:(P.info? T).map (·.size)=some c'.size) (h1:c'.all (·.oneCell')=true)
  (h:∀w',Hid (Put w w' g c' T)→wpList P ops Q rest (a.put o.dst undef) w'):wpList P ops Q (o :: rest) a w:=
 wpList_store_arr hgd T x y ho g c c' hx hy hb hs hi h1 (h _ (Put.mk' hb))
end Go.Proofs.YtilhlmmcdfoaoaaGreatDoor
