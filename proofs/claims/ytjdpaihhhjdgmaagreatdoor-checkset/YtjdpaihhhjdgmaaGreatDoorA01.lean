/-
  The walks of lex's isLetter, isDigit, isKeyword, word, IsName; conditions: a text of at most 2^47 bytes.
  Layer 19 (check): the scope in memory, what read, inLoop, end say; conditions: the names' sizes.
-/
import Derived.Test.YtjdpaihhhjdgmaaGreatDoorRows
import Derived.Test.YtjdpaihhhjdgmaaGreatDoorA00
import Derived.WalkSpells
import Derived.WalkSmall
import Derived.BigQuiet
import Derived.Below
import Derived.Laws.RangeAny
import Derived.Lib.OthersKept
import Derived.Deep.QuietTactic
import Derived.LoopTactic
import Derived.Deep.OwnRows
import Derived.Deep.CutBlock
set_option linter.unusedVariables false
set_option linter.unusedSimpArgs false
set_option maxRecDepth 100000
set_option maxHeartbeats 8000000
namespace Go.Proofs.YtjdpaihhhjdgmaaGreatDoor
open Go.RowKit
set_option linter.unusedVariables false
set_option linter.unusedSimpArgs false
def rDig (c:Int):Bool:=decide (48≤c∧c≤57)
def rLet (c:Int):Bool:=decide (97≤c∧c≤122∨65≤c∧c≤90∨c=95)
def bA (l:List UInt8):ByteArray:=⟨l.toArray⟩
theorem bA_data (l:List UInt8):(bA l).data.toList=l:=by simp [bA]
theorem bA_list (l:List UInt8):(bA l).toList=l:=by rw [ByteArray.toList_eq];exact bA_data l
theorem bA_size (l:List UInt8):(bA l).size=l.length:=by simp [bA,ByteArray.size]
theorem bA_eq (s:ByteArray) (l:List UInt8) (h:s.data.toList=l):s=bA l:=by
 apply ByteArray.ext
 rw [←h]
 simp [bA]
theorem bA_self (s:ByteArray):bA s.data.toList=s:=(bA_eq s _ rfl).symm
theorem ext_data (s:ByteArray) (a b:Nat):(s.extract a b).data.toList=(s.data.toList.take b).drop a:=by
 rw [ByteArray.data_extract,Array.toList_extract,List.extract_eq_take_drop,List.drop_take]
theorem ext_take (s:ByteArray) (b:Nat):s.extract 0 b=bA (s.data.toList.take b):=bA_eq _ _ (by rw [ext_data];rfl)
theorem ext_drop (s:ByteArray) (a:Nat):s.extract a s.size=bA (s.data.toList.drop a):=bA_eq _ _ (by rw [ext_data,show s.data.toList.take s.size=s.data.toList from List.take_of_length_le (Nat.le_refl _)])
theorem rLet_cases (c:Int):(rLet c=false∧¬97≤c∧¬65≤c∧(c == 95)=false)∨(rLet c=true∧¬97≤c∧65≤c∧c≤90)∨(rLet c=true∧¬97≤c∧65≤c∧¬c≤90∧(c == 95)=true)∨(rLet c=false∧¬97≤c∧65≤c∧¬c≤90∧(c == 95)=false)∨(rLet c=true∧97≤c∧c≤122)∨(rLet c=false∧97≤c∧¬c≤122∧65≤c∧¬c≤90∧(c == 95)=false):=by
 simp only [rLet,decide_eq_true_eq,decide_eq_false_iff_not,beq_iff_eq,beq_eq_false_iff_ne,ne_eq]
 omega
theorem isLetter_any (c:Int) (w:World) :
  Calls Tryz.prog 104 #[.int .i32 c] w fun e w'=>e=.returned (.bool (rLet c))∧w'=w:=by
 rcases rLet_cases c with ⟨hR,h1,h2,h3⟩|⟨hR,h1,h2,h3⟩|⟨hR,h1,h2,h3,h4⟩|⟨hR,h1,h2,h3,h4⟩|⟨hR,h1,h2⟩|⟨hR,h1,h2,h3,h4,h5⟩
 all_goals
  rw [hR]
  clear hR
  go_enter Tryz.func104,Tryz.ntmps104
  go_wp2_with fail
  go_ret
  exact⟨rfl,rfl⟩
theorem isDigit_any (c:Int) (w:World) :
  Calls Tryz.prog 106 #[.int .i32 c] w fun e w'=>e=.returned (.bool (rDig c))∧w'=w:=by
 by_cases h1:48≤c <;> by_cases h2:c≤57
 all_goals
  have hR:rDig c=decide (48≤c∧c≤57):=rfl
  simp only [h1,h2,decide_true,decide_false,and_self,and_true,and_false,true_and] at hR
  rw [hR]
  clear hR
  go_enter Tryz.func106,Tryz.ntmps106
  go_wp2_with fail
  go_ret
  exact⟨rfl,rfl⟩
theorem lxDig_r (c:UInt8):rDig (c.toNat:Int)=lxDig c:=by unfold rDig lxDig;rw [Bool.eq_iff_iff];simp only [decide_eq_true_eq];omega
theorem lxLet_r (c:UInt8):rLet (c.toNat:Int)=lxLet c:=by unfold rLet lxLet;rw [Bool.eq_iff_iff];simp only [decide_eq_true_eq];omega
theorem lxW_low {c:UInt8} (h:lxW c=true):c.toNat<128:=by
 unfold lxW lxLet lxDig at h
 simp only [Bool.or_eq_true,decide_eq_true_eq] at h
 omega
theorem rBig {r:Int} (h:128≤r):rLet r=false∧rDig r=false:=by
 unfold rLet rDig
 simp only [decide_eq_false_iff_not]
 omega
theorem keyB_or (l:List UInt8):keyB l=((l == [102,110]) ||(l == [101,120,112,111,114,116]) ||(l == [108,101,116]) ||(l == [105,102]) ||(l == [101,108,115,101]) ||(l == [119,104,105,108,101]) ||(l == [114,101,116,117,114,110]) ||(l == [98,114,101,97,107]) ||(l == [99,111,110,116,105,110,117,101]) ||(l == [116,114,117,101]) ||(l == [102,97,108,115,101]) ||(l == [117,110,105,116])):=by
 unfold keyB keyL
 simp only [List.contains_cons,List.contains_nil,Bool.or_false,Bool.or_assoc]
theorem isKey_any (s:ByteArray) (w:World) :
  Calls Tryz.prog 136 #[.string s] w fun e w'=>e=.returned (.bool (keyB s.data.toList))∧w'=w:=by
 rw [←ByteArray.toList_eq]
 obtain⟨R,hR⟩:=eX (keyB s.toList)
 rw [keyB_or] at hR
 rw [keyB_or,hR]
 cases h0:s.toList == [102,110] with
 |true=>
  have hT:R=true:=by rw [←hR];simp [h0]
  rw [hT]
  clear hR hT
  go_enter Tryz.func136,Tryz.ntmps136
  go_wp2_with fail
  go_ret
  exact⟨rfl,rfl⟩
 |false=>
  cases h1:s.toList == [101,120,112,111,114,116] with
  |true=>
   have hT:R=true:=by rw [←hR];simp [h0,h1]
   rw [hT]
   clear hR hT
   go_enter Tryz.func136,Tryz.ntmps136
   go_wp2_with fail
   go_ret
   exact⟨rfl,rfl⟩
  |false=>
   cases h2:s.toList == [108,101,116] with
   |true=>
    have hT:R=true:=by rw [←hR];simp [h0,h1,h2]
    rw [hT]
    clear hR hT
    go_enter Tryz.func136,Tryz.ntmps136
    go_wp2_with fail
    go_ret
    exact⟨rfl,rfl⟩
   |false=>
    cases h3:s.toList == [105,102] with
    |true=>
     have hT:R=true:=by rw [←hR];simp [h0,h1,h2,h3]
     rw [hT]
     clear hR hT
     go_enter Tryz.func136,Tryz.ntmps136
     go_wp2_with fail
     go_ret
     exact⟨rfl,rfl⟩
    |false=>
     cases h4:s.toList == [101,108,115,101] with
     |true=>
      have hT:R=true:=by rw [←hR];simp [h0,h1,h2,h3,h4]
      rw [hT]
      clear hR hT
      go_enter Tryz.func136,Tryz.ntmps136
      go_wp2_with fail
      go_ret
      exact⟨rfl,rfl⟩
     |false=>
      cases h5:s.toList == [119,104,105,108,101] with
      |true=>
       have hT:R=true:=by rw [←hR];simp [h0,h1,h2,h3,h4,h5]
       rw [hT]
       clear hR hT
       go_enter Tryz.func136,Tryz.ntmps136
       go_wp2_with fail
       go_ret
       exact⟨rfl,rfl⟩
      |false=>
       cases h6:s.toList == [114,101,116,117,114,110] with
       |true=>
        have hT:R=true:=by rw [←hR];simp [h0,h1,h2,h3,h4,h5,h6]
        rw [hT]
        clear hR hT
        go_enter Tryz.func136,Tryz.ntmps136
        go_wp2_with fail
        go_ret
        exact⟨rfl,rfl⟩
       |false=>
        cases h7:s.toList == [98,114,101,97,107] with
        |true=>
         have hT:R=true:=by rw [←hR];simp [h0,h1,h2,h3,h4,h5,h6,h7]
         rw [hT]
         clear hR hT
         go_enter Tryz.func136,Tryz.ntmps136
         go_wp2_with fail
         go_ret
         exact⟨rfl,rfl⟩
        |false=>
         cases h8:s.toList == [99,111,110,116,105,110,117,101] with
         |true=>
          have hT:R=true:=by rw [←hR];simp [h0,h1,h2,h3,h4,h5,h6,h7,h8]
          rw [hT]
          clear hR hT
          go_enter Tryz.func136,Tryz.ntmps136
          go_wp2_with fail
          go_ret
          exact⟨rfl,rfl⟩
         |false=>
          cases h9:s.toList == [116,114,117,101] with
          |true=>
           have hT:R=true:=by rw [←hR];simp [h0,h1,h2,h3,h4,h5,h6,h7,h8,h9]
           rw [hT]
           clear hR hT
           go_enter Tryz.func136,Tryz.ntmps136
           go_wp2_with fail
           go_ret
           exact⟨rfl,rfl⟩
          |false=>
           cases h10:s.toList == [102,97,108,115,101] with
           |true=>
            have hT:R=true:=by rw [←hR];simp [h0,h1,h2,h3,h4,h5,h6,h7,h8,h9,h10]
            rw [hT]
            clear hR hT
            go_enter Tryz.func136,Tryz.ntmps136
            go_wp2_with fail
            go_ret
            exact⟨rfl,rfl⟩
           |false=>
            cases h11:s.toList == [117,110,105,116] with
            |true=>
             have hT:R=true:=by rw [←hR];simp [h0,h1,h2,h3,h4,h5,h6,h7,h8,h9,h10,h11]
             rw [hT]
             clear hR hT
             go_enter Tryz.func136,Tryz.ntmps136
             go_wp2_with fail
             go_ret
             exact⟨rfl,rfl⟩
            |false=>
             have hT:R=false:=by rw [←hR];simp [h0,h1,h2,h3,h4,h5,h6,h7,h8,h9,h10,h11]
             rw [hT]
             clear hR hT
             go_enter Tryz.func136,Tryz.ntmps136
             go_wp2_with fail
             go_ret
             exact⟨rfl,rfl⟩
theorem rune_w (s:ByteArray) (pos:Nat) (h:pos<s.size) :
  (lxW (s[pos]'h)=true∧Utf8.decode s pos=((s[pos]'h).toNat,1)) ∨
  (lxW (s[pos]'h)=false∧rLet ((Utf8.decode s pos).1:Int)=false∧rDig ((Utf8.decode s pos).1:Int)=false):=by
 by_cases ha:(s[pos]'h).toNat<128
 ·have hd:=decode_ascii s pos h ha
  cases hw:lxW (s[pos]'h) with
  |true=>exact .inl ⟨rfl,hd⟩
  |false=>
   right
   rw [hd]
   unfold lxW at hw
   rw [Bool.or_eq_false_iff] at hw
   exact⟨rfl,by rw [lxLet_r];exact hw.1,by rw [lxDig_r];exact hw.2⟩
 ·right
  have hb:=(decode_high s pos h (by omega)).1
  have hr:=rBig (r:=((Utf8.decode s pos).1:Int)) (by omega)
  refine⟨?_,hr.1,hr.2⟩
  rw [Bool.eq_false_iff]
  intro e
  exact ha (lxW_low e)
theorem tw_stop (p:UInt8→Bool) (s:ByteArray) (n:Nat) (hn:n≤s.size) (h1:∀j c,j<n→s.data.toList[j]?=some c→p c=true) (h2:∀c,s.data.toList[n]?=some c→p c=false):s.data.toList.takeWhile p=s.data.toList.take n:=by
 have hl:s.data.toList.length=s.size:=rfl
 rw [←hl] at hn
 clear hl
 revert n
 generalize s.data.toList=l
 induction l with
 |nil=>intro n hn _ _;simp
 |cons c r ih=>
  intro n hn h1 h2
  cases n with
  |zero=>rw [List.takeWhile_cons,if_neg (by rw [h2 c rfl];simp)];rfl
  |succ n=>
   rw [List.takeWhile_cons,if_pos (h1 0 c (by omega) rfl),List.take_succ_cons,ih n (by simpa using hn) (fun j d hj hd=>h1 (j+1) d (by omega) (by simpa using hd)) (fun d hd=>h2 d (by simpa using hd))]
theorem at_list (s:ByteArray) (j:Nat) (h:j<s.size):s.data.toList[j]?=some (s[j]'h):=by
 rw [Array.getElem?_toList]
 exact Array.getElem?_eq_getElem h
theorem word_any (s:ByteArray) (hs:s.size≤140737488355328) (w:World) :
  Calls Tryz.prog 135 #[.string s] w fun e w'=>e=.returned (.string (bA (s.data.toList.takeWhile lxW)))∧Below w.heap.size w w':=by
 obtain⟨R,hR⟩:=eX (bA (s.data.toList.takeWhile lxW))
 have HR:=hZ hR
 rw [hR]
 clear hR
 obtain⟨k,hk⟩:=eX (w.heap.size)
 have HK:=hZ hk
 go_enter Tryz.func135,Tryz.ntmps135
 go_wp2_with fail
 go_step3
 go_wp2_with fail
 go_step3
 go_wp2_with fail
 have HS:Hid (Below w.heap.size w (w.iter s 0)∧(w.iter s 0).heap[k]?=some (.stringIter s 0)):=hZ (by
  refine⟨(Below.refl _ _).alloc (Nat.le_refl _) _,?_⟩
  rw [←uZ HK]
  exact World.iter_heap w s 0)
 clear hk
 go_loopw [3] (fun x wr=>∃(pos:Nat),x=.int .i64 (s.size:Int)∧pos≤s.size∧Hid ((∀j c,j<pos→s.data.toList[j]?=some c→lxW c=true)∧Below w.heap.size w wr∧wr.heap[k]?=some (.stringIter s pos))) (fun _ wr=>s.size - wr.iterPos k)
 case atStart=>exact⟨0,rfl,Nat.zero_le _,hZ ⟨fun j c h=>by omega,(uZ HS).1,(uZ HS).2⟩⟩
 case round=>
  clear HS
  obtain⟨pos,rfl,hps,HX⟩:=hrel
  by_cases hp:pos<s.size
  ·have hnx:∀ty,(Instr.next (.pointer (some ⟨k,0,none⟩)) true ty).run Tryz.prog wr=_:=fun ty=>Lib.run_next_any_at wr k s pos ty (uZ HX).2.2 hp
   have hru:=rune_w s pos hp
   obtain⟨r,hr⟩:=eX ((Utf8.decode s pos).1)
   obtain⟨n,hn⟩:=eX ((Utf8.decode s pos).2)
   rw [hr,hn] at hnx
   have hWn:=Lib.below_iterAt (uZ HX).2.1 (show w.heap.size≤k by have:=uZ HK;omega) s (pos+n)
   have hin:=Lib.iterAt_heap wr k s pos (pos+n) (uZ HX).2.2
   obtain⟨wn,hwn⟩:=eX (wr.iterAt k s (pos+n))
   rw [hwn] at hnx hWn hin
   have HIP:Hid (wr.iterPos k=pos):=hZ (by unfold World.iterPos;rw [(uZ HX).2.2])
   have CL:=hZ (isLetter_any (r:Int) wn)
   have CD:=hZ (isDigit_any (r:Int) wn)
   have HP:=hZ hp
   have hrle:(r:Int)≤2147483647:=by have:=decode_le s pos;omega
   rcases hru with ⟨h1,h2⟩|⟨h1,h2,h3⟩
   ·have hrn:r=(s[pos]'hp).toNat:=by rw [←hr,h2]
    obtain rfl:n=1:=by rw [←hn,h2]
    have HN:Hid ((∀j c,j<pos+1→s.data.toList[j]?=some c→lxW c=true)∧Below w.heap.size w wn∧wn.heap[k]?=some (.stringIter s (pos+1))):=hZ ⟨fun j c hj hc=>by
     rcases Nat.lt_or_ge j pos with g|g
     ·exact(uZ HX).1 j c g hc
     ·obtain rfl:j=pos:=by omega
      rw [at_list s j hp] at hc
      cases hc
      exact h1,hWn,hin⟩
    have hmeas:Hid (s.size - wn.iterPos k<s.size - wr.iterPos k):=hZ (by
     rw [uZ HIP,show wn.iterPos k=pos+1 from by unfold World.iterPos;rw [hin]]
     omega)
    cases hL:rLet (r:Int) with
    |true=>
     rw [hL] at CL
     clear hL CD hr hn hwn hWn hin h1 h2 hrn HX
     go_wp2_with fail
     refine(uZ CL).mono ?_
     rintro e u ⟨rfl,rfl⟩
     go_wp2_with fail
     go_roundw
     case rel=>exact⟨pos+1,rfl,uZ HP,HN⟩
     case measure=>exact uZ hmeas
    |false=>
     have hD:rDig (r:Int)=true:=by
      rw [hrn,lxDig_r]
      rw [hrn,lxLet_r] at hL
      unfold lxW at h1
      rw [hL] at h1
      simpa using h1
     rw [hL] at CL
     rw [hD] at CD
     clear hL hD hr hn hwn hWn hin h1 h2 hrn HX
     go_wp2_with fail
     refine(uZ CL).mono ?_
     rintro e u ⟨rfl,rfl⟩
     go_wp2_with fail
     refine(uZ CD).mono ?_
     rintro e u ⟨rfl,rfl⟩
     go_wp2_with fail
     go_roundw
     case rel=>exact⟨pos+1,rfl,uZ HP,HN⟩
     case measure=>exact uZ hmeas
   ·have HE:Hid (s.extract 0 pos=R∧Below w.heap.size w wn):=hZ (by
     refine⟨?_,hWn⟩
     rw [←uZ HR,ext_take,tw_stop lxW s pos hps (uZ HX).1 (fun c hc=>by
      rw [at_list s pos hp] at hc
      cases hc
      exact h1)])
    rw [hr] at h2 h3
    rw [h2] at CL
    rw [h3] at CD
    clear hr hn hwn hWn hin h1 h2 h3 HX
    go_wp2_with fail
    refine(uZ CL).mono ?_
    rintro e u ⟨rfl,rfl⟩
    go_wp2_with fail
    refine(uZ CD).mono ?_
    rintro e u ⟨rfl,rfl⟩
    go_wp2_with fail
    try rw [Exit.noGoto_ret]
    go_ret
    exact⟨by rw [(uZ HE).1];rfl,(uZ HE).2⟩
  ·have e:pos=s.size:=by omega
   have hnx:∀ty,(Instr.next (.pointer (some ⟨k,0,none⟩)) true ty).run Tryz.prog wr=_:=fun ty=>Lib.run_next_end_at wr k s pos ty (uZ HX).2.2 hp
   have HE:Hid (s=R∧Below w.heap.size w wr):=hZ (by
    refine⟨?_,(uZ HX).2.1⟩
    refine(bA_self s).symm.trans ?_
    rw [←uZ HR,tw_stop lxW s s.size (Nat.le_refl _) (fun j c hj hc=>(uZ HX).1 j c (by omega) hc) (fun c hc=>by
     rw [List.getElem?_eq_none (show s.data.toList.length≤s.size from Nat.le_refl _)] at hc
     cases hc),show s.data.toList.take s.size=s.data.toList from List.take_of_length_le (Nat.le_refl _)])
   clear e HX hp hps
   go_wp2_with fail
   try rw [Exit.noGoto_ret]
   go_ret
   exact⟨by rw [←(uZ HE).1];rfl,(uZ HE).2⟩
theorem head_list (s:ByteArray) (h:0<s.size):∃r,s.data.toList=(s[0]'h) :: r:=by
 have:=at_list s 0 h
 cases hl:s.data.toList with
 |nil=>rw [hl] at this;cases this
 |cons c r=>
  rw [hl] at this
  simp at this
  exact⟨r,by rw [this]⟩
theorem len_list (s:ByteArray):s.data.toList.length=s.size:=rfl
theorem size_flt:(Tryz.prog.info? 42).map (·.size)=some 2:=by kernel_rfl
structure ScM (w:World) (lo q b n:Nat) (nv sv:Value) (s:Sco):Prop where
 hq:w.heap[q]?=some (.cells #[.map (some b),nv,sv,.bool s.all,.int .i64 s.loops] 61 (0,0))
 hm:Nms w b n (ixL s.vars 0)
 hnv:w.ownsRow lo 9 1 nv s.vars.length (s.vars.map fun l=>.string (bA l))
 hsv:w.ownsRow lo 4 1 sv s.set.length (s.set.map Value.bool)
 len:s.set.length=s.vars.length
 few:s.vars.length≤n∧n≤1099511627776
 hlo:lo≤q∧lo≤b∧lo≤w.heap.size
theorem retF {P:Program} {fn:Func} {p:Tmp} {T:TypeId} (h:fn.results=#[.cell p T]) (tmps:Array Value) (w:World) (g:Nat) (c:Array Value) (d:TypeDesc) (t:TypeId)
  (hp:tmps.getD p undef=.pointer (some ⟨g,0,none⟩)) (hb:w.heap[g]?=some (.cells c t (0,0))) (hu:P.underlying T=some d) (hd:(match d with|.struct _|.array _ _=>true|_=>false)=true) (hi:(P.info? T).map (·.size)=some c.size) :
  (results fn tmps).run P w=.ok (.agg c) w:=by
 have hl:=run_loadVar_row (P:=P) w g t T c (0,0) _ hb hu hd hi
 have hp':tmps[p]?.getD undef=.pointer (some ⟨g,0,none⟩):=by simpa using hp
 simp [results,h,hp',asAddr,Result.andThen,hl]
theorem rtF {fn : Func} {R : Ending → World → Prop} {a : Act} {w : World} {p : Tmp} {g : Nat} {c d : Value} (h : fn.results = #[.cell p 42]) (hp : a.tmps.getD p undef = .pointer (some ⟨g, 0, none⟩)) (hb : w.heap[g]? = some (.cells #[c, d] 42 (0, 0))) (hd : a.defers = []) (hR : R (.returned (.agg #[c, d])) w) : bodyPost Tryz.prog fn R .ret a w := bodyPost_ret (retF (p := p) (T := 42) h _ _ _ _ _ _ hp hb Tryz.underlying42 rfl size_flt) hd hR
theorem bdrew {B:Nat} {w w':World} (h:Below B w w') (z:Nat):Below B w (w'.drewN z):=⟨h.os,h.tape,h.output,h.size,h.block⟩
theorem own_get {w:World} {base n:Nat} {e:TypeId} {v u:Value} {xs:List Value} (h:w.ownsRow base e 1 v n xs) {j:Nat} (hx:xs[j]?=some u):∃g cap,v=.slice (some ⟨g,0,none⟩) n cap∧w.cell? ⟨g,j,none⟩=some u∧j<n∧n≤cap:=by
 have hl:=h.1
 have hj:j<n:=by have:=(List.getElem?_eq_some_iff.1 hx).1;omega
 rcases h.2 with ⟨_,e0⟩|⟨g,cap,cur,e1,hbg,hg,hnc,hcm,hsz,hpre⟩
 ·omega
 ·refine⟨g,cap,e1,?_,hj,hnc⟩
  rw [cell_of_row w g _ _ _ (0,0) hg]
  rw [←hpre,List.getElem?_take_of_lt (by omega)] at hx
  simpa using hx
theorem ltR {w:World} {q:Nat} {o:Obj} (h:w.heap[q]?=some o):q<w.heap.size:=(Array.getElem?_eq_some_iff.1 h).1
theorem five_at {w:World} {q:Nat} {a b c d e:Value} {T:TypeId} (h:w.heap[q]?=some (.cells #[a,b,c,d,e] T (0,0))):w.cell? ⟨q,0,none⟩=some a∧w.cell? ⟨q,1,none⟩=some b∧w.cell? ⟨q,2,none⟩=some c∧w.cell? ⟨q,3,none⟩=some d∧w.cell? ⟨q,4,none⟩=some e:=by
 refine⟨?_,?_,?_,?_,?_⟩
 all_goals (rw [cell_of_row w q _ _ _ (0,0) h];rfl)
theorem ScM.few1 {w:World} {lo q b n:Nat} {nv sv:Value} {s:Sco} (h:ScM w lo q b n nv sv s):s.vars.length≤1099511627776:=Nat.le_trans h.few.1 h.few.2
theorem ScM.below {w w':World} {lo q b n:Nat} {nv sv:Value} {s:Sco} (h:ScM w lo q b n nv sv s) (hb:Below w.heap.size w w'):ScM w' lo q b n nv sv s where
 hq:=(hb.block q (ltR h.hq)).trans h.hq
 hm:=h.hm.later (hb.block b h.hm.lt)
 hnv:=h.hnv.kept (row:=none) ⟨hb.os,hb.tape,hb.output,hb.size,fun k hk _=>hb.block k hk⟩ (Classical.em _)
 hsv:=h.hsv.kept (row:=none) ⟨hb.os,hb.tape,hb.output,hb.size,fun k hk _=>hb.block k hk⟩ (Classical.em _)
 len:=h.len
 few:=h.few
 hlo:=⟨h.hlo.1,h.hlo.2.1,Nat.le_trans h.hlo.2.2 hb.size⟩
theorem wrong_any {k vk vn p:Int} {t vs:ByteArray} {al ak a:Option Addr} {ll cl lk ck m cc:Nat} {f:Bool} (c:Int) (w:World):Calls Tryz.prog 24 #[.agg #[.int .i64 k,.string t,.int .i64 vk,.int .i64 vn,.string vs,.slice al ll cl,.slice ak lk ck,.bool f,.slice a m cc,.int .i64 p],.int .i64 c] w fun e w'=>e=.returned (.agg #[.int .i64 p,.int .i64 c])∧Below w.heap.size w w':=by
 have hb:=(((Below.refl w.heap.size w).alloc (Nat.le_refl _) (.cells #[.int .i64 k,.string t,.int .i64 vk,.int .i64 vn,.string vs,.slice al ll cl,.slice ak lk ck,.bool f,.slice a m cc,.int .i64 p] 28)).alloc (by simp) (.cells #[.int .i64 p,.int .i64 c] 42))
 have hc:=heap_alloc_new (w.alloc (.cells #[.int .i64 k,.string t,.int .i64 vk,.int .i64 vn,.string vs,.slice al ll cl,.slice ak lk ck,.bool f,.slice a m cc,.int .i64 p] 28)) (.cells #[.int .i64 p,.int .i64 c] 42)
 have hz:(w.alloc (.cells #[.int .i64 k,.string t,.int .i64 vk,.int .i64 vn,.string vs,.slice al ll cl,.slice ak lk ck,.bool f,.slice a m cc,.int .i64 p] 28)).heap.size=w.heap.size+1:=by simp
 rw [hz] at hc
 have HE:=hZ (And.intro hc hb)
 clear hc hb hz
 go_enter Tryz.func24,Tryz.ntmps24
 go_wp2_with fail
 exact rtF (p:=4) rfl rfl (uZ HE).1 rfl ⟨rfl,(uZ HE).2⟩
theorem boxes {k vk vn p:Int} {t vs:ByteArray} {al ak a:Option Addr} {ll cl lk ck m cc:Nat} {f:Bool} (w:World):∃w2,(w.alloc (.cells #[.int .i64 k,.string t,.int .i64 vk,.int .i64 vn,.string vs,.slice al ll cl,.slice ak lk ck,.bool f,.slice a m cc,.int .i64 p] 28)).alloc (.cells #[.int .i64 0,.int .i64 0] 42)=w2∧w2.heap[w.heap.size]?=some (.cells #[.int .i64 k,.string t,.int .i64 vk,.int .i64 vn,.string vs,.slice al ll cl,.slice ak lk ck,.bool f,.slice a m cc,.int .i64 p] 28 (0,0))∧w2.heap[w.heap.size+1]?=some (.cells #[.int .i64 0,.int .i64 0] 42 (0,0))∧Below w.heap.size w w2:=by
 refine⟨_,rfl,?_,?_,((Below.refl w.heap.size w).alloc (Nat.le_refl _) _).alloc (by simp) _⟩
 ·rw [heap_alloc_old _ _ (by simp)]
  exact heap_alloc_new _ _
 ·have h:=heap_alloc_new (w.alloc (.cells #[.int .i64 k,.string t,.int .i64 vk,.int .i64 vn,.string vs,.slice al ll cl,.slice ak lk ck,.bool f,.slice a m cc,.int .i64 p] 28)) (.cells #[.int .i64 0,.int .i64 0] 42)
  simpa using h
theorem bxs (k vk vn p:Int) (t vs:ByteArray) (al ak a:Option Addr) (ll cl lk ck m cc:Nat) (f:Bool) (w:World):∃w2,(w.alloc (.cells #[.int .i64 k,.string t,.int .i64 vk,.int .i64 vn,.string vs,.slice al ll cl,.slice ak lk ck,.bool f,.slice a m cc,.int .i64 p] 28)).alloc (.cells #[.int .i64 0,.int .i64 0] 42)=w2∧w2.heap[w.heap.size]?=some (.cells #[.int .i64 k,.string t,.int .i64 vk,.int .i64 vn,.string vs,.slice al ll cl,.slice ak lk ck,.bool f,.slice a m cc,.int .i64 p] 28 (0,0))∧w2.heap[w.heap.size+1]?=some (.cells #[.int .i64 0,.int .i64 0] 42 (0,0))∧Below w.heap.size w w2:=boxes (k:=k) (vk:=vk) (vn:=vn) (p:=p) (t:=t) (vs:=vs) (al:=al) (ak:=ak) (a:=a) (ll:=ll) (cl:=cl) (lk:=lk) (ck:=ck) (m:=m) (cc:=cc) (f:=f) w
theorem wrg (k vk vn p:Int) (t vs:ByteArray) (al ak a:Option Addr) (ll cl lk ck m cc:Nat) (f:Bool) (c:Int) (w:World):Calls Tryz.prog 24 #[.agg #[.int .i64 k,.string t,.int .i64 vk,.int .i64 vn,.string vs,.slice al ll cl,.slice ak lk ck,.bool f,.slice a m cc,.int .i64 p],.int .i64 c] w fun e w'=>e=.returned (.agg #[.int .i64 p,.int .i64 c])∧Below w.heap.size w w':=wrong_any (k:=k) (vk:=vk) (vn:=vn) (p:=p) (t:=t) (vs:=vs) (al:=al) (ak:=ak) (a:=a) (ll:=ll) (cl:=cl) (lk:=lk) (ck:=ck) (m:=m) (cc:=cc) (f:=f) c w
theorem ten_at {w:World} {q:Nat} {a b c d e f g h i j:Value} {T:TypeId} (hh:w.heap[q]?=some (.cells #[a,b,c,d,e,f,g,h,i,j] T (0,0))):w.cell? ⟨q,0,none⟩=some a∧w.cell? ⟨q,1,none⟩=some b∧w.cell? ⟨q,2,none⟩=some c∧w.cell? ⟨q,3,none⟩=some d∧w.cell? ⟨q,4,none⟩=some e∧w.cell? ⟨q,5,none⟩=some f∧w.cell? ⟨q,6,none⟩=some g∧w.cell? ⟨q,7,none⟩=some h∧w.cell? ⟨q,8,none⟩=some i∧w.cell? ⟨q,9,none⟩=some j:=by
 refine⟨?_,?_,?_,?_,?_,?_,?_,?_,?_,?_⟩
 all_goals (rw [cell_of_row w q _ _ _ (0,0) hh];rfl)
theorem two_at {w:World} {q:Nat} {a b:Value} {T:TypeId} (h:w.heap[q]?=some (.cells #[a,b] T (0,0))):w.cell? ⟨q,0,none⟩=some a∧w.cell? ⟨q,1,none⟩=some b:=by
 refine⟨?_,?_⟩
 all_goals (rw [cell_of_row w q _ _ _ (0,0) h];rfl)
theorem put2 {w:World} {q:Nat} {z0 z1:Value} {T:TypeId} (h:w.heap[q]?=some (.cells #[z0,z1] T (0,0))) (y0 y1:Value):((w.setCell ⟨q,0,none⟩ y0).setCell ⟨q,1,none⟩ y1).heap[q]?=some (.cells #[y0,y1] T (0,0)):=by
 have h1:=heap_setCell_same w q 0 _ T y0 h
 exact heap_setCell_same _ q 1 _ T y1 h1
theorem inLoop_any {k vk vn p:Int} {t vs:ByteArray} {al ak a:Option Addr} {ll cl lk ck m cc:Nat} {f:Bool} {w:World} {lo q b n:Nat} {nv sv:Value} {s:Sco} (h:ScM w lo q b n nv sv s):Calls Tryz.prog 54 #[.pointer (some ⟨q,0,none⟩),.agg #[.int .i64 k,.string t,.int .i64 vk,.int .i64 vn,.string vs,.slice al ll cl,.slice ak lk ck,.bool f,.slice a m cc,.int .i64 p]] w fun e w'=>e=.returned (.agg #[.int .i64 (inlS s p).1,.int .i64 (inlS s p).2])∧Below w.heap.size w w':=by
 have hqw:=ltR h.hq
 obtain⟨w2,hw2,n2,r2,b2⟩:=bxs k vk vn p t vs al ak a ll cl lk ck m cc f w
 have H2:=hZ (h.below b2)
 obtain⟨G,hG⟩:=eX (w.heap.size)
 rw [hG] at n2 r2
 have HG2:=hZ (And.intro hG b2)
 obtain⟨R,hR⟩:=eX (inlS s p)
 rw [hR]
 go_enter Tryz.func54,Tryz.ntmps54
 go_upto_region 1 with fail
 try rw [hw2]
 try rw [hG]
 clear hw2 h b2 hG
 obtain⟨c0,c1,c2,c3,c4⟩:=five_at (uZ H2).hq
 obtain⟨m0,m1,m2,m3,m4,m5,m6,m7,m8,m9⟩:=ten_at n2
 by_cases hl:s.loops=0
 ·obtain rfl:R=(p,195):=by rw [←hR];unfold inlS;rw [if_pos hl]
  have C:=hZ (wrg k vk vn p t vs al ak a ll cl lk ck m cc f 195 w2)
  go_wp2_with fail
  refine(uZ C).mono ?_
  rintro e w8 ⟨rfl,b8⟩
  have r8:=(b8.block _ (ltR r2)).trans r2
  obtain⟨k0,k1⟩:=two_at r8
  have y0:=frozen_of_row w8 (G+1) 0 _ _ r8
  have y1:=frozen_of_row w8 (G+1) 1 _ _ r8
  have HE:=hZ (And.intro (put2 r8 (.int .i64 p) (.int .i64 195)) (((((uZ HG2).2.trans (b8.mono (uZ HG2).2.size)).setCell (p:=⟨G+1,0,none⟩) (by rw [(uZ HG2).1];exact Nat.le_succ _) (.int .i64 p))).setCell (p:=⟨G+1,1,none⟩) (by rw [(uZ HG2).1];exact Nat.le_succ _) (.int .i64 195)))
  clear b8 r8 C m0 m1 m2 m3 m4 m5 m6 m7 m8 m9 c0 c1 c2 c3 c4
  go_wp2_with fail
  exact rtF (p:=4) rfl rfl (uZ HE).1 rfl ⟨rfl,(uZ HE).2⟩
 ·obtain rfl:R=(0,0):=by rw [←hR];unfold inlS;rw [if_neg hl]
  have hl2:(s.loops == 0)=false:=by simpa using hl
  obtain⟨k0,k1⟩:=two_at r2
  have y0:=frozen_of_row w2 (G+1) 0 _ _ r2
  have y1:=frozen_of_row w2 (G+1) 1 _ _ r2
  have HE:=hZ (And.intro (put2 r2 (.int .i64 0) (.int .i64 0)) ((((uZ HG2).2.setCell (p:=⟨G+1,0,none⟩) (by rw [(uZ HG2).1];exact Nat.le_succ _) (.int .i64 0))).setCell (p:=⟨G+1,1,none⟩) (by rw [(uZ HG2).1];exact Nat.le_succ _) (.int .i64 0)))
  go_wp2_with fail
  exact rtF (p:=4) rfl rfl (uZ HE).1 rfl ⟨rfl,(uZ HE).2⟩
theorem read_any {k vk vn p:Int} {t vs:ByteArray} {al ak a:Option Addr} {ll cl lk ck m cc:Nat} {f:Bool} {w:World} {lo q b n:Nat} {nv sv:Value} {s:Sco} (ht:t.size≤maxLen) (h:ScM w lo q b n nv sv s):Calls Tryz.prog 55 #[.pointer (some ⟨q,0,none⟩),.agg #[.int .i64 k,.string t,.int .i64 vk,.int .i64 vn,.string vs,.slice al ll cl,.slice ak lk ck,.bool f,.slice a m cc,.int .i64 p]] w fun e w'=>e=.returned (.agg #[.int .i64 (redS s t.data.toList p).1,.int .i64 (redS s t.data.toList p).2])∧Below w.heap.size w w':=by
 have hqw:=ltR h.hq
 obtain⟨w2,hw2,n2,r2,b2⟩:=bxs k vk vn p t vs al ak a ll cl lk ck m cc f w
 have H2:=hZ (h.below b2)
 obtain⟨G,hG⟩:=eX (w.heap.size)
 rw [hG] at n2 r2
 have HG2:=hZ (And.intro hG b2)
 obtain⟨R,hR⟩:=eX (redS s t.data.toList p)
 rw [hR]
 go_enter Tryz.func55,Tryz.ntmps55
 go_upto_region 1 with fail
 try rw [hw2]
 try rw [hG]
 clear hw2 h b2 hG
 obtain⟨c0,c1,c2,c3,c4⟩:=five_at (uZ H2).hq
 obtain⟨m0,m1,m2,m3,m4,m5,m6,m7,m8,m9⟩:=ten_at n2
 have ha:∀z,(Instr.lookup 40 (.map (some b)) (.string t) true).run Tryz.prog (w2.drewN z)=.ok (.tuple #[.int .i64 ((ixL s.vars 0 t.data.toList).getD 0),.bool (ixL s.vars 0 t.data.toList).isSome]) (w2.drewN z):=fun z=>((uZ H2).hm.later (w':=w2.drewN z) rfl).ask ht _ Tryz.underlying40
 cases ho:ixL s.vars 0 t.data.toList with
 |none=>
  rw [ho] at ha
  obtain rfl:R=(p,192):=by rw [←hR];unfold redS;rw [ho]
  go_quiet (fail)
  obtain⟨w4,hw4⟩:=eX (w2.drewN nq)
  have b4:Below w2.heap.size w2 w4:=by rw [←hw4];exact bdrew (Below.refl _ _) nq
  rw [hw4]
  have H4:=hZ ((uZ H2).below b4)
  have n4:=(b4.block _ (ltR n2)).trans n2
  have r4:=(b4.block _ (ltR r2)).trans r2
  have HG4:=hZ (And.intro (uZ HG2).1 ((uZ HG2).2.trans (b4.mono (uZ HG2).2.size)))
  clear hw4 b4 ha H2 n2 r2 HG2 c0 c1 c2 c3 c4 m0 m1 m2 m3 m4 m5 m6 m7 m8 m9
  obtain⟨c0,c1,c2,c3,c4⟩:=five_at (uZ H4).hq
  obtain⟨m0,m1,m2,m3,m4,m5,m6,m7,m8,m9⟩:=ten_at n4
  have C:=hZ (wrg k vk vn p t vs al ak a ll cl lk ck m cc f 192 w4)
  go_wp2_with fail
  refine(uZ C).mono ?_
  rintro e w8 ⟨rfl,b8⟩
  have r8:=(b8.block _ (ltR r4)).trans r4
  obtain⟨k0,k1⟩:=two_at r8
  have y0:=frozen_of_row w8 (G+1) 0 _ _ r8
  have y1:=frozen_of_row w8 (G+1) 1 _ _ r8
  have HE:=hZ (And.intro (put2 r8 (.int .i64 p) (.int .i64 192)) (((((uZ HG4).2.trans (b8.mono (uZ HG4).2.size)).setCell (p:=⟨G+1,0,none⟩) (by rw [(uZ HG4).1];exact Nat.le_succ _) (.int .i64 p))).setCell (p:=⟨G+1,1,none⟩) (by rw [(uZ HG4).1];exact Nat.le_succ _) (.int .i64 192)))
  clear b8 r8 C m0 m1 m2 m3 m4 m5 m6 m7 m8 m9 c0 c1 c2 c3 c4
  go_wp2_with fail
  exact rtF (p:=4) rfl rfl (uZ HE).1 rfl ⟨rfl,(uZ HE).2⟩
 |some i=>
  rw [ho] at ha
  obtain⟨j,rfl,hj⟩:=ixL_bound _ _ _ _ ho
  have hjl:j<s.set.length:=by rw [(uZ H2).len];exact(List.getElem?_eq_some_iff.1 hj).1
  rw [Nat.zero_add] at ho ha
  obtain⟨x,hx⟩:∃x,s.set[j]?=some x:=⟨_,List.getElem?_eq_getElem hjl⟩
  have hR2:R=if !s.all && !x then (p,194) else (0,0):=by rw [←hR];unfold redS;rw [ho];simp [List.getD_eq_getElem?_getD,hx]
  clear hR ho
  go_quiet (fail)
  obtain⟨w4,hw4⟩:=eX (w2.drewN nq)
  have b4:Below w2.heap.size w2 w4:=by rw [←hw4];exact bdrew (Below.refl _ _) nq
  rw [hw4]
  have H4:=hZ ((uZ H2).below b4)
  have n4:=(b4.block _ (ltR n2)).trans n2
  have r4:=(b4.block _ (ltR r2)).trans r2
  have HG4:=hZ (And.intro (uZ HG2).1 ((uZ HG2).2.trans (b4.mono (uZ HG2).2.size)))
  clear hw4 b4 ha H2 n2 r2 HG2 c0 c1 c2 c3 c4 m0 m1 m2 m3 m4 m5 m6 m7 m8 m9
  obtain⟨c0,c1,c2,c3,c4⟩:=five_at (uZ H4).hq
  obtain⟨m0,m1,m2,m3,m4,m5,m6,m7,m8,m9⟩:=ten_at n4
  obtain⟨sg,scp,hsv,hsc,hsn,hsm⟩:=own_get (uZ H4).hsv (j:=j) (u:=.bool x) (by rw [List.getElem?_map,hx];rfl)
  cases hal:s.all with
  |true=>
   obtain rfl:R=(0,0):=by rw [hR2,hal];rfl
   rw [hal] at c3
   obtain⟨k0,k1⟩:=two_at r4
   have y0:=frozen_of_row w4 (G+1) 0 _ _ r4
   have y1:=frozen_of_row w4 (G+1) 1 _ _ r4
   have HE:=hZ (And.intro (put2 r4 (.int .i64 0) (.int .i64 0)) ((((uZ HG4).2.setCell (p:=⟨G+1,0,none⟩) (by rw [(uZ HG4).1];exact Nat.le_succ _) (.int .i64 0))).setCell (p:=⟨G+1,1,none⟩) (by rw [(uZ HG4).1];exact Nat.le_succ _) (.int .i64 0)))
   go_wp2_with fail
   exact rtF (p:=4) rfl rfl (uZ HE).1 rfl ⟨rfl,(uZ HE).2⟩
  |false=>
   rw [hal] at c3 hR2
   rw [hsv] at c2
   cases x with
   |true=>
    obtain rfl:R=(0,0):=by rw [hR2];rfl
    obtain⟨k0,k1⟩:=two_at r4
    have y0:=frozen_of_row w4 (G+1) 0 _ _ r4
    have y1:=frozen_of_row w4 (G+1) 1 _ _ r4
    have HE:=hZ (And.intro (put2 r4 (.int .i64 0) (.int .i64 0)) ((((uZ HG4).2.setCell (p:=⟨G+1,0,none⟩) (by rw [(uZ HG4).1];exact Nat.le_succ _) (.int .i64 0))).setCell (p:=⟨G+1,1,none⟩) (by rw [(uZ HG4).1];exact Nat.le_succ _) (.int .i64 0)))
    go_wp2_with fail
    exact rtF (p:=4) rfl rfl (uZ HE).1 rfl ⟨rfl,(uZ HE).2⟩
   |false=>
    obtain rfl:R=(p,194):=by rw [hR2];rfl
    have C:=hZ (wrg k vk vn p t vs al ak a ll cl lk ck m cc f 194 w4)
    go_wp2_with fail
    refine(uZ C).mono ?_
    rintro e w8 ⟨rfl,b8⟩
    have r8:=(b8.block _ (ltR r4)).trans r4
    obtain⟨k0,k1⟩:=two_at r8
    have y0:=frozen_of_row w8 (G+1) 0 _ _ r8
    have y1:=frozen_of_row w8 (G+1) 1 _ _ r8
    have HE:=hZ (And.intro (put2 r8 (.int .i64 p) (.int .i64 194)) (((((uZ HG4).2.trans (b8.mono (uZ HG4).2.size)).setCell (p:=⟨G+1,0,none⟩) (by rw [(uZ HG4).1];exact Nat.le_succ _) (.int .i64 p))).setCell (p:=⟨G+1,1,none⟩) (by rw [(uZ HG4).1];exact Nat.le_succ _) (.int .i64 194)))
    clear b8 r8 C m0 m1 m2 m3 m4 m5 m6 m7 m8 m9 c0 c1 c2 c3 c4
    go_wp2_with fail
    exact rtF (p:=4) rfl rfl (uZ HE).1 rfl ⟨rfl,(uZ HE).2⟩
end Go.Proofs.YtjdpaihhhjdgmaaGreatDoor
