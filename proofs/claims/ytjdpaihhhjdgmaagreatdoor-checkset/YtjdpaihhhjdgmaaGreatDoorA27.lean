/-
  What the variables of strconv hold; strings.Clone; the walks of lex's blanks, piece, isSign; conditions: a text of at most 2^40 bytes.
  The walks of lex's isSign and piece; conditions: a text of at most 2^40 bytes.
-/
import Derived.Test.YtjdpaihhhjdgmaaGreatDoorA01
import Derived.Test.YtjdpaihhhjdgmaaGreatDoorA26
import Derived.Test.YtjdpaihhhjdgmaaGreatDoorShl
import Derived.Test.YtjdpaihhhjdgmaaGreatDoorChecked
import Derived.Lib.AppendZeros
import Derived.Lib.Strings
import Derived.Lib.BufferWrite
import Derived.Lib.UnsafeStr
import Derived.Laws.MakeOwn
set_option linter.unusedVariables false
set_option linter.unusedSimpArgs false
set_option maxRecDepth 100000
set_option maxHeartbeats 8000000
namespace Go.Proofs.YtjdpaihhhjdgmaaGreatDoor
open Go.RowKit
set_option linter.unusedVariables false
set_option linter.unusedSimpArgs false
theorem infoBc:(Tryz.prog.info? 5).map (fun i=>(i.zero,i.size,i.bytes))=some (some (.int .u8 0),1,1):=by kernel_rfl
theorem lite_clone (s:ByteArray) (w:World) (hs:s.size≤140737488351232) :
  Calls Tryz.prog 155 #[.string s] w fun e w'=>e=.returned (.string s)∧Below w.heap.size w w':=by
 by_cases h0:s.size=0
 ·obtain rfl:s=⟨#[]⟩:=ByteArray.ext (Array.eq_empty_of_size_eq_zero h0)
  go_enter Tryz.func155,Tryz.ntmps155
  go_wp2_with fail
  go_ret
  exact⟨rfl,Below.refl _ _⟩
 ·obtain⟨i0,hi,hz0,hz1,hz2⟩:=info_parts infoBc
  have hco:Tryz.prog.cellsOf 5=1:=by simp [Program.cellsOf,hi,hz1]
  have hinfo:(Tryz.prog.info? 5).map (·.size)=some 1:=by rw [hi];simp [hz1]
  obtain⟨M,hM⟩:∃M,M=madeCells (Value.int .u8 0).cells (((s.size:Nat):Int).toNat * i0.size):=⟨_,rfl⟩
  have hMs:M.size=s.size:=by rw [hM,size_madeCells,hz1];simp
  have hmk:∀W:World,(Instr.makeSlice 132 (.int .i64 (s.size:Int)) (.int .i64 (s.size:Int))).run Tryz.prog W=.ok (.slice (some ⟨W.heap.size,0,none⟩) s.size s.size) (W.alloc (.cells M 5)):=fun W=>by
   have h:=run_make (P:=Tryz.prog) W 132 5 i0 (.int .u8 0) Tryz.underlying132 hi hz0 .i64 .i64 (s.size:Int) (s.size:Int) (by omega) (by omega) (by rw [hz2];omega) (by omega)
   rw [←hM] at h
   simpa using h
  clear hM
  have hcp:=Lib.run_copy_row_string (P:=Tryz.prog) (w.alloc (.cells M 5)) 132 9 3 5 w.heap.size 0 s.size s.size s M 5 Tryz.underlying132 hinfo (heap_alloc_new w _) (Nat.le_refl _) (by omega)
  obtain⟨Y,hY⟩:∃Y,Y=(M.toList.take 0++Lib.byteCells s.data.toList++M.toList.drop (0+s.size)).toArray:=⟨_,rfl⟩
  rw [←hY] at hcp
  have hYl:Y.toList=Lib.byteCells s.data.toList:=by
   rw [hY,List.toList_toArray,List.take_zero,List.nil_append,List.drop_of_length_le (by rw [Array.length_toList];omega),List.append_nil]
  have hYs:Y.size=s.size:=by rw [←Array.length_toList,hYl,Lib.byteCells_length,←Lib.size_eq]
  have hgY:((w.alloc (.cells M 5)).setRow w.heap.size Y).heap[w.heap.size]?=some (.cells Y 5 (0,0)):=setRow_heap _ _ M _ 5 (0,0) (heap_alloc_new w _)
  have hne:s.data.toList≠[]:=fun e=>h0 (by rw [Lib.size_eq,e];rfl)
  have hUS:=Lib.run_unsafeString_row (P:=Tryz.prog) ((w.alloc (.cells M 5)).setRow w.heap.size Y) 146 3 9 5 Tryz.underlying146 hco w.heap.size Y.size (by unfold World.shape?;rw [hgY]) s.data.toList hne (by rw [←Lib.size_eq];omega) (by rw [←Lib.size_eq];omega)
   (fun j x hx=>Lib.cells_of_row hgY Y.size j _ (by rw [List.take_of_length_le (by rw [Array.length_toList];exact Nat.le_refl _),hYl];simp [Lib.byteCells,hx]))
  rw [←Lib.size_eq] at hUS
  clear hY
  go_enter Tryz.func155,Tryz.ntmps155
  go_wp2_with fail
  go_ret
  have hb1:Below w.heap.size w (w.alloc (.cells M 5)):=(Below.refl _ w).alloc (Nat.le_refl _) _
  have hb2:Below w.heap.size (w.alloc (.cells M 5)) ((w.alloc (.cells M 5)).setRow w.heap.size Y):=⟨rfl,rfl,rfl,by simp,fun k hk=>setRow_other _ _ _ _ (by omega)⟩
  exact⟨rfl,Lib.below_freeze (hb1.trans hb2) (p:=⟨w.heap.size,0,none⟩) (Nat.le_refl _) _⟩
theorem str_clone (s:ByteArray) (w:World) (hs:s.size≤140737488351232) :
  Calls Tryz.prog 137 #[.string s] w fun e w'=>e=.returned (.string s)∧Below w.heap.size w w':=by
 go_enter Tryz.func137,Tryz.ntmps137
 go_wp2_with fail
 refine(lite_clone s w hs).mono ?_
 rintro e u ⟨rfl,b⟩
 go_wp2_with fail
 go_ret
 exact⟨rfl,b⟩
theorem get_bang (s:ByteArray) (j:Nat) (h:j<s.size):s.get! j=s[j]'h:=by
 have:=get_at s j h
 simpa using this
theorem rune_of (s:ByteArray) (pos:Nat) (h:pos<s.size) :
  ((s[pos]'h).toNat<128∧Utf8.decode s pos=((s[pos]'h).toNat,1)) ∨
  (128≤(Utf8.decode s pos).1∧1≤(Utf8.decode s pos).2∧pos+(Utf8.decode s pos).2≤s.size∧∀j,pos≤j→j<pos+(Utf8.decode s pos).2→128≤(s.get! j).toNat):=by
 by_cases ha:(s[pos]'h).toNat<128
 ·exact .inl ⟨ha,decode_ascii s pos h ha⟩
 ·right
  have hg:(s.get! pos).toNat=(s[pos]'h).toNat:=by rw [get_bang s pos h]
  have h0:128≤(s.get! pos).toNat:=by omega
  refine⟨(decode_high s pos h (by omega)).1,(decode_high s pos h (by omega)).2,?_⟩
  have one:pos+1≤s.size∧∀j,pos≤j→j<pos+1→128≤(s.get! j).toNat:=⟨by omega,fun j h1 h2=>(show j=pos by omega) ▸ h0⟩
  have c1:∀k,(decide (pos+k<s.size) && ((s.get! (pos+k)).toNat / 64 == 2))=true→pos+k<s.size∧128≤(s.get! (pos+k)).toNat:=fun k hk=>by
   rw [Bool.and_eq_true,decide_eq_true_eq,beq_iff_eq] at hk
   exact⟨hk.1,by omega⟩
  simp only [Utf8.decode,Nat.add_zero]
  rw [if_neg (by omega)]
  split
  ·rename_i h1
   rw [Bool.and_eq_true] at h1
   have a1:=c1 1 h1.2
   split
   ·refine⟨by omega,fun j g1 g2=>?_⟩
    have hj:j=pos∨j=pos+1:=by simp at g2;omega
    rcases hj with rfl|rfl
    ·exact h0
    ·exact a1.2
   ·exact one
  ·split
   ·rename_i h1
    rw [Bool.and_eq_true,Bool.and_eq_true] at h1
    have a1:=c1 1 h1.1.2
    have a2:=c1 2 h1.2
    split
    ·refine⟨by omega,fun j g1 g2=>?_⟩
     have hj:j=pos∨j=pos+1∨j=pos+2:=by simp at g2;omega
     rcases hj with rfl|rfl|rfl
     ·exact h0
     ·exact a1.2
     ·exact a2.2
    ·exact one
   ·split
    ·rename_i h1
     rw [Bool.and_eq_true,Bool.and_eq_true,Bool.and_eq_true] at h1
     have a1:=c1 1 h1.1.1.2
     have a2:=c1 2 h1.1.2
     have a3:=c1 3 h1.2
     split
     ·refine⟨by omega,fun j g1 g2=>?_⟩
      have hj:j=pos∨j=pos+1∨j=pos+2∨j=pos+3:=by simp at g2;omega
      rcases hj with rfl|rfl|rfl|rfl
      ·exact h0
      ·exact a1.2
      ·exact a2.2
      ·exact a3.2
     ·exact one
    ·exact one
structure Ev (w:World):Prop where
 tab:Lib.TabIs Tryz.prog w "internal/strconv.uint64pow10" .u64 Lib.pow10Tab
 syn:∃ev,w.cell? ⟨1,0,none⟩=some ev∧(ev=.nilIface∨∃te pe,ev=.iface te pe)
 rng:∃ev,w.cell? ⟨2,0,none⟩=some ev∧(ev=.nilIface∨∃te pe,ev=.iface te pe)
theorem gPow:Tryz.prog.globalNamed "internal/strconv.uint64pow10"=some 3:=by kernel_rfl
theorem Ev.below {w u:World} {B:Nat} (h:Ev w) (hb:Below B w u) (hG:5<B):Ev u:=by
 refine⟨?_,?_,?_⟩
 ·have h:=h.tab
  unfold Lib.TabIs World.var? at *
  rw [gPow] at h ⊢
  have e:=hb.block 3 (by omega)
  simp only [Option.bind_eq_bind,Option.bind_some] at h ⊢
  rw [e]
  exact h
 ·obtain⟨ev,h1,h2⟩:=h.syn
  exact⟨ev,(hb.cell (p:=⟨1,0,none⟩) (by show 1<B;omega)).trans h1,h2⟩
 ·obtain⟨ev,h1,h2⟩:=h.rng
  exact⟨ev,(hb.cell (p:=⟨2,0,none⟩) (by show 2<B;omega)).trans h1,h2⟩
theorem pre2 (c:UInt8) (r:List UInt8):Lib.hasPrefix (c :: r) [47,47]=decide (c.toNat=47∧r.head?=some 47):=by
 unfold Lib.hasPrefix
 rw [Bool.eq_iff_iff,decide_eq_true_eq]
 have h47:(c.toNat=47)↔47=c:=by
  constructor
  ·intro h;exact UInt8.toNat_inj.1 h.symm
  ·intro h;rw [←h];rfl
 cases r with
 |nil=>simp [List.isPrefixOf]
 |cons d r=>
  simp only [List.isPrefixOf,Bool.and_true,Bool.and_eq_true,beq_iff_eq,List.head?_cons,Option.some.injEq]
  rw [h47]
  constructor
  ·rintro ⟨a,b⟩;exact⟨a,b.symm⟩
  ·rintro ⟨a,b⟩;exact⟨a,b.symm⟩
theorem drop_at (s:ByteArray) (p:Nat) (h:p<s.size):s.data.toList.drop p=(s[p]'h) :: s.data.toList.drop (p+1):=by
 rw [List.drop_eq_getElem_cons (by rw [len_list];exact h)]
 congr 1
theorem blk_rune:∀(n:Nat) (l:List UInt8),n≤l.length→(∀j c,j<n→l[j]?=some c→128≤c.toNat)→blk true l=n+blk true (l.drop n)
 |0,l,_,_=>by simp
 |n+1,[],h,_=>by simp at h
 |n+1,c :: r,h,hc=>by
  have h0:=hc 0 c (by omega) rfl
  have e:(decide (c.toNat≠10))=true:=decide_eq_true (by omega)
  rw [List.drop_succ_cons]
  simp only [blk]
  rw [e,blk_rune n r (by simpa using h) (fun j d hj hd=>hc (j+1) d (by omega) (by simpa using hd))]
  omega
theorem blanks_any (s:ByteArray) (hs:s.size≤1099511627776) (w:World) :
  Calls Tryz.prog 71 #[.string s] w fun e w'=>e=.returned (.int .i64 (blk false s.data.toList:Nat))∧Below w.heap.size w w':=by
 obtain⟨R,hR⟩:=eX (blk false s.data.toList)
 have HR:=hZ hR
 rw [hR]
 clear hR
 have hs2:(s.size:Int)≤1099511627776:=by omega
 obtain⟨k,hk⟩:=eX (w.heap.size)
 have HK:=hZ hk
 go_enter Tryz.func71,Tryz.ntmps71
 go_wp2_with fail
 have HS:Hid (Below w.heap.size w (w.iter s 0)∧(w.iter s 0).heap[k]?=some (.stringIter s 0)):=hZ (by
  refine⟨(Below.refl _ _).alloc (Nat.le_refl _) _,?_⟩
  rw [←uZ HK]
  exact World.iter_heap w s 0)
 clear hk
 go_loopw [3] (fun x wr=>∃(pos:Nat) (rm:Bool),x=.bool rm∧pos≤s.size∧Hid (R=pos+blk rm (s.data.toList.drop pos)∧Below w.heap.size w wr∧wr.heap[k]?=some (.stringIter s pos))) (fun _ wr=>s.size - wr.iterPos k)
 case atStart=>exact⟨0,false,rfl,Nat.zero_le _,hZ ⟨by rw [←uZ HR];simp,(uZ HS).1,(uZ HS).2⟩⟩
 case round=>
  clear HS
  obtain⟨pos,rm,rfl,hps,HX⟩:=hrel
  by_cases hp:pos<s.size
  ·have hnx:∀ty,(Instr.next (.pointer (some ⟨k,0,none⟩)) true ty).run Tryz.prog wr=_:=fun ty=>Lib.run_next_any_at wr k s pos ty (uZ HX).2.2 hp
   have hru:=rune_of s pos hp
   obtain⟨r,hr⟩:=eX ((Utf8.decode s pos).1)
   obtain⟨n,hn⟩:=eX ((Utf8.decode s pos).2)
   rw [hr,hn] at hnx
   have hWn:=Lib.below_iterAt (uZ HX).2.1 (show w.heap.size≤k by have:=uZ HK;omega) s (pos+n)
   have hin:=Lib.iterAt_heap wr k s pos (pos+n) (uZ HX).2.2
   obtain⟨wn,hwn⟩:=eX (wr.iterAt k s (pos+n))
   rw [hwn] at hnx hWn hin
   have HIP:Hid (wr.iterPos k=pos):=hZ (by unfold World.iterPos;rw [(uZ HX).2.2])
   have HP:=hZ hp
   have hrle:(r:Int)≤2147483647:=by have:=decode_le s pos;omega
   obtain⟨c,hc⟩:=eX (s[pos]'hp)
   have hdr:=drop_at s pos hp
   rw [hc] at hdr hru
   rw [hr,hn] at hru
   have hn1:1≤n∧pos+n≤s.size:=by
    rcases hru with ⟨h1,h2⟩|⟨h1,h2,h3,h4⟩
    ·have e:n=1:=by rw [←hn,h2]
     omega
    ·exact⟨h2,h3⟩
   have hmeas:Hid (s.size - wn.iterPos k<s.size - wr.iterPos k):=hZ (by
    rw [uZ HIP,show wn.iterPos k=pos+n from by unfold World.iterPos;rw [hin]]
    omega)
   have HN1:=hZ hn1
   cases rm with
   |true=>
    by_cases h10:r=10
    ·have HN:Hid (R=pos+n+blk false (s.data.toList.drop (pos+n))∧Below w.heap.size w wn∧wn.heap[k]?=some (.stringIter s (pos+n))):=hZ ⟨by
      rcases hru with ⟨h1,h2⟩|⟨h1,h2,h3,h4⟩
      ·have e:n=1:=by rw [←hn,h2]
       have e2:r=c.toNat:=by rw [←hr,h2]
       rw [(uZ HX).1,hdr,e]
       simp only [blk]
       rw [decide_eq_false (by omega)]
       omega
      ·omega,hWn,hin⟩
     have q1:((r:Int) == 10)=true:=beq_iff_eq.2 (by omega)
     have q2:(r:Int)=10:=by omega
     have q3:((r:Int) != 10)=false:=by simp [q2]
     clear hr hn hwn hWn hin hru hdr hc HX h10 hn1
     go_wp2_with fail
     go_roundw
     case rel=>exact⟨pos+n,false,rfl,(uZ HN1).2,HN⟩
     case measure=>exact uZ hmeas
    ·have HN:Hid (R=pos+n+blk true (s.data.toList.drop (pos+n))∧Below w.heap.size w wn∧wn.heap[k]?=some (.stringIter s (pos+n))):=hZ ⟨by
      rcases hru with ⟨h1,h2⟩|⟨h1,h2,h3,h4⟩
      ·have e:n=1:=by rw [←hn,h2]
       have e2:r=c.toNat:=by rw [←hr,h2]
       rw [(uZ HX).1,hdr,e]
       simp only [blk]
       rw [decide_eq_true (by omega)]
       omega
      ·rw [(uZ HX).1,blk_rune n (s.data.toList.drop pos) (by rw [List.length_drop,len_list];omega) (fun j d hj hd=>by
        rw [List.getElem?_drop,at_list s (pos+j) (by omega)] at hd
        have:=h4 (pos+j) (by omega) (by omega)
        rw [get_bang s (pos+j) (by omega)] at this
        cases hd
        exact this),List.drop_drop]
       omega,hWn,hin⟩
     have q1:((r:Int) == 10)=false:=beq_eq_false_iff_ne.2 (by omega)
     have q2:¬(r:Int)=10:=by omega
     have q3:((r:Int) != 10)=true:=by simp [q2]
     clear hr hn hwn hWn hin hru hdr hc HX h10 hn1
     go_wp2_with fail
     go_roundw
     case rel=>exact⟨pos+n,true,rfl,(uZ HN1).2,HN⟩
     case measure=>exact uZ hmeas
   |false=>
    by_cases hb:r=32∨r=9∨r=10∨r=13
    ·have HN:Hid (R=pos+n+blk false (s.data.toList.drop (pos+n))∧Below w.heap.size w wn∧wn.heap[k]?=some (.stringIter s (pos+n))):=hZ ⟨by
      rcases hru with ⟨h1,h2⟩|⟨h1,h2,h3,h4⟩
      ·have e:n=1:=by rw [←hn,h2]
       have e2:r=c.toNat:=by rw [←hr,h2]
       have hB:lxB c=true:=decide_eq_true (by omega)
       rw [(uZ HX).1,hdr,e]
       simp only [blk,hB,if_true]
       omega
      ·omega,hWn,hin⟩
     clear hr hn hwn hWn hin hru hdr hc HX hn1
     rcases hb with h|h|h|h
     ·have p32:((r:Int) == 32)=true:=beq_iff_eq.2 (by omega)
      clear h
      go_wp2_with fail
      go_roundw
      case rel=>exact⟨pos+n,false,rfl,(uZ HN1).2,HN⟩
      case measure=>exact uZ hmeas
     ·have p32:((r:Int) == 32)=false:=beq_eq_false_iff_ne.2 (by omega)
      have n32:¬(r:Int)=32:=by omega
      have p9:((r:Int) == 9)=true:=beq_iff_eq.2 (by omega)
      clear h
      go_wp2_with fail
      go_roundw
      case rel=>exact⟨pos+n,false,rfl,(uZ HN1).2,HN⟩
      case measure=>exact uZ hmeas
     ·have p32:((r:Int) == 32)=false:=beq_eq_false_iff_ne.2 (by omega)
      have n32:¬(r:Int)=32:=by omega
      have p9:((r:Int) == 9)=false:=beq_eq_false_iff_ne.2 (by omega)
      have n9:¬(r:Int)=9:=by omega
      have p10:((r:Int) == 10)=true:=beq_iff_eq.2 (by omega)
      clear h
      go_wp2_with fail
      go_roundw
      case rel=>exact⟨pos+n,false,rfl,(uZ HN1).2,HN⟩
      case measure=>exact uZ hmeas
     ·have p32:((r:Int) == 32)=false:=beq_eq_false_iff_ne.2 (by omega)
      have n32:¬(r:Int)=32:=by omega
      have p9:((r:Int) == 9)=false:=beq_eq_false_iff_ne.2 (by omega)
      have n9:¬(r:Int)=9:=by omega
      have p10:((r:Int) == 10)=false:=beq_eq_false_iff_ne.2 (by omega)
      have n10:¬(r:Int)=10:=by omega
      have p13:((r:Int) == 13)=true:=beq_iff_eq.2 (by omega)
      clear h
      go_wp2_with fail
      go_roundw
      case rel=>exact⟨pos+n,false,rfl,(uZ HN1).2,HN⟩
      case measure=>exact uZ hmeas
    ·have q1:((r:Int) == 32)=false:=beq_eq_false_iff_ne.2 (by omega)
     have q2:((r:Int) == 9)=false:=beq_eq_false_iff_ne.2 (by omega)
     have q3:((r:Int) == 10)=false:=beq_eq_false_iff_ne.2 (by omega)
     have q4:((r:Int) == 13)=false:=beq_eq_false_iff_ne.2 (by omega)
     have q5:¬(r:Int)=32:=by omega
     have q6:¬(r:Int)=9:=by omega
     have q7:¬(r:Int)=10:=by omega
     have q8:¬(r:Int)=13:=by omega
     have hB:lxB c=false:=by
      unfold lxB
      rw [decide_eq_false_iff_not]
      rcases hru with ⟨h1,h2⟩|⟨h1,h2,h3,h4⟩
      ·have e2:r=c.toNat:=by rw [←hr,h2]
       omega
      ·have:=h4 pos (Nat.le_refl _) (by omega)
       rw [get_bang s pos hp,hc] at this
       omega
     have CP:=hZ (Tryz.strings_HasPrefix (s.extract pos s.size) ⟨#[47,47]⟩ wn)
     rw [ext_drop,bA_data,hdr,show (⟨#[47,47]⟩:ByteArray).data.toList=[47,47] from rfl,pre2] at CP
     rw [←hdr,←ext_drop] at CP
     have t1:(pos:Int)≤(s.size:Int):=by omega
     by_cases hq:c.toNat=47∧(s.data.toList.drop (pos+1)).head?=some 47
     ·rw [decide_eq_true hq] at CP
      have HN:Hid (R=pos+n+blk true (s.data.toList.drop (pos+n))∧Below w.heap.size w wn∧wn.heap[k]?=some (.stringIter s (pos+n))):=hZ ⟨by
       rcases hru with ⟨h1,h2⟩|⟨h1,h2,h3,h4⟩
       ·have e:n=1:=by rw [←hn,h2]
        rw [(uZ HX).1,hdr,e]
        simp only [blk,hB,hq,if_true,and_self,if_false,Bool.false_eq_true]
        omega
       ·have:=h4 pos (Nat.le_refl _) (by omega)
        rw [get_bang s pos hp,hc] at this
        omega,hWn,hin⟩
      clear hr hn hwn hWn hin hru hdr hc HX hn1 hb hB hq
      go_wp2_with fail
      refine(uZ CP).mono ?_
      rintro e u ⟨rfl,rfl⟩
      go_wp2_with fail
      go_roundw
      case rel=>exact⟨pos+n,true,rfl,(uZ HN1).2,HN⟩
      case measure=>exact uZ hmeas
     ·rw [decide_eq_false hq] at CP
      have HE:Hid (R=pos∧Below w.heap.size w wn):=hZ ⟨by
       rw [(uZ HX).1,hdr]
       simp only [blk,hB,hq,if_false,Bool.false_eq_true]
       omega,hWn⟩
      clear hr hn hwn hWn hin hru hdr hc HX hn1 hb hB hq
      go_wp2_with fail
      refine(uZ CP).mono ?_
      rintro e u ⟨rfl,rfl⟩
      go_wp2_with fail
      go_ret
      exact⟨by rw [(uZ HE).1];rfl,(uZ HE).2⟩
  ·have e:pos=s.size:=by omega
   have hnx:∀ty,(Instr.next (.pointer (some ⟨k,0,none⟩)) true ty).run Tryz.prog wr=_:=fun ty=>Lib.run_next_end_at wr k s pos ty (uZ HX).2.2 hp
   have HE:Hid (R=s.size∧Below w.heap.size w wr):=hZ ⟨by
    rw [(uZ HX).1,List.drop_of_length_le (by rw [len_list];omega),e]
    cases rm <;> simp [blk],(uZ HX).2.1⟩
   clear e HX hp hps
   go_wp2_with fail
   go_ret
   exact⟨by rw [(uZ HE).1];rfl,(uZ HE).2⟩
theorem sgB_or (l:List UInt8):sgB l=((l == [40]) ||(l == [41]) ||(l == [123]) ||(l == [125]) ||(l == [91]) ||(l == [93]) ||(l == [44]) ||(l == [59]) ||(l == [58]) ||(l == [46]) ||(l == [61]) ||(l == [61,61]) ||(l == [33,61]) ||(l == [60]) ||(l == [60,61]) ||(l == [62]) ||(l == [62,61]) ||(l == [43]) ||(l == [45]) ||(l == [42]) ||(l == [47]) ||(l == [37]) ||(l == [33]) ||(l == [38,38]) ||(l == [124,124])):=by
 have h:((l == [40]) ||(l == [41]) ||(l == [123]) ||(l == [125]) ||(l == [91]) ||(l == [93]) ||(l == [44]) ||(l == [59]) ||(l == [58]) ||(l == [46]) ||(l == [61]) ||(l == [61,61]) ||(l == [33,61]) ||(l == [60]) ||(l == [60,61]) ||(l == [62]) ||(l == [62,61]) ||(l == [43]) ||(l == [45]) ||(l == [42]) ||(l == [47]) ||(l == [37]) ||(l == [33]) ||(l == [38,38]) ||(l == [124,124]))=(sgL.contains l):=by
  rw [Bool.eq_iff_iff]
  simp only [sgL,List.contains_cons,List.contains_nil,Bool.or_eq_true,Bool.or_false]
  constructor
  ·intro h
   repeat' (rcases h with h|h)
   all_goals simp [h]
  ·intro h
   repeat' (rcases h with h|h)
   all_goals simp [h]
 rw [h]
 rfl
theorem isSign_any (s:ByteArray) (w:World) :
  Calls Tryz.prog 144 #[.string s] w fun e w'=>e=.returned (.bool (sgB s.data.toList))∧w'=w:=by
 rw [←ByteArray.toList_eq]
 obtain⟨R,hR⟩:=eX (sgB s.toList)
 rw [sgB_or] at hR
 rw [sgB_or,hR]
 cases h0:s.toList == [40] with
 |true=>
  have hT:R=true:=by rw [←hR];simp [h0]
  rw [hT]
  clear hR hT
  go_enter Tryz.func144,Tryz.ntmps144
  go_wp2_with fail
  go_ret
  exact⟨rfl,rfl⟩
 |false=>
  cases h1:s.toList == [41] with
  |true=>
   have hT:R=true:=by rw [←hR];simp [h0,h1]
   rw [hT]
   clear hR hT
   go_enter Tryz.func144,Tryz.ntmps144
   go_wp2_with fail
   go_ret
   exact⟨rfl,rfl⟩
  |false=>
   cases h2:s.toList == [123] with
   |true=>
    have hT:R=true:=by rw [←hR];simp [h0,h1,h2]
    rw [hT]
    clear hR hT
    go_enter Tryz.func144,Tryz.ntmps144
    go_wp2_with fail
    go_ret
    exact⟨rfl,rfl⟩
   |false=>
    cases h3:s.toList == [125] with
    |true=>
     have hT:R=true:=by rw [←hR];simp [h0,h1,h2,h3]
     rw [hT]
     clear hR hT
     go_enter Tryz.func144,Tryz.ntmps144
     go_wp2_with fail
     go_ret
     exact⟨rfl,rfl⟩
    |false=>
     cases h4:s.toList == [91] with
     |true=>
      have hT:R=true:=by rw [←hR];simp [h0,h1,h2,h3,h4]
      rw [hT]
      clear hR hT
      go_enter Tryz.func144,Tryz.ntmps144
      go_wp2_with fail
      go_ret
      exact⟨rfl,rfl⟩
     |false=>
      cases h5:s.toList == [93] with
      |true=>
       have hT:R=true:=by rw [←hR];simp [h0,h1,h2,h3,h4,h5]
       rw [hT]
       clear hR hT
       go_enter Tryz.func144,Tryz.ntmps144
       go_wp2_with fail
       go_ret
       exact⟨rfl,rfl⟩
      |false=>
       cases h6:s.toList == [44] with
       |true=>
        have hT:R=true:=by rw [←hR];simp [h0,h1,h2,h3,h4,h5,h6]
        rw [hT]
        clear hR hT
        go_enter Tryz.func144,Tryz.ntmps144
        go_wp2_with fail
        go_ret
        exact⟨rfl,rfl⟩
       |false=>
        cases h7:s.toList == [59] with
        |true=>
         have hT:R=true:=by rw [←hR];simp [h0,h1,h2,h3,h4,h5,h6,h7]
         rw [hT]
         clear hR hT
         go_enter Tryz.func144,Tryz.ntmps144
         go_wp2_with fail
         go_ret
         exact⟨rfl,rfl⟩
        |false=>
         cases h8:s.toList == [58] with
         |true=>
          have hT:R=true:=by rw [←hR];simp [h0,h1,h2,h3,h4,h5,h6,h7,h8]
          rw [hT]
          clear hR hT
          go_enter Tryz.func144,Tryz.ntmps144
          go_wp2_with fail
          go_ret
          exact⟨rfl,rfl⟩
         |false=>
          cases h9:s.toList == [46] with
          |true=>
           have hT:R=true:=by rw [←hR];simp [h0,h1,h2,h3,h4,h5,h6,h7,h8,h9]
           rw [hT]
           clear hR hT
           go_enter Tryz.func144,Tryz.ntmps144
           go_wp2_with fail
           go_ret
           exact⟨rfl,rfl⟩
          |false=>
           cases h10:s.toList == [61] with
           |true=>
            have hT:R=true:=by rw [←hR];simp [h0,h1,h2,h3,h4,h5,h6,h7,h8,h9,h10]
            rw [hT]
            clear hR hT
            go_enter Tryz.func144,Tryz.ntmps144
            go_wp2_with fail
            go_ret
            exact⟨rfl,rfl⟩
           |false=>
            cases h11:s.toList == [61,61] with
            |true=>
             have hT:R=true:=by rw [←hR];simp [h0,h1,h2,h3,h4,h5,h6,h7,h8,h9,h10,h11]
             rw [hT]
             clear hR hT
             go_enter Tryz.func144,Tryz.ntmps144
             go_wp2_with fail
             go_ret
             exact⟨rfl,rfl⟩
            |false=>
             cases h12:s.toList == [33,61] with
             |true=>
              have hT:R=true:=by rw [←hR];simp [h0,h1,h2,h3,h4,h5,h6,h7,h8,h9,h10,h11,h12]
              rw [hT]
              clear hR hT
              go_enter Tryz.func144,Tryz.ntmps144
              go_wp2_with fail
              go_ret
              exact⟨rfl,rfl⟩
             |false=>
              cases h13:s.toList == [60] with
              |true=>
               have hT:R=true:=by rw [←hR];simp [h0,h1,h2,h3,h4,h5,h6,h7,h8,h9,h10,h11,h12,h13]
               rw [hT]
               clear hR hT
               go_enter Tryz.func144,Tryz.ntmps144
               go_wp2_with fail
               go_ret
               exact⟨rfl,rfl⟩
              |false=>
               cases h14:s.toList == [60,61] with
               |true=>
                have hT:R=true:=by rw [←hR];simp [h0,h1,h2,h3,h4,h5,h6,h7,h8,h9,h10,h11,h12,h13,h14]
                rw [hT]
                clear hR hT
                go_enter Tryz.func144,Tryz.ntmps144
                go_wp2_with fail
                go_ret
                exact⟨rfl,rfl⟩
               |false=>
                cases h15:s.toList == [62] with
                |true=>
                 have hT:R=true:=by rw [←hR];simp [h0,h1,h2,h3,h4,h5,h6,h7,h8,h9,h10,h11,h12,h13,h14,h15]
                 rw [hT]
                 clear hR hT
                 go_enter Tryz.func144,Tryz.ntmps144
                 go_wp2_with fail
                 go_ret
                 exact⟨rfl,rfl⟩
                |false=>
                 cases h16:s.toList == [62,61] with
                 |true=>
                  have hT:R=true:=by rw [←hR];simp [h0,h1,h2,h3,h4,h5,h6,h7,h8,h9,h10,h11,h12,h13,h14,h15,h16]
                  rw [hT]
                  clear hR hT
                  go_enter Tryz.func144,Tryz.ntmps144
                  go_wp2_with fail
                  go_ret
                  exact⟨rfl,rfl⟩
                 |false=>
                  cases h17:s.toList == [43] with
                  |true=>
                   have hT:R=true:=by rw [←hR];simp [h0,h1,h2,h3,h4,h5,h6,h7,h8,h9,h10,h11,h12,h13,h14,h15,h16,h17]
                   rw [hT]
                   clear hR hT
                   go_enter Tryz.func144,Tryz.ntmps144
                   go_wp2_with fail
                   go_ret
                   exact⟨rfl,rfl⟩
                  |false=>
                   cases h18:s.toList == [45] with
                   |true=>
                    have hT:R=true:=by rw [←hR];simp [h0,h1,h2,h3,h4,h5,h6,h7,h8,h9,h10,h11,h12,h13,h14,h15,h16,h17,h18]
                    rw [hT]
                    clear hR hT
                    go_enter Tryz.func144,Tryz.ntmps144
                    go_wp2_with fail
                    go_ret
                    exact⟨rfl,rfl⟩
                   |false=>
                    cases h19:s.toList == [42] with
                    |true=>
                     have hT:R=true:=by rw [←hR];simp [h0,h1,h2,h3,h4,h5,h6,h7,h8,h9,h10,h11,h12,h13,h14,h15,h16,h17,h18,h19]
                     rw [hT]
                     clear hR hT
                     go_enter Tryz.func144,Tryz.ntmps144
                     go_wp2_with fail
                     go_ret
                     exact⟨rfl,rfl⟩
                    |false=>
                     cases h20:s.toList == [47] with
                     |true=>
                      have hT:R=true:=by rw [←hR];simp [h0,h1,h2,h3,h4,h5,h6,h7,h8,h9,h10,h11,h12,h13,h14,h15,h16,h17,h18,h19,h20]
                      rw [hT]
                      clear hR hT
                      go_enter Tryz.func144,Tryz.ntmps144
                      go_wp2_with fail
                      go_ret
                      exact⟨rfl,rfl⟩
                     |false=>
                      cases h21:s.toList == [37] with
                      |true=>
                       have hT:R=true:=by rw [←hR];simp [h0,h1,h2,h3,h4,h5,h6,h7,h8,h9,h10,h11,h12,h13,h14,h15,h16,h17,h18,h19,h20,h21]
                       rw [hT]
                       clear hR hT
                       go_enter Tryz.func144,Tryz.ntmps144
                       go_wp2_with fail
                       go_ret
                       exact⟨rfl,rfl⟩
                      |false=>
                       cases h22:s.toList == [33] with
                       |true=>
                        have hT:R=true:=by rw [←hR];simp [h0,h1,h2,h3,h4,h5,h6,h7,h8,h9,h10,h11,h12,h13,h14,h15,h16,h17,h18,h19,h20,h21,h22]
                        rw [hT]
                        clear hR hT
                        go_enter Tryz.func144,Tryz.ntmps144
                        go_wp2_with fail
                        go_ret
                        exact⟨rfl,rfl⟩
                       |false=>
                        cases h23:s.toList == [38,38] with
                        |true=>
                         have hT:R=true:=by rw [←hR];simp [h0,h1,h2,h3,h4,h5,h6,h7,h8,h9,h10,h11,h12,h13,h14,h15,h16,h17,h18,h19,h20,h21,h22,h23]
                         rw [hT]
                         clear hR hT
                         go_enter Tryz.func144,Tryz.ntmps144
                         go_wp2_with fail
                         go_ret
                         exact⟨rfl,rfl⟩
                        |false=>
                         cases h24:s.toList == [124,124] with
                         |true=>
                          have hT:R=true:=by rw [←hR];simp [h0,h1,h2,h3,h4,h5,h6,h7,h8,h9,h10,h11,h12,h13,h14,h15,h16,h17,h18,h19,h20,h21,h22,h23,h24]
                          rw [hT]
                          clear hR hT
                          go_enter Tryz.func144,Tryz.ntmps144
                          go_wp2_with fail
                          go_ret
                          exact⟨rfl,rfl⟩
                         |false=>
                          have hT:R=false:=by rw [←hR];simp [h0,h1,h2,h3,h4,h5,h6,h7,h8,h9,h10,h11,h12,h13,h14,h15,h16,h17,h18,h19,h20,h21,h22,h23,h24]
                          rw [hT]
                          clear hR hT
                          go_enter Tryz.func144,Tryz.ntmps144
                          go_wp2_with fail
                          go_ret
                          exact⟨rfl,rfl⟩
def pcV:Option (UInt8 × Nat)→Value
 |none=>.tuple #[.int .u8 0,.int .i64 0]
 |some (b,n)=>.tuple #[.int .u8 (b.toNat:Int),.int .i64 (n:Int)]
theorem pcV_some (b:UInt8) (n:Nat):pcV (some (b,n))=.tuple #[.int .u8 (b.toNat:Int),.int .i64 (n:Int)]:=rfl
def hexI (c:UInt8):Int:=match hexV c with|none=>-1|some a=>(a:Int)
theorem index_fin:∀c:Fin 256,Lib.indexByte [48,49,50,51,52,53,54,55,56,57,97,98,99,100,101,102] (UInt8.ofNat c.val)=hexI (UInt8.ofNat c.val):=by decide +kernel
theorem index_hex (c:UInt8):Lib.indexByte [48,49,50,51,52,53,54,55,56,57,97,98,99,100,101,102] c=hexI c:=by
 have h:=index_fin ⟨c.toNat,c.toNat_lt⟩
 simpa using h
theorem hexV_lt {c:UInt8} {a:Nat} (h:hexV c=some a):a<16:=by
 unfold hexV at h
 split at h
 ·simp at h;omega
 ·split at h
  ·simp at h;omega
  ·cases h
theorem index_any (c:UInt8) (z:Int) (hz:(c.toNat:Int)=z) (w:World) :
  Calls Tryz.prog 159 #[.string ⟨#[48,49,50,51,52,53,54,55,56,57,97,98,99,100,101,102]⟩,.int .u8 z] w fun e w'=>e=.returned (.int .i64 (hexI c))∧w'=w:=by
 have h:=Tryz.strings_IndexByte ⟨#[48,49,50,51,52,53,54,55,56,57,97,98,99,100,101,102]⟩ z w
 have e:z.toNat.toUInt8=c:=by
  rw [←hz]
  simp
 rw [e,show (⟨#[48,49,50,51,52,53,54,55,56,57,97,98,99,100,101,102]⟩:ByteArray).data.toList=[48,49,50,51,52,53,54,55,56,57,97,98,99,100,101,102] from rfl,index_hex] at h
 exact h
theorem below_drewN' (n:Nat) (w:World):Below w.heap.size w (w.drewN n):=⟨rfl,rfl,rfl,Nat.le_refl _,fun _ _=>rfl⟩
theorem or_fin:∀a:Fin 16,∀b:Fin 16,bits .or .i64 ((a.val:Int) * 16) (b.val:Int)=16 * (a.val:Int)+(b.val:Int):=by decide +kernel
theorem or_hex (a b:Nat) (ha:a<16) (hb:b<16):bits .or .i64 ((a:Int) * 16) (b:Int)=16 * (a:Int)+(b:Int):=or_fin ⟨a,ha⟩ ⟨b,hb⟩
theorem piece_any (s:ByteArray) (h0:0<s.size) (hs:s.size≤1099511627776) (w:World) :
  Calls Tryz.prog 140 #[.string s] w fun e w'=>e=.returned (pcV (pcL s.data.toList))∧Below w.heap.size w w':=by
 have hs2:(s.size:Int)≤1099511627776:=by omega
 have hd0:=drop_at s 0 h0
 rw [List.drop_zero] at hd0
 obtain⟨c,hc⟩:=eX (s[0]'h0)
 rw [hc] at hd0
 obtain⟨z,hz⟩:∃z:Nat,c.toNat=z:=⟨_,rfl⟩
 have hzi:((s[0]'h0).toNat:Int)=(z:Int):=by rw [hc,hz]
 have hcz:(c.toNat:Int)=(z:Int):=by rw [hz]
 have z1:(z:Int)≤255:=by have:=c.toNat_lt;omega
 obtain⟨R,hR⟩:=eX (pcL s.data.toList)
 have hR2:=hR
 rw [hd0,pcL_cons,hz] at hR2
 rw [hR]
 by_cases hb:z<32∨126<z
 ·rw [if_pos hb] at hR2
  subst hR2
  unfold pcV
  clear hR
  rcases hb with g|g
  ·have i1:(z:Int)<32:=by omega
   go_enter Tryz.func140,Tryz.ntmps140
   go_wp2_with fail
   go_ret2
   exact⟨rfl,Below.refl _ _⟩
  ·have i0:¬(z:Int)<32:=by omega
   have i1:(126:Int)<(z:Int):=by omega
   go_enter Tryz.func140,Tryz.ntmps140
   go_wp2_with fail
   go_ret2
   exact⟨rfl,Below.refl _ _⟩
 rw [if_neg hb] at hR2
 have i0:¬(z:Int)<32:=by omega
 have i1:¬(126:Int)<(z:Int):=by omega
 by_cases h92:¬z=92
 ·rw [if_neg h92] at hR2
  subst hR2
  rw [pcV_some,hcz]
  have i2:((z:Int) == 92)=false:=beq_eq_false_iff_ne.2 (by omega)
  have i3:¬(z:Int)=92:=by omega
  have i4:((z:Int) != 92)=true:=by simp [i3]
  clear hR
  go_enter Tryz.func140,Tryz.ntmps140
  go_wp2_with fail
  go_ret2
  exact⟨rfl,Below.refl _ _⟩
 replace h92:z=92:=Decidable.of_not_not h92
 rw [if_pos h92] at hR2
 have i2:((z:Int) == 92)=true:=beq_iff_eq.2 (by omega)
 have i4:((z:Int) != 92)=false:=by simp [show (z:Int)=92 by omega]
 have hl1:(s.data.toList.drop 1).length=s.size - 1:=by rw [List.length_drop,len_list]
 by_cases hn2:s.size<2
 ·have e1:s.data.toList.drop 1=[]:=List.eq_nil_of_length_eq_zero (by omega)
  rw [Nat.zero_add,e1] at hR2
  have hR3:R=none:=hR2.symm
  subst hR3
  unfold pcV
  have j1:¬(2:Int)≤(s.size:Int):=by omega
  have j2:¬(4:Int)≤(s.size:Int):=by omega
  clear hR hR2 h92
  go_enter Tryz.func140,Tryz.ntmps140
  go_wp2_with fail
  go_ret2
  exact⟨rfl,Below.refl _ _⟩
 have hlt1:1<s.size:=by omega
 have hd1:=drop_at s 1 hlt1
 obtain⟨d,hd⟩:=eX (s[1]'hlt1)
 rw [hd] at hd1
 obtain⟨y,hy⟩:∃y:Nat,d.toNat=y:=⟨_,rfl⟩
 have hyi:((s[1]'hlt1).toNat:Int)=(y:Int):=by rw [hd,hy]
 have hdy:(d.toNat:Int)=(y:Int):=by rw [hy]
 have y1:(y:Int)≤255:=by have:=d.toNat_lt;omega
 have j1:(2:Int)≤(s.size:Int):=by omega
 rw [Nat.zero_add,hd1,escP_cons,hy] at hR2
 by_cases hq:y=34∨y=92
 ·rw [if_pos hq] at hR2
  subst hR2
  rw [pcV_some,hdy]
  clear hR h92 hd hd1
  rcases hq with g|g
  ·have k1:((y:Int) == 34)=true:=beq_iff_eq.2 (by omega)
   have k2:(y:Int)=34:=by omega
   rw [k2]
   rw [k2] at hyi
   clear k2 hy hdy g k1 y1
   go_enter Tryz.func140,Tryz.ntmps140
   go_wp2_with fail
   go_ret2
   exact⟨rfl,Below.refl _ _⟩
  ·have k2:(y:Int)=92:=by omega
   rw [k2]
   rw [k2] at hyi
   clear k2 hy hdy g y1
   go_enter Tryz.func140,Tryz.ntmps140
   go_wp2_with fail
   go_ret2
   exact⟨rfl,Below.refl _ _⟩
 rw [if_neg hq] at hR2
 have k1:((y:Int) == 34)=false:=beq_eq_false_iff_ne.2 (by omega)
 have k2:((y:Int) == 92)=false:=beq_eq_false_iff_ne.2 (by omega)
 have k3:¬(y:Int)=34:=by omega
 have k4:¬(y:Int)=92:=by omega
 by_cases hx:¬y=120
 ·rw [if_neg hx] at hR2
  subst hR2
  unfold pcV
  have k5:((y:Int) == 120)=false:=beq_eq_false_iff_ne.2 (by omega)
  have k6:¬(y:Int)=120:=by omega
  clear hR h92
  by_cases hn4:(4:Int)≤(s.size:Int)
  all_goals
   go_enter Tryz.func140,Tryz.ntmps140
   go_wp2_with fail
   go_ret2
   exact⟨rfl,Below.refl _ _⟩
 replace hx:y=120:=Decidable.of_not_not hx
 rw [if_pos hx] at hR2
 have k5:((y:Int) == 120)=true:=beq_iff_eq.2 (by omega)
 have k6:(y:Int)=120:=by omega
 rw [k6] at hyi
 clear k1 k2 k3 k4 k5 k6 y1 hdy
 by_cases hn4:s.size<4
 ·have e1:hexP (s.data.toList.drop (1+1))=none:=by
   have hl:(s.data.toList.drop (1+1)).length=s.size - 2:=by rw [List.length_drop,len_list]
   match s.data.toList.drop (1+1),hl with
   |[],_=>rfl
   |[_],_=>rfl
   |_ :: _ :: _,hl=>simp at hl;omega
  rw [e1] at hR2
  subst hR2
  unfold pcV
  have j2:¬(4:Int)≤(s.size:Int):=by omega
  clear hR h92
  go_enter Tryz.func140,Tryz.ntmps140
  go_wp2_with fail
  go_ret2
  exact⟨rfl,Below.refl _ _⟩
 have j2:(4:Int)≤(s.size:Int):=by omega
 have hlt2:2<s.size:=by omega
 have hlt3:3<s.size:=by omega
 obtain⟨e,he⟩:=eX (s[2]'hlt2)
 obtain⟨f,hf⟩:=eX (s[3]'hlt3)
 have hd2:=drop_at s 2 hlt2
 have hd3:=drop_at s 3 hlt3
 rw [he] at hd2
 rw [hf] at hd3
 rw [show 1+1=2 from rfl,hd2,show 2+1=3 from rfl,hd3] at hR2
 obtain⟨x2,hx2⟩:∃x:Int,(e.toNat:Int)=x:=⟨_,rfl⟩
 obtain⟨x3,hx3⟩:∃x:Int,(f.toNat:Int)=x:=⟨_,rfl⟩
 have he2:((s[2]'hlt2).toNat:Int)=x2:=by rw [he,hx2]
 have hf2:((s[3]'hlt3).toNat:Int)=x3:=by rw [hf,hx3]
 have C2:=hZ (fun u=>index_any e x2 hx2 u)
 have C3:=hZ (fun u=>index_any f x3 hx3 u)
 obtain⟨A,hA⟩:=eX (hexI e)
 obtain⟨B,hB⟩:=eX (hexI f)
 rw [hA] at C2
 rw [hB] at C3
 have HZ2:Hid (hexP (e :: f :: s.data.toList.drop (3+1))=R):=hZ hR2
 have HAB:=hZ (And.intro hA hB)
 have hAr:-1≤A∧A≤15:=by
  rw [←hA]
  unfold hexI
  cases h:hexV e with
  |none=>simp
  |some a=>have:=hexV_lt h;simp;omega
 have hBr:-1≤B∧B≤15:=by
  rw [←hB]
  unfold hexI
  cases h:hexV f with
  |none=>simp
  |some a=>have:=hexV_lt h;simp;omega
 clear hR hR2 hd0 hd1 hd2 hd3 hl1 h92 hx hn4 hn2 hb hA hB hx2 hx3 he hf hc hd hy hz
 go_enter Tryz.func140,Tryz.ntmps140
 go_upto_region 9 with fail
 go_quiet ((go_at_call 159;first|exact Calls.quiet_of_same ((uZ C2) _)|exact Calls.quiet_of_same ((uZ C3) _)))
 have HB:Hid (Below w.heap.size w (w.drewN nq)):=hZ (below_drewN' nq w)
 by_cases hA0:0≤A
 ·by_cases hB0:0≤B
  ·obtain⟨a,rfl⟩:∃a:Nat,A=(a:Int):=⟨A.toNat,by omega⟩
   obtain⟨b,rfl⟩:∃b:Nat,B=(b:Int):=⟨B.toNat,by omega⟩
   have HQ:Hid (R=some (UInt8.ofNat (16 * a+b),4)∧a<16∧b<16):=hZ (by
    obtain⟨h1,h2⟩:=uZ HAB
    have h3:=uZ HZ2
    unfold hexI at h1 h2
    cases he:hexV e with
    |none=>rw [he] at h1;simp only at h1;omega
    |some a'=>
     cases hf:hexV f with
     |none=>rw [hf] at h2;simp only at h2;omega
     |some b'=>
      rw [he] at h1
      rw [hf] at h2
      simp only at h1 h2
      obtain rfl:a'=a:=by omega
      obtain rfl:b'=b:=by omega
      refine⟨?_,hexV_lt he,hexV_lt hf⟩
      rw [←h3]
      simp only [hexP,he,hf])
   have hor:=or_hex a b (uZ HQ).2.1 (uZ HQ).2.2
   have hwr:IntKind.u8.wrap (16 * (a:Int)+(b:Int))=16 * (a:Int)+(b:Int):=by rw [IntKind.wrap_u8];omega
   have hof:Hid (((UInt8.ofNat (16 * a+b)).toNat:Int)=16 * (a:Int)+(b:Int)):=hZ (by
    rw [UInt8.toNat_ofNat']
    omega)
   go_wp2_with fail
   go_ret2
   refine⟨?_,uZ HB⟩
   rw [(uZ HQ).1]
   rw [pcV_some,uZ hof]
   rfl
  ·have HQ:Hid (R=none):=hZ (by
    obtain⟨h1,h2⟩:=uZ HAB
    rw [←uZ HZ2]
    unfold hexI at h2
    cases hf:hexV f with
    |none=>simp only [hexP,hf];cases hexV e <;> rfl
    |some b'=>rw [hf] at h2;simp at h2;omega)
   go_wp2_with fail
   go_ret2
   exact⟨by rw [uZ HQ];rfl,uZ HB⟩
 ·have HQ:Hid (R=none):=hZ (by
   obtain⟨h1,h2⟩:=uZ HAB
   rw [←uZ HZ2]
   unfold hexI at h1
   cases he:hexV e with
   |none=>simp only [hexP,he]
   |some b'=>rw [he] at h1;simp at h1;omega)
  go_wp2_with fail
  go_ret2
  exact⟨by rw [uZ HQ];rfl,uZ HB⟩
end Go.Proofs.YtjdpaihhhjdgmaaGreatDoor
