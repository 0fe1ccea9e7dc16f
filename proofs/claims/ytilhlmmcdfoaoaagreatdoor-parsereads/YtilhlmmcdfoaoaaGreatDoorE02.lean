/-
  What the variables of strconv hold; strings.Clone; the walks of lex's blanks, piece, isSign; conditions: a text of at most 2^40 bytes.
-/
import Derived.Test.YtilhlmmcdfoaoaaGreatDoorE01
import Derived.Test.YtilhlmmcdfoaoaaGreatDoorShl
import Derived.Test.YtilhlmmcdfoaoaaGreatDoorChecked
import Derived.Lib.AppendZeros
import Derived.Lib.Strings
import Derived.Lib.BufferWrite
import Derived.Lib.UnsafeStr
import Derived.Laws.MakeOwn
set_option linter.unusedVariables false
set_option linter.unusedSimpArgs false
namespace Go.Proofs.YtilhlmmcdfoaoaaGreatDoor
open Go.RowKit
set_option linter.unusedVariables false
set_option linter.unusedSimpArgs false
theorem infoBc:(Tryz.prog.info? 5).map (fun i=>(i.zero,i.size,i.bytes))=some (some (.int .u8 0),1,1):=by kernel_rfl
set_option maxRecDepth 100000 in
set_option maxHeartbeats 1000000 in
theorem lite_clone (s:ByteArray) (w:World) (hs:s.size≤140737488351232) :
  Calls Tryz.prog 96 #[.string s] w fun e w'=>e=.returned (.string s)∧Below w.heap.size w w':=by
 by_cases h0:s.size=0
 ·obtain rfl:s=⟨#[]⟩:=ByteArray.ext (Array.eq_empty_of_size_eq_zero h0)
  go_enter Tryz.func96,Tryz.ntmps96
  go_wp2_with fail
  go_ret
  exact⟨rfl,Below.refl _ _⟩
 ·obtain⟨i0,hi,hz0,hz1,hz2⟩:=info_parts infoBc
  have hco:Tryz.prog.cellsOf 5=1:=by simp [Program.cellsOf,hi,hz1]
  have hinfo:(Tryz.prog.info? 5).map (·.size)=some 1:=by rw [hi];simp [hz1]
  obtain⟨M,hM⟩:∃M,M=madeCells (Value.int .u8 0).cells (((s.size:Nat):Int).toNat * i0.size):=⟨_,rfl⟩
  have hMs:M.size=s.size:=by rw [hM,size_madeCells,hz1];simp
  have hmk:∀W:World,(Instr.makeSlice 77 (.int .i64 (s.size:Int)) (.int .i64 (s.size:Int))).run Tryz.prog W=.ok (.slice (some ⟨W.heap.size,0,none⟩) s.size s.size) (W.alloc (.cells M 5)):=fun W=>by
   have h:=run_make (P:=Tryz.prog) W 77 5 i0 (.int .u8 0) Tryz.underlying77 hi hz0 .i64 .i64 (s.size:Int) (s.size:Int) (by omega) (by omega) (by rw [hz2];omega) (by omega)
   rw [←hM] at h
   simpa using h
  clear hM
  have hcp:=Lib.run_copy_row_string (P:=Tryz.prog) (w.alloc (.cells M 5)) 77 9 3 5 w.heap.size 0 s.size s.size s M 5 Tryz.underlying77 hinfo (heap_alloc_new w _) (Nat.le_refl _) (by omega)
  obtain⟨Y,hY⟩:∃Y,Y=(M.toList.take 0++Lib.byteCells s.data.toList++M.toList.drop (0+s.size)).toArray:=⟨_,rfl⟩
  rw [←hY] at hcp
  have hYl:Y.toList=Lib.byteCells s.data.toList:=by
   rw [hY,List.toList_toArray,List.take_zero,List.nil_append,List.drop_of_length_le (by rw [Array.length_toList];omega),List.append_nil]
  have hYs:Y.size=s.size:=by rw [←Array.length_toList,hYl,Lib.byteCells_length,←Lib.size_eq]
  have hgY:((w.alloc (.cells M 5)).setRow w.heap.size Y).heap[w.heap.size]?=some (.cells Y 5 (0,0)):=setRow_heap _ _ M _ 5 (0,0) (heap_alloc_new w _)
  have hne:s.data.toList≠[]:=fun e=>h0 (by rw [Lib.size_eq,e];rfl)
  have hUS:=Lib.run_unsafeString_row (P:=Tryz.prog) ((w.alloc (.cells M 5)).setRow w.heap.size Y) 97 3 9 5 Tryz.underlying97 hco w.heap.size Y.size (by unfold World.shape?;rw [hgY]) s.data.toList hne (by rw [←Lib.size_eq];omega) (by rw [←Lib.size_eq];omega)
   (fun j x hx=>Lib.cells_of_row hgY Y.size j _ (by rw [List.take_of_length_le (by rw [Array.length_toList];exact Nat.le_refl _),hYl];simp [Lib.byteCells,hx]))
  rw [←Lib.size_eq] at hUS
  clear hY
  go_enter Tryz.func96,Tryz.ntmps96
  go_wp2_with fail
  go_ret
  have hb1:Below w.heap.size w (w.alloc (.cells M 5)):=(Below.refl _ w).alloc (Nat.le_refl _) _
  have hb2:Below w.heap.size (w.alloc (.cells M 5)) ((w.alloc (.cells M 5)).setRow w.heap.size Y):=⟨rfl,rfl,rfl,by simp,fun k hk=>setRow_other _ _ _ _ (by omega)⟩
  exact⟨rfl,Lib.below_freeze (hb1.trans hb2) (p:=⟨w.heap.size,0,none⟩) (Nat.le_refl _) _⟩
set_option maxRecDepth 100000 in
theorem str_clone (s:ByteArray) (w:World) (hs:s.size≤140737488351232) :
  Calls Tryz.prog 74 #[.string s] w fun e w'=>e=.returned (.string s)∧Below w.heap.size w w':=by
 go_enter Tryz.func74,Tryz.ntmps74
 go_wp2_with fail
 refine(lite_clone s w hs).mono ?_
 rintro e u ⟨rfl,b⟩
 go_wp2_with fail
 go_ret
 exact⟨rfl,b⟩
theorem get_bang (s:ByteArray) (j:Nat) (h:j<s.size):s.get! j=s[j]'h:=by
 have:=get_at s j h
 simpa using this
theorem rune_of (s:ByteArray) (pos:Nat) (h:pos<s.size) :
  ((s[pos]'h).toNat<128∧Utf8.decode s pos=((s[pos]'h).toNat,1)) ∨
  (128≤(Utf8.decode s pos).1∧1≤(Utf8.decode s pos).2∧pos+(Utf8.decode s pos).2≤s.size∧∀j,pos≤j→j<pos+(Utf8.decode s pos).2→128≤(s.get! j).toNat):=by
 by_cases ha:(s[pos]'h).toNat<128
 ·exact .inl ⟨ha,decode_ascii s pos h ha⟩
 ·right
  have hg:(s.get! pos).toNat=(s[pos]'h).toNat:=by rw [get_bang s pos h]
  have h0:128≤(s.get! pos).toNat:=by omega
  refine⟨(decode_high s pos h (by omega)).1,(decode_high s pos h (by omega)).2,?_⟩
  have one:pos+1≤s.size∧∀j,pos≤j→j<pos+1→128≤(s.get! j).toNat:=⟨by omega,fun j h1 h2=>(show j=pos by omega) ▸ h0⟩
  have c1:∀k,(decide (pos+k<s.size) && ((s.get! (pos+k)).toNat / 64 == 2))=true→pos+k<s.size∧128≤(s.get! (pos+k)).toNat:=fun k hk=>by
   rw [Bool.and_eq_true,decide_eq_true_eq,beq_iff_eq] at hk
   exact⟨hk.1,by omega⟩
  simp only [Utf8.decode,Nat.add_zero]
  rw [if_neg (by omega)]
  split
  ·rename_i h1
   rw [Bool.and_eq_true] at h1
   have a1:=c1 1 h1.2
   split
   ·refine⟨by omega,fun j g1 g2=>?_⟩
    have hj:j=pos∨j=pos+1:=by simp at g2;omega
    rcases hj with rfl|rfl
    ·exact h0
    ·exact a1.2
   ·exact one
  ·split
   ·rename_i h1
    rw [Bool.and_eq_true,Bool.and_eq_true] at h1
    have a1:=c1 1 h1.1.2
    have a2:=c1 2 h1.2
    split
    ·refine⟨by omega,fun j g1 g2=>?_⟩
     have hj:j=pos∨j=pos+1∨j=pos+2:=by simp at g2;omega
     rcases hj with rfl|rfl|rfl
     ·exact h0
     ·exact a1.2
     ·exact a2.2
    ·exact one
   ·split
    ·rename_i h1
     rw [Bool.and_eq_true,Bool.and_eq_true,Bool.and_eq_true] at h1
     have a1:=c1 1 h1.1.1.2
     have a2:=c1 2 h1.1.2
     have a3:=c1 3 h1.2
     split
     ·refine⟨by omega,fun j g1 g2=>?_⟩
      have hj:j=pos∨j=pos+1∨j=pos+2∨j=pos+3:=by simp at g2;omega
      rcases hj with rfl|rfl|rfl|rfl
      ·exact h0
      ·exact a1.2
      ·exact a2.2
      ·exact a3.2
     ·exact one
    ·exact one
structure Ev (w:World):Prop where
 tab:Lib.TabIs Tryz.prog w "internal/strconv.uint64pow10" .u64 Lib.pow10Tab
 syn:∃ev,w.cell? ⟨0,0,none⟩=some ev∧(ev=.nilIface∨∃te pe,ev=.iface te pe)
 rng:∃ev,w.cell? ⟨1,0,none⟩=some ev∧(ev=.nilIface∨∃te pe,ev=.iface te pe)
theorem gPow:Tryz.prog.globalNamed "internal/strconv.uint64pow10"=some 2:=by kernel_rfl
theorem Ev.below {w u:World} {B:Nat} (h:Ev w) (hb:Below B w u) (hG:5<B):Ev u:=by
 refine⟨?_,?_,?_⟩
 ·have h:=h.tab
  unfold Lib.TabIs World.var? at *
  rw [gPow] at h ⊢
  have e:=hb.block 2 (by omega)
  simp only [Option.bind_eq_bind,Option.bind_some] at h ⊢
  rw [e]
  exact h
 ·obtain⟨ev,h1,h2⟩:=h.syn
  exact⟨ev,(hb.cell (p:=⟨0,0,none⟩) (by show 0<B;omega)).trans h1,h2⟩
 ·obtain⟨ev,h1,h2⟩:=h.rng
  exact⟨ev,(hb.cell (p:=⟨1,0,none⟩) (by show 1<B;omega)).trans h1,h2⟩
theorem pre2 (c:UInt8) (r:List UInt8):Lib.hasPrefix (c :: r) [47,47]=decide (c.toNat=47∧r.head?=some 47):=by
 unfold Lib.hasPrefix
 rw [Bool.eq_iff_iff,decide_eq_true_eq]
 have h47:(c.toNat=47)↔47=c:=by
  constructor
  ·intro h;exact UInt8.toNat_inj.1 h.symm
  ·intro h;rw [←h];rfl
 cases r with
 |nil=>simp [List.isPrefixOf]
 |cons d r=>
  simp only [List.isPrefixOf,Bool.and_true,Bool.and_eq_true,beq_iff_eq,List.head?_cons,Option.some.injEq]
  rw [h47]
  constructor
  ·rintro ⟨a,b⟩;exact⟨a,b.symm⟩
  ·rintro ⟨a,b⟩;exact⟨a,b.symm⟩
theorem drop_at (s:ByteArray) (p:Nat) (h:p<s.size):s.data.toList.drop p=(s[p]'h) :: s.data.toList.drop (p+1):=by
 rw [List.drop_eq_getElem_cons (by rw [len_list];exact h)]
 congr 1
theorem blk_rune:∀(n:Nat) (l:List UInt8),n≤l.length→(∀j c,j<n→l[j]?=some c→128≤c.toNat)→blk true l=n+blk true (l.drop n)
 |0,l,_,_=>by simp
 |n+1,[],h,_=>by simp at h
 |n+1,c :: r,h,hc=>by
  have h0:=hc 0 c (by omega) rfl
  have e:(decide (c.toNat≠10))=true:=decide_eq_true (by omega)
  rw [List.drop_succ_cons]
  simp only [blk]
  rw [e,blk_rune n r (by simpa using h) (fun j d hj hd=>hc (j+1) d (by omega) (by simpa using hd))]
  omega
set_option maxRecDepth 100000 in
set_option maxHeartbeats 2000000 in
theorem blanks_any (s:ByteArray) (hs:s.size≤1099511627776) (w:World) :
  Calls Tryz.prog 26 #[.string s] w fun e w'=>e=.returned (.int .i64 (blk false s.data.toList:Nat))∧Below w.heap.size w w':=by
 obtain⟨R,hR⟩:∃R,blk false s.data.toList=R:=⟨_,rfl⟩
 have HR:=hZ hR
 rw [hR]
 clear hR
 have hs2:(s.size:Int)≤1099511627776:=by omega
 obtain⟨k,hk⟩:∃k,w.heap.size=k:=⟨_,rfl⟩
 have HK:=hZ hk
 go_enter Tryz.func26,Tryz.ntmps26
 go_wp2_with fail
 have HS:Hid (Below w.heap.size w (w.iter s 0)∧(w.iter s 0).heap[k]?=some (.stringIter s 0)):=hZ (by
  refine⟨(Below.refl _ _).alloc (Nat.le_refl _) _,?_⟩
  rw [←uZ HK]
  exact World.iter_heap w s 0)
 clear hk
 go_loopw [3] (fun x wr=>∃(pos:Nat) (rm:Bool),x=.bool rm∧pos≤s.size∧Hid (R=pos+blk rm (s.data.toList.drop pos)∧Below w.heap.size w wr∧wr.heap[k]?=some (.stringIter s pos))) (fun _ wr=>s.size - wr.iterPos k)
 case atStart=>exact⟨0,false,rfl,Nat.zero_le _,hZ ⟨by rw [←uZ HR];simp,(uZ HS).1,(uZ HS).2⟩⟩
 case round=>
  clear HS
  obtain⟨pos,rm,rfl,hps,HX⟩:=hrel
  by_cases hp:pos<s.size
  ·have hnx:∀ty,(Instr.next (.pointer (some ⟨k,0,none⟩)) true ty).run Tryz.prog wr=_:=fun ty=>Lib.run_next_any_at wr k s pos ty (uZ HX).2.2 hp
   have hru:=rune_of s pos hp
   obtain⟨r,hr⟩:∃r,(Utf8.decode s pos).1=r:=⟨_,rfl⟩
   obtain⟨n,hn⟩:∃n,(Utf8.decode s pos).2=n:=⟨_,rfl⟩
   rw [hr,hn] at hnx
   have hWn:=Lib.below_iterAt (uZ HX).2.1 (show w.heap.size≤k by have:=uZ HK;omega) s (pos+n)
   have hin:=Lib.iterAt_heap wr k s pos (pos+n) (uZ HX).2.2
   obtain⟨wn,hwn⟩:∃wn,wr.iterAt k s (pos+n)=wn:=⟨_,rfl⟩
   rw [hwn] at hnx hWn hin
   have HIP:Hid (wr.iterPos k=pos):=hZ (by unfold World.iterPos;rw [(uZ HX).2.2])
   have HP:=hZ hp
   have hrle:(r:Int)≤2147483647:=by have:=decode_le s pos;omega
   obtain⟨c,hc⟩:∃c,s[pos]'hp=c:=⟨_,rfl⟩
   have hdr:=drop_at s pos hp
   rw [hc] at hdr hru
   rw [hr,hn] at hru
   have hn1:1≤n∧pos+n≤s.size:=by
    rcases hru with ⟨h1,h2⟩|⟨h1,h2,h3,h4⟩
    ·have e:n=1:=by rw [←hn,h2]
     omega
    ·exact⟨h2,h3⟩
   have hmeas:Hid (s.size - wn.iterPos k<s.size - wr.iterPos k):=hZ (by
    rw [uZ HIP,show wn.iterPos k=pos+n from by unfold World.iterPos;rw [hin]]
    omega)
   have HN1:=hZ hn1
   cases rm with
   |true=>
    by_cases h10:r=10
    ·have HN:Hid (R=pos+n+blk false (s.data.toList.drop (pos+n))∧Below w.heap.size w wn∧wn.heap[k]?=some (.stringIter s (pos+n))):=hZ ⟨by
      rcases hru with ⟨h1,h2⟩|⟨h1,h2,h3,h4⟩
      ·have e:n=1:=by rw [←hn,h2]
       have e2:r=c.toNat:=by rw [←hr,h2]
       rw [(uZ HX).1,hdr,e]
       simp only [blk]
       rw [decide_eq_false (by omega)]
       omega
      ·omega,hWn,hin⟩
     have q1:((r:Int) == 10)=true:=beq_iff_eq.2 (by omega)
     have q2:(r:Int)=10:=by omega
     have q3:((r:Int) != 10)=false:=by simp [q2]
     clear hr hn hwn hWn hin hru hdr hc HX h10 hn1
     go_wp2_with fail
     go_roundw
     case rel=>exact⟨pos+n,false,rfl,(uZ HN1).2,HN⟩
     case measure=>exact uZ hmeas
    ·have HN:Hid (R=pos+n+blk true (s.data.toList.drop (pos+n))∧Below w.heap.size w wn∧wn.heap[k]?=some (.stringIter s (pos+n))):=hZ ⟨by
      rcases hru with ⟨h1,h2⟩|⟨h1,h2,h3,h4⟩
      ·have e:n=1:=by rw [←hn,h2]
       have e2:r=c.toNat:=by rw [←hr,h2]
       rw [(uZ HX).1,hdr,e]
       simp only [blk]
       rw [decide_eq_true (by omega)]
       omega
      ·rw [(uZ HX).1,blk_rune n (s.data.toList.drop pos) (by rw [List.length_drop,len_list];omega) (fun j d hj hd=>by
        rw [List.getElem?_drop,at_list s (pos+j) (by omega)] at hd
        have:=h4 (pos+j) (by omega) (by omega)
        rw [get_bang s (pos+j) (by omega)] at this
        cases hd
        exact this),List.drop_drop]
       omega,hWn,hin⟩
     have q1:((r:Int) == 10)=false:=beq_eq_false_iff_ne.2 (by omega)
     have q2:¬(r:Int)=10:=by omega
     have q3:((r:Int) != 10)=true:=by simp [q2]
     clear hr hn hwn hWn hin hru hdr hc HX h10 hn1
     go_wp2_with fail
     go_roundw
     case rel=>exact⟨pos+n,true,rfl,(uZ HN1).2,HN⟩
     case measure=>exact uZ hmeas
   |false=>
    by_cases hb:r=32∨r=9∨r=10∨r=13
    ·have HN:Hid (R=pos+n+blk false (s.data.toList.drop (pos+n))∧Below w.heap.size w wn∧wn.heap[k]?=some (.stringIter s (pos+n))):=hZ ⟨by
      rcases hru with ⟨h1,h2⟩|⟨h1,h2,h3,h4⟩
      ·have e:n=1:=by rw [←hn,h2]
       have e2:r=c.toNat:=by rw [←hr,h2]
       have hB:lxB c=true:=decide_eq_true (by omega)
       rw [(uZ HX).1,hdr,e]
       simp only [blk,hB,if_true]
       omega
      ·omega,hWn,hin⟩
     clear hr hn hwn hWn hin hru hdr hc HX hn1
     rcases hb with h|h|h|h
     ·have p32:((r:Int) == 32)=true:=beq_iff_eq.2 (by omega)
      clear h
      go_wp2_with fail
      go_roundw
      case rel=>exact⟨pos+n,false,rfl,(uZ HN1).2,HN⟩
      case measure=>exact uZ hmeas
     ·have p32:((r:Int) == 32)=false:=beq_eq_false_iff_ne.2 (by omega)
      have n32:¬(r:Int)=32:=by omega
      have p9:((r:Int) == 9)=true:=beq_iff_eq.2 (by omega)
      clear h
      go_wp2_with fail
      go_roundw
      case rel=>exact⟨pos+n,false,rfl,(uZ HN1).2,HN⟩
      case measure=>exact uZ hmeas
     ·have p32:((r:Int) == 32)=false:=beq_eq_false_iff_ne.2 (by omega)
      have n32:¬(r:Int)=32:=by omega
      have p9:((r:Int) == 9)=false:=beq_eq_false_iff_ne.2 (by omega)
      have n9:¬(r:Int)=9:=by omega
      have p10:((r:Int) == 10)=true:=beq_iff_eq.2 (by omega)
      clear h
      go_wp2_with fail
      go_roundw
      case rel=>exact⟨pos+n,false,rfl,(uZ HN1).2,HN⟩
      case measure=>exact uZ hmeas
     ·have p32:((r:Int) == 32)=false:=beq_eq_false_iff_ne.2 (by omega)
      have n32:¬(r:Int)=32:=by omega
      have p9:((r:Int) == 9)=false:=beq_eq_false_iff_ne.2 (by omega)
      have n9:¬(r:Int)=9:=by omega
      have p10:((r:Int) == 10)=false:=beq_eq_false_iff_ne.2 (by omega)
      have n10:¬(r:Int)=10:=by omega
      have p13:((r:Int) == 13)=true:=beq_iff_eq.2 (by omega)
      clear h
      go_wp2_with fail
      go_roundw
      case rel=>exact⟨pos+n,false,rfl,(uZ HN1).2,HN⟩
      case measure=>exact uZ hmeas
    ·have q1:((r:Int) == 32)=false:=beq_eq_false_iff_ne.2 (by omega)
     have q2:((r:Int) == 9)=false:=beq_eq_false_iff_ne.2 (by omega)
     have q3:((r:Int) == 10)=false:=beq_eq_false_iff_ne.2 (by omega)
     have q4:((r:Int) == 13)=false:=beq_eq_false_iff_ne.2 (by omega)
     have q5:¬(r:Int)=32:=by omega
     have q6:¬(r:Int)=9:=by omega
     have q7:¬(r:Int)=10:=by omega
     have q8:¬(r:Int)=13:=by omega
     have hB:lxB c=false:=by
      unfold lxB
      rw [decide_eq_false_iff_not]
      rcases hru with ⟨h1,h2⟩|⟨h1,h2,h3,h4⟩
      ·have e2:r=c.toNat:=by rw [←hr,h2]
       omega
      ·have:=h4 pos (Nat.le_refl _) (by omega)
       rw [get_bang s pos hp,hc] at this
       omega
     have CP:=hZ (Tryz.strings_HasPrefix (s.extract pos s.size) ⟨#[47,47]⟩ wn)
     rw [ext_drop,bA_data,hdr,show (⟨#[47,47]⟩:ByteArray).data.toList=[47,47] from rfl,pre2] at CP
     rw [←hdr,←ext_drop] at CP
     have t1:(pos:Int)≤(s.size:Int):=by omega
     by_cases hq:c.toNat=47∧(s.data.toList.drop (pos+1)).head?=some 47
     ·rw [decide_eq_true hq] at CP
      have HN:Hid (R=pos+n+blk true (s.data.toList.drop (pos+n))∧Below w.heap.size w wn∧wn.heap[k]?=some (.stringIter s (pos+n))):=hZ ⟨by
       rcases hru with ⟨h1,h2⟩|⟨h1,h2,h3,h4⟩
       ·have e:n=1:=by rw [←hn,h2]
        rw [(uZ HX).1,hdr,e]
        simp only [blk,hB,hq,if_true,and_self,if_false,Bool.false_eq_true]
        omega
       ·have:=h4 pos (Nat.le_refl _) (by omega)
        rw [get_bang s pos hp,hc] at this
        omega,hWn,hin⟩
      clear hr hn hwn hWn hin hru hdr hc HX hn1 hb hB hq
      go_wp2_with fail
      refine(uZ CP).mono ?_
      rintro e u ⟨rfl,rfl⟩
      go_wp2_with fail
      go_roundw
      case rel=>exact⟨pos+n,true,rfl,(uZ HN1).2,HN⟩
      case measure=>exact uZ hmeas
     ·rw [decide_eq_false hq] at CP
      have HE:Hid (R=pos∧Below w.heap.size w wn):=hZ ⟨by
       rw [(uZ HX).1,hdr]
       simp only [blk,hB,hq,if_false,Bool.false_eq_true]
       omega,hWn⟩
      clear hr hn hwn hWn hin hru hdr hc HX hn1 hb hB hq
      go_wp2_with fail
      refine(uZ CP).mono ?_
      rintro e u ⟨rfl,rfl⟩
      go_wp2_with fail
      go_ret
      exact⟨by rw [(uZ HE).1];rfl,(uZ HE).2⟩
  ·have e:pos=s.size:=by omega
   have hnx:∀ty,(Instr.next (.pointer (some ⟨k,0,none⟩)) true ty).run Tryz.prog wr=_:=fun ty=>Lib.run_next_end_at wr k s pos ty (uZ HX).2.2 hp
   have HE:Hid (R=s.size∧Below w.heap.size w wr):=hZ ⟨by
    rw [(uZ HX).1,List.drop_of_length_le (by rw [len_list];omega),e]
    cases rm <;> simp [blk],(uZ HX).2.1⟩
   clear e HX hp hps
   go_wp2_with fail
   go_ret
   exact⟨by rw [(uZ HE).1];rfl,(uZ HE).2⟩
end Go.Proofs.YtilhlmmcdfoaoaaGreatDoor
