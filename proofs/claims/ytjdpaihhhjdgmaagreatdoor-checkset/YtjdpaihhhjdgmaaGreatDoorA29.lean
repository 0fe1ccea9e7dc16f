/-
  strings.Builder's copyCheck, WriteByte, WriteString at this program; conditions: Go's own limit on a text.
  The walks of lex's firstSign, firstBytes, first; conditions: a text of at most 8192 bytes; what the variables of strconv hold.
  The walks of lex's writePiece and Quote; conditions: a text of at most 2^30 bytes.
  The walks of lex's firstBytes, first; conditions: a text of at most 8192 bytes; what the variables of strconv hold.
-/
import Derived.Test.YtjdpaihhhjdgmaaGreatDoorA00
import Derived.Test.YtjdpaihhhjdgmaaGreatDoorShl
import Derived.Test.YtjdpaihhhjdgmaaGreatDoorChecked
import Derived.WalkKit
import Derived.WalkSpells
import Derived.Shelf.Strings.BuilderK
import Derived.Test.YtjdpaihhhjdgmaaGreatDoorA28
import Derived.Test.YtjdpaihhhjdgmaaGreatDoorA01
import Derived.Test.YtjdpaihhhjdgmaaGreatDoorA26
set_option linter.unusedVariables false
set_option linter.unusedSimpArgs false
set_option maxRecDepth 100000
set_option maxHeartbeats 8000000
namespace Go.Proofs.YtjdpaihhhjdgmaaGreatDoor
open Go.RowKit
set_option linter.unusedVariables false
theorem size_bld:(Tryz.prog.info? 134).map (·.size)=some 2:=by kernel_rfl
theorem lies_bld:liesAt Tryz.prog Tryz.prog.depth 134 (2 / Tryz.prog.cellsOf 134) 0 134 1=true:=by kernel_rfl
theorem info_byte:(Tryz.prog.info? 5).map (fun i=>(i.zero,i.size,i.bytes))=some (some (.int .u8 0),1,1):=by kernel_rfl
abbrev Bd (w:World) (B b:Nat) (l:List UInt8):Prop:=Lib.IsBuilderF 134 5 B b (Lib.byteCells l) w
structure Wr (B b:Nat) (l:List UInt8) (w w':World):Prop where
 bd:Bd w' B b l
 below:Below B w w'
 kept:Lib.OthersKept 5 (some b) w w'
theorem ccheck_used (b:Nat) (w:World) (h0:w.cell? ⟨b,0,none⟩=some (.pointer (some ⟨b,0,none⟩))) :
  Calls Tryz.prog 160 #[.pointer (some ⟨b,0,none⟩)] w fun e w'=>e=.returned (.tuple #[])∧w'=w:=by
 obtain⟨j,hj,_⟩:=Option.map_eq_some_iff.1 size_bld
 have hne:=Lib.run_neq_ptr_same (P:=Tryz.prog) w ⟨b,0,none⟩ Tryz.underlying131 hj
 clear hj
 go_enter Tryz.func160,Tryz.ntmps160
 go_wp2_with fail
 go_end0
 exact⟨rfl,rfl⟩
theorem ccheck_fresh (b:Nat) (w:World) (h0:w.cell? ⟨b,0,none⟩=some (.pointer none)) (hsh:w.shape? b=some (134,2)) (hfz:w.frozen? ⟨b,0,none⟩=false) :
  Calls Tryz.prog 160 #[.pointer (some ⟨b,0,none⟩)] w fun e w'=>e=.returned (.tuple #[])∧w'=w.setCell ⟨b,0,none⟩ (.pointer (some ⟨b,0,none⟩)):=by
 obtain⟨j,hj,hjs⟩:=Option.map_eq_some_iff.1 size_bld
 have r1:=Lib.run_to_unsafe (P:=Tryz.prog) w ⟨b,0,none⟩ Tryz.underlying131 Tryz.underlying163 hj (by rw [hjs];decide) hsh (Nat.zero_lt_succ 1)
 have r2:=Lib.run_from_unsafe (P:=Tryz.prog) w ⟨b,0,none⟩ Tryz.underlying163 Tryz.underlying131 hj hsh lies_bld
 clear hj hsh
 go_enter Tryz.func160,Tryz.ntmps160
 go_wp2_with fail
 rw [run_callFunc_extern Tryz.func176 (by kernel_rfl) (by kernel_rfl) (by kernel_rfl) (e:=Extern.AbiNoEscape.same) (by kernel_rfl)]
 rw [Lib.run_noEscape]
 simp only [Result.andThen]
 rw [Oper.upon_value]
 go_wp2_with fail
 go_end0
 exact⟨rfl,rfl⟩
theorem ccheck_any (B b:Nat) (l:List UInt8) (w:World) (h:Bd w B b l) :
  Calls Tryz.prog 160 #[.pointer (some ⟨b,0,none⟩)] w fun e w'=>e=.returned (.tuple #[])∧Lib.BuilderAtF 134 5 B b (.pointer (some ⟨b,0,none⟩)) (Lib.byteCells l) w'∧Below B w w'∧Lib.OthersKept 5 (some b) w w':=by
 rcases h with h|h
 ·refine(ccheck_fresh b w h.cell0 h.shape h.frozen0).mono ?_
  rintro e w' ⟨rfl,rfl⟩
  exact⟨rfl,h.used _,(Below.refl B w).setCell (p:=⟨b,0,none⟩) h.1 _,(Lib.OthersKept.refl _ _ w).setCell ⟨b,0,none⟩ rfl _⟩
 ·refine(ccheck_used b w h.cell0).mono ?_
  rintro e w' ⟨rfl,rfl⟩
  exact⟨rfl,h,Below.refl B _,Lib.OthersKept.refl _ _ _⟩
theorem byteCells_one (l:List UInt8) (c:UInt8):Lib.byteCells l++[Value.int .u8 (c.toNat:Int)]=Lib.byteCells (l++[c]):=by simp [Lib.byteCells]
theorem wbyte_any (B b:Nat) (l:List UInt8) (c:UInt8) (w:World) (h:Bd w B b l) (hlen:l.length+1≤140737488355328) (hBw:B≤w.heap.size) :
  Calls Tryz.prog 142 #[.pointer (some ⟨b,0,none⟩),.int .u8 (c.toNat:Int)] w fun e w'=>e=.returned .nilIface∧Wr B b (l++[c]) w w':=by
 obtain⟨i0,hi,hz0,hz1,hz2⟩:=info_parts info_byte
 have CC:=hZ (ccheck_any B b l w h)
 obtain⟨z,hz⟩:∃z:Int,(c.toNat:Int)=z:=⟨_,rfl⟩
 have HZ:=hZ hz
 rw [hz]
 clear hz h
 go_enter Tryz.func142,Tryz.ntmps142
 go_wp2_with fail
 refine(uZ CC).mono ?_
 rintro e w1 ⟨rfl,h1,hb1,hk1⟩
 obtain⟨hB,v,hbk,hown,hne⟩:=h1
 have c0:w1.cell? ⟨b,0,none⟩=some (.pointer (some ⟨b,0,none⟩)):=by rw [Lib.cell_of_heap hbk];rfl
 have c1:w1.cell? ⟨b,1,none⟩=some v:=by rw [Lib.cell_of_heap hbk];rfl
 have hll:=Lib.byteCells_length l
 go_wp2_with (at_builtin;refine wpList_append_ownF _ rfl _ _ 132 rfl B 5 i0 (.int .u8 0) 1 1 Tryz.underlying132 hi hz0 hz1 hz2 rfl (by decide) _ _ _ rfl (hown.alloc _) ⟨w1.heap.size,0,none⟩ 1 1 [.int .u8 z] rfl rfl ?c1 ?c2 ?c3 ?c4 ?c5 ?_)
 case c1=>
  intro j u hj
  match j,hj with
  |0,hj=>simp at hj;subst hj;simp [Addr.add]
 case c2=>intro u hu;simp at hu;subst hu;rfl
 case c3=>unfold maxLen;omega
 case c4=>omega
 case c5=>have:=hb1.size;simp;omega
 intro v' w2 hown' hgrow _
 have hlt:b<w1.heap.size:=(Array.getElem?_eq_some_iff.1 hbk).1
 have hb2:w2.heap[b]?=some (.cells #[.pointer (some ⟨b,0,none⟩),v] 134 (0,0)):=by
  rw [hgrow.block b (by simp;omega) (fun e=>hne e.symm),Lib.alloc_old w1 _ b hlt]
  exact hbk
 have d0:w2.cell? ⟨b,0,none⟩=some (.pointer (some ⟨b,0,none⟩)):=by rw [Lib.cell_of_heap hb2];rfl
 have d1:w2.cell? ⟨b,1,none⟩=some v:=by rw [Lib.cell_of_heap hb2];rfl
 have f1:w2.frozen? ⟨b,1,none⟩=false:=Lib.frozen_of_heap hb2 1
 obtain⟨ao,n',cap,rfl⟩:∃ao n' cap,v'=.slice ao n' cap:=by
  rcases hown'.2 with ⟨hv,_⟩|⟨g,cap,cur,fz,hv,_⟩
  ·exact⟨_,_,_,hv⟩
  ·exact⟨_,_,_,hv⟩
 have HX:Hid (Wr B b (l++[c]) w (w2.setCell ⟨b,1,none⟩ (.slice ao n' cap))):=hZ (by
  have ez:Lib.byteCells l++[Value.int .u8 z]=Lib.byteCells (l++[c]):=by rw [←uZ HZ];exact byteCells_one l c
  refine⟨.inr ?_,?_,?_⟩
  ·exact Lib.BuilderAtF.put (T:=134) (e:=5) hB hb2 (bs':=Lib.byteCells (l++[c])) (by rw [Lib.byteCells_length,List.length_append,←ez];exact hown') (by decide)
  ·exact((hb1.alloc (by have:=hb1.size;omega) _).grown hgrow (by have:=hb1.size;simp;omega) (fun k hk=>(hown.lt k hk).1)).setCell (p:=⟨b,1,none⟩) hB _
  ·exact((hk1.alloc _).grown hgrow (Lib.ownsRowF_kind (hown.alloc _))).setCell ⟨b,1,none⟩ rfl _)
 clear hown' hgrow hb2 c0 c1 hbk hown hb1 hk1 hz0 hz1 hz2 hi HZ hll
 go_wp2_with fail
 go_ret
 exact⟨rfl,uZ HX⟩
set_option linter.unusedSimpArgs false
theorem fSign_any (s:ByteArray) (h0:0<s.size) (hs:s.size≤8192) (w:World) :
  Calls Tryz.prog 109 #[.string s] w fun e w'=>e=.returned (fstV (sgnT s.data.toList))∧Below w.heap.size w w':=by
 obtain⟨w1,hw1,hb1,hz1,hbx⟩:=tok_box w
 obtain⟨g,hg⟩:=eX (w.heap.size)
 have HG:=hZ hg
 rw [hg] at hbx
 have HBX:=hZ hbx
 have hs2:(s.size:Int)≤8192:=by omega
 have hK1:=fun u=>isSign_any (s.extract 0 1) u
 have hC1:=fun u=>str_clone (s.extract 0 1) u (by rw [ByteArray.size_extract];omega)
 have hK2:=fun u=>isSign_any (s.extract 0 2) u
 have hC2:=fun u=>str_clone (s.extract 0 2) u (by rw [ByteArray.size_extract];omega)
 have e1:=ext_take s 1
 have e2:=ext_take s 2
 rw [e1,bA_data,←e1] at hK1
 rw [e2,bA_data,←e2] at hK2
 have hsg:sgN s.data.toList=if 2≤s.size∧sgB (s.data.toList.take 2)=true then 2 else if sgB (s.data.toList.take 1)=true then 1 else 0:=rfl
 obtain⟨V1,hV1⟩:=eX (s.extract 0 1)
 obtain⟨V2,hV2⟩:=eX (s.extract 0 2)
 rw [hV1] at hK1 hC1 e1
 rw [hV2] at hK2 hC2 e2
 have C1:=hZ hC1
 have C2:=hZ hC2
 have hE2:2≤s.size∧sgB (s.data.toList.take 2)=true→fstV (sgnT s.data.toList)=.tuple #[.agg #[.int .i64 5,.string V2,.int .i64 0,.int .i64 0],.int .i64 2,.int .i64 0]:=fun h=>by
  rw [if_pos h] at hsg
  unfold sgnT
  rw [hsg,if_neg (by decide),e2]
  rfl
 have hE1:¬(2≤s.size∧sgB (s.data.toList.take 2)=true)→sgB (s.data.toList.take 1)=true→fstV (sgnT s.data.toList)=.tuple #[.agg #[.int .i64 5,.string V1,.int .i64 0,.int .i64 0],.int .i64 1,.int .i64 0]:=fun h h'=>by
  rw [if_neg h,if_pos h'] at hsg
  unfold sgnT
  rw [hsg,if_neg (by decide),e1]
  rfl
 have hE0:¬(2≤s.size∧sgB (s.data.toList.take 2)=true)→sgB (s.data.toList.take 1)=false→fstV (sgnT s.data.toList)=.tuple #[.agg #[.int .i64 0,.string ⟨#[]⟩,.int .i64 0,.int .i64 0],.int .i64 0,.int .i64 161]:=fun h h'=>by
  rw [if_neg h,if_neg (by rw [h'];simp)] at hsg
  unfold sgnT
  rw [hsg,if_pos rfl]
  rfl
 clear hz1
 obtain⟨R,hR⟩:=eX (fstV (sgnT s.data.toList))
 rw [hR] at hE2 hE1 hE0 ⊢
 have H2:=hZ hE2
 have H1:=hZ hE1
 have H0:=hZ hE0
 obtain⟨B1,hB1⟩:=eX (sgB (s.data.toList.take 1))
 obtain⟨B2,hB2⟩:=eX (sgB (s.data.toList.take 2))
 rw [hB1] at hK1 H1 H0
 rw [hB2] at hK2 H2 H1 H0
 have K1:=hZ hK1
 have K2:=hZ hK2
 have HV:=hZ (And.intro hV1 hV2)
 clear hE2 hE1 hE0 hR hsg e1 e2 hbx hb1 hB1 hB2 hK1 hK2 hC1 hC2 hV1 hV2
 have walkIt:∀m:Nat,(m=2∧2≤s.size∨m=1∧s.size=1)→(min 2 (s.size:Int)=(m:Int))→Calls Tryz.prog 109 #[.string s] w fun e w'=>e=.returned R∧Below w.heap.size w w':=by
  intro m hm hmin
  have HM:=hZ hm
  clear hm
  go_enter Tryz.func109,Tryz.ntmps109
  go_wp2_with fail
  go_loopw [5] (fun x wr=>∃k:Nat,x=.int .i64 (k:Int)∧Hid (Below w1.heap.size w1 wr∧((k=2∧2≤s.size)∨(k=1∧¬(2≤s.size∧B2=true))∨(k=0∧¬(2≤s.size∧B2=true)∧B1=false)))) (fun x _=>(intOf x).toNat)
  case atStart=>
   refine⟨m,by first|rfl|(rw [hmin]),hZ ⟨Below.refl _ _,?_⟩⟩
   rcases uZ HM with ⟨rfl,h⟩|⟨rfl,h⟩
   ·exact Or.inl ⟨rfl,h⟩
   ·exact Or.inr (Or.inl ⟨rfl,by omega⟩)
  case round=>
   clear hmin HM
   obtain⟨k,rfl,HX⟩:=hrel
   obtain⟨hb,hcs⟩:=uZ HX
   have HB:=hZ hb
   clear hb HX
   rcases hcs with ⟨rfl,h2⟩|⟨rfl,h2⟩|⟨rfl,h2,h3⟩
   ·have hV:=(uZ HV).2
    have j1:(2:Int)≤(s.size:Int):=by omega
    cases B2 with
    |true=>
     have HR:=hZ (uZ H2 ⟨h2,rfl⟩)
     clear h2
     go_wp2_with fail
     refine((uZ K2) _).mono ?_
     rintro e u ⟨rfl,rfl⟩
     go_wp2_with fail
     refine((uZ C2) _).mono ?_
     rintro e u2 ⟨rfl,b2⟩
     have HU2:Hid (Below w1.heap.size w1 u2):=hZ ((uZ HB).trans (b2.mono (uZ HB).size))
     clear b2
     have tok:True:=trivial
     go_wp2_with (first|(have _t:=tok;refine wpList_put_arr rfl 85 (.tmp 2) (.tmp 21) rfl g _ _ rfl rfl (uZ HBX u2 (uZ HU2)).1 rfl size_tok (one_tok _ _ _ _) ?_;clear tok;intro w7 M7))
     exact bodyPost_ret (ret_ctt (p:=2) (u:=3) (v:=4) (T:=85) rfl _ _ g _ _ _ rfl (uZ M7).at' Tryz.underlying85 rfl size_tok) rfl ⟨by rw [uZ HR];rfl,by first|exact(uZ M7).below w.heap.size w (by rw [uZ HG];exact(uZ HBX u2 (uZ HU2)).2) (by have:=uZ HG;omega)|exact(uZ M7).below g w (uZ HBX u2 (uZ HU2)).2 (Nat.le_refl _)⟩
    |false=>
     clear h2
     go_wp2_with fail
     refine((uZ K2) _).mono ?_
     rintro e u ⟨rfl,rfl⟩
     go_wp2_with fail
     go_roundw
     case rel=>exact⟨1,by go_num,hZ ⟨uZ HB,Or.inr (Or.inl ⟨rfl,fun h=>by cases h.2⟩)⟩⟩
     case measure=>simp [intOf]
   ·have hV:=(uZ HV).1
    have j1:(1:Int)≤(s.size:Int):=by omega
    have HN:=hZ h2
    clear h2
    cases B1 with
    |true=>
     have HR:=hZ (uZ H1 (uZ HN) rfl)
     go_wp2_with fail
     refine((uZ K1) _).mono ?_
     rintro e u ⟨rfl,rfl⟩
     go_wp2_with fail
     refine((uZ C1) _).mono ?_
     rintro e u2 ⟨rfl,b2⟩
     have HU2:Hid (Below w1.heap.size w1 u2):=hZ ((uZ HB).trans (b2.mono (uZ HB).size))
     clear b2
     have tok:True:=trivial
     go_wp2_with (first|(have _t:=tok;refine wpList_put_arr rfl 85 (.tmp 2) (.tmp 21) rfl g _ _ rfl rfl (uZ HBX u2 (uZ HU2)).1 rfl size_tok (one_tok _ _ _ _) ?_;clear tok;intro w7 M7))
     exact bodyPost_ret (ret_ctt (p:=2) (u:=3) (v:=4) (T:=85) rfl _ _ g _ _ _ rfl (uZ M7).at' Tryz.underlying85 rfl size_tok) rfl ⟨by rw [uZ HR];rfl,by first|exact(uZ M7).below w.heap.size w (by rw [uZ HG];exact(uZ HBX u2 (uZ HU2)).2) (by have:=uZ HG;omega)|exact(uZ M7).below g w (uZ HBX u2 (uZ HU2)).2 (Nat.le_refl _)⟩
    |false=>
     go_wp2_with fail
     refine((uZ K1) _).mono ?_
     rintro e u ⟨rfl,rfl⟩
     go_wp2_with fail
     go_roundw
     case rel=>exact⟨0,by go_num,hZ ⟨uZ HB,Or.inr (Or.inr ⟨rfl,uZ HN,by first|rfl|trivial⟩)⟩⟩
     case measure=>simp [intOf]
   ·subst h3
    have HR:=hZ (uZ H0 h2 rfl)
    clear h2
    have tok:True:=trivial
    go_wp2_with (first|(have _t:=tok;refine wpList_put_arr rfl 85 (.tmp 2) (.tmp 23) rfl g _ _ rfl rfl (uZ HBX _ (uZ HB)).1 rfl size_tok (one_tok _ _ _ _) ?_;clear tok;intro w7 M7))
    exact bodyPost_ret (ret_ctt (p:=2) (u:=3) (v:=4) (T:=85) rfl _ _ g _ _ _ rfl (uZ M7).at' Tryz.underlying85 rfl size_tok) rfl ⟨by rw [uZ HR];rfl,by first|exact(uZ M7).below w.heap.size w (by rw [uZ HG];exact(uZ HBX _ (uZ HB)).2) (by have:=uZ HG;omega)|exact(uZ M7).below g w (uZ HBX _ (uZ HB)).2 (Nat.le_refl _)⟩
 by_cases hsz:s.size<2
 ·exact walkIt 1 (Or.inr ⟨rfl,by omega⟩) (by omega)
 ·exact walkIt 2 (Or.inl ⟨rfl,by omega⟩) (by omega)
theorem Bd.later {w w':World} {B b:Nat} {l:List UInt8} (h:Bd w B b l) (hb:Below w.heap.size w w'):Bd w' B b l:=by
 have one:∀p,Lib.BuilderAtF 134 5 B b p (Lib.byteCells l) w→Lib.BuilderAtF 134 5 B b p (Lib.byteCells l) w':=fun p hp=>by
  obtain⟨hB,v,hbk,hown,hne⟩:=hp
  refine⟨hB,v,(hb.block b (Array.getElem?_eq_some_iff.1 hbk).1).trans hbk,⟨hown.1,?_⟩,hne⟩
  rcases hown.2 with hn|⟨g,cap,cur,fz,hv,hbg,hg,rest⟩
  ·exact .inl hn
  ·exact .inr ⟨g,cap,cur,fz,hv,hbg,(hb.block g (Array.getElem?_eq_some_iff.1 hg).1).trans hg,rest⟩
 exact h.elim (fun x=>.inl (one _ x)) (fun x=>.inr (one _ x))
theorem blen_any (B b:Nat) (l:List UInt8) (w:World) (h:Bd w B b l) :
  Calls Tryz.prog 141 #[.pointer (some ⟨b,0,none⟩)] w fun e w'=>e=.returned (.int .i64 (l.length:Int))∧w'=w:=by
 have key:∀p,Lib.BuilderAtF 134 5 B b p (Lib.byteCells l) w→∃ao cap,w.cell? ⟨b,1,none⟩=some (.slice ao l.length cap):=fun p hp=>by
  obtain⟨hB,v,hbk,hown,hne⟩:=hp
  have c1:w.cell? ⟨b,1,none⟩=some v:=by rw [Lib.cell_of_heap hbk];rfl
  have hl:=Lib.byteCells_length l
  rcases hown.2 with ⟨hv,hn⟩|⟨g,cap,cur,fz,hv,_⟩
  ·refine⟨none,0,?_⟩
   rw [c1,hv,show l.length=0 by omega]
  ·refine⟨some ⟨g,0,none⟩,cap,?_⟩
   rw [c1,hv,hl]
 obtain⟨ao,cap,c1⟩:∃ao cap,w.cell? ⟨b,1,none⟩=some (.slice ao l.length cap):=h.elim (key _) (key _)
 clear h key
 go_enter Tryz.func141,Tryz.ntmps141
 go_wp2_with fail
 go_ret
 exact⟨rfl,rfl⟩
theorem wbyte_lit (B b:Nat) (l:List UInt8) (c:UInt8) (z:Int) (hz:(c.toNat:Int)=z) (w:World) (h:Bd w B b l) (hlen:l.length+1≤140737488355328) (hBw:B≤w.heap.size) :
  Calls Tryz.prog 142 #[.pointer (some ⟨b,0,none⟩),.int .u8 z] w fun e w'=>e=.returned .nilIface∧Wr B b (l++[c]) w w':=by
 rw [←hz]
 exact wbyte_any B b l c w h hlen hBw
def preP (out:List UInt8) (p:Nat):Option (List UInt8 × Nat)→Option (List UInt8 × Nat)
 |none=>none
 |some (bs,m)=>some (out++bs,p+m)
theorem preP_add (a b:List UInt8) (p n:Nat) (x:Option (List UInt8 × Nat)):preP a p (preP b n x)=preP (a++b) (p+n) x:=by
 cases x with
 |none=>rfl
 |some y=>simp [preP,Nat.add_assoc]
theorem pcs_next (f:Nat) (c:UInt8) (r:List UInt8) (b:UInt8) (n:Nat) (h:¬c.toNat=34) (hp:pcL (c :: r)=some (b,n)):pcs (f+1) (c :: r)=preP [b] n (pcs f ((c :: r).drop n)):=by
 conv=>lhs;unfold pcs
 rw [if_neg h,hp]
 simp only
 cases pcs f ((c :: r).drop n) with
 |none=>rfl
 |some y=>rfl
theorem pcs_bad (f:Nat) (c:UInt8) (r:List UInt8) (h:¬c.toNat=34) (hp:pcL (c :: r)=none):pcs (f+1) (c :: r)=none:=by
 unfold pcs
 rw [if_neg h,hp]
theorem pcs_end (f:Nat) (c:UInt8) (r:List UInt8) (h:c.toNat=34):pcs (f+1) (c :: r)=some ([],1):=by
 unfold pcs
 rw [if_pos h]
theorem bytC_long {out:List UInt8} {p:Nat} (x:Option (List UInt8 × Nat)) (h:2048≤out.length):bytC (preP out p x)=none:=by
 cases x with
 |none=>rfl
 |some y=>
  simp only [preP,bytC]
  rw [if_neg (by rw [List.length_append];omega)]
theorem fBytes_any (s:ByteArray) (r:List UInt8) (c0:UInt8) (hsr:s.data.toList=c0 :: r) (hs:s.size≤8192) (w:World) :
  Calls Tryz.prog 108 #[.string s] w fun e w'=>e=.returned (fstV (bytT r))∧Below w.heap.size w w':=by
 obtain⟨w1,hw1,hb1,hz1,hbx⟩:=tok_box w
 obtain⟨g,hg⟩:=eX (w.heap.size)
 have HG:=hZ hg
 rw [hg] at hbx
 have HBX:=hZ hbx
 obtain⟨B,hB⟩:=eX (w1.heap.size)
 obtain⟨w2,hw2⟩:=eX (w1.alloc (.cells #[.pointer none,.slice none 0 0] 134))
 have hb2:Below B w1 w2:=by rw [←hw2,←hB];exact(Below.refl _ _).alloc (Nat.le_refl _) _
 have hz2:w2.heap.size=B+1:=by rw [←hw2,←hB];simp
 have F1:Bd w2 B B []:=by
  have h:=Lib.IsBuilderF.of (Lib.fresh_isBuilder 134 5 w1)
  rw [hw2,hB] at h
  exact h
 have hlen:s.size=r.length+1:=by rw [←len_list,hsr];rfl
 have hs2:(s.size:Int)≤8192:=by omega
 have HBOX:Hid (∀u,Below B w2 u→u.heap[g]?=some (.cells #[.int .i64 0,.string ⟨#[]⟩,.int .i64 0,.int .i64 0] 85 (0,0))∧Below g w u∧B+1≤u.heap.size):=hZ (fun u hu=>by
  have h1:=uZ HBX u (by rw [hB];exact hb2.trans hu)
  exact⟨h1.1,h1.2,by have:=hu.size;omega⟩)
 have HF:=hZ F1
 obtain⟨R,hR⟩:=eX (fstV (bytT r))
 have HR:Hid (∀x,bytV r=x→R=fstV (match x with|none=>.error 163|some (bs,m)=>.ok (⟨4,bs,0,0⟩,m))):=hZ (fun x hx=>by
  rw [←hR]
  unfold bytT
  rw [hx]
  rfl)
 rw [hR]
 have HSR:=hZ (And.intro hsr hlen)
 have HBB:=hZ hB
 clear hR hsr F1 hbx hb1 hb2 HBX hz1 hz2 hlen
 go_enter Tryz.func108,Tryz.ntmps108
 go_wp2_with fail
 go_loopw [6] (fun x wr=>∃(q f:Nat) (out:List UInt8),x=.int .i64 (q:Int)∧1≤q∧q≤s.size∧Hid (out.length≤2047∧(s.data.toList.drop q).length<f∧pcs (r.length+1) r=preP out (q - 1) (pcs f (s.data.toList.drop q))∧Bd wr B B out∧Below B w2 wr)) (fun x _=>s.size - (intOf x).toNat)
 case atStart=>exact⟨1,r.length+1,[],by first|rfl|go_num,Nat.le_refl _,by have:=(uZ HSR).2;omega,hZ ⟨by simp,by rw [(uZ HSR).1];simp,by
   rw [(uZ HSR).1]
   simp only [List.drop_succ_cons,List.drop_zero]
   cases pcs (r.length+1) r with
   |none=>rfl
   |some y=>simp [preP],uZ HF,Below.refl _ _⟩⟩
 case round=>
  clear HF
  obtain⟨q,f,out,rfl,hq1,hqs,HX⟩:=hrel
  by_cases hlt:q<s.size
  ·have j1:(q:Int)<(s.size:Int):=by omega
   have hdq:=drop_at s q hlt
   obtain⟨c,hc⟩:=eX (s[q]'hlt)
   obtain⟨z,hz⟩:∃z:Nat,c.toNat=z:=⟨_,rfl⟩
   have hzi:((s[q]'hlt).toNat:Int)=(z:Int):=by rw [hc,hz]
   rw [hc] at hdq
   obtain⟨f',rfl⟩:∃f',f=f'+1:=⟨f - 1,by have:=(uZ HX).2.1;omega⟩
   have HC:=hZ (And.intro hz hdq)
   by_cases h34:z=34
   ·-- the closing quote
    have k1:((z:Int) == 34)=true:=beq_iff_eq.2 (by omega)
    have k2:((z:Int) != 34)=false:=by simp [show (z:Int)=34 by omega]
    have kne:((q:Int) == (s.size:Int))=false:=beq_eq_false_iff_ne.2 (by omega)
    have kn2:¬(q:Int)=(s.size:Int):=by omega
    have HE:Hid (R=.tuple #[.agg #[.int .i64 4,.string ⟨out.toArray⟩,.int .i64 0,.int .i64 0],.int .i64 ((q:Int)+1),.int .i64 0]):=hZ (by
     have h1:=(uZ HX).2.2.1
     rw [(uZ HC).2,pcs_end f' c _ (by have:=(uZ HC).1;omega)] at h1
     have h2:bytV r=some (out,q+1):=by
      unfold bytV
      rw [h1]
      simp only [preP,List.append_nil,bytC]
      rw [if_pos (uZ HX).1]
      congr 2
      omega
     rw [uZ HR _ h2]
     rfl)
    have CS:=hZ (Tryz.Builder_String_any_k B B out wr (uZ HX).2.2.2.1 (by have:=(uZ HBOX wr (uZ HX).2.2.2.2).2.2;omega))
    have HU:=hZ (uZ HX).2.2.2.2
    clear HX hc hz hdq h34
    go_wp2_with fail
    refine(uZ CS).mono ?_
    rintro e u2 ⟨rfl,_,b2,_⟩
    have HU2:Hid (Below B w2 u2):=hZ ((uZ HU).trans b2)
    clear b2 CS
    have tok:True:=trivial
    go_wp2_with (first|(have _t:=tok;refine wpList_put_arr rfl 85 (.tmp 2) (.tmp 44) rfl g _ _ rfl rfl (uZ HBOX u2 (uZ HU2)).1 rfl size_tok (one_tok _ _ _ _) ?_;clear tok;intro w7 M7))
    exact bodyPost_ret (ret_ctt (p:=2) (u:=3) (v:=4) (T:=85) rfl _ _ g _ _ _ rfl (uZ M7).at' Tryz.underlying85 rfl size_tok) rfl ⟨by rw [uZ HE];rfl,by first|exact(uZ M7).below w.heap.size w (by rw [uZ HG];exact(uZ HBOX u2 (uZ HU2)).2.1) (by have:=uZ HG;omega)|exact(uZ M7).below g w (uZ HBOX u2 (uZ HU2)).2.1 (Nat.le_refl _)⟩
   ·have k1:((z:Int) == 34)=false:=beq_eq_false_iff_ne.2 (by omega)
    have k2:((z:Int) != 34)=true:=by simp;omega
    have k3:¬(z:Int)=34:=by omega
    have hed:=ext_drop s q
    have hes:(s.extract q s.size).size=s.size - q:=by rw [ByteArray.size_extract];omega
    have CP:=hZ (piece_any (s.extract q s.size) (by omega) (by omega) wr)
    rw [hed,bA_data,←hed] at CP
    have t1:(q:Int)≤(s.size:Int):=by omega
    cases hp:pcL (s.data.toList.drop q) with
    |none=>
     rw [hp] at CP
     have CP2:Hid (Calls Tryz.prog 140 #[.string (s.extract q s.size)] wr fun e w'=>e=.returned (.tuple #[.int .u8 0,.int .i64 0])∧Below wr.heap.size wr w'):=CP
     have HE:Hid (R=.tuple #[.agg #[.int .i64 0,.string ⟨#[]⟩,.int .i64 0,.int .i64 0],.int .i64 0,.int .i64 163]):=hZ (by
      have h1:=(uZ HX).2.2.1
      rw [(uZ HC).2] at h1 hp
      rw [pcs_bad f' c _ (by have:=(uZ HC).1;omega) hp] at h1
      have h2:bytV r=none:=by unfold bytV;rw [h1];rfl
      rw [uZ HR _ h2]
      rfl)
     have HU:=hZ (uZ HX).2.2.2.2
     clear HX hc hz hdq h34 hp CP hed hes
     go_wp2_with fail
     refine(uZ CP2).mono ?_
     rintro e u2 ⟨rfl,b2⟩
     have HU2:Hid (Below B w2 u2):=hZ ((uZ HU).trans (b2.mono (by have:=(uZ HBOX wr (uZ HU)).2.2;omega)))
     clear b2 CP2
     have tok:True:=trivial
     go_wp2_with (first|(have _t:=tok;refine wpList_put_arr rfl 85 (.tmp 2) (.tmp 32) rfl g _ _ rfl rfl (uZ HBOX u2 (uZ HU2)).1 rfl size_tok (one_tok _ _ _ _) ?_;clear tok;intro w7 M7))
     exact bodyPost_ret (ret_ctt (p:=2) (u:=3) (v:=4) (T:=85) rfl _ _ g _ _ _ rfl (uZ M7).at' Tryz.underlying85 rfl size_tok) rfl ⟨by rw [uZ HE];rfl,by first|exact(uZ M7).below w.heap.size w (by rw [uZ HG];exact(uZ HBOX u2 (uZ HU2)).2.1) (by have:=uZ HG;omega)|exact(uZ M7).below g w (uZ HBOX u2 (uZ HU2)).2.1 (Nat.le_refl _)⟩
    |some y=>
     obtain⟨b,n⟩:=y
     have hnp:=pcL_pos hp
     rw [List.length_drop,len_list] at hnp
     rw [hp,pcV_some] at CP
     obtain⟨y,hy⟩:∃y:Int,(b.toNat:Int)=y:=⟨_,rfl⟩
     rw [hy] at CP
     have n1:((n:Int) == 0)=false:=beq_eq_false_iff_ne.2 (by omega)
     have n2:¬(n:Int)=0:=by omega
     have HN:=hZ hnp
     have HY:=hZ hy
     have HNX:Hid (pcs (r.length+1) r=preP (out++[b]) (q+n - 1) (pcs f' (s.data.toList.drop (q+n)))):=hZ (by
      have h1:=(uZ HX).2.2.1
      rw [(uZ HC).2] at h1 hp
      rw [pcs_next f' c _ b n (by have:=(uZ HC).1;omega) hp,preP_add,←(uZ HC).2,List.drop_drop] at h1
      rw [h1]
      congr 1
      omega)
     by_cases hfull:out.length=2047
     ·have HE:Hid (R=.tuple #[.agg #[.int .i64 0,.string ⟨#[]⟩,.int .i64 0,.int .i64 0],.int .i64 0,.int .i64 163]):=hZ (by
       have h2:bytV r=none:=by
        unfold bytV
        rw [uZ HNX]
        exact bytC_long _ (by rw [List.length_append];simp;omega)
       rw [uZ HR _ h2]
       rfl)
      have CL:=hZ (fun u (hu:Bd u B B out)=>blen_any B B out u hu)
      obtain⟨o,ho⟩:=eX (out.length)
      rw [ho] at CL
      have o1:((o:Int) == 2047)=true:=beq_iff_eq.2 (by omega)
      have o2:(o:Int)=2047:=by omega
      have HXX:=HX
      clear HX hc hz hdq h34 hp hed hes hnp hy hfull ho
      go_wp2_with fail
      refine(uZ CP).mono ?_
      rintro e u2 ⟨rfl,b2⟩
      have HD2:=hZ (Bd.later (uZ HXX).2.2.2.1 b2)
      have HU2:Hid (Below B w2 u2):=hZ ((uZ HXX).2.2.2.2.trans (b2.mono (by have:=(uZ HBOX wr (uZ HXX).2.2.2.2).2.2;omega)))
      clear b2 CP
      go_wp2_with fail
      refine((uZ CL) u2 (uZ HD2)).mono ?_
      rintro e u3 ⟨rfl,rfl⟩
      have tok:True:=trivial
      go_wp2_with (first|(have _t:=tok;refine wpList_put_arr rfl 85 (.tmp 2) (.tmp 32) rfl g _ _ rfl rfl (uZ HBOX _ (uZ HU2)).1 rfl size_tok (one_tok _ _ _ _) ?_;clear tok;intro w7 M7))
      exact bodyPost_ret (ret_ctt (p:=2) (u:=3) (v:=4) (T:=85) rfl _ _ g _ _ _ rfl (uZ M7).at' Tryz.underlying85 rfl size_tok) rfl ⟨by rw [uZ HE];rfl,by first|exact(uZ M7).below w.heap.size w (by rw [uZ HG];exact(uZ HBOX _ (uZ HU2)).2.1) (by have:=uZ HG;omega)|exact(uZ M7).below g w (uZ HBOX _ (uZ HU2)).2.1 (Nat.le_refl _)⟩
     ·have CL:=hZ (fun u (hu:Bd u B B out)=>blen_any B B out u hu)
      have HOL:Hid (out.length+1≤2047):=hZ (by have:=(uZ HX).1;omega)
      have CB:=hZ (fun u (hu:Bd u B B out) (hh:B≤u.heap.size)=>wbyte_lit B B out b y hy u hu (by have:=uZ HOL;omega) hh)
      obtain⟨o,ho⟩:=eX (out.length)
      rw [ho] at CL
      have o1:((o:Int) == 2047)=false:=beq_eq_false_iff_ne.2 (by omega)
      have o2:¬(o:Int)=2047:=by omega
      have HXX:=HX
      clear HX hc hz hdq h34 hp hed hes hnp hy hfull ho
      go_wp2_with fail
      refine(uZ CP).mono ?_
      rintro e u2 ⟨rfl,b2⟩
      have HD2:=hZ (Bd.later (uZ HXX).2.2.2.1 b2)
      have HU2:Hid (Below B w2 u2):=hZ ((uZ HXX).2.2.2.2.trans (b2.mono (by have:=(uZ HBOX wr (uZ HXX).2.2.2.2).2.2;omega)))
      clear b2 CP
      go_wp2_with fail
      refine((uZ CL) u2 (uZ HD2)).mono ?_
      rintro e u3 ⟨rfl,rfl⟩
      go_wp2_with fail
      refine((uZ CB) _ (uZ HD2) (by have:=(uZ HBOX _ (uZ HU2)).2.2;omega)).mono ?_
      rintro e u4 ⟨rfl,k4⟩
      have HU4:Hid (Bd u4 B B (out++[b])∧Below B w2 u4):=hZ ⟨k4.bd,(uZ HU2).trans k4.below⟩
      clear k4 CB CL
      have HQN:Hid (q+n≤s.size):=hZ (by have:=uZ HN;omega)
      have hqn:(q:Int)+(n:Int)≤(s.size:Int):=by have:=uZ HN;omega
      go_wp2_with fail
      go_roundw
      case rel=>exact⟨q+n,f',out++[b],by go_num,by omega,uZ HQN,hZ ⟨by rw [List.length_append];have:=uZ HOL;simp;omega,by
       have h1:=(uZ HXX).2.1
       have h2:=uZ HN
       rw [List.length_drop,len_list] at h1 ⊢
       omega,uZ HNX,(uZ HU4).1,(uZ HU4).2⟩⟩
      case measure=>have h1:=uZ HQN;have h2:=uZ HN;simp [intOf];omega
  ·have e:q=s.size:=by omega
   have j1:¬(q:Int)<(s.size:Int):=by omega
   have k1:((q:Int) == (s.size:Int))=true:=beq_iff_eq.2 (by omega)
   have HE:Hid (R=.tuple #[.agg #[.int .i64 0,.string ⟨#[]⟩,.int .i64 0,.int .i64 0],.int .i64 0,.int .i64 163]):=hZ (by
    have h1:=(uZ HX).2.2.1
    rw [List.drop_of_length_le (by rw [len_list];omega)] at h1
    have h2:bytV r=none:=by
     unfold bytV
     rw [h1]
     cases f <;> rfl
    rw [uZ HR _ h2]
    rfl)
   have HU2:=hZ (uZ HX).2.2.2.2
   clear HX e
   have tok:True:=trivial
   go_wp2_with (first|(have _t:=tok;refine wpList_put_arr rfl 85 (.tmp 2) (.tmp 42) rfl g _ _ rfl rfl (uZ HBOX _ (uZ HU2)).1 rfl size_tok (one_tok _ _ _ _) ?_;clear tok;intro w7 M7))
   exact bodyPost_ret (ret_ctt (p:=2) (u:=3) (v:=4) (T:=85) rfl _ _ g _ _ _ rfl (uZ M7).at' Tryz.underlying85 rfl size_tok) rfl ⟨by rw [uZ HE];rfl,by first|exact(uZ M7).below w.heap.size w (by rw [uZ HG];exact(uZ HBOX _ (uZ HU2)).2.1) (by have:=uZ HG;omega)|exact(uZ M7).below g w (uZ HBOX _ (uZ HU2)).2.1 (Nat.le_refl _)⟩
theorem first_any (s:ByteArray) (h0:0<s.size) (hs:s.size≤8192) (w:World) (he:Ev w) (hw6:5<w.heap.size) :
  Calls Tryz.prog 72 #[.string s] w fun e w'=>e=.returned (fstV (fstT s.data.toList))∧Below w.heap.size w w':=by
 obtain⟨w1,hw1,hb1,hz1,hbx⟩:=tok_box w
 obtain⟨g,hg⟩:=eX (w.heap.size)
 have HG:=hZ hg
 have he1:Ev w1:=he.below hb1 hw6
 have hw16:5<w1.heap.size:=by omega
 rw [hg] at hbx
 have HBX:=hZ hbx
 obtain⟨r,hr⟩:=head_list s h0
 obtain⟨c,hc⟩:=eX (s[0]'h0)
 rw [hc] at hr
 obtain⟨z,hz⟩:∃z:Nat,c.toNat=z:=⟨_,rfl⟩
 have hzi:((s[0]'h0).toNat:Int)=(z:Int):=by rw [hc,hz]
 have z1:(z:Int)≤255:=by have:=c.toNat_lt;omega
 have hL:rLet (z:Int)=lxLet c:=by rw [←hz];exact lxLet_r c
 have hD:rDig (z:Int)=lxDig c:=by rw [←hz];exact lxDig_r c
 have CL:=hZ (isLetter_any (z:Int) w1)
 have CD:=hZ (isDigit_any (z:Int) w1)
 rw [hL] at CL
 rw [hD] at CD
 have CW:=hZ (fWord_any s hs w1)
 have CI:Hid (lxDig c=true→_):=hZ (fun h=>fInt_any s h0 (by rw [hc];exact h) hs w1 he1 hw16)
 have CB:=hZ (fBytes_any s r c hr hs w1)
 have CS:=hZ (fSign_any s h0 hs w1)
 have hf:=fst_cons c r
 rw [←hr] at hf
 obtain⟨R,hR⟩:=eX (fstT s.data.toList)
 rw [hR] at hf ⊢
 clear he he1 hbx hb1 hz1 hR
 cases hl:lxLet c with
 |true=>
  rw [if_pos hl] at hf
  rw [←hf] at CW
  rw [hl] at CL
  clear hf hl hL hD hr hz hc CI CB CS CD
  cases R with
  |error e=>
   unfold fstV
   unfold fstV at CW
   go_enter Tryz.func72,Tryz.ntmps72
   go_wp2_with fail
   refine(uZ CL).mono ?_
   rintro e u ⟨rfl,rfl⟩
   go_wp2_with fail
   refine(uZ CW).mono ?_
   rintro e u2 ⟨rfl,b2⟩
   have HU2:=hZ b2
   clear b2
   have tok:True:=trivial
   go_wp2_with (first|(have _t:=tok;refine wpList_put_arr rfl 85 (.tmp 2) (.tmp 14) rfl g _ _ rfl rfl (uZ HBX u2 (uZ HU2)).1 rfl size_tok (one_tok _ _ _ _) ?_;clear tok;intro w7 M7))
   exact bodyPost_ret (ret_ctt (p:=2) (u:=3) (v:=4) (T:=85) rfl _ _ g _ _ _ rfl (uZ M7).at' Tryz.underlying85 rfl size_tok) rfl ⟨rfl,by first|exact(uZ M7).below w.heap.size w (by rw [uZ HG];exact(uZ HBX u2 (uZ HU2)).2) (by have:=uZ HG;omega)|exact(uZ M7).below g w (uZ HBX u2 (uZ HU2)).2 (Nat.le_refl _)⟩
  |ok x=>
   obtain⟨t,n⟩:=x
   unfold fstV
   unfold fstV at CW
   obtain⟨tk,tt,tn,tp⟩:=t
   simp only at CW ⊢
   go_enter Tryz.func72,Tryz.ntmps72
   go_wp2_with fail
   refine(uZ CL).mono ?_
   rintro e u ⟨rfl,rfl⟩
   go_wp2_with fail
   refine(uZ CW).mono ?_
   rintro e u2 ⟨rfl,b2⟩
   have HU2:=hZ b2
   clear b2
   have tok:True:=trivial
   go_wp2_with (first|(have _t:=tok;refine wpList_put_arr rfl 85 (.tmp 2) (.tmp 14) rfl g _ _ rfl rfl (uZ HBX u2 (uZ HU2)).1 rfl size_tok (one_tok _ _ _ _) ?_;clear tok;intro w7 M7))
   exact bodyPost_ret (ret_ctt (p:=2) (u:=3) (v:=4) (T:=85) rfl _ _ g _ _ _ rfl (uZ M7).at' Tryz.underlying85 rfl size_tok) rfl ⟨rfl,by first|exact(uZ M7).below w.heap.size w (by rw [uZ HG];exact(uZ HBX u2 (uZ HU2)).2) (by have:=uZ HG;omega)|exact(uZ M7).below g w (uZ HBX u2 (uZ HU2)).2 (Nat.le_refl _)⟩
 |false=>
  rw [if_neg (by rw [hl];simp)] at hf
  rw [hl] at CL
  cases hd:lxDig c with
  |true=>
   rw [if_pos hd] at hf
   have CI2:=hZ (uZ CI hd)
   rw [←hf] at CI2
   rw [hd] at CD
   clear hf hl hd hL hD hr hz hc CI CB CS CW
   cases R with
   |error e=>
    unfold fstV
    unfold fstV at CI2
    go_enter Tryz.func72,Tryz.ntmps72
    go_wp2_with fail
    refine(uZ CL).mono ?_
    rintro e u ⟨rfl,rfl⟩
    go_wp2_with fail
    refine(uZ CD).mono ?_
    rintro e u ⟨rfl,rfl⟩
    go_wp2_with fail
    refine(uZ CI2).mono ?_
    rintro e u2 ⟨rfl,b2⟩
    have HU2:=hZ b2
    clear b2
    have tok:True:=trivial
    go_wp2_with (first|(have _t:=tok;refine wpList_put_arr rfl 85 (.tmp 2) (.tmp 22) rfl g _ _ rfl rfl (uZ HBX u2 (uZ HU2)).1 rfl size_tok (one_tok _ _ _ _) ?_;clear tok;intro w7 M7))
    exact bodyPost_ret (ret_ctt (p:=2) (u:=3) (v:=4) (T:=85) rfl _ _ g _ _ _ rfl (uZ M7).at' Tryz.underlying85 rfl size_tok) rfl ⟨rfl,by first|exact(uZ M7).below w.heap.size w (by rw [uZ HG];exact(uZ HBX u2 (uZ HU2)).2) (by have:=uZ HG;omega)|exact(uZ M7).below g w (uZ HBX u2 (uZ HU2)).2 (Nat.le_refl _)⟩
   |ok x=>
    obtain⟨t,n⟩:=x
    unfold fstV
    unfold fstV at CI2
    obtain⟨tk,tt,tn,tp⟩:=t
    simp only at CI2 ⊢
    go_enter Tryz.func72,Tryz.ntmps72
    go_wp2_with fail
    refine(uZ CL).mono ?_
    rintro e u ⟨rfl,rfl⟩
    go_wp2_with fail
    refine(uZ CD).mono ?_
    rintro e u ⟨rfl,rfl⟩
    go_wp2_with fail
    refine(uZ CI2).mono ?_
    rintro e u2 ⟨rfl,b2⟩
    have HU2:=hZ b2
    clear b2
    have tok:True:=trivial
    go_wp2_with (first|(have _t:=tok;refine wpList_put_arr rfl 85 (.tmp 2) (.tmp 22) rfl g _ _ rfl rfl (uZ HBX u2 (uZ HU2)).1 rfl size_tok (one_tok _ _ _ _) ?_;clear tok;intro w7 M7))
    exact bodyPost_ret (ret_ctt (p:=2) (u:=3) (v:=4) (T:=85) rfl _ _ g _ _ _ rfl (uZ M7).at' Tryz.underlying85 rfl size_tok) rfl ⟨rfl,by first|exact(uZ M7).below w.heap.size w (by rw [uZ HG];exact(uZ HBX u2 (uZ HU2)).2) (by have:=uZ HG;omega)|exact(uZ M7).below g w (uZ HBX u2 (uZ HU2)).2 (Nat.le_refl _)⟩
  |false=>
   rw [if_neg (by rw [hd];simp)] at hf
   rw [hd] at CD
   by_cases h34:c.toNat=34
   ·rw [if_pos h34] at hf
    rw [←hf] at CB
    have k1:((z:Int) == 34)=true:=beq_iff_eq.2 (by omega)
    clear hf hl hd hL hD hr hz hc CI CS CW h34
    cases R with
    |error e=>
     unfold fstV
     unfold fstV at CB
     go_enter Tryz.func72,Tryz.ntmps72
     go_wp2_with fail
     refine(uZ CL).mono ?_
     rintro e u ⟨rfl,rfl⟩
     go_wp2_with fail
     refine(uZ CD).mono ?_
     rintro e u ⟨rfl,rfl⟩
     go_wp2_with fail
     refine(uZ CB).mono ?_
     rintro e u2 ⟨rfl,b2⟩
     have HU2:=hZ b2
     clear b2
     have tok:True:=trivial
     go_wp2_with (first|(have _t:=tok;refine wpList_put_arr rfl 85 (.tmp 2) (.tmp 30) rfl g _ _ rfl rfl (uZ HBX u2 (uZ HU2)).1 rfl size_tok (one_tok _ _ _ _) ?_;clear tok;intro w7 M7))
     exact bodyPost_ret (ret_ctt (p:=2) (u:=3) (v:=4) (T:=85) rfl _ _ g _ _ _ rfl (uZ M7).at' Tryz.underlying85 rfl size_tok) rfl ⟨rfl,by first|exact(uZ M7).below w.heap.size w (by rw [uZ HG];exact(uZ HBX u2 (uZ HU2)).2) (by have:=uZ HG;omega)|exact(uZ M7).below g w (uZ HBX u2 (uZ HU2)).2 (Nat.le_refl _)⟩
    |ok x=>
     obtain⟨t,n⟩:=x
     unfold fstV
     unfold fstV at CB
     obtain⟨tk,tt,tn,tp⟩:=t
     simp only at CB ⊢
     go_enter Tryz.func72,Tryz.ntmps72
     go_wp2_with fail
     refine(uZ CL).mono ?_
     rintro e u ⟨rfl,rfl⟩
     go_wp2_with fail
     refine(uZ CD).mono ?_
     rintro e u ⟨rfl,rfl⟩
     go_wp2_with fail
     refine(uZ CB).mono ?_
     rintro e u2 ⟨rfl,b2⟩
     have HU2:=hZ b2
     clear b2
     have tok:True:=trivial
     go_wp2_with (first|(have _t:=tok;refine wpList_put_arr rfl 85 (.tmp 2) (.tmp 30) rfl g _ _ rfl rfl (uZ HBX u2 (uZ HU2)).1 rfl size_tok (one_tok _ _ _ _) ?_;clear tok;intro w7 M7))
     exact bodyPost_ret (ret_ctt (p:=2) (u:=3) (v:=4) (T:=85) rfl _ _ g _ _ _ rfl (uZ M7).at' Tryz.underlying85 rfl size_tok) rfl ⟨rfl,by first|exact(uZ M7).below w.heap.size w (by rw [uZ HG];exact(uZ HBX u2 (uZ HU2)).2) (by have:=uZ HG;omega)|exact(uZ M7).below g w (uZ HBX u2 (uZ HU2)).2 (Nat.le_refl _)⟩
   ·rw [if_neg h34] at hf
    rw [←hf] at CS
    have k1:((z:Int) == 34)=false:=beq_eq_false_iff_ne.2 (by omega)
    have k2:¬(z:Int)=34:=by omega
    clear hf hl hd hL hD hr hz hc CI CB CW h34
    cases R with
    |error e=>
     unfold fstV
     unfold fstV at CS
     go_enter Tryz.func72,Tryz.ntmps72
     go_wp2_with fail
     refine(uZ CL).mono ?_
     rintro e u ⟨rfl,rfl⟩
     go_wp2_with fail
     refine(uZ CD).mono ?_
     rintro e u ⟨rfl,rfl⟩
     go_wp2_with fail
     refine(uZ CS).mono ?_
     rintro e u2 ⟨rfl,b2⟩
     have HU2:=hZ b2
     clear b2
     have tok:True:=trivial
     go_wp2_with (first|(have _t:=tok;refine wpList_put_arr rfl 85 (.tmp 2) (.tmp 35) rfl g _ _ rfl rfl (uZ HBX u2 (uZ HU2)).1 rfl size_tok (one_tok _ _ _ _) ?_;clear tok;intro w7 M7))
     exact bodyPost_ret (ret_ctt (p:=2) (u:=3) (v:=4) (T:=85) rfl _ _ g _ _ _ rfl (uZ M7).at' Tryz.underlying85 rfl size_tok) rfl ⟨rfl,by first|exact(uZ M7).below w.heap.size w (by rw [uZ HG];exact(uZ HBX u2 (uZ HU2)).2) (by have:=uZ HG;omega)|exact(uZ M7).below g w (uZ HBX u2 (uZ HU2)).2 (Nat.le_refl _)⟩
    |ok x=>
     obtain⟨t,n⟩:=x
     unfold fstV
     unfold fstV at CS
     obtain⟨tk,tt,tn,tp⟩:=t
     simp only at CS ⊢
     go_enter Tryz.func72,Tryz.ntmps72
     go_wp2_with fail
     refine(uZ CL).mono ?_
     rintro e u ⟨rfl,rfl⟩
     go_wp2_with fail
     refine(uZ CD).mono ?_
     rintro e u ⟨rfl,rfl⟩
     go_wp2_with fail
     refine(uZ CS).mono ?_
     rintro e u2 ⟨rfl,b2⟩
     have HU2:=hZ b2
     clear b2
     have tok:True:=trivial
     go_wp2_with (first|(have _t:=tok;refine wpList_put_arr rfl 85 (.tmp 2) (.tmp 35) rfl g _ _ rfl rfl (uZ HBX u2 (uZ HU2)).1 rfl size_tok (one_tok _ _ _ _) ?_;clear tok;intro w7 M7))
     exact bodyPost_ret (ret_ctt (p:=2) (u:=3) (v:=4) (T:=85) rfl _ _ g _ _ _ rfl (uZ M7).at' Tryz.underlying85 rfl size_tok) rfl ⟨rfl,by first|exact(uZ M7).below w.heap.size w (by rw [uZ HG];exact(uZ HBX u2 (uZ HU2)).2) (by have:=uZ HG;omega)|exact(uZ M7).below g w (uZ HBX u2 (uZ HU2)).2 (Nat.le_refl _)⟩
end Go.Proofs.YtjdpaihhhjdgmaaGreatDoor
