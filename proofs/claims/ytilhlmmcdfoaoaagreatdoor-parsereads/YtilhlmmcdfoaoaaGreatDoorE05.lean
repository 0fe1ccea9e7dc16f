/-
  strings.Builder's copyCheck, WriteByte, WriteString at this program; conditions: Go's own limit on a text.
  The walks of lex's firstSign, firstBytes, first; conditions: a text of at most 8192 bytes; what the variables of strconv hold.
  The walks of lex's writePiece and Quote; conditions: a text of at most 2^30 bytes.
-/
import Derived.Test.YtilhlmmcdfoaoaaGreatDoorE00
import Derived.Test.YtilhlmmcdfoaoaaGreatDoorShl
import Derived.Test.YtilhlmmcdfoaoaaGreatDoorChecked
import Derived.WalkKit
import Derived.WalkSpells
import Derived.Shelf.Strings.BuilderK
import Derived.Test.YtilhlmmcdfoaoaaGreatDoorE04
import Derived.Test.YtilhlmmcdfoaoaaGreatDoorE01
set_option linter.unusedVariables false
set_option linter.unusedSimpArgs false
namespace Go.Proofs.YtilhlmmcdfoaoaaGreatDoor
open Go.RowKit
set_option linter.unusedVariables false
theorem size_bld:(Tryz.prog.info? 89).map (·.size)=some 2:=by kernel_rfl
theorem lies_bld:liesAt Tryz.prog Tryz.prog.depth 89 (2 / Tryz.prog.cellsOf 89) 0 89 1=true:=by kernel_rfl
theorem info_byte:(Tryz.prog.info? 5).map (fun i=>(i.zero,i.size,i.bytes))=some (some (.int .u8 0),1,1):=by kernel_rfl
abbrev Bd (w:World) (B b:Nat) (l:List UInt8):Prop:=Lib.IsBuilderF 89 5 B b (Lib.byteCells l) w
structure Wr (B b:Nat) (l:List UInt8) (w w':World):Prop where
 bd:Bd w' B b l
 below:Below B w w'
 kept:Lib.OthersKept 5 (some b) w w'
set_option maxHeartbeats 1000000 in
set_option maxRecDepth 100000 in
theorem ccheck_used (b:Nat) (w:World) (h0:w.cell? ⟨b,0,none⟩=some (.pointer (some ⟨b,0,none⟩))) :
  Calls Tryz.prog 101 #[.pointer (some ⟨b,0,none⟩)] w fun e w'=>e=.returned (.tuple #[])∧w'=w:=by
 obtain⟨j,hj,_⟩:=Option.map_eq_some_iff.1 size_bld
 have hne:=Lib.run_neq_ptr_same (P:=Tryz.prog) w ⟨b,0,none⟩ Tryz.underlying87 hj
 clear hj
 go_enter Tryz.func101,Tryz.ntmps101
 go_wp2_with fail
 go_end0
 exact⟨rfl,rfl⟩
set_option maxHeartbeats 1000000 in
set_option maxRecDepth 100000 in
theorem ccheck_fresh (b:Nat) (w:World) (h0:w.cell? ⟨b,0,none⟩=some (.pointer none)) (hsh:w.shape? b=some (89,2)) (hfz:w.frozen? ⟨b,0,none⟩=false) :
  Calls Tryz.prog 101 #[.pointer (some ⟨b,0,none⟩)] w fun e w'=>e=.returned (.tuple #[])∧w'=w.setCell ⟨b,0,none⟩ (.pointer (some ⟨b,0,none⟩)):=by
 obtain⟨j,hj,hjs⟩:=Option.map_eq_some_iff.1 size_bld
 have r1:=Lib.run_to_unsafe (P:=Tryz.prog) w ⟨b,0,none⟩ Tryz.underlying87 Tryz.underlying113 hj (by rw [hjs];decide) hsh (Nat.zero_lt_succ 1)
 have r2:=Lib.run_from_unsafe (P:=Tryz.prog) w ⟨b,0,none⟩ Tryz.underlying113 Tryz.underlying87 hj hsh lies_bld
 clear hj hsh
 go_enter Tryz.func101,Tryz.ntmps101
 go_wp2_with fail
 rw [run_callFunc_extern Tryz.func119 (by kernel_rfl) (by kernel_rfl) (by kernel_rfl) (e:=Extern.AbiNoEscape.same) (by kernel_rfl)]
 rw [Lib.run_noEscape]
 simp only [Result.andThen]
 rw [Oper.upon_value]
 go_wp2_with fail
 go_end0
 exact⟨rfl,rfl⟩
theorem ccheck_any (B b:Nat) (l:List UInt8) (w:World) (h:Bd w B b l) :
  Calls Tryz.prog 101 #[.pointer (some ⟨b,0,none⟩)] w fun e w'=>e=.returned (.tuple #[])∧Lib.BuilderAtF 89 5 B b (.pointer (some ⟨b,0,none⟩)) (Lib.byteCells l) w'∧Below B w w'∧Lib.OthersKept 5 (some b) w w':=by
 rcases h with h|h
 ·refine(ccheck_fresh b w h.cell0 h.shape h.frozen0).mono ?_
  rintro e w' ⟨rfl,rfl⟩
  exact⟨rfl,h.used _,(Below.refl B w).setCell (p:=⟨b,0,none⟩) h.1 _,(Lib.OthersKept.refl _ _ w).setCell ⟨b,0,none⟩ rfl _⟩
 ·refine(ccheck_used b w h.cell0).mono ?_
  rintro e w' ⟨rfl,rfl⟩
  exact⟨rfl,h,Below.refl B _,Lib.OthersKept.refl _ _ _⟩
theorem byteCells_one (l:List UInt8) (c:UInt8):Lib.byteCells l++[Value.int .u8 (c.toNat:Int)]=Lib.byteCells (l++[c]):=by simp [Lib.byteCells]
set_option maxHeartbeats 1000000 in
set_option maxRecDepth 100000 in
theorem wbyte_any (B b:Nat) (l:List UInt8) (c:UInt8) (w:World) (h:Bd w B b l) (hlen:l.length+1≤140737488355328) (hBw:B≤w.heap.size) :
  Calls Tryz.prog 79 #[.pointer (some ⟨b,0,none⟩),.int .u8 (c.toNat:Int)] w fun e w'=>e=.returned .nilIface∧Wr B b (l++[c]) w w':=by
 obtain⟨i0,hi,hz0,hz1,hz2⟩:=info_parts info_byte
 have CC:=hZ (ccheck_any B b l w h)
 obtain⟨z,hz⟩:∃z:Int,(c.toNat:Int)=z:=⟨_,rfl⟩
 have HZ:=hZ hz
 rw [hz]
 clear hz h
 go_enter Tryz.func79,Tryz.ntmps79
 go_wp2_with fail
 refine(uZ CC).mono ?_
 rintro e w1 ⟨rfl,h1,hb1,hk1⟩
 obtain⟨hB,v,hbk,hown,hne⟩:=h1
 have c0:w1.cell? ⟨b,0,none⟩=some (.pointer (some ⟨b,0,none⟩)):=by rw [Lib.cell_of_heap hbk];rfl
 have c1:w1.cell? ⟨b,1,none⟩=some v:=by rw [Lib.cell_of_heap hbk];rfl
 have hll:=Lib.byteCells_length l
 go_wp2_with (at_builtin;refine wpList_append_ownF _ rfl _ _ 77 rfl B 5 i0 (.int .u8 0) 1 1 Tryz.underlying77 hi hz0 hz1 hz2 rfl (by decide) _ _ _ rfl (hown.alloc _) ⟨w1.heap.size,0,none⟩ 1 1 [.int .u8 z] rfl rfl ?c1 ?c2 ?c3 ?c4 ?c5 ?_)
 case c1=>
  intro j u hj
  match j,hj with
  |0,hj=>simp at hj;subst hj;simp [Addr.add]
 case c2=>intro u hu;simp at hu;subst hu;rfl
 case c3=>unfold maxLen;omega
 case c4=>omega
 case c5=>have:=hb1.size;simp;omega
 intro v' w2 hown' hgrow _
 have hlt:b<w1.heap.size:=(Array.getElem?_eq_some_iff.1 hbk).1
 have hb2:w2.heap[b]?=some (.cells #[.pointer (some ⟨b,0,none⟩),v] 89 (0,0)):=by
  rw [hgrow.block b (by simp;omega) (fun e=>hne e.symm),Lib.alloc_old w1 _ b hlt]
  exact hbk
 have d0:w2.cell? ⟨b,0,none⟩=some (.pointer (some ⟨b,0,none⟩)):=by rw [Lib.cell_of_heap hb2];rfl
 have d1:w2.cell? ⟨b,1,none⟩=some v:=by rw [Lib.cell_of_heap hb2];rfl
 have f1:w2.frozen? ⟨b,1,none⟩=false:=Lib.frozen_of_heap hb2 1
 obtain⟨ao,n',cap,rfl⟩:∃ao n' cap,v'=.slice ao n' cap:=by
  rcases hown'.2 with ⟨hv,_⟩|⟨g,cap,cur,fz,hv,_⟩
  ·exact⟨_,_,_,hv⟩
  ·exact⟨_,_,_,hv⟩
 have HX:Hid (Wr B b (l++[c]) w (w2.setCell ⟨b,1,none⟩ (.slice ao n' cap))):=hZ (by
  have ez:Lib.byteCells l++[Value.int .u8 z]=Lib.byteCells (l++[c]):=by rw [←uZ HZ];exact byteCells_one l c
  refine⟨.inr ?_,?_,?_⟩
  ·exact Lib.BuilderAtF.put (T:=89) (e:=5) hB hb2 (bs':=Lib.byteCells (l++[c])) (by rw [Lib.byteCells_length,List.length_append,←ez];exact hown') (by decide)
  ·exact((hb1.alloc (by have:=hb1.size;omega) _).grown hgrow (by have:=hb1.size;simp;omega) (fun k hk=>(hown.lt k hk).1)).setCell (p:=⟨b,1,none⟩) hB _
  ·exact((hk1.alloc _).grown hgrow (Lib.ownsRowF_kind (hown.alloc _))).setCell ⟨b,1,none⟩ rfl _)
 clear hown' hgrow hb2 c0 c1 hbk hown hb1 hk1 hz0 hz1 hz2 hi HZ hll
 go_wp2_with fail
 go_ret
 exact⟨rfl,uZ HX⟩
set_option linter.unusedSimpArgs false
set_option maxRecDepth 100000 in
set_option maxHeartbeats 1000000 in
theorem fSign_any (s:ByteArray) (h0:0<s.size) (hs:s.size≤8192) (w:World) :
  Calls Tryz.prog 57 #[.string s] w fun e w'=>e=.returned (fstV (sgnT s.data.toList))∧Below w.heap.size w w':=by
 obtain⟨w1,hw1,hb1,hz1,hbx⟩:=tok_box w
 obtain⟨g,hg⟩:∃g,w.heap.size=g:=⟨_,rfl⟩
 have HG:=hZ hg
 rw [hg] at hbx
 have HBX:=hZ hbx
 have hs2:(s.size:Int)≤8192:=by omega
 have hK1:=fun u=>isSign_any (s.extract 0 1) u
 have hC1:=fun u=>str_clone (s.extract 0 1) u (by rw [ByteArray.size_extract];omega)
 have hK2:=fun u=>isSign_any (s.extract 0 2) u
 have hC2:=fun u=>str_clone (s.extract 0 2) u (by rw [ByteArray.size_extract];omega)
 have e1:=ext_take s 1
 have e2:=ext_take s 2
 rw [e1,bA_data,←e1] at hK1
 rw [e2,bA_data,←e2] at hK2
 have hsg:sgN s.data.toList=if 2≤s.size∧sgB (s.data.toList.take 2)=true then 2 else if sgB (s.data.toList.take 1)=true then 1 else 0:=rfl
 obtain⟨V1,hV1⟩:∃V,s.extract 0 1=V:=⟨_,rfl⟩
 obtain⟨V2,hV2⟩:∃V,s.extract 0 2=V:=⟨_,rfl⟩
 rw [hV1] at hK1 hC1 e1
 rw [hV2] at hK2 hC2 e2
 have C1:=hZ hC1
 have C2:=hZ hC2
 have hE2:2≤s.size∧sgB (s.data.toList.take 2)=true→fstV (sgnT s.data.toList)=.tuple #[.agg #[.int .i64 5,.string V2,.int .i64 0,.int .i64 0],.int .i64 2,.int .i64 0]:=fun h=>by
  rw [if_pos h] at hsg
  unfold sgnT
  rw [hsg,if_neg (by decide),e2]
  rfl
 have hE1:¬(2≤s.size∧sgB (s.data.toList.take 2)=true)→sgB (s.data.toList.take 1)=true→fstV (sgnT s.data.toList)=.tuple #[.agg #[.int .i64 5,.string V1,.int .i64 0,.int .i64 0],.int .i64 1,.int .i64 0]:=fun h h'=>by
  rw [if_neg h,if_pos h'] at hsg
  unfold sgnT
  rw [hsg,if_neg (by decide),e1]
  rfl
 have hE0:¬(2≤s.size∧sgB (s.data.toList.take 2)=true)→sgB (s.data.toList.take 1)=false→fstV (sgnT s.data.toList)=.tuple #[.agg #[.int .i64 0,.string ⟨#[]⟩,.int .i64 0,.int .i64 0],.int .i64 0,.int .i64 161]:=fun h h'=>by
  rw [if_neg h,if_neg (by rw [h'];simp)] at hsg
  unfold sgnT
  rw [hsg,if_pos rfl]
  rfl
 clear hz1
 obtain⟨R,hR⟩:∃R,fstV (sgnT s.data.toList)=R:=⟨_,rfl⟩
 rw [hR] at hE2 hE1 hE0 ⊢
 have H2:=hZ hE2
 have H1:=hZ hE1
 have H0:=hZ hE0
 obtain⟨B1,hB1⟩:∃B,sgB (s.data.toList.take 1)=B:=⟨_,rfl⟩
 obtain⟨B2,hB2⟩:∃B,sgB (s.data.toList.take 2)=B:=⟨_,rfl⟩
 rw [hB1] at hK1 H1 H0
 rw [hB2] at hK2 H2 H1 H0
 have K1:=hZ hK1
 have K2:=hZ hK2
 have HV:=hZ (And.intro hV1 hV2)
 clear hE2 hE1 hE0 hR hsg e1 e2 hbx hb1 hB1 hB2 hK1 hK2 hC1 hC2 hV1 hV2
 have walkIt:∀m:Nat,(m=2∧2≤s.size∨m=1∧s.size=1)→(min 2 (s.size:Int)=(m:Int))→Calls Tryz.prog 57 #[.string s] w fun e w'=>e=.returned R∧Below w.heap.size w w':=by
  intro m hm hmin
  have HM:=hZ hm
  clear hm
  go_enter Tryz.func57,Tryz.ntmps57
  go_wp2_with fail
  go_loopw [5] (fun x wr=>∃k:Nat,x=.int .i64 (k:Int)∧Hid (Below w1.heap.size w1 wr∧((k=2∧2≤s.size)∨(k=1∧¬(2≤s.size∧B2=true))∨(k=0∧¬(2≤s.size∧B2=true)∧B1=false)))) (fun x _=>(intOf x).toNat)
  case atStart=>
   refine⟨m,by first|rfl|(rw [hmin]),hZ ⟨Below.refl _ _,?_⟩⟩
   rcases uZ HM with ⟨rfl,h⟩|⟨rfl,h⟩
   ·exact Or.inl ⟨rfl,h⟩
   ·exact Or.inr (Or.inl ⟨rfl,by omega⟩)
  case round=>
   clear hmin HM
   obtain⟨k,rfl,HX⟩:=hrel
   obtain⟨hb,hcs⟩:=uZ HX
   have HB:=hZ hb
   clear hb HX
   rcases hcs with ⟨rfl,h2⟩|⟨rfl,h2⟩|⟨rfl,h2,h3⟩
   ·have hV:=(uZ HV).2
    have j1:(2:Int)≤(s.size:Int):=by omega
    cases B2 with
    |true=>
     have HR:=hZ (uZ H2 ⟨h2,rfl⟩)
     clear h2
     go_wp2_with fail
     refine((uZ K2) _).mono ?_
     rintro e u ⟨rfl,rfl⟩
     go_wp2_with fail
     refine((uZ C2) _).mono ?_
     rintro e u2 ⟨rfl,b2⟩
     have HU2:Hid (Below w1.heap.size w1 u2):=hZ ((uZ HB).trans (b2.mono (uZ HB).size))
     clear b2
     have tok:True:=trivial
     go_wp2_with (first|(have _t:=tok;refine wpList_put_arr rfl 52 (.tmp 2) (.tmp 21) rfl g _ _ rfl rfl (uZ HBX u2 (uZ HU2)).1 rfl size_tok (one_tok _ _ _ _) ?_;clear tok;intro w7 M7))
     exact bodyPost_ret (ret_ctt (p:=2) (u:=3) (v:=4) (T:=52) rfl _ _ g _ _ _ rfl (uZ M7).at' Tryz.underlying52 rfl size_tok) rfl ⟨by rw [uZ HR];rfl,by first|exact(uZ M7).below w.heap.size w (by rw [uZ HG];exact(uZ HBX u2 (uZ HU2)).2) (by have:=uZ HG;omega)|exact(uZ M7).below g w (uZ HBX u2 (uZ HU2)).2 (Nat.le_refl _)⟩
    |false=>
     clear h2
     go_wp2_with fail
     refine((uZ K2) _).mono ?_
     rintro e u ⟨rfl,rfl⟩
     go_wp2_with fail
     go_roundw
     case rel=>exact⟨1,by go_num,hZ ⟨uZ HB,Or.inr (Or.inl ⟨rfl,fun h=>by cases h.2⟩)⟩⟩
     case measure=>simp [intOf]
   ·have hV:=(uZ HV).1
    have j1:(1:Int)≤(s.size:Int):=by omega
    have HN:=hZ h2
    clear h2
    cases B1 with
    |true=>
     have HR:=hZ (uZ H1 (uZ HN) rfl)
     go_wp2_with fail
     refine((uZ K1) _).mono ?_
     rintro e u ⟨rfl,rfl⟩
     go_wp2_with fail
     refine((uZ C1) _).mono ?_
     rintro e u2 ⟨rfl,b2⟩
     have HU2:Hid (Below w1.heap.size w1 u2):=hZ ((uZ HB).trans (b2.mono (uZ HB).size))
     clear b2
     have tok:True:=trivial
     go_wp2_with (first|(have _t:=tok;refine wpList_put_arr rfl 52 (.tmp 2) (.tmp 21) rfl g _ _ rfl rfl (uZ HBX u2 (uZ HU2)).1 rfl size_tok (one_tok _ _ _ _) ?_;clear tok;intro w7 M7))
     exact bodyPost_ret (ret_ctt (p:=2) (u:=3) (v:=4) (T:=52) rfl _ _ g _ _ _ rfl (uZ M7).at' Tryz.underlying52 rfl size_tok) rfl ⟨by rw [uZ HR];rfl,by first|exact(uZ M7).below w.heap.size w (by rw [uZ HG];exact(uZ HBX u2 (uZ HU2)).2) (by have:=uZ HG;omega)|exact(uZ M7).below g w (uZ HBX u2 (uZ HU2)).2 (Nat.le_refl _)⟩
    |false=>
     go_wp2_with fail
     refine((uZ K1) _).mono ?_
     rintro e u ⟨rfl,rfl⟩
     go_wp2_with fail
     go_roundw
     case rel=>exact⟨0,by go_num,hZ ⟨uZ HB,Or.inr (Or.inr ⟨rfl,uZ HN,by first|rfl|trivial⟩)⟩⟩
     case measure=>simp [intOf]
   ·subst h3
    have HR:=hZ (uZ H0 h2 rfl)
    clear h2
    have tok:True:=trivial
    go_wp2_with (first|(have _t:=tok;refine wpList_put_arr rfl 52 (.tmp 2) (.tmp 23) rfl g _ _ rfl rfl (uZ HBX _ (uZ HB)).1 rfl size_tok (one_tok _ _ _ _) ?_;clear tok;intro w7 M7))
    exact bodyPost_ret (ret_ctt (p:=2) (u:=3) (v:=4) (T:=52) rfl _ _ g _ _ _ rfl (uZ M7).at' Tryz.underlying52 rfl size_tok) rfl ⟨by rw [uZ HR];rfl,by first|exact(uZ M7).below w.heap.size w (by rw [uZ HG];exact(uZ HBX _ (uZ HB)).2) (by have:=uZ HG;omega)|exact(uZ M7).below g w (uZ HBX _ (uZ HB)).2 (Nat.le_refl _)⟩
 by_cases hsz:s.size<2
 ·exact walkIt 1 (Or.inr ⟨rfl,by omega⟩) (by omega)
 ·exact walkIt 2 (Or.inl ⟨rfl,by omega⟩) (by omega)
theorem Bd.later {w w':World} {B b:Nat} {l:List UInt8} (h:Bd w B b l) (hb:Below w.heap.size w w'):Bd w' B b l:=by
 have one:∀p,Lib.BuilderAtF 89 5 B b p (Lib.byteCells l) w→Lib.BuilderAtF 89 5 B b p (Lib.byteCells l) w':=fun p hp=>by
  obtain⟨hB,v,hbk,hown,hne⟩:=hp
  refine⟨hB,v,(hb.block b (Array.getElem?_eq_some_iff.1 hbk).1).trans hbk,⟨hown.1,?_⟩,hne⟩
  rcases hown.2 with hn|⟨g,cap,cur,fz,hv,hbg,hg,rest⟩
  ·exact .inl hn
  ·exact .inr ⟨g,cap,cur,fz,hv,hbg,(hb.block g (Array.getElem?_eq_some_iff.1 hg).1).trans hg,rest⟩
 exact h.elim (fun x=>.inl (one _ x)) (fun x=>.inr (one _ x))
theorem blen_any (B b:Nat) (l:List UInt8) (w:World) (h:Bd w B b l) :
  Calls Tryz.prog 78 #[.pointer (some ⟨b,0,none⟩)] w fun e w'=>e=.returned (.int .i64 (l.length:Int))∧w'=w:=by
 have key:∀p,Lib.BuilderAtF 89 5 B b p (Lib.byteCells l) w→∃ao cap,w.cell? ⟨b,1,none⟩=some (.slice ao l.length cap):=fun p hp=>by
  obtain⟨hB,v,hbk,hown,hne⟩:=hp
  have c1:w.cell? ⟨b,1,none⟩=some v:=by rw [Lib.cell_of_heap hbk];rfl
  have hl:=Lib.byteCells_length l
  rcases hown.2 with ⟨hv,hn⟩|⟨g,cap,cur,fz,hv,_⟩
  ·refine⟨none,0,?_⟩
   rw [c1,hv,show l.length=0 by omega]
  ·refine⟨some ⟨g,0,none⟩,cap,?_⟩
   rw [c1,hv,hl]
 obtain⟨ao,cap,c1⟩:∃ao cap,w.cell? ⟨b,1,none⟩=some (.slice ao l.length cap):=h.elim (key _) (key _)
 clear h key
 go_enter Tryz.func78,Tryz.ntmps78
 go_wp2_with fail
 go_ret
 exact⟨rfl,rfl⟩
theorem wbyte_lit (B b:Nat) (l:List UInt8) (c:UInt8) (z:Int) (hz:(c.toNat:Int)=z) (w:World) (h:Bd w B b l) (hlen:l.length+1≤140737488355328) (hBw:B≤w.heap.size) :
  Calls Tryz.prog 79 #[.pointer (some ⟨b,0,none⟩),.int .u8 z] w fun e w'=>e=.returned .nilIface∧Wr B b (l++[c]) w w':=by
 rw [←hz]
 exact wbyte_any B b l c w h hlen hBw
end Go.Proofs.YtilhlmmcdfoaoaaGreatDoor
