/-
  The walks of measure, Right, Weight, Depth: a value's weight and depth, 0 of what is not right; no conditions but the form's own reach.
  When two values are the same, field by field; no conditions.
  The walks of many and few: how many parts a value has; no conditions but the form's own reach.
  strings.Builder's copyCheck, WriteByte, WriteString at this program; conditions: Go's own limit on a text.
-/
import Derived.Test.YtekbmfppfjlboaaGreatDoorA02
import Derived.Laws.ResultCell
import Derived.Laws.EntriesVeiled
import Derived.WalkSpells
import Derived.WalkSmall
import Derived.Test.YtekbmfppfjlboaaGreatDoorA00
import Derived.Test.YtekbmfppfjlboaaGreatDoorShl
import Derived.Test.YtekbmfppfjlboaaGreatDoorChecked
import Derived.WalkKit
import Derived.Shelf.Strings.BuilderK
set_option linter.unusedVariables false
set_option linter.unusedSimpArgs false
namespace Go.Proofs.YtekbmfppfjlboaaGreatDoor
open Go.RowKit
def rightB (v:Vl):Bool:=okB 8 v && decide (wt v≤2048)
def wt0 (v:Vl):Nat:=if rightB v then wt v else 0
def dep0 (v:Vl):Nat:=if rightB v then dep v else 0
theorem dep_pos (v:Vl):1≤dep v:=by cases v;simp [dep]
theorem ret_cells {fn:Func} {p q:Tmp} (h:fn.results=#[.cell p 3,.cell q 3]) (tmps:Array Value) (w:World) (gp gq:Nat) (x y:Int) (hp:tmps.getD p undef=.pointer (some ⟨gp,0,none⟩)) (hq:tmps.getD q undef=.pointer (some ⟨gq,0,none⟩))
  (hx:w.cell? ⟨gp,0,none⟩=some (.int .i64 x)) (hy:w.cell? ⟨gq,0,none⟩=some (.int .i64 y)):(results fn tmps).run Tryz.prog w=.ok (.tuple #[.int .i64 x,.int .i64 y]) w:=by
 have hp':tmps[p]?.getD undef=.pointer (some ⟨gp,0,none⟩):=by simpa using hp
 have hq':tmps[q]?.getD undef=.pointer (some ⟨gq,0,none⟩):=by simpa using hq
 simp only [results,h]
 go_simp
set_option maxRecDepth 100000 in
set_option maxHeartbeats 400000 in
theorem measure_any (v:Vl) (x:Value) (B:Nat) (w:World) (hv:IsV w B v x) (hBs:B≤w.heap.size) :
  Calls Tryz.prog 109 #[x] w fun e w'=>e=.returned (.tuple #[.int .i64 (wt0 v:Int),.int .i64 (dep0 v:Int)])∧Below w.heap.size w w':=by
 obtain⟨k',n',s',l',ks',al',ak',cl',ck',hy',hx⟩:=hv.shape
 obtain⟨ll,hll⟩:∃ll,l'.length=ll:=⟨_,rfl⟩
 obtain⟨m,hm⟩:∃m,ks'.length=m:=⟨_,rfl⟩
 rw [hll,hm] at hx
 subst hx
 obtain⟨w1,hw1⟩:∃w1,w.alloc (.cells #[.int .i64 k',.int .i64 n',.string s',.slice al' ll cl',.slice ak' m ck'] 26)=w1:=⟨_,rfl⟩
 have BX:=Box.mk' w (.int .i64 k') (.int .i64 n') (.string s') (.slice al' ll cl') (.slice ak' m ck')
 rw [hw1] at BX
 obtain⟨g,hg⟩:∃g,w.heap.size=g:=⟨_,rfl⟩
 have z1:=BX.size
 rw [hg] at z1
 obtain⟨w2,hw2⟩:∃w2,w1.alloc (.cells #[.int .i64 0] 3)=w2:=⟨_,rfl⟩
 obtain⟨w3,hw3⟩:∃w3,w2.alloc (.cells #[.int .i64 0] 3)=w3:=⟨_,rfl⟩
 obtain⟨w4,hw4⟩:∃w4,w3.alloc (.cells #[.nilFunc] 105)=w4:=⟨_,rfl⟩
 have z2:w2.heap.size=g+2:=by rw [←hw2];simp [z1]
 have z3:w3.heap.size=g+3:=by rw [←hw3];simp [z2]
 have z4:w4.heap.size=g+4:=by rw [←hw4];simp [z3]
 have b12:Below w1.heap.size w1 w2:=by rw [←hw2];exact(Below.refl _ _).alloc (Nat.le_refl _) _
 have b23:Below w2.heap.size w2 w3:=by rw [←hw3];exact(Below.refl _ _).alloc (Nat.le_refl _) _
 have b34:Below w3.heap.size w3 w4:=by rw [←hw4];exact(Below.refl _ _).alloc (Nat.le_refl _) _
 have r2:w2.heap[g+1]?=some (.cells #[.int .i64 0] 3 (0,0)):=by rw [←hw2,←z1];exact heap_alloc_new w1 _
 have r3:w3.heap[g+2]?=some (.cells #[.int .i64 0] 3 (0,0)):=by rw [←hw3,←z2];exact heap_alloc_new w2 _
 have r4:w4.heap[g+3]?=some (.cells #[.nilFunc] 105 (0,0)):=by rw [←hw4,←z3];exact heap_alloc_new w3 _
 obtain⟨w5,hw5⟩:∃w5,w4.setCell ⟨g+3,0,none⟩ (.func (.func 133) #[] #[.pointer (some ⟨g+2,0,none⟩),.pointer (some ⟨g+1,0,none⟩),.pointer (some ⟨g+3,0,none⟩)])=w5:=⟨_,rfl⟩
 have z5:w5.heap.size=g+4:=by rw [←hw5];simp [z4]
 have S5:St w5 (g+2) (g+1) (g+3) ((0:Nat):Int) ((0:Nat):Int):=by
  refine⟨?_,?_,?_⟩
  ·rw [←hw5,heap_setCell_other _ _ _ _ (by simp),b34.block _ (by omega)];exact r3
  ·rw [←hw5,heap_setCell_other _ _ _ _ (by simp),b34.block _ (by omega),b23.block _ (by omega)];exact r2
  ·rw [←hw5,heap_setCell_same w4 (g+3) 0 _ _ _ r4];rfl
 have P5:Pl w5 g (g+2) (g+1) (g+3):=⟨by omega,by omega,by omega,by omega,by omega,by omega,by omega,by omega,by omega⟩
 have X5:Below g w w5:=by
  have h:=((BX.below.trans (b12.mono (by omega))).trans (b23.mono (by omega))).trans (b34.mono (by omega))
  rw [hg] at h
  rw [←hw5]
  exact h.setCell (p:=⟨g+3,0,none⟩) (by show g≤g+3;omega) _
 have R5:w5.heap[g]?=some (.cells #[.int .i64 k',.int .i64 n',.string s',.slice al' ll cl',.slice ak' m ck'] 26 (0,0)):=by
  rw [←hw5,heap_setCell_other _ _ _ _ (by simp),b34.block _ (by omega),b23.block _ (by omega),b12.block _ (by omega),←hg]
  exact BX.row
 have q4:w4.cell? ⟨g+3,0,none⟩=some .nilFunc:=(one_cell r4).1
 have f4:w4.frozen? ⟨g+3,0,none⟩=false:=(one_cell r4).2
 have qr:w5.cell? ⟨g+3,0,none⟩=some (.func (.func 133) #[] #[.pointer (some ⟨g+2,0,none⟩),.pointer (some ⟨g+1,0,none⟩),.pointer (some ⟨g+3,0,none⟩)]):=(one_cell S5.fn).1
 obtain⟨c0,c1,c2,c3,c4⟩:=row_cell R5
 have CI:=hide (right_any 8 v _ 1 0 0 g (g+2) (g+1) (g+3) w5 (by omega) (by omega) ((hv.lift (by omega)).mono X5) (by omega) P5 S5 (by omega))
 have H:=hide (And.intro P5 (And.intro X5 hy'))
 clear BX b12 b23 b34 r2 r3 r4 S5 P5 X5 R5 hv hy'
 rw [hg]
 simp only [Nat.zero_add] at CI
 obtain⟨R,hR⟩:∃R,(okB 8 v && decide (wt v≤2048))=R:=⟨_,rfl⟩
 rw [hR] at CI
 have HR:=hide hR
 clear hR
 go_enter Tryz.func109,Tryz.ntmps109
 go_wp2_with fail
 refine(unhide CI).mono ?_
 rintro e w6 ⟨d',s',rfl,s6,b6,hok⟩
 have S6:=hide s6
 have X6:Hid (Below g w w6):=hide ((unhide H).2.1.trans b6)
 have P6:Hid (Pl w6 g (g+2) (g+1) (g+3)):=hide ((unhide H).1.later b6.size)
 have HO:=hide hok
 obtain⟨qd,fd⟩:=one_cell s6.dep
 obtain⟨qw,fw⟩:=one_cell s6.wgt
 clear s6 b6 hok CI c0 c1 c2 c3 c4 qr q4 f4 hw1 hw2 hw3 hw4 hw5
 cases R with
 |false=>
  have S7:=hide (((unhide S6).setW (unhide P6) 0).setD ((unhide P6).later (by simp)) 0)
  have X7:=hide (((unhide X6).setCell (p:=⟨g+1,0,none⟩) (by show g≤g+1;omega) (.int .i64 0)).setCell (p:=⟨g+2,0,none⟩) (by show g≤g+2;omega) (.int .i64 0))
  have hr:rightB v=false:=unhide HR
  have HZ:Hid (wt0 v=0∧dep0 v=0):=hide (by unfold wt0 dep0;rw [hr];exact⟨rfl,rfl⟩)
  clear hr
  go_wp2_with fail
  refine bodyPost_ret (ret_cells rfl _ _ (g+1) (g+2) 0 0 rfl rfl (one_cell (unhide S7).wgt).1 (one_cell (unhide S7).dep).1) rfl ⟨by rw [(unhide HZ).1,(unhide HZ).2];rfl,unhide X7⟩
 |true=>
  obtain⟨es,ed⟩:=unhide HO rfl
  subst es
  subst ed
  go_wp2_with fail
  go_region
  have hr:rightB v=true:=unhide HR
  have HZ:Hid (wt0 v=wt v∧dep0 v=dep v):=hide (by unfold wt0 dep0;rw [hr];exact⟨rfl,rfl⟩)
  obtain⟨W,hW⟩:∃W:Nat,wt v=W:=⟨_,rfl⟩
  obtain⟨D,hD⟩:∃D:Nat,dep v=D:=⟨_,rfl⟩
  rw [hW,hD] at HZ
  rw [hW,hD]
  have S7:=hide (((unhide S6).setW (unhide P6) (W:Int)).setD ((unhide P6).later (by simp)) (D:Int))
  have X7:=hide ((((unhide X6).setCell (p:=⟨g+1,0,none⟩) (by show g≤g+1;omega) (.int .i64 (W:Int))).setCell (p:=⟨g+2,0,none⟩) (by show g≤g+2;omega) (.int .i64 (D:Int))).drew)
  clear hr HO S6
  go_wp2_with fail
  refine bodyPost_ret (ret_cells rfl _ _ (g+1) (g+2) (W:Int) (D:Int) rfl rfl (one_cell (unhide S7).wgt).1 (one_cell (unhide S7).dep).1) rfl ⟨by rw [(unhide HZ).1,(unhide HZ).2],unhide X7⟩
/-! ### Are two values the same? -/
def sameL:List Vl→List Vl→Bool
 |[],_=>true
 |_ :: _,[]=>true
 |.mk k n s l q :: xs,.mk k' n' s' l' q' :: ys=>(decide (k=k') && decide (n=n') && (s.toList == s'.toList) && decide (l.length=l'.length) && decide (q=q') && sameL l l') && sameL xs ys
def sameB:Vl→Vl→Bool
 |.mk k n s l ks,.mk k' n' s' l' ks'=>decide (k=k') && decide (n=n') && (s.toList == s'.toList) && decide (l.length=l'.length) && decide (ks=ks') && sameL l l'
theorem sameL_nil (l:List Vl):sameL [] l=true:=by simp only [sameL]
theorem sameL_cons (x:Vl) (xs:List Vl) (y:Vl) (ys:List Vl):sameL (x :: xs) (y :: ys)=(sameB x y && sameL xs ys):=by
 cases x
 cases y
 simp only [sameL,sameB]
theorem bytes_beq (a b:ByteArray):(a.toList == b.toList)=true↔a=b:=by
 rw [beq_iff_eq,ByteArray.toList_eq,ByteArray.toList_eq]
 exact⟨Go.WideShapes.bytes_inj,fun h=>by rw [h]⟩
theorem sameB_iff_of {k n:Int} {s:ByteArray} {l:List Vl} {ks:List ByteArray} {k' n':Int} {s':ByteArray} {l':List Vl} {ks':List ByteArray} (h:l.length=l'.length→(sameL l l'=true↔l=l')):sameB (.mk k n s l ks) (.mk k' n' s' l' ks')=true↔Vl.mk k n s l ks=.mk k' n' s' l' ks':=by
 simp only [sameB,Bool.and_eq_true,decide_eq_true_eq,bytes_beq,Vl.mk.injEq]
 constructor
 ·rintro ⟨⟨⟨⟨⟨h1,h2⟩,h3⟩,h4⟩,h5⟩,h6⟩
  exact⟨h1,h2,h3,(h h4).1 h6,h5⟩
 ·rintro ⟨h1,h2,h3,h4,h5⟩
  exact⟨⟨⟨⟨⟨h1,h2⟩,h3⟩,by rw [h4]⟩,h5⟩,(h (by rw [h4])).2 h4⟩
theorem sameL_iff:∀(l l':List Vl),l.length=l'.length→(sameL l l'=true↔l=l')
 |[],[],_=>by simp [sameL_nil]
 |[],_ :: _,h=>by simp at h
 |_ :: _,[],h=>by simp at h
 |.mk k n s l q :: xs,.mk k' n' s' l' q' :: ys,h=>by
  have h1:=sameB_iff_of (k:=k) (n:=n) (s:=s) (ks:=q) (k':=k') (n':=n') (s':=s') (ks':=q') (sameL_iff l l')
  have h2:=sameL_iff xs ys (by simpa using h)
  rw [sameL_cons,Bool.and_eq_true,h1,h2,List.cons.injEq]
theorem sameB_iff (a b:Vl):sameB a b=true↔a=b:=by
 cases a
 cases b
 exact sameB_iff_of (sameL_iff _ _)
def cntL:List Vl→Nat
 |[]=>0
 |.mk _ _ _ l _ :: r=>(1+cntL l)+cntL r
def cnt:Vl→Nat
 |.mk _ _ _ l _=>1+cntL l
theorem cntL_nil:cntL []=0:=by simp only [cntL]
theorem cntL_cons (x:Vl) (r:List Vl):cntL (x :: r)=cnt x+cntL r:=by cases x;simp only [cntL,cnt]
theorem cntL_app (a b:List Vl):cntL (a++b)=cntL a+cntL b:=by
 induction a with
 |nil=>simp [cntL_nil]
 |cons x r ih=>simp [cntL_cons,ih];omega
theorem cntL_next (l:List Vl) (i:Nat) (x:Vl) (h:l[i]?=some x):cntL (l.take (i+1))=cntL (l.take i)+cnt x:=by
 obtain⟨hi,rfl⟩:=List.getElem?_eq_some_iff.1 h
 rw [List.take_succ_eq_append_getElem hi,cntL_app,cntL_cons,cntL_nil,Nat.add_zero]
theorem cntL_take_le (l:List Vl) (i:Nat):cntL (l.take i)≤cntL l:=by
 have h:=cntL_app (l.take i) (l.drop i)
 rw [List.take_append_drop] at h
 omega
theorem cnt_pos (v:Vl):1≤cnt v:=by cases v;simp only [cnt];omega
theorem len_cntL (l:List Vl):l.length≤cntL l:=by
 induction l with
 |nil=>simp [cntL_nil]
 |cons x r ih=>have:=cnt_pos x;simp [cntL_cons];omega
theorem dep_elem (l:List Vl) (i:Nat) (x:Vl) (h:l[i]?=some x):dep x≤depL l:=by
 have h1:=depL_next l i x h
 have h2:=depL_app (l.take (i+1)) (l.drop (i+1))
 rw [List.take_append_drop] at h2
 omega
def fewB (v:Vl):Bool:=decide (cnt v≤5000)
set_option linter.unusedVariables false
theorem size_bld:(Tryz.prog.info? 50).map (·.size)=some 2:=by kernel_rfl
theorem lies_bld:liesAt Tryz.prog Tryz.prog.depth 50 (2 / Tryz.prog.cellsOf 50) 0 50 1=true:=by kernel_rfl
theorem info_byte:(Tryz.prog.info? 5).map (fun i=>(i.zero,i.size,i.bytes))=some (some (.int .u8 0),1,1):=by kernel_rfl
abbrev Bd (w:World) (B b:Nat) (l:List UInt8):Prop:=Lib.IsBuilderF 50 5 B b (Lib.byteCells l) w
structure Wr (B b:Nat) (l:List UInt8) (w w':World):Prop where
 bd:Bd w' B b l
 below:Below B w w'
 kept:Lib.OthersKept 5 (some b) w w'
set_option maxHeartbeats 1000000 in
set_option maxRecDepth 100000 in
theorem ccheck_used (b:Nat) (w:World) (h0:w.cell? ⟨b,0,none⟩=some (.pointer (some ⟨b,0,none⟩))) :
  Calls Tryz.prog 97 #[.pointer (some ⟨b,0,none⟩)] w fun e w'=>e=.returned (.tuple #[])∧w'=w:=by
 obtain⟨j,hj,_⟩:=Option.map_eq_some_iff.1 size_bld
 have hne:=Lib.run_neq_ptr_same (P:=Tryz.prog) w ⟨b,0,none⟩ Tryz.underlying48 hj
 clear hj
 go_enter Tryz.func97,Tryz.ntmps97
 go_wp2_with fail
 go_end0
 exact⟨rfl,rfl⟩
set_option maxHeartbeats 1000000 in
set_option maxRecDepth 100000 in
theorem ccheck_fresh (b:Nat) (w:World) (h0:w.cell? ⟨b,0,none⟩=some (.pointer none)) (hsh:w.shape? b=some (50,2)) (hfz:w.frozen? ⟨b,0,none⟩=false) :
  Calls Tryz.prog 97 #[.pointer (some ⟨b,0,none⟩)] w fun e w'=>e=.returned (.tuple #[])∧w'=w.setCell ⟨b,0,none⟩ (.pointer (some ⟨b,0,none⟩)):=by
 obtain⟨j,hj,hjs⟩:=Option.map_eq_some_iff.1 size_bld
 have r1:=Lib.run_to_unsafe (P:=Tryz.prog) w ⟨b,0,none⟩ Tryz.underlying48 Tryz.underlying95 hj (by rw [hjs];decide) hsh (Nat.zero_lt_succ 1)
 have r2:=Lib.run_from_unsafe (P:=Tryz.prog) w ⟨b,0,none⟩ Tryz.underlying95 Tryz.underlying48 hj hsh lies_bld
 clear hj hsh
 go_enter Tryz.func97,Tryz.ntmps97
 go_wp2_with fail
 rw [run_callFunc_extern Tryz.func125 (by kernel_rfl) (by kernel_rfl) (by kernel_rfl) (e:=Extern.AbiNoEscape.same) (by kernel_rfl)]
 rw [Lib.run_noEscape]
 simp only [Result.andThen]
 rw [Oper.upon_value]
 go_wp2_with fail
 go_end0
 exact⟨rfl,rfl⟩
theorem ccheck_any (B b:Nat) (l:List UInt8) (w:World) (h:Bd w B b l) :
  Calls Tryz.prog 97 #[.pointer (some ⟨b,0,none⟩)] w fun e w'=>e=.returned (.tuple #[])∧Lib.BuilderAtF 50 5 B b (.pointer (some ⟨b,0,none⟩)) (Lib.byteCells l) w'∧Below B w w'∧Lib.OthersKept 5 (some b) w w':=by
 rcases h with h|h
 ·refine(ccheck_fresh b w h.cell0 h.shape h.frozen0).mono ?_
  rintro e w' ⟨rfl,rfl⟩
  exact⟨rfl,h.used _,(Below.refl B w).setCell (p:=⟨b,0,none⟩) h.1 _,(Lib.OthersKept.refl _ _ w).setCell ⟨b,0,none⟩ rfl _⟩
 ·refine(ccheck_used b w h.cell0).mono ?_
  rintro e w' ⟨rfl,rfl⟩
  exact⟨rfl,h,Below.refl B _,Lib.OthersKept.refl _ _ _⟩
theorem byteCells_one (l:List UInt8) (c:UInt8):Lib.byteCells l++[Value.int .u8 (c.toNat:Int)]=Lib.byteCells (l++[c]):=by simp [Lib.byteCells]
set_option maxHeartbeats 1000000 in
set_option maxRecDepth 100000 in
theorem wbyte_any (B b:Nat) (l:List UInt8) (c:UInt8) (w:World) (h:Bd w B b l) (hlen:l.length+1≤140737488355328) (hBw:B≤w.heap.size) :
  Calls Tryz.prog 113 #[.pointer (some ⟨b,0,none⟩),.int .u8 (c.toNat:Int)] w fun e w'=>e=.returned .nilIface∧Wr B b (l++[c]) w w':=by
 obtain⟨i0,hi,hz0,hz1,hz2⟩:=info_parts info_byte
 have CC:=hide (ccheck_any B b l w h)
 obtain⟨z,hz⟩:∃z:Int,(c.toNat:Int)=z:=⟨_,rfl⟩
 have HZ:=hide hz
 rw [hz]
 clear hz h
 go_enter Tryz.func113,Tryz.ntmps113
 go_wp2_with fail
 refine(unhide CC).mono ?_
 rintro e w1 ⟨rfl,h1,hb1,hk1⟩
 obtain⟨hB,v,hbk,hown,hne⟩:=h1
 have c0:w1.cell? ⟨b,0,none⟩=some (.pointer (some ⟨b,0,none⟩)):=by rw [Lib.cell_of_heap hbk];rfl
 have c1:w1.cell? ⟨b,1,none⟩=some v:=by rw [Lib.cell_of_heap hbk];rfl
 have hll:=Lib.byteCells_length l
 go_wp2_with (at_builtin;refine wpList_append_ownF _ rfl _ _ 41 rfl B 5 i0 (.int .u8 0) 1 1 Tryz.underlying41 hi hz0 hz1 hz2 rfl (by decide) _ _ _ rfl (hown.alloc _) ⟨w1.heap.size,0,none⟩ 1 1 [.int .u8 z] rfl rfl ?c1 ?c2 ?c3 ?c4 ?c5 ?_)
 case c1=>
  intro j u hj
  match j,hj with
  |0,hj=>simp at hj;subst hj;simp [Addr.add]
 case c2=>intro u hu;simp at hu;subst hu;rfl
 case c3=>unfold maxLen;omega
 case c4=>omega
 case c5=>have:=hb1.size;simp;omega
 intro v' w2 hown' hgrow _
 have hlt:b<w1.heap.size:=(Array.getElem?_eq_some_iff.1 hbk).1
 have hb2:w2.heap[b]?=some (.cells #[.pointer (some ⟨b,0,none⟩),v] 50 (0,0)):=by
  rw [hgrow.block b (by simp;omega) (fun e=>hne e.symm),Lib.alloc_old w1 _ b hlt]
  exact hbk
 have d0:w2.cell? ⟨b,0,none⟩=some (.pointer (some ⟨b,0,none⟩)):=by rw [Lib.cell_of_heap hb2];rfl
 have d1:w2.cell? ⟨b,1,none⟩=some v:=by rw [Lib.cell_of_heap hb2];rfl
 have f1:w2.frozen? ⟨b,1,none⟩=false:=Lib.frozen_of_heap hb2 1
 obtain⟨ao,n',cap,rfl⟩:∃ao n' cap,v'=.slice ao n' cap:=by
  rcases hown'.2 with ⟨hv,_⟩|⟨g,cap,cur,fz,hv,_⟩
  ·exact⟨_,_,_,hv⟩
  ·exact⟨_,_,_,hv⟩
 have HX:Hid (Wr B b (l++[c]) w (w2.setCell ⟨b,1,none⟩ (.slice ao n' cap))):=hide (by
  have ez:Lib.byteCells l++[Value.int .u8 z]=Lib.byteCells (l++[c]):=by rw [←unhide HZ];exact byteCells_one l c
  refine⟨.inr ?_,?_,?_⟩
  ·exact Lib.BuilderAtF.put (T:=50) (e:=5) hB hb2 (bs':=Lib.byteCells (l++[c])) (by rw [Lib.byteCells_length,List.length_append,←ez];exact hown') (by decide)
  ·exact((hb1.alloc (by have:=hb1.size;omega) _).grown hgrow (by have:=hb1.size;simp;omega) (fun k hk=>(hown.lt k hk).1)).setCell (p:=⟨b,1,none⟩) hB _
  ·exact((hk1.alloc _).grown hgrow (Lib.ownsRowF_kind (hown.alloc _))).setCell ⟨b,1,none⟩ rfl _)
 clear hown' hgrow hb2 c0 c1 hbk hown hb1 hk1 hz0 hz1 hz2 hi HZ hll
 go_wp2_with fail
 go_ret
 exact⟨rfl,unhide HX⟩
set_option maxHeartbeats 1000000 in
set_option maxRecDepth 100000 in
theorem wstr_any (B b:Nat) (l:List UInt8) (s:ByteArray) (w:World) (h:Bd w B b l) (hlen:l.length+s.size≤140737488355328) (hBw:B≤w.heap.size) :
  Calls Tryz.prog 68 #[.pointer (some ⟨b,0,none⟩),.string s] w fun e w'=>e=.returned (.tuple #[.int .i64 (s.size:Int),.nilIface])∧Wr B b (l++s.data.toList) w w':=by
 obtain⟨i0,hi,hz0,hz1,hz2⟩:=info_parts info_byte
 have CC:=hide (ccheck_any B b l w h)
 clear h
 go_enter Tryz.func68,Tryz.ntmps68
 go_wp2_with fail
 refine(unhide CC).mono ?_
 rintro e w1 ⟨rfl,h1,hb1,hk1⟩
 obtain⟨hB,v,hbk,hown,hne⟩:=h1
 have c0:w1.cell? ⟨b,0,none⟩=some (.pointer (some ⟨b,0,none⟩)):=by rw [Lib.cell_of_heap hbk];rfl
 have c1:w1.cell? ⟨b,1,none⟩=some v:=by rw [Lib.cell_of_heap hbk];rfl
 have hll:=Lib.byteCells_length l
 go_wp2_with (at_builtin;refine Lib.wpList_append_own_stringF _ rfl _ _ 41 9 rfl B 5 i0 Tryz.underlying41 Tryz.underlying9 hi hz0 hz1 hz2 _ _ _ rfl hown s rfl ?c3 ?c4 ?c5 ?_)
 case c3=>unfold maxLen;omega
 case c4=>omega
 case c5=>have:=hb1.size;omega
 intro v' w2 hown' hgrow _
 have hlt:b<w1.heap.size:=(Array.getElem?_eq_some_iff.1 hbk).1
 have hb2:w2.heap[b]?=some (.cells #[.pointer (some ⟨b,0,none⟩),v] 50 (0,0)):=by
  rw [hgrow.block b hlt (fun e=>hne e.symm)]
  exact hbk
 have d0:w2.cell? ⟨b,0,none⟩=some (.pointer (some ⟨b,0,none⟩)):=by rw [Lib.cell_of_heap hb2];rfl
 have d1:w2.cell? ⟨b,1,none⟩=some v:=by rw [Lib.cell_of_heap hb2];rfl
 have f1:w2.frozen? ⟨b,1,none⟩=false:=Lib.frozen_of_heap hb2 1
 obtain⟨ao,n',cap,rfl⟩:∃ao n' cap,v'=.slice ao n' cap:=by
  rcases hown'.2 with ⟨hv,_⟩|⟨g,cap,cur,fz,hv,_⟩
  ·exact⟨_,_,_,hv⟩
  ·exact⟨_,_,_,hv⟩
 have HX:Hid (Wr B b (l++s.data.toList) w (w2.setCell ⟨b,1,none⟩ (.slice ao n' cap))):=hide (by
  have ez:Lib.byteCells l++Lib.strCells s=Lib.byteCells (l++s.data.toList):=by rw [Lib.strCells_eq,Lib.byteCells_append]
  have el:(Lib.byteCells (l++s.data.toList)).length=l.length+s.size:=by rw [Lib.byteCells_length,List.length_append];rfl
  refine⟨.inr ?_,?_,?_⟩
  ·exact Lib.BuilderAtF.put (T:=50) (e:=5) hB hb2 (bs':=Lib.byteCells (l++s.data.toList)) (by rw [el,←ez];exact hown') (by decide)
  ·exact(hb1.grown hgrow (by have:=hb1.size;omega) (fun k hk=>(hown.lt k hk).1)).setCell (p:=⟨b,1,none⟩) hB _
  ·exact(hk1.grown hgrow (Lib.ownsRowF_kind hown)).setCell ⟨b,1,none⟩ rfl _)
 clear hown' hgrow hb2 c0 c1 hbk hown hb1 hk1 hz0 hz1 hz2 hi hll
 go_wp2_with fail
 go_ret2
 exact⟨rfl,unhide HX⟩
end Go.Proofs.YtekbmfppfjlboaaGreatDoor
