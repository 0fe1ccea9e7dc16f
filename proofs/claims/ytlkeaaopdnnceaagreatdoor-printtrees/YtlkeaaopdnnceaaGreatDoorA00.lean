/-
  A fact put out of the walk's sight, and taken out again.
  strings.Builder's copyCheck, WriteByte, WriteString at this program; conditions: Go's own limit on a text.
  what a text is (a function that puts bytes into a builder), and how it lasts.
  a row of texts is a text.
  Values in memory: a value as a tree, how it lies in a world, which are right, how heavy and how deep they are.
  Conditions: where nodes are told of, they lie in memory.
-/
import Derived.WalkKit
import Derived.Test.YtlkeaaopdnnceaaGreatDoorShl
import Derived.Test.YtlkeaaopdnnceaaGreatDoorChecked
import Derived.WalkSpells
import Derived.Shelf.Strings.BuilderK
import Derived.Deep.LoopGhost
import Derived.Below
import Derived.Deep.MidRow
import Derived.Deep.Strs
import Derived.Laws.Strings
import Derived.Laws.Cover1
set_option linter.unusedVariables false
set_option linter.unusedSimpArgs false
set_option maxRecDepth 100000
set_option maxHeartbeats 8000000
namespace Go.Proofs.YtlkeaaopdnnceaaGreatDoor
open Go.RowKit
theorem hZ {p:Prop} (h:p):Hid p:=h
theorem uZ {p:Prop} (h:Hid p):p:=h
theorem sA {α:Type} (l:List α) (i:Nat) (a:α):l.toArray.setIfInBounds i a=(l.set i a).toArray:=by simp
theorem sB {α:Type} (x y:α) (l:List α):(x :: l).set 0 y=y :: l:=rfl
theorem sC {α:Type} (x y:α) (l:List α) (i:Nat):(x :: l).set (i+1) y=x :: l.set i y:=rfl
set_option linter.unusedVariables false
theorem al1 {w w1:World} {C:Array Value} {T:TypeId} {G:Nat} (h:w.alloc (.cells C T)=w1) (hG:w.heap.size=G):w1.heap[G]?=some (.cells C T (0,0))∧Below G w w1:=by
 subst h
 subst hG
 exact⟨heap_alloc_new _ _,(Below.refl _ _).alloc (Nat.le_refl _) _⟩
theorem tenC {w:World} {A:Addr} {v0 v1 v2 v3 v4 v5 v6 v7 v8 v9:Value} (h:∀ (j:Nat) (v:Value),([v0,v1,v2,v3,v4,v5,v6,v7,v8,v9]:List Value)[j]?=some v→w.cell? (A.add j)=some v):w.cell? A=some v0∧w.cell? ⟨A.block,A.off+1,none⟩=some v1∧w.cell? ⟨A.block,A.off+2,none⟩=some v2∧w.cell? ⟨A.block,A.off+3,none⟩=some v3∧w.cell? ⟨A.block,A.off+4,none⟩=some v4∧w.cell? ⟨A.block,A.off+5,none⟩=some v5∧w.cell? ⟨A.block,A.off+6,none⟩=some v6∧w.cell? ⟨A.block,A.off+7,none⟩=some v7∧w.cell? ⟨A.block,A.off+8,none⟩=some v8∧w.cell? ⟨A.block,A.off+9,none⟩=some v9:=⟨h 0 _ rfl,h 1 _ rfl,h 2 _ rfl,h 3 _ rfl,h 4 _ rfl,h 5 _ rfl,h 6 _ rfl,h 7 _ rfl,h 8 _ rfl,h 9 _ rfl⟩
def NF10 (w1:World) (G:Nat) (a0 a1 a2 a3 a4 a5 a6 a7 a8 a9:Value):Prop:=∀u,Below w1.heap.size w1 u→u.cell? ⟨G,0,none⟩=some a0∧u.cell? ⟨G,1,none⟩=some a1∧u.cell? ⟨G,2,none⟩=some a2∧u.cell? ⟨G,3,none⟩=some a3∧u.cell? ⟨G,4,none⟩=some a4∧u.cell? ⟨G,5,none⟩=some a5∧u.cell? ⟨G,6,none⟩=some a6∧u.cell? ⟨G,7,none⟩=some a7∧u.cell? ⟨G,8,none⟩=some a8∧u.cell? ⟨G,9,none⟩=some a9
theorem size_bld:(Tryz.prog.info? 50).map (·.size)=some 2:=by kernel_rfl
theorem lies_bld:liesAt Tryz.prog Tryz.prog.depth 50 (2 / Tryz.prog.cellsOf 50) 0 50 1=true:=by kernel_rfl
theorem info_byte:(Tryz.prog.info? 5).map (fun i=>(i.zero,i.size,i.bytes))=some (some (.int .u8 0),1,1):=by kernel_rfl
abbrev Bd (w:World) (B b:Nat) (l:List UInt8):Prop:=Lib.IsBuilderF 50 5 B b (Lib.byteCells l) w
structure Wr (B b:Nat) (l:List UInt8) (w w':World):Prop where
 bd:Bd w' B b l
 below:Below B w w'
 kept:Lib.OthersKept 5 (some b) w w'
theorem ccheck_used (b:Nat) (w:World) (h0:w.cell? ⟨b,0,none⟩=some (.pointer (some ⟨b,0,none⟩))) :
  Calls Tryz.prog 97 #[.pointer (some ⟨b,0,none⟩)] w fun e w'=>e=.returned (.tuple #[])∧w'=w:=by
 obtain⟨j,hj,_⟩:=Option.map_eq_some_iff.1 size_bld
 have hne:=Lib.run_neq_ptr_same (P:=Tryz.prog) w ⟨b,0,none⟩ Tryz.underlying48 hj
 clear hj
 go_enter Tryz.func97,Tryz.ntmps97
 go_wp2_with fail
 go_end0
 exact⟨rfl,rfl⟩
theorem ccheck_fresh (b:Nat) (w:World) (h0:w.cell? ⟨b,0,none⟩=some (.pointer none)) (hsh:w.shape? b=some (50,2)) (hfz:w.frozen? ⟨b,0,none⟩=false) :
  Calls Tryz.prog 97 #[.pointer (some ⟨b,0,none⟩)] w fun e w'=>e=.returned (.tuple #[])∧w'=w.setCell ⟨b,0,none⟩ (.pointer (some ⟨b,0,none⟩)):=by
 obtain⟨j,hj,hjs⟩:=Option.map_eq_some_iff.1 size_bld
 have r1:=Lib.run_to_unsafe (P:=Tryz.prog) w ⟨b,0,none⟩ Tryz.underlying48 Tryz.underlying95 hj (by rw [hjs];decide) hsh (Nat.zero_lt_succ 1)
 have r2:=Lib.run_from_unsafe (P:=Tryz.prog) w ⟨b,0,none⟩ Tryz.underlying95 Tryz.underlying48 hj hsh lies_bld
 clear hj hsh
 go_enter Tryz.func97,Tryz.ntmps97
 go_wp2_with fail
 rw [run_callFunc_extern Tryz.func125 (by kernel_rfl) (by kernel_rfl) (by kernel_rfl) (e:=Extern.AbiNoEscape.same) (by kernel_rfl)]
 rw [Lib.run_noEscape]
 simp only [Result.andThen]
 rw [Oper.upon_value]
 go_wp2_with fail
 go_end0
 exact⟨rfl,rfl⟩
theorem ccheck_any (B b:Nat) (l:List UInt8) (w:World) (h:Bd w B b l) :
  Calls Tryz.prog 97 #[.pointer (some ⟨b,0,none⟩)] w fun e w'=>e=.returned (.tuple #[])∧Lib.BuilderAtF 50 5 B b (.pointer (some ⟨b,0,none⟩)) (Lib.byteCells l) w'∧Below B w w'∧Lib.OthersKept 5 (some b) w w':=by
 rcases h with h|h
 ·refine(ccheck_fresh b w h.cell0 h.shape h.frozen0).mono ?_
  rintro e w' ⟨rfl,rfl⟩
  exact⟨rfl,h.used _,(Below.refl B w).setCell (p:=⟨b,0,none⟩) h.1 _,(Lib.OthersKept.refl _ _ w).setCell ⟨b,0,none⟩ rfl _⟩
 ·refine(ccheck_used b w h.cell0).mono ?_
  rintro e w' ⟨rfl,rfl⟩
  exact⟨rfl,h,Below.refl B _,Lib.OthersKept.refl _ _ _⟩
theorem byteCells_one (l:List UInt8) (c:UInt8):Lib.byteCells l++[Value.int .u8 (c.toNat:Int)]=Lib.byteCells (l++[c]):=by simp [Lib.byteCells]
theorem wbyte_any (B b:Nat) (l:List UInt8) (c:UInt8) (w:World) (h:Bd w B b l) (hlen:l.length+1≤140737488355328) (hBw:B≤w.heap.size) :
  Calls Tryz.prog 113 #[.pointer (some ⟨b,0,none⟩),.int .u8 (c.toNat:Int)] w fun e w'=>e=.returned .nilIface∧Wr B b (l++[c]) w w':=by
 obtain⟨i0,hi,hz0,hz1,hz2⟩:=info_parts info_byte
 have CC:=hZ (ccheck_any B b l w h)
 obtain⟨z,hz⟩:∃z:Int,(c.toNat:Int)=z:=⟨_,rfl⟩
 have HZ:=hZ hz
 rw [hz]
 clear hz h
 go_enter Tryz.func113,Tryz.ntmps113
 go_wp2_with fail
 refine(uZ CC).mono ?_
 rintro e w1 ⟨rfl,h1,hb1,hk1⟩
 obtain⟨hB,v,hbk,hown,hne⟩:=h1
 have c0:w1.cell? ⟨b,0,none⟩=some (.pointer (some ⟨b,0,none⟩)):=by rw [Lib.cell_of_heap hbk];rfl
 have c1:w1.cell? ⟨b,1,none⟩=some v:=by rw [Lib.cell_of_heap hbk];rfl
 have hll:=Lib.byteCells_length l
 go_wp2_with (at_builtin;refine wpList_append_ownF _ rfl _ _ 41 rfl B 5 i0 (.int .u8 0) 1 1 Tryz.underlying41 hi hz0 hz1 hz2 rfl (by decide) _ _ _ rfl (hown.alloc _) ⟨w1.heap.size,0,none⟩ 1 1 [.int .u8 z] rfl rfl ?c1 ?c2 ?c3 ?c4 ?c5 ?_)
 case c1=>
  intro j u hj
  match j,hj with
  |0,hj=>simp at hj;subst hj;simp [Addr.add]
 case c2=>intro u hu;simp at hu;subst hu;rfl
 case c3=>unfold maxLen;omega
 case c4=>omega
 case c5=>have:=hb1.size;simp;omega
 intro v' w2 hown' hgrow _
 have hlt:b<w1.heap.size:=(Array.getElem?_eq_some_iff.1 hbk).1
 have hb2:w2.heap[b]?=some (.cells #[.pointer (some ⟨b,0,none⟩),v] 50 (0,0)):=by
  rw [hgrow.block b (by simp;omega) (fun e=>hne e.symm),Lib.alloc_old w1 _ b hlt]
  exact hbk
 have d0:w2.cell? ⟨b,0,none⟩=some (.pointer (some ⟨b,0,none⟩)):=by rw [Lib.cell_of_heap hb2];rfl
 have d1:w2.cell? ⟨b,1,none⟩=some v:=by rw [Lib.cell_of_heap hb2];rfl
 have f1:w2.frozen? ⟨b,1,none⟩=false:=Lib.frozen_of_heap hb2 1
 obtain⟨ao,n',cap,rfl⟩:∃ao n' cap,v'=.slice ao n' cap:=by
  rcases hown'.2 with ⟨hv,_⟩|⟨g,cap,cur,fz,hv,_⟩
  ·exact⟨_,_,_,hv⟩
  ·exact⟨_,_,_,hv⟩
 have HX:Hid (Wr B b (l++[c]) w (w2.setCell ⟨b,1,none⟩ (.slice ao n' cap))):=hZ (by
  have ez:Lib.byteCells l++[Value.int .u8 z]=Lib.byteCells (l++[c]):=by rw [←uZ HZ];exact byteCells_one l c
  refine⟨.inr ?_,?_,?_⟩
  ·exact Lib.BuilderAtF.put (T:=50) (e:=5) hB hb2 (bs':=Lib.byteCells (l++[c])) (by rw [Lib.byteCells_length,List.length_append,←ez];exact hown') (by decide)
  ·exact((hb1.alloc (by have:=hb1.size;omega) _).grown hgrow (by have:=hb1.size;simp;omega) (fun k hk=>(hown.lt k hk).1)).setCell (p:=⟨b,1,none⟩) hB _
  ·exact((hk1.alloc _).grown hgrow (Lib.ownsRowF_kind (hown.alloc _))).setCell ⟨b,1,none⟩ rfl _)
 clear hown' hgrow hb2 c0 c1 hbk hown hb1 hk1 hz0 hz1 hz2 hi HZ hll
 go_wp2_with fail
 go_ret
 exact⟨rfl,uZ HX⟩
theorem wstr_any (B b:Nat) (l:List UInt8) (s:ByteArray) (w:World) (h:Bd w B b l) (hlen:l.length+s.size≤140737488355328) (hBw:B≤w.heap.size) :
  Calls Tryz.prog 68 #[.pointer (some ⟨b,0,none⟩),.string s] w fun e w'=>e=.returned (.tuple #[.int .i64 (s.size:Int),.nilIface])∧Wr B b (l++s.data.toList) w w':=by
 obtain⟨i0,hi,hz0,hz1,hz2⟩:=info_parts info_byte
 have CC:=hZ (ccheck_any B b l w h)
 clear h
 go_enter Tryz.func68,Tryz.ntmps68
 go_wp2_with fail
 refine(uZ CC).mono ?_
 rintro e w1 ⟨rfl,h1,hb1,hk1⟩
 obtain⟨hB,v,hbk,hown,hne⟩:=h1
 have c0:w1.cell? ⟨b,0,none⟩=some (.pointer (some ⟨b,0,none⟩)):=by rw [Lib.cell_of_heap hbk];rfl
 have c1:w1.cell? ⟨b,1,none⟩=some v:=by rw [Lib.cell_of_heap hbk];rfl
 have hll:=Lib.byteCells_length l
 go_wp2_with (at_builtin;refine Lib.wpList_append_own_stringF _ rfl _ _ 41 9 rfl B 5 i0 Tryz.underlying41 Tryz.underlying9 hi hz0 hz1 hz2 _ _ _ rfl hown s rfl ?c3 ?c4 ?c5 ?_)
 case c3=>unfold maxLen;omega
 case c4=>omega
 case c5=>have:=hb1.size;omega
 intro v' w2 hown' hgrow _
 have hlt:b<w1.heap.size:=(Array.getElem?_eq_some_iff.1 hbk).1
 have hb2:w2.heap[b]?=some (.cells #[.pointer (some ⟨b,0,none⟩),v] 50 (0,0)):=by
  rw [hgrow.block b hlt (fun e=>hne e.symm)]
  exact hbk
 have d0:w2.cell? ⟨b,0,none⟩=some (.pointer (some ⟨b,0,none⟩)):=by rw [Lib.cell_of_heap hb2];rfl
 have d1:w2.cell? ⟨b,1,none⟩=some v:=by rw [Lib.cell_of_heap hb2];rfl
 have f1:w2.frozen? ⟨b,1,none⟩=false:=Lib.frozen_of_heap hb2 1
 obtain⟨ao,n',cap,rfl⟩:∃ao n' cap,v'=.slice ao n' cap:=by
  rcases hown'.2 with ⟨hv,_⟩|⟨g,cap,cur,fz,hv,_⟩
  ·exact⟨_,_,_,hv⟩
  ·exact⟨_,_,_,hv⟩
 have HX:Hid (Wr B b (l++s.data.toList) w (w2.setCell ⟨b,1,none⟩ (.slice ao n' cap))):=hZ (by
  have ez:Lib.byteCells l++Lib.strCells s=Lib.byteCells (l++s.data.toList):=by rw [Lib.strCells_eq,Lib.byteCells_append]
  have el:(Lib.byteCells (l++s.data.toList)).length=l.length+s.size:=by rw [Lib.byteCells_length,List.length_append];rfl
  refine⟨.inr ?_,?_,?_⟩
  ·exact Lib.BuilderAtF.put (T:=50) (e:=5) hB hb2 (bs':=Lib.byteCells (l++s.data.toList)) (by rw [el,←ez];exact hown') (by decide)
  ·exact(hb1.grown hgrow (by have:=hb1.size;omega) (fun k hk=>(hown.lt k hk).1)).setCell (p:=⟨b,1,none⟩) hB _
  ·exact(hk1.grown hgrow (Lib.ownsRowF_kind hown)).setCell ⟨b,1,none⟩ rfl _)
 clear hown' hgrow hb2 c0 c1 hbk hown hb1 hk1 hz0 hz1 hz2 hi hll
 go_wp2_with fail
 go_ret2
 exact⟨rfl,uZ HX⟩
set_option linter.unusedSimpArgs false
structure Kp (B0:Nat) (w u:World):Prop where
 bel:Below B0 w u
 keep:∀(k:Nat) (o:Obj),w.heap[k]?=some o→(∀c fz,o≠.cells c 5 fz)→(∀c fz,o≠.cells c 50 fz)→u.heap[k]?=some o
theorem Kp.refl (B0:Nat) (w:World):Kp B0 w w:=⟨Below.refl _ _,fun _ _ h _ _=>h⟩
theorem Kp.trans {B0:Nat} {a b c:World} (h:Kp B0 a b) (k:Kp B0 b c):Kp B0 a c:=⟨h.bel.trans k.bel,fun i o hi h1 h2=>k.keep i o (h.keep i o hi h1 h2) h1 h2⟩
theorem Kp.below {B0:Nat} {w u:World} (h:Below w.heap.size w u) (hB:B0≤w.heap.size):Kp B0 w u:=⟨h.mono hB,fun k o hk _ _=>(h.block k (Array.getElem?_eq_some_iff.1 hk).1).trans hk⟩
theorem Bd.box {w:World} {B b:Nat} {l:List UInt8} (h:Bd w B b l):∃c,w.heap[b]?=some (.cells c 50 (0,0)):=by
 rcases h with ⟨_,v,hb,_⟩|⟨_,v,hb,_⟩ <;> exact⟨_,hb⟩
theorem Kp.wr {w u:World} {B0 B b:Nat} {l l':List UInt8} (h:Bd w B b l) (hB:B0≤B) (k:Wr B b l' w u):Kp B0 w u:=by
 refine⟨k.below.mono hB,fun i o hi h1 h2=>k.kept i o hi (fun e=>?_) h1⟩
 obtain⟨c,hc⟩:=h.box
 cases e
 rw [hi] at hc
 exact h2 c (0,0) (Option.some.inj hc)
theorem Kp.cells {B0:Nat} {w u:World} (h:Kp B0 w u) {g:Nat} {c:Array Value} {T:TypeId} {fz:Nat × Nat} (hg:w.heap[g]?=some (.cells c T fz)) (h1:¬T=5) (h2:¬T=50):u.heap[g]?=some (.cells c T fz):=
 h.keep g _ hg (fun c' z e=>by injection e with _ e _;exact h1 e) (fun c' z e=>by injection e with _ e _;exact h2 e)
theorem Wr.then {w u v:World} {B b:Nat} {l l':List UInt8} (h:Wr B b l w u) (k:Wr B b l' u v):Wr B b l' w v:=⟨k.bd,h.below.trans k.below,h.kept.trans k.kept⟩
def Txt (B0:Nat) (w:World) (t:Value) (L:List UInt8):Prop:=∃(F:FuncId) (cap:Array Value),t=.func (.func F) #[] cap∧(∀(x:Array Value) (u:World),Sem.run Tryz.prog (callFunc F x) u=.ok (.enter F x) u)∧∀(u:World) (B b:Nat) (l:List UInt8),Kp B0 w u→B0≤B→Bd u B b l→B≤u.heap.size→l.length+L.length≤140737488355328 →
  Calls Tryz.prog F (#[.pointer (some ⟨b,0,none⟩)]++cap) u fun e u'=>e=.returned (.tuple #[])∧Wr B b (l++L) u u'
theorem Txt.later {B0:Nat} {w u:World} {t:Value} {L:List UInt8} (h:Txt B0 w t L) (k:Kp B0 w u):Txt B0 u t L:=by
 obtain⟨F,cap,e,hf,h⟩:=h
 exact⟨F,cap,e,hf,fun v B b l hk=>h v B b l (k.trans hk)⟩
theorem Wr.start {w:World} {B b:Nat} {l:List UInt8} (h:Bd w B b l):Wr B b l w w:=⟨h,Below.refl _ _,Lib.OthersKept.refl _ _ _⟩
theorem call_word (x:Array Value) (u:World):Sem.run Tryz.prog (callFunc 76 x) u=.ok (.enter 76 x) u:=by kernel_rfl
theorem txw_any (B0:Nat) (s:ByteArray) (w:World):Calls Tryz.prog 40 #[.string s] w fun e w'=>∃t,e=.returned t∧Txt B0 w' t s.data.toList∧Below w.heap.size w w':=by
 obtain⟨w1,hw1⟩:∃w1,w.alloc (.cells #[.string s] 9)=w1:=⟨_,rfl⟩
 obtain⟨G,hG⟩:∃G,w.heap.size=G:=⟨_,rfl⟩
 have A1:=(al1 hw1 hG).1
 have B1:Below w.heap.size w w1:=by rw [←hw1];exact(Below.refl _ _).alloc (Nat.le_refl _) _
 have T1:Txt B0 w1 (.func (.func 76) #[] #[.pointer (some ⟨G,0,none⟩)]) s.data.toList:=by
  refine⟨_,_,rfl,call_word,fun u B b l hk hB0 hb hB hl=>?_⟩
  have C:=hk.cells A1 (by decide) (by decide)
  have c0:u.cell? ⟨G,0,none⟩=some (.string s):=by rw [cell_of_row u G 0 _ _ (0,0) C];rfl
  have CW:=hZ (wstr_any B b l s u hb (by simpa using hl) hB)
  clear hw1 A1 B1 C hb hk
  show Calls Tryz.prog 76 #[.pointer (some ⟨b,0,none⟩),.pointer (some ⟨G,0,none⟩)] u _
  go_enter Tryz.func76,Tryz.ntmps76
  go_wp2_with fail
  refine(uZ CW).mono ?_
  rintro e u' ⟨rfl,k⟩
  have HK:=hZ k
  clear k CW c0
  go_wp2_with fail
  go_end0
  exact⟨rfl,uZ HK⟩
 have HT:=hZ T1
 have HB:=hZ B1
 have HW:=hZ hw1
 clear A1 B1 T1 hw1
 go_enter Tryz.func40,Tryz.ntmps40
 go_wp2_with fail
 go_ret
 rw [uZ HW]
 try rw [hG]
 exact⟨_,rfl,uZ HT,by first|exact uZ HB|(rw [←hG];exact uZ HB)⟩
structure Txs (B0:Nat) (w:World) (q:Nat) (Ls:List (List UInt8)):Prop where
 row:∃cur,w.heap[q]?=some (.cells cur 39 (0,0))∧∀(i:Nat) (L:List UInt8),Ls[i]?=some L→∃t,cur[i]?=some t∧Txt B0 w t L
theorem Txs.at {B0:Nat} {w u:World} {q:Nat} {Ls:List (List UInt8)} (h:Txs B0 w q Ls) (k:Kp B0 w u) {i:Nat} {L:List UInt8} (hi:Ls[i]?=some L):∃F cap,u.cell? ⟨q,i,none⟩=some (.func (.func F) #[] cap)∧Txt B0 u (.func (.func F) #[] cap) L:=by
 obtain⟨cur,h1,h2⟩:=h.row
 obtain⟨t,h3,h4⟩:=h2 i L hi
 have h5:=h4.later k
 obtain⟨F,cap,rfl,_,_⟩:=h4
 refine⟨F,cap,?_,h5⟩
 rw [cell_of_row u q i _ _ (0,0) (k.cells h1 (by decide) (by decide))]
 exact h3
theorem call_row (x:Array Value) (u:World):Sem.run Tryz.prog (callFunc 79 x) u=.ok (.enter 79 x) u:=by kernel_rfl
theorem row_any (B0 q n cap:Nat) (Ls:List (List UInt8)) (w:World) (hB1:B0≤w.heap.size) (h:Txs B0 w q Ls) (hn:Ls.length=n) (hn9:n≤1000):Calls Tryz.prog 42 #[.slice (some ⟨q,0,none⟩) n cap] w fun e w'=>∃t,e=.returned t∧Txt B0 w' t Ls.flatten∧Below w.heap.size w w':=by
 obtain⟨w1,hw1⟩:∃w1,w.alloc (.cells #[.slice (some ⟨q,0,none⟩) n cap] 73)=w1:=⟨_,rfl⟩
 obtain⟨G,hG⟩:∃G,w.heap.size=G:=⟨_,rfl⟩
 have A1:=(al1 hw1 hG).1
 have B1:Below w.heap.size w w1:=by rw [←hw1];exact(Below.refl _ _).alloc (Nat.le_refl _) _
 have T1:Txt B0 w1 (.func (.func 79) #[] #[.pointer (some ⟨G,0,none⟩)]) Ls.flatten:=by
  refine⟨_,_,rfl,call_row,fun u B b l hk hB0 hb hB hl=>?_⟩
  have C:=hk.cells A1 (by decide) (by decide)
  have c0:u.cell? ⟨G,0,none⟩=some (.slice (some ⟨q,0,none⟩) n cap):=by rw [cell_of_row u G 0 _ _ (0,0) C];rfl
  have HK:=hZ ((Kp.below B1 hB1).trans hk)
  have HX:=hZ h
  have HB:=hZ hb
  have HL:=hZ (And.intro hn (And.intro hl hB))
  clear hw1 A1 B1 C hb hk h hn hl
  show Calls Tryz.prog 79 #[.pointer (some ⟨b,0,none⟩),.pointer (some ⟨G,0,none⟩)] u _
  go_enter Tryz.func79,Tryz.ntmps79
  go_wp2_with fail
  go_loopw [7] (fun x wr=>∃(i:Nat),x=.int .i64 (i:Int)∧i≤n∧Hid (Wr B b (l++(Ls.take i).flatten) u wr)) (fun x _=>n - (intOf x).toNat)
  case atStart=>exact⟨0,rfl,Nat.zero_le _,hZ (by simpa using Wr.start (uZ HB))⟩
  case round=>
   obtain⟨i,rfl,hin,HW⟩:=hrel
   obtain⟨wq,hwq⟩:∃wq,wq=wr:=⟨_,rfl⟩
   subst hwq
   obtain⟨hn,hl,hB⟩:=uZ HL
   by_cases hi:i<n
   ·have i2:(i:Int)<(n:Int):=by omega
    obtain⟨L,hLi⟩:∃L,Ls[i]?=some L:=⟨_,List.getElem?_eq_getElem (by omega)⟩
    have kq:=(uZ HK).trans (Kp.wr (uZ HB) hB0 (uZ HW))
    obtain⟨F,cp,hc,htx⟩:=(uZ HX).at kq hLi
    obtain⟨F',cp',e,hf,hcall⟩:=htx
    injection e with e1 e2 e3
    injection e1 with e1
    subst e1 e3
    have htk:Ls.take (i+1)=Ls.take i++[L]:=by rw [List.take_add_one,hLi];rfl
    have hlen:(l++(Ls.take i).flatten).length+L.length≤140737488355328:=by
     have e1:Ls.flatten=(Ls.take (i+1)).flatten++(Ls.drop (i+1)).flatten:=by rw [←List.flatten_append,List.take_append_drop]
     rw [e1,htk,List.flatten_append,List.length_append,List.length_append] at hl
     simp only [List.flatten_cons,List.flatten_nil,List.append_nil] at hl
     rw [List.length_append]
     omega
    have CC:=hZ (hcall wq B b (l++(Ls.take i).flatten) (Kp.refl _ _) hB0 (uZ HW).bd (Nat.le_trans hB (uZ HW).below.size) hlen)
    have HE:=hZ htk
    have HF:=hZ hf
    have rr:(⟨q,0,none⟩:Addr).add (i * 1)=⟨q,i,none⟩:=by unfold Addr.add;split <;> simp_all
    have r2:(⟨q,0,none⟩:Addr).add i=⟨q,i,none⟩:=by unfold Addr.add;split <;> simp_all
    clear htk hlen hcall kq hLi hn hl hB hf
    go_wp2_with (rw [uZ HF])
    refine(uZ CC).mono ?_
    rintro e w2 ⟨rfl,k2⟩
    have H2:=hZ (show Wr B b (l++(Ls.take (i+1)).flatten) u w2 by rw [uZ HE,List.flatten_append];simpa using (uZ HW).then k2)
    clear k2 CC
    go_wp2_with fail
    go_roundw
    case rel=>exact⟨i+1,by go_num,by omega,H2⟩
    case measure=>simp [intOf];omega
   ·have i2:¬(i:Int)<(n:Int):=by omega
    have hin2:i=n:=by omega
    have H2:=hZ (show Wr B b (l++Ls.flatten) u wq by have h:=uZ HW;rw [hin2,←hn,List.take_length] at h;exact h)
    clear hn hl hB
    go_wp2_with fail
    go_end0
    exact⟨rfl,uZ H2⟩
 have HT:=hZ T1
 have HB:=hZ B1
 have HW:=hZ hw1
 clear A1 B1 T1 hw1 h
 go_enter Tryz.func42,Tryz.ntmps42
 go_wp2_with fail
 go_ret
 rw [uZ HW]
 try rw [hG]
 exact⟨_,rfl,uZ HT,by first|exact uZ HB|(rw [←hG];exact uZ HB)⟩
structure Vl where
 mk ::
 kind:Int
 n:Int
 s:ByteArray
 l:List Vl
 ks:List ByteArray
structure VF (w:World) (P:Nat→Prop) (kind n:Int) (s:ByteArray) (l:List Vl) (ks:List ByteArray) (al ak:Option Addr) (cl ck:Nat) (V:Nat→List Value):Prop where
 bk:-9223372036854775808≤kind∧kind≤9223372036854775807
 bn:-9223372036854775808≤n∧n≤9223372036854775807
 bs:s.size≤140737488351232
 nl:al=none→l.length=0∧cl=0
 nk:ak=none→ks.length=0∧ck=0
 ll:l.length≤cl
 lk:ks.length≤ck
 bl:l.length≤140737488351232
 bc:ks.length≤140737488351232
 bq:16 * ks.length≤140737488351232
 hl:∀a,al=some a→∀i,i<l.length→P a.block∧∀j v,(V i)[j]?=some v→w.cell? ((a.add (i * 5)).add j)=some v
 hv:∀i,i<l.length→(V i).length=5
 hk:∀a,ak=some a→∀i t,ks[i]?=some t→P a.block∧w.cell? (a.add i)=some (.string t)
 bt:∀t∈ks,t.size≤140737488351232
def hd (kind n:Int) (s:ByteArray) (al ak:Option Addr) (ll m cl ck:Nat):Value:=.agg #[.int .i64 kind,.int .i64 n,.string s,.slice al ll cl,.slice ak m ck]
def IsPL (w:World) (P:Nat→Prop):List Vl→(Nat→List Value)→Prop
 |[],_=>True
 |.mk kind n s l ks :: r,V=>(∃(al ak:Option Addr) (cl ck:Nat) (V':Nat→List Value),(.agg (V 0).toArray:Value)=hd kind n s al ak l.length ks.length cl ck∧VF w P kind n s l ks al ak cl ck V'∧IsPL w P l V')∧IsPL w P r (fun i=>V (i+1))
def IsP (w:World) (P:Nat→Prop) (v:Vl) (x:Value):Prop:=
 ∃(al ak:Option Addr) (cl ck:Nat) (V:Nat→List Value),x=hd v.kind v.n v.s al ak v.l.length v.ks.length cl ck∧VF w P v.kind v.n v.s v.l v.ks al ak cl ck V∧IsPL w P v.l V
def IsV (w:World) (B:Nat) (v:Vl) (x:Value):Prop:=IsP w (fun b=>b<B) v x
theorem IsPL_iff (w:World) (P:Nat→Prop):∀(l:List Vl) (V:Nat→List Value),IsPL w P l V↔∀i y,l[i]?=some y→IsP w P y (.agg (V i).toArray)
 |[],V=>by simp [IsPL]
 |.mk kind n s l ks :: r,V=>by
  have ih:=IsPL_iff w P r (fun i=>V (i+1))
  simp only [IsPL]
  rw [ih]
  constructor
  ·rintro ⟨h1,h2⟩ i y hy
   cases i with
   |zero=>simp at hy;subst hy;exact h1
   |succ i=>exact h2 i y (by simpa using hy)
  ·intro h
   exact⟨h 0 (.mk kind n s l ks) (by simp),fun i y hy=>h (i+1) y (by simpa using hy)⟩
theorem IsP.inv {w:World} {P:Nat→Prop} {v:Vl} {x:Value} (h:IsP w P v x):∃(kind n:Int) (s:ByteArray) (l:List Vl) (ks:List ByteArray) (al ak:Option Addr) (cl ck:Nat) (V:Nat→List Value),v=.mk kind n s l ks∧x=.agg #[.int .i64 kind,.int .i64 n,.string s,.slice al l.length cl,.slice ak ks.length ck]∧VF w P kind n s l ks al ak cl ck V∧∀i y,l[i]?=some y→IsP w P y (.agg (V i).toArray):=by
 obtain⟨al,ak,cl,ck,V,hx,hf,hl⟩:=h
 cases v with
 |mk kind n s l ks=>exact⟨kind,n,s,l,ks,al,ak,cl,ck,V,rfl,hx,hf,(IsPL_iff w P l V).1 hl⟩
theorem IsP.of {w:World} {P:Nat→Prop} {kind n:Int} {s:ByteArray} {l:List Vl} {ks:List ByteArray} {al ak:Option Addr} {cl ck:Nat} {V:Nat→List Value} (hf:VF w P kind n s l ks al ak cl ck V) (el:∀i y,l[i]?=some y→IsP w P y (.agg (V i).toArray)) :
  IsP w P (.mk kind n s l ks) (.agg #[.int .i64 kind,.int .i64 n,.string s,.slice al l.length cl,.slice ak ks.length ck]):=
 ⟨al,ak,cl,ck,V,rfl,hf,(IsPL_iff w P l V).2 el⟩
theorem IsV.inv {w:World} {B:Nat} {v:Vl} {x:Value} (h:IsV w B v x):∃(kind n:Int) (s:ByteArray) (l:List Vl) (ks:List ByteArray) (al ak:Option Addr) (cl ck:Nat) (V:Nat→List Value),v=.mk kind n s l ks∧x=.agg #[.int .i64 kind,.int .i64 n,.string s,.slice al l.length cl,.slice ak ks.length ck]∧VF w (fun b=>b<B) kind n s l ks al ak cl ck V∧∀i y,l[i]?=some y→IsV w B y (.agg (V i).toArray):=IsP.inv h
theorem IsP.at {w:World} {P:Nat→Prop} {kind n:Int} {s:ByteArray} {l:List Vl} {ks:List ByteArray} {k' n':Int} {s':ByteArray} {al ak:Option Addr} {ll m cl ck:Nat} (h:IsP w P (.mk kind n s l ks) (.agg #[.int .i64 k',.int .i64 n',.string s',.slice al ll cl,.slice ak m ck])) :
  k'=kind∧n'=n∧s'=s∧ll=l.length∧m=ks.length∧∃V,VF w P kind n s l ks al ak cl ck V∧∀i y,l[i]?=some y→IsP w P y (.agg (V i).toArray):=by
 obtain⟨_,_,_,_,_,al',ak',cl',ck',V,hv,hx,hf,el⟩:=h.inv
 cases hv
 simp only [Value.agg.injEq,Array.mk.injEq,List.cons.injEq,Value.int.injEq,Value.string.injEq,Value.slice.injEq,and_true,true_and] at hx
 obtain⟨rfl,rfl,rfl,⟨rfl,rfl,rfl⟩,rfl,rfl,rfl⟩:=hx
 exact⟨rfl,rfl,rfl,rfl,rfl,V,hf,el⟩
theorem block_add (a:Addr) (j:Nat):(a.add j).block=a.block:=by unfold Addr.add;split <;> rfl
theorem VF.to {w w':World} {P Q:Nat→Prop} (hw:∀b,P b→w'.heap[b]?=w.heap[b]?) (hP:∀b,P b→Q b) {kind n:Int} {s:ByteArray} {l:List Vl} {ks:List ByteArray} {al ak:Option Addr} {cl ck:Nat} {V:Nat→List Value} (h:VF w P kind n s l ks al ak cl ck V):VF w' Q kind n s l ks al ak cl ck V where
 bk:=h.bk
 bn:=h.bn
 bs:=h.bs
 nl:=h.nl
 nk:=h.nk
 ll:=h.ll
 lk:=h.lk
 bl:=h.bl
 bc:=h.bc
 bq:=h.bq
 hl:=fun a ha i hi=>⟨hP _ (h.hl a ha i hi).1,fun j u hu=>by
  have e:w'.cell? ((a.add (i * 5)).add j)=w.cell? ((a.add (i * 5)).add j):=World.cell?_of_block (by rw [block_add,block_add];exact hw _ (h.hl a ha i hi).1)
  rw [e]
  exact(h.hl a ha i hi).2 j u hu⟩
 hv:=h.hv
 hk:=fun a ha i t ht=>⟨hP _ (h.hk a ha i t ht).1,by
  have e:w'.cell? (a.add i)=w.cell? (a.add i):=World.cell?_of_block (by rw [block_add];exact hw _ (h.hk a ha i t ht).1)
  rw [e]
  exact(h.hk a ha i t ht).2⟩
 bt:=h.bt
theorem IsPL.to {w w':World} {P Q:Nat→Prop} (hw:∀b,P b→w'.heap[b]?=w.heap[b]?) (hP:∀b,P b→Q b):∀(l:List Vl) (V:Nat→List Value),IsPL w P l V→IsPL w' Q l V
 |[],V,_=>by simp only [IsPL]
 |.mk kind n s l ks :: r,V,h=>by
  simp only [IsPL] at h ⊢
  obtain⟨⟨al,ak,cl,ck,V',hx,hf,hl⟩,hr⟩:=h
  exact⟨⟨al,ak,cl,ck,V',hx,hf.to hw hP,IsPL.to hw hP l V' hl⟩,IsPL.to hw hP r _ hr⟩
theorem IsP.to {w w':World} {P Q:Nat→Prop} (hw:∀b,P b→w'.heap[b]?=w.heap[b]?) (hP:∀b,P b→Q b) {v:Vl} {x:Value} (h:IsP w P v x):IsP w' Q v x:=by
 obtain⟨al,ak,cl,ck,V,hx,hf,hl⟩:=h
 exact⟨al,ak,cl,ck,V,hx,hf.to hw hP,IsPL.to hw hP v.l V hl⟩
theorem IsP.weak {w:World} {P Q:Nat→Prop} (hP:∀b,P b→Q b) {v:Vl} {x:Value} (h:IsP w P v x):IsP w Q v x:=h.to (fun _ _=>rfl) hP
theorem IsP.move {w w':World} {P:Nat→Prop} (hw:∀b,P b→w'.heap[b]?=w.heap[b]?) {v:Vl} {x:Value} (h:IsP w P v x):IsP w' P v x:=h.to hw (fun _ h=>h)
theorem IsP.isV {w:World} {P:Nat→Prop} {B:Nat} (hP:∀b,P b→b<B) {v:Vl} {x:Value} (h:IsP w P v x):IsV w B v x:=IsP.weak hP h
theorem IsV.mono {w w':World} {B:Nat} (hb:Below B w w') {v:Vl} {x:Value} (h:IsV w B v x):IsV w' B v x:=IsP.move (fun b hl=>hb.block b hl) h
theorem IsV.lift {w:World} {B C:Nat} (hBC:B≤C) {v:Vl} {x:Value} (h:IsV w B v x):IsV w C v x:=IsP.weak (fun _ hl=>Nat.lt_of_lt_of_le hl hBC) h
theorem IsP.shape {w:World} {P:Nat→Prop} {y:Vl} {x:Value} (h:IsP w P y x):∃kind n s l ks al ak cl ck,y=.mk kind n s l ks∧x=.agg #[.int .i64 kind,.int .i64 n,.string s,.slice al l.length cl,.slice ak ks.length ck]:=by
 obtain⟨kind,n,s,l,ks,al,ak,cl,ck,_,h1,h2,_⟩:=h.inv
 exact⟨kind,n,s,l,ks,al,ak,cl,ck,h1,h2⟩
theorem IsV.shape {w:World} {B:Nat} {y:Vl} {x:Value} (h:IsV w B y x):∃kind n s l ks al ak cl ck,y=.mk kind n s l ks∧x=.agg #[.int .i64 kind,.int .i64 n,.string s,.slice al l.length cl,.slice ak ks.length ck]:=IsP.shape h
structure Box (w w1:World) (x0 x1 x2 x3 x4:Value):Prop where
 row:w1.heap[w.heap.size]?=some (.cells #[x0,x1,x2,x3,x4] 26 (0,0))
 size:w1.heap.size=w.heap.size+1
 below:Below w.heap.size w w1
theorem Box.mk' (w:World) (x0 x1 x2 x3 x4:Value):Box w (w.alloc (.cells #[x0,x1,x2,x3,x4] 26)) x0 x1 x2 x3 x4:=
 ⟨heap_alloc_new w _,by simp,(Below.refl _ _).alloc (Nat.le_refl _) _⟩
theorem row_cell {w:World} {g:Nat} {x0 x1 x2 x3 x4:Value} (h:w.heap[g]?=some (.cells #[x0,x1,x2,x3,x4] 26 (0,0))) :
  w.cell? ⟨g,0,none⟩=some x0∧w.cell? ⟨g,1,none⟩=some x1∧w.cell? ⟨g,2,none⟩=some x2∧w.cell? ⟨g,3,none⟩=some x3∧w.cell? ⟨g,4,none⟩=some x4:=
 ⟨by rw [cell_of_row w g 0 _ _ (0,0) h];rfl,by rw [cell_of_row w g 1 _ _ (0,0) h];rfl,by rw [cell_of_row w g 2 _ _ (0,0) h];rfl,by rw [cell_of_row w g 3 _ _ (0,0) h];rfl,by rw [cell_of_row w g 4 _ _ (0,0) h];rfl⟩
/-! ### The order of bytes -/
theorem bl_not:∀(a b:List UInt8),Op.bytesLess a b=!(Op.bytesLess b a ||b == a)
 |[],[]=>by simp [Op.bytesLess]
 |[],b :: y=>by simp [Op.bytesLess]
 |a :: x,[]=>by simp [Op.bytesLess]
 |a :: x,b :: y=>by
  have ih:=bl_not x y
  simp only [Op.bytesLess,List.cons_beq_cons]
  rcases (show a.toNat<b.toNat∨a.toNat=b.toNat∨b.toNat<a.toNat by omega) with h|h|h
  ·have h1:a<b:=UInt8.lt_iff_toNat_lt.2 h
   have h2:¬b<a:=fun e=>by have:=UInt8.lt_iff_toNat_lt.1 e;omega
   have h3:¬b=a:=fun e=>by rw [e] at h;omega
   simp [h1,h2,h3]
  ·obtain rfl:a=b:=UInt8.toNat_inj.1 h
   have h2:¬a<a:=fun e=>by have:=UInt8.lt_iff_toNat_lt.1 e;omega
   simp [h2,ih]
  ·have h1:b<a:=UInt8.lt_iff_toNat_lt.2 h
   have h2:¬a<b:=fun e=>by have:=UInt8.lt_iff_toNat_lt.1 e;omega
   have h3:¬a=b:=fun e=>by rw [e] at h;omega
   simp [h1,h2,h3]
/-! ### Which are right, how heavy, how deep -/
def risingFrom (p:Option ByteArray):List ByteArray→Bool
 |[]=>true
 |t :: r=>decide (t.size≤32) && (match p with|none=>true|some q=>Op.bytesLess q.toList t.toList) && risingFrom (some t) r
def formM (kind n:Int) (s:ByteArray) (ll m:Nat) (R:Bool):Bool:=
 if kind=0 then decide (n=0) && s.toList.isEmpty && decide (ll=0) && decide (m=0)
 else if kind=1 then (decide (n=0) ||decide (n=1)) && s.toList.isEmpty && decide (ll=0) && decide (m=0)
 else if kind=2 then s.toList.isEmpty && decide (ll=0) && decide (m=0)
 else if kind=3 then decide (n=0) && decide (ll=0) && decide (m=0)
 else if kind=4 then decide (n=0) && s.toList.isEmpty && decide (m=0)
 else if kind=5 then decide (n=0) && s.toList.isEmpty && decide (m=ll) && R
 else false
def formB (kind n:Int) (s:ByteArray) (ll:Nat) (ks:List ByteArray):Bool:=formM kind n s ll ks.length (risingFrom none ks)
theorem formB_is (kind n:Int) (s:ByteArray) (ll:Nat) (ks:List ByteArray):formB kind n s ll ks=formM kind n s ll ks.length (risingFrom none ks):=rfl
def keysW:List ByteArray→Nat
 |[]=>0
 |t :: r=>1+t.size+keysW r
def wtL:List Vl→Nat
 |[]=>0
 |.mk _ _ s l ks :: r=>(1+s.size+keysW ks+wtL l)+wtL r
def wt:Vl→Nat
 |.mk _ _ s l ks=>1+s.size+keysW ks+wtL l
theorem wtL_nil:wtL []=0:=by simp only [wtL]
theorem wtL_cons (x:Vl) (r:List Vl):wtL (x :: r)=wt x+wtL r:=by cases x;simp only [wtL,wt]
def depL:List Vl→Nat
 |[]=>0
 |.mk _ _ _ l _ :: r=>max (1+depL l) (depL r)
def dep:Vl→Nat
 |.mk _ _ _ l _=>1+depL l
theorem depL_nil:depL []=0:=by simp only [depL]
theorem depL_cons (x:Vl) (r:List Vl):depL (x :: r)=max (dep x) (depL r):=by cases x;simp only [depL,dep]
def okL:Nat→List Vl→Bool
 |_,[]=>true
 |0,_ :: _=>false
 |b+1,.mk kind n s l ks :: r=>(formB kind n s l.length ks && okL b l) && okL (b+1) r
def okB:Nat→Vl→Bool
 |0,_=>false
 |b+1,.mk kind n s l ks=>formB kind n s l.length ks && okL b l
theorem okL_nil (b:Nat):okL b []=true:=by simp only [okL]
theorem okL_cons (b:Nat) (x:Vl) (r:List Vl):okL b (x :: r)=(okB b x && okL b r):=by
 cases x
 cases b <;> simp only [okL,okB,Bool.false_and]
theorem wtL_app (a b:List Vl):wtL (a++b)=wtL a+wtL b:=by
 induction a with
 |nil=>simp [wtL_nil]
 |cons x r ih=>simp [wtL_cons,ih];omega
theorem depL_app (a b:List Vl):depL (a++b)=max (depL a) (depL b):=by
 induction a with
 |nil=>simp [depL_nil]
 |cons x r ih=>simp [depL_cons,ih,Nat.max_assoc]
theorem okL_app (n:Nat) (a b:List Vl):okL n (a++b)=(okL n a && okL n b):=by
 induction a with
 |nil=>simp [okL_nil]
 |cons x r ih=>simp [okL_cons,ih,Bool.and_assoc]
theorem wtL_next (l:List Vl) (i:Nat) (x:Vl) (h:l[i]?=some x):wtL (l.take (i+1))=wtL (l.take i)+wt x:=by
 obtain⟨hi,rfl⟩:=List.getElem?_eq_some_iff.1 h
 rw [List.take_succ_eq_append_getElem hi,wtL_app,wtL_cons,wtL_nil,Nat.add_zero]
theorem depL_next (l:List Vl) (i:Nat) (x:Vl) (h:l[i]?=some x):depL (l.take (i+1))=max (depL (l.take i)) (dep x):=by
 obtain⟨hi,rfl⟩:=List.getElem?_eq_some_iff.1 h
 rw [List.take_succ_eq_append_getElem hi,depL_app,depL_cons,depL_nil,Nat.max_zero]
theorem okL_next (n:Nat) (l:List Vl) (i:Nat) (x:Vl) (h:l[i]?=some x):okL n (l.take (i+1))=(okL n (l.take i) && okB n x):=by
 obtain⟨hi,rfl⟩:=List.getElem?_eq_some_iff.1 h
 rw [List.take_succ_eq_append_getElem hi,okL_app,okL_cons,okL_nil,Bool.and_true]
theorem wtL_take_le (l:List Vl) (i:Nat):wtL (l.take i)≤wtL l:=by
 have h:=wtL_app (l.take i) (l.drop i)
 rw [List.take_append_drop] at h
 omega
theorem okL_all (n:Nat) (l:List Vl) (h:okL n l=true):∀x∈l,okB n x=true:=by
 induction l with
 |nil=>intro x hx;cases hx
 |cons y r ih=>
  intro x hx
  rw [okL_cons,Bool.and_eq_true] at h
  rcases List.mem_cons.1 hx with rfl|hx
  ·exact h.1
  ·exact ih h.2 x hx
theorem okL_of_take (n:Nat) (l:List Vl) (i:Nat) (x:Vl) (h:l[i]?=some x) (hx:okB n x=false):okL n l=false:=by
 cases ho:okL n l with
 |false=>rfl
 |true=>
  have:=okL_all n l ho x (List.mem_of_getElem? h)
  rw [hx] at this
  cases this
theorem wt_pos (v:Vl):0<wt v:=by cases v;simp [wt];omega
theorem wt_le_wtL (l:List Vl) (i:Nat) (x:Vl) (h:l[i]?=some x):wtL (l.take i)+wt x≤wtL l:=by
 have:=wtL_take_le l (i+1)
 rw [wtL_next l i x h] at this
 exact this
end Go.Proofs.YtlkeaaopdnnceaaGreatDoor
