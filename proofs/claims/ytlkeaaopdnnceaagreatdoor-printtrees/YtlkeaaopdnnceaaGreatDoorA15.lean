/-
  The walk of the document's Quoted; conditions: at most 5000 bytes.
  Conditions: where nodes are told of, they lie in memory.
-/
import Derived.Test.YtlkeaaopdnnceaaGreatDoorA14
import Derived.Test.YtlkeaaopdnnceaaGreatDoorA09
import Derived.Laws.BytesArg
import Derived.Laws.Strings
import Derived.Maps.AppendAt
import Derived.Deep.CutRange
import Derived.Deep.AppendLies
import Derived.ArgAppend
import Derived.Lib.SlBytesConst
import Derived.Deep.QuietTactic
import Derived.BigQuiet
set_option linter.unusedVariables false
set_option linter.unusedSimpArgs false
set_option maxRecDepth 100000
set_option maxHeartbeats 8000000
namespace Go.Proofs.YtlkeaaopdnnceaaGreatDoor
open Go.RowKit
set_option linter.unusedVariables false
set_option linter.unusedSimpArgs false
def hxI (d:Int):Int:=if d<10 then 48+d else 87+d
def qI (c:Int):List Int:=if c=34∨c=92 then [92,c] else if 32≤c∧c≤126 then [c] else [92,120,hxI (c / 16),hxI (c % 16)]
def quoI (s:ByteArray) (i:Nat):List Int:=34 :: (s.data.toList.take i).flatMap (fun b=>qI (b.toNat:Int))
def quoteI (s:ByteArray):List Int:=quoI s s.size++[34]
theorem quo_next (s:ByteArray) (i:Nat) (h:i<s.size):quoI s (i+1)=quoI s i++qI ((s[i]'h).toNat:Int):=by
 unfold quoI
 have h1:s.data.toList[i]?=some (s[i]'h):=by
  rw [Array.getElem?_toList]
  exact Array.getElem?_eq_getElem (by exact h)
 rw [List.take_add_one,h1,List.flatMap_append]
 simp
theorem qI_len (c:Int):(qI c).length≤4:=by
 unfold qI
 split
 ·simp
 ·split <;> simp
def hexBV:ByteArray:=⟨#[48,49,50,51,52,53,54,55,56,57,97,98,99,100,101,102]⟩
theorem hex_fin:∀d:Fin 16,((hexBV[d.val]'(by have:=d.isLt;show d.val<16;omega)).toNat:Int)=hxI (d.val:Int):=by decide +kernel
theorem hex_at (d:Int) (h0:0≤d) (h1:d<16) (hh:d.toNat<hexBV.size):((hexBV[d.toNat]'hh).toNat:Int)=hxI d:=by
 obtain⟨k,rfl⟩:∃k:Nat,d=k:=⟨d.toNat,by omega⟩
 exact hex_fin ⟨k,by omega⟩
theorem info5q:(Tryz.prog.info? 5).map (fun i=>(i.zero,i.size,i.bytes))=some (some (.int .u8 0),1,1):=by kernel_rfl
def QRow (w:World) (base:Nat) (v:Value) (n:Nat) (xs:List Value):Prop:=
 w.ownsRow base 5 1 v n xs∨∃b,v=.slice (some ⟨b,0,none⟩) n n∧xs.length=n∧b<w.heap.size∧base≤b∧∀j u,xs[j]?=some u→w.cell? ⟨b,j,none⟩=some u
theorem QRow.later {w u:World} {base:Nat} {v:Value} {n:Nat} {xs:List Value} (h:QRow w base v n xs) (hu:Below w.heap.size w u):QRow u base v n xs:=by
 rcases h with h|⟨b,h1,h2,h3,h4,h5⟩
 ·exact Or.inl (own_later h (fun b hb _=>hu.block b hb))
 ·exact Or.inr ⟨b,h1,h2,Nat.lt_of_lt_of_le h3 hu.size,h4,fun j x hx=>cell_later hu (h5 j x hx)⟩
theorem QRow.form {w:World} {base:Nat} {v:Value} {n:Nat} {xs:List Value} (h:QRow w base v n xs):∃ao cap,v=.slice ao n cap:=by
 rcases h with h|⟨b,h1,_⟩
 ·obtain⟨ao,cap,e,_⟩:=slice_form h
  exact⟨ao,cap,e⟩
 ·exact⟨_,_,h1⟩
theorem run_few {w:World} (ty:TypeId) (base n c:Nat) (v:Value) (xs:List Value) (A:List Value) (hA:A.length=c) (h1:∀u∈A,u.oneCell'=true) (hown:QRow w base v n xs) (hc:0<c) (hn:n+c≤140737488355328) (hbase:base≤w.heap.size) (b:Nat) (hb:w.heap[b]?=some (.cells A.toArray 5 (0,0))) :
  ∃v' w',(Builtin.append_ #[41,41] ty #[v,.slice (some ⟨b,0,none⟩) c c]).run Tryz.prog w=.ok v' w'∧w'.ownsRow base 5 1 v' (n+c) (xs++A)∧Below base w w':=by
 obtain⟨i0,hi,hz0,hz1,hz2⟩:=info_parts info5q
 have hnews:∀j u,A[j]?=some u→w.cell? ((⟨b,0,none⟩:Addr).add j)=some u:=fun j u hj=>World.news_of_block hb j u (by simpa using hj)
 rcases hown with hown|⟨q,rfl,hxl,hq,hbq,hcell⟩
 ·obtain⟨v',w',hrun,r1,r2,_,r4⟩:=run_append_own_at (P:=Tryz.prog) w base 41 ty 5 i0 (.int .u8 0) 1 1 Tryz.underlying41 hi hz0 hz1 hz2 rfl (by omega) v n xs hown ⟨b,0,none⟩ c c A (by omega) hnews h1 (by unfold maxLen;omega) (by omega) hbase
  exact⟨v',w',hrun,r1,(Below.refl _ _).grown r2 hbase (fun k e=>(hown.lt k e).1)⟩
 ·obtain⟨v',w',hrun,own,gr⟩:=run_append_arg_grows (P:=Tryz.prog) w 41 ty 5 i0 (.int .u8 0) 1 1 Tryz.underlying41 hi hz0 hz1 hz2 rfl (by omega) ⟨q,0,none⟩ n n xs (by omega) (fun j u hu=>by
   have hp:(⟨q,0,none⟩:Addr).add j=⟨q,j,none⟩:=by unfold Addr.add;split <;> simp_all
   rw [hp]
   exact hcell j u hu) ⟨b,0,none⟩ c c A (by omega) hnews (by omega) (by unfold maxLen;omega) (by omega)
  refine⟨v',w',hrun,⟨own.1,?_⟩,⟨gr.os,gr.tape,gr.output,gr.size,fun k hk=>gr.block k (by omega) (by simp)⟩⟩
  rcases own.2 with h|⟨g,cap,cur,e1,hbg,rest⟩
  ·exact .inl h
  ·exact .inr ⟨g,cap,cur,e1,by omega,rest⟩
theorem wpl_fewB {w:World} {ops:Array Oper} {rest:List Oper} {o:Oper} {a:Act} {Q:Exit→Act→World→Prop} (hgd:o.guard=none) (sl x:Operand)
  (ho:o.op=.call { callee:=.builtin .append,args:=#[sl,x],argTypes:=#[41,41] })
  (base n c:Nat) (v:Value) (xs:List Value) (A:List Value) (hA:A.length=c) (h1:∀u∈A,u.oneCell'=true) (hs:a.eval sl=v) (hown:QRow w base v n xs) (hc:0<c)
  (hx:a.eval x=.slice (some ⟨w.heap.size,0,none⟩) c c) (hn:n+c≤140737488355328) (hbase:base≤w.heap.size)
  (h:∀v' w',Hid (w'.ownsRow base 5 1 v' (n+c) (xs++A)∧Below base w w')→wpList Tryz.prog ops Q rest (a.put o.dst v') w') :
  wpList Tryz.prog ops Q (o :: rest) a (w.alloc (.cells A.toArray 5)):=by
 refine wpList_plain hgd fun K hK=>?_
 have hb0:Below w.heap.size w (w.alloc (.cells A.toArray 5)):=(Below.refl _ _).alloc (Nat.le_refl _) _
 obtain⟨v',w',hrun,r1,r2⟩:=run_few o.type base n c v xs A hA h1 (hown.later hb0) hc hn (Nat.le_trans hbase hb0.size) w.heap.size (heap_alloc_new w _)
 unfold Oper.wp
 simp only [execOp,ho,resolve,invoke,builtin,Sem.run_bind,Sem.run_pure,Result.andThen_ok,List.map_toArray,List.map_cons,List.map_nil,hs,hx,hrun]
 exact hK _ _ (h v' w' ⟨r1,(hb0.mono hbase).trans r2⟩)
theorem step_fewB {w:World} {ops:Array Oper} {o:Oper} {a:Act} {K:Act→World→Prop} {Q':Exit→Act→World→Prop} {E:Prop} (hgd:o.guard=none) (sl x:Operand)
  (ho:o.op=.call { callee:=.builtin .append,args:=#[sl,x],argTypes:=#[41,41] })
  (base n c b:Nat) (v:Value) (xs:List Value) (A:List Value) (hA:A.length=c) (h1:∀u∈A,u.oneCell'=true) (hs:a.eval sl=v) (hown:QRow w base v n xs) (hc:0<c) (hb:w.heap[b]?=some (.cells A.toArray 5 (0,0)))
  (hx:a.eval x=.slice (some ⟨b,0,none⟩) c c) (hn:n+c≤140737488355328) (hbase:base≤w.heap.size)
  (h:∀v' w',Hid (w'.ownsRow base 5 1 v' (n+c) (xs++A)∧Below base w w')→K (a.put o.dst v') w') :
  if Region.wanted o (yielded ops a.tmps)=true then Oper.wp Tryz.prog o a w K Q' else E:=by
 have hw:Region.wanted o (yielded ops a.tmps)=true:=by simp [Region.wanted,hgd]
 rw [if_pos hw]
 obtain⟨v',w',hrun,r1,r2⟩:=run_few o.type base n c v xs A hA h1 hown hc hn hbase b hb
 unfold Oper.wp
 simp only [execOp,ho,resolve,invoke,builtin,Sem.run_bind,Sem.run_pure,Result.andThen_ok,List.map_toArray,List.map_cons,List.map_nil,hs,hx,hrun]
 exact h v' w' (hZ ⟨r1,r2⟩)
theorem quo_conv {w:World} {base n i:Nat} {v:Value} {s:ByteArray} (h:w.ownsRow base 5 1 v (n+1) ((quoI s i).map (Value.int .u8)++[.int .u8 34])) (hi:quoI s i=quoI s s.size) :
  ∃b cap,v=.slice (some ⟨b,0,none⟩) (n+1) cap∧Sem.run Tryz.prog (convert 41 9 (.slice (some ⟨b,0,none⟩) (n+1) cap)) w=.ok (.string (strOfNums (quoteI s))) w:=by
 have hx:(quoI s i).map (Value.int .u8)++[.int .u8 34]=(quoteI s).map (Value.int .u8):=by
  unfold quoteI
  rw [hi,List.map_append]
  rfl
 rw [hx] at h
 have hl:(quoteI s).length=n+1:=by have:=h.1;simpa using this
 rcases h.2 with ⟨_,e⟩|⟨b,cap,cur,rfl,_⟩
 ·omega
 ·refine⟨b,cap,rfl,?_⟩
  refine run_convert_bytes_arg (P:=Tryz.prog) w 41 5 Tryz.underlying41 Tryz.underlying5 b 0 (n+1) cap (quoteI s) hl (fun j hj=>?_) 9 Tryz.underlying9
  have hc:=h.cells (g:=b) rfl j (.int .u8 ((quoteI s).getD j 0)) (by
   rw [List.getElem?_map,List.getD_eq_getElem?_getD,List.getElem?_eq_getElem (by omega)]
   rfl)
  have ha:(⟨b,0,none⟩:Addr).add j=⟨b,0+j,none⟩:=by unfold Addr.add;split <;> simp_all
  rw [ha] at hc
  exact hc
theorem quoted_any (s:ByteArray) (hs:s.size≤5000) (w:World) :
  Calls Tryz.prog 123 #[.string s] w fun e w'=>e=.returned (.string (strOfNums (quoteI s)))∧Below w.heap.size w w':=by
 obtain⟨m,hm⟩:∃m,s.size=m:=⟨_,rfl⟩
 obtain⟨g,hg⟩:∃g,w.heap.size=g:=⟨_,rfl⟩
 have HM:=hZ hm
 have hm5:m≤5000:=by omega
 obtain⟨w1,hw1⟩:∃w1,w.alloc (.cells #[.int .u8 34] 5 (1,1+1))=w1:=⟨_,rfl⟩
 have HQ0:Hid (QRow w1 g (.slice (some ⟨g,0,none⟩) 1 1) 1 ((quoI s 0).map (Value.int .u8))∧Below g w w1):=hZ (by
  refine⟨Or.inr ⟨g,rfl,by simp [quoI],by rw [←hw1,←hg];simp,Nat.le_refl _,fun j u hu=>?_⟩,?_⟩
  ·rw [←hw1,←hg,cell_of_row _ w.heap.size j _ 5 (1,1+1) (heap_alloc_new w _)]
   simp [quoI] at hu ⊢
   exact hu
  ·rw [←hw1,←hg]
   exact(Below.refl _ _).alloc (Nat.le_refl _) _)
 have kc:Sem.run Tryz.prog (convert 41 41 (.slice (some ⟨g,0,none⟩) 1 1)) (w.alloc (.cells #[.int .u8 34] 5))=.ok (.slice (some ⟨g,0,none⟩) 1 1) w1:=by
  rw [←hw1,←hg]
  exact Lib.run_convert_bytes_const (P:=Tryz.prog) w 41 5 #[.int .u8 34] 1 1 Tryz.underlying41 Tryz.underlying5
 clear hs hm
 go_enter Tryz.func123,Tryz.ntmps123
 go_wp2_with fail
 clear kc hw1
 go_loopw [4,5] (fun v x wr=>∃(i n:Nat),x=.int .i64 (i:Int)∧i≤m∧n≤1+4 * i∧Hid (QRow wr g v n ((quoI s i).map (Value.int .u8))∧Below g w wr)) (fun _ x _=>m - (intOf x).toNat)
 case atStart=>exact⟨0,1,rfl,by omega,by omega,HQ0⟩
 case round=>
  clear HQ0
  obtain⟨i,n,rfl,hi,hn4,HQ⟩:=hrel
  obtain⟨ao,cp,rfl⟩:=(uZ HQ).1.form
  by_cases hlt:i<s.size
  ·have i1:(i:Int)<(s.size:Int):=by omega
   have i0:(0:Int)≤(i:Int):=by omega
   obtain⟨c,hc⟩:∃c:Nat,(s[i]'hlt).toNat=c:=⟨_,rfl⟩
   have hc255:c≤255:=by have:=(s[i]'hlt).toNat_lt;omega
   have HN:Hid (quoI s (i+1)=quoI s i++qI (c:Int)):=hZ (by rw [quo_next s i hlt,hc])
   have HI1:Hid (i+1≤m):=hZ (by have:=uZ HM;omega)
   have hbs:g≤wr.heap.size:=by have:=(uZ HQ).2.size;omega
   by_cases hq:c=34∨c=92
   ·have HQI:Hid (qI (c:Int)=[92,(c:Int)]):=hZ (by unfold qI;rw [if_pos (by omega)])
    rcases hq with h34|h92
    ·have b1:((c:Int) == 34)=true:=by simp [h34]
     clear h34
     have tokA:True:=trivial
     go_upto_region 5 with (first|(have _t:=tokA;at_builtin;refine wpl_fewB rfl (.tmp 36) (.tmp 38) rfl g n 2 (.slice ao n cp) _ [.int .u8 92,.int .u8 (c:Int)] rfl (by simp [Value.oneCell']) rfl (uZ HQ).1 (by omega) rfl (by omega) hbs ?_;intro v6 w6 H6;clear tokA))
     have HQ1:Hid (QRow w6 g v6 (n+2) ((quoI s (i+1)).map (Value.int .u8))∧Below g w w6):=hZ (by
      obtain⟨h1,h2⟩:=uZ H6
      refine⟨Or.inl ?_,(uZ HQ).2.trans h2⟩
      rw [uZ HN,uZ HQI,List.map_append]
      exact h1)
     clear H6
     go_wp2_with fail
     go_roundw
     case rel=>exact⟨i+1,n+2,by go_num,uZ HI1,by omega,HQ1⟩
     case measure=>have:=uZ HI1;have:=uZ HM;simp [intOf];omega
    ·have b1:((c:Int) == 34)=false:=by simp;omega
     have b3:((c:Int) == 92)=true:=by simp [h92]
     have b4:¬(c:Int)=34:=by omega
     clear h92
     have tokA:True:=trivial
     go_upto_region 5 with (first|(have _t:=tokA;at_builtin;refine wpl_fewB rfl (.tmp 36) (.tmp 38) rfl g n 2 (.slice ao n cp) _ [.int .u8 92,.int .u8 (c:Int)] rfl (by simp [Value.oneCell']) rfl (uZ HQ).1 (by omega) rfl (by omega) hbs ?_;intro v6 w6 H6;clear tokA))
     have HQ1:Hid (QRow w6 g v6 (n+2) ((quoI s (i+1)).map (Value.int .u8))∧Below g w w6):=hZ (by
      obtain⟨h1,h2⟩:=uZ H6
      refine⟨Or.inl ?_,(uZ HQ).2.trans h2⟩
      rw [uZ HN,uZ HQI,List.map_append]
      exact h1)
     clear H6
     go_wp2_with fail
     go_roundw
     case rel=>exact⟨i+1,n+2,by go_num,uZ HI1,by omega,HQ1⟩
     case measure=>have:=uZ HI1;have:=uZ HM;simp [intOf];omega
   ·have b1:((c:Int) == 34)=false:=by simp;omega
    have b3:((c:Int) == 92)=false:=by simp;omega
    have b4:¬(c:Int)=34:=by omega
    have b5:¬(c:Int)=92:=by omega
    by_cases hp:32≤c∧c≤126
    ·have HQI:Hid (qI (c:Int)=[(c:Int)]):=hZ (by unfold qI;rw [if_neg (by omega),if_pos (by omega)])
     have d1:(32:Int)≤(c:Int):=by omega
     have d2:(c:Int)≤126:=by omega
     clear hp hq
     have tokA:True:=trivial
     go_upto_region 5 with (first|(have _t:=tokA;at_builtin;refine wpl_fewB rfl (.tmp 47) (.tmp 49) rfl g n 1 (.slice ao n cp) _ [.int .u8 (c:Int)] rfl (by simp [Value.oneCell']) rfl (uZ HQ).1 (by omega) rfl (by omega) hbs ?_;intro v6 w6 H6;clear tokA))
     have HQ1:Hid (QRow w6 g v6 (n+1) ((quoI s (i+1)).map (Value.int .u8))∧Below g w w6):=hZ (by
      obtain⟨h1,h2⟩:=uZ H6
      refine⟨Or.inl ?_,(uZ HQ).2.trans h2⟩
      rw [uZ HN,uZ HQI,List.map_append]
      exact h1)
     clear H6
     go_wp2_with fail
     go_roundw
     case rel=>exact⟨i+1,n+1,by go_num,uZ HI1,by omega,HQ1⟩
     case measure=>have:=uZ HI1;have:=uZ HM;simp [intOf];omega
    ·have HQI:Hid (qI (c:Int)=[92,120,hxI ((c:Int) / 16),hxI ((c:Int) % 16)]):=hZ (by unfold qI;rw [if_neg (by omega),if_neg (by omega)])
     have hw16:IntKind.u8.wrap ((c:Int) / 16)=(c:Int) / 16:=by rw [IntKind.wrap_u8];omega
     have hm16:((c:Int)).tmod 16=(c:Int) % 16:=Int.tmod_eq_emod_of_nonneg (by omega)
     by_cases h32:c<32
     ·have d1:¬(32:Int)≤(c:Int):=by omega
      clear hp hq
      go_upto_region 7 with fail
      refine till_begin (S:=fun w'=>True) 11 (by kernel_rfl) ?_
      have HQd:=hZ ((uZ HQ).1.later ((Below.refl wr.heap.size wr).drew))
      have HBd:Hid (Below g w wr.drew):=hZ ((uZ HQ).2.drew)
      have hbd:g≤wr.drew.heap.size:=hbs
      obtain⟨ud,hud⟩:∃ud,wr.drew=ud:=⟨_,rfl⟩
      rw [hud] at HQd HBd hbd ⊢
      clear hud
      refine tK 0 (v:=.slice ao n cp) (some 18) rfl rfl rfl (by kernel_rfl) (fun _ _ _ h=>h) (Or.inl ⟨by rfl,fun u hu=>by go_simp⟩) trivial ?_
      try simp only [Act.put,sA,sB,sC]
      refine tK 1 (v:=.string ⟨#[48,49,50,51,52,53,54,55,56,57,97,98,99,100,101,102]⟩) (some 19) rfl rfl rfl (by kernel_rfl) (fun _ _ _ h=>h) (Or.inl ⟨by rfl,fun u hu=>by go_simp⟩) trivial ?_
      try simp only [Act.put,sA,sB,sC]
      refine tK 2 (v:=.int .u8 (c:Int)) (some 20) rfl rfl rfl (by kernel_rfl) (fun _ _ _ h=>h) (Or.inl ⟨by rfl,fun u hu=>by go_simp⟩) trivial ?_
      try simp only [Act.put,sA,sB,sC]
      refine tK 3 (v:=.int .u8 ((c:Int) / 16)) (some 21) rfl rfl rfl (by kernel_rfl) (fun _ _ _ h=>h) (Or.inl ⟨by rfl,fun u hu=>by go_simp⟩) trivial ?_
      try simp only [Act.put,sA,sB,sC]
      refine tK 4 (v:=.int .u8 (hxI ((c:Int) / 16))) (some 22) rfl rfl rfl (by kernel_rfl) (fun _ _ _ h=>h) (Or.inl ⟨by rfl,fun u hu=>by go_simp;rw [dif_pos ⟨by omega,by omega⟩];exact congrArg (fun z=>Result.ok (Next.value (Value.int IntKind.u8 z)) u) (hex_at ((c:Int) / 16) (by omega) (by omega) (by show _<16;omega))⟩) trivial ?_
      try simp only [Act.put,sA,sB,sC]
      refine tK 5 (v:=.string ⟨#[48,49,50,51,52,53,54,55,56,57,97,98,99,100,101,102]⟩) (some 23) rfl rfl rfl (by kernel_rfl) (fun _ _ _ h=>h) (Or.inl ⟨by rfl,fun u hu=>by go_simp⟩) trivial ?_
      try simp only [Act.put,sA,sB,sC]
      refine tK 6 (v:=.int .u8 (c:Int)) (some 24) rfl rfl rfl (by kernel_rfl) (fun _ _ _ h=>h) (Or.inl ⟨by rfl,fun u hu=>by go_simp⟩) trivial ?_
      try simp only [Act.put,sA,sB,sC]
      refine tK 7 (v:=.int .u8 ((c:Int) % 16)) (some 25) rfl rfl rfl (by kernel_rfl) (fun _ _ _ h=>h) (Or.inl ⟨by rfl,fun u hu=>by go_simp⟩) trivial ?_
      try simp only [Act.put,sA,sB,sC]
      refine tK 8 (v:=.int .u8 (hxI ((c:Int) % 16))) (some 26) rfl rfl rfl (by kernel_rfl) (fun _ _ _ h=>h) (Or.inl ⟨by rfl,fun u hu=>by go_simp;rw [dif_pos ⟨by omega,by omega⟩];exact congrArg (fun z=>Result.ok (Next.value (Value.int IntKind.u8 z)) u) (hex_at ((c:Int) % 16) (by omega) (by omega) (by show _<16;omega))⟩) trivial ?_
      try simp only [Act.put,sA,sB,sC]
      refine till_one 9 (by kernel_rfl) rfl (fun K hK=>?_)
      go_simp
      obtain⟨w6,hw6⟩:∃w6,ud.alloc (.cells #[.int .u8 92,.int .u8 120,.int .u8 (hxI ((c:Int) / 16)),.int .u8 (hxI ((c:Int) % 16))] 5)=w6:=⟨_,rfl⟩
      have H6:Hid (w6.heap[ud.heap.size]?=some (.cells #[.int .u8 92,.int .u8 120,.int .u8 (hxI ((c:Int) / 16)),.int .u8 (hxI ((c:Int) % 16))] 5 (0,0))∧Below ud.heap.size ud w6):=hZ (by
       rw [←hw6]
       exact⟨heap_alloc_new ud _,(Below.refl _ _).alloc (Nat.le_refl _) _⟩)
      try rw [hw6]
      refine hK.out _ _ (Or.inr trivial) ?_
      clear hK K hw6
      try simp only [Act.put,sA,sB,sC]
      refine till_one 10 (by kernel_rfl) rfl (fun K hK=>?_)
      refine step_fewB rfl (.tmp 18) (.tmp 27) rfl g n 4 ud.heap.size (.slice ao n cp) _ [.int .u8 92,.int .u8 120,.int .u8 (hxI ((c:Int) / 16)),.int .u8 (hxI ((c:Int) % 16))] rfl (by simp [Value.oneCell']) rfl ((uZ HQd).later (uZ H6).2) (by omega) (uZ H6).1 rfl (by omega) (Nat.le_trans hbd (uZ H6).2.size) ?_
      intro v6 w7 H7
      have HQ1:Hid (QRow w7 g v6 (n+4) ((quoI s (i+1)).map (Value.int .u8))∧Below g w w7):=hZ (by
       obtain⟨h1,h2⟩:=uZ H7
       refine⟨Or.inl ?_,(uZ HBd).trans (((uZ H6).2.mono hbd).trans h2)⟩
       rw [uZ HN,uZ HQI,List.map_append]
       exact h1)
      refine hK.out _ _ (Or.inr trivial) ?_
      clear hK K H7
      try simp only [Act.put,sA,sB,sC]
      refine till_one 11 (by kernel_rfl) rfl (fun K hK=>?_)
      go_simp
      refine hK.out _ _ (Or.inl rfl) ?_
      clear hK K
      try simp only [Act.put,sA,sB,sC]
      refine till_done (by kernel_rfl) ?_ _
      go_wp2_with fail
      go_roundw
      case rel=>exact⟨i+1,n+4,by go_num,uZ HI1,by omega,HQ1⟩
      case measure=>have:=uZ HI1;have:=uZ HM;simp [intOf];omega
     ·have d1:(32:Int)≤(c:Int):=by omega
      have d2:¬(c:Int)≤126:=by omega
      clear hp hq
      go_upto_region 7 with fail
      refine till_begin (S:=fun w'=>True) 11 (by kernel_rfl) ?_
      have HQd:=hZ ((uZ HQ).1.later ((Below.refl wr.heap.size wr).drew))
      have HBd:Hid (Below g w wr.drew):=hZ ((uZ HQ).2.drew)
      have hbd:g≤wr.drew.heap.size:=hbs
      obtain⟨ud,hud⟩:∃ud,wr.drew=ud:=⟨_,rfl⟩
      rw [hud] at HQd HBd hbd ⊢
      clear hud
      refine tK 0 (v:=.slice ao n cp) (some 18) rfl rfl rfl (by kernel_rfl) (fun _ _ _ h=>h) (Or.inl ⟨by rfl,fun u hu=>by go_simp⟩) trivial ?_
      try simp only [Act.put,sA,sB,sC]
      refine tK 1 (v:=.string ⟨#[48,49,50,51,52,53,54,55,56,57,97,98,99,100,101,102]⟩) (some 19) rfl rfl rfl (by kernel_rfl) (fun _ _ _ h=>h) (Or.inl ⟨by rfl,fun u hu=>by go_simp⟩) trivial ?_
      try simp only [Act.put,sA,sB,sC]
      refine tK 2 (v:=.int .u8 (c:Int)) (some 20) rfl rfl rfl (by kernel_rfl) (fun _ _ _ h=>h) (Or.inl ⟨by rfl,fun u hu=>by go_simp⟩) trivial ?_
      try simp only [Act.put,sA,sB,sC]
      refine tK 3 (v:=.int .u8 ((c:Int) / 16)) (some 21) rfl rfl rfl (by kernel_rfl) (fun _ _ _ h=>h) (Or.inl ⟨by rfl,fun u hu=>by go_simp⟩) trivial ?_
      try simp only [Act.put,sA,sB,sC]
      refine tK 4 (v:=.int .u8 (hxI ((c:Int) / 16))) (some 22) rfl rfl rfl (by kernel_rfl) (fun _ _ _ h=>h) (Or.inl ⟨by rfl,fun u hu=>by go_simp;rw [dif_pos ⟨by omega,by omega⟩];exact congrArg (fun z=>Result.ok (Next.value (Value.int IntKind.u8 z)) u) (hex_at ((c:Int) / 16) (by omega) (by omega) (by show _<16;omega))⟩) trivial ?_
      try simp only [Act.put,sA,sB,sC]
      refine tK 5 (v:=.string ⟨#[48,49,50,51,52,53,54,55,56,57,97,98,99,100,101,102]⟩) (some 23) rfl rfl rfl (by kernel_rfl) (fun _ _ _ h=>h) (Or.inl ⟨by rfl,fun u hu=>by go_simp⟩) trivial ?_
      try simp only [Act.put,sA,sB,sC]
      refine tK 6 (v:=.int .u8 (c:Int)) (some 24) rfl rfl rfl (by kernel_rfl) (fun _ _ _ h=>h) (Or.inl ⟨by rfl,fun u hu=>by go_simp⟩) trivial ?_
      try simp only [Act.put,sA,sB,sC]
      refine tK 7 (v:=.int .u8 ((c:Int) % 16)) (some 25) rfl rfl rfl (by kernel_rfl) (fun _ _ _ h=>h) (Or.inl ⟨by rfl,fun u hu=>by go_simp⟩) trivial ?_
      try simp only [Act.put,sA,sB,sC]
      refine tK 8 (v:=.int .u8 (hxI ((c:Int) % 16))) (some 26) rfl rfl rfl (by kernel_rfl) (fun _ _ _ h=>h) (Or.inl ⟨by rfl,fun u hu=>by go_simp;rw [dif_pos ⟨by omega,by omega⟩];exact congrArg (fun z=>Result.ok (Next.value (Value.int IntKind.u8 z)) u) (hex_at ((c:Int) % 16) (by omega) (by omega) (by show _<16;omega))⟩) trivial ?_
      try simp only [Act.put,sA,sB,sC]
      refine till_one 9 (by kernel_rfl) rfl (fun K hK=>?_)
      go_simp
      obtain⟨w6,hw6⟩:∃w6,ud.alloc (.cells #[.int .u8 92,.int .u8 120,.int .u8 (hxI ((c:Int) / 16)),.int .u8 (hxI ((c:Int) % 16))] 5)=w6:=⟨_,rfl⟩
      have H6:Hid (w6.heap[ud.heap.size]?=some (.cells #[.int .u8 92,.int .u8 120,.int .u8 (hxI ((c:Int) / 16)),.int .u8 (hxI ((c:Int) % 16))] 5 (0,0))∧Below ud.heap.size ud w6):=hZ (by
       rw [←hw6]
       exact⟨heap_alloc_new ud _,(Below.refl _ _).alloc (Nat.le_refl _) _⟩)
      try rw [hw6]
      refine hK.out _ _ (Or.inr trivial) ?_
      clear hK K hw6
      try simp only [Act.put,sA,sB,sC]
      refine till_one 10 (by kernel_rfl) rfl (fun K hK=>?_)
      refine step_fewB rfl (.tmp 18) (.tmp 27) rfl g n 4 ud.heap.size (.slice ao n cp) _ [.int .u8 92,.int .u8 120,.int .u8 (hxI ((c:Int) / 16)),.int .u8 (hxI ((c:Int) % 16))] rfl (by simp [Value.oneCell']) rfl ((uZ HQd).later (uZ H6).2) (by omega) (uZ H6).1 rfl (by omega) (Nat.le_trans hbd (uZ H6).2.size) ?_
      intro v6 w7 H7
      have HQ1:Hid (QRow w7 g v6 (n+4) ((quoI s (i+1)).map (Value.int .u8))∧Below g w w7):=hZ (by
       obtain⟨h1,h2⟩:=uZ H7
       refine⟨Or.inl ?_,(uZ HBd).trans (((uZ H6).2.mono hbd).trans h2)⟩
       rw [uZ HN,uZ HQI,List.map_append]
       exact h1)
      refine hK.out _ _ (Or.inr trivial) ?_
      clear hK K H7
      try simp only [Act.put,sA,sB,sC]
      refine till_one 11 (by kernel_rfl) rfl (fun K hK=>?_)
      go_simp
      refine hK.out _ _ (Or.inl rfl) ?_
      clear hK K
      try simp only [Act.put,sA,sB,sC]
      refine till_done (by kernel_rfl) ?_ _
      go_wp2_with fail
      go_roundw
      case rel=>exact⟨i+1,n+4,by go_num,uZ HI1,by omega,HQ1⟩
      case measure=>have:=uZ HI1;have:=uZ HM;simp [intOf];omega
  ·have i1:¬(i:Int)<(s.size:Int):=by omega
   have hbs:g≤wr.heap.size:=by have:=(uZ HQ).2.size;omega
   have HN:Hid (quoI s i=quoI s s.size):=hZ (by rw [show i=s.size by have:=uZ HM;omega])
   have tokA:True:=trivial
   go_wp2_with (first|(have _t:=tokA;at_builtin;refine wpl_fewB rfl (.tmp 51) (.tmp 52) rfl g n 1 (.slice ao n cp) _ [.int .u8 34] rfl (by simp [Value.oneCell']) rfl (uZ HQ).1 (by omega) rfl (by omega) hbs ?_;intro v6 w6 H6;clear tokA;obtain⟨b7,c7,rfl,hcv⟩:=quo_conv (uZ H6).1 (uZ HN);have kc:=hcv))
   have HF:=hZ ((uZ HQ).2.trans (uZ H6).2)
   clear H6
   go_ret
   exact⟨rfl,by first|exact uZ HF|(rw [hg];exact uZ HF)⟩
end Go.Proofs.YtlkeaaopdnnceaaGreatDoor
