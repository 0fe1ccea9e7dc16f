/-
  a block (the document's).
  Conditions: where nodes are told of, they lie in memory.
-/
import Derived.Test.YtlkeaaopdnnceaaGreatDoorA39
import Derived.Lib.SlBytesConst
set_option linter.unusedVariables false
set_option linter.unusedSimpArgs false
set_option maxRecDepth 100000
set_option maxHeartbeats 8000000
namespace Go.Proofs.YtlkeaaopdnnceaaGreatDoor
open Go.RowKit
set_option linter.unusedVariables false
set_option linter.unusedSimpArgs false
def QB (w:World) (base:Nat) (v:Value) (L:List UInt8):Prop:=QRow w base v L.length (bc L)
theorem QB.later {w u:World} {base:Nat} {v:Value} {L:List UInt8} (h:QB w base v L) (hu:Below w.heap.size w u):QB u base v L:=QRow.later h hu
theorem OwB.q {w:World} {base:Nat} {v:Value} {L:List UInt8} (h:OwB w base v L):QB w base v L:=Or.inl h
theorem QB.conv {w:World} {base:Nat} {v:Value} {L:List UInt8} (h:QB w base v L):∃ao cap,v=.slice ao L.length cap∧Sem.run Tryz.prog (convert 41 9 (.slice ao L.length cap)) w=.ok (.string (bA L)) w:=by
 rcases h with h|⟨b,rfl,hl,_,_,hc⟩
 ·exact OwB.conv h
 ·refine⟨_,_,rfl,?_⟩
  have hr:=run_convert_bytes_arg (P:=Tryz.prog) w 41 5 Tryz.underlying41 Tryz.underlying5 b 0 L.length L.length (L.map (fun b=>(b.toNat:Int))) (by simp) (fun j hj=>by
   rw [Nat.zero_add]
   refine hc j _ ?_
   have hj2:j<L.length:=by simpa using hj
   simp [bc,List.getElem?_map,List.getElem?_eq_getElem hj2,List.getD_eq_getElem?_getD]) 9 Tryz.underlying9
  refine hr.trans ?_
  have e2:strOfNums (L.map (fun b=>(b.toNat:Int)))=bA L:=by
   apply bA_eq
   rw [strOfNums_data,List.map_map]
   conv=>rhs;rw [←List.map_id L]
   apply List.map_congr_left
   intro a _
   simp
  rw [e2]
theorem QB.convAt {w u:World} {base n cp:Nat} {ao:Option Addr} {L:List UInt8} (h:QB w base (.slice ao n cp) L) (hu:Below w.heap.size w u):Sem.run Tryz.prog (convert 41 9 (.slice ao n cp)) u=.ok (.string (bA L)) u:=by
 obtain⟨ao',cap',e,hc⟩:=(h.later hu).conv
 cases e
 exact hc
theorem run_growS {w:World} (ty:TypeId) (base b n:Nat) (xs:List Value) (s:ByteArray) (hxl:xs.length=n) (hcell:∀j u,xs[j]?=some u→w.cell? ⟨b,j,none⟩=some u) (hs:0<s.size) (hn:n+s.size≤140737488355328) (hbase:base≤w.heap.size) :
  ∃v' w',(Builtin.append_ #[41,9] ty #[.slice (some ⟨b,0,none⟩) n n,.string s]).run Tryz.prog w=.ok v' w'∧w'.ownsRow base 5 1 v' (n+s.size) (xs++Lib.strCells s)∧Below base w w':=by
 obtain⟨i0,hi,hz0,hz1,hz2⟩:=info_parts info5q
 have hr:=Lib.run_append_grow_string (P:=Tryz.prog) w 41 9 ty 5 i0 (.int .u8 0) Tryz.underlying41 Tryz.underlying9 hi hz0 ⟨b,0,none⟩ n n xs (by rw [hz1,Nat.mul_one];exact hxl) (fun j u hu=>by
  have ha:(⟨b,0,none⟩:Addr).add j=⟨b,j,none⟩:=by unfold Addr.add;split <;> simp_all
  rw [ha]
  exact hcell j u hu) s (by omega) (by omega) (by rw [hz2];exact growslice_fits (by omega) (by omega))
 have hge:=grownCap_ge w (n+s.size) n 5
 have hcm:grownCap w (n+s.size) n 5≤maxLen:=grownCap_le_maxLen w (n+s.size) n 5 (by unfold maxLen;omega)
 refine⟨_,_,hr,⟨by rw [List.length_append,hxl,Lib.strCells_length,Nat.mul_one],.inr ⟨w.heap.size,_,_,rfl,hbase,heap_alloc_new w.drew _,hge,hcm,?_,?_⟩⟩,?_⟩
 ·have hz:(Value.int IntKind.u8 0).cells.size=1:=rfl
  simp only [Array.size_append,List.size_toArray,size_zeroCells,hz,hxl,Lib.strCells_length]
  omega
 ·simp only [Array.toList_append,List.append_assoc]
  rw [←List.append_assoc,show (n+s.size) * 1=(xs++Lib.strCells s).length by rw [List.length_append,hxl,Lib.strCells_length,Nat.mul_one]]
  exact List.take_left
 ·exact(Below.refl _ _).drew.alloc hbase _
theorem wpl_appQ {w:World} {ops:Array Oper} {rest:List Oper} {o:Oper} {a:Act} {Q:Exit→Act→World→Prop} (hgd:o.guard=none) (sl x:Operand)
  (ho:o.op=.call { callee:=.builtin .append,args:=#[sl,x],argTypes:=#[41,9] })
  (base:Nat) (v:Value) (L:List UInt8) (s:ByteArray) (hs:a.eval sl=v) (hown:QB w base v L) (hx:a.eval x=.string s) (hp:0<s.size) (hn:L.length+s.size≤140737488355328) (hbase:base≤w.heap.size)
  (h:∀v' w',Hid (OwB w' base v' (L++s.data.toList)∧Below base w w')→wpList Tryz.prog ops Q rest (a.put o.dst v') w'):wpList Tryz.prog ops Q (o :: rest) a w:=by
 rcases hown with hown|⟨b,rfl,hl,_,_,hc⟩
 ·exact wpl_appS hgd sl x ho base v L s hs hown hx hn hbase h
 ·refine wpList_plain hgd fun K hK=>?_
  obtain⟨v',w',hr,h2,h3⟩:=run_growS (w:=w) o.type base b L.length (bc L) s (bc_len L) hc hp hn hbase
  unfold Oper.wp
  simp only [execOp,ho,resolve,invoke,builtin,Sem.run_bind,Sem.run_pure,Result.andThen_ok,List.map_toArray,List.map_cons,List.map_nil,hs,hx,hr]
  refine hK _ _ (h v' w' ⟨?_,h3⟩)
  unfold OwB
  rw [List.length_append,bc_app]
  exact h2
theorem jl_nil_next (ks:List Tn) (T:Tn→List UInt8) (i:Nat) (z:Tn) (h:ks[i]?=some z):jl [] true ((ks.take (i+1)).map T)=jl [] true ((ks.take i).map T)++T z:=by
 rw [jl_next [] ks T i z h]
 split <;> simp
theorem rblock_any (d B0:Nat) (hd:d≤100000) (y:Tn) (x:List Value) (w:World) (hB:B0≤w.heap.size) (hx:IsN w (fun b=>b<B0) y x) (hS:∀z∈y.ks,StD B0 (d+1) z) (hl:(blkT (d+1) (stT (d+1)) y.ks).length≤10000000000) :
  Calls Tryz.prog 24 #[.agg x.toArray,.int .i64 (d:Int)] w fun e w'=>e=.returned (.string (bA (blkT (d+1) (stT (d+1)) y.ks)))∧Below w.heap.size w w':=by
 have hx0:=hx
 obtain⟨vk,vn,vs,al,ak,a,ll,cl,lk,ck,cc,rfl,hvv,hr,hbk,hbp⟩:=hx.opn
 obtain⟨k,t,v,f,ks,p⟩:=y
 obtain⟨n,hn⟩:∃n,ks.length=n:=⟨_,rfl⟩
 have hnb:n≤140737488351232:=by rw [←hn];exact hr.len
 simp only at hS hl
 simp only [hn] at hx0 hvv hr hbk hbp ⊢
 obtain⟨R,hR⟩:∃R,(.string (bA (blkT (d+1) (stT (d+1)) ks)):Value)=R:=⟨_,rfl⟩
 rw [hR]
 have HR:=hZ hR
 obtain⟨w1,hw1⟩:∃w1,w.alloc (.cells #[.int .i64 k,.string t,.int .i64 vk,.int .i64 vn,.string vs,.slice al ll cl,.slice ak lk ck,.bool f,.slice a n cc,.int .i64 p] 28)=w1:=⟨_,rfl⟩
 obtain⟨G,hG⟩:∃G,w.heap.size=G:=⟨_,rfl⟩
 obtain⟨A1,X1⟩:=al1 hw1 hG
 have hBG:B0≤G:=by rw [←hG];exact hB
 have HM:Hid (NM5 B0 G w w1 ⟨k,t,v,f,ks,p⟩ [.int .i64 k,.string t,.int .i64 vk,.int .i64 vn,.string vs,.slice al ll cl,.slice ak lk ck,.bool f,.slice a n cc,.int .i64 p] ks a cc v (.agg #[.int .i64 vk,.int .i64 vn,.string vs,.slice al ll cl,.slice ak lk ck])):=hZ (fun u hu=>by
  have h2:=X1.trans (hu.mono (Nat.le_of_lt (lt_of_row A1)))
  exact⟨hx0.laterB (h2.mono hBG),hr.later (h2.mono hBG),Nat.le_trans hBG (by rw [←hG];exact h2.size),hvv.mono (h2.mono hBG),h2⟩)
 have HF:Hid (NF10 w1 G (.int .i64 k) (.string t) (.int .i64 vk) (.int .i64 vn) (.string vs) (.slice al ll cl) (.slice ak lk ck) (.bool f) (.slice a n cc) (.int .i64 p)):=hZ (fun u hu=>row_ten (Below.cellsAt hu A1))
 have HN:=hZ hn
 have HS0:Hid (Below w1.heap.size w1 w1):=hZ (Below.refl _ _)
 have HW:=hZ hw1
 have HE:=hZ hS
 have HLn:=hZ hl
 have hw1d:=hZ (show IntKind.i64.wrap ((d:Int)+1)=((d+1:Nat):Int) by rw [IntKind.wrap_i64];omega)
 have HDd:=hZ hd
 clear hS hl hd
 clear A1 X1 hw1 hx hx0 hr hvv hB hBG hn hR
 go_enter Tryz.func24,Tryz.ntmps24
 go_upto_region 1 with fail
 rw [uZ HW]
 try rw [hG]
 clear HW
 obtain⟨x0,x1,x2,x3,x4,x5,x6,x7,x8,x9⟩:=uZ HF w1 (Below.refl _ _)
 obtain⟨g,hg⟩:∃g,w1.heap.size=g:=⟨_,rfl⟩
 have HG1:=hZ hg
 have kc:=fun (w:World) (C:Array Value) (n c:Nat)=>Lib.run_convert_bytes_const (P:=Tryz.prog) w 41 5 C n c Tryz.underlying41 Tryz.underlying5
 have HWL:=hZ (show QB (w1.alloc (.cells #[.int .u8 123,.int .u8 10] 5 (2,3))) g (.slice (some ⟨w1.heap.size,0,none⟩) 2 2) [123,10] from Or.inr ⟨w1.heap.size,rfl,rfl,by simp,by omega,fun j u hu=>by rw [cell_of_row _ w1.heap.size j _ 5 (2,3) (heap_alloc_new w1 _)];simpa [bc] using hu⟩)
 have HBL:=hZ (show Below w1.heap.size w1 (w1.alloc (.cells #[.int .u8 123,.int .u8 10] 5 (2,3))) from (Below.refl _ _).alloc (Nat.le_refl _) _)
 clear hg
 go_wp2_with fail
 clear x0 x1 x2 x3 x4 x5 x6 x7 x8 x9
 go_loopw [5,6] (fun ov x wr=>∃(i:Nat) (rv:Value),x=.int .i64 (i:Int)∧rv=ov∧i≤n∧Hid (QB wr g rv ([123,10]++jl [] true ((ks.take i).map (lineT (d+1) (stT (d+1))))))∧Hid (Below w1.heap.size w1 wr)) (fun _ x _=>n - (intOf x).toNat)
 case atStart=>exact⟨0,_,rfl,rfl,Nat.zero_le _,hZ (by simpa [jl] using uZ HWL),HBL⟩
 case round=>
  obtain⟨i,rv,rfl,rfl,hi,HO,HX⟩:=hrel
  obtain⟨w8,hw8⟩:∃u,u=wr:=⟨_,rfl⟩
  subst hw8
  obtain⟨x0,x1,x2,x3,x4,x5,x6,x7,x8,x9⟩:=uZ HF w8 (uZ HX)
  have hgb:g≤w8.heap.size:=by have:=(uZ HX).size;have:=uZ HG1;omega
  by_cases hlt:i<n
  ·have i1:(i:Int)<(n:Int):=by omega
   obtain⟨z,hz⟩:∃z,ks[i]?=some z:=⟨_,List.getElem?_eq_getElem (by have:=uZ HN;omega)⟩
   have HZ:=hZ hz
   have HI1:=hZ (show i+1≤n by omega)
   have HJ:=hZ (jl_nil_next ks (lineT (d+1) (stT (d+1))) i z hz)
   have HJ2:=hZ (jl_part [] (lineT (d+1) (stT (d+1))) ks (i+1))
   have hlen:([123,10]++jl [] true ((ks.take i).map (lineT (d+1) (stT (d+1))))).length+(d+1)+(stT (d+1) z).length+1≤20000000000:=by
    have h1:=uZ HJ
    have h2:=uZ HJ2
    have h3:=uZ HLn
    rw [h1,List.length_append] at h2
    unfold blkT at h3
    unfold lineT at h2 ⊢
    simp only [List.length_append,List.length_cons,List.length_nil,List.length_replicate] at h2 h3 ⊢
    unfold lineT at h3
    omega
   have HLE:=hZ hlen
   clear hlen
   obtain⟨L0,hL0⟩:∃L0,[123,10]++jl [] true ((ks.take i).map (lineT (d+1) (stT (d+1))))=L0:=⟨_,rfl⟩
   rw [hL0] at HO HLE
   have HL0:=hZ hL0
   clear hL0 hz
   have CT:=hZ (rtabs_any (d+1) (by have:=uZ HDd;omega) w8)
   obtain⟨S,hS⟩:∃S,bA (List.replicate (d+1) 9)=S:=⟨_,rfl⟩
   rw [hS] at CT
   have hSd:S.data.toList=List.replicate (d+1) 9:=by rw [←hS,bA_data]
   have HSd:=hZ hSd
   have hSs:S.size=d+1:=by rw [←hS,bA_size,List.length_replicate]
   have HSs:=hZ hSs
   clear hS hSd hSs
   have wd:=uZ hw1d
   go_wp2_with fail
   clear wd
   refine(uZ CT).mono ?_
   rintro e w5 ⟨rfl,bb⟩
   have HX5:=hZ ((uZ HX).trans (bb.mono (uZ HX).size))
   have HO5:=hZ ((uZ HO).later bb)
   have hgb5:g≤w5.heap.size:=Nat.le_trans hgb bb.size
   clear bb CT HO x0 x1 x2 x3 x4 x5 x6 x7 x8 x9
   have tokA:True:=trivial
   go_upto_region 6 with (first|(have _t:=tokA;at_builtin;refine wpl_appQ rfl (.tmp 16) (.tmp 19) rfl g _ L0 S rfl (uZ HO5) rfl (by have:=uZ HSs;omega) (by have:=uZ HLE;have:=uZ HSs;omega) hgb5 ?_;intro v6 w6 H6;clear tokA))
   have HO6:=hZ (show OwB w6 g v6 (L0++List.replicate (d+1) 9) by rw [←uZ HSd];exact(uZ H6).1)
   have HX6:=hZ ((uZ HX5).trans ((uZ H6).2.mono (by have:=uZ HG1;omega)))
   have hgb6:g≤w6.heap.size:=Nat.le_trans hgb5 (uZ H6).2.size
   clear H6 HO5
   obtain⟨x0,x1,x2,x3,x4,x5,x6,x7,x8,x9⟩:=uZ HF w6 (uZ HX6)
   have hz:ks[i]?=some z:=uZ HZ
   obtain⟨b,vky,vny,vsy,aly,aky,ay,lly,cly,lky,cky,ny,ccy,rfl,hcy,hby,hny,hzy,hcelly⟩:=((uZ HM) w6 (uZ HX6)).2.1.ten hz
   obtain⟨e0,e1,e2,e3,e4,e5,e6,e7,e8,e9⟩:=tenC hcelly
   have CE:=hZ ((uZ HE) z (List.mem_of_getElem? hz) _ w6 ((uZ HM) w6 (uZ HX6)).2.2.1 hzy)
   obtain⟨U,hU⟩:∃S,bA (stT (d+1) z)=S:=⟨_,rfl⟩
   rw [hU] at CE
   have hUd:U.data.toList=stT (d+1) z:=by rw [←hU,bA_data]
   have HUd:=hZ hUd
   have hUs:U.size=(stT (d+1) z).length:=by rw [←hU,bA_size]
   have HUs:=hZ hUs
   clear hU hUd hUs hz hcy hby hny hzy hcelly
   have wd:=uZ hw1d
   go_wp2_with fail
   clear wd
   refine(uZ CE).mono ?_
   rintro e w7 ⟨rfl,bb⟩
   have HX7:=hZ ((uZ HX6).trans (bb.mono (uZ HX6).size))
   have HO7:=hZ ((uZ HO6).later bb)
   have hgb7:g≤w7.heap.size:=Nat.le_trans hgb6 bb.size
   clear bb CE HO6 e0 e1 e2 e3 e4 e5 e6 e7 e8 e9 x0 x1 x2 x3 x4 x5 x6 x7 x8 x9
   have tokB:True:=trivial
   go_upto_region 7 with (first|(have _t:=tokB;at_builtin;refine wpl_appS rfl (.tmp 21) (.tmp 29) rfl g _ (L0++List.replicate (d+1) 9) U rfl (uZ HO7) rfl (by have:=uZ HLE;have:=uZ HUs;rw [List.length_append,List.length_replicate];omega) hgb7 ?_;intro v8 w9 H8;clear tokB))
   have HO8:=hZ (show OwB w9 g v8 (L0++List.replicate (d+1) 9++stT (d+1) z) by rw [←uZ HUd];exact(uZ H8).1)
   have HX8:=hZ ((uZ HX7).trans ((uZ H8).2.mono (by have:=uZ HG1;omega)))
   have hgb8:g≤w9.heap.size:=Nat.le_trans hgb7 (uZ H8).2.size
   clear H8 HO7
   have hfit:(L0++List.replicate (d+1) 9++stT (d+1) z).length+1≤140737488355328:=by have:=uZ HLE;rw [List.length_append,List.length_append,List.length_replicate];omega
   have HFT:=hZ hfit
   clear hfit
   go_wp2_with (at_builtin;refine wpl_fewB (w:=w9) rfl (.tmp 31) (.tmp 32) rfl g (L0++List.replicate (d+1) 9++stT (d+1) z).length 1 v8 (bc (L0++List.replicate (d+1) 9++stT (d+1) z)) [.int .u8 10] rfl ?a1 rfl ?a3 (by omega) rfl (uZ HFT) hgb8 ?_;(· simp [Value.oneCell']);(· exact(uZ HO8).byte);intro v10 w10 H10)
   have HO10:=hZ (OwB.q (show OwB w10 g v10 ([123,10]++jl [] true ((ks.take (i+1)).map (lineT (d+1) (stT (d+1))))) by
    have h:=(uZ H10).1
    rw [uZ HJ,←List.append_assoc,uZ HL0]
    unfold lineT OwB
    simp only [←List.append_assoc]
    rw [List.length_append,bc_app]
    exact h))
   have HX10:=hZ ((uZ HX8).trans ((uZ H10).2.mono (by have:=uZ HG1;omega)))
   clear H10 HO8 HFT
   go_roundw
   case rel=>exact⟨i+1,_,by go_num,rfl,uZ HI1,HO10,HX10⟩
   case measure=>have:=uZ HI1;simp [intOf];omega
  ·have i1:¬(i:Int)<(n:Int):=by omega
   have hin:ks.take i=ks:=List.take_of_length_le (by have:=uZ HN;omega)
   obtain⟨L1,hL1⟩:∃L1,[123,10]++jl [] true (ks.map (lineT (d+1) (stT (d+1))))=L1:=⟨_,rfl⟩
   have HO2:=hZ (show QB w8 g rv L1 by have:=uZ HO;rw [hin,hL1] at this;exact this)
   have hl1:L1.length≤10000000000:=by have h:=uZ HLn;unfold blkT at h;rw [←hL1];simp only [List.length_append] at h ⊢;omega
   obtain⟨ao,cp,rfl,_⟩:=(uZ HO2).conv
   clear HO hin
   obtain⟨S,hS⟩:∃S,bA L1=S:=⟨_,rfl⟩
   have HCV:Hid (∀u,Below w8.heap.size w8 u→Sem.run Tryz.prog (convert 41 9 (.slice ao L1.length cp)) u=.ok (.string S) u):=hZ (fun u hu=>by rw [←hS];exact(uZ HO2).convAt hu)
   have dS:S.data.toList=L1:=by rw [←hS,bA_data]
   have sS:S.size≤10000000000:=by rw [←hS,bA_size];exact hl1
   clear hS
   have CT:Hid (∀u:World,Calls Tryz.prog 46 #[.int .i64 (d:Int)] u fun e u'=>e=.returned (.string (bA (List.replicate d 9)))∧Below u.heap.size u u'):=hZ (fun u=>rtabs_any d (by have:=uZ HDd;omega) u)
   obtain⟨T,hT⟩:∃S,bA (List.replicate d 9)=S:=⟨_,rfl⟩
   rw [hT] at CT
   have dT:T.data.toList=List.replicate d 9:=by rw [←hT,bA_data]
   have sT:T.size≤100000:=by rw [←hT,bA_size,List.length_replicate];exact uZ HDd
   clear hT
   obtain⟨N1,hN1⟩:∃N1,L1.length=N1:=⟨_,rfl⟩
   rw [hN1] at HCV
   try rw [hN1]
   clear hN1
   have hzA:¬9223372036854775807<S.size+T.size:=by omega
   obtain⟨A,eA⟩:∃z,(S++T:ByteArray)=z:=⟨_,rfl⟩
   have dA:A.data.toList=L1++List.replicate d 9:=by rw [←eA,ByteArray.data_append,Array.toList_append] <;> (rw [dS,dT])
   have sA:A.size≤S.size+T.size:=by rw [←eA,ByteArray.size_append];exact Nat.le_refl _
   have hzD:¬9223372036854775807<A.size+1:=by omega
   obtain⟨D,eD⟩:∃z,(A++⟨#[125]⟩:ByteArray)=z:=⟨_,rfl⟩
   have dD:D.data.toList=L1++List.replicate d 9++[125]:=by rw [←eD,ByteArray.data_append,Array.toList_append] <;> (rw [dA] <;> rfl)
   have sD:D.size≤A.size+1:=by rw [←eD,ByteArray.size_append];exact Nat.le_refl _
   have HV:=hZ (show R=.string D by
    rw [←uZ HR]
    refine congrArg Value.string (bA_eq D _ ?_).symm
    rw [dD,←hL1]
    unfold blkT
    rw [Nat.add_sub_cancel]
    simp [List.append_assoc])
   clear HR dA dD dS dT hL1
   go_upto_region 8 with fail
   clear x0 x1 x2 x3 x4 x5 x6 x7 x8 x9
   have HD0:Hid (Below w8.heap.size w8 w8.drew):=hZ ((Below.refl _ _).drew)
   refine till_begin (S:=fun w'=>Below w8.heap.size w8 w') 6 (by kernel_rfl) ?_
   obtain⟨W0,hW0⟩:∃W0,w8.drew=W0:=⟨_,rfl⟩
   try rw [hW0]
   rw [hW0] at HD0
   clear hW0
   refine tK 0 (v:=.slice ao N1 cp) (some 34) rfl rfl rfl (by kernel_rfl) (fun _ _ _ h=>h) (Or.inl ⟨by rfl,fun u hu=>by have hcv:=uZ HCV u hu;go_simp⟩) (uZ HD0) ?_
   try simp only [Act.put,sA,sB,sC]
   refine tK 1 (v:=.string S) (some 35) rfl rfl rfl (by kernel_rfl) (fun _ _ _ h=>h) (Or.inl ⟨by rfl,fun u hu=>by have hcv:=uZ HCV u hu;go_simp⟩) (uZ HD0) ?_
   try simp only [Act.put,sA,sB,sC]
   refine tK 2 (v:=.int .i64 (d:Int)) (some 36) rfl rfl rfl (by kernel_rfl) (fun _ _ _ h=>h) (Or.inl ⟨by rfl,fun u hu=>by have hcv:=uZ HCV u hu;go_simp⟩) (uZ HD0) ?_
   try simp only [Act.put,sA,sB,sC]
   refine till_one 3 (by kernel_rfl) rfl (fun K hK=>?_)
   go_simp
   refine((uZ CT) W0).mono ?_
   rintro e W1 ⟨rfl,bb⟩
   have HD1:=hZ ((uZ HD0).trans (bb.mono (uZ HD0).size))
   clear bb
   go_wp2_with fail
   refine hK.out _ _ (Or.inr (uZ HD1)) ?_
   clear hK K HD0
   try simp only [Act.put,sA,sB,sC]
   refine till_one 4 (by kernel_rfl) rfl (fun K hK=>?_)
   go_simp
   refine hK.out _ _ (Or.inr (uZ HD1)) ?_
   clear hK K
   try simp only [Act.put,sA,sB,sC]
   refine till_one 5 (by kernel_rfl) rfl (fun K hK=>?_)
   go_simp
   refine hK.out _ _ (Or.inr (uZ HD1)) ?_
   clear hK K
   try simp only [Act.put,sA,sB,sC]
   refine till_one 6 (by kernel_rfl) rfl (fun K hK=>?_)
   go_simp
   refine hK.out _ _ (Or.inl (by first|rfl|trivial)) ?_
   clear hK K
   try simp only [Act.put,sA,sB,sC]
   refine till_done (by kernel_rfl) ?_ _
   have HD9:=hZ ((uZ HX).trans ((uZ HD1).mono (uZ HX).size))
   go_wp2_with fail
   go_ret
   have hbz:=((uZ HM) W1 (uZ HD9)).2.2.2.2
   exact⟨by rw [uZ HV] <;> rfl,by subst hG;exact hbz⟩
end Go.Proofs.YtlkeaaopdnnceaaGreatDoor
