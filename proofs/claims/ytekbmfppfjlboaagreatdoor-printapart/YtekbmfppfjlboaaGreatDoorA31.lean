/-
  Layer 18 (print): an expression is written; conditions: the nodes lie in memory.
-/
import Derived.Test.YtekbmfppfjlboaaGreatDoorA28
set_option linter.unusedVariables false
set_option linter.unusedSimpArgs false
namespace Go.Proofs.YtekbmfppfjlboaaGreatDoor
open Go.RowKit
set_option linter.unusedVariables false
set_option linter.unusedSimpArgs false
set_option maxRecDepth 100000 in
set_option maxHeartbeats 4000000 in
theorem pair_node (B0:Nat) (v:Vl) (ks:List Tn) (vk vn p:Int) (t vs:ByteArray) (al ak:Option Addr) (ll cl lk ck n cc:Nat) (f:Bool) (b:Addr) (w:World) (hB:B0≤w.heap.size) (hr:RowN w B0 ks (some b) cc) (hn:ks.length=n) (hG0:0<B0) (hP:PowAt w) (hE:∀y∈ks,ExC B0 y) (h1:n=1) (hsz:t.size≤32) :
  Calls Tryz.prog 44 #[.agg #[.int .i64 20,.string t,.int .i64 vk,.int .i64 vn,.string vs,.slice al ll cl,.slice ak lk ck,.bool f,.slice (some b) n cc,.int .i64 p]] w fun e w'=>∃t',e=.returned t'∧Txt B0 w' t' (ex1 20 t v ks (exM ks))∧Below w.heap.size w w':=by
 obtain⟨w1,hw1⟩:∃w1,w.alloc (.cells #[.int .i64 20,.string t,.int .i64 vk,.int .i64 vn,.string vs,.slice al ll cl,.slice ak lk ck,.bool f,.slice (some b) n cc,.int .i64 p] 28)=w1:=⟨_,rfl⟩
 obtain⟨G,hG⟩:∃G,w.heap.size=G:=⟨_,rfl⟩
 have A1:w1.heap[G]?=some (.cells #[.int .i64 20,.string t,.int .i64 vk,.int .i64 vn,.string vs,.slice al ll cl,.slice ak lk ck,.bool f,.slice (some b) n cc,.int .i64 p] 28 (0,0)):=by rw [←hw1,←hG];exact heap_alloc_new _ _
 have X1:Below G w w1:=by rw [←hw1,←hG];exact(Below.refl _ _).alloc (Nat.le_refl _) _
 have hBG:B0≤G:=by rw [←hG];exact hB
 have HM:Hid (∀u,Below w1.heap.size w1 u→RowN u B0 ks (some b) cc∧PowAt u∧Below G w u∧B0≤u.heap.size):=hide (fun u h=>by
  have h2:=X1.trans (h.mono (Nat.le_of_lt (lt_of_row A1)))
  exact⟨hr.later (h2.mono hBG),hP.later h2 (by omega),h2,Nat.le_trans hBG (by rw [←hG];exact h2.size)⟩)
 have HF:Hid (∀u,Below w1.heap.size w1 u→u.cell? ⟨G,0,none⟩=some (.int .i64 20)∧u.cell? ⟨G,1,none⟩=some (.string t)∧u.cell? ⟨G,2,none⟩=some (.int .i64 vk)∧u.cell? ⟨G,3,none⟩=some (.int .i64 vn)∧u.cell? ⟨G,4,none⟩=some (.string vs)∧u.cell? ⟨G,5,none⟩=some (.slice al ll cl)∧u.cell? ⟨G,6,none⟩=some (.slice ak lk ck)∧u.cell? ⟨G,7,none⟩=some (.bool f)∧u.cell? ⟨G,8,none⟩=some (.slice (some b) n cc)∧u.cell? ⟨G,9,none⟩=some (.int .i64 p)):=hide (fun u hu=>row_ten (Below.cellsAt hu A1))
 have HB:=hide (show B0≤w1.heap.size from Nat.le_trans hBG (Nat.le_of_lt (lt_of_row A1)))
 have HN:=hide (And.intro hn hG0)
 obtain⟨R,hR⟩:∃R,ex1 20 t v ks (exM ks)=R:=⟨_,rfl⟩
 rw [hR]
 have HR:=hide hR
 have HW:=hide hw1
 obtain⟨y,hy⟩:∃y,ks[0]?=some y:=⟨_,List.getElem?_eq_getElem (by omega)⟩
 have hEy:=hE y (List.mem_of_getElem? hy)
 obtain⟨b',vky,vny,vsy,aly,aky,ay,lly,cly,lky,cky,ny,ccy,eb,hcy,hby,hny,hzy,hcelly⟩:=hr.ten hy
 obtain rfl:b=b':=Option.some.inj eb
 have hncc:n≤cc:=by rw [←hn];exact hcy
 have HY:=hide (exM_at ks 0 y hy)
 obtain⟨ky,hky⟩:∃z,y.k=z:=⟨_,rfl⟩
 obtain⟨ty,hty⟩:∃z,y.t=z:=⟨_,rfl⟩
 obtain⟨fy,hfy⟩:∃z,y.f=z:=⟨_,rfl⟩
 obtain⟨py,hpy⟩:∃z,y.p=z:=⟨_,rfl⟩
 rw [hky,hty,hfy,hpy] at hzy hcelly
 have X0:∀u,Below w1.heap.size w1 u→Below G w u:=fun u h=>X1.trans (h.mono (Nat.le_of_lt (lt_of_row A1)))
 have HK:Hid (∀u,Below w1.heap.size w1 u→u.cell? b=some (.int .i64 ky)∧u.cell? ⟨b.block,b.off+1,none⟩=some (.string ty)∧u.cell? ⟨b.block,b.off+2,none⟩=some (.int .i64 vky)∧u.cell? ⟨b.block,b.off+3,none⟩=some (.int .i64 vny)∧u.cell? ⟨b.block,b.off+4,none⟩=some (.string vsy)∧u.cell? ⟨b.block,b.off+5,none⟩=some (.slice aly lly cly)∧u.cell? ⟨b.block,b.off+6,none⟩=some (.slice aky lky cky)∧u.cell? ⟨b.block,b.off+7,none⟩=some (.bool fy)∧u.cell? ⟨b.block,b.off+8,none⟩=some (.slice ay ny ccy)∧u.cell? ⟨b.block,b.off+9,none⟩=some (.int .i64 py)):=hide (fun u h=>by
  have hc:∀j v,([.int .i64 ky,.string ty,.int .i64 vky,.int .i64 vny,.string vsy,.slice aly lly cly,.slice aky lky cky,.bool fy,.slice ay ny ccy,.int .i64 py]:List Value)[j]?=some v→u.cell? ((b.add (0 * 10)).add j)=some v:=fun j v hj=>(World.cell?_of_block ((X0 u h).block _ (by rw [block_add,block_add];omega))).trans (hcelly j v hj)
  exact⟨hc 0 _ rfl,hc 1 _ rfl,hc 2 _ rfl,hc 3 _ rfl,hc 4 _ rfl,hc 5 _ rfl,hc 6 _ rfl,hc 7 _ rfl,hc 8 _ rfl,hc 9 _ rfl⟩)
 obtain⟨Z,hZ⟩:∃Z,exT y=Z:=⟨_,rfl⟩
 rw [hZ] at HY
 have CE:Hid (∀u,Below w1.heap.size w1 u→Calls Tryz.prog 23 #[.agg #[.int .i64 ky,.string ty,.int .i64 vky,.int .i64 vny,.string vsy,.slice aly lly cly,.slice aky lky cky,.bool fy,.slice ay ny ccy,.int .i64 py]] u fun e u'=>∃t,e=.returned t∧Txt B0 u' t Z∧Below u.heap.size u u'):=hide (fun u h=>by rw [←hZ];exact hEy _ u (Nat.le_trans hBG (by rw [←hG];exact(X0 u h).size)) hG0 (hP.later (X0 u h) (by omega)) (hzy.laterB ((X0 u h).mono hBG)))
 clear hEy hzy hcelly hy hny hcy hby hky hty hfy hpy hZ X0 eb
 have hi0:(0:Int)<(n:Int):=by omega
 have CN:=hide (isNameL_any t w1)
 obtain⟨Q,hQ⟩:∃Q,nameL t.data.toList=Q:=⟨_,rfl⟩
 rw [hQ] at CN
 have HQ:=hide hQ
 have HSZ:=hide hsz
 clear hQ hsz h1 hE
 clear A1 X1 hw1 hBG hB hr hn hG0 hP hR
 go_enter Tryz.func44,Tryz.ntmps44
 go_upto_region 1 with fail
 rw [unhide HW]
 try rw [hG]
 clear HW
 obtain⟨x0,x1,x2,x3,x4,x5,x6,x7,x8,x9⟩:=unhide HF w1 (Below.refl _ _)
 go_wp2_with fail
 refine(unhide CN).mono ?_
 rintro e w2 ⟨rfl,b2⟩
 have H12:=hide b2
 clear b2 CN x0 x1 x2 x3 x4 x5 x6 x7 x8 x9
 cases Q with
 |true=>
  have HK0:Hid (t=t):=hide rfl
  have HD1:=hide (show t.data.toList=(if nameL t.data.toList=true then t.data.toList else quoB t.data.toList) by rw [unhide HQ];rfl)
  have hks:t.size≤32:=unhide HSZ
  have hz1:¬9223372036854775807<t.size+2:=by omega
  obtain⟨K2,hK2⟩:∃z,(t++⟨#[58,32]⟩:ByteArray)=z:=⟨_,rfl⟩
  have HD2:=hide (show K2.data.toList=t.data.toList++[58,32] by rw [←hK2];simp)
  have HK2:=hide hK2
  clear hK2 hks
  have HBB:=hide (show B0≤w2.heap.size from Nat.le_trans (unhide HB) (unhide H12).size)
  go_upto_region 4 with fail
  have HS0:Hid (Below w2.heap.size w2 w2.drew):=hide ((Below.refl _ _).drew)
  refine till_begin (S:=fun w'=>Below w2.heap.size w2 w') 10 (by kernel_rfl) ?_
  obtain⟨W0,hW0⟩:∃W0,w2.drew=W0:=⟨_,rfl⟩
  try rw [hW0]
  rw [hW0] at HS0
  clear hW0
  refine till_take 0 (v:=.string t) (some 11) rfl rfl rfl (by kernel_rfl) (by kernel_rfl) (by kernel_rfl) (by kernel_rfl) (fun _ _ _ h=>h) (Or.inl ⟨by rfl,fun u hu=>by obtain⟨x0,x1,x2,x3,x4,x5,x6,x7,x8,x9⟩:=unhide HF u ((unhide H12).trans (hu.mono (unhide H12).size));obtain⟨z0,z1,z2,z3,z4,z5,z6,z7,z8,z9⟩:=unhide HK u ((unhide H12).trans (hu.mono (unhide H12).size));go_simp⟩) (unhide HS0) ?_
  try simp only [Act.put,List.setIfInBounds_toArray,List.set_cons_zero,List.set_cons_succ]
  refine till_take 1 (v:=.string K2) (some 12) rfl rfl rfl (by kernel_rfl) (by kernel_rfl) (by kernel_rfl) (by kernel_rfl) (fun _ _ _ h=>h) (Or.inl ⟨by rfl,fun u hu=>by obtain⟨x0,x1,x2,x3,x4,x5,x6,x7,x8,x9⟩:=unhide HF u ((unhide H12).trans (hu.mono (unhide H12).size));obtain⟨z0,z1,z2,z3,z4,z5,z6,z7,z8,z9⟩:=unhide HK u ((unhide H12).trans (hu.mono (unhide H12).size));have hK2:=unhide HK2;go_simp⟩) (unhide HS0) ?_
  try simp only [Act.put,List.setIfInBounds_toArray,List.set_cons_zero,List.set_cons_succ]
  refine till_take 3 (v:=.pointer (some ⟨G,8,none⟩)) (some 14) rfl rfl rfl (by kernel_rfl) (by kernel_rfl) (by kernel_rfl) (by kernel_rfl) (fun _ _ _ h=>h) (Or.inl ⟨by rfl,fun u hu=>by obtain⟨x0,x1,x2,x3,x4,x5,x6,x7,x8,x9⟩:=unhide HF u ((unhide H12).trans (hu.mono (unhide H12).size));obtain⟨z0,z1,z2,z3,z4,z5,z6,z7,z8,z9⟩:=unhide HK u ((unhide H12).trans (hu.mono (unhide H12).size));go_simp⟩) (unhide HS0) ?_
  try simp only [Act.put,List.setIfInBounds_toArray,List.set_cons_zero,List.set_cons_succ]
  refine till_take 4 (v:=.slice (some b) n cc) (some 15) rfl rfl rfl (by kernel_rfl) (by kernel_rfl) (by kernel_rfl) (by kernel_rfl) (fun _ _ _ h=>h) (Or.inl ⟨by rfl,fun u hu=>by obtain⟨x0,x1,x2,x3,x4,x5,x6,x7,x8,x9⟩:=unhide HF u ((unhide H12).trans (hu.mono (unhide H12).size));obtain⟨z0,z1,z2,z3,z4,z5,z6,z7,z8,z9⟩:=unhide HK u ((unhide H12).trans (hu.mono (unhide H12).size));go_simp⟩) (unhide HS0) ?_
  try simp only [Act.put,List.setIfInBounds_toArray,List.set_cons_zero,List.set_cons_succ]
  refine till_take 5 (v:=.pointer (some b)) (some 16) rfl rfl rfl (by kernel_rfl) (by kernel_rfl) (by kernel_rfl) (by kernel_rfl) (fun _ _ _ h=>h) (Or.inl ⟨by rfl,fun u hu=>by obtain⟨x0,x1,x2,x3,x4,x5,x6,x7,x8,x9⟩:=unhide HF u ((unhide H12).trans (hu.mono (unhide H12).size));obtain⟨z0,z1,z2,z3,z4,z5,z6,z7,z8,z9⟩:=unhide HK u ((unhide H12).trans (hu.mono (unhide H12).size));go_simp;intro hz;omega⟩) (unhide HS0) ?_
  try simp only [Act.put,List.setIfInBounds_toArray,List.set_cons_zero,List.set_cons_succ]
  refine till_take 6 (v:=.agg #[.int .i64 ky,.string ty,.int .i64 vky,.int .i64 vny,.string vsy,.slice aly lly cly,.slice aky lky cky,.bool fy,.slice ay ny ccy,.int .i64 py]) (some 17) rfl rfl rfl (by kernel_rfl) (by kernel_rfl) (by kernel_rfl) (by kernel_rfl) (fun _ _ _ h=>h) (Or.inl ⟨by rfl,fun u hu=>by obtain⟨x0,x1,x2,x3,x4,x5,x6,x7,x8,x9⟩:=unhide HF u ((unhide H12).trans (hu.mono (unhide H12).size));obtain⟨z0,z1,z2,z3,z4,z5,z6,z7,z8,z9⟩:=unhide HK u ((unhide H12).trans (hu.mono (unhide H12).size));go_simp⟩) (unhide HS0) ?_
  try simp only [Act.put,List.setIfInBounds_toArray,List.set_cons_zero,List.set_cons_succ]
  refine till_one 2 (by kernel_rfl) rfl (fun K hK=>?_)
  go_simp
  refine(txw_any B0 K2 W0).mono ?_
  rintro e W1 ⟨t1,rfl,h,bb⟩
  have h0:=h
  obtain⟨F1,p1,rfl,-,-⟩:=h0
  have HT1_1:=hide h
  have HS1:=hide ((unhide HS0).trans (bb.mono (unhide HS0).size))
  clear bb h
  go_wp2_with fail
  refine hK.out _ _ (Or.inr (unhide HS1)) ?_
  clear hK K HS0
  try simp only [Act.put,List.setIfInBounds_toArray,List.set_cons_zero,List.set_cons_succ]
  refine till_one 7 (by kernel_rfl) rfl (fun K hK=>?_)
  go_simp
  refine((unhide CE) W1 ((unhide H12).trans ((unhide HS1).mono (unhide H12).size))).mono ?_
  rintro e W2 ⟨t2,rfl,h,bb⟩
  have h0:=h
  obtain⟨F2,p2,rfl,-,-⟩:=h0
  have HT2_2:=hide h
  have HS2:=hide ((unhide HS1).trans (bb.mono (unhide HS1).size))
  have HT1_2:=hide ((unhide HT1_1).later (Kp.below bb (Nat.le_trans (unhide HBB) (unhide HS1).size)))
  clear bb h HT1_1
  go_wp2_with fail
  refine hK.out _ _ (Or.inr (unhide HS2)) ?_
  clear hK K HS1
  try simp only [Act.put,List.setIfInBounds_toArray,List.set_cons_zero,List.set_cons_succ]
  obtain⟨W3,hW3⟩:∃W,W2.alloc (.cells #[.func (.func F1) #[] p1,.func (.func F2) #[] p2] 39)=W:=⟨_,rfl⟩
  obtain⟨q,hq⟩:∃q,W2.heap.size=q:=⟨_,rfl⟩
  have bb:Below W2.heap.size W2 W3:=by rw [←hW3];exact(Below.refl _ _).alloc (Nat.le_refl _) _
  have HX3:=hide (show Txs B0 W3 q _ from txs2 (by rw [←hW3,←hq];exact heap_alloc_new _ _) ((unhide HT1_2).later (Kp.below bb (Nat.le_trans (unhide HBB) (unhide HS2).size))) ((unhide HT2_2).later (Kp.below bb (Nat.le_trans (unhide HBB) (unhide HS2).size))))
  have HS3:=hide ((unhide HS2).trans (bb.mono (unhide HS2).size))
  clear bb HT1_2 HT2_2
  refine till_one 8 (by kernel_rfl) rfl (fun K hK=>?_)
  go_simp
  try rw [hW3]
  try rw [hq]
  refine hK.out _ _ (Or.inr (unhide HS3)) ?_
  clear hK K HS2 hW3 hq
  try simp only [Act.put,List.setIfInBounds_toArray,List.set_cons_zero,List.set_cons_succ]
  refine till_one 9 (by kernel_rfl) rfl (fun K hK=>?_)
  go_simp
  refine(row_any B0 q 2 2 _ W3 (Nat.le_trans (unhide HBB) (unhide HS3).size) (unhide HX3) rfl (by decide)).mono ?_
  rintro e W4 ⟨tr,rfl,h,bb⟩
  have h0:=h
  obtain⟨Fr,pr,rfl,-,-⟩:=h0
  have HT:=hide h
  have HS4:=hide ((unhide HS3).trans (bb.mono (unhide HS3).size))
  clear bb h HX3
  go_wp2_with fail
  refine hK.out _ _ (Or.inr (unhide HS4)) ?_
  clear hK K HS3
  try simp only [Act.put,List.setIfInBounds_toArray,List.set_cons_zero,List.set_cons_succ]
  refine till_one 10 (by kernel_rfl) rfl (fun K hK=>?_)
  go_simp
  refine hK.out _ _ (Or.inl (by first|rfl|trivial)) ?_
  clear hK K
  try simp only [Act.put,List.setIfInBounds_toArray,List.set_cons_zero,List.set_cons_succ]
  refine till_done (by kernel_rfl) ?_ _
  go_wp2_with fail
  go_ret
  refine⟨_,rfl,?_,?_⟩
  ·have h1:=unhide HT
   rw [←unhide HR]
   have e:(ex1 20 t v ks (exM ks))=([K2.data.toList,Z]:List (List UInt8)).flatten:=by rw [unhide HD2];have hh:=unhide HD1;have hy:=unhide HY;simp only [ex1,unhide HQ];simp [hy,unhide HQ] at hh ⊢;try rw [hh]
   rw [e]
   exact h1
  ·have:=((unhide HM) _ ((unhide H12).trans ((unhide HS4).mono (unhide H12).size))).2.2.1
   first|exact this|(rw [hG];exact this)
 |false=>
  have CQ:=hide (quoteL_any t (by have:=unhide HSZ;omega) w2)
  have hq1:(quoB t.data.toList).length≤2+4 * t.size:=by
   have h1:=flatB_len t.data.toList
   have h2:t.data.toList.length=t.size:=rfl
   simp only [quoB,List.cons_append,List.length_cons,List.length_append,List.length_nil]
   omega
  obtain⟨K,hK⟩:∃K,bA (quoB t.data.toList)=K:=⟨_,rfl⟩
  rw [hK] at CQ
  have HD1:=hide (show K.data.toList=(if nameL t.data.toList=true then t.data.toList else quoB t.data.toList) by rw [unhide HQ,←hK,bA_data];rfl)
  have hks:K.size≤130:=by
   rw [←hK]
   have h2:(bA (quoB t.data.toList)).size=(quoB t.data.toList).length:=by show (bA _).data.toList.length=_;rw [bA_data]
   have:=unhide HSZ
   omega
  clear hq1 hK
  go_wp2_with fail
  refine(unhide CQ).mono ?_
  rintro e w3 ⟨rfl,b3⟩
  have H13:=hide ((unhide H12).trans (b3.mono (unhide H12).size))
  clear b3 CQ
  have hz1:¬9223372036854775807<K.size+2:=by omega
  obtain⟨K2,hK2⟩:∃z,(K++⟨#[58,32]⟩:ByteArray)=z:=⟨_,rfl⟩
  have HD2:=hide (show K2.data.toList=K.data.toList++[58,32] by rw [←hK2];simp)
  have HK2:=hide hK2
  clear hK2 hks
  have HBB:=hide (show B0≤w3.heap.size from Nat.le_trans (unhide HB) (unhide H13).size)
  go_upto_region 4 with fail
  have HS0:Hid (Below w3.heap.size w3 w3.drew):=hide ((Below.refl _ _).drew)
  refine till_begin (S:=fun w'=>Below w3.heap.size w3 w') 10 (by kernel_rfl) ?_
  obtain⟨W0,hW0⟩:∃W0,w3.drew=W0:=⟨_,rfl⟩
  try rw [hW0]
  rw [hW0] at HS0
  clear hW0
  refine till_take 0 (v:=.string K) (some 11) rfl rfl rfl (by kernel_rfl) (by kernel_rfl) (by kernel_rfl) (by kernel_rfl) (fun _ _ _ h=>h) (Or.inl ⟨by rfl,fun u hu=>by obtain⟨x0,x1,x2,x3,x4,x5,x6,x7,x8,x9⟩:=unhide HF u ((unhide H13).trans (hu.mono (unhide H13).size));obtain⟨z0,z1,z2,z3,z4,z5,z6,z7,z8,z9⟩:=unhide HK u ((unhide H13).trans (hu.mono (unhide H13).size));go_simp⟩) (unhide HS0) ?_
  try simp only [Act.put,List.setIfInBounds_toArray,List.set_cons_zero,List.set_cons_succ]
  refine till_take 1 (v:=.string K2) (some 12) rfl rfl rfl (by kernel_rfl) (by kernel_rfl) (by kernel_rfl) (by kernel_rfl) (fun _ _ _ h=>h) (Or.inl ⟨by rfl,fun u hu=>by obtain⟨x0,x1,x2,x3,x4,x5,x6,x7,x8,x9⟩:=unhide HF u ((unhide H13).trans (hu.mono (unhide H13).size));obtain⟨z0,z1,z2,z3,z4,z5,z6,z7,z8,z9⟩:=unhide HK u ((unhide H13).trans (hu.mono (unhide H13).size));have hK2:=unhide HK2;go_simp⟩) (unhide HS0) ?_
  try simp only [Act.put,List.setIfInBounds_toArray,List.set_cons_zero,List.set_cons_succ]
  refine till_take 3 (v:=.pointer (some ⟨G,8,none⟩)) (some 14) rfl rfl rfl (by kernel_rfl) (by kernel_rfl) (by kernel_rfl) (by kernel_rfl) (fun _ _ _ h=>h) (Or.inl ⟨by rfl,fun u hu=>by obtain⟨x0,x1,x2,x3,x4,x5,x6,x7,x8,x9⟩:=unhide HF u ((unhide H13).trans (hu.mono (unhide H13).size));obtain⟨z0,z1,z2,z3,z4,z5,z6,z7,z8,z9⟩:=unhide HK u ((unhide H13).trans (hu.mono (unhide H13).size));go_simp⟩) (unhide HS0) ?_
  try simp only [Act.put,List.setIfInBounds_toArray,List.set_cons_zero,List.set_cons_succ]
  refine till_take 4 (v:=.slice (some b) n cc) (some 15) rfl rfl rfl (by kernel_rfl) (by kernel_rfl) (by kernel_rfl) (by kernel_rfl) (fun _ _ _ h=>h) (Or.inl ⟨by rfl,fun u hu=>by obtain⟨x0,x1,x2,x3,x4,x5,x6,x7,x8,x9⟩:=unhide HF u ((unhide H13).trans (hu.mono (unhide H13).size));obtain⟨z0,z1,z2,z3,z4,z5,z6,z7,z8,z9⟩:=unhide HK u ((unhide H13).trans (hu.mono (unhide H13).size));go_simp⟩) (unhide HS0) ?_
  try simp only [Act.put,List.setIfInBounds_toArray,List.set_cons_zero,List.set_cons_succ]
  refine till_take 5 (v:=.pointer (some b)) (some 16) rfl rfl rfl (by kernel_rfl) (by kernel_rfl) (by kernel_rfl) (by kernel_rfl) (fun _ _ _ h=>h) (Or.inl ⟨by rfl,fun u hu=>by obtain⟨x0,x1,x2,x3,x4,x5,x6,x7,x8,x9⟩:=unhide HF u ((unhide H13).trans (hu.mono (unhide H13).size));obtain⟨z0,z1,z2,z3,z4,z5,z6,z7,z8,z9⟩:=unhide HK u ((unhide H13).trans (hu.mono (unhide H13).size));go_simp;intro hz;omega⟩) (unhide HS0) ?_
  try simp only [Act.put,List.setIfInBounds_toArray,List.set_cons_zero,List.set_cons_succ]
  refine till_take 6 (v:=.agg #[.int .i64 ky,.string ty,.int .i64 vky,.int .i64 vny,.string vsy,.slice aly lly cly,.slice aky lky cky,.bool fy,.slice ay ny ccy,.int .i64 py]) (some 17) rfl rfl rfl (by kernel_rfl) (by kernel_rfl) (by kernel_rfl) (by kernel_rfl) (fun _ _ _ h=>h) (Or.inl ⟨by rfl,fun u hu=>by obtain⟨x0,x1,x2,x3,x4,x5,x6,x7,x8,x9⟩:=unhide HF u ((unhide H13).trans (hu.mono (unhide H13).size));obtain⟨z0,z1,z2,z3,z4,z5,z6,z7,z8,z9⟩:=unhide HK u ((unhide H13).trans (hu.mono (unhide H13).size));go_simp⟩) (unhide HS0) ?_
  try simp only [Act.put,List.setIfInBounds_toArray,List.set_cons_zero,List.set_cons_succ]
  refine till_one 2 (by kernel_rfl) rfl (fun K hK=>?_)
  go_simp
  refine(txw_any B0 K2 W0).mono ?_
  rintro e W1 ⟨t1,rfl,h,bb⟩
  have h0:=h
  obtain⟨F1,p1,rfl,-,-⟩:=h0
  have HT1_1:=hide h
  have HS1:=hide ((unhide HS0).trans (bb.mono (unhide HS0).size))
  clear bb h
  go_wp2_with fail
  refine hK.out _ _ (Or.inr (unhide HS1)) ?_
  clear hK K HS0
  try simp only [Act.put,List.setIfInBounds_toArray,List.set_cons_zero,List.set_cons_succ]
  refine till_one 7 (by kernel_rfl) rfl (fun K hK=>?_)
  go_simp
  refine((unhide CE) W1 ((unhide H13).trans ((unhide HS1).mono (unhide H13).size))).mono ?_
  rintro e W2 ⟨t2,rfl,h,bb⟩
  have h0:=h
  obtain⟨F2,p2,rfl,-,-⟩:=h0
  have HT2_2:=hide h
  have HS2:=hide ((unhide HS1).trans (bb.mono (unhide HS1).size))
  have HT1_2:=hide ((unhide HT1_1).later (Kp.below bb (Nat.le_trans (unhide HBB) (unhide HS1).size)))
  clear bb h HT1_1
  go_wp2_with fail
  refine hK.out _ _ (Or.inr (unhide HS2)) ?_
  clear hK K HS1
  try simp only [Act.put,List.setIfInBounds_toArray,List.set_cons_zero,List.set_cons_succ]
  obtain⟨W3,hW3⟩:∃W,W2.alloc (.cells #[.func (.func F1) #[] p1,.func (.func F2) #[] p2] 39)=W:=⟨_,rfl⟩
  obtain⟨q,hq⟩:∃q,W2.heap.size=q:=⟨_,rfl⟩
  have bb:Below W2.heap.size W2 W3:=by rw [←hW3];exact(Below.refl _ _).alloc (Nat.le_refl _) _
  have HX3:=hide (show Txs B0 W3 q _ from txs2 (by rw [←hW3,←hq];exact heap_alloc_new _ _) ((unhide HT1_2).later (Kp.below bb (Nat.le_trans (unhide HBB) (unhide HS2).size))) ((unhide HT2_2).later (Kp.below bb (Nat.le_trans (unhide HBB) (unhide HS2).size))))
  have HS3:=hide ((unhide HS2).trans (bb.mono (unhide HS2).size))
  clear bb HT1_2 HT2_2
  refine till_one 8 (by kernel_rfl) rfl (fun K hK=>?_)
  go_simp
  try rw [hW3]
  try rw [hq]
  refine hK.out _ _ (Or.inr (unhide HS3)) ?_
  clear hK K HS2 hW3 hq
  try simp only [Act.put,List.setIfInBounds_toArray,List.set_cons_zero,List.set_cons_succ]
  refine till_one 9 (by kernel_rfl) rfl (fun K hK=>?_)
  go_simp
  refine(row_any B0 q 2 2 _ W3 (Nat.le_trans (unhide HBB) (unhide HS3).size) (unhide HX3) rfl (by decide)).mono ?_
  rintro e W4 ⟨tr,rfl,h,bb⟩
  have h0:=h
  obtain⟨Fr,pr,rfl,-,-⟩:=h0
  have HT:=hide h
  have HS4:=hide ((unhide HS3).trans (bb.mono (unhide HS3).size))
  clear bb h HX3
  go_wp2_with fail
  refine hK.out _ _ (Or.inr (unhide HS4)) ?_
  clear hK K HS3
  try simp only [Act.put,List.setIfInBounds_toArray,List.set_cons_zero,List.set_cons_succ]
  refine till_one 10 (by kernel_rfl) rfl (fun K hK=>?_)
  go_simp
  refine hK.out _ _ (Or.inl (by first|rfl|trivial)) ?_
  clear hK K
  try simp only [Act.put,List.setIfInBounds_toArray,List.set_cons_zero,List.set_cons_succ]
  refine till_done (by kernel_rfl) ?_ _
  go_wp2_with fail
  go_ret
  refine⟨_,rfl,?_,?_⟩
  ·have h1:=unhide HT
   rw [←unhide HR]
   have e:(ex1 20 t v ks (exM ks))=([K2.data.toList,Z]:List (List UInt8)).flatten:=by rw [unhide HD2];have hh:=unhide HD1;have hy:=unhide HY;simp only [ex1,unhide HQ];simp [hy,unhide HQ] at hh ⊢;try rw [hh]
   rw [e]
   exact h1
  ·have:=((unhide HM) _ ((unhide H13).trans ((unhide HS4).mono (unhide H13).size))).2.2.1
   first|exact this|(rw [hG];exact this)
end Go.Proofs.YtekbmfppfjlboaaGreatDoor
