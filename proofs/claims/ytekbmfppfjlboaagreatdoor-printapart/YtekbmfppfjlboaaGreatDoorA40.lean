/-
  Layer 18 (print): a line of a block is written; conditions: the nodes lie in memory.
  Layer 18 (print): a block is written; conditions: the nodes lie in memory.
  Layer 18 (print): statements are written; conditions: the nodes lie in memory.
-/
import Derived.Test.YtekbmfppfjlboaaGreatDoorA39
set_option linter.unusedVariables false
set_option linter.unusedSimpArgs false
namespace Go.Proofs.YtekbmfppfjlboaaGreatDoor
open Go.RowKit
set_option linter.unusedVariables false
set_option linter.unusedSimpArgs false
def TbC:Prop:=∀(c:Nat) (w:World),c≤1000000→Calls Tryz.prog 99 #[.string ⟨#[9]⟩,.int .i64 c] w fun e w'=>∃s:ByteArray,e=.returned (.string s)∧s.data.toList=List.replicate c 9∧Below w.heap.size w w'
def StC (B0:Nat) (d:Int) (T:Tn→List UInt8) (y:Tn):Prop:=∀(x:List Value) (u:World),B0≤u.heap.size→0<B0→PowAt u→IsN u (fun b=>b<B0) y x→Calls Tryz.prog 100 #[.agg x.toArray,.int .i64 d] u fun e u'=>∃t,e=.returned t∧Txt B0 u' t (T y)∧Below u.heap.size u u'
def lineT (d:Nat) (T:Tn→List UInt8) (y:Tn):List UInt8:=List.replicate d 9++(T y++[10])
set_option maxRecDepth 100000 in
set_option maxHeartbeats 4000000 in
theorem line_any (B0 H d:Nat) (T:Tn→List UInt8) (y:Tn) (x:List Value) (w:World) (hB:B0≤w.heap.size) (hG0:0<B0) (hP:PowAt w) (hx:IsN w (fun b=>b<B0) y x) (hH:w.heap[H]?=some (.cells #[.int .i64 (d:Int)] 3 (0,0))) (hS:StC B0 d T y) (hd:d≤1000000) (RC:TbC) :
  Calls Tryz.prog 98 #[.agg x.toArray,.pointer (some ⟨H,0,none⟩)] w fun e w'=>∃t,e=.returned t∧Txt B0 w' t (lineT d T y)∧Below w.heap.size w w':=by
 obtain⟨vk,vn,vs,al,ak,a,ll,cl,lk,ck,cc,rfl,_⟩:=hx.opn
 obtain⟨k,hk⟩:∃z,y.k=z:=⟨_,rfl⟩
 obtain⟨t,ht⟩:∃z,y.t=z:=⟨_,rfl⟩
 obtain⟨f,hf⟩:∃z,y.f=z:=⟨_,rfl⟩
 obtain⟨p,hp⟩:∃z,y.p=z:=⟨_,rfl⟩
 obtain⟨n,hn⟩:∃z,y.ks.length=z:=⟨_,rfl⟩
 rw [hk,ht,hf,hp,hn] at hx ⊢
 obtain⟨w1,hw1⟩:∃w1,w.alloc (.cells #[.int .i64 k,.string t,.int .i64 vk,.int .i64 vn,.string vs,.slice al ll cl,.slice ak lk ck,.bool f,.slice a n cc,.int .i64 p] 28)=w1:=⟨_,rfl⟩
 obtain⟨G,hG⟩:∃G,w.heap.size=G:=⟨_,rfl⟩
 have A1:w1.heap[G]?=some (.cells #[.int .i64 k,.string t,.int .i64 vk,.int .i64 vn,.string vs,.slice al ll cl,.slice ak lk ck,.bool f,.slice a n cc,.int .i64 p] 28 (0,0)):=by rw [←hw1,←hG];exact heap_alloc_new _ _
 have X1:Below G w w1:=by rw [←hw1,←hG];exact(Below.refl _ _).alloc (Nat.le_refl _) _
 have hBG:B0≤G:=by rw [←hG];exact hB
 have hHG:H<G:=by rw [←hG];exact(Array.getElem?_eq_some_iff.1 hH).1
 have hs1:G<w1.heap.size:=lt_of_row A1
 have HM:Hid (∀u,Below w1.heap.size w1 u→Below G w u):=hide (fun u h=>X1.trans (h.mono (Nat.le_of_lt hs1)))
 have HF:Hid (∀u,Below w1.heap.size w1 u→u.cell? ⟨G,0,none⟩=some (.int .i64 k)∧u.cell? ⟨G,1,none⟩=some (.string t)∧u.cell? ⟨G,2,none⟩=some (.int .i64 vk)∧u.cell? ⟨G,3,none⟩=some (.int .i64 vn)∧u.cell? ⟨G,4,none⟩=some (.string vs)∧u.cell? ⟨G,5,none⟩=some (.slice al ll cl)∧u.cell? ⟨G,6,none⟩=some (.slice ak lk ck)∧u.cell? ⟨G,7,none⟩=some (.bool f)∧u.cell? ⟨G,8,none⟩=some (.slice a n cc)∧u.cell? ⟨G,9,none⟩=some (.int .i64 p)∧u.cell? ⟨H,0,none⟩=some (.int .i64 (d:Int))):=hide (fun u hu=>by
  obtain⟨x0,x1,x2,x3,x4,x5,x6,x7,x8,x9⟩:=row_ten (Below.cellsAt hu A1)
  exact⟨x0,x1,x2,x3,x4,x5,x6,x7,x8,x9,(cell_of_row u H 0 _ _ (0,0) (((X1.trans (hu.mono (Nat.le_of_lt hs1))).block H hHG).trans hH)).trans rfl⟩)
 have HB:=hide (show B0≤w1.heap.size from Nat.le_trans hBG (Nat.le_of_lt hs1))
 have CE:Hid (∀u,Below w1.heap.size w1 u→Calls Tryz.prog 100 #[.agg #[.int .i64 k,.string t,.int .i64 vk,.int .i64 vn,.string vs,.slice al ll cl,.slice ak lk ck,.bool f,.slice a n cc,.int .i64 p],.int .i64 (d:Int)] u fun e u'=>∃t,e=.returned t∧Txt B0 u' t (T y)∧Below u.heap.size u u'):=hide (fun u hu=>by
  have h1:=X1.trans (hu.mono (Nat.le_of_lt hs1))
  exact hS _ u (Nat.le_trans hBG (Nat.le_trans (Nat.le_of_lt hs1) hu.size)) hG0 (hP.later h1 (by omega)) (hx.laterB (h1.mono hBG)))
 have CRp:Hid (∀u:World,Calls Tryz.prog 99 #[.string ⟨#[9]⟩,.int .i64 (d:Int)] u fun e w'=>∃s:ByteArray,e=.returned (.string s)∧s.data.toList=List.replicate d 9∧Below u.heap.size u w'):=hide (fun u=>RC d u hd)
 obtain⟨Z,hZ⟩:∃Z,T y=Z:=⟨_,rfl⟩
 rw [hZ] at CE
 have HR:=hide hZ
 have HW:=hide hw1
 clear A1 X1 hw1 hBG hB hx hH hG0 hP hS hd RC hHG hs1 hk ht hf hp hn hZ
 go_enter Tryz.func98,Tryz.ntmps98
 go_upto_region 1 with fail
 rw [unhide HW]
 try rw [hG]
 clear HW
 have HS0:Hid (Below w1.heap.size w1 w1.drew):=hide ((Below.refl _ _).drew)
 refine till_begin (S:=fun w'=>Below w1.heap.size w1 w') 9 (by kernel_rfl) ?_
 obtain⟨W0,hW0⟩:∃W0,w1.drew=W0:=⟨_,rfl⟩
 try rw [hW0]
 rw [hW0] at HS0
 clear hW0
 refine till_take 0 (v:=.int .i64 (d:Int)) (some 4) rfl rfl rfl (by kernel_rfl) (by kernel_rfl) (by kernel_rfl) (by kernel_rfl) (fun _ _ _ h=>h) (Or.inl ⟨by rfl,fun u hu=>by obtain⟨x0,x1,x2,x3,x4,x5,x6,x7,x8,x9,hh⟩:=unhide HF u hu;go_simp⟩) (unhide HS0) ?_
 try simp only [Act.put,List.setIfInBounds_toArray,List.set_cons_zero,List.set_cons_succ]
 refine till_take 3 (v:=.agg #[.int .i64 k,.string t,.int .i64 vk,.int .i64 vn,.string vs,.slice al ll cl,.slice ak lk ck,.bool f,.slice a n cc,.int .i64 p]) (some 7) rfl rfl rfl (by kernel_rfl) (by kernel_rfl) (by kernel_rfl) (by kernel_rfl) (fun _ _ _ h=>h) (Or.inl ⟨by rfl,fun u hu=>by obtain⟨x0,x1,x2,x3,x4,x5,x6,x7,x8,x9,hh⟩:=unhide HF u hu;go_simp⟩) (unhide HS0) ?_
 try simp only [Act.put,List.setIfInBounds_toArray,List.set_cons_zero,List.set_cons_succ]
 refine till_take 4 (v:=.int .i64 (d:Int)) (some 8) rfl rfl rfl (by kernel_rfl) (by kernel_rfl) (by kernel_rfl) (by kernel_rfl) (fun _ _ _ h=>h) (Or.inl ⟨by rfl,fun u hu=>by obtain⟨x0,x1,x2,x3,x4,x5,x6,x7,x8,x9,hh⟩:=unhide HF u hu;go_simp⟩) (unhide HS0) ?_
 try simp only [Act.put,List.setIfInBounds_toArray,List.set_cons_zero,List.set_cons_succ]
 refine till_one 1 (by kernel_rfl) rfl (fun K hK=>?_)
 go_simp
 refine((unhide CRp) W0).mono ?_
 rintro e W1 ⟨S7,rfl,hs,bb⟩
 have HS1:=hide ((unhide HS0).trans (bb.mono (unhide HS0).size))
 have HD7:=hide hs
 clear bb hs
 go_wp2_with fail
 refine hK.out _ _ (Or.inr (unhide HS1)) ?_
 clear hK K HS0
 try simp only [Act.put,List.setIfInBounds_toArray,List.set_cons_zero,List.set_cons_succ]
 refine till_one 2 (by kernel_rfl) rfl (fun K hK=>?_)
 go_simp
 refine(txw_any B0 S7 W1).mono ?_
 rintro e W2 ⟨t1,rfl,h,bb⟩
 have h0:=h
 obtain⟨F1,p1,rfl,-,-⟩:=h0
 have HT1_2:=hide h
 have HS2:=hide ((unhide HS1).trans (bb.mono (unhide HS1).size))
 clear bb h
 go_wp2_with fail
 refine hK.out _ _ (Or.inr (unhide HS2)) ?_
 clear hK K HS1
 try simp only [Act.put,List.setIfInBounds_toArray,List.set_cons_zero,List.set_cons_succ]
 refine till_one 5 (by kernel_rfl) rfl (fun K hK=>?_)
 go_simp
 refine((unhide CE) W2 (unhide HS2)).mono ?_
 rintro e W3 ⟨t2,rfl,h,bb⟩
 have h0:=h
 obtain⟨F2,p2,rfl,-,-⟩:=h0
 have HT2_3:=hide h
 have HS3:=hide ((unhide HS2).trans (bb.mono (unhide HS2).size))
 have HT1_3:=hide ((unhide HT1_2).later (Kp.below bb (Nat.le_trans (unhide HB) (unhide HS2).size)))
 clear bb h HT1_2
 go_wp2_with fail
 refine hK.out _ _ (Or.inr (unhide HS3)) ?_
 clear hK K HS2
 try simp only [Act.put,List.setIfInBounds_toArray,List.set_cons_zero,List.set_cons_succ]
 refine till_one 6 (by kernel_rfl) rfl (fun K hK=>?_)
 go_simp
 refine(txw_any B0 ⟨#[10]⟩ W3).mono ?_
 rintro e W4 ⟨t3,rfl,h,bb⟩
 have h0:=h
 obtain⟨F3,p3,rfl,-,-⟩:=h0
 have HT3_4:=hide h
 have HS4:=hide ((unhide HS3).trans (bb.mono (unhide HS3).size))
 have HT1_4:=hide ((unhide HT1_3).later (Kp.below bb (Nat.le_trans (unhide HB) (unhide HS3).size)))
 have HT2_4:=hide ((unhide HT2_3).later (Kp.below bb (Nat.le_trans (unhide HB) (unhide HS3).size)))
 clear bb h HT1_3 HT2_3
 go_wp2_with fail
 refine hK.out _ _ (Or.inr (unhide HS4)) ?_
 clear hK K HS3
 try simp only [Act.put,List.setIfInBounds_toArray,List.set_cons_zero,List.set_cons_succ]
 obtain⟨W5,hW5⟩:∃W,W4.alloc (.cells #[.func (.func F1) #[] p1,.func (.func F2) #[] p2,.func (.func F3) #[] p3] 39)=W:=⟨_,rfl⟩
 obtain⟨q,hq⟩:∃q,W4.heap.size=q:=⟨_,rfl⟩
 have bb:Below W4.heap.size W4 W5:=by rw [←hW5];exact(Below.refl _ _).alloc (Nat.le_refl _) _
 have HX5:=hide (show Txs B0 W5 q _ from txs3 (by rw [←hW5,←hq];exact heap_alloc_new _ _) ((unhide HT1_4).later (Kp.below bb (Nat.le_trans (unhide HB) (unhide HS4).size))) ((unhide HT2_4).later (Kp.below bb (Nat.le_trans (unhide HB) (unhide HS4).size))) ((unhide HT3_4).later (Kp.below bb (Nat.le_trans (unhide HB) (unhide HS4).size))))
 have HS5:=hide ((unhide HS4).trans (bb.mono (unhide HS4).size))
 clear bb HT1_4 HT2_4 HT3_4
 refine till_one 7 (by kernel_rfl) rfl (fun K hK=>?_)
 go_simp
 try rw [hW5]
 try rw [hq]
 refine hK.out _ _ (Or.inr (unhide HS5)) ?_
 clear hK K HS4 hW5 hq
 try simp only [Act.put,List.setIfInBounds_toArray,List.set_cons_zero,List.set_cons_succ]
 refine till_one 8 (by kernel_rfl) rfl (fun K hK=>?_)
 go_simp
 refine(row_any B0 q 3 3 _ W5 (Nat.le_trans (unhide HB) (unhide HS5).size) (unhide HX5) rfl (by decide)).mono ?_
 rintro e W6 ⟨tr,rfl,h,bb⟩
 have h0:=h
 obtain⟨Fr,pr,rfl,-,-⟩:=h0
 have HT:=hide h
 have HS6:=hide ((unhide HS5).trans (bb.mono (unhide HS5).size))
 clear bb h HX5
 go_wp2_with fail
 refine hK.out _ _ (Or.inr (unhide HS6)) ?_
 clear hK K HS5
 try simp only [Act.put,List.setIfInBounds_toArray,List.set_cons_zero,List.set_cons_succ]
 refine till_one 9 (by kernel_rfl) rfl (fun K hK=>?_)
 go_simp
 refine hK.out _ _ (Or.inl (by first|rfl|trivial)) ?_
 clear hK K
 try simp only [Act.put,List.setIfInBounds_toArray,List.set_cons_zero,List.set_cons_succ]
 refine till_done (by kernel_rfl) ?_ _
 go_wp2_with fail
 go_ret
 refine⟨_,rfl,?_,?_⟩
 ·have h1:=unhide HT
  have e:lineT d T y=([S7.data.toList,Z,[10]]:List (List UInt8)).flatten:=by unfold lineT;rw [unhide HR,unhide HD7];simp
  rw [e]
  exact h1
 ·have:=(unhide HM) _ (unhide HS6)
  first|exact this|(rw [hG];exact this)
def blkT (d:Nat) (T:Tn→List UInt8) (ks:List Tn):List UInt8:=([123,10]:List UInt8)++(jl [] true (ks.map (lineT d T))++(List.replicate (d - 1) 9++[125]))
theorem call_line (x:Array Value) (u:World):Sem.run Tryz.prog (callFunc 98 x) u=.ok (.enter 98 x) u:=by kernel_rfl
set_option maxRecDepth 100000 in
set_option maxHeartbeats 4000000 in
theorem block_any (B0 d:Nat) (T:Tn→List UInt8) (y:Tn) (x:List Value) (w:World) (hB:B0≤w.heap.size) (hG0:0<B0) (hP:PowAt w) (hx:IsN w (fun b=>b<B0) y x) (hS:∀z∈y.ks,StC B0 d T z) (hd:d≤1000000) (hd1:1≤d) (RC:TbC) :
  Calls Tryz.prog 69 #[.agg x.toArray,.int .i64 (d:Int)] w fun e w'=>∃t,e=.returned t∧Txt B0 w' t (blkT d T y.ks)∧Below w.heap.size w w':=by
 obtain⟨vk,vn,vs,al,ak,a,ll,cl,lk,ck,cc,rfl,hv,hr,_⟩:=hx.opn
 obtain⟨k,t,v,f,ks,p⟩:=y
 simp only at hx hr hS ⊢
 obtain⟨n,hn⟩:∃z,ks.length=z:=⟨_,rfl⟩
 rw [hn] at hx ⊢
 obtain⟨w1,hw1⟩:∃w1,w.alloc (.cells #[.int .i64 k,.string t,.int .i64 vk,.int .i64 vn,.string vs,.slice al ll cl,.slice ak lk ck,.bool f,.slice a n cc,.int .i64 p] 28)=w1:=⟨_,rfl⟩
 obtain⟨w2,hw2⟩:∃w2,w1.alloc (.cells #[.int .i64 (d:Int)] 3)=w2:=⟨_,rfl⟩
 obtain⟨G,hG⟩:∃G,w.heap.size=G:=⟨_,rfl⟩
 have z1:w1.heap.size=G+1:=by rw [←hw1];simp [hG]
 have z2:w2.heap.size=G+2:=by rw [←hw2];simp [z1]
 have b2:Below w1.heap.size w1 w2:=by rw [←hw2];exact(Below.refl _ _).alloc (Nat.le_refl _) _
 have A1:w2.heap[G]?=some (.cells #[.int .i64 k,.string t,.int .i64 vk,.int .i64 vn,.string vs,.slice al ll cl,.slice ak lk ck,.bool f,.slice a n cc,.int .i64 p] 28 (0,0)):=Below.cellsAt b2 (by rw [←hw1,←hG];exact heap_alloc_new _ _)
 have A2:w2.heap[G+1]?=some (.cells #[.int .i64 (d:Int)] 3 (0,0)):=by rw [←hw2,←z1];exact heap_alloc_new _ _
 have X2:Below G w w2:=by
  have h1:Below w.heap.size w w1:=by rw [←hw1];exact(Below.refl _ _).alloc (Nat.le_refl _) _
  rw [←hG];exact h1.trans (b2.mono h1.size)
 have hBG:B0≤G:=by rw [←hG];exact hB
 have HM:Hid (∀u,Below w2.heap.size w2 u→Below G w u):=hide (fun u h=>X2.trans (h.mono (by omega)))
 have HF:Hid (∀u,Below w2.heap.size w2 u→u.cell? ⟨G,0,none⟩=some (.int .i64 k)∧u.cell? ⟨G,1,none⟩=some (.string t)∧u.cell? ⟨G,2,none⟩=some (.int .i64 vk)∧u.cell? ⟨G,3,none⟩=some (.int .i64 vn)∧u.cell? ⟨G,4,none⟩=some (.string vs)∧u.cell? ⟨G,5,none⟩=some (.slice al ll cl)∧u.cell? ⟨G,6,none⟩=some (.slice ak lk ck)∧u.cell? ⟨G,7,none⟩=some (.bool f)∧u.cell? ⟨G,8,none⟩=some (.slice a n cc)∧u.cell? ⟨G,9,none⟩=some (.int .i64 p)∧u.cell? ⟨G+1,0,none⟩=some (.int .i64 (d:Int))):=hide (fun u hu=>by
  obtain⟨x0,x1,x2,x3,x4,x5,x6,x7,x8,x9⟩:=row_ten (Below.cellsAt hu A1)
  exact⟨x0,x1,x2,x3,x4,x5,x6,x7,x8,x9,(cell_of_row u (G+1) 0 _ _ (0,0) (Below.cellsAt hu A2)).trans rfl⟩)
 have HB:=hide (show B0≤w2.heap.size by omega)
 have HPt:Hid (∀u,Below w2.heap.size w2 u→RowN u B0 ks a cc∧Put B0 u (.func (.func 98) #[] #[.pointer (some ⟨G+1,0,none⟩)]) ks (lineT d T)):=hide (fun u hu=>by
  have h1:=X2.trans (hu.mono (by omega))
  refine⟨hr.later (h1.mono hBG),⟨_,_,rfl,call_line,fun u2 y x hk hu2 hy hx2=>?_⟩⟩
  exact line_any B0 (G+1) d T y x u2 hu2 hG0 ((hP.later h1 (by omega)).kp hk hG0) hx2 (hk.cells (Below.cellsAt hu A2) (by decide) (by decide)) (hS y hy) hd RC)
 have CRp:Hid (∀u:World,Calls Tryz.prog 99 #[.string ⟨#[9]⟩,.int .i64 ((d:Int) - 1)] u fun e w'=>∃s:ByteArray,e=.returned (.string s)∧s.data.toList=List.replicate (d - 1) 9∧Below u.heap.size u w'):=hide (fun u=>by
  rw [show ((d:Int) - 1)=((d - 1:Nat):Int) by omega]
  exact RC (d - 1) u (by omega))
 have HN:=hide hn
 have hm1:=hide (show IntKind.i64.wrap ((d:Int) - 1)=(d:Int) - 1 by rw [IntKind.wrap_i64];omega)
 obtain⟨Z,hZ⟩:∃Z,jl [] true (ks.map (lineT d T))=Z:=⟨_,rfl⟩
 have HR:=hide hZ
 have HDd:=hide hd
 have HW:=hide (And.intro hw1 hw2)
 clear A1 A2 X2 b2 hw1 hw2 hBG hB hx hG0 hP hS hd hd1 RC hn hr hv hZ z1 z2
 go_enter Tryz.func69,Tryz.ntmps69
 go_upto_region 2 with fail
 rw [(unhide HW).1,(unhide HW).2]
 try rw [hG]
 clear HW
 have HS0:Hid (Below w2.heap.size w2 w2.drew):=hide ((Below.refl _ _).drew)
 refine till_begin (S:=fun w'=>Below w2.heap.size w2 w') 12 (by kernel_rfl) ?_
 obtain⟨W0,hW0⟩:∃W0,w2.drew=W0:=⟨_,rfl⟩
 try rw [hW0]
 rw [hW0] at HS0
 clear hW0
 refine till_take 1 (v:=.pointer (some ⟨G,8,none⟩)) (some 8) rfl rfl rfl (by kernel_rfl) (by kernel_rfl) (by kernel_rfl) (by kernel_rfl) (fun _ _ _ h=>h) (Or.inl ⟨by rfl,fun u hu=>by obtain⟨x0,x1,x2,x3,x4,x5,x6,x7,x8,x9,hh⟩:=unhide HF u hu;go_simp⟩) (unhide HS0) ?_
 try simp only [Act.put,List.setIfInBounds_toArray,List.set_cons_zero,List.set_cons_succ]
 refine till_take 2 (v:=.slice a n cc) (some 9) rfl rfl rfl (by kernel_rfl) (by kernel_rfl) (by kernel_rfl) (by kernel_rfl) (fun _ _ _ h=>h) (Or.inl ⟨by rfl,fun u hu=>by obtain⟨x0,x1,x2,x3,x4,x5,x6,x7,x8,x9,hh⟩:=unhide HF u hu;go_simp⟩) (unhide HS0) ?_
 try simp only [Act.put,List.setIfInBounds_toArray,List.set_cons_zero,List.set_cons_succ]
 refine till_take 3 (v:=.func (.func 98) #[] #[.pointer (some ⟨G+1,0,none⟩)]) (some 10) rfl rfl rfl (by kernel_rfl) (by kernel_rfl) (by kernel_rfl) (by kernel_rfl) (fun _ _ _ h=>h) (Or.inl ⟨by rfl,fun u hu=>by obtain⟨x0,x1,x2,x3,x4,x5,x6,x7,x8,x9,hh⟩:=unhide HF u hu;go_simp⟩) (unhide HS0) ?_
 try simp only [Act.put,List.setIfInBounds_toArray,List.set_cons_zero,List.set_cons_succ]
 refine till_take 5 (v:=.int .i64 (d:Int)) (some 12) rfl rfl rfl (by kernel_rfl) (by kernel_rfl) (by kernel_rfl) (by kernel_rfl) (fun _ _ _ h=>h) (Or.inl ⟨by rfl,fun u hu=>by obtain⟨x0,x1,x2,x3,x4,x5,x6,x7,x8,x9,hh⟩:=unhide HF u hu;go_simp⟩) (unhide HS0) ?_
 try simp only [Act.put,List.setIfInBounds_toArray,List.set_cons_zero,List.set_cons_succ]
 refine till_take 6 (v:=.int .i64 ((d:Int) - 1)) (some 13) rfl rfl rfl (by kernel_rfl) (by kernel_rfl) (by kernel_rfl) (by kernel_rfl) (fun _ _ _ h=>h) (Or.inl ⟨by rfl,fun u hu=>by obtain⟨x0,x1,x2,x3,x4,x5,x6,x7,x8,x9,hh⟩:=unhide HF u hu;have hm:=unhide hm1;go_simp⟩) (unhide HS0) ?_
 try simp only [Act.put,List.setIfInBounds_toArray,List.set_cons_zero,List.set_cons_succ]
 refine till_one 0 (by kernel_rfl) rfl (fun K hK=>?_)
 go_simp
 refine(txw_any B0 ⟨#[123,10]⟩ W0).mono ?_
 rintro e W1 ⟨t1,rfl,h,bb⟩
 have h0:=h
 obtain⟨F1,p1,rfl,-,-⟩:=h0
 have HT1_1:=hide h
 have HS1:=hide ((unhide HS0).trans (bb.mono (unhide HS0).size))
 clear bb h
 go_wp2_with fail
 refine hK.out _ _ (Or.inr (unhide HS1)) ?_
 clear hK K HS0
 try simp only [Act.put,List.setIfInBounds_toArray,List.set_cons_zero,List.set_cons_succ]
 refine till_one 4 (by kernel_rfl) rfl (fun K hK=>?_)
 go_simp
 refine(listed_any B0 a n cc ⟨#[]⟩ (.func (.func 98) #[] #[.pointer (some ⟨G+1,0,none⟩)]) ks (lineT d T) W1 (Nat.le_trans (unhide HB) (unhide HS1).size) ((unhide HPt) W1 (unhide HS1)).1 (unhide HN) ((unhide HPt) W1 (unhide HS1)).2).mono ?_
 rintro e W2 ⟨t2,rfl,h,bb⟩
 have h0:=h
 obtain⟨F2,p2,rfl,-,-⟩:=h0
 have HT2_2:=hide h
 have HS2:=hide ((unhide HS1).trans (bb.mono (unhide HS1).size))
 have HT1_2:=hide ((unhide HT1_1).later (Kp.below bb (Nat.le_trans (unhide HB) (unhide HS1).size)))
 clear bb h HT1_1
 go_wp2_with fail
 refine hK.out _ _ (Or.inr (unhide HS2)) ?_
 clear hK K HS1
 try simp only [Act.put,List.setIfInBounds_toArray,List.set_cons_zero,List.set_cons_succ]
 refine till_one 7 (by kernel_rfl) rfl (fun K hK=>?_)
 go_simp
 refine((unhide CRp) W2).mono ?_
 rintro e W3 ⟨S7,rfl,hs,bb⟩
 have HS3:=hide ((unhide HS2).trans (bb.mono (unhide HS2).size))
 have HD7:=hide hs
 have HT1_3:=hide ((unhide HT1_2).later (Kp.below bb (Nat.le_trans (unhide HB) (unhide HS2).size)))
 have HT2_3:=hide ((unhide HT2_2).later (Kp.below bb (Nat.le_trans (unhide HB) (unhide HS2).size)))
 clear bb hs HT1_2 HT2_2
 go_wp2_with fail
 refine hK.out _ _ (Or.inr (unhide HS3)) ?_
 clear hK K HS2
 try simp only [Act.put,List.setIfInBounds_toArray,List.set_cons_zero,List.set_cons_succ]
 have hz7:¬9223372036854775807<S7.size+1:=by have h1:=congrArg List.length (unhide HD7);rw [List.length_replicate] at h1;have h2:S7.data.toList.length=S7.size:=rfl;have:=unhide HDd;omega
 obtain⟨T7,hT7⟩:∃z,(S7++⟨#[125]⟩:ByteArray)=z:=⟨_,rfl⟩
 have HD8:=hide (show T7.data.toList=List.replicate (d - 1) 9++[125] by rw [←hT7,ByteArray.data_append,Array.toList_append,unhide HD7])
 have HT7:=hide hT7
 clear hT7
 refine till_take 8 (v:=.string T7) (some 15) rfl rfl rfl (by kernel_rfl) (by kernel_rfl) (by kernel_rfl) (by kernel_rfl) (fun _ _ _ h=>h) (Or.inl ⟨by rfl,fun u hu=>by obtain⟨x0,x1,x2,x3,x4,x5,x6,x7,x8,x9,hh⟩:=unhide HF u hu;have hT7:=unhide HT7;go_simp⟩) (unhide HS3) ?_
 try simp only [Act.put,List.setIfInBounds_toArray,List.set_cons_zero,List.set_cons_succ]
 refine till_one 9 (by kernel_rfl) rfl (fun K hK=>?_)
 go_simp
 refine(txw_any B0 T7 W3).mono ?_
 rintro e W4 ⟨t3,rfl,h,bb⟩
 have h0:=h
 obtain⟨F3,p3,rfl,-,-⟩:=h0
 have HT3_4:=hide h
 have HS4:=hide ((unhide HS3).trans (bb.mono (unhide HS3).size))
 have HT1_4:=hide ((unhide HT1_3).later (Kp.below bb (Nat.le_trans (unhide HB) (unhide HS3).size)))
 have HT2_4:=hide ((unhide HT2_3).later (Kp.below bb (Nat.le_trans (unhide HB) (unhide HS3).size)))
 clear bb h HT1_3 HT2_3
 go_wp2_with fail
 refine hK.out _ _ (Or.inr (unhide HS4)) ?_
 clear hK K HS3
 try simp only [Act.put,List.setIfInBounds_toArray,List.set_cons_zero,List.set_cons_succ]
 obtain⟨W5,hW5⟩:∃W,W4.alloc (.cells #[.func (.func F1) #[] p1,.func (.func F2) #[] p2,.func (.func F3) #[] p3] 39)=W:=⟨_,rfl⟩
 obtain⟨q,hq⟩:∃q,W4.heap.size=q:=⟨_,rfl⟩
 have bb:Below W4.heap.size W4 W5:=by rw [←hW5];exact(Below.refl _ _).alloc (Nat.le_refl _) _
 have HX5:=hide (show Txs B0 W5 q _ from txs3 (by rw [←hW5,←hq];exact heap_alloc_new _ _) ((unhide HT1_4).later (Kp.below bb (Nat.le_trans (unhide HB) (unhide HS4).size))) ((unhide HT2_4).later (Kp.below bb (Nat.le_trans (unhide HB) (unhide HS4).size))) ((unhide HT3_4).later (Kp.below bb (Nat.le_trans (unhide HB) (unhide HS4).size))))
 have HS5:=hide ((unhide HS4).trans (bb.mono (unhide HS4).size))
 clear bb HT1_4 HT2_4 HT3_4
 refine till_one 10 (by kernel_rfl) rfl (fun K hK=>?_)
 go_simp
 try rw [hW5]
 try rw [hq]
 refine hK.out _ _ (Or.inr (unhide HS5)) ?_
 clear hK K HS4 hW5 hq
 try simp only [Act.put,List.setIfInBounds_toArray,List.set_cons_zero,List.set_cons_succ]
 refine till_one 11 (by kernel_rfl) rfl (fun K hK=>?_)
 go_simp
 refine(row_any B0 q 3 3 _ W5 (Nat.le_trans (unhide HB) (unhide HS5).size) (unhide HX5) rfl (by decide)).mono ?_
 rintro e W6 ⟨tr,rfl,h,bb⟩
 have h0:=h
 obtain⟨Fr,pr,rfl,-,-⟩:=h0
 have HT:=hide h
 have HS6:=hide ((unhide HS5).trans (bb.mono (unhide HS5).size))
 clear bb h HX5
 go_wp2_with fail
 refine hK.out _ _ (Or.inr (unhide HS6)) ?_
 clear hK K HS5
 try simp only [Act.put,List.setIfInBounds_toArray,List.set_cons_zero,List.set_cons_succ]
 refine till_one 12 (by kernel_rfl) rfl (fun K hK=>?_)
 go_simp
 refine hK.out _ _ (Or.inl (by first|rfl|trivial)) ?_
 clear hK K
 try simp only [Act.put,List.setIfInBounds_toArray,List.set_cons_zero,List.set_cons_succ]
 refine till_done (by kernel_rfl) ?_ _
 go_wp2_with fail
 go_ret
 refine⟨_,rfl,?_,?_⟩
 ·have h1:=unhide HT
  have e:blkT d T ks=([[123,10],jl [] true (ks.map (lineT d T)),T7.data.toList]:List (List UInt8)).flatten:=by unfold blkT;rw [unhide HD8];simp
  rw [e]
  exact h1
 ·have:=(unhide HM) _ (unhide HS6)
  first|exact this|(rw [hG];exact this)
def st1 (k:Int) (t:ByteArray) (ks:List Tn) (es s0 s1:List (List UInt8)) (d:Nat):List UInt8:=
 if k=4 then [123,10]++(jl [] true (s0.map (fun L=>List.replicate d 9++(L++[10])))++(List.replicate (d - 1) 9++[125]))
 else if k=5 then (if ks.length=0 then 108 :: 101 :: 116 :: 32 :: (t.data.toList++[59]) else 108 :: 101 :: 116 :: 32 :: (t.data.toList++(32 :: 61 :: 32 :: ((es[0]?).getD []++[59]))))
 else if k=6 then t.data.toList++(32 :: 61 :: 32 :: ((es[0]?).getD []++[59]))
 else if k=7 then [105,102,32,40]++((es[0]?).getD []++(41 :: 32 :: (s1[1]?).getD []))++(match ks[2]? with
  |none=>[]
  |some y=>32 :: 101 :: 108 :: 115 :: 101 :: 32 :: (if y.k=7 then (s0[2]?).getD [] else (s1[2]?).getD []))
 else if k=8 then [119,104,105,108,101,32,40]++((es[0]?).getD []++(41 :: 32 :: (s1[1]?).getD []))
 else if k=9 then (if ks.length=0 then [114,101,116,117,114,110,59] else [114,101,116,117,114,110,32]++((es[0]?).getD []++[59]))
 else if k=10 then [98,114,101,97,107,59]
 else if k=11 then [99,111,110,116,105,110,117,101,59]
 else (es[0]?).getD []++[59]
def stM:List Tn→Nat→List (List UInt8)
 |[],_=>[]
 |.mk k t _ _ ks _ :: r,d=>st1 k t ks (exM ks) (stM ks d) (stM ks (d+1)) d :: stM r d
def stT (d:Nat) (y:Tn):List UInt8:=st1 y.k y.t y.ks (exM y.ks) (stM y.ks d) (stM y.ks (d+1)) d
theorem stM_map:∀(l:List Tn) (d:Nat),stM l d=l.map (stT d)
 |[],_=>by simp only [stM];rfl
 |.mk k t v f ks p :: r,d=>by simp only [stM,List.map_cons,stM_map r d];rfl
theorem blk_st (d:Nat) (t:ByteArray) (v:Vl) (f:Bool) (ks:List Tn) (p:Int):stT d ⟨4,t,v,f,ks,p⟩=blkT d (stT d) ks:=by
 simp only [stT,st1,blkT,stM_map,if_pos,List.map_map]
 rfl
def StAt (N:Nat):Prop:=∀(B0:Nat) (y:Tn) (d:Nat),cns [y]≤N→d+cns [y]≤900000→1≤d→fmB y=true→(isStm y.k=true→StC B0 (d:Int) (stT d) y)∧(y.k=4→BlC B0 (d:Int) (stT d) y)∧(y.k=7→ChC B0 (d:Int) (stT d) y)
theorem txt_to {B0:Nat} {w:World} {P:Program} {F:FuncId} {args:Array Value} {L L':List UInt8} (e:L=L') (h:Calls P F args w fun e w'=>∃t,e=.returned t∧Txt B0 w' t L∧Below w.heap.size w w'):Calls P F args w fun e w'=>∃t,e=.returned t∧Txt B0 w' t L'∧Below w.heap.size w w':=e ▸ h
theorem nm_size {k:Int} {t:ByteArray} (h:txB k t=true) (hk:k=5∨k=6):t.size≤1000:=by
 have h2:nameL t.data.toList=true:=by rcases hk with rfl|rfl <;> simpa [txB] using h
 unfold nameL at h2
 simp only [Bool.and_eq_true,decide_eq_true_eq] at h2
 have e:t.data.toList.length=t.size:=rfl
 omega
set_option maxRecDepth 100000 in
set_option maxHeartbeats 4000000 in
theorem st7_any (B0:Nat) (d:Int) (Z7:List UInt8) (v:Vl) (ks:List Tn) (vk vn p:Int) (t vs:ByteArray) (al ak a:Option Addr) (ll cl lk ck n cc:Nat) (f:Bool) (w:World) (hB:B0≤w.heap.size) (hr:RowN w B0 ks a cc) (hn:ks.length=n) (hG0:0<B0) (hP:PowAt w) (hC:∀u,Below w.heap.size w u→Calls Tryz.prog 131 #[.agg #[.int .i64 7,.string t,.int .i64 vk,.int .i64 vn,.string vs,.slice al ll cl,.slice ak lk ck,.bool f,.slice a n cc,.int .i64 p],.int .i64 d] u fun e u'=>∃t,e=.returned t∧Txt B0 u' t Z7∧Below u.heap.size u u') :
  Calls Tryz.prog 100 #[.agg #[.int .i64 7,.string t,.int .i64 vk,.int .i64 vn,.string vs,.slice al ll cl,.slice ak lk ck,.bool f,.slice a n cc,.int .i64 p],.int .i64 d] w fun e w'=>∃t',e=.returned t'∧Txt B0 w' t' (Z7)∧Below w.heap.size w w':=by
 obtain⟨w1,hw1⟩:∃w1,w.alloc (.cells #[.int .i64 7,.string t,.int .i64 vk,.int .i64 vn,.string vs,.slice al ll cl,.slice ak lk ck,.bool f,.slice a n cc,.int .i64 p] 28)=w1:=⟨_,rfl⟩
 obtain⟨G,hG⟩:∃G,w.heap.size=G:=⟨_,rfl⟩
 have A1:w1.heap[G]?=some (.cells #[.int .i64 7,.string t,.int .i64 vk,.int .i64 vn,.string vs,.slice al ll cl,.slice ak lk ck,.bool f,.slice a n cc,.int .i64 p] 28 (0,0)):=by rw [←hw1,←hG];exact heap_alloc_new _ _
 have X1:Below G w w1:=by rw [←hw1,←hG];exact(Below.refl _ _).alloc (Nat.le_refl _) _
 have hBG:B0≤G:=by rw [←hG];exact hB
 have HM:Hid (∀u,Below w1.heap.size w1 u→RowN u B0 ks a cc∧PowAt u∧Below G w u∧B0≤u.heap.size):=hide (fun u h=>by
  have h2:=X1.trans (h.mono (Nat.le_of_lt (lt_of_row A1)))
  exact⟨hr.later (h2.mono hBG),hP.later h2 (by omega),h2,Nat.le_trans hBG (by rw [←hG];exact h2.size)⟩)
 have HF:Hid (∀u,Below w1.heap.size w1 u→u.cell? ⟨G,0,none⟩=some (.int .i64 7)∧u.cell? ⟨G,1,none⟩=some (.string t)∧u.cell? ⟨G,2,none⟩=some (.int .i64 vk)∧u.cell? ⟨G,3,none⟩=some (.int .i64 vn)∧u.cell? ⟨G,4,none⟩=some (.string vs)∧u.cell? ⟨G,5,none⟩=some (.slice al ll cl)∧u.cell? ⟨G,6,none⟩=some (.slice ak lk ck)∧u.cell? ⟨G,7,none⟩=some (.bool f)∧u.cell? ⟨G,8,none⟩=some (.slice a n cc)∧u.cell? ⟨G,9,none⟩=some (.int .i64 p)):=hide (fun u hu=>row_ten (Below.cellsAt hu A1))
 have HB:=hide (show B0≤w1.heap.size from Nat.le_trans hBG (Nat.le_of_lt (lt_of_row A1)))
 have HN:=hide (And.intro hn hG0)
 obtain⟨R,hR⟩:∃R,Z7=R:=⟨_,rfl⟩
 rw [hR]
 have HR:=hide hR
 have HW:=hide hw1
 have CW:=hide (hC w1 (by rw [hG];exact X1))
 clear hC
 clear A1 X1 hw1 hBG hB hr hn hG0 hP hR
 go_enter Tryz.func100,Tryz.ntmps100
 go_upto_region 1 with fail
 rw [unhide HW]
 try rw [hG]
 clear HW
 obtain⟨x0,x1,x2,x3,x4,x5,x6,x7,x8,x9⟩:=unhide HF w1 (Below.refl _ _)
 go_wp2_with fail
 refine(unhide CW).mono ?_
 rintro e w3 ⟨t3,rfl,h3,b3⟩
 have H3:=hide (And.intro h3 b3)
 obtain⟨F3,p3,rfl,-,-⟩:=h3
 clear b3 CW x0 x1 x2 x3 x4 x5 x6 x7 x8 x9
 go_wp2_with fail
 go_ret
 have hb:=((unhide HM) w3 (unhide H3).2).2.2.1
 refine⟨_,rfl,?_,by first|exact hb|(rw [hG];exact hb)⟩
 have h1:=(unhide H3).1
 rw [←unhide HR]
 exact h1
theorem st_step (RC:TbC) (N:Nat) (ih:StAt N):StAt (N+1):=by
 intro B0 y d hN hd hd1 hf
 obtain⟨h1,h2⟩:=fm_kids hf
 obtain⟨ht,hv0,hk0⟩:=rw_kd h1
 obtain⟨k,t,v,f,ks,p⟩:=y
 simp only at h1 h2 ht hk0 ⊢
 rw [cns_one] at hN hd
 simp only at hN hd
 have hex:∀z∈ks,isEx z.k=true→ExC B0 z:=fun z hz hz2=>expr_all _ B0 z (Nat.le_refl _) (h2 z hz) hz2
 have hsub:∀z∈ks,∀c,c≤d+1→1≤c→(isStm z.k=true→StC B0 (c:Int) (stT c) z)∧(z.k=4→BlC B0 (c:Int) (stT c) z)∧(z.k=7→ChC B0 (c:Int) (stT c) z):=fun z hz c hc hc1=>ih B0 z c (by have:=cns_mem ks z hz;omega) (by have:=cns_mem ks z hz;omega) hc1 (h2 z hz)
 have hz0:∀z,ks[0]?=some z→isEx (((ks.map (·.k))[0]?).getD 0)=true→ExC B0 z:=fun z hz h=>hex z (List.mem_of_getElem? hz) (by rw [List.getElem?_map,hz] at h;exact h)
 have hb1:∀z,ks[1]?=some z→(ks.map (·.k))[1]?=some 4→BlC B0 ((d:Int)+1) (stT (d+1)) z:=fun z hz h=>by
  have e:((d+1:Nat):Int)=(d:Int)+1:=by omega
  rw [←e]
  exact(hsub z (List.mem_of_getElem? hz) (d+1) (Nat.le_refl _) (by omega)).2.1 (by rw [List.getElem?_map,hz] at h;simpa using h)
 have hBl:k=4→BlC B0 (d:Int) (stT d) ⟨k,t,v,f,ks,p⟩:=by
  rintro rfl x u hu hG hP hx
  have hst:kdB 4 (ks.map (·.k))=(ks.map (·.k)).all isStm:=by simp [kdB]
  rw [hst,all_k,List.all_eq_true] at hk0
  exact txt_to (blk_st d t v f ks p).symm (block_any B0 d (stT d) ⟨4,t,v,f,ks,p⟩ x u hu hG hP hx (fun z hz=>(hsub z hz d (by omega) hd1).1 (hk0 z hz)) (by omega) hd1 RC)
 have hCh:k=7→ChC B0 (d:Int) (stT d) ⟨k,t,v,f,ks,p⟩:=by
  rintro rfl x u hu hG hP hx
  obtain⟨vk,vn,vs,al,ak,a,ll,cl,lk,ck,cc,rfl,hvv,hr,-,-⟩:=hx.opn
  simp only at hr ⊢
  rw [kd_if] at hk0
  simp only [Bool.or_eq_true,Bool.and_eq_true,decide_eq_true_eq,List.length_map] at hk0
  rcases hk0 with ⟨h3,h4,h5⟩|⟨⟨h3,h4,h5⟩,h6⟩
  ·obtain⟨b,rfl⟩:=some_of hr (by omega)
   have e2:ks[2]?=none:=List.getElem?_eq_none (by omega)
   exact txt_to (by simp [stT,st1,stM_map,e2]) (ch2_any B0 d (stT (d+1)) v ks vk vn p t vs al ak ll cl lk ck _ cc f b u hu hr rfl hG hP (fun z hz=>hz0 z hz h4) (by omega) (fun z hz=>hb1 z hz h5) (by omega) (by omega))
  ·obtain⟨b,rfl⟩:=some_of hr (by omega)
   obtain⟨z2,e2⟩:∃z,ks[2]?=some z:=⟨_,List.getElem?_eq_getElem (by omega)⟩
   by_cases h7:z2.k=7
   ·exact txt_to (by simp [stT,st1,stM_map,e2,h7]) (ch3i_any B0 d (stT (d+1)) (stT d) v ks vk vn p t vs al ak ll cl lk ck _ cc f b u hu hr rfl hG hP (fun z hz=>hz0 z hz h4) (by omega) (fun z hz=>hb1 z hz h5) (fun z hz=>by
     obtain rfl:z2=z:=Option.some.inj (e2.symm.trans hz)
     exact(hsub z2 (List.mem_of_getElem? hz) d (by omega) hd1).2.2 h7) (fun z hz=>by
     obtain rfl:z2=z:=Option.some.inj (e2.symm.trans hz)
     exact h7) (by omega) h3)
   ·have h44:z2.k=4:=by
     rcases h6 with h|h
     ·rw [List.getElem?_map,e2] at h;simpa using h
     ·rw [List.getElem?_map,e2] at h;exact absurd (by simpa using h) h7
    exact txt_to (by simp [stT,st1,stM_map,e2,h7]) (ch3b_any B0 d (stT (d+1)) (stT (d+1)) v ks vk vn p t vs al ak ll cl lk ck _ cc f b u hu hr rfl hG hP (fun z hz=>hz0 z hz h4) (by omega) (fun z hz=>hb1 z hz h5) (fun z hz=>by
     obtain rfl:z2=z:=Option.some.inj (e2.symm.trans hz)
     have e:((d+1:Nat):Int)=(d:Int)+1:=by omega
     rw [←e]
     exact(hsub z2 (List.mem_of_getElem? hz) (d+1) (Nat.le_refl _) (by omega)).2.1 h44) (fun z hz=>by
     obtain rfl:z2=z:=Option.some.inj (e2.symm.trans hz)
     exact h7) (by omega) h3)
 refine⟨fun hs=>?_,hBl,hCh⟩
 intro x u hu hG hP hx
 have hx0:=hx
 obtain⟨vk,vn,vs,al,ak,a,ll,cl,lk,ck,cc,rfl,hvv,hr,-,-⟩:=hx.opn
 simp only at hr ⊢
 have hk:k=5∨k=6∨k=7∨k=8∨k=9∨k=10∨k=11∨k=12:=by simpa [isStm] using hs
 have hle:∀l:List Tn,(l.map (·.k)).all isEx=true→∀z,l[0]?=some z→isEx z.k=true:=fun l h z hz=>all_ex h z (List.mem_of_getElem? hz)
 rcases hk with rfl|rfl|rfl|rfl|rfl|rfl|rfl|rfl
 ·rw [kd_le (by omega)] at hk0
  simp only [Bool.and_eq_true,decide_eq_true_eq,List.length_map] at hk0
  by_cases h0:ks.length=0
  ·exact txt_to (by simp only [stT,st1];rw [if_neg (by decide),if_pos trivial,if_pos h0]) (st5n_any B0 d v ks vk vn p t vs al ak a ll cl lk ck _ cc f u hu hr rfl hG hP h0 (nm_size ht (by omega)))
  ·obtain⟨b,rfl⟩:=some_of hr (by omega)
   exact txt_to (by simp only [stT,st1];rw [if_neg (by decide),if_pos trivial,if_neg h0]) (st5_any B0 d v ks vk vn p t vs al ak ll cl lk ck _ cc f b u hu hr rfl hG hP (fun z hz=>hex z (List.mem_of_getElem? hz) (hle ks hk0.2 z hz)) (by omega) (nm_size ht (by omega)))
 ·rw [kd_one (by omega)] at hk0
  simp only [Bool.and_eq_true,decide_eq_true_eq,List.length_map] at hk0
  obtain⟨b,rfl⟩:=some_of hr (by omega)
  exact txt_to (by simp [stT,st1]) (st6_any B0 d v ks vk vn p t vs al ak ll cl lk ck _ cc f b u hu hr rfl hG hP (fun z hz=>hz0 z hz hk0.2) (by omega) (nm_size ht (by omega)))
 ·exact st7_any B0 d (stT d ⟨7,t,v,f,ks,p⟩) v ks vk vn p t vs al ak a ll cl lk ck _ cc f u hu hr rfl hG hP (fun u2 h2=>hCh rfl _ u2 (Nat.le_trans hu h2.size) hG (hP.later h2 (by omega)) (hx0.laterB (h2.mono hu)))
 ·rw [kd_wh] at hk0
  simp only [Bool.and_eq_true,decide_eq_true_eq,List.length_map] at hk0
  obtain⟨b,rfl⟩:=some_of hr (by omega)
  exact txt_to (by simp [stT,st1,stM_map]) (st8_any B0 d (stT (d+1)) v ks vk vn p t vs al ak ll cl lk ck _ cc f b u hu hr rfl hG hP (fun z hz=>hz0 z hz hk0.2.1) (by omega) (fun z hz=>hb1 z hz hk0.2.2) (by omega))
 ·rw [kd_le (by omega)] at hk0
  simp only [Bool.and_eq_true,decide_eq_true_eq,List.length_map] at hk0
  by_cases h0:ks.length=0
  ·exact txt_to (by simp [stT,st1,h0]) (st9n_any B0 d v ks vk vn p t vs al ak a ll cl lk ck _ cc f u hu hr rfl hG hP h0)
  ·obtain⟨b,rfl⟩:=some_of hr (by omega)
   exact txt_to (by simp only [stT,st1];rw [if_neg (by decide),if_neg (by decide),if_neg (by decide),if_neg (by decide),if_neg (by decide),if_pos trivial,if_neg h0]) (st9_any B0 d v ks vk vn p t vs al ak ll cl lk ck _ cc f b u hu hr rfl hG hP (fun z hz=>hex z (List.mem_of_getElem? hz) (hle ks hk0.2 z hz)) (by omega))
 ·exact txt_to (by simp [stT,st1]) (st10_any B0 d v ks vk vn p t vs al ak a ll cl lk ck _ cc f u hu hr rfl hG hP)
 ·exact txt_to (by simp [stT,st1]) (st11_any B0 d v ks vk vn p t vs al ak a ll cl lk ck _ cc f u hu hr rfl hG hP)
 ·rw [kd_one (by omega)] at hk0
  simp only [Bool.and_eq_true,decide_eq_true_eq,List.length_map] at hk0
  obtain⟨b,rfl⟩:=some_of hr (by omega)
  exact txt_to (by simp [stT,st1]) (st12_any B0 d v ks vk vn p t vs al ak ll cl lk ck _ cc f b u hu hr rfl hG hP (fun z hz=>hz0 z hz hk0.2) (by omega))
theorem st_all (RC:TbC):∀N,StAt N
 |0=>fun B0 y d hN=>by rw [cns_one] at hN;omega
 |N+1=>st_step RC N (st_all RC N)
end Go.Proofs.YtekbmfppfjlboaaGreatDoor
