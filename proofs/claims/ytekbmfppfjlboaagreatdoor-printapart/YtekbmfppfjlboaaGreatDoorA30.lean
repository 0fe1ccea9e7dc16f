/-
  Layer 18 (print): an expression is written; conditions: the nodes lie in memory.
-/
import Derived.Test.YtekbmfppfjlboaaGreatDoorA28
set_option linter.unusedVariables false
set_option linter.unusedSimpArgs false
namespace Go.Proofs.YtekbmfppfjlboaaGreatDoor
open Go.RowKit
set_option linter.unusedVariables false
set_option linter.unusedSimpArgs false
set_option maxRecDepth 100000 in
set_option maxHeartbeats 4000000 in
theorem ex21_any (B0:Nat) (v:Vl) (ks:List Tn) (vk vn p:Int) (t vs:ByteArray) (al ak:Option Addr) (ll cl lk ck n cc:Nat) (f:Bool) (b:Addr) (w:World) (hB:B0≤w.heap.size) (hr:RowN w B0 ks (some b) cc) (hn:ks.length=n) (hG0:0<B0) (hP:PowAt w) (hE:∀y∈ks,ExC B0 y) (h1:n=2) :
  Calls Tryz.prog 23 #[.agg #[.int .i64 21,.string t,.int .i64 vk,.int .i64 vn,.string vs,.slice al ll cl,.slice ak lk ck,.bool f,.slice (some b) n cc,.int .i64 p]] w fun e w'=>∃t',e=.returned t'∧Txt B0 w' t' (ex1 21 t v ks (exM ks))∧Below w.heap.size w w':=by
 obtain⟨w1,hw1⟩:∃w1,w.alloc (.cells #[.int .i64 21,.string t,.int .i64 vk,.int .i64 vn,.string vs,.slice al ll cl,.slice ak lk ck,.bool f,.slice (some b) n cc,.int .i64 p] 28)=w1:=⟨_,rfl⟩
 obtain⟨G,hG⟩:∃G,w.heap.size=G:=⟨_,rfl⟩
 have A1:w1.heap[G]?=some (.cells #[.int .i64 21,.string t,.int .i64 vk,.int .i64 vn,.string vs,.slice al ll cl,.slice ak lk ck,.bool f,.slice (some b) n cc,.int .i64 p] 28 (0,0)):=by rw [←hw1,←hG];exact heap_alloc_new _ _
 have X1:Below G w w1:=by rw [←hw1,←hG];exact(Below.refl _ _).alloc (Nat.le_refl _) _
 have hBG:B0≤G:=by rw [←hG];exact hB
 have HM:Hid (∀u,Below w1.heap.size w1 u→RowN u B0 ks (some b) cc∧PowAt u∧Below G w u∧B0≤u.heap.size):=hide (fun u h=>by
  have h2:=X1.trans (h.mono (Nat.le_of_lt (lt_of_row A1)))
  exact⟨hr.later (h2.mono hBG),hP.later h2 (by omega),h2,Nat.le_trans hBG (by rw [←hG];exact h2.size)⟩)
 have HF:Hid (∀u,Below w1.heap.size w1 u→u.cell? ⟨G,0,none⟩=some (.int .i64 21)∧u.cell? ⟨G,1,none⟩=some (.string t)∧u.cell? ⟨G,2,none⟩=some (.int .i64 vk)∧u.cell? ⟨G,3,none⟩=some (.int .i64 vn)∧u.cell? ⟨G,4,none⟩=some (.string vs)∧u.cell? ⟨G,5,none⟩=some (.slice al ll cl)∧u.cell? ⟨G,6,none⟩=some (.slice ak lk ck)∧u.cell? ⟨G,7,none⟩=some (.bool f)∧u.cell? ⟨G,8,none⟩=some (.slice (some b) n cc)∧u.cell? ⟨G,9,none⟩=some (.int .i64 p)):=hide (fun u hu=>row_ten (Below.cellsAt hu A1))
 have HB:=hide (show B0≤w1.heap.size from Nat.le_trans hBG (Nat.le_of_lt (lt_of_row A1)))
 have HN:=hide (And.intro hn hG0)
 obtain⟨R,hR⟩:∃R,ex1 21 t v ks (exM ks)=R:=⟨_,rfl⟩
 rw [hR]
 have HR:=hide hR
 have HW:=hide hw1
 have hi1:(1:Int)<(n:Int):=by omega
 obtain⟨y,hy⟩:∃y,ks[1]?=some y:=⟨_,List.getElem?_eq_getElem (by omega)⟩
 have hEy:=hE y (List.mem_of_getElem? hy)
 obtain⟨b',vky,vny,vsy,aly,aky,ay,lly,cly,lky,cky,ny,ccy,eb,hcy,hby,hny,hzy,hcelly⟩:=hr.ten hy
 obtain rfl:b=b':=Option.some.inj eb
 have hncc:n≤cc:=by rw [←hn];exact hcy
 have HY:=hide (exM_at ks 1 y hy)
 obtain⟨ky,hky⟩:∃z,y.k=z:=⟨_,rfl⟩
 obtain⟨ty,hty⟩:∃z,y.t=z:=⟨_,rfl⟩
 obtain⟨fy,hfy⟩:∃z,y.f=z:=⟨_,rfl⟩
 obtain⟨py,hpy⟩:∃z,y.p=z:=⟨_,rfl⟩
 rw [hky,hty,hfy,hpy] at hzy hcelly
 have X0:∀u,Below w1.heap.size w1 u→Below G w u:=fun u h=>X1.trans (h.mono (Nat.le_of_lt (lt_of_row A1)))
 have HK:Hid (∀u,Below w1.heap.size w1 u→u.cell? ⟨b.block,b.off+10,none⟩=some (.int .i64 ky)∧u.cell? ⟨b.block,b.off+10+1,none⟩=some (.string ty)∧u.cell? ⟨b.block,b.off+10+2,none⟩=some (.int .i64 vky)∧u.cell? ⟨b.block,b.off+10+3,none⟩=some (.int .i64 vny)∧u.cell? ⟨b.block,b.off+10+4,none⟩=some (.string vsy)∧u.cell? ⟨b.block,b.off+10+5,none⟩=some (.slice aly lly cly)∧u.cell? ⟨b.block,b.off+10+6,none⟩=some (.slice aky lky cky)∧u.cell? ⟨b.block,b.off+10+7,none⟩=some (.bool fy)∧u.cell? ⟨b.block,b.off+10+8,none⟩=some (.slice ay ny ccy)∧u.cell? ⟨b.block,b.off+10+9,none⟩=some (.int .i64 py)):=hide (fun u h=>by
  have hc:∀j v,([.int .i64 ky,.string ty,.int .i64 vky,.int .i64 vny,.string vsy,.slice aly lly cly,.slice aky lky cky,.bool fy,.slice ay ny ccy,.int .i64 py]:List Value)[j]?=some v→u.cell? ((b.add (1 * 10)).add j)=some v:=fun j v hj=>(World.cell?_of_block ((X0 u h).block _ (by rw [block_add,block_add];omega))).trans (hcelly j v hj)
  exact⟨hc 0 _ rfl,hc 1 _ rfl,hc 2 _ rfl,hc 3 _ rfl,hc 4 _ rfl,hc 5 _ rfl,hc 6 _ rfl,hc 7 _ rfl,hc 8 _ rfl,hc 9 _ rfl⟩)
 obtain⟨Z,hZ⟩:∃Z,exT y=Z:=⟨_,rfl⟩
 rw [hZ] at HY
 have CE:Hid (∀u,Below w1.heap.size w1 u→Calls Tryz.prog 23 #[.agg #[.int .i64 ky,.string ty,.int .i64 vky,.int .i64 vny,.string vsy,.slice aly lly cly,.slice aky lky cky,.bool fy,.slice ay ny ccy,.int .i64 py]] u fun e u'=>∃t,e=.returned t∧Txt B0 u' t Z∧Below u.heap.size u u'):=hide (fun u h=>by rw [←hZ];exact hEy _ u (Nat.le_trans hBG (by rw [←hG];exact(X0 u h).size)) hG0 (hP.later (X0 u h) (by omega)) (hzy.laterB ((X0 u h).mono hBG)))
 clear hEy hzy hcelly hy hny hcy hby hky hty hfy hpy hZ X0 eb
 have HI0:=hide (show 0<n by omega)
 have HI1:=hide (show 1<n by omega)
 have HE:=hide hE
 clear hE
 clear h1
 clear A1 X1 hw1 hBG hB hr hn hG0 hP hR
 go_enter Tryz.func23,Tryz.ntmps23
 go_upto_region 1 with fail
 rw [unhide HW]
 try rw [hG]
 clear HW
 obtain⟨x0,x1,x2,x3,x4,x5,x6,x7,x8,x9⟩:=unhide HF w1 (Below.refl _ _)
 go_upto_region 15 with fail
 clear x0 x1 x2 x3 x4 x5 x6 x7 x8 x9
 have HS0:Hid (Below w1.heap.size w1 w1.drew):=hide ((Below.refl _ _).drew)
 refine till_begin (S:=fun w'=>Below w1.heap.size w1 w') 11 (by kernel_rfl) ?_
 obtain⟨W0,hW0⟩:∃W0,w1.drew=W0:=⟨_,rfl⟩
 try rw [hW0]
 rw [hW0] at HS0
 clear hW0
 refine till_take 0 (v:=.agg #[.int .i64 21,.string t,.int .i64 vk,.int .i64 vn,.string vs,.slice al ll cl,.slice ak lk ck,.bool f,.slice (some b) n cc,.int .i64 p]) (some 64) rfl rfl rfl (by kernel_rfl) (by kernel_rfl) (by kernel_rfl) (by kernel_rfl) (fun _ _ _ h=>h) (Or.inl ⟨by rfl,fun u hu=>by obtain⟨x0,x1,x2,x3,x4,x5,x6,x7,x8,x9⟩:=unhide HF u hu;go_simp⟩) (unhide HS0) ?_
 try simp only [Act.put,List.setIfInBounds_toArray,List.set_cons_zero,List.set_cons_succ]
 refine till_take 3 (v:=.pointer (some ⟨G,8,none⟩)) (some 67) rfl rfl rfl (by kernel_rfl) (by kernel_rfl) (by kernel_rfl) (by kernel_rfl) (fun _ _ _ h=>h) (Or.inl ⟨by rfl,fun u hu=>by obtain⟨x0,x1,x2,x3,x4,x5,x6,x7,x8,x9⟩:=unhide HF u hu;go_simp⟩) (unhide HS0) ?_
 try simp only [Act.put,List.setIfInBounds_toArray,List.set_cons_zero,List.set_cons_succ]
 refine till_take 4 (v:=.slice (some b) n cc) (some 68) rfl rfl rfl (by kernel_rfl) (by kernel_rfl) (by kernel_rfl) (by kernel_rfl) (fun _ _ _ h=>h) (Or.inl ⟨by rfl,fun u hu=>by obtain⟨x0,x1,x2,x3,x4,x5,x6,x7,x8,x9⟩:=unhide HF u hu;go_simp⟩) (unhide HS0) ?_
 try simp only [Act.put,List.setIfInBounds_toArray,List.set_cons_zero,List.set_cons_succ]
 refine till_take 5 (v:=.pointer (some ⟨b.block,b.off+10,none⟩)) (some 69) rfl rfl rfl (by kernel_rfl) (by kernel_rfl) (by kernel_rfl) (by kernel_rfl) (fun _ _ _ h=>h) (Or.inl ⟨by rfl,fun u hu=>by obtain⟨x0,x1,x2,x3,x4,x5,x6,x7,x8,x9⟩:=unhide HF u hu;obtain⟨z0,z1,z2,z3,z4,z5,z6,z7,z8,z9⟩:=unhide HK u hu;go_simp⟩) (unhide HS0) ?_
 try simp only [Act.put,List.setIfInBounds_toArray,List.set_cons_zero,List.set_cons_succ]
 refine till_take 6 (v:=.agg #[.int .i64 ky,.string ty,.int .i64 vky,.int .i64 vny,.string vsy,.slice aly lly cly,.slice aky lky cky,.bool fy,.slice ay ny ccy,.int .i64 py]) (some 70) rfl rfl rfl (by kernel_rfl) (by kernel_rfl) (by kernel_rfl) (by kernel_rfl) (fun _ _ _ h=>h) (Or.inl ⟨by rfl,fun u hu=>by obtain⟨x0,x1,x2,x3,x4,x5,x6,x7,x8,x9⟩:=unhide HF u hu;obtain⟨z0,z1,z2,z3,z4,z5,z6,z7,z8,z9⟩:=unhide HK u hu;go_simp⟩) (unhide HS0) ?_
 try simp only [Act.put,List.setIfInBounds_toArray,List.set_cons_zero,List.set_cons_succ]
 refine till_one 1 (by kernel_rfl) rfl (fun K hK=>?_)
 go_simp
 refine(operand_any B0 ks 21 vk vn p t vs al ak ll cl lk ck n cc f b 0 W0 (Nat.le_trans (unhide HB) (unhide HS0).size) ((unhide HM) W0 (unhide HS0)).1 (unhide HN).1 (unhide HI0) (unhide HN).2 ((unhide HM) W0 (unhide HS0)).2.1 (unhide HE)).mono ?_
 rintro e W1 ⟨t1,rfl,h,bb⟩
 have h0:=h
 obtain⟨F1,p1,rfl,-,-⟩:=h0
 have HT1_1:=hide h
 have HS1:=hide ((unhide HS0).trans (bb.mono (unhide HS0).size))
 clear bb h
 go_wp2_with fail
 refine hK.out _ _ (Or.inr (unhide HS1)) ?_
 clear hK K HS0
 try simp only [Act.put,List.setIfInBounds_toArray,List.set_cons_zero,List.set_cons_succ]
 refine till_one 2 (by kernel_rfl) rfl (fun K hK=>?_)
 go_simp
 refine(txw_any B0 ⟨#[91]⟩ W1).mono ?_
 rintro e W2 ⟨t2,rfl,h,bb⟩
 have h0:=h
 obtain⟨F2,p2,rfl,-,-⟩:=h0
 have HT2_2:=hide h
 have HS2:=hide ((unhide HS1).trans (bb.mono (unhide HS1).size))
 have HT1_2:=hide ((unhide HT1_1).later (Kp.below bb (Nat.le_trans (unhide HB) (unhide HS1).size)))
 clear bb h HT1_1
 go_wp2_with fail
 refine hK.out _ _ (Or.inr (unhide HS2)) ?_
 clear hK K HS1
 try simp only [Act.put,List.setIfInBounds_toArray,List.set_cons_zero,List.set_cons_succ]
 refine till_one 7 (by kernel_rfl) rfl (fun K hK=>?_)
 go_simp
 refine((unhide CE) W2 (unhide HS2)).mono ?_
 rintro e W3 ⟨t3,rfl,h,bb⟩
 have h0:=h
 obtain⟨F3,p3,rfl,-,-⟩:=h0
 have HT3_3:=hide h
 have HS3:=hide ((unhide HS2).trans (bb.mono (unhide HS2).size))
 have HT1_3:=hide ((unhide HT1_2).later (Kp.below bb (Nat.le_trans (unhide HB) (unhide HS2).size)))
 have HT2_3:=hide ((unhide HT2_2).later (Kp.below bb (Nat.le_trans (unhide HB) (unhide HS2).size)))
 clear bb h HT1_2 HT2_2
 go_wp2_with fail
 refine hK.out _ _ (Or.inr (unhide HS3)) ?_
 clear hK K HS2
 try simp only [Act.put,List.setIfInBounds_toArray,List.set_cons_zero,List.set_cons_succ]
 refine till_one 8 (by kernel_rfl) rfl (fun K hK=>?_)
 go_simp
 refine(txw_any B0 ⟨#[93]⟩ W3).mono ?_
 rintro e W4 ⟨t4,rfl,h,bb⟩
 have h0:=h
 obtain⟨F4,p4,rfl,-,-⟩:=h0
 have HT4_4:=hide h
 have HS4:=hide ((unhide HS3).trans (bb.mono (unhide HS3).size))
 have HT1_4:=hide ((unhide HT1_3).later (Kp.below bb (Nat.le_trans (unhide HB) (unhide HS3).size)))
 have HT2_4:=hide ((unhide HT2_3).later (Kp.below bb (Nat.le_trans (unhide HB) (unhide HS3).size)))
 have HT3_4:=hide ((unhide HT3_3).later (Kp.below bb (Nat.le_trans (unhide HB) (unhide HS3).size)))
 clear bb h HT1_3 HT2_3 HT3_3
 go_wp2_with fail
 refine hK.out _ _ (Or.inr (unhide HS4)) ?_
 clear hK K HS3
 try simp only [Act.put,List.setIfInBounds_toArray,List.set_cons_zero,List.set_cons_succ]
 obtain⟨W5,hW5⟩:∃W,W4.alloc (.cells #[.func (.func F1) #[] p1,.func (.func F2) #[] p2,.func (.func F3) #[] p3,.func (.func F4) #[] p4] 39)=W:=⟨_,rfl⟩
 obtain⟨q,hq⟩:∃q,W4.heap.size=q:=⟨_,rfl⟩
 have bb:Below W4.heap.size W4 W5:=by rw [←hW5];exact(Below.refl _ _).alloc (Nat.le_refl _) _
 have HX5:=hide (show Txs B0 W5 q _ from txs4 (by rw [←hW5,←hq];exact heap_alloc_new _ _) ((unhide HT1_4).later (Kp.below bb (Nat.le_trans (unhide HB) (unhide HS4).size))) ((unhide HT2_4).later (Kp.below bb (Nat.le_trans (unhide HB) (unhide HS4).size))) ((unhide HT3_4).later (Kp.below bb (Nat.le_trans (unhide HB) (unhide HS4).size))) ((unhide HT4_4).later (Kp.below bb (Nat.le_trans (unhide HB) (unhide HS4).size))))
 have HS5:=hide ((unhide HS4).trans (bb.mono (unhide HS4).size))
 clear bb HT1_4 HT2_4 HT3_4 HT4_4
 refine till_one 9 (by kernel_rfl) rfl (fun K hK=>?_)
 go_simp
 try rw [hW5]
 try rw [hq]
 refine hK.out _ _ (Or.inr (unhide HS5)) ?_
 clear hK K HS4 hW5 hq
 try simp only [Act.put,List.setIfInBounds_toArray,List.set_cons_zero,List.set_cons_succ]
 refine till_one 10 (by kernel_rfl) rfl (fun K hK=>?_)
 go_simp
 refine(row_any B0 q 4 4 _ W5 (Nat.le_trans (unhide HB) (unhide HS5).size) (unhide HX5) rfl (by decide)).mono ?_
 rintro e W6 ⟨tr,rfl,h,bb⟩
 have h0:=h
 obtain⟨Fr,pr,rfl,-,-⟩:=h0
 have HT:=hide h
 have HS6:=hide ((unhide HS5).trans (bb.mono (unhide HS5).size))
 clear bb h HX5
 go_wp2_with fail
 refine hK.out _ _ (Or.inr (unhide HS6)) ?_
 clear hK K HS5
 try simp only [Act.put,List.setIfInBounds_toArray,List.set_cons_zero,List.set_cons_succ]
 refine till_one 11 (by kernel_rfl) rfl (fun K hK=>?_)
 go_simp
 refine hK.out _ _ (Or.inl (by first|rfl|trivial)) ?_
 clear hK K
 try simp only [Act.put,List.setIfInBounds_toArray,List.set_cons_zero,List.set_cons_succ]
 refine till_done (by kernel_rfl) ?_ _
 go_wp2_with fail
 go_ret
 refine⟨_,rfl,?_,?_⟩
 ·have h1:=unhide HT
  rw [←unhide HR]
  have e:(ex1 21 t v ks (exM ks))=([opX 21 t ks (exM ks) 0,[91],Z,[93]]:List (List UInt8)).flatten:=by simp [ex1,unhide HY]
  first|(rw [e];exact h1)|(rw [e] at h1;exact h1)
 ·have:=((unhide HM) _ (unhide HS6)).2.2.1
  first|exact this|(rw [hG];exact this)
set_option maxRecDepth 100000 in
set_option maxHeartbeats 4000000 in
theorem ex13_any (B0:Nat) (v:Vl) (ks:List Tn) (vk vn p:Int) (t vs:ByteArray) (al ak a:Option Addr) (ll cl lk ck n cc:Nat) (f:Bool) (w:World) (hB:B0≤w.heap.size) (hr:RowN w B0 ks a cc) (hn:ks.length=n) (hG0:0<B0) (hP:PowAt w) (hv:IsV w B0 v (.agg #[.int .i64 vk,.int .i64 vn,.string vs,.slice al ll cl,.slice ak lk ck])) :
  Calls Tryz.prog 23 #[.agg #[.int .i64 13,.string t,.int .i64 vk,.int .i64 vn,.string vs,.slice al ll cl,.slice ak lk ck,.bool f,.slice a n cc,.int .i64 p]] w fun e w'=>∃t',e=.returned t'∧Txt B0 w' t' (ex1 13 t v ks (exM ks))∧Below w.heap.size w w':=by
 obtain⟨w1,hw1⟩:∃w1,w.alloc (.cells #[.int .i64 13,.string t,.int .i64 vk,.int .i64 vn,.string vs,.slice al ll cl,.slice ak lk ck,.bool f,.slice a n cc,.int .i64 p] 28)=w1:=⟨_,rfl⟩
 obtain⟨G,hG⟩:∃G,w.heap.size=G:=⟨_,rfl⟩
 have A1:w1.heap[G]?=some (.cells #[.int .i64 13,.string t,.int .i64 vk,.int .i64 vn,.string vs,.slice al ll cl,.slice ak lk ck,.bool f,.slice a n cc,.int .i64 p] 28 (0,0)):=by rw [←hw1,←hG];exact heap_alloc_new _ _
 have X1:Below G w w1:=by rw [←hw1,←hG];exact(Below.refl _ _).alloc (Nat.le_refl _) _
 have hBG:B0≤G:=by rw [←hG];exact hB
 have HM:Hid (∀u,Below w1.heap.size w1 u→RowN u B0 ks a cc∧PowAt u∧Below G w u∧B0≤u.heap.size):=hide (fun u h=>by
  have h2:=X1.trans (h.mono (Nat.le_of_lt (lt_of_row A1)))
  exact⟨hr.later (h2.mono hBG),hP.later h2 (by omega),h2,Nat.le_trans hBG (by rw [←hG];exact h2.size)⟩)
 have HF:Hid (∀u,Below w1.heap.size w1 u→u.cell? ⟨G,0,none⟩=some (.int .i64 13)∧u.cell? ⟨G,1,none⟩=some (.string t)∧u.cell? ⟨G,2,none⟩=some (.int .i64 vk)∧u.cell? ⟨G,3,none⟩=some (.int .i64 vn)∧u.cell? ⟨G,4,none⟩=some (.string vs)∧u.cell? ⟨G,5,none⟩=some (.slice al ll cl)∧u.cell? ⟨G,6,none⟩=some (.slice ak lk ck)∧u.cell? ⟨G,7,none⟩=some (.bool f)∧u.cell? ⟨G,8,none⟩=some (.slice a n cc)∧u.cell? ⟨G,9,none⟩=some (.int .i64 p)):=hide (fun u hu=>row_ten (Below.cellsAt hu A1))
 have HB:=hide (show B0≤w1.heap.size from Nat.le_trans hBG (Nat.le_of_lt (lt_of_row A1)))
 have HN:=hide (And.intro hn hG0)
 obtain⟨R,hR⟩:∃R,ex1 13 t v ks (exM ks)=R:=⟨_,rfl⟩
 rw [hR]
 have HR:=hide hR
 have HW:=hide hw1
 have CP:=hide (print_any v (.agg #[.int .i64 vk,.int .i64 vn,.string vs,.slice al ll cl,.slice ak lk ck]) B0 w1 (hv.mono (X1.mono hBG)) (Nat.le_trans hBG (Nat.le_of_lt (lt_of_row A1))) hG0 (hP.later X1 (by omega)))
 have HX1:=hide X1
 clear hv
 clear A1 X1 hw1 hBG hB hr hn hG0 hP hR
 go_enter Tryz.func23,Tryz.ntmps23
 go_upto_region 1 with fail
 rw [unhide HW]
 try rw [hG]
 clear HW
 obtain⟨x0,x1,x2,x3,x4,x5,x6,x7,x8,x9⟩:=unhide HF w1 (Below.refl _ _)
 go_wp2_with fail
 refine(unhide CP).mono ?_
 rintro e w2 ⟨T,rfl,hT,b2⟩
 have H2:=hide (And.intro hT b2)
 clear hT b2 CP x0 x1 x2 x3 x4 x5 x6 x7 x8 x9
 have CW:=hide (txw_any B0 T w2)
 go_wp2_with fail
 refine(unhide CW).mono ?_
 rintro e w3 ⟨t3,rfl,h3,b3⟩
 have H3:=hide (And.intro h3 b3)
 obtain⟨F3,p3,rfl,-,-⟩:=h3
 clear b3 CW
 go_wp2_with fail
 go_ret
 have e:R=T.data.toList:=by rw [←unhide HR,(unhide H2).1];simp [ex1]
 have hb:=((unhide HM) w3 ((unhide H2).2.trans ((unhide H3).2.mono (unhide H2).2.size))).2.2.1
 exact⟨_,rfl,by rw [e];exact(unhide H3).1,by first|exact hb|(rw [hG];exact hb)⟩
set_option maxRecDepth 100000 in
set_option maxHeartbeats 4000000 in
theorem ex14_any (B0:Nat) (v:Vl) (ks:List Tn) (vk vn p:Int) (t vs:ByteArray) (al ak a:Option Addr) (ll cl lk ck n cc:Nat) (f:Bool) (w:World) (hB:B0≤w.heap.size) (hr:RowN w B0 ks a cc) (hn:ks.length=n) (hG0:0<B0) (hP:PowAt w) :
  Calls Tryz.prog 23 #[.agg #[.int .i64 14,.string t,.int .i64 vk,.int .i64 vn,.string vs,.slice al ll cl,.slice ak lk ck,.bool f,.slice a n cc,.int .i64 p]] w fun e w'=>∃t',e=.returned t'∧Txt B0 w' t' (ex1 14 t v ks (exM ks))∧Below w.heap.size w w':=by
 obtain⟨w1,hw1⟩:∃w1,w.alloc (.cells #[.int .i64 14,.string t,.int .i64 vk,.int .i64 vn,.string vs,.slice al ll cl,.slice ak lk ck,.bool f,.slice a n cc,.int .i64 p] 28)=w1:=⟨_,rfl⟩
 obtain⟨G,hG⟩:∃G,w.heap.size=G:=⟨_,rfl⟩
 have A1:w1.heap[G]?=some (.cells #[.int .i64 14,.string t,.int .i64 vk,.int .i64 vn,.string vs,.slice al ll cl,.slice ak lk ck,.bool f,.slice a n cc,.int .i64 p] 28 (0,0)):=by rw [←hw1,←hG];exact heap_alloc_new _ _
 have X1:Below G w w1:=by rw [←hw1,←hG];exact(Below.refl _ _).alloc (Nat.le_refl _) _
 have hBG:B0≤G:=by rw [←hG];exact hB
 have HM:Hid (∀u,Below w1.heap.size w1 u→RowN u B0 ks a cc∧PowAt u∧Below G w u∧B0≤u.heap.size):=hide (fun u h=>by
  have h2:=X1.trans (h.mono (Nat.le_of_lt (lt_of_row A1)))
  exact⟨hr.later (h2.mono hBG),hP.later h2 (by omega),h2,Nat.le_trans hBG (by rw [←hG];exact h2.size)⟩)
 have HF:Hid (∀u,Below w1.heap.size w1 u→u.cell? ⟨G,0,none⟩=some (.int .i64 14)∧u.cell? ⟨G,1,none⟩=some (.string t)∧u.cell? ⟨G,2,none⟩=some (.int .i64 vk)∧u.cell? ⟨G,3,none⟩=some (.int .i64 vn)∧u.cell? ⟨G,4,none⟩=some (.string vs)∧u.cell? ⟨G,5,none⟩=some (.slice al ll cl)∧u.cell? ⟨G,6,none⟩=some (.slice ak lk ck)∧u.cell? ⟨G,7,none⟩=some (.bool f)∧u.cell? ⟨G,8,none⟩=some (.slice a n cc)∧u.cell? ⟨G,9,none⟩=some (.int .i64 p)):=hide (fun u hu=>row_ten (Below.cellsAt hu A1))
 have HB:=hide (show B0≤w1.heap.size from Nat.le_trans hBG (Nat.le_of_lt (lt_of_row A1)))
 have HN:=hide (And.intro hn hG0)
 obtain⟨R,hR⟩:∃R,ex1 14 t v ks (exM ks)=R:=⟨_,rfl⟩
 rw [hR]
 have HR:=hide hR
 have HW:=hide hw1
 clear A1 X1 hw1 hBG hB hr hn hG0 hP hR
 go_enter Tryz.func23,Tryz.ntmps23
 go_upto_region 1 with fail
 rw [unhide HW]
 try rw [hG]
 clear HW
 obtain⟨x0,x1,x2,x3,x4,x5,x6,x7,x8,x9⟩:=unhide HF w1 (Below.refl _ _)
 have CW:=hide (name_any B0 14 vk vn p t vs al ak a ll cl lk ck n cc f w1)
 go_wp2_with fail
 refine(unhide CW).mono ?_
 rintro e w3 ⟨t3,rfl,h3,b3⟩
 have H3:=hide (And.intro h3 b3)
 obtain⟨F3,p3,rfl,-,-⟩:=h3
 clear b3 CW x0 x1 x2 x3 x4 x5 x6 x7 x8 x9
 go_wp2_with fail
 go_ret
 have e:R=t.data.toList:=by rw [←unhide HR];simp [ex1]
 have hb:=((unhide HM) w3 (unhide H3).2).2.2.1
 exact⟨_,rfl,by rw [e];exact(unhide H3).1,by first|exact hb|(rw [hG];exact hb)⟩
end Go.Proofs.YtekbmfppfjlboaaGreatDoor
