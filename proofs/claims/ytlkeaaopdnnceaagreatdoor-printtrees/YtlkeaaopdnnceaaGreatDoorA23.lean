/-
  an expression is written.
  an expression is written.
  an expression is written.
  Conditions: where nodes are told of, they lie in memory.
-/
import Derived.Test.YtlkeaaopdnnceaaGreatDoorA22
set_option linter.unusedVariables false
set_option linter.unusedSimpArgs false
set_option maxRecDepth 100000
set_option maxHeartbeats 8000000
namespace Go.Proofs.YtlkeaaopdnnceaaGreatDoor
open Go.RowKit
set_option linter.unusedVariables false
set_option linter.unusedSimpArgs false
theorem ex17_any (B0:Nat) (v:Vl) (ks:List Tn) (vk vn p:Int) (t vs:ByteArray) (al ak:Option Addr) (ll cl lk ck n cc:Nat) (f:Bool) (b:Addr) (w:World) (hB:B0≤w.heap.size) (hr:RowN w B0 ks (some b) cc) (hn:ks.length=n) (hG0:0<B0) (hP:PowAt w) (hE:∀y∈ks,ExC B0 y) (h1:n=2) (hsz:t.size≤140737488351232) :
  Calls Tryz.prog 23 #[.agg #[.int .i64 17,.string t,.int .i64 vk,.int .i64 vn,.string vs,.slice al ll cl,.slice ak lk ck,.bool f,.slice (some b) n cc,.int .i64 p]] w fun e w'=>∃t',e=.returned t'∧Txt B0 w' t' (ex1 17 t v ks (exM ks))∧Below w.heap.size w w':=by
 obtain⟨w1,hw1⟩:∃w1,w.alloc (.cells #[.int .i64 17,.string t,.int .i64 vk,.int .i64 vn,.string vs,.slice al ll cl,.slice ak lk ck,.bool f,.slice (some b) n cc,.int .i64 p] 28)=w1:=⟨_,rfl⟩
 obtain⟨G,hG⟩:∃G,w.heap.size=G:=⟨_,rfl⟩
 obtain⟨A1,X1⟩:=al1 hw1 hG
 have hBG:B0≤G:=by rw [←hG];exact hB
 have HM:Hid (∀u,Below w1.heap.size w1 u→RowN u B0 ks (some b) cc∧PowAt u∧Below G w u∧B0≤u.heap.size):=hZ (fun u h=>by
  have h2:=X1.trans (h.mono (Nat.le_of_lt (lt_of_row A1)))
  exact⟨hr.later (h2.mono hBG),hP.later h2 (by omega),h2,Nat.le_trans hBG (by rw [←hG];exact h2.size)⟩)
 have HF:Hid (NF10 w1 G (.int .i64 17) (.string t) (.int .i64 vk) (.int .i64 vn) (.string vs) (.slice al ll cl) (.slice ak lk ck) (.bool f) (.slice (some b) n cc) (.int .i64 p)):=hZ (fun u hu=>row_ten (Below.cellsAt hu A1))
 have HB:=hZ (show B0≤w1.heap.size from Nat.le_trans hBG (Nat.le_of_lt (lt_of_row A1)))
 have HN:=hZ (And.intro hn hG0)
 obtain⟨R,hR⟩:∃R,ex1 17 t v ks (exM ks)=R:=⟨_,rfl⟩
 rw [hR]
 have HR:=hZ hR
 have HW:=hZ hw1
 have HI0:=hZ (show 0<n by omega)
 have HI1:=hZ (show 1<n by omega)
 have HE:=hZ hE
 clear hE
 have hz1:¬9223372036854775807<1+t.size:=by omega
 obtain⟨T2,hT2⟩:∃z,(⟨#[32]⟩++t:ByteArray)=z:=⟨_,rfl⟩
 have HD2:=hZ (show T2.data.toList=32 :: t.data.toList by rw [←hT2];simp)
 have HT2:=hZ hT2
 have hs2:T2.size=1+t.size:=by rw [←hT2,ByteArray.size_append];rfl
 have hz2:¬9223372036854775807<T2.size+1:=by omega
 obtain⟨T3,hT3⟩:∃z,(T2++⟨#[32]⟩:ByteArray)=z:=⟨_,rfl⟩
 have HD3:=hZ (show T3.data.toList=32 :: (t.data.toList++[32]) by rw [←hT3,ByteArray.data_append,Array.toList_append,uZ HD2];simp)
 have HT3:=hZ hT3
 clear h1 hT2 hT3 hs2
 clear A1 X1 hw1 hBG hB hr hn hG0 hP hR
 go_enter Tryz.func23,Tryz.ntmps23
 go_upto_region 1 with fail
 rw [uZ HW]
 try rw [hG]
 clear HW
 obtain⟨x0,x1,x2,x3,x4,x5,x6,x7,x8,x9⟩:=uZ HF w1 (Below.refl _ _)
 go_upto_region 13 with fail
 clear x0 x1 x2 x3 x4 x5 x6 x7 x8 x9
 have HS0:Hid (Below w1.heap.size w1 w1.drew):=hZ ((Below.refl _ _).drew)
 refine till_begin (S:=fun w'=>Below w1.heap.size w1 w') 11 (by kernel_rfl) ?_
 obtain⟨W0,hW0⟩:∃W0,w1.drew=W0:=⟨_,rfl⟩
 try rw [hW0]
 rw [hW0] at HS0
 clear hW0
 refine tK 0 (v:=.agg #[.int .i64 17,.string t,.int .i64 vk,.int .i64 vn,.string vs,.slice al ll cl,.slice ak lk ck,.bool f,.slice (some b) n cc,.int .i64 p]) (some 51) rfl rfl rfl (by kernel_rfl) (fun _ _ _ h=>h) (Or.inl ⟨by rfl,fun u hu=>by obtain⟨x0,x1,x2,x3,x4,x5,x6,x7,x8,x9⟩:=uZ HF u hu;go_simp⟩) (uZ HS0) ?_
 try simp only [Act.put,sA,sB,sC]
 refine tK 2 (v:=.pointer (some ⟨G,1,none⟩)) (some 53) rfl rfl rfl (by kernel_rfl) (fun _ _ _ h=>h) (Or.inl ⟨by rfl,fun u hu=>by obtain⟨x0,x1,x2,x3,x4,x5,x6,x7,x8,x9⟩:=uZ HF u hu;go_simp⟩) (uZ HS0) ?_
 try simp only [Act.put,sA,sB,sC]
 refine tK 3 (v:=.string t) (some 54) rfl rfl rfl (by kernel_rfl) (fun _ _ _ h=>h) (Or.inl ⟨by rfl,fun u hu=>by obtain⟨x0,x1,x2,x3,x4,x5,x6,x7,x8,x9⟩:=uZ HF u hu;go_simp⟩) (uZ HS0) ?_
 try simp only [Act.put,sA,sB,sC]
 refine tK 4 (v:=.string T2) (some 55) rfl rfl rfl (by kernel_rfl) (fun _ _ _ h=>h) (Or.inl ⟨by rfl,fun u hu=>by obtain⟨x0,x1,x2,x3,x4,x5,x6,x7,x8,x9⟩:=uZ HF u hu;have hT2:=uZ HT2;go_simp⟩) (uZ HS0) ?_
 try simp only [Act.put,sA,sB,sC]
 refine tK 5 (v:=.string T3) (some 56) rfl rfl rfl (by kernel_rfl) (fun _ _ _ h=>h) (Or.inl ⟨by rfl,fun u hu=>by obtain⟨x0,x1,x2,x3,x4,x5,x6,x7,x8,x9⟩:=uZ HF u hu;have hT3:=uZ HT3;go_simp⟩) (uZ HS0) ?_
 try simp only [Act.put,sA,sB,sC]
 refine tK 7 (v:=.agg #[.int .i64 17,.string t,.int .i64 vk,.int .i64 vn,.string vs,.slice al ll cl,.slice ak lk ck,.bool f,.slice (some b) n cc,.int .i64 p]) (some 58) rfl rfl rfl (by kernel_rfl) (fun _ _ _ h=>h) (Or.inl ⟨by rfl,fun u hu=>by obtain⟨x0,x1,x2,x3,x4,x5,x6,x7,x8,x9⟩:=uZ HF u hu;go_simp⟩) (uZ HS0) ?_
 try simp only [Act.put,sA,sB,sC]
 refine till_one 1 (by kernel_rfl) rfl (fun K hK=>?_)
 go_simp
 refine(operand_any B0 ks 17 vk vn p t vs al ak ll cl lk ck n cc f b 0 W0 (Nat.le_trans (uZ HB) (uZ HS0).size) ((uZ HM) W0 (uZ HS0)).1 (uZ HN).1 (uZ HI0) (uZ HN).2 ((uZ HM) W0 (uZ HS0)).2.1 (uZ HE)).mono ?_
 rintro e W1 ⟨t1,rfl,h,bb⟩
 have h0:=h
 obtain⟨F1,p1,rfl,-,-⟩:=h0
 have HT1_1:=hZ h
 have HS1:=hZ ((uZ HS0).trans (bb.mono (uZ HS0).size))
 clear bb h
 go_wp2_with fail
 refine hK.out _ _ (Or.inr (uZ HS1)) ?_
 clear hK K HS0
 try simp only [Act.put,sA,sB,sC]
 refine till_one 6 (by kernel_rfl) rfl (fun K hK=>?_)
 go_simp
 refine(txw_any B0 T3 W1).mono ?_
 rintro e W2 ⟨t2,rfl,h,bb⟩
 have h0:=h
 obtain⟨F2,p2,rfl,-,-⟩:=h0
 have HT2_2:=hZ h
 have HS2:=hZ ((uZ HS1).trans (bb.mono (uZ HS1).size))
 have HT1_2:=hZ ((uZ HT1_1).later (Kp.below bb (Nat.le_trans (uZ HB) (uZ HS1).size)))
 clear bb h HT1_1
 go_wp2_with fail
 refine hK.out _ _ (Or.inr (uZ HS2)) ?_
 clear hK K HS1
 try simp only [Act.put,sA,sB,sC]
 refine till_one 8 (by kernel_rfl) rfl (fun K hK=>?_)
 go_simp
 refine(operand_any B0 ks 17 vk vn p t vs al ak ll cl lk ck n cc f b 1 W2 (Nat.le_trans (uZ HB) (uZ HS2).size) ((uZ HM) W2 (uZ HS2)).1 (uZ HN).1 (uZ HI1) (uZ HN).2 ((uZ HM) W2 (uZ HS2)).2.1 (uZ HE)).mono ?_
 rintro e W3 ⟨t3,rfl,h,bb⟩
 have h0:=h
 obtain⟨F3,p3,rfl,-,-⟩:=h0
 have HT3_3:=hZ h
 have HS3:=hZ ((uZ HS2).trans (bb.mono (uZ HS2).size))
 have HT1_3:=hZ ((uZ HT1_2).later (Kp.below bb (Nat.le_trans (uZ HB) (uZ HS2).size)))
 have HT2_3:=hZ ((uZ HT2_2).later (Kp.below bb (Nat.le_trans (uZ HB) (uZ HS2).size)))
 clear bb h HT1_2 HT2_2
 go_wp2_with fail
 refine hK.out _ _ (Or.inr (uZ HS3)) ?_
 clear hK K HS2
 try simp only [Act.put,sA,sB,sC]
 obtain⟨W4,hW4⟩:∃W,W3.alloc (.cells #[.func (.func F1) #[] p1,.func (.func F2) #[] p2,.func (.func F3) #[] p3] 39)=W:=⟨_,rfl⟩
 obtain⟨q,hq⟩:∃q,W3.heap.size=q:=⟨_,rfl⟩
 have bb:Below W3.heap.size W3 W4:=by rw [←hW4];exact(Below.refl _ _).alloc (Nat.le_refl _) _
 have HX4:=hZ (show Txs B0 W4 q _ from txs3 (by rw [←hW4,←hq];exact heap_alloc_new _ _) ((uZ HT1_3).later (Kp.below bb (Nat.le_trans (uZ HB) (uZ HS3).size))) ((uZ HT2_3).later (Kp.below bb (Nat.le_trans (uZ HB) (uZ HS3).size))) ((uZ HT3_3).later (Kp.below bb (Nat.le_trans (uZ HB) (uZ HS3).size))))
 have HS4:=hZ ((uZ HS3).trans (bb.mono (uZ HS3).size))
 clear bb HT1_3 HT2_3 HT3_3
 refine till_one 9 (by kernel_rfl) rfl (fun K hK=>?_)
 go_simp
 try rw [hW4]
 try rw [hq]
 refine hK.out _ _ (Or.inr (uZ HS4)) ?_
 clear hK K HS3 hW4 hq
 try simp only [Act.put,sA,sB,sC]
 refine till_one 10 (by kernel_rfl) rfl (fun K hK=>?_)
 go_simp
 refine(row_any B0 q 3 3 _ W4 (Nat.le_trans (uZ HB) (uZ HS4).size) (uZ HX4) rfl (by decide)).mono ?_
 rintro e W5 ⟨tr,rfl,h,bb⟩
 have h0:=h
 obtain⟨Fr,pr,rfl,-,-⟩:=h0
 have HT:=hZ h
 have HS5:=hZ ((uZ HS4).trans (bb.mono (uZ HS4).size))
 clear bb h HX4
 go_wp2_with fail
 refine hK.out _ _ (Or.inr (uZ HS5)) ?_
 clear hK K HS4
 try simp only [Act.put,sA,sB,sC]
 refine till_one 11 (by kernel_rfl) rfl (fun K hK=>?_)
 go_simp
 refine hK.out _ _ (Or.inl (by first|rfl|trivial)) ?_
 clear hK K
 try simp only [Act.put,sA,sB,sC]
 refine till_done (by kernel_rfl) ?_ _
 go_wp2_with fail
 go_ret
 refine⟨_,rfl,?_,?_⟩
 ·have h1:=uZ HT
  rw [←uZ HR]
  have e:(ex1 17 t v ks (exM ks))=([opX 17 t ks (exM ks) 0,T3.data.toList,opX 17 t ks (exM ks) 1]:List (List UInt8)).flatten:=by rw [uZ HD3];simp [ex1]
  first|(rw [e];exact h1)|(rw [e] at h1;exact h1)
 ·have:=((uZ HM) _ (uZ HS5)).2.2.1
  first|exact this|(rw [hG];exact this)
theorem ex22_any (B0:Nat) (v:Vl) (ks:List Tn) (vk vn p:Int) (t vs:ByteArray) (al ak:Option Addr) (ll cl lk ck n cc:Nat) (f:Bool) (b:Addr) (w:World) (hB:B0≤w.heap.size) (hr:RowN w B0 ks (some b) cc) (hn:ks.length=n) (hG0:0<B0) (hP:PowAt w) (hE:∀y∈ks,ExC B0 y) (h1:n=1) (hsz:t.size≤140737488351232) :
  Calls Tryz.prog 23 #[.agg #[.int .i64 22,.string t,.int .i64 vk,.int .i64 vn,.string vs,.slice al ll cl,.slice ak lk ck,.bool f,.slice (some b) n cc,.int .i64 p]] w fun e w'=>∃t',e=.returned t'∧Txt B0 w' t' (ex1 22 t v ks (exM ks))∧Below w.heap.size w w':=by
 obtain⟨w1,hw1⟩:∃w1,w.alloc (.cells #[.int .i64 22,.string t,.int .i64 vk,.int .i64 vn,.string vs,.slice al ll cl,.slice ak lk ck,.bool f,.slice (some b) n cc,.int .i64 p] 28)=w1:=⟨_,rfl⟩
 obtain⟨G,hG⟩:∃G,w.heap.size=G:=⟨_,rfl⟩
 obtain⟨A1,X1⟩:=al1 hw1 hG
 have hBG:B0≤G:=by rw [←hG];exact hB
 have HM:Hid (∀u,Below w1.heap.size w1 u→RowN u B0 ks (some b) cc∧PowAt u∧Below G w u∧B0≤u.heap.size):=hZ (fun u h=>by
  have h2:=X1.trans (h.mono (Nat.le_of_lt (lt_of_row A1)))
  exact⟨hr.later (h2.mono hBG),hP.later h2 (by omega),h2,Nat.le_trans hBG (by rw [←hG];exact h2.size)⟩)
 have HF:Hid (NF10 w1 G (.int .i64 22) (.string t) (.int .i64 vk) (.int .i64 vn) (.string vs) (.slice al ll cl) (.slice ak lk ck) (.bool f) (.slice (some b) n cc) (.int .i64 p)):=hZ (fun u hu=>row_ten (Below.cellsAt hu A1))
 have HB:=hZ (show B0≤w1.heap.size from Nat.le_trans hBG (Nat.le_of_lt (lt_of_row A1)))
 have HN:=hZ (And.intro hn hG0)
 obtain⟨R,hR⟩:∃R,ex1 22 t v ks (exM ks)=R:=⟨_,rfl⟩
 rw [hR]
 have HR:=hZ hR
 have HW:=hZ hw1
 have HI0:=hZ (show 0<n by omega)
 have HE:=hZ hE
 clear hE
 have hz1:¬9223372036854775807<1+t.size:=by omega
 obtain⟨T2,hT2⟩:∃z,(⟨#[46]⟩++t:ByteArray)=z:=⟨_,rfl⟩
 have HD2:=hZ (show T2.data.toList=46 :: t.data.toList by rw [←hT2];simp)
 have HT2:=hZ hT2
 have hs2:T2.size=1+t.size:=by rw [←hT2,ByteArray.size_append];rfl
 clear h1 hT2 hs2
 clear A1 X1 hw1 hBG hB hr hn hG0 hP hR
 go_enter Tryz.func23,Tryz.ntmps23
 go_upto_region 1 with fail
 rw [uZ HW]
 try rw [hG]
 clear HW
 obtain⟨x0,x1,x2,x3,x4,x5,x6,x7,x8,x9⟩:=uZ HF w1 (Below.refl _ _)
 go_upto_region 17 with fail
 clear x0 x1 x2 x3 x4 x5 x6 x7 x8 x9
 have HS0:Hid (Below w1.heap.size w1 w1.drew):=hZ ((Below.refl _ _).drew)
 refine till_begin (S:=fun w'=>Below w1.heap.size w1 w') 8 (by kernel_rfl) ?_
 obtain⟨W0,hW0⟩:∃W0,w1.drew=W0:=⟨_,rfl⟩
 try rw [hW0]
 rw [hW0] at HS0
 clear hW0
 refine tK 0 (v:=.agg #[.int .i64 22,.string t,.int .i64 vk,.int .i64 vn,.string vs,.slice al ll cl,.slice ak lk ck,.bool f,.slice (some b) n cc,.int .i64 p]) (some 77) rfl rfl rfl (by kernel_rfl) (fun _ _ _ h=>h) (Or.inl ⟨by rfl,fun u hu=>by obtain⟨x0,x1,x2,x3,x4,x5,x6,x7,x8,x9⟩:=uZ HF u hu;go_simp⟩) (uZ HS0) ?_
 try simp only [Act.put,sA,sB,sC]
 refine tK 2 (v:=.pointer (some ⟨G,1,none⟩)) (some 79) rfl rfl rfl (by kernel_rfl) (fun _ _ _ h=>h) (Or.inl ⟨by rfl,fun u hu=>by obtain⟨x0,x1,x2,x3,x4,x5,x6,x7,x8,x9⟩:=uZ HF u hu;go_simp⟩) (uZ HS0) ?_
 try simp only [Act.put,sA,sB,sC]
 refine tK 3 (v:=.string t) (some 80) rfl rfl rfl (by kernel_rfl) (fun _ _ _ h=>h) (Or.inl ⟨by rfl,fun u hu=>by obtain⟨x0,x1,x2,x3,x4,x5,x6,x7,x8,x9⟩:=uZ HF u hu;go_simp⟩) (uZ HS0) ?_
 try simp only [Act.put,sA,sB,sC]
 refine tK 4 (v:=.string T2) (some 81) rfl rfl rfl (by kernel_rfl) (fun _ _ _ h=>h) (Or.inl ⟨by rfl,fun u hu=>by obtain⟨x0,x1,x2,x3,x4,x5,x6,x7,x8,x9⟩:=uZ HF u hu;have hT2:=uZ HT2;go_simp⟩) (uZ HS0) ?_
 try simp only [Act.put,sA,sB,sC]
 refine till_one 1 (by kernel_rfl) rfl (fun K hK=>?_)
 go_simp
 refine(operand_any B0 ks 22 vk vn p t vs al ak ll cl lk ck n cc f b 0 W0 (Nat.le_trans (uZ HB) (uZ HS0).size) ((uZ HM) W0 (uZ HS0)).1 (uZ HN).1 (uZ HI0) (uZ HN).2 ((uZ HM) W0 (uZ HS0)).2.1 (uZ HE)).mono ?_
 rintro e W1 ⟨t1,rfl,h,bb⟩
 have h0:=h
 obtain⟨F1,p1,rfl,-,-⟩:=h0
 have HT1_1:=hZ h
 have HS1:=hZ ((uZ HS0).trans (bb.mono (uZ HS0).size))
 clear bb h
 go_wp2_with fail
 refine hK.out _ _ (Or.inr (uZ HS1)) ?_
 clear hK K HS0
 try simp only [Act.put,sA,sB,sC]
 refine till_one 5 (by kernel_rfl) rfl (fun K hK=>?_)
 go_simp
 refine(txw_any B0 T2 W1).mono ?_
 rintro e W2 ⟨t2,rfl,h,bb⟩
 have h0:=h
 obtain⟨F2,p2,rfl,-,-⟩:=h0
 have HT2_2:=hZ h
 have HS2:=hZ ((uZ HS1).trans (bb.mono (uZ HS1).size))
 have HT1_2:=hZ ((uZ HT1_1).later (Kp.below bb (Nat.le_trans (uZ HB) (uZ HS1).size)))
 clear bb h HT1_1
 go_wp2_with fail
 refine hK.out _ _ (Or.inr (uZ HS2)) ?_
 clear hK K HS1
 try simp only [Act.put,sA,sB,sC]
 obtain⟨W3,hW3⟩:∃W,W2.alloc (.cells #[.func (.func F1) #[] p1,.func (.func F2) #[] p2] 39)=W:=⟨_,rfl⟩
 obtain⟨q,hq⟩:∃q,W2.heap.size=q:=⟨_,rfl⟩
 have bb:Below W2.heap.size W2 W3:=by rw [←hW3];exact(Below.refl _ _).alloc (Nat.le_refl _) _
 have HX3:=hZ (show Txs B0 W3 q _ from txs2 (by rw [←hW3,←hq];exact heap_alloc_new _ _) ((uZ HT1_2).later (Kp.below bb (Nat.le_trans (uZ HB) (uZ HS2).size))) ((uZ HT2_2).later (Kp.below bb (Nat.le_trans (uZ HB) (uZ HS2).size))))
 have HS3:=hZ ((uZ HS2).trans (bb.mono (uZ HS2).size))
 clear bb HT1_2 HT2_2
 refine till_one 6 (by kernel_rfl) rfl (fun K hK=>?_)
 go_simp
 try rw [hW3]
 try rw [hq]
 refine hK.out _ _ (Or.inr (uZ HS3)) ?_
 clear hK K HS2 hW3 hq
 try simp only [Act.put,sA,sB,sC]
 refine till_one 7 (by kernel_rfl) rfl (fun K hK=>?_)
 go_simp
 refine(row_any B0 q 2 2 _ W3 (Nat.le_trans (uZ HB) (uZ HS3).size) (uZ HX3) rfl (by decide)).mono ?_
 rintro e W4 ⟨tr,rfl,h,bb⟩
 have h0:=h
 obtain⟨Fr,pr,rfl,-,-⟩:=h0
 have HT:=hZ h
 have HS4:=hZ ((uZ HS3).trans (bb.mono (uZ HS3).size))
 clear bb h HX3
 go_wp2_with fail
 refine hK.out _ _ (Or.inr (uZ HS4)) ?_
 clear hK K HS3
 try simp only [Act.put,sA,sB,sC]
 refine till_one 8 (by kernel_rfl) rfl (fun K hK=>?_)
 go_simp
 refine hK.out _ _ (Or.inl (by first|rfl|trivial)) ?_
 clear hK K
 try simp only [Act.put,sA,sB,sC]
 refine till_done (by kernel_rfl) ?_ _
 go_wp2_with fail
 go_ret
 refine⟨_,rfl,?_,?_⟩
 ·have h1:=uZ HT
  rw [←uZ HR]
  have e:(ex1 22 t v ks (exM ks))=([opX 22 t ks (exM ks) 0,T2.data.toList]:List (List UInt8)).flatten:=by rw [uZ HD2];simp [ex1]
  first|(rw [e];exact h1)|(rw [e] at h1;exact h1)
 ·have:=((uZ HM) _ (uZ HS4)).2.2.1
  first|exact this|(rw [hG];exact this)
theorem ex21_any (B0:Nat) (v:Vl) (ks:List Tn) (vk vn p:Int) (t vs:ByteArray) (al ak:Option Addr) (ll cl lk ck n cc:Nat) (f:Bool) (b:Addr) (w:World) (hB:B0≤w.heap.size) (hr:RowN w B0 ks (some b) cc) (hn:ks.length=n) (hG0:0<B0) (hP:PowAt w) (hE:∀y∈ks,ExC B0 y) (h1:n=2) :
  Calls Tryz.prog 23 #[.agg #[.int .i64 21,.string t,.int .i64 vk,.int .i64 vn,.string vs,.slice al ll cl,.slice ak lk ck,.bool f,.slice (some b) n cc,.int .i64 p]] w fun e w'=>∃t',e=.returned t'∧Txt B0 w' t' (ex1 21 t v ks (exM ks))∧Below w.heap.size w w':=by
 obtain⟨w1,hw1⟩:∃w1,w.alloc (.cells #[.int .i64 21,.string t,.int .i64 vk,.int .i64 vn,.string vs,.slice al ll cl,.slice ak lk ck,.bool f,.slice (some b) n cc,.int .i64 p] 28)=w1:=⟨_,rfl⟩
 obtain⟨G,hG⟩:∃G,w.heap.size=G:=⟨_,rfl⟩
 obtain⟨A1,X1⟩:=al1 hw1 hG
 have hBG:B0≤G:=by rw [←hG];exact hB
 have HM:Hid (∀u,Below w1.heap.size w1 u→RowN u B0 ks (some b) cc∧PowAt u∧Below G w u∧B0≤u.heap.size):=hZ (fun u h=>by
  have h2:=X1.trans (h.mono (Nat.le_of_lt (lt_of_row A1)))
  exact⟨hr.later (h2.mono hBG),hP.later h2 (by omega),h2,Nat.le_trans hBG (by rw [←hG];exact h2.size)⟩)
 have HF:Hid (NF10 w1 G (.int .i64 21) (.string t) (.int .i64 vk) (.int .i64 vn) (.string vs) (.slice al ll cl) (.slice ak lk ck) (.bool f) (.slice (some b) n cc) (.int .i64 p)):=hZ (fun u hu=>row_ten (Below.cellsAt hu A1))
 have HB:=hZ (show B0≤w1.heap.size from Nat.le_trans hBG (Nat.le_of_lt (lt_of_row A1)))
 have HN:=hZ (And.intro hn hG0)
 obtain⟨R,hR⟩:∃R,ex1 21 t v ks (exM ks)=R:=⟨_,rfl⟩
 rw [hR]
 have HR:=hZ hR
 have HW:=hZ hw1
 have hi1:(1:Int)<(n:Int):=by omega
 obtain⟨y,hy⟩:∃y,ks[1]?=some y:=⟨_,List.getElem?_eq_getElem (by omega)⟩
 have hEy:=hE y (List.mem_of_getElem? hy)
 obtain⟨b',vky,vny,vsy,aly,aky,ay,lly,cly,lky,cky,ny,ccy,eb,hcy,hby,hny,hzy,hcelly⟩:=hr.ten hy
 obtain rfl:b=b':=Option.some.inj eb
 have hncc:n≤cc:=by rw [←hn];exact hcy
 have HY:=hZ (exM_at ks 1 y hy)
 obtain⟨ky,hky⟩:∃z,y.k=z:=⟨_,rfl⟩
 obtain⟨ty,hty⟩:∃z,y.t=z:=⟨_,rfl⟩
 obtain⟨fy,hfy⟩:∃z,y.f=z:=⟨_,rfl⟩
 obtain⟨py,hpy⟩:∃z,y.p=z:=⟨_,rfl⟩
 rw [hky,hty,hfy,hpy] at hzy hcelly
 have X0:∀u,Below w1.heap.size w1 u→Below G w u:=fun u h=>X1.trans (h.mono (Nat.le_of_lt (lt_of_row A1)))
 have HK:Hid (∀u,Below w1.heap.size w1 u→u.cell? ⟨b.block,b.off+10,none⟩=some (.int .i64 ky)∧u.cell? ⟨b.block,b.off+10+1,none⟩=some (.string ty)∧u.cell? ⟨b.block,b.off+10+2,none⟩=some (.int .i64 vky)∧u.cell? ⟨b.block,b.off+10+3,none⟩=some (.int .i64 vny)∧u.cell? ⟨b.block,b.off+10+4,none⟩=some (.string vsy)∧u.cell? ⟨b.block,b.off+10+5,none⟩=some (.slice aly lly cly)∧u.cell? ⟨b.block,b.off+10+6,none⟩=some (.slice aky lky cky)∧u.cell? ⟨b.block,b.off+10+7,none⟩=some (.bool fy)∧u.cell? ⟨b.block,b.off+10+8,none⟩=some (.slice ay ny ccy)∧u.cell? ⟨b.block,b.off+10+9,none⟩=some (.int .i64 py)):=hZ (fun u h=>by
  have hc:∀j v,([.int .i64 ky,.string ty,.int .i64 vky,.int .i64 vny,.string vsy,.slice aly lly cly,.slice aky lky cky,.bool fy,.slice ay ny ccy,.int .i64 py]:List Value)[j]?=some v→u.cell? ((b.add (1 * 10)).add j)=some v:=fun j v hj=>(World.cell?_of_block ((X0 u h).block _ (by rw [block_add,block_add];omega))).trans (hcelly j v hj)
  exact⟨hc 0 _ rfl,hc 1 _ rfl,hc 2 _ rfl,hc 3 _ rfl,hc 4 _ rfl,hc 5 _ rfl,hc 6 _ rfl,hc 7 _ rfl,hc 8 _ rfl,hc 9 _ rfl⟩)
 obtain⟨Z,hZz⟩:∃Z,exT y=Z:=⟨_,rfl⟩
 rw [hZz] at HY
 have CE:Hid (∀u,Below w1.heap.size w1 u→Calls Tryz.prog 23 #[.agg #[.int .i64 ky,.string ty,.int .i64 vky,.int .i64 vny,.string vsy,.slice aly lly cly,.slice aky lky cky,.bool fy,.slice ay ny ccy,.int .i64 py]] u fun e u'=>∃t,e=.returned t∧Txt B0 u' t Z∧Below u.heap.size u u'):=hZ (fun u h=>by rw [←hZz];exact hEy _ u (Nat.le_trans hBG (by rw [←hG];exact(X0 u h).size)) hG0 (hP.later (X0 u h) (by omega)) (hzy.laterB ((X0 u h).mono hBG)))
 clear hEy hzy hcelly hy hny hcy hby hky hty hfy hpy hZz X0 eb
 have HI0:=hZ (show 0<n by omega)
 have HI1:=hZ (show 1<n by omega)
 have HE:=hZ hE
 clear hE
 clear h1
 clear A1 X1 hw1 hBG hB hr hn hG0 hP hR
 go_enter Tryz.func23,Tryz.ntmps23
 go_upto_region 1 with fail
 rw [uZ HW]
 try rw [hG]
 clear HW
 obtain⟨x0,x1,x2,x3,x4,x5,x6,x7,x8,x9⟩:=uZ HF w1 (Below.refl _ _)
 go_upto_region 15 with fail
 clear x0 x1 x2 x3 x4 x5 x6 x7 x8 x9
 have HS0:Hid (Below w1.heap.size w1 w1.drew):=hZ ((Below.refl _ _).drew)
 refine till_begin (S:=fun w'=>Below w1.heap.size w1 w') 11 (by kernel_rfl) ?_
 obtain⟨W0,hW0⟩:∃W0,w1.drew=W0:=⟨_,rfl⟩
 try rw [hW0]
 rw [hW0] at HS0
 clear hW0
 refine tK 0 (v:=.agg #[.int .i64 21,.string t,.int .i64 vk,.int .i64 vn,.string vs,.slice al ll cl,.slice ak lk ck,.bool f,.slice (some b) n cc,.int .i64 p]) (some 64) rfl rfl rfl (by kernel_rfl) (fun _ _ _ h=>h) (Or.inl ⟨by rfl,fun u hu=>by obtain⟨x0,x1,x2,x3,x4,x5,x6,x7,x8,x9⟩:=uZ HF u hu;go_simp⟩) (uZ HS0) ?_
 try simp only [Act.put,sA,sB,sC]
 refine tK 3 (v:=.pointer (some ⟨G,8,none⟩)) (some 67) rfl rfl rfl (by kernel_rfl) (fun _ _ _ h=>h) (Or.inl ⟨by rfl,fun u hu=>by obtain⟨x0,x1,x2,x3,x4,x5,x6,x7,x8,x9⟩:=uZ HF u hu;go_simp⟩) (uZ HS0) ?_
 try simp only [Act.put,sA,sB,sC]
 refine tK 4 (v:=.slice (some b) n cc) (some 68) rfl rfl rfl (by kernel_rfl) (fun _ _ _ h=>h) (Or.inl ⟨by rfl,fun u hu=>by obtain⟨x0,x1,x2,x3,x4,x5,x6,x7,x8,x9⟩:=uZ HF u hu;go_simp⟩) (uZ HS0) ?_
 try simp only [Act.put,sA,sB,sC]
 refine tK 5 (v:=.pointer (some ⟨b.block,b.off+10,none⟩)) (some 69) rfl rfl rfl (by kernel_rfl) (fun _ _ _ h=>h) (Or.inl ⟨by rfl,fun u hu=>by obtain⟨x0,x1,x2,x3,x4,x5,x6,x7,x8,x9⟩:=uZ HF u hu;obtain⟨z0,z1,z2,z3,z4,z5,z6,z7,z8,z9⟩:=uZ HK u hu;go_simp⟩) (uZ HS0) ?_
 try simp only [Act.put,sA,sB,sC]
 refine tK 6 (v:=.agg #[.int .i64 ky,.string ty,.int .i64 vky,.int .i64 vny,.string vsy,.slice aly lly cly,.slice aky lky cky,.bool fy,.slice ay ny ccy,.int .i64 py]) (some 70) rfl rfl rfl (by kernel_rfl) (fun _ _ _ h=>h) (Or.inl ⟨by rfl,fun u hu=>by obtain⟨x0,x1,x2,x3,x4,x5,x6,x7,x8,x9⟩:=uZ HF u hu;obtain⟨z0,z1,z2,z3,z4,z5,z6,z7,z8,z9⟩:=uZ HK u hu;go_simp⟩) (uZ HS0) ?_
 try simp only [Act.put,sA,sB,sC]
 refine till_one 1 (by kernel_rfl) rfl (fun K hK=>?_)
 go_simp
 refine(operand_any B0 ks 21 vk vn p t vs al ak ll cl lk ck n cc f b 0 W0 (Nat.le_trans (uZ HB) (uZ HS0).size) ((uZ HM) W0 (uZ HS0)).1 (uZ HN).1 (uZ HI0) (uZ HN).2 ((uZ HM) W0 (uZ HS0)).2.1 (uZ HE)).mono ?_
 rintro e W1 ⟨t1,rfl,h,bb⟩
 have h0:=h
 obtain⟨F1,p1,rfl,-,-⟩:=h0
 have HT1_1:=hZ h
 have HS1:=hZ ((uZ HS0).trans (bb.mono (uZ HS0).size))
 clear bb h
 go_wp2_with fail
 refine hK.out _ _ (Or.inr (uZ HS1)) ?_
 clear hK K HS0
 try simp only [Act.put,sA,sB,sC]
 refine till_one 2 (by kernel_rfl) rfl (fun K hK=>?_)
 go_simp
 refine(txw_any B0 ⟨#[91]⟩ W1).mono ?_
 rintro e W2 ⟨t2,rfl,h,bb⟩
 have h0:=h
 obtain⟨F2,p2,rfl,-,-⟩:=h0
 have HT2_2:=hZ h
 have HS2:=hZ ((uZ HS1).trans (bb.mono (uZ HS1).size))
 have HT1_2:=hZ ((uZ HT1_1).later (Kp.below bb (Nat.le_trans (uZ HB) (uZ HS1).size)))
 clear bb h HT1_1
 go_wp2_with fail
 refine hK.out _ _ (Or.inr (uZ HS2)) ?_
 clear hK K HS1
 try simp only [Act.put,sA,sB,sC]
 refine till_one 7 (by kernel_rfl) rfl (fun K hK=>?_)
 go_simp
 refine((uZ CE) W2 (uZ HS2)).mono ?_
 rintro e W3 ⟨t3,rfl,h,bb⟩
 have h0:=h
 obtain⟨F3,p3,rfl,-,-⟩:=h0
 have HT3_3:=hZ h
 have HS3:=hZ ((uZ HS2).trans (bb.mono (uZ HS2).size))
 have HT1_3:=hZ ((uZ HT1_2).later (Kp.below bb (Nat.le_trans (uZ HB) (uZ HS2).size)))
 have HT2_3:=hZ ((uZ HT2_2).later (Kp.below bb (Nat.le_trans (uZ HB) (uZ HS2).size)))
 clear bb h HT1_2 HT2_2
 go_wp2_with fail
 refine hK.out _ _ (Or.inr (uZ HS3)) ?_
 clear hK K HS2
 try simp only [Act.put,sA,sB,sC]
 refine till_one 8 (by kernel_rfl) rfl (fun K hK=>?_)
 go_simp
 refine(txw_any B0 ⟨#[93]⟩ W3).mono ?_
 rintro e W4 ⟨t4,rfl,h,bb⟩
 have h0:=h
 obtain⟨F4,p4,rfl,-,-⟩:=h0
 have HT4_4:=hZ h
 have HS4:=hZ ((uZ HS3).trans (bb.mono (uZ HS3).size))
 have HT1_4:=hZ ((uZ HT1_3).later (Kp.below bb (Nat.le_trans (uZ HB) (uZ HS3).size)))
 have HT2_4:=hZ ((uZ HT2_3).later (Kp.below bb (Nat.le_trans (uZ HB) (uZ HS3).size)))
 have HT3_4:=hZ ((uZ HT3_3).later (Kp.below bb (Nat.le_trans (uZ HB) (uZ HS3).size)))
 clear bb h HT1_3 HT2_3 HT3_3
 go_wp2_with fail
 refine hK.out _ _ (Or.inr (uZ HS4)) ?_
 clear hK K HS3
 try simp only [Act.put,sA,sB,sC]
 obtain⟨W5,hW5⟩:∃W,W4.alloc (.cells #[.func (.func F1) #[] p1,.func (.func F2) #[] p2,.func (.func F3) #[] p3,.func (.func F4) #[] p4] 39)=W:=⟨_,rfl⟩
 obtain⟨q,hq⟩:∃q,W4.heap.size=q:=⟨_,rfl⟩
 have bb:Below W4.heap.size W4 W5:=by rw [←hW5];exact(Below.refl _ _).alloc (Nat.le_refl _) _
 have HX5:=hZ (show Txs B0 W5 q _ from txs4 (by rw [←hW5,←hq];exact heap_alloc_new _ _) ((uZ HT1_4).later (Kp.below bb (Nat.le_trans (uZ HB) (uZ HS4).size))) ((uZ HT2_4).later (Kp.below bb (Nat.le_trans (uZ HB) (uZ HS4).size))) ((uZ HT3_4).later (Kp.below bb (Nat.le_trans (uZ HB) (uZ HS4).size))) ((uZ HT4_4).later (Kp.below bb (Nat.le_trans (uZ HB) (uZ HS4).size))))
 have HS5:=hZ ((uZ HS4).trans (bb.mono (uZ HS4).size))
 clear bb HT1_4 HT2_4 HT3_4 HT4_4
 refine till_one 9 (by kernel_rfl) rfl (fun K hK=>?_)
 go_simp
 try rw [hW5]
 try rw [hq]
 refine hK.out _ _ (Or.inr (uZ HS5)) ?_
 clear hK K HS4 hW5 hq
 try simp only [Act.put,sA,sB,sC]
 refine till_one 10 (by kernel_rfl) rfl (fun K hK=>?_)
 go_simp
 refine(row_any B0 q 4 4 _ W5 (Nat.le_trans (uZ HB) (uZ HS5).size) (uZ HX5) rfl (by decide)).mono ?_
 rintro e W6 ⟨tr,rfl,h,bb⟩
 have h0:=h
 obtain⟨Fr,pr,rfl,-,-⟩:=h0
 have HT:=hZ h
 have HS6:=hZ ((uZ HS5).trans (bb.mono (uZ HS5).size))
 clear bb h HX5
 go_wp2_with fail
 refine hK.out _ _ (Or.inr (uZ HS6)) ?_
 clear hK K HS5
 try simp only [Act.put,sA,sB,sC]
 refine till_one 11 (by kernel_rfl) rfl (fun K hK=>?_)
 go_simp
 refine hK.out _ _ (Or.inl (by first|rfl|trivial)) ?_
 clear hK K
 try simp only [Act.put,sA,sB,sC]
 refine till_done (by kernel_rfl) ?_ _
 go_wp2_with fail
 go_ret
 refine⟨_,rfl,?_,?_⟩
 ·have h1:=uZ HT
  rw [←uZ HR]
  have e:(ex1 21 t v ks (exM ks))=([opX 21 t ks (exM ks) 0,[91],Z,[93]]:List (List UInt8)).flatten:=by simp [ex1,uZ HY]
  first|(rw [e];exact h1)|(rw [e] at h1;exact h1)
 ·have:=((uZ HM) _ (uZ HS6)).2.2.1
  first|exact this|(rw [hG];exact this)
theorem ex13_any (B0:Nat) (v:Vl) (ks:List Tn) (vk vn p:Int) (t vs:ByteArray) (al ak a:Option Addr) (ll cl lk ck n cc:Nat) (f:Bool) (w:World) (hB:B0≤w.heap.size) (hr:RowN w B0 ks a cc) (hn:ks.length=n) (hG0:0<B0) (hP:PowAt w) (hv:IsV w B0 v (.agg #[.int .i64 vk,.int .i64 vn,.string vs,.slice al ll cl,.slice ak lk ck])) :
  Calls Tryz.prog 23 #[.agg #[.int .i64 13,.string t,.int .i64 vk,.int .i64 vn,.string vs,.slice al ll cl,.slice ak lk ck,.bool f,.slice a n cc,.int .i64 p]] w fun e w'=>∃t',e=.returned t'∧Txt B0 w' t' (ex1 13 t v ks (exM ks))∧Below w.heap.size w w':=by
 obtain⟨w1,hw1⟩:∃w1,w.alloc (.cells #[.int .i64 13,.string t,.int .i64 vk,.int .i64 vn,.string vs,.slice al ll cl,.slice ak lk ck,.bool f,.slice a n cc,.int .i64 p] 28)=w1:=⟨_,rfl⟩
 obtain⟨G,hG⟩:∃G,w.heap.size=G:=⟨_,rfl⟩
 obtain⟨A1,X1⟩:=al1 hw1 hG
 have hBG:B0≤G:=by rw [←hG];exact hB
 have HM:Hid (∀u,Below w1.heap.size w1 u→RowN u B0 ks a cc∧PowAt u∧Below G w u∧B0≤u.heap.size):=hZ (fun u h=>by
  have h2:=X1.trans (h.mono (Nat.le_of_lt (lt_of_row A1)))
  exact⟨hr.later (h2.mono hBG),hP.later h2 (by omega),h2,Nat.le_trans hBG (by rw [←hG];exact h2.size)⟩)
 have HF:Hid (NF10 w1 G (.int .i64 13) (.string t) (.int .i64 vk) (.int .i64 vn) (.string vs) (.slice al ll cl) (.slice ak lk ck) (.bool f) (.slice a n cc) (.int .i64 p)):=hZ (fun u hu=>row_ten (Below.cellsAt hu A1))
 have HB:=hZ (show B0≤w1.heap.size from Nat.le_trans hBG (Nat.le_of_lt (lt_of_row A1)))
 have HN:=hZ (And.intro hn hG0)
 obtain⟨R,hR⟩:∃R,ex1 13 t v ks (exM ks)=R:=⟨_,rfl⟩
 rw [hR]
 have HR:=hZ hR
 have HW:=hZ hw1
 have CP:=hZ (print_any v (.agg #[.int .i64 vk,.int .i64 vn,.string vs,.slice al ll cl,.slice ak lk ck]) B0 w1 (hv.mono (X1.mono hBG)) (Nat.le_trans hBG (Nat.le_of_lt (lt_of_row A1))) hG0 (hP.later X1 (by omega)))
 have HX1:=hZ X1
 clear hv
 clear A1 X1 hw1 hBG hB hr hn hG0 hP hR
 go_enter Tryz.func23,Tryz.ntmps23
 go_upto_region 1 with fail
 rw [uZ HW]
 try rw [hG]
 clear HW
 obtain⟨x0,x1,x2,x3,x4,x5,x6,x7,x8,x9⟩:=uZ HF w1 (Below.refl _ _)
 go_wp2_with fail
 refine(uZ CP).mono ?_
 rintro e w2 ⟨T,rfl,hT,b2⟩
 have H2:=hZ (And.intro hT b2)
 clear hT b2 CP x0 x1 x2 x3 x4 x5 x6 x7 x8 x9
 have CW:=hZ (txw_any B0 T w2)
 go_wp2_with fail
 refine(uZ CW).mono ?_
 rintro e w3 ⟨t3,rfl,h3,b3⟩
 have H3:=hZ (And.intro h3 b3)
 obtain⟨F3,p3,rfl,-,-⟩:=h3
 clear b3 CW
 go_wp2_with fail
 go_ret
 have e:R=T.data.toList:=by rw [←uZ HR,(uZ H2).1];simp [ex1]
 have hb:=((uZ HM) w3 ((uZ H2).2.trans ((uZ H3).2.mono (uZ H2).2.size))).2.2.1
 exact⟨_,rfl,by rw [e];exact(uZ H3).1,by first|exact hb|(rw [hG];exact hb)⟩
theorem ex14_any (B0:Nat) (v:Vl) (ks:List Tn) (vk vn p:Int) (t vs:ByteArray) (al ak a:Option Addr) (ll cl lk ck n cc:Nat) (f:Bool) (w:World) (hB:B0≤w.heap.size) (hr:RowN w B0 ks a cc) (hn:ks.length=n) (hG0:0<B0) (hP:PowAt w) :
  Calls Tryz.prog 23 #[.agg #[.int .i64 14,.string t,.int .i64 vk,.int .i64 vn,.string vs,.slice al ll cl,.slice ak lk ck,.bool f,.slice a n cc,.int .i64 p]] w fun e w'=>∃t',e=.returned t'∧Txt B0 w' t' (ex1 14 t v ks (exM ks))∧Below w.heap.size w w':=by
 obtain⟨w1,hw1⟩:∃w1,w.alloc (.cells #[.int .i64 14,.string t,.int .i64 vk,.int .i64 vn,.string vs,.slice al ll cl,.slice ak lk ck,.bool f,.slice a n cc,.int .i64 p] 28)=w1:=⟨_,rfl⟩
 obtain⟨G,hG⟩:∃G,w.heap.size=G:=⟨_,rfl⟩
 obtain⟨A1,X1⟩:=al1 hw1 hG
 have hBG:B0≤G:=by rw [←hG];exact hB
 have HM:Hid (∀u,Below w1.heap.size w1 u→RowN u B0 ks a cc∧PowAt u∧Below G w u∧B0≤u.heap.size):=hZ (fun u h=>by
  have h2:=X1.trans (h.mono (Nat.le_of_lt (lt_of_row A1)))
  exact⟨hr.later (h2.mono hBG),hP.later h2 (by omega),h2,Nat.le_trans hBG (by rw [←hG];exact h2.size)⟩)
 have HF:Hid (NF10 w1 G (.int .i64 14) (.string t) (.int .i64 vk) (.int .i64 vn) (.string vs) (.slice al ll cl) (.slice ak lk ck) (.bool f) (.slice a n cc) (.int .i64 p)):=hZ (fun u hu=>row_ten (Below.cellsAt hu A1))
 have HB:=hZ (show B0≤w1.heap.size from Nat.le_trans hBG (Nat.le_of_lt (lt_of_row A1)))
 have HN:=hZ (And.intro hn hG0)
 obtain⟨R,hR⟩:∃R,ex1 14 t v ks (exM ks)=R:=⟨_,rfl⟩
 rw [hR]
 have HR:=hZ hR
 have HW:=hZ hw1
 clear A1 X1 hw1 hBG hB hr hn hG0 hP hR
 go_enter Tryz.func23,Tryz.ntmps23
 go_upto_region 1 with fail
 rw [uZ HW]
 try rw [hG]
 clear HW
 obtain⟨x0,x1,x2,x3,x4,x5,x6,x7,x8,x9⟩:=uZ HF w1 (Below.refl _ _)
 have CW:=hZ (name_any B0 14 vk vn p t vs al ak a ll cl lk ck n cc f w1)
 go_wp2_with fail
 refine(uZ CW).mono ?_
 rintro e w3 ⟨t3,rfl,h3,b3⟩
 have H3:=hZ (And.intro h3 b3)
 obtain⟨F3,p3,rfl,-,-⟩:=h3
 clear b3 CW x0 x1 x2 x3 x4 x5 x6 x7 x8 x9
 go_wp2_with fail
 go_ret
 have e:R=t.data.toList:=by rw [←uZ HR];simp [ex1]
 have hb:=((uZ HM) w3 (uZ H3).2).2.2.1
 exact⟨_,rfl,by rw [e];exact(uZ H3).1,by first|exact hb|(rw [hG];exact hb)⟩
end Go.Proofs.YtlkeaaopdnnceaaGreatDoor
