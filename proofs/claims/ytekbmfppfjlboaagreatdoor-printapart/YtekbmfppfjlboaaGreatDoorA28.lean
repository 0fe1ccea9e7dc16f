/-
  Layer 18 (print): an expression is written; conditions: the nodes lie in memory.
  Layer 18 (print): an expression is written; conditions: the nodes lie in memory.
-/
import Derived.Test.YtekbmfppfjlboaaGreatDoorA27
set_option linter.unusedVariables false
set_option linter.unusedSimpArgs false
namespace Go.Proofs.YtekbmfppfjlboaaGreatDoor
open Go.RowKit
set_option linter.unusedVariables false
set_option linter.unusedSimpArgs false
theorem call_expr (x:Array Value) (u:World):Sem.run Tryz.prog (callFunc 23 x) u=.ok (.enter 23 x) u:=by kernel_rfl
theorem call_pair (x:Array Value) (u:World):Sem.run Tryz.prog (callFunc 44 x) u=.ok (.enter 44 x) u:=by kernel_rfl
theorem put_expr {B0:Nat} {w:World} {ks:List Tn} (hG0:0<B0) (hE:∀y∈ks,ExC B0 y) (hP:PowAt w):Put B0 w (.func (.func 23) #[] #[]) ks exT:=
 ⟨_,_,rfl,call_expr,fun u y x hk hu hy hx=>hE y hy x u hu hG0 (hP.kp hk hG0) hx⟩
def PrC (B0:Nat) (y:Tn):Prop:=∀(x:List Value) (u:World),B0≤u.heap.size→0<B0→PowAt u→IsN u (fun b=>b<B0) y x→Calls Tryz.prog 44 #[.agg x.toArray] u fun e u'=>∃t,e=.returned t∧Txt B0 u' t (exT y)∧Below u.heap.size u u'
theorem put_pair {B0:Nat} {w:World} {ks:List Tn} (hG0:0<B0) (hE:∀y∈ks,PrC B0 y) (hP:PowAt w):Put B0 w (.func (.func 44) #[] #[]) ks exT:=
 ⟨_,_,rfl,call_pair,fun u y x hk hu hy hx=>hE y hy x u hu hG0 (hP.kp hk hG0) hx⟩
set_option maxRecDepth 100000 in
set_option maxHeartbeats 4000000 in
theorem ex15_any (B0:Nat) (v:Vl) (ks:List Tn) (vk vn p:Int) (t vs:ByteArray) (al ak a:Option Addr) (ll cl lk ck n cc:Nat) (f:Bool) (w:World) (hB:B0≤w.heap.size) (hr:RowN w B0 ks a cc) (hn:ks.length=n) (hG0:0<B0) (hP:PowAt w) (hE:∀y∈ks,ExC B0 y) :
  Calls Tryz.prog 23 #[.agg #[.int .i64 15,.string t,.int .i64 vk,.int .i64 vn,.string vs,.slice al ll cl,.slice ak lk ck,.bool f,.slice a n cc,.int .i64 p]] w fun e w'=>∃t',e=.returned t'∧Txt B0 w' t' (ex1 15 t v ks (exM ks))∧Below w.heap.size w w':=by
 obtain⟨w1,hw1⟩:∃w1,w.alloc (.cells #[.int .i64 15,.string t,.int .i64 vk,.int .i64 vn,.string vs,.slice al ll cl,.slice ak lk ck,.bool f,.slice a n cc,.int .i64 p] 28)=w1:=⟨_,rfl⟩
 obtain⟨G,hG⟩:∃G,w.heap.size=G:=⟨_,rfl⟩
 have A1:w1.heap[G]?=some (.cells #[.int .i64 15,.string t,.int .i64 vk,.int .i64 vn,.string vs,.slice al ll cl,.slice ak lk ck,.bool f,.slice a n cc,.int .i64 p] 28 (0,0)):=by rw [←hw1,←hG];exact heap_alloc_new _ _
 have X1:Below G w w1:=by rw [←hw1,←hG];exact(Below.refl _ _).alloc (Nat.le_refl _) _
 have hBG:B0≤G:=by rw [←hG];exact hB
 have HM:Hid (∀u,Below w1.heap.size w1 u→RowN u B0 ks a cc∧PowAt u∧Below G w u∧B0≤u.heap.size):=hide (fun u h=>by
  have h2:=X1.trans (h.mono (Nat.le_of_lt (lt_of_row A1)))
  exact⟨hr.later (h2.mono hBG),hP.later h2 (by omega),h2,Nat.le_trans hBG (by rw [←hG];exact h2.size)⟩)
 have HF:Hid (∀u,Below w1.heap.size w1 u→u.cell? ⟨G,0,none⟩=some (.int .i64 15)∧u.cell? ⟨G,1,none⟩=some (.string t)∧u.cell? ⟨G,2,none⟩=some (.int .i64 vk)∧u.cell? ⟨G,3,none⟩=some (.int .i64 vn)∧u.cell? ⟨G,4,none⟩=some (.string vs)∧u.cell? ⟨G,5,none⟩=some (.slice al ll cl)∧u.cell? ⟨G,6,none⟩=some (.slice ak lk ck)∧u.cell? ⟨G,7,none⟩=some (.bool f)∧u.cell? ⟨G,8,none⟩=some (.slice a n cc)∧u.cell? ⟨G,9,none⟩=some (.int .i64 p)):=hide (fun u hu=>row_ten (Below.cellsAt hu A1))
 have HB:=hide (show B0≤w1.heap.size from Nat.le_trans hBG (Nat.le_of_lt (lt_of_row A1)))
 have HN:=hide (And.intro hn hG0)
 obtain⟨R,hR⟩:∃R,ex1 15 t v ks (exM ks)=R:=⟨_,rfl⟩
 rw [hR]
 have HR:=hide hR
 have HW:=hide hw1
 have HE:=hide hE
 clear hE
 clear A1 X1 hw1 hBG hB hr hn hG0 hP hR
 go_enter Tryz.func23,Tryz.ntmps23
 go_upto_region 1 with fail
 rw [unhide HW]
 try rw [hG]
 clear HW
 obtain⟨x0,x1,x2,x3,x4,x5,x6,x7,x8,x9⟩:=unhide HF w1 (Below.refl _ _)
 go_upto_region 5 with fail
 clear x0 x1 x2 x3 x4 x5 x6 x7 x8 x9
 have HS0:Hid (Below w1.heap.size w1 w1.drew):=hide ((Below.refl _ _).drew)
 refine till_begin (S:=fun w'=>Below w1.heap.size w1 w') 9 (by kernel_rfl) ?_
 obtain⟨W0,hW0⟩:∃W0,w1.drew=W0:=⟨_,rfl⟩
 try rw [hW0]
 rw [hW0] at HS0
 clear hW0
 refine till_take 0 (v:=.agg #[.int .i64 15,.string t,.int .i64 vk,.int .i64 vn,.string vs,.slice al ll cl,.slice ak lk ck,.bool f,.slice a n cc,.int .i64 p]) (some 13) rfl rfl rfl (by kernel_rfl) (by kernel_rfl) (by kernel_rfl) (by kernel_rfl) (fun _ _ _ h=>h) (Or.inl ⟨by rfl,fun u hu=>by obtain⟨x0,x1,x2,x3,x4,x5,x6,x7,x8,x9⟩:=unhide HF u hu;go_simp⟩) (unhide HS0) ?_
 try simp only [Act.put,List.setIfInBounds_toArray,List.set_cons_zero,List.set_cons_succ]
 refine till_take 3 (v:=.pointer (some ⟨G,8,none⟩)) (some 16) rfl rfl rfl (by kernel_rfl) (by kernel_rfl) (by kernel_rfl) (by kernel_rfl) (fun _ _ _ h=>h) (Or.inl ⟨by rfl,fun u hu=>by obtain⟨x0,x1,x2,x3,x4,x5,x6,x7,x8,x9⟩:=unhide HF u hu;go_simp⟩) (unhide HS0) ?_
 try simp only [Act.put,List.setIfInBounds_toArray,List.set_cons_zero,List.set_cons_succ]
 refine till_take 4 (v:=.slice a n cc) (some 17) rfl rfl rfl (by kernel_rfl) (by kernel_rfl) (by kernel_rfl) (by kernel_rfl) (fun _ _ _ h=>h) (Or.inl ⟨by rfl,fun u hu=>by obtain⟨x0,x1,x2,x3,x4,x5,x6,x7,x8,x9⟩:=unhide HF u hu;go_simp⟩) (unhide HS0) ?_
 try simp only [Act.put,List.setIfInBounds_toArray,List.set_cons_zero,List.set_cons_succ]
 refine till_one 1 (by kernel_rfl) rfl (fun K hK=>?_)
 go_simp
 refine(name_any B0 15 vk vn p t vs al ak a ll cl lk ck n cc f W0).mono ?_
 rintro e W1 ⟨t1,rfl,h,bb⟩
 have h0:=h
 obtain⟨F1,p1,rfl,-,-⟩:=h0
 have HT1_1:=hide h
 have HS1:=hide ((unhide HS0).trans (bb.mono (unhide HS0).size))
 clear bb h
 go_wp2_with fail
 refine hK.out _ _ (Or.inr (unhide HS1)) ?_
 clear hK K HS0
 try simp only [Act.put,List.setIfInBounds_toArray,List.set_cons_zero,List.set_cons_succ]
 refine till_one 2 (by kernel_rfl) rfl (fun K hK=>?_)
 go_simp
 refine(txw_any B0 ⟨#[40]⟩ W1).mono ?_
 rintro e W2 ⟨t2,rfl,h,bb⟩
 have h0:=h
 obtain⟨F2,p2,rfl,-,-⟩:=h0
 have HT2_2:=hide h
 have HS2:=hide ((unhide HS1).trans (bb.mono (unhide HS1).size))
 have HT1_2:=hide ((unhide HT1_1).later (Kp.below bb (Nat.le_trans (unhide HB) (unhide HS1).size)))
 clear bb h HT1_1
 go_wp2_with fail
 refine hK.out _ _ (Or.inr (unhide HS2)) ?_
 clear hK K HS1
 try simp only [Act.put,List.setIfInBounds_toArray,List.set_cons_zero,List.set_cons_succ]
 refine till_one 5 (by kernel_rfl) rfl (fun K hK=>?_)
 go_simp
 refine(listed_any B0 a n cc ⟨#[44,32]⟩ (.func (.func 23) #[] #[]) ks exT W2 (Nat.le_trans (unhide HB) (unhide HS2).size) ((unhide HM) W2 (unhide HS2)).1 (unhide HN).1 (put_expr (unhide HN).2 (unhide HE) ((unhide HM) W2 (unhide HS2)).2.1)).mono ?_
 rintro e W3 ⟨t3,rfl,h,bb⟩
 have h0:=h
 obtain⟨F3,p3,rfl,-,-⟩:=h0
 have HT3_3:=hide h
 have HS3:=hide ((unhide HS2).trans (bb.mono (unhide HS2).size))
 have HT1_3:=hide ((unhide HT1_2).later (Kp.below bb (Nat.le_trans (unhide HB) (unhide HS2).size)))
 have HT2_3:=hide ((unhide HT2_2).later (Kp.below bb (Nat.le_trans (unhide HB) (unhide HS2).size)))
 clear bb h HT1_2 HT2_2
 go_wp2_with fail
 refine hK.out _ _ (Or.inr (unhide HS3)) ?_
 clear hK K HS2
 try simp only [Act.put,List.setIfInBounds_toArray,List.set_cons_zero,List.set_cons_succ]
 refine till_one 6 (by kernel_rfl) rfl (fun K hK=>?_)
 go_simp
 refine(txw_any B0 ⟨#[41]⟩ W3).mono ?_
 rintro e W4 ⟨t4,rfl,h,bb⟩
 have h0:=h
 obtain⟨F4,p4,rfl,-,-⟩:=h0
 have HT4_4:=hide h
 have HS4:=hide ((unhide HS3).trans (bb.mono (unhide HS3).size))
 have HT1_4:=hide ((unhide HT1_3).later (Kp.below bb (Nat.le_trans (unhide HB) (unhide HS3).size)))
 have HT2_4:=hide ((unhide HT2_3).later (Kp.below bb (Nat.le_trans (unhide HB) (unhide HS3).size)))
 have HT3_4:=hide ((unhide HT3_3).later (Kp.below bb (Nat.le_trans (unhide HB) (unhide HS3).size)))
 clear bb h HT1_3 HT2_3 HT3_3
 go_wp2_with fail
 refine hK.out _ _ (Or.inr (unhide HS4)) ?_
 clear hK K HS3
 try simp only [Act.put,List.setIfInBounds_toArray,List.set_cons_zero,List.set_cons_succ]
 obtain⟨W5,hW5⟩:∃W,W4.alloc (.cells #[.func (.func F1) #[] p1,.func (.func F2) #[] p2,.func (.func F3) #[] p3,.func (.func F4) #[] p4] 39)=W:=⟨_,rfl⟩
 obtain⟨q,hq⟩:∃q,W4.heap.size=q:=⟨_,rfl⟩
 have bb:Below W4.heap.size W4 W5:=by rw [←hW5];exact(Below.refl _ _).alloc (Nat.le_refl _) _
 have HX5:=hide (show Txs B0 W5 q _ from txs4 (by rw [←hW5,←hq];exact heap_alloc_new _ _) ((unhide HT1_4).later (Kp.below bb (Nat.le_trans (unhide HB) (unhide HS4).size))) ((unhide HT2_4).later (Kp.below bb (Nat.le_trans (unhide HB) (unhide HS4).size))) ((unhide HT3_4).later (Kp.below bb (Nat.le_trans (unhide HB) (unhide HS4).size))) ((unhide HT4_4).later (Kp.below bb (Nat.le_trans (unhide HB) (unhide HS4).size))))
 have HS5:=hide ((unhide HS4).trans (bb.mono (unhide HS4).size))
 clear bb HT1_4 HT2_4 HT3_4 HT4_4
 refine till_one 7 (by kernel_rfl) rfl (fun K hK=>?_)
 go_simp
 try rw [hW5]
 try rw [hq]
 refine hK.out _ _ (Or.inr (unhide HS5)) ?_
 clear hK K HS4 hW5 hq
 try simp only [Act.put,List.setIfInBounds_toArray,List.set_cons_zero,List.set_cons_succ]
 refine till_one 8 (by kernel_rfl) rfl (fun K hK=>?_)
 go_simp
 refine(row_any B0 q 4 4 _ W5 (Nat.le_trans (unhide HB) (unhide HS5).size) (unhide HX5) rfl (by decide)).mono ?_
 rintro e W6 ⟨tr,rfl,h,bb⟩
 have h0:=h
 obtain⟨Fr,pr,rfl,-,-⟩:=h0
 have HT:=hide h
 have HS6:=hide ((unhide HS5).trans (bb.mono (unhide HS5).size))
 clear bb h HX5
 go_wp2_with fail
 refine hK.out _ _ (Or.inr (unhide HS6)) ?_
 clear hK K HS5
 try simp only [Act.put,List.setIfInBounds_toArray,List.set_cons_zero,List.set_cons_succ]
 refine till_one 9 (by kernel_rfl) rfl (fun K hK=>?_)
 go_simp
 refine hK.out _ _ (Or.inl (by first|rfl|trivial)) ?_
 clear hK K
 try simp only [Act.put,List.setIfInBounds_toArray,List.set_cons_zero,List.set_cons_succ]
 refine till_done (by kernel_rfl) ?_ _
 go_wp2_with fail
 go_ret
 refine⟨_,rfl,?_,?_⟩
 ·have h1:=unhide HT
  rw [←unhide HR]
  have e:(ex1 15 t v ks (exM ks))=([t.data.toList,[40],jl [44,32] true (ks.map exT),[41]]:List (List UInt8)).flatten:=by simp [ex1,exM_map]
  first|(rw [e];exact h1)|(rw [e] at h1;exact h1)
 ·have:=((unhide HM) _ (unhide HS6)).2.2.1
  first|exact this|(rw [hG];exact this)
set_option maxRecDepth 100000 in
set_option maxHeartbeats 4000000 in
theorem ex18_any (B0:Nat) (v:Vl) (ks:List Tn) (vk vn p:Int) (t vs:ByteArray) (al ak a:Option Addr) (ll cl lk ck n cc:Nat) (f:Bool) (w:World) (hB:B0≤w.heap.size) (hr:RowN w B0 ks a cc) (hn:ks.length=n) (hG0:0<B0) (hP:PowAt w) (hE:∀y∈ks,ExC B0 y) :
  Calls Tryz.prog 23 #[.agg #[.int .i64 18,.string t,.int .i64 vk,.int .i64 vn,.string vs,.slice al ll cl,.slice ak lk ck,.bool f,.slice a n cc,.int .i64 p]] w fun e w'=>∃t',e=.returned t'∧Txt B0 w' t' (ex1 18 t v ks (exM ks))∧Below w.heap.size w w':=by
 obtain⟨w1,hw1⟩:∃w1,w.alloc (.cells #[.int .i64 18,.string t,.int .i64 vk,.int .i64 vn,.string vs,.slice al ll cl,.slice ak lk ck,.bool f,.slice a n cc,.int .i64 p] 28)=w1:=⟨_,rfl⟩
 obtain⟨G,hG⟩:∃G,w.heap.size=G:=⟨_,rfl⟩
 have A1:w1.heap[G]?=some (.cells #[.int .i64 18,.string t,.int .i64 vk,.int .i64 vn,.string vs,.slice al ll cl,.slice ak lk ck,.bool f,.slice a n cc,.int .i64 p] 28 (0,0)):=by rw [←hw1,←hG];exact heap_alloc_new _ _
 have X1:Below G w w1:=by rw [←hw1,←hG];exact(Below.refl _ _).alloc (Nat.le_refl _) _
 have hBG:B0≤G:=by rw [←hG];exact hB
 have HM:Hid (∀u,Below w1.heap.size w1 u→RowN u B0 ks a cc∧PowAt u∧Below G w u∧B0≤u.heap.size):=hide (fun u h=>by
  have h2:=X1.trans (h.mono (Nat.le_of_lt (lt_of_row A1)))
  exact⟨hr.later (h2.mono hBG),hP.later h2 (by omega),h2,Nat.le_trans hBG (by rw [←hG];exact h2.size)⟩)
 have HF:Hid (∀u,Below w1.heap.size w1 u→u.cell? ⟨G,0,none⟩=some (.int .i64 18)∧u.cell? ⟨G,1,none⟩=some (.string t)∧u.cell? ⟨G,2,none⟩=some (.int .i64 vk)∧u.cell? ⟨G,3,none⟩=some (.int .i64 vn)∧u.cell? ⟨G,4,none⟩=some (.string vs)∧u.cell? ⟨G,5,none⟩=some (.slice al ll cl)∧u.cell? ⟨G,6,none⟩=some (.slice ak lk ck)∧u.cell? ⟨G,7,none⟩=some (.bool f)∧u.cell? ⟨G,8,none⟩=some (.slice a n cc)∧u.cell? ⟨G,9,none⟩=some (.int .i64 p)):=hide (fun u hu=>row_ten (Below.cellsAt hu A1))
 have HB:=hide (show B0≤w1.heap.size from Nat.le_trans hBG (Nat.le_of_lt (lt_of_row A1)))
 have HN:=hide (And.intro hn hG0)
 obtain⟨R,hR⟩:∃R,ex1 18 t v ks (exM ks)=R:=⟨_,rfl⟩
 rw [hR]
 have HR:=hide hR
 have HW:=hide hw1
 have HE:=hide hE
 clear hE
 clear A1 X1 hw1 hBG hB hr hn hG0 hP hR
 go_enter Tryz.func23,Tryz.ntmps23
 go_upto_region 1 with fail
 rw [unhide HW]
 try rw [hG]
 clear HW
 obtain⟨x0,x1,x2,x3,x4,x5,x6,x7,x8,x9⟩:=unhide HF w1 (Below.refl _ _)
 go_upto_region 7 with fail
 clear x0 x1 x2 x3 x4 x5 x6 x7 x8 x9
 have HS0:Hid (Below w1.heap.size w1 w1.drew):=hide ((Below.refl _ _).drew)
 refine till_begin (S:=fun w'=>Below w1.heap.size w1 w') 7 (by kernel_rfl) ?_
 obtain⟨W0,hW0⟩:∃W0,w1.drew=W0:=⟨_,rfl⟩
 try rw [hW0]
 rw [hW0] at HS0
 clear hW0
 refine till_take 1 (v:=.pointer (some ⟨G,8,none⟩)) (some 25) rfl rfl rfl (by kernel_rfl) (by kernel_rfl) (by kernel_rfl) (by kernel_rfl) (fun _ _ _ h=>h) (Or.inl ⟨by rfl,fun u hu=>by obtain⟨x0,x1,x2,x3,x4,x5,x6,x7,x8,x9⟩:=unhide HF u hu;go_simp⟩) (unhide HS0) ?_
 try simp only [Act.put,List.setIfInBounds_toArray,List.set_cons_zero,List.set_cons_succ]
 refine till_take 2 (v:=.slice a n cc) (some 26) rfl rfl rfl (by kernel_rfl) (by kernel_rfl) (by kernel_rfl) (by kernel_rfl) (fun _ _ _ h=>h) (Or.inl ⟨by rfl,fun u hu=>by obtain⟨x0,x1,x2,x3,x4,x5,x6,x7,x8,x9⟩:=unhide HF u hu;go_simp⟩) (unhide HS0) ?_
 try simp only [Act.put,List.setIfInBounds_toArray,List.set_cons_zero,List.set_cons_succ]
 refine till_one 0 (by kernel_rfl) rfl (fun K hK=>?_)
 go_simp
 refine(txw_any B0 ⟨#[91]⟩ W0).mono ?_
 rintro e W1 ⟨t1,rfl,h,bb⟩
 have h0:=h
 obtain⟨F1,p1,rfl,-,-⟩:=h0
 have HT1_1:=hide h
 have HS1:=hide ((unhide HS0).trans (bb.mono (unhide HS0).size))
 clear bb h
 go_wp2_with fail
 refine hK.out _ _ (Or.inr (unhide HS1)) ?_
 clear hK K HS0
 try simp only [Act.put,List.setIfInBounds_toArray,List.set_cons_zero,List.set_cons_succ]
 refine till_one 3 (by kernel_rfl) rfl (fun K hK=>?_)
 go_simp
 refine(listed_any B0 a n cc ⟨#[44,32]⟩ (.func (.func 23) #[] #[]) ks exT W1 (Nat.le_trans (unhide HB) (unhide HS1).size) ((unhide HM) W1 (unhide HS1)).1 (unhide HN).1 (put_expr (unhide HN).2 (unhide HE) ((unhide HM) W1 (unhide HS1)).2.1)).mono ?_
 rintro e W2 ⟨t2,rfl,h,bb⟩
 have h0:=h
 obtain⟨F2,p2,rfl,-,-⟩:=h0
 have HT2_2:=hide h
 have HS2:=hide ((unhide HS1).trans (bb.mono (unhide HS1).size))
 have HT1_2:=hide ((unhide HT1_1).later (Kp.below bb (Nat.le_trans (unhide HB) (unhide HS1).size)))
 clear bb h HT1_1
 go_wp2_with fail
 refine hK.out _ _ (Or.inr (unhide HS2)) ?_
 clear hK K HS1
 try simp only [Act.put,List.setIfInBounds_toArray,List.set_cons_zero,List.set_cons_succ]
 refine till_one 4 (by kernel_rfl) rfl (fun K hK=>?_)
 go_simp
 refine(txw_any B0 ⟨#[93]⟩ W2).mono ?_
 rintro e W3 ⟨t3,rfl,h,bb⟩
 have h0:=h
 obtain⟨F3,p3,rfl,-,-⟩:=h0
 have HT3_3:=hide h
 have HS3:=hide ((unhide HS2).trans (bb.mono (unhide HS2).size))
 have HT1_3:=hide ((unhide HT1_2).later (Kp.below bb (Nat.le_trans (unhide HB) (unhide HS2).size)))
 have HT2_3:=hide ((unhide HT2_2).later (Kp.below bb (Nat.le_trans (unhide HB) (unhide HS2).size)))
 clear bb h HT1_2 HT2_2
 go_wp2_with fail
 refine hK.out _ _ (Or.inr (unhide HS3)) ?_
 clear hK K HS2
 try simp only [Act.put,List.setIfInBounds_toArray,List.set_cons_zero,List.set_cons_succ]
 obtain⟨W4,hW4⟩:∃W,W3.alloc (.cells #[.func (.func F1) #[] p1,.func (.func F2) #[] p2,.func (.func F3) #[] p3] 39)=W:=⟨_,rfl⟩
 obtain⟨q,hq⟩:∃q,W3.heap.size=q:=⟨_,rfl⟩
 have bb:Below W3.heap.size W3 W4:=by rw [←hW4];exact(Below.refl _ _).alloc (Nat.le_refl _) _
 have HX4:=hide (show Txs B0 W4 q _ from txs3 (by rw [←hW4,←hq];exact heap_alloc_new _ _) ((unhide HT1_3).later (Kp.below bb (Nat.le_trans (unhide HB) (unhide HS3).size))) ((unhide HT2_3).later (Kp.below bb (Nat.le_trans (unhide HB) (unhide HS3).size))) ((unhide HT3_3).later (Kp.below bb (Nat.le_trans (unhide HB) (unhide HS3).size))))
 have HS4:=hide ((unhide HS3).trans (bb.mono (unhide HS3).size))
 clear bb HT1_3 HT2_3 HT3_3
 refine till_one 5 (by kernel_rfl) rfl (fun K hK=>?_)
 go_simp
 try rw [hW4]
 try rw [hq]
 refine hK.out _ _ (Or.inr (unhide HS4)) ?_
 clear hK K HS3 hW4 hq
 try simp only [Act.put,List.setIfInBounds_toArray,List.set_cons_zero,List.set_cons_succ]
 refine till_one 6 (by kernel_rfl) rfl (fun K hK=>?_)
 go_simp
 refine(row_any B0 q 3 3 _ W4 (Nat.le_trans (unhide HB) (unhide HS4).size) (unhide HX4) rfl (by decide)).mono ?_
 rintro e W5 ⟨tr,rfl,h,bb⟩
 have h0:=h
 obtain⟨Fr,pr,rfl,-,-⟩:=h0
 have HT:=hide h
 have HS5:=hide ((unhide HS4).trans (bb.mono (unhide HS4).size))
 clear bb h HX4
 go_wp2_with fail
 refine hK.out _ _ (Or.inr (unhide HS5)) ?_
 clear hK K HS4
 try simp only [Act.put,List.setIfInBounds_toArray,List.set_cons_zero,List.set_cons_succ]
 refine till_one 7 (by kernel_rfl) rfl (fun K hK=>?_)
 go_simp
 refine hK.out _ _ (Or.inl (by first|rfl|trivial)) ?_
 clear hK K
 try simp only [Act.put,List.setIfInBounds_toArray,List.set_cons_zero,List.set_cons_succ]
 refine till_done (by kernel_rfl) ?_ _
 go_wp2_with fail
 go_ret
 refine⟨_,rfl,?_,?_⟩
 ·have h1:=unhide HT
  rw [←unhide HR]
  have e:(ex1 18 t v ks (exM ks))=([[91],jl [44,32] true (ks.map exT),[93]]:List (List UInt8)).flatten:=by simp [ex1,exM_map]
  first|(rw [e];exact h1)|(rw [e] at h1;exact h1)
 ·have:=((unhide HM) _ (unhide HS5)).2.2.1
  first|exact this|(rw [hG];exact this)
set_option maxRecDepth 100000 in
set_option maxHeartbeats 4000000 in
theorem ex19_any (B0:Nat) (v:Vl) (ks:List Tn) (vk vn p:Int) (t vs:ByteArray) (al ak a:Option Addr) (ll cl lk ck n cc:Nat) (f:Bool) (w:World) (hB:B0≤w.heap.size) (hr:RowN w B0 ks a cc) (hn:ks.length=n) (hG0:0<B0) (hP:PowAt w) (hE:∀y∈ks,PrC B0 y) :
  Calls Tryz.prog 23 #[.agg #[.int .i64 19,.string t,.int .i64 vk,.int .i64 vn,.string vs,.slice al ll cl,.slice ak lk ck,.bool f,.slice a n cc,.int .i64 p]] w fun e w'=>∃t',e=.returned t'∧Txt B0 w' t' (ex1 19 t v ks (exM ks))∧Below w.heap.size w w':=by
 obtain⟨w1,hw1⟩:∃w1,w.alloc (.cells #[.int .i64 19,.string t,.int .i64 vk,.int .i64 vn,.string vs,.slice al ll cl,.slice ak lk ck,.bool f,.slice a n cc,.int .i64 p] 28)=w1:=⟨_,rfl⟩
 obtain⟨G,hG⟩:∃G,w.heap.size=G:=⟨_,rfl⟩
 have A1:w1.heap[G]?=some (.cells #[.int .i64 19,.string t,.int .i64 vk,.int .i64 vn,.string vs,.slice al ll cl,.slice ak lk ck,.bool f,.slice a n cc,.int .i64 p] 28 (0,0)):=by rw [←hw1,←hG];exact heap_alloc_new _ _
 have X1:Below G w w1:=by rw [←hw1,←hG];exact(Below.refl _ _).alloc (Nat.le_refl _) _
 have hBG:B0≤G:=by rw [←hG];exact hB
 have HM:Hid (∀u,Below w1.heap.size w1 u→RowN u B0 ks a cc∧PowAt u∧Below G w u∧B0≤u.heap.size):=hide (fun u h=>by
  have h2:=X1.trans (h.mono (Nat.le_of_lt (lt_of_row A1)))
  exact⟨hr.later (h2.mono hBG),hP.later h2 (by omega),h2,Nat.le_trans hBG (by rw [←hG];exact h2.size)⟩)
 have HF:Hid (∀u,Below w1.heap.size w1 u→u.cell? ⟨G,0,none⟩=some (.int .i64 19)∧u.cell? ⟨G,1,none⟩=some (.string t)∧u.cell? ⟨G,2,none⟩=some (.int .i64 vk)∧u.cell? ⟨G,3,none⟩=some (.int .i64 vn)∧u.cell? ⟨G,4,none⟩=some (.string vs)∧u.cell? ⟨G,5,none⟩=some (.slice al ll cl)∧u.cell? ⟨G,6,none⟩=some (.slice ak lk ck)∧u.cell? ⟨G,7,none⟩=some (.bool f)∧u.cell? ⟨G,8,none⟩=some (.slice a n cc)∧u.cell? ⟨G,9,none⟩=some (.int .i64 p)):=hide (fun u hu=>row_ten (Below.cellsAt hu A1))
 have HB:=hide (show B0≤w1.heap.size from Nat.le_trans hBG (Nat.le_of_lt (lt_of_row A1)))
 have HN:=hide (And.intro hn hG0)
 obtain⟨R,hR⟩:∃R,ex1 19 t v ks (exM ks)=R:=⟨_,rfl⟩
 rw [hR]
 have HR:=hide hR
 have HW:=hide hw1
 have HE:=hide hE
 clear hE
 clear A1 X1 hw1 hBG hB hr hn hG0 hP hR
 go_enter Tryz.func23,Tryz.ntmps23
 go_upto_region 1 with fail
 rw [unhide HW]
 try rw [hG]
 clear HW
 obtain⟨x0,x1,x2,x3,x4,x5,x6,x7,x8,x9⟩:=unhide HF w1 (Below.refl _ _)
 go_upto_region 9 with fail
 clear x0 x1 x2 x3 x4 x5 x6 x7 x8 x9
 have HS0:Hid (Below w1.heap.size w1 w1.drew):=hide ((Below.refl _ _).drew)
 refine till_begin (S:=fun w'=>Below w1.heap.size w1 w') 7 (by kernel_rfl) ?_
 obtain⟨W0,hW0⟩:∃W0,w1.drew=W0:=⟨_,rfl⟩
 try rw [hW0]
 rw [hW0] at HS0
 clear hW0
 refine till_take 1 (v:=.pointer (some ⟨G,8,none⟩)) (some 34) rfl rfl rfl (by kernel_rfl) (by kernel_rfl) (by kernel_rfl) (by kernel_rfl) (fun _ _ _ h=>h) (Or.inl ⟨by rfl,fun u hu=>by obtain⟨x0,x1,x2,x3,x4,x5,x6,x7,x8,x9⟩:=unhide HF u hu;go_simp⟩) (unhide HS0) ?_
 try simp only [Act.put,List.setIfInBounds_toArray,List.set_cons_zero,List.set_cons_succ]
 refine till_take 2 (v:=.slice a n cc) (some 35) rfl rfl rfl (by kernel_rfl) (by kernel_rfl) (by kernel_rfl) (by kernel_rfl) (fun _ _ _ h=>h) (Or.inl ⟨by rfl,fun u hu=>by obtain⟨x0,x1,x2,x3,x4,x5,x6,x7,x8,x9⟩:=unhide HF u hu;go_simp⟩) (unhide HS0) ?_
 try simp only [Act.put,List.setIfInBounds_toArray,List.set_cons_zero,List.set_cons_succ]
 refine till_one 0 (by kernel_rfl) rfl (fun K hK=>?_)
 go_simp
 refine(txw_any B0 ⟨#[123]⟩ W0).mono ?_
 rintro e W1 ⟨t1,rfl,h,bb⟩
 have h0:=h
 obtain⟨F1,p1,rfl,-,-⟩:=h0
 have HT1_1:=hide h
 have HS1:=hide ((unhide HS0).trans (bb.mono (unhide HS0).size))
 clear bb h
 go_wp2_with fail
 refine hK.out _ _ (Or.inr (unhide HS1)) ?_
 clear hK K HS0
 try simp only [Act.put,List.setIfInBounds_toArray,List.set_cons_zero,List.set_cons_succ]
 refine till_one 3 (by kernel_rfl) rfl (fun K hK=>?_)
 go_simp
 refine(listed_any B0 a n cc ⟨#[44,32]⟩ (.func (.func 44) #[] #[]) ks exT W1 (Nat.le_trans (unhide HB) (unhide HS1).size) ((unhide HM) W1 (unhide HS1)).1 (unhide HN).1 (put_pair (unhide HN).2 (unhide HE) ((unhide HM) W1 (unhide HS1)).2.1)).mono ?_
 rintro e W2 ⟨t2,rfl,h,bb⟩
 have h0:=h
 obtain⟨F2,p2,rfl,-,-⟩:=h0
 have HT2_2:=hide h
 have HS2:=hide ((unhide HS1).trans (bb.mono (unhide HS1).size))
 have HT1_2:=hide ((unhide HT1_1).later (Kp.below bb (Nat.le_trans (unhide HB) (unhide HS1).size)))
 clear bb h HT1_1
 go_wp2_with fail
 refine hK.out _ _ (Or.inr (unhide HS2)) ?_
 clear hK K HS1
 try simp only [Act.put,List.setIfInBounds_toArray,List.set_cons_zero,List.set_cons_succ]
 refine till_one 4 (by kernel_rfl) rfl (fun K hK=>?_)
 go_simp
 refine(txw_any B0 ⟨#[125]⟩ W2).mono ?_
 rintro e W3 ⟨t3,rfl,h,bb⟩
 have h0:=h
 obtain⟨F3,p3,rfl,-,-⟩:=h0
 have HT3_3:=hide h
 have HS3:=hide ((unhide HS2).trans (bb.mono (unhide HS2).size))
 have HT1_3:=hide ((unhide HT1_2).later (Kp.below bb (Nat.le_trans (unhide HB) (unhide HS2).size)))
 have HT2_3:=hide ((unhide HT2_2).later (Kp.below bb (Nat.le_trans (unhide HB) (unhide HS2).size)))
 clear bb h HT1_2 HT2_2
 go_wp2_with fail
 refine hK.out _ _ (Or.inr (unhide HS3)) ?_
 clear hK K HS2
 try simp only [Act.put,List.setIfInBounds_toArray,List.set_cons_zero,List.set_cons_succ]
 obtain⟨W4,hW4⟩:∃W,W3.alloc (.cells #[.func (.func F1) #[] p1,.func (.func F2) #[] p2,.func (.func F3) #[] p3] 39)=W:=⟨_,rfl⟩
 obtain⟨q,hq⟩:∃q,W3.heap.size=q:=⟨_,rfl⟩
 have bb:Below W3.heap.size W3 W4:=by rw [←hW4];exact(Below.refl _ _).alloc (Nat.le_refl _) _
 have HX4:=hide (show Txs B0 W4 q _ from txs3 (by rw [←hW4,←hq];exact heap_alloc_new _ _) ((unhide HT1_3).later (Kp.below bb (Nat.le_trans (unhide HB) (unhide HS3).size))) ((unhide HT2_3).later (Kp.below bb (Nat.le_trans (unhide HB) (unhide HS3).size))) ((unhide HT3_3).later (Kp.below bb (Nat.le_trans (unhide HB) (unhide HS3).size))))
 have HS4:=hide ((unhide HS3).trans (bb.mono (unhide HS3).size))
 clear bb HT1_3 HT2_3 HT3_3
 refine till_one 5 (by kernel_rfl) rfl (fun K hK=>?_)
 go_simp
 try rw [hW4]
 try rw [hq]
 refine hK.out _ _ (Or.inr (unhide HS4)) ?_
 clear hK K HS3 hW4 hq
 try simp only [Act.put,List.setIfInBounds_toArray,List.set_cons_zero,List.set_cons_succ]
 refine till_one 6 (by kernel_rfl) rfl (fun K hK=>?_)
 go_simp
 refine(row_any B0 q 3 3 _ W4 (Nat.le_trans (unhide HB) (unhide HS4).size) (unhide HX4) rfl (by decide)).mono ?_
 rintro e W5 ⟨tr,rfl,h,bb⟩
 have h0:=h
 obtain⟨Fr,pr,rfl,-,-⟩:=h0
 have HT:=hide h
 have HS5:=hide ((unhide HS4).trans (bb.mono (unhide HS4).size))
 clear bb h HX4
 go_wp2_with fail
 refine hK.out _ _ (Or.inr (unhide HS5)) ?_
 clear hK K HS4
 try simp only [Act.put,List.setIfInBounds_toArray,List.set_cons_zero,List.set_cons_succ]
 refine till_one 7 (by kernel_rfl) rfl (fun K hK=>?_)
 go_simp
 refine hK.out _ _ (Or.inl (by first|rfl|trivial)) ?_
 clear hK K
 try simp only [Act.put,List.setIfInBounds_toArray,List.set_cons_zero,List.set_cons_succ]
 refine till_done (by kernel_rfl) ?_ _
 go_wp2_with fail
 go_ret
 refine⟨_,rfl,?_,?_⟩
 ·have h1:=unhide HT
  rw [←unhide HR]
  have e:(ex1 19 t v ks (exM ks))=([[123],jl [44,32] true (ks.map exT),[125]]:List (List UInt8)).flatten:=by simp [ex1,exM_map]
  first|(rw [e];exact h1)|(rw [e] at h1;exact h1)
 ·have:=((unhide HM) _ (unhide HS5)).2.2.1
  first|exact this|(rw [hG];exact this)
set_option maxRecDepth 100000 in
set_option maxHeartbeats 4000000 in
theorem ex16_any (B0:Nat) (v:Vl) (ks:List Tn) (vk vn p:Int) (t vs:ByteArray) (al ak:Option Addr) (ll cl lk ck n cc:Nat) (f:Bool) (b:Addr) (w:World) (hB:B0≤w.heap.size) (hr:RowN w B0 ks (some b) cc) (hn:ks.length=n) (hG0:0<B0) (hP:PowAt w) (hE:∀y∈ks,ExC B0 y) (h1:n=1) :
  Calls Tryz.prog 23 #[.agg #[.int .i64 16,.string t,.int .i64 vk,.int .i64 vn,.string vs,.slice al ll cl,.slice ak lk ck,.bool f,.slice (some b) n cc,.int .i64 p]] w fun e w'=>∃t',e=.returned t'∧Txt B0 w' t' (ex1 16 t v ks (exM ks))∧Below w.heap.size w w':=by
 obtain⟨w1,hw1⟩:∃w1,w.alloc (.cells #[.int .i64 16,.string t,.int .i64 vk,.int .i64 vn,.string vs,.slice al ll cl,.slice ak lk ck,.bool f,.slice (some b) n cc,.int .i64 p] 28)=w1:=⟨_,rfl⟩
 obtain⟨G,hG⟩:∃G,w.heap.size=G:=⟨_,rfl⟩
 have A1:w1.heap[G]?=some (.cells #[.int .i64 16,.string t,.int .i64 vk,.int .i64 vn,.string vs,.slice al ll cl,.slice ak lk ck,.bool f,.slice (some b) n cc,.int .i64 p] 28 (0,0)):=by rw [←hw1,←hG];exact heap_alloc_new _ _
 have X1:Below G w w1:=by rw [←hw1,←hG];exact(Below.refl _ _).alloc (Nat.le_refl _) _
 have hBG:B0≤G:=by rw [←hG];exact hB
 have HM:Hid (∀u,Below w1.heap.size w1 u→RowN u B0 ks (some b) cc∧PowAt u∧Below G w u∧B0≤u.heap.size):=hide (fun u h=>by
  have h2:=X1.trans (h.mono (Nat.le_of_lt (lt_of_row A1)))
  exact⟨hr.later (h2.mono hBG),hP.later h2 (by omega),h2,Nat.le_trans hBG (by rw [←hG];exact h2.size)⟩)
 have HF:Hid (∀u,Below w1.heap.size w1 u→u.cell? ⟨G,0,none⟩=some (.int .i64 16)∧u.cell? ⟨G,1,none⟩=some (.string t)∧u.cell? ⟨G,2,none⟩=some (.int .i64 vk)∧u.cell? ⟨G,3,none⟩=some (.int .i64 vn)∧u.cell? ⟨G,4,none⟩=some (.string vs)∧u.cell? ⟨G,5,none⟩=some (.slice al ll cl)∧u.cell? ⟨G,6,none⟩=some (.slice ak lk ck)∧u.cell? ⟨G,7,none⟩=some (.bool f)∧u.cell? ⟨G,8,none⟩=some (.slice (some b) n cc)∧u.cell? ⟨G,9,none⟩=some (.int .i64 p)):=hide (fun u hu=>row_ten (Below.cellsAt hu A1))
 have HB:=hide (show B0≤w1.heap.size from Nat.le_trans hBG (Nat.le_of_lt (lt_of_row A1)))
 have HN:=hide (And.intro hn hG0)
 obtain⟨R,hR⟩:∃R,ex1 16 t v ks (exM ks)=R:=⟨_,rfl⟩
 rw [hR]
 have HR:=hide hR
 have HW:=hide hw1
 have HI0:=hide (show 0<n by omega)
 have HE:=hide hE
 clear hE
 clear h1
 clear A1 X1 hw1 hBG hB hr hn hG0 hP hR
 go_enter Tryz.func23,Tryz.ntmps23
 go_upto_region 1 with fail
 rw [unhide HW]
 try rw [hG]
 clear HW
 obtain⟨x0,x1,x2,x3,x4,x5,x6,x7,x8,x9⟩:=unhide HF w1 (Below.refl _ _)
 go_upto_region 11 with fail
 clear x0 x1 x2 x3 x4 x5 x6 x7 x8 x9
 have HS0:Hid (Below w1.heap.size w1 w1.drew):=hide ((Below.refl _ _).drew)
 refine till_begin (S:=fun w'=>Below w1.heap.size w1 w') 7 (by kernel_rfl) ?_
 obtain⟨W0,hW0⟩:∃W0,w1.drew=W0:=⟨_,rfl⟩
 try rw [hW0]
 rw [hW0] at HS0
 clear hW0
 refine till_take 0 (v:=.pointer (some ⟨G,1,none⟩)) (some 42) rfl rfl rfl (by kernel_rfl) (by kernel_rfl) (by kernel_rfl) (by kernel_rfl) (fun _ _ _ h=>h) (Or.inl ⟨by rfl,fun u hu=>by obtain⟨x0,x1,x2,x3,x4,x5,x6,x7,x8,x9⟩:=unhide HF u hu;go_simp⟩) (unhide HS0) ?_
 try simp only [Act.put,List.setIfInBounds_toArray,List.set_cons_zero,List.set_cons_succ]
 refine till_take 1 (v:=.string t) (some 43) rfl rfl rfl (by kernel_rfl) (by kernel_rfl) (by kernel_rfl) (by kernel_rfl) (fun _ _ _ h=>h) (Or.inl ⟨by rfl,fun u hu=>by obtain⟨x0,x1,x2,x3,x4,x5,x6,x7,x8,x9⟩:=unhide HF u hu;go_simp⟩) (unhide HS0) ?_
 try simp only [Act.put,List.setIfInBounds_toArray,List.set_cons_zero,List.set_cons_succ]
 refine till_take 3 (v:=.agg #[.int .i64 16,.string t,.int .i64 vk,.int .i64 vn,.string vs,.slice al ll cl,.slice ak lk ck,.bool f,.slice (some b) n cc,.int .i64 p]) (some 45) rfl rfl rfl (by kernel_rfl) (by kernel_rfl) (by kernel_rfl) (by kernel_rfl) (fun _ _ _ h=>h) (Or.inl ⟨by rfl,fun u hu=>by obtain⟨x0,x1,x2,x3,x4,x5,x6,x7,x8,x9⟩:=unhide HF u hu;go_simp⟩) (unhide HS0) ?_
 try simp only [Act.put,List.setIfInBounds_toArray,List.set_cons_zero,List.set_cons_succ]
 refine till_one 2 (by kernel_rfl) rfl (fun K hK=>?_)
 go_simp
 refine(txw_any B0 t W0).mono ?_
 rintro e W1 ⟨t1,rfl,h,bb⟩
 have h0:=h
 obtain⟨F1,p1,rfl,-,-⟩:=h0
 have HT1_1:=hide h
 have HS1:=hide ((unhide HS0).trans (bb.mono (unhide HS0).size))
 clear bb h
 go_wp2_with fail
 refine hK.out _ _ (Or.inr (unhide HS1)) ?_
 clear hK K HS0
 try simp only [Act.put,List.setIfInBounds_toArray,List.set_cons_zero,List.set_cons_succ]
 refine till_one 4 (by kernel_rfl) rfl (fun K hK=>?_)
 go_simp
 refine(operand_any B0 ks 16 vk vn p t vs al ak ll cl lk ck n cc f b 0 W1 (Nat.le_trans (unhide HB) (unhide HS1).size) ((unhide HM) W1 (unhide HS1)).1 (unhide HN).1 (unhide HI0) (unhide HN).2 ((unhide HM) W1 (unhide HS1)).2.1 (unhide HE)).mono ?_
 rintro e W2 ⟨t2,rfl,h,bb⟩
 have h0:=h
 obtain⟨F2,p2,rfl,-,-⟩:=h0
 have HT2_2:=hide h
 have HS2:=hide ((unhide HS1).trans (bb.mono (unhide HS1).size))
 have HT1_2:=hide ((unhide HT1_1).later (Kp.below bb (Nat.le_trans (unhide HB) (unhide HS1).size)))
 clear bb h HT1_1
 go_wp2_with fail
 refine hK.out _ _ (Or.inr (unhide HS2)) ?_
 clear hK K HS1
 try simp only [Act.put,List.setIfInBounds_toArray,List.set_cons_zero,List.set_cons_succ]
 obtain⟨W3,hW3⟩:∃W,W2.alloc (.cells #[.func (.func F1) #[] p1,.func (.func F2) #[] p2] 39)=W:=⟨_,rfl⟩
 obtain⟨q,hq⟩:∃q,W2.heap.size=q:=⟨_,rfl⟩
 have bb:Below W2.heap.size W2 W3:=by rw [←hW3];exact(Below.refl _ _).alloc (Nat.le_refl _) _
 have HX3:=hide (show Txs B0 W3 q _ from txs2 (by rw [←hW3,←hq];exact heap_alloc_new _ _) ((unhide HT1_2).later (Kp.below bb (Nat.le_trans (unhide HB) (unhide HS2).size))) ((unhide HT2_2).later (Kp.below bb (Nat.le_trans (unhide HB) (unhide HS2).size))))
 have HS3:=hide ((unhide HS2).trans (bb.mono (unhide HS2).size))
 clear bb HT1_2 HT2_2
 refine till_one 5 (by kernel_rfl) rfl (fun K hK=>?_)
 go_simp
 try rw [hW3]
 try rw [hq]
 refine hK.out _ _ (Or.inr (unhide HS3)) ?_
 clear hK K HS2 hW3 hq
 try simp only [Act.put,List.setIfInBounds_toArray,List.set_cons_zero,List.set_cons_succ]
 refine till_one 6 (by kernel_rfl) rfl (fun K hK=>?_)
 go_simp
 refine(row_any B0 q 2 2 _ W3 (Nat.le_trans (unhide HB) (unhide HS3).size) (unhide HX3) rfl (by decide)).mono ?_
 rintro e W4 ⟨tr,rfl,h,bb⟩
 have h0:=h
 obtain⟨Fr,pr,rfl,-,-⟩:=h0
 have HT:=hide h
 have HS4:=hide ((unhide HS3).trans (bb.mono (unhide HS3).size))
 clear bb h HX3
 go_wp2_with fail
 refine hK.out _ _ (Or.inr (unhide HS4)) ?_
 clear hK K HS3
 try simp only [Act.put,List.setIfInBounds_toArray,List.set_cons_zero,List.set_cons_succ]
 refine till_one 7 (by kernel_rfl) rfl (fun K hK=>?_)
 go_simp
 refine hK.out _ _ (Or.inl (by first|rfl|trivial)) ?_
 clear hK K
 try simp only [Act.put,List.setIfInBounds_toArray,List.set_cons_zero,List.set_cons_succ]
 refine till_done (by kernel_rfl) ?_ _
 go_wp2_with fail
 go_ret
 refine⟨_,rfl,?_,?_⟩
 ·have h1:=unhide HT
  rw [←unhide HR]
  have e:(ex1 16 t v ks (exM ks))=([t.data.toList,opX 16 t ks (exM ks) 0]:List (List UInt8)).flatten:=by simp [ex1]
  first|(rw [e];exact h1)|(rw [e] at h1;exact h1)
 ·have:=((unhide HM) _ (unhide HS4)).2.2.1
  first|exact this|(rw [hG];exact this)
end Go.Proofs.YtekbmfppfjlboaaGreatDoor
