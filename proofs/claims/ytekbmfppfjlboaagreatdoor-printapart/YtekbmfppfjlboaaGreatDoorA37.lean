/-
  Layer 18 (print): a statement's one expression is written; conditions: the nodes lie in memory.
  Layer 18 (print): a condition and its block are written; conditions: the nodes lie in memory.
-/
import Derived.Test.YtekbmfppfjlboaaGreatDoorA32
set_option linter.unusedVariables false
set_option linter.unusedSimpArgs false
namespace Go.Proofs.YtekbmfppfjlboaaGreatDoor
open Go.RowKit
set_option linter.unusedVariables false
set_option linter.unusedSimpArgs false
set_option maxRecDepth 100000 in
set_option maxHeartbeats 4000000 in
theorem ended_any (B0:Nat) (ah:ByteArray) (v:Vl) (ks:List Tn) (k vk vn p:Int) (t vs:ByteArray) (al ak:Option Addr) (ll cl lk ck n cc:Nat) (f:Bool) (b:Addr) (w:World) (hB:B0≤w.heap.size) (hr:RowN w B0 ks (some b) cc) (hn:ks.length=n) (hG0:0<B0) (hP:PowAt w) (hE0:∀y,ks[0]?=some y→ExC B0 y) (h1:0<n) :
  Calls Tryz.prog 130 #[.string ah,.agg #[.int .i64 k,.string t,.int .i64 vk,.int .i64 vn,.string vs,.slice al ll cl,.slice ak lk ck,.bool f,.slice (some b) n cc,.int .i64 p]] w fun e w'=>∃t',e=.returned t'∧Txt B0 w' t' (ah.data.toList++(((exM ks)[0]?).getD []++[59]))∧Below w.heap.size w w':=by
 obtain⟨w1,hw1⟩:∃w1,w.alloc (.cells #[.int .i64 k,.string t,.int .i64 vk,.int .i64 vn,.string vs,.slice al ll cl,.slice ak lk ck,.bool f,.slice (some b) n cc,.int .i64 p] 28)=w1:=⟨_,rfl⟩
 obtain⟨G,hG⟩:∃G,w.heap.size=G:=⟨_,rfl⟩
 have A1:w1.heap[G]?=some (.cells #[.int .i64 k,.string t,.int .i64 vk,.int .i64 vn,.string vs,.slice al ll cl,.slice ak lk ck,.bool f,.slice (some b) n cc,.int .i64 p] 28 (0,0)):=by rw [←hw1,←hG];exact heap_alloc_new _ _
 have X1:Below G w w1:=by rw [←hw1,←hG];exact(Below.refl _ _).alloc (Nat.le_refl _) _
 have hBG:B0≤G:=by rw [←hG];exact hB
 have HM:Hid (∀u,Below w1.heap.size w1 u→RowN u B0 ks (some b) cc∧PowAt u∧Below G w u∧B0≤u.heap.size):=hide (fun u h=>by
  have h2:=X1.trans (h.mono (Nat.le_of_lt (lt_of_row A1)))
  exact⟨hr.later (h2.mono hBG),hP.later h2 (by omega),h2,Nat.le_trans hBG (by rw [←hG];exact h2.size)⟩)
 have HF:Hid (∀u,Below w1.heap.size w1 u→u.cell? ⟨G,0,none⟩=some (.int .i64 k)∧u.cell? ⟨G,1,none⟩=some (.string t)∧u.cell? ⟨G,2,none⟩=some (.int .i64 vk)∧u.cell? ⟨G,3,none⟩=some (.int .i64 vn)∧u.cell? ⟨G,4,none⟩=some (.string vs)∧u.cell? ⟨G,5,none⟩=some (.slice al ll cl)∧u.cell? ⟨G,6,none⟩=some (.slice ak lk ck)∧u.cell? ⟨G,7,none⟩=some (.bool f)∧u.cell? ⟨G,8,none⟩=some (.slice (some b) n cc)∧u.cell? ⟨G,9,none⟩=some (.int .i64 p)):=hide (fun u hu=>row_ten (Below.cellsAt hu A1))
 have HB:=hide (show B0≤w1.heap.size from Nat.le_trans hBG (Nat.le_of_lt (lt_of_row A1)))
 have HN:=hide (And.intro hn hG0)
 obtain⟨R,hR⟩:∃R,ah.data.toList++(((exM ks)[0]?).getD []++[59])=R:=⟨_,rfl⟩
 rw [hR]
 have HR:=hide hR
 have HW:=hide hw1
 obtain⟨y,hy⟩:∃y,ks[0]?=some y:=⟨_,List.getElem?_eq_getElem (by omega)⟩
 have hEy:=hE0 y hy
 obtain⟨b',vky,vny,vsy,aly,aky,ay,lly,cly,lky,cky,ny,ccy,eb,hcy,hby,hny,hzy,hcelly⟩:=hr.ten hy
 obtain rfl:b=b':=Option.some.inj eb
 have hncc:n≤cc:=by rw [←hn];exact hcy
 have HY:=hide (exM_at ks 0 y hy)
 obtain⟨ky,hky⟩:∃z,y.k=z:=⟨_,rfl⟩
 obtain⟨ty,hty⟩:∃z,y.t=z:=⟨_,rfl⟩
 obtain⟨fy,hfy⟩:∃z,y.f=z:=⟨_,rfl⟩
 obtain⟨py,hpy⟩:∃z,y.p=z:=⟨_,rfl⟩
 rw [hky,hty,hfy,hpy] at hzy hcelly
 have X0:∀u,Below w1.heap.size w1 u→Below G w u:=fun u h=>X1.trans (h.mono (Nat.le_of_lt (lt_of_row A1)))
 have HK:Hid (∀u,Below w1.heap.size w1 u→u.cell? b=some (.int .i64 ky)∧u.cell? ⟨b.block,b.off+1,none⟩=some (.string ty)∧u.cell? ⟨b.block,b.off+2,none⟩=some (.int .i64 vky)∧u.cell? ⟨b.block,b.off+3,none⟩=some (.int .i64 vny)∧u.cell? ⟨b.block,b.off+4,none⟩=some (.string vsy)∧u.cell? ⟨b.block,b.off+5,none⟩=some (.slice aly lly cly)∧u.cell? ⟨b.block,b.off+6,none⟩=some (.slice aky lky cky)∧u.cell? ⟨b.block,b.off+7,none⟩=some (.bool fy)∧u.cell? ⟨b.block,b.off+8,none⟩=some (.slice ay ny ccy)∧u.cell? ⟨b.block,b.off+9,none⟩=some (.int .i64 py)):=hide (fun u h=>by
  have hc:∀j v,([.int .i64 ky,.string ty,.int .i64 vky,.int .i64 vny,.string vsy,.slice aly lly cly,.slice aky lky cky,.bool fy,.slice ay ny ccy,.int .i64 py]:List Value)[j]?=some v→u.cell? ((b.add (0 * 10)).add j)=some v:=fun j v hj=>(World.cell?_of_block ((X0 u h).block _ (by rw [block_add,block_add];omega))).trans (hcelly j v hj)
  exact⟨hc 0 _ rfl,hc 1 _ rfl,hc 2 _ rfl,hc 3 _ rfl,hc 4 _ rfl,hc 5 _ rfl,hc 6 _ rfl,hc 7 _ rfl,hc 8 _ rfl,hc 9 _ rfl⟩)
 obtain⟨Z,hZ⟩:∃Z,exT y=Z:=⟨_,rfl⟩
 rw [hZ] at HY
 have CE:Hid (∀u,Below w1.heap.size w1 u→Calls Tryz.prog 23 #[.agg #[.int .i64 ky,.string ty,.int .i64 vky,.int .i64 vny,.string vsy,.slice aly lly cly,.slice aky lky cky,.bool fy,.slice ay ny ccy,.int .i64 py]] u fun e u'=>∃t,e=.returned t∧Txt B0 u' t Z∧Below u.heap.size u u'):=hide (fun u h=>by rw [←hZ];exact hEy _ u (Nat.le_trans hBG (by rw [←hG];exact(X0 u h).size)) hG0 (hP.later (X0 u h) (by omega)) (hzy.laterB ((X0 u h).mono hBG)))
 clear hEy hzy hcelly hy hny hcy hby hky hty hfy hpy hZ X0 eb
 have hi0:¬n=0:=by omega
 clear hE0 h1
 clear A1 X1 hw1 hBG hB hr hn hG0 hP hR
 go_enter Tryz.func130,Tryz.ntmps130
 go_upto_region 1 with fail
 rw [unhide HW]
 try rw [hG]
 clear HW
 obtain⟨x0,x1,x2,x3,x4,x5,x6,x7,x8,x9⟩:=unhide HF w1 (Below.refl _ _)
 go_upto_region 1 with fail
 clear x0 x1 x2 x3 x4 x5 x6 x7 x8 x9
 have HS0:Hid (Below w1.heap.size w1 w1.drew):=hide ((Below.refl _ _).drew)
 refine till_begin (S:=fun w'=>Below w1.heap.size w1 w') 10 (by kernel_rfl) ?_
 obtain⟨W0,hW0⟩:∃W0,w1.drew=W0:=⟨_,rfl⟩
 try rw [hW0]
 rw [hW0] at HS0
 clear hW0
 refine till_take 0 (v:=.string ah) (some 5) rfl rfl rfl (by kernel_rfl) (by kernel_rfl) (by kernel_rfl) (by kernel_rfl) (fun _ _ _ h=>h) (Or.inl ⟨by rfl,fun u hu=>by obtain⟨x0,x1,x2,x3,x4,x5,x6,x7,x8,x9⟩:=unhide HF u hu;go_simp⟩) (unhide HS0) ?_
 try simp only [Act.put,List.setIfInBounds_toArray,List.set_cons_zero,List.set_cons_succ]
 refine till_take 2 (v:=.pointer (some ⟨G,8,none⟩)) (some 7) rfl rfl rfl (by kernel_rfl) (by kernel_rfl) (by kernel_rfl) (by kernel_rfl) (fun _ _ _ h=>h) (Or.inl ⟨by rfl,fun u hu=>by obtain⟨x0,x1,x2,x3,x4,x5,x6,x7,x8,x9⟩:=unhide HF u hu;go_simp⟩) (unhide HS0) ?_
 try simp only [Act.put,List.setIfInBounds_toArray,List.set_cons_zero,List.set_cons_succ]
 refine till_take 3 (v:=.slice (some b) n cc) (some 8) rfl rfl rfl (by kernel_rfl) (by kernel_rfl) (by kernel_rfl) (by kernel_rfl) (fun _ _ _ h=>h) (Or.inl ⟨by rfl,fun u hu=>by obtain⟨x0,x1,x2,x3,x4,x5,x6,x7,x8,x9⟩:=unhide HF u hu;go_simp⟩) (unhide HS0) ?_
 try simp only [Act.put,List.setIfInBounds_toArray,List.set_cons_zero,List.set_cons_succ]
 refine till_take 4 (v:=.pointer (some b)) (some 9) rfl rfl rfl (by kernel_rfl) (by kernel_rfl) (by kernel_rfl) (by kernel_rfl) (fun _ _ _ h=>h) (Or.inl ⟨by rfl,fun u hu=>by obtain⟨x0,x1,x2,x3,x4,x5,x6,x7,x8,x9⟩:=unhide HF u hu;obtain⟨z0,z1,z2,z3,z4,z5,z6,z7,z8,z9⟩:=unhide HK u hu;go_simp⟩) (unhide HS0) ?_
 try simp only [Act.put,List.setIfInBounds_toArray,List.set_cons_zero,List.set_cons_succ]
 refine till_take 5 (v:=.agg #[.int .i64 ky,.string ty,.int .i64 vky,.int .i64 vny,.string vsy,.slice aly lly cly,.slice aky lky cky,.bool fy,.slice ay ny ccy,.int .i64 py]) (some 10) rfl rfl rfl (by kernel_rfl) (by kernel_rfl) (by kernel_rfl) (by kernel_rfl) (fun _ _ _ h=>h) (Or.inl ⟨by rfl,fun u hu=>by obtain⟨x0,x1,x2,x3,x4,x5,x6,x7,x8,x9⟩:=unhide HF u hu;obtain⟨z0,z1,z2,z3,z4,z5,z6,z7,z8,z9⟩:=unhide HK u hu;go_simp⟩) (unhide HS0) ?_
 try simp only [Act.put,List.setIfInBounds_toArray,List.set_cons_zero,List.set_cons_succ]
 refine till_one 1 (by kernel_rfl) rfl (fun K hK=>?_)
 go_simp
 refine(txw_any B0 ah W0).mono ?_
 rintro e W1 ⟨t1,rfl,h,bb⟩
 have h0:=h
 obtain⟨F1,p1,rfl,-,-⟩:=h0
 have HT1_1:=hide h
 have HS1:=hide ((unhide HS0).trans (bb.mono (unhide HS0).size))
 clear bb h
 go_wp2_with fail
 refine hK.out _ _ (Or.inr (unhide HS1)) ?_
 clear hK K HS0
 try simp only [Act.put,List.setIfInBounds_toArray,List.set_cons_zero,List.set_cons_succ]
 refine till_one 6 (by kernel_rfl) rfl (fun K hK=>?_)
 go_simp
 refine((unhide CE) W1 (unhide HS1)).mono ?_
 rintro e W2 ⟨t2,rfl,h,bb⟩
 have h0:=h
 obtain⟨F2,p2,rfl,-,-⟩:=h0
 have HT2_2:=hide h
 have HS2:=hide ((unhide HS1).trans (bb.mono (unhide HS1).size))
 have HT1_2:=hide ((unhide HT1_1).later (Kp.below bb (Nat.le_trans (unhide HB) (unhide HS1).size)))
 clear bb h HT1_1
 go_wp2_with fail
 refine hK.out _ _ (Or.inr (unhide HS2)) ?_
 clear hK K HS1
 try simp only [Act.put,List.setIfInBounds_toArray,List.set_cons_zero,List.set_cons_succ]
 refine till_one 7 (by kernel_rfl) rfl (fun K hK=>?_)
 go_simp
 refine(txw_any B0 ⟨#[59]⟩ W2).mono ?_
 rintro e W3 ⟨t3,rfl,h,bb⟩
 have h0:=h
 obtain⟨F3,p3,rfl,-,-⟩:=h0
 have HT3_3:=hide h
 have HS3:=hide ((unhide HS2).trans (bb.mono (unhide HS2).size))
 have HT1_3:=hide ((unhide HT1_2).later (Kp.below bb (Nat.le_trans (unhide HB) (unhide HS2).size)))
 have HT2_3:=hide ((unhide HT2_2).later (Kp.below bb (Nat.le_trans (unhide HB) (unhide HS2).size)))
 clear bb h HT1_2 HT2_2
 go_wp2_with fail
 refine hK.out _ _ (Or.inr (unhide HS3)) ?_
 clear hK K HS2
 try simp only [Act.put,List.setIfInBounds_toArray,List.set_cons_zero,List.set_cons_succ]
 obtain⟨W4,hW4⟩:∃W,W3.alloc (.cells #[.func (.func F1) #[] p1,.func (.func F2) #[] p2,.func (.func F3) #[] p3] 39)=W:=⟨_,rfl⟩
 obtain⟨q,hq⟩:∃q,W3.heap.size=q:=⟨_,rfl⟩
 have bb:Below W3.heap.size W3 W4:=by rw [←hW4];exact(Below.refl _ _).alloc (Nat.le_refl _) _
 have HX4:=hide (show Txs B0 W4 q _ from txs3 (by rw [←hW4,←hq];exact heap_alloc_new _ _) ((unhide HT1_3).later (Kp.below bb (Nat.le_trans (unhide HB) (unhide HS3).size))) ((unhide HT2_3).later (Kp.below bb (Nat.le_trans (unhide HB) (unhide HS3).size))) ((unhide HT3_3).later (Kp.below bb (Nat.le_trans (unhide HB) (unhide HS3).size))))
 have HS4:=hide ((unhide HS3).trans (bb.mono (unhide HS3).size))
 clear bb HT1_3 HT2_3 HT3_3
 refine till_one 8 (by kernel_rfl) rfl (fun K hK=>?_)
 go_simp
 try rw [hW4]
 try rw [hq]
 refine hK.out _ _ (Or.inr (unhide HS4)) ?_
 clear hK K HS3 hW4 hq
 try simp only [Act.put,List.setIfInBounds_toArray,List.set_cons_zero,List.set_cons_succ]
 refine till_one 9 (by kernel_rfl) rfl (fun K hK=>?_)
 go_simp
 refine(row_any B0 q 3 3 _ W4 (Nat.le_trans (unhide HB) (unhide HS4).size) (unhide HX4) rfl (by decide)).mono ?_
 rintro e W5 ⟨tr,rfl,h,bb⟩
 have h0:=h
 obtain⟨Fr,pr,rfl,-,-⟩:=h0
 have HT:=hide h
 have HS5:=hide ((unhide HS4).trans (bb.mono (unhide HS4).size))
 clear bb h HX4
 go_wp2_with fail
 refine hK.out _ _ (Or.inr (unhide HS5)) ?_
 clear hK K HS4
 try simp only [Act.put,List.setIfInBounds_toArray,List.set_cons_zero,List.set_cons_succ]
 refine till_one 10 (by kernel_rfl) rfl (fun K hK=>?_)
 go_simp
 refine hK.out _ _ (Or.inl (by first|rfl|trivial)) ?_
 clear hK K
 try simp only [Act.put,List.setIfInBounds_toArray,List.set_cons_zero,List.set_cons_succ]
 refine till_done (by kernel_rfl) ?_ _
 go_wp2_with fail
 go_ret
 refine⟨_,rfl,?_,?_⟩
 ·have h1:=unhide HT
  rw [←unhide HR]
  have e:(ah.data.toList++(((exM ks)[0]?).getD []++[59]))=([ah.data.toList,Z,[59]]:List (List UInt8)).flatten:=by simp [unhide HY]
  first|(rw [e];exact h1)|(rw [e] at h1;exact h1)
 ·have:=((unhide HM) _ (unhide HS5)).2.2.1
  first|exact this|(rw [hG];exact this)
def BlC (B0:Nat) (d:Int) (TB:Tn→List UInt8) (y:Tn):Prop:=∀(x:List Value) (u:World),B0≤u.heap.size→0<B0→PowAt u→IsN u (fun b=>b<B0) y x→Calls Tryz.prog 69 #[.agg x.toArray,.int .i64 d] u fun e u'=>∃t,e=.returned t∧Txt B0 u' t (TB y)∧Below u.heap.size u u'
set_option maxRecDepth 100000 in
set_option maxHeartbeats 4000000 in
theorem guarded_any (B0:Nat) (ah:ByteArray) (d:Int) (hd:0≤d∧d≤1000000) (TB:Tn→List UInt8) (v:Vl) (ks:List Tn) (k vk vn p:Int) (t vs:ByteArray) (al ak:Option Addr) (ll cl lk ck n cc:Nat) (f:Bool) (b:Addr) (w:World) (hB:B0≤w.heap.size) (hr:RowN w B0 ks (some b) cc) (hn:ks.length=n) (hG0:0<B0) (hP:PowAt w) (hE0:∀y,ks[0]?=some y→ExC B0 y) (hE1:∀y,ks[1]?=some y→BlC B0 (d+1) TB y) (h1:1<n) :
  Calls Tryz.prog 132 #[.string ah,.agg #[.int .i64 k,.string t,.int .i64 vk,.int .i64 vn,.string vs,.slice al ll cl,.slice ak lk ck,.bool f,.slice (some b) n cc,.int .i64 p],.int .i64 d] w fun e w'=>∃t',e=.returned t'∧Txt B0 w' t' (ah.data.toList++(((exM ks)[0]?).getD []++(41 :: 32 :: ((ks[1]?).map TB).getD [])))∧Below w.heap.size w w':=by
 obtain⟨w1,hw1⟩:∃w1,w.alloc (.cells #[.int .i64 k,.string t,.int .i64 vk,.int .i64 vn,.string vs,.slice al ll cl,.slice ak lk ck,.bool f,.slice (some b) n cc,.int .i64 p] 28)=w1:=⟨_,rfl⟩
 obtain⟨G,hG⟩:∃G,w.heap.size=G:=⟨_,rfl⟩
 have A1:w1.heap[G]?=some (.cells #[.int .i64 k,.string t,.int .i64 vk,.int .i64 vn,.string vs,.slice al ll cl,.slice ak lk ck,.bool f,.slice (some b) n cc,.int .i64 p] 28 (0,0)):=by rw [←hw1,←hG];exact heap_alloc_new _ _
 have X1:Below G w w1:=by rw [←hw1,←hG];exact(Below.refl _ _).alloc (Nat.le_refl _) _
 have hBG:B0≤G:=by rw [←hG];exact hB
 have HM:Hid (∀u,Below w1.heap.size w1 u→RowN u B0 ks (some b) cc∧PowAt u∧Below G w u∧B0≤u.heap.size):=hide (fun u h=>by
  have h2:=X1.trans (h.mono (Nat.le_of_lt (lt_of_row A1)))
  exact⟨hr.later (h2.mono hBG),hP.later h2 (by omega),h2,Nat.le_trans hBG (by rw [←hG];exact h2.size)⟩)
 have HF:Hid (∀u,Below w1.heap.size w1 u→u.cell? ⟨G,0,none⟩=some (.int .i64 k)∧u.cell? ⟨G,1,none⟩=some (.string t)∧u.cell? ⟨G,2,none⟩=some (.int .i64 vk)∧u.cell? ⟨G,3,none⟩=some (.int .i64 vn)∧u.cell? ⟨G,4,none⟩=some (.string vs)∧u.cell? ⟨G,5,none⟩=some (.slice al ll cl)∧u.cell? ⟨G,6,none⟩=some (.slice ak lk ck)∧u.cell? ⟨G,7,none⟩=some (.bool f)∧u.cell? ⟨G,8,none⟩=some (.slice (some b) n cc)∧u.cell? ⟨G,9,none⟩=some (.int .i64 p)):=hide (fun u hu=>row_ten (Below.cellsAt hu A1))
 have HB:=hide (show B0≤w1.heap.size from Nat.le_trans hBG (Nat.le_of_lt (lt_of_row A1)))
 have HN:=hide (And.intro hn hG0)
 obtain⟨R,hR⟩:∃R,ah.data.toList++(((exM ks)[0]?).getD []++(41 :: 32 :: ((ks[1]?).map TB).getD []))=R:=⟨_,rfl⟩
 rw [hR]
 have HR:=hide hR
 have HW:=hide hw1
 have hi1:(1:Int)<(n:Int):=by omega
 have hm1:=hide (show IntKind.i64.wrap (d+1)=d+1 by rw [IntKind.wrap_i64];omega)
 obtain⟨y,hy⟩:∃y,ks[0]?=some y:=⟨_,List.getElem?_eq_getElem (by omega)⟩
 have hEy:=hE0 y hy
 obtain⟨b',vky,vny,vsy,aly,aky,ay,lly,cly,lky,cky,ny,ccy,eb,hcy,hby,hny,hzy,hcelly⟩:=hr.ten hy
 obtain rfl:b=b':=Option.some.inj eb
 have hncc:n≤cc:=by rw [←hn];exact hcy
 have HY:=hide (exM_at ks 0 y hy)
 obtain⟨ky,hky⟩:∃z,y.k=z:=⟨_,rfl⟩
 obtain⟨ty,hty⟩:∃z,y.t=z:=⟨_,rfl⟩
 obtain⟨fy,hfy⟩:∃z,y.f=z:=⟨_,rfl⟩
 obtain⟨py,hpy⟩:∃z,y.p=z:=⟨_,rfl⟩
 rw [hky,hty,hfy,hpy] at hzy hcelly
 have X0:∀u,Below w1.heap.size w1 u→Below G w u:=fun u h=>X1.trans (h.mono (Nat.le_of_lt (lt_of_row A1)))
 have HK:Hid (∀u,Below w1.heap.size w1 u→u.cell? b=some (.int .i64 ky)∧u.cell? ⟨b.block,b.off+1,none⟩=some (.string ty)∧u.cell? ⟨b.block,b.off+2,none⟩=some (.int .i64 vky)∧u.cell? ⟨b.block,b.off+3,none⟩=some (.int .i64 vny)∧u.cell? ⟨b.block,b.off+4,none⟩=some (.string vsy)∧u.cell? ⟨b.block,b.off+5,none⟩=some (.slice aly lly cly)∧u.cell? ⟨b.block,b.off+6,none⟩=some (.slice aky lky cky)∧u.cell? ⟨b.block,b.off+7,none⟩=some (.bool fy)∧u.cell? ⟨b.block,b.off+8,none⟩=some (.slice ay ny ccy)∧u.cell? ⟨b.block,b.off+9,none⟩=some (.int .i64 py)):=hide (fun u h=>by
  have hc:∀j v,([.int .i64 ky,.string ty,.int .i64 vky,.int .i64 vny,.string vsy,.slice aly lly cly,.slice aky lky cky,.bool fy,.slice ay ny ccy,.int .i64 py]:List Value)[j]?=some v→u.cell? ((b.add (0 * 10)).add j)=some v:=fun j v hj=>(World.cell?_of_block ((X0 u h).block _ (by rw [block_add,block_add];omega))).trans (hcelly j v hj)
  exact⟨hc 0 _ rfl,hc 1 _ rfl,hc 2 _ rfl,hc 3 _ rfl,hc 4 _ rfl,hc 5 _ rfl,hc 6 _ rfl,hc 7 _ rfl,hc 8 _ rfl,hc 9 _ rfl⟩)
 obtain⟨Z,hZ⟩:∃Z,exT y=Z:=⟨_,rfl⟩
 rw [hZ] at HY
 have CE:Hid (∀u,Below w1.heap.size w1 u→Calls Tryz.prog 23 #[.agg #[.int .i64 ky,.string ty,.int .i64 vky,.int .i64 vny,.string vsy,.slice aly lly cly,.slice aky lky cky,.bool fy,.slice ay ny ccy,.int .i64 py]] u fun e u'=>∃t,e=.returned t∧Txt B0 u' t Z∧Below u.heap.size u u'):=hide (fun u h=>by rw [←hZ];exact hEy _ u (Nat.le_trans hBG (by rw [←hG];exact(X0 u h).size)) hG0 (hP.later (X0 u h) (by omega)) (hzy.laterB ((X0 u h).mono hBG)))
 clear hEy hzy hcelly hy hny hcy hby hky hty hfy hpy hZ X0 eb
 obtain⟨y2,hy2⟩:∃y2,ks[1]?=some y2:=⟨_,List.getElem?_eq_getElem (by omega)⟩
 have hEy2:=hE1 y2 hy2
 obtain⟨b',vky2,vny2,vsy2,aly2,aky2,ay2,lly2,cly2,lky2,cky2,ny2,ccy2,eb,hcy2,hby2,hny2,hzy2,hcelly2⟩:=hr.ten hy2
 obtain rfl:b=b':=Option.some.inj eb
 have hncc2:n≤cc:=by rw [←hn];exact hcy2
 have HY2:=hide (show (ks[1]?).map TB=some (TB y2) by rw [hy2];rfl)
 obtain⟨ky2,hky2⟩:∃z,y2.k=z:=⟨_,rfl⟩
 obtain⟨ty2,hty2⟩:∃z,y2.t=z:=⟨_,rfl⟩
 obtain⟨fy2,hfy2⟩:∃z,y2.f=z:=⟨_,rfl⟩
 obtain⟨py2,hpy2⟩:∃z,y2.p=z:=⟨_,rfl⟩
 rw [hky2,hty2,hfy2,hpy2] at hzy2 hcelly2
 have X0:∀u,Below w1.heap.size w1 u→Below G w u:=fun u h=>X1.trans (h.mono (Nat.le_of_lt (lt_of_row A1)))
 have HK2:Hid (∀u,Below w1.heap.size w1 u→u.cell? ⟨b.block,b.off+10,none⟩=some (.int .i64 ky2)∧u.cell? ⟨b.block,b.off+10+1,none⟩=some (.string ty2)∧u.cell? ⟨b.block,b.off+10+2,none⟩=some (.int .i64 vky2)∧u.cell? ⟨b.block,b.off+10+3,none⟩=some (.int .i64 vny2)∧u.cell? ⟨b.block,b.off+10+4,none⟩=some (.string vsy2)∧u.cell? ⟨b.block,b.off+10+5,none⟩=some (.slice aly2 lly2 cly2)∧u.cell? ⟨b.block,b.off+10+6,none⟩=some (.slice aky2 lky2 cky2)∧u.cell? ⟨b.block,b.off+10+7,none⟩=some (.bool fy2)∧u.cell? ⟨b.block,b.off+10+8,none⟩=some (.slice ay2 ny2 ccy2)∧u.cell? ⟨b.block,b.off+10+9,none⟩=some (.int .i64 py2)):=hide (fun u h=>by
  have hc:∀j v,([.int .i64 ky2,.string ty2,.int .i64 vky2,.int .i64 vny2,.string vsy2,.slice aly2 lly2 cly2,.slice aky2 lky2 cky2,.bool fy2,.slice ay2 ny2 ccy2,.int .i64 py2]:List Value)[j]?=some v→u.cell? ((b.add (1 * 10)).add j)=some v:=fun j v hj=>(World.cell?_of_block ((X0 u h).block _ (by rw [block_add,block_add];omega))).trans (hcelly2 j v hj)
  exact⟨hc 0 _ rfl,hc 1 _ rfl,hc 2 _ rfl,hc 3 _ rfl,hc 4 _ rfl,hc 5 _ rfl,hc 6 _ rfl,hc 7 _ rfl,hc 8 _ rfl,hc 9 _ rfl⟩)
 obtain⟨Z2,hZ2⟩:∃Z2,TB y2=Z2:=⟨_,rfl⟩
 rw [hZ2] at HY2
 have CE2:Hid (∀u,Below w1.heap.size w1 u→Calls Tryz.prog 69 #[.agg #[.int .i64 ky2,.string ty2,.int .i64 vky2,.int .i64 vny2,.string vsy2,.slice aly2 lly2 cly2,.slice aky2 lky2 cky2,.bool fy2,.slice ay2 ny2 ccy2,.int .i64 py2],.int .i64 (d+1)] u fun e u'=>∃t,e=.returned t∧Txt B0 u' t Z2∧Below u.heap.size u u'):=hide (fun u h=>by rw [←hZ2];exact hEy2 _ u (Nat.le_trans hBG (by rw [←hG];exact(X0 u h).size)) hG0 (hP.later (X0 u h) (by omega)) (hzy2.laterB ((X0 u h).mono hBG)))
 clear hEy2 hzy2 hcelly2 hy2 hny2 hcy2 hby2 hky2 hty2 hfy2 hpy2 hZ2 X0 eb
 have hi0:¬n=0:=by omega
 clear hE0 hE1 h1 hd
 clear A1 X1 hw1 hBG hB hr hn hG0 hP hR
 go_enter Tryz.func132,Tryz.ntmps132
 go_upto_region 1 with fail
 rw [unhide HW]
 try rw [hG]
 clear HW
 obtain⟨x0,x1,x2,x3,x4,x5,x6,x7,x8,x9⟩:=unhide HF w1 (Below.refl _ _)
 go_upto_region 1 with fail
 clear x0 x1 x2 x3 x4 x5 x6 x7 x8 x9
 have HS0:Hid (Below w1.heap.size w1 w1.drew):=hide ((Below.refl _ _).drew)
 refine till_begin (S:=fun w'=>Below w1.heap.size w1 w') 17 (by kernel_rfl) ?_
 obtain⟨W0,hW0⟩:∃W0,w1.drew=W0:=⟨_,rfl⟩
 try rw [hW0]
 rw [hW0] at HS0
 clear hW0
 refine till_take 0 (v:=.string ah) (some 7) rfl rfl rfl (by kernel_rfl) (by kernel_rfl) (by kernel_rfl) (by kernel_rfl) (fun _ _ _ h=>h) (Or.inl ⟨by rfl,fun u hu=>by obtain⟨x0,x1,x2,x3,x4,x5,x6,x7,x8,x9⟩:=unhide HF u hu;go_simp⟩) (unhide HS0) ?_
 try simp only [Act.put,List.setIfInBounds_toArray,List.set_cons_zero,List.set_cons_succ]
 refine till_take 2 (v:=.pointer (some ⟨G,8,none⟩)) (some 9) rfl rfl rfl (by kernel_rfl) (by kernel_rfl) (by kernel_rfl) (by kernel_rfl) (fun _ _ _ h=>h) (Or.inl ⟨by rfl,fun u hu=>by obtain⟨x0,x1,x2,x3,x4,x5,x6,x7,x8,x9⟩:=unhide HF u hu;go_simp⟩) (unhide HS0) ?_
 try simp only [Act.put,List.setIfInBounds_toArray,List.set_cons_zero,List.set_cons_succ]
 refine till_take 3 (v:=.slice (some b) n cc) (some 10) rfl rfl rfl (by kernel_rfl) (by kernel_rfl) (by kernel_rfl) (by kernel_rfl) (fun _ _ _ h=>h) (Or.inl ⟨by rfl,fun u hu=>by obtain⟨x0,x1,x2,x3,x4,x5,x6,x7,x8,x9⟩:=unhide HF u hu;go_simp⟩) (unhide HS0) ?_
 try simp only [Act.put,List.setIfInBounds_toArray,List.set_cons_zero,List.set_cons_succ]
 refine till_take 4 (v:=.pointer (some b)) (some 11) rfl rfl rfl (by kernel_rfl) (by kernel_rfl) (by kernel_rfl) (by kernel_rfl) (fun _ _ _ h=>h) (Or.inl ⟨by rfl,fun u hu=>by obtain⟨x0,x1,x2,x3,x4,x5,x6,x7,x8,x9⟩:=unhide HF u hu;obtain⟨z0,z1,z2,z3,z4,z5,z6,z7,z8,z9⟩:=unhide HK u hu;go_simp⟩) (unhide HS0) ?_
 try simp only [Act.put,List.setIfInBounds_toArray,List.set_cons_zero,List.set_cons_succ]
 refine till_take 5 (v:=.agg #[.int .i64 ky,.string ty,.int .i64 vky,.int .i64 vny,.string vsy,.slice aly lly cly,.slice aky lky cky,.bool fy,.slice ay ny ccy,.int .i64 py]) (some 12) rfl rfl rfl (by kernel_rfl) (by kernel_rfl) (by kernel_rfl) (by kernel_rfl) (fun _ _ _ h=>h) (Or.inl ⟨by rfl,fun u hu=>by obtain⟨x0,x1,x2,x3,x4,x5,x6,x7,x8,x9⟩:=unhide HF u hu;obtain⟨z0,z1,z2,z3,z4,z5,z6,z7,z8,z9⟩:=unhide HK u hu;go_simp⟩) (unhide HS0) ?_
 try simp only [Act.put,List.setIfInBounds_toArray,List.set_cons_zero,List.set_cons_succ]
 refine till_take 8 (v:=.pointer (some ⟨G,8,none⟩)) (some 15) rfl rfl rfl (by kernel_rfl) (by kernel_rfl) (by kernel_rfl) (by kernel_rfl) (fun _ _ _ h=>h) (Or.inl ⟨by rfl,fun u hu=>by obtain⟨x0,x1,x2,x3,x4,x5,x6,x7,x8,x9⟩:=unhide HF u hu;go_simp⟩) (unhide HS0) ?_
 try simp only [Act.put,List.setIfInBounds_toArray,List.set_cons_zero,List.set_cons_succ]
 refine till_take 9 (v:=.slice (some b) n cc) (some 16) rfl rfl rfl (by kernel_rfl) (by kernel_rfl) (by kernel_rfl) (by kernel_rfl) (fun _ _ _ h=>h) (Or.inl ⟨by rfl,fun u hu=>by obtain⟨x0,x1,x2,x3,x4,x5,x6,x7,x8,x9⟩:=unhide HF u hu;go_simp⟩) (unhide HS0) ?_
 try simp only [Act.put,List.setIfInBounds_toArray,List.set_cons_zero,List.set_cons_succ]
 refine till_take 10 (v:=.pointer (some ⟨b.block,b.off+10,none⟩)) (some 17) rfl rfl rfl (by kernel_rfl) (by kernel_rfl) (by kernel_rfl) (by kernel_rfl) (fun _ _ _ h=>h) (Or.inl ⟨by rfl,fun u hu=>by obtain⟨x0,x1,x2,x3,x4,x5,x6,x7,x8,x9⟩:=unhide HF u hu;obtain⟨z02,z12,z22,z32,z42,z52,z62,z72,z82,z92⟩:=unhide HK2 u hu;go_simp⟩) (unhide HS0) ?_
 try simp only [Act.put,List.setIfInBounds_toArray,List.set_cons_zero,List.set_cons_succ]
 refine till_take 11 (v:=.agg #[.int .i64 ky2,.string ty2,.int .i64 vky2,.int .i64 vny2,.string vsy2,.slice aly2 lly2 cly2,.slice aky2 lky2 cky2,.bool fy2,.slice ay2 ny2 ccy2,.int .i64 py2]) (some 18) rfl rfl rfl (by kernel_rfl) (by kernel_rfl) (by kernel_rfl) (by kernel_rfl) (fun _ _ _ h=>h) (Or.inl ⟨by rfl,fun u hu=>by obtain⟨x0,x1,x2,x3,x4,x5,x6,x7,x8,x9⟩:=unhide HF u hu;obtain⟨z02,z12,z22,z32,z42,z52,z62,z72,z82,z92⟩:=unhide HK2 u hu;go_simp⟩) (unhide HS0) ?_
 try simp only [Act.put,List.setIfInBounds_toArray,List.set_cons_zero,List.set_cons_succ]
 refine till_take 12 (v:=.int .i64 d) (some 19) rfl rfl rfl (by kernel_rfl) (by kernel_rfl) (by kernel_rfl) (by kernel_rfl) (fun _ _ _ h=>h) (Or.inl ⟨by rfl,fun u hu=>by obtain⟨x0,x1,x2,x3,x4,x5,x6,x7,x8,x9⟩:=unhide HF u hu;go_simp⟩) (unhide HS0) ?_
 try simp only [Act.put,List.setIfInBounds_toArray,List.set_cons_zero,List.set_cons_succ]
 refine till_take 13 (v:=.int .i64 (d+1)) (some 20) rfl rfl rfl (by kernel_rfl) (by kernel_rfl) (by kernel_rfl) (by kernel_rfl) (fun _ _ _ h=>h) (Or.inl ⟨by rfl,fun u hu=>by obtain⟨x0,x1,x2,x3,x4,x5,x6,x7,x8,x9⟩:=unhide HF u hu;have hm:=unhide hm1;go_simp⟩) (unhide HS0) ?_
 try simp only [Act.put,List.setIfInBounds_toArray,List.set_cons_zero,List.set_cons_succ]
 refine till_one 1 (by kernel_rfl) rfl (fun K hK=>?_)
 go_simp
 refine(txw_any B0 ah W0).mono ?_
 rintro e W1 ⟨t1,rfl,h,bb⟩
 have h0:=h
 obtain⟨F1,p1,rfl,-,-⟩:=h0
 have HT1_1:=hide h
 have HS1:=hide ((unhide HS0).trans (bb.mono (unhide HS0).size))
 clear bb h
 go_wp2_with fail
 refine hK.out _ _ (Or.inr (unhide HS1)) ?_
 clear hK K HS0
 try simp only [Act.put,List.setIfInBounds_toArray,List.set_cons_zero,List.set_cons_succ]
 refine till_one 6 (by kernel_rfl) rfl (fun K hK=>?_)
 go_simp
 refine((unhide CE) W1 (unhide HS1)).mono ?_
 rintro e W2 ⟨t2,rfl,h,bb⟩
 have h0:=h
 obtain⟨F2,p2,rfl,-,-⟩:=h0
 have HT2_2:=hide h
 have HS2:=hide ((unhide HS1).trans (bb.mono (unhide HS1).size))
 have HT1_2:=hide ((unhide HT1_1).later (Kp.below bb (Nat.le_trans (unhide HB) (unhide HS1).size)))
 clear bb h HT1_1
 go_wp2_with fail
 refine hK.out _ _ (Or.inr (unhide HS2)) ?_
 clear hK K HS1
 try simp only [Act.put,List.setIfInBounds_toArray,List.set_cons_zero,List.set_cons_succ]
 refine till_one 7 (by kernel_rfl) rfl (fun K hK=>?_)
 go_simp
 refine(txw_any B0 ⟨#[41,32]⟩ W2).mono ?_
 rintro e W3 ⟨t3,rfl,h,bb⟩
 have h0:=h
 obtain⟨F3,p3,rfl,-,-⟩:=h0
 have HT3_3:=hide h
 have HS3:=hide ((unhide HS2).trans (bb.mono (unhide HS2).size))
 have HT1_3:=hide ((unhide HT1_2).later (Kp.below bb (Nat.le_trans (unhide HB) (unhide HS2).size)))
 have HT2_3:=hide ((unhide HT2_2).later (Kp.below bb (Nat.le_trans (unhide HB) (unhide HS2).size)))
 clear bb h HT1_2 HT2_2
 go_wp2_with fail
 refine hK.out _ _ (Or.inr (unhide HS3)) ?_
 clear hK K HS2
 try simp only [Act.put,List.setIfInBounds_toArray,List.set_cons_zero,List.set_cons_succ]
 refine till_one 14 (by kernel_rfl) rfl (fun K hK=>?_)
 go_simp
 refine((unhide CE2) W3 (unhide HS3)).mono ?_
 rintro e W4 ⟨t4,rfl,h,bb⟩
 have h0:=h
 obtain⟨F4,p4,rfl,-,-⟩:=h0
 have HT4_4:=hide h
 have HS4:=hide ((unhide HS3).trans (bb.mono (unhide HS3).size))
 have HT1_4:=hide ((unhide HT1_3).later (Kp.below bb (Nat.le_trans (unhide HB) (unhide HS3).size)))
 have HT2_4:=hide ((unhide HT2_3).later (Kp.below bb (Nat.le_trans (unhide HB) (unhide HS3).size)))
 have HT3_4:=hide ((unhide HT3_3).later (Kp.below bb (Nat.le_trans (unhide HB) (unhide HS3).size)))
 clear bb h HT1_3 HT2_3 HT3_3
 go_wp2_with fail
 refine hK.out _ _ (Or.inr (unhide HS4)) ?_
 clear hK K HS3
 try simp only [Act.put,List.setIfInBounds_toArray,List.set_cons_zero,List.set_cons_succ]
 obtain⟨W5,hW5⟩:∃W,W4.alloc (.cells #[.func (.func F1) #[] p1,.func (.func F2) #[] p2,.func (.func F3) #[] p3,.func (.func F4) #[] p4] 39)=W:=⟨_,rfl⟩
 obtain⟨q,hq⟩:∃q,W4.heap.size=q:=⟨_,rfl⟩
 have bb:Below W4.heap.size W4 W5:=by rw [←hW5];exact(Below.refl _ _).alloc (Nat.le_refl _) _
 have HX5:=hide (show Txs B0 W5 q _ from txs4 (by rw [←hW5,←hq];exact heap_alloc_new _ _) ((unhide HT1_4).later (Kp.below bb (Nat.le_trans (unhide HB) (unhide HS4).size))) ((unhide HT2_4).later (Kp.below bb (Nat.le_trans (unhide HB) (unhide HS4).size))) ((unhide HT3_4).later (Kp.below bb (Nat.le_trans (unhide HB) (unhide HS4).size))) ((unhide HT4_4).later (Kp.below bb (Nat.le_trans (unhide HB) (unhide HS4).size))))
 have HS5:=hide ((unhide HS4).trans (bb.mono (unhide HS4).size))
 clear bb HT1_4 HT2_4 HT3_4 HT4_4
 refine till_one 15 (by kernel_rfl) rfl (fun K hK=>?_)
 go_simp
 try rw [hW5]
 try rw [hq]
 refine hK.out _ _ (Or.inr (unhide HS5)) ?_
 clear hK K HS4 hW5 hq
 try simp only [Act.put,List.setIfInBounds_toArray,List.set_cons_zero,List.set_cons_succ]
 refine till_one 16 (by kernel_rfl) rfl (fun K hK=>?_)
 go_simp
 refine(row_any B0 q 4 4 _ W5 (Nat.le_trans (unhide HB) (unhide HS5).size) (unhide HX5) rfl (by decide)).mono ?_
 rintro e W6 ⟨tr,rfl,h,bb⟩
 have h0:=h
 obtain⟨Fr,pr,rfl,-,-⟩:=h0
 have HT:=hide h
 have HS6:=hide ((unhide HS5).trans (bb.mono (unhide HS5).size))
 clear bb h HX5
 go_wp2_with fail
 refine hK.out _ _ (Or.inr (unhide HS6)) ?_
 clear hK K HS5
 try simp only [Act.put,List.setIfInBounds_toArray,List.set_cons_zero,List.set_cons_succ]
 refine till_one 17 (by kernel_rfl) rfl (fun K hK=>?_)
 go_simp
 refine hK.out _ _ (Or.inl (by first|rfl|trivial)) ?_
 clear hK K
 try simp only [Act.put,List.setIfInBounds_toArray,List.set_cons_zero,List.set_cons_succ]
 refine till_done (by kernel_rfl) ?_ _
 go_wp2_with fail
 go_ret
 refine⟨_,rfl,?_,?_⟩
 ·have h1:=unhide HT
  rw [←unhide HR]
  have e:(ah.data.toList++(((exM ks)[0]?).getD []++(41 :: 32 :: ((ks[1]?).map TB).getD [])))=([ah.data.toList,Z,[41,32],Z2]:List (List UInt8)).flatten:=by simp [unhide HY,unhide HY2]
  first|(rw [e];exact h1)|(rw [e] at h1;exact h1)
 ·have:=((unhide HM) _ (unhide HS6)).2.2.1
  first|exact this|(rw [hG];exact this)
end Go.Proofs.YtekbmfppfjlboaaGreatDoor
