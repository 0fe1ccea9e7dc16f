/-
  a choice is written.
  Conditions: where nodes are told of, they lie in memory.
-/
import Derived.Test.YtlkeaaopdnnceaaGreatDoorA26
set_option linter.unusedVariables false
set_option linter.unusedSimpArgs false
set_option maxRecDepth 100000
set_option maxHeartbeats 8000000
namespace Go.Proofs.YtlkeaaopdnnceaaGreatDoor
open Go.RowKit
set_option linter.unusedVariables false
set_option linter.unusedSimpArgs false
def ChC (B0:Nat) (d:Int) (TC:Tn→List UInt8) (y:Tn):Prop:=∀(x:List Value) (u:World),B0≤u.heap.size→0<B0→PowAt u→IsN u (fun b=>b<B0) y x→Calls Tryz.prog 131 #[.agg x.toArray,.int .i64 d] u fun e u'=>∃t,e=.returned t∧Txt B0 u' t (TC y)∧Below u.heap.size u u'
theorem ch2_any (B0:Nat) (d:Int) (TB:Tn→List UInt8) (v:Vl) (ks:List Tn) (vk vn p:Int) (t vs:ByteArray) (al ak:Option Addr) (ll cl lk ck n cc:Nat) (f:Bool) (b:Addr) (w:World) (hB:B0≤w.heap.size) (hr:RowN w B0 ks (some b) cc) (hn:ks.length=n) (hG0:0<B0) (hP:PowAt w) (hE0:∀y,ks[0]?=some y→ExC B0 y) (hd:0≤d∧d≤1000000) (hE1:∀y,ks[1]?=some y→BlC B0 (d+1) TB y) (h1:1<n) (h2:n<3) :
  Calls Tryz.prog 131 #[.agg #[.int .i64 7,.string t,.int .i64 vk,.int .i64 vn,.string vs,.slice al ll cl,.slice ak lk ck,.bool f,.slice (some b) n cc,.int .i64 p],.int .i64 d] w fun e w'=>∃t',e=.returned t'∧Txt B0 w' t' (([105,102,32,40]:List UInt8)++(((exM ks)[0]?).getD []++(41 :: 32 :: ((ks[1]?).map TB).getD [])))∧Below w.heap.size w w':=by
 obtain⟨w1,hw1⟩:∃w1,w.alloc (.cells #[.int .i64 7,.string t,.int .i64 vk,.int .i64 vn,.string vs,.slice al ll cl,.slice ak lk ck,.bool f,.slice (some b) n cc,.int .i64 p] 28)=w1:=⟨_,rfl⟩
 obtain⟨G,hG⟩:∃G,w.heap.size=G:=⟨_,rfl⟩
 obtain⟨A1,X1⟩:=al1 hw1 hG
 have hBG:B0≤G:=by rw [←hG];exact hB
 have HM:Hid (∀u,Below w1.heap.size w1 u→RowN u B0 ks (some b) cc∧PowAt u∧Below G w u∧B0≤u.heap.size):=hZ (fun u h=>by
  have h2:=X1.trans (h.mono (Nat.le_of_lt (lt_of_row A1)))
  exact⟨hr.later (h2.mono hBG),hP.later h2 (by omega),h2,Nat.le_trans hBG (by rw [←hG];exact h2.size)⟩)
 have HF:Hid (NF10 w1 G (.int .i64 7) (.string t) (.int .i64 vk) (.int .i64 vn) (.string vs) (.slice al ll cl) (.slice ak lk ck) (.bool f) (.slice (some b) n cc) (.int .i64 p)):=hZ (fun u hu=>row_ten (Below.cellsAt hu A1))
 have HB:=hZ (show B0≤w1.heap.size from Nat.le_trans hBG (Nat.le_of_lt (lt_of_row A1)))
 have HN:=hZ (And.intro hn hG0)
 obtain⟨R,hR⟩:∃R,([105,102,32,40]:List UInt8)++(((exM ks)[0]?).getD []++(41 :: 32 :: ((ks[1]?).map TB).getD []))=R:=⟨_,rfl⟩
 rw [hR]
 have HR:=hZ hR
 have HW:=hZ hw1
 have CW:=hZ (guarded_any B0 ⟨#[105,102,32,40]⟩ d hd TB v ks 7 vk vn p t vs al ak ll cl lk ck n cc f b w1 (Nat.le_trans hBG (Nat.le_of_lt (lt_of_row A1))) (hr.later (X1.mono hBG)) hn hG0 (hP.later X1 (by omega)) hE0 hE1 h1)
 have hn3:(n:Int)<3:=by omega
 clear hE0 h1 hE1 hd h2
 clear A1 X1 hw1 hBG hB hr hn hG0 hP hR
 go_enter Tryz.func131,Tryz.ntmps131
 go_upto_region 1 with fail
 rw [uZ HW]
 try rw [hG]
 clear HW
 obtain⟨x0,x1,x2,x3,x4,x5,x6,x7,x8,x9⟩:=uZ HF w1 (Below.refl _ _)
 go_wp2_with fail
 refine(uZ CW).mono ?_
 rintro e w3 ⟨t3,rfl,h3,b3⟩
 have H3:=hZ (And.intro h3 b3)
 obtain⟨F1,p1,rfl,-,-⟩:=h3
 clear b3 CW x0 x1 x2 x3 x4 x5 x6 x7 x8 x9
 obtain⟨x0,x1,x2,x3,x4,x5,x6,x7,x8,x9⟩:=uZ HF w3 (uZ H3).2
 go_wp2_with fail
 go_ret
 have hb:=((uZ HM) w3 (uZ H3).2).2.2.1
 refine⟨_,rfl,?_,by first|exact hb|(rw [hG];exact hb)⟩
 have h1:=(uZ H3).1
 rw [←uZ HR]
 first|exact h1|simpa using h1
theorem ch3i_any (B0:Nat) (d:Int) (TB:Tn→List UInt8) (T2:Tn→List UInt8) (v:Vl) (ks:List Tn) (vk vn p:Int) (t vs:ByteArray) (al ak:Option Addr) (ll cl lk ck n cc:Nat) (f:Bool) (b:Addr) (w:World) (hB:B0≤w.heap.size) (hr:RowN w B0 ks (some b) cc) (hn:ks.length=n) (hG0:0<B0) (hP:PowAt w) (hE0:∀y,ks[0]?=some y→ExC B0 y) (hd:0≤d∧d≤1000000) (hE1:∀y,ks[1]?=some y→BlC B0 (d+1) TB y) (hE2:∀y,ks[2]?=some y→ChC B0 d T2 y) (hk7:∀y,ks[2]?=some y→y.k=7) (h1:1<n) (h2:n=3) :
  Calls Tryz.prog 131 #[.agg #[.int .i64 7,.string t,.int .i64 vk,.int .i64 vn,.string vs,.slice al ll cl,.slice ak lk ck,.bool f,.slice (some b) n cc,.int .i64 p],.int .i64 d] w fun e w'=>∃t',e=.returned t'∧Txt B0 w' t' (([105,102,32,40]:List UInt8)++(((exM ks)[0]?).getD []++(41 :: 32 :: ((ks[1]?).map TB).getD []))++(32 :: 101 :: 108 :: 115 :: 101 :: 32 :: ((ks[2]?).map T2).getD []))∧Below w.heap.size w w':=by
 obtain⟨w1,hw1⟩:∃w1,w.alloc (.cells #[.int .i64 7,.string t,.int .i64 vk,.int .i64 vn,.string vs,.slice al ll cl,.slice ak lk ck,.bool f,.slice (some b) n cc,.int .i64 p] 28)=w1:=⟨_,rfl⟩
 obtain⟨G,hG⟩:∃G,w.heap.size=G:=⟨_,rfl⟩
 obtain⟨A1,X1⟩:=al1 hw1 hG
 have hBG:B0≤G:=by rw [←hG];exact hB
 have HM:Hid (∀u,Below w1.heap.size w1 u→RowN u B0 ks (some b) cc∧PowAt u∧Below G w u∧B0≤u.heap.size):=hZ (fun u h=>by
  have h2:=X1.trans (h.mono (Nat.le_of_lt (lt_of_row A1)))
  exact⟨hr.later (h2.mono hBG),hP.later h2 (by omega),h2,Nat.le_trans hBG (by rw [←hG];exact h2.size)⟩)
 have HF:Hid (NF10 w1 G (.int .i64 7) (.string t) (.int .i64 vk) (.int .i64 vn) (.string vs) (.slice al ll cl) (.slice ak lk ck) (.bool f) (.slice (some b) n cc) (.int .i64 p)):=hZ (fun u hu=>row_ten (Below.cellsAt hu A1))
 have HB:=hZ (show B0≤w1.heap.size from Nat.le_trans hBG (Nat.le_of_lt (lt_of_row A1)))
 have HN:=hZ (And.intro hn hG0)
 obtain⟨R,hR⟩:∃R,([105,102,32,40]:List UInt8)++(((exM ks)[0]?).getD []++(41 :: 32 :: ((ks[1]?).map TB).getD []))++(32 :: 101 :: 108 :: 115 :: 101 :: 32 :: ((ks[2]?).map T2).getD [])=R:=⟨_,rfl⟩
 rw [hR]
 have HR:=hZ hR
 have HW:=hZ hw1
 have CW:=hZ (guarded_any B0 ⟨#[105,102,32,40]⟩ d hd TB v ks 7 vk vn p t vs al ak ll cl lk ck n cc f b w1 (Nat.le_trans hBG (Nat.le_of_lt (lt_of_row A1))) (hr.later (X1.mono hBG)) hn hG0 (hP.later X1 (by omega)) hE0 hE1 h1)
 have hn3:¬(n:Int)<3:=by omega
 have hi2:(2:Int)<(n:Int):=by omega
 obtain⟨y,hy⟩:∃y,ks[2]?=some y:=⟨_,List.getElem?_eq_getElem (by omega)⟩
 have hEy:=hE2 y hy
 obtain⟨b',vky,vny,vsy,aly,aky,ay,lly,cly,lky,cky,ny,ccy,eb,hcy,hby,hny,hzy,hcelly⟩:=hr.ten hy
 obtain rfl:b=b':=Option.some.inj eb
 have hncc:n≤cc:=by rw [←hn];exact hcy
 have HY:=hZ (show (ks[2]?).map T2=some (T2 y) by rw [hy];rfl)
 have hky:y.k=7:=hk7 y hy
 obtain⟨ty,hty⟩:∃z,y.t=z:=⟨_,rfl⟩
 obtain⟨fy,hfy⟩:∃z,y.f=z:=⟨_,rfl⟩
 obtain⟨py,hpy⟩:∃z,y.p=z:=⟨_,rfl⟩
 rw [hky,hty,hfy,hpy] at hzy hcelly
 have X0:∀u,Below w1.heap.size w1 u→Below G w u:=fun u h=>X1.trans (h.mono (Nat.le_of_lt (lt_of_row A1)))
 have HK:Hid (∀u,Below w1.heap.size w1 u→u.cell? ⟨b.block,b.off+20,none⟩=some (.int .i64 7)∧u.cell? ⟨b.block,b.off+20+1,none⟩=some (.string ty)∧u.cell? ⟨b.block,b.off+20+2,none⟩=some (.int .i64 vky)∧u.cell? ⟨b.block,b.off+20+3,none⟩=some (.int .i64 vny)∧u.cell? ⟨b.block,b.off+20+4,none⟩=some (.string vsy)∧u.cell? ⟨b.block,b.off+20+5,none⟩=some (.slice aly lly cly)∧u.cell? ⟨b.block,b.off+20+6,none⟩=some (.slice aky lky cky)∧u.cell? ⟨b.block,b.off+20+7,none⟩=some (.bool fy)∧u.cell? ⟨b.block,b.off+20+8,none⟩=some (.slice ay ny ccy)∧u.cell? ⟨b.block,b.off+20+9,none⟩=some (.int .i64 py)):=hZ (fun u h=>by
  have hc:∀j v,([.int .i64 7,.string ty,.int .i64 vky,.int .i64 vny,.string vsy,.slice aly lly cly,.slice aky lky cky,.bool fy,.slice ay ny ccy,.int .i64 py]:List Value)[j]?=some v→u.cell? ((b.add (2 * 10)).add j)=some v:=fun j v hj=>(World.cell?_of_block ((X0 u h).block _ (by rw [block_add,block_add];omega))).trans (hcelly j v hj)
  exact⟨hc 0 _ rfl,hc 1 _ rfl,hc 2 _ rfl,hc 3 _ rfl,hc 4 _ rfl,hc 5 _ rfl,hc 6 _ rfl,hc 7 _ rfl,hc 8 _ rfl,hc 9 _ rfl⟩)
 obtain⟨Z,hZz⟩:∃Z,T2 y=Z:=⟨_,rfl⟩
 rw [hZz] at HY
 have CE:Hid (∀u,Below w1.heap.size w1 u→Calls Tryz.prog 131 #[.agg #[.int .i64 7,.string ty,.int .i64 vky,.int .i64 vny,.string vsy,.slice aly lly cly,.slice aky lky cky,.bool fy,.slice ay ny ccy,.int .i64 py],.int .i64 d] u fun e u'=>∃t,e=.returned t∧Txt B0 u' t Z∧Below u.heap.size u u'):=hZ (fun u h=>by rw [←hZz];exact hEy _ u (Nat.le_trans hBG (by rw [←hG];exact(X0 u h).size)) hG0 (hP.later (X0 u h) (by omega)) (hzy.laterB ((X0 u h).mono hBG)))
 clear hEy hzy hcelly hy hny hcy hby hky hty hfy hpy hZz X0 eb
 clear hE0 h1 hE1 hd h2 hE2 hk7
 clear A1 X1 hw1 hBG hB hr hn hG0 hP hR
 go_enter Tryz.func131,Tryz.ntmps131
 go_upto_region 1 with fail
 rw [uZ HW]
 try rw [hG]
 clear HW
 obtain⟨x0,x1,x2,x3,x4,x5,x6,x7,x8,x9⟩:=uZ HF w1 (Below.refl _ _)
 go_wp2_with fail
 refine(uZ CW).mono ?_
 rintro e w3 ⟨t3,rfl,h3,b3⟩
 have H3:=hZ (And.intro h3 b3)
 obtain⟨F1,p1,rfl,-,-⟩:=h3
 clear b3 CW x0 x1 x2 x3 x4 x5 x6 x7 x8 x9
 obtain⟨x0,x1,x2,x3,x4,x5,x6,x7,x8,x9⟩:=uZ HF w3 (uZ H3).2
 obtain⟨z0,z1,z2,z3,z4,z5,z6,z7,z8,z9⟩:=uZ HK w3 (uZ H3).2
 go_upto_region 6 with fail
 obtain⟨w4,hw4⟩:∃w4,w3.alloc (.cells #[.int .i64 7,.string ty,.int .i64 vky,.int .i64 vny,.string vsy,.slice aly lly cly,.slice aky lky cky,.bool fy,.slice ay ny ccy,.int .i64 py] 28)=w4:=⟨_,rfl⟩
 try rw [hw4]
 obtain⟨q4,hq4⟩:∃q,w3.heap.size=q:=⟨_,rfl⟩
 try rw [hq4]
 have at4:w4.heap[q4]?=some (.cells #[.int .i64 7,.string ty,.int .i64 vky,.int .i64 vny,.string vsy,.slice aly lly cly,.slice aky lky cky,.bool fy,.slice ay ny ccy,.int .i64 py] 28 (0,0)):=by rw [←hw4,←hq4];exact heap_alloc_new _ _
 have b34:Below w3.heap.size w3 w4:=by rw [←hw4];exact(Below.refl _ _).alloc (Nat.le_refl _) _
 have H34:=hZ b34
 have H4:=hZ ((uZ H3).2.trans (b34.mono (uZ H3).2.size))
 have HB3:=hZ (show B0≤w3.heap.size from Nat.le_trans (uZ HB) (uZ H3).2.size)
 have HBB:=hZ (show B0≤w4.heap.size from Nat.le_trans (uZ HB) (uZ H4).size)
 have HQ:Hid (NF10 w4 q4 (.int .i64 7) (.string ty) (.int .i64 vky) (.int .i64 vny) (.string vsy) (.slice aly lly cly) (.slice aky lky cky) (.bool fy) (.slice ay ny ccy) (.int .i64 py)):=hZ (fun u hu=>row_ten (Below.cellsAt hu at4))
 clear at4 b34 hw4 hq4 x0 x1 x2 x3 x4 x5 x6 x7 x8 x9 z0 z1 z2 z3 z4 z5 z6 z7 z8 z9
 have HS0:Hid (Below w4.heap.size w4 w4.drew):=hZ ((Below.refl _ _).drew)
 refine till_begin (S:=fun w'=>Below w4.heap.size w4 w') 7 (by kernel_rfl) ?_
 obtain⟨W0,hW0⟩:∃W0,w4.drew=W0:=⟨_,rfl⟩
 try rw [hW0]
 rw [hW0] at HS0
 clear hW0
 have HT1_0:=hZ ((uZ H3).1.later (Kp.below ((uZ H34).trans ((uZ HS0).mono (uZ H34).size)) (uZ HB3)))
 refine tK 0 (v:=.func (.func F1) #[] p1) (some 22) rfl rfl rfl (by kernel_rfl) (fun _ _ _ h=>h) (Or.inl ⟨by rfl,fun u hu=>by obtain⟨x0,x1,x2,x3,x4,x5,x6,x7,x8,x9⟩:=uZ HF u ((uZ H4).trans (hu.mono (uZ H4).size));obtain⟨z0,z1,z2,z3,z4,z5,z6,z7,z8,z9⟩:=uZ HQ u hu;go_simp⟩) (uZ HS0) ?_
 try simp only [Act.put,sA,sB,sC]
 refine tK 2 (v:=.agg #[.int .i64 7,.string ty,.int .i64 vky,.int .i64 vny,.string vsy,.slice aly lly cly,.slice aky lky cky,.bool fy,.slice ay ny ccy,.int .i64 py]) (some 24) rfl rfl rfl (by kernel_rfl) (fun _ _ _ h=>h) (Or.inl ⟨by rfl,fun u hu=>by obtain⟨x0,x1,x2,x3,x4,x5,x6,x7,x8,x9⟩:=uZ HF u ((uZ H4).trans (hu.mono (uZ H4).size));obtain⟨z0,z1,z2,z3,z4,z5,z6,z7,z8,z9⟩:=uZ HQ u hu;go_simp⟩) (uZ HS0) ?_
 try simp only [Act.put,sA,sB,sC]
 refine tK 3 (v:=.int .i64 d) (some 25) rfl rfl rfl (by kernel_rfl) (fun _ _ _ h=>h) (Or.inl ⟨by rfl,fun u hu=>by obtain⟨x0,x1,x2,x3,x4,x5,x6,x7,x8,x9⟩:=uZ HF u ((uZ H4).trans (hu.mono (uZ H4).size));obtain⟨z0,z1,z2,z3,z4,z5,z6,z7,z8,z9⟩:=uZ HQ u hu;go_simp⟩) (uZ HS0) ?_
 try simp only [Act.put,sA,sB,sC]
 refine till_one 1 (by kernel_rfl) rfl (fun K hK=>?_)
 go_simp
 refine(txw_any B0 ⟨#[32,101,108,115,101,32]⟩ W0).mono ?_
 rintro e W1 ⟨t2,rfl,h,bb⟩
 have h0:=h
 obtain⟨F2,p2,rfl,-,-⟩:=h0
 have HT2_1:=hZ h
 have HS1:=hZ ((uZ HS0).trans (bb.mono (uZ HS0).size))
 have HT1_1:=hZ ((uZ HT1_0).later (Kp.below bb (Nat.le_trans (uZ HBB) (uZ HS0).size)))
 clear bb h HT1_0
 go_wp2_with fail
 refine hK.out _ _ (Or.inr (uZ HS1)) ?_
 clear hK K HS0
 try simp only [Act.put,sA,sB,sC]
 refine till_one 4 (by kernel_rfl) rfl (fun K hK=>?_)
 go_simp
 refine((uZ CE) W1 ((uZ H4).trans ((uZ HS1).mono (uZ H4).size))).mono ?_
 rintro e W2 ⟨t3,rfl,h,bb⟩
 have h0:=h
 obtain⟨F3,p3,rfl,-,-⟩:=h0
 have HT3_2:=hZ h
 have HS2:=hZ ((uZ HS1).trans (bb.mono (uZ HS1).size))
 have HT1_2:=hZ ((uZ HT1_1).later (Kp.below bb (Nat.le_trans (uZ HBB) (uZ HS1).size)))
 have HT2_2:=hZ ((uZ HT2_1).later (Kp.below bb (Nat.le_trans (uZ HBB) (uZ HS1).size)))
 clear bb h HT1_1 HT2_1
 go_wp2_with fail
 refine hK.out _ _ (Or.inr (uZ HS2)) ?_
 clear hK K HS1
 try simp only [Act.put,sA,sB,sC]
 obtain⟨W3,hW3⟩:∃W,W2.alloc (.cells #[.func (.func F1) #[] p1,.func (.func F2) #[] p2,.func (.func F3) #[] p3] 39)=W:=⟨_,rfl⟩
 obtain⟨q,hq⟩:∃q,W2.heap.size=q:=⟨_,rfl⟩
 have bb:Below W2.heap.size W2 W3:=by rw [←hW3];exact(Below.refl _ _).alloc (Nat.le_refl _) _
 have HX3:=hZ (show Txs B0 W3 q _ from txs3 (by rw [←hW3,←hq];exact heap_alloc_new _ _) ((uZ HT1_2).later (Kp.below bb (Nat.le_trans (uZ HBB) (uZ HS2).size))) ((uZ HT2_2).later (Kp.below bb (Nat.le_trans (uZ HBB) (uZ HS2).size))) ((uZ HT3_2).later (Kp.below bb (Nat.le_trans (uZ HBB) (uZ HS2).size))))
 have HS3:=hZ ((uZ HS2).trans (bb.mono (uZ HS2).size))
 clear bb HT1_2 HT2_2 HT3_2
 refine till_one 5 (by kernel_rfl) rfl (fun K hK=>?_)
 go_simp
 try rw [hW3]
 try rw [hq]
 refine hK.out _ _ (Or.inr (uZ HS3)) ?_
 clear hK K HS2 hW3 hq
 try simp only [Act.put,sA,sB,sC]
 refine till_one 6 (by kernel_rfl) rfl (fun K hK=>?_)
 go_simp
 refine(row_any B0 q 3 3 _ W3 (Nat.le_trans (uZ HBB) (uZ HS3).size) (uZ HX3) rfl (by decide)).mono ?_
 rintro e W4 ⟨tr,rfl,h,bb⟩
 have h0:=h
 obtain⟨Fr,pr,rfl,-,-⟩:=h0
 have HT:=hZ h
 have HS4:=hZ ((uZ HS3).trans (bb.mono (uZ HS3).size))
 clear bb h HX3
 go_wp2_with fail
 refine hK.out _ _ (Or.inr (uZ HS4)) ?_
 clear hK K HS3
 try simp only [Act.put,sA,sB,sC]
 refine till_one 7 (by kernel_rfl) rfl (fun K hK=>?_)
 go_simp
 refine hK.out _ _ (Or.inl (by first|rfl|trivial)) ?_
 clear hK K
 try simp only [Act.put,sA,sB,sC]
 refine till_done (by kernel_rfl) ?_ _
 go_wp2_with fail
 go_ret
 refine⟨_,rfl,?_,?_⟩
 ·have h1:=uZ HT
  rw [←uZ HR]
  simpa [uZ HY] using h1
 ·have:=((uZ HM) _ ((uZ H4).trans ((uZ HS4).mono (uZ H4).size))).2.2.1
  first|exact this|(rw [hG];exact this)
theorem ch3b_any (B0:Nat) (d:Int) (TB:Tn→List UInt8) (T2:Tn→List UInt8) (v:Vl) (ks:List Tn) (vk vn p:Int) (t vs:ByteArray) (al ak:Option Addr) (ll cl lk ck n cc:Nat) (f:Bool) (b:Addr) (w:World) (hB:B0≤w.heap.size) (hr:RowN w B0 ks (some b) cc) (hn:ks.length=n) (hG0:0<B0) (hP:PowAt w) (hE0:∀y,ks[0]?=some y→ExC B0 y) (hd:0≤d∧d≤1000000) (hE1:∀y,ks[1]?=some y→BlC B0 (d+1) TB y) (hE2:∀y,ks[2]?=some y→BlC B0 (d+1) T2 y) (hk7:∀y,ks[2]?=some y→y.k≠7) (h1:1<n) (h2:n=3) :
  Calls Tryz.prog 131 #[.agg #[.int .i64 7,.string t,.int .i64 vk,.int .i64 vn,.string vs,.slice al ll cl,.slice ak lk ck,.bool f,.slice (some b) n cc,.int .i64 p],.int .i64 d] w fun e w'=>∃t',e=.returned t'∧Txt B0 w' t' (([105,102,32,40]:List UInt8)++(((exM ks)[0]?).getD []++(41 :: 32 :: ((ks[1]?).map TB).getD []))++(32 :: 101 :: 108 :: 115 :: 101 :: 32 :: ((ks[2]?).map T2).getD []))∧Below w.heap.size w w':=by
 obtain⟨w1,hw1⟩:∃w1,w.alloc (.cells #[.int .i64 7,.string t,.int .i64 vk,.int .i64 vn,.string vs,.slice al ll cl,.slice ak lk ck,.bool f,.slice (some b) n cc,.int .i64 p] 28)=w1:=⟨_,rfl⟩
 obtain⟨G,hG⟩:∃G,w.heap.size=G:=⟨_,rfl⟩
 obtain⟨A1,X1⟩:=al1 hw1 hG
 have hBG:B0≤G:=by rw [←hG];exact hB
 have HM:Hid (∀u,Below w1.heap.size w1 u→RowN u B0 ks (some b) cc∧PowAt u∧Below G w u∧B0≤u.heap.size):=hZ (fun u h=>by
  have h2:=X1.trans (h.mono (Nat.le_of_lt (lt_of_row A1)))
  exact⟨hr.later (h2.mono hBG),hP.later h2 (by omega),h2,Nat.le_trans hBG (by rw [←hG];exact h2.size)⟩)
 have HF:Hid (NF10 w1 G (.int .i64 7) (.string t) (.int .i64 vk) (.int .i64 vn) (.string vs) (.slice al ll cl) (.slice ak lk ck) (.bool f) (.slice (some b) n cc) (.int .i64 p)):=hZ (fun u hu=>row_ten (Below.cellsAt hu A1))
 have HB:=hZ (show B0≤w1.heap.size from Nat.le_trans hBG (Nat.le_of_lt (lt_of_row A1)))
 have HN:=hZ (And.intro hn hG0)
 obtain⟨R,hR⟩:∃R,([105,102,32,40]:List UInt8)++(((exM ks)[0]?).getD []++(41 :: 32 :: ((ks[1]?).map TB).getD []))++(32 :: 101 :: 108 :: 115 :: 101 :: 32 :: ((ks[2]?).map T2).getD [])=R:=⟨_,rfl⟩
 rw [hR]
 have HR:=hZ hR
 have HW:=hZ hw1
 have CW:=hZ (guarded_any B0 ⟨#[105,102,32,40]⟩ d hd TB v ks 7 vk vn p t vs al ak ll cl lk ck n cc f b w1 (Nat.le_trans hBG (Nat.le_of_lt (lt_of_row A1))) (hr.later (X1.mono hBG)) hn hG0 (hP.later X1 (by omega)) hE0 hE1 h1)
 have hn3:¬(n:Int)<3:=by omega
 have hi2:(2:Int)<(n:Int):=by omega
 obtain⟨y,hy⟩:∃y,ks[2]?=some y:=⟨_,List.getElem?_eq_getElem (by omega)⟩
 have hEy:=hE2 y hy
 obtain⟨b',vky,vny,vsy,aly,aky,ay,lly,cly,lky,cky,ny,ccy,eb,hcy,hby,hny,hzy,hcelly⟩:=hr.ten hy
 obtain rfl:b=b':=Option.some.inj eb
 have hncc:n≤cc:=by rw [←hn];exact hcy
 have HY:=hZ (show (ks[2]?).map T2=some (T2 y) by rw [hy];rfl)
 obtain⟨ky,hky⟩:∃z,y.k=z:=⟨_,rfl⟩
 obtain⟨ty,hty⟩:∃z,y.t=z:=⟨_,rfl⟩
 obtain⟨fy,hfy⟩:∃z,y.f=z:=⟨_,rfl⟩
 obtain⟨py,hpy⟩:∃z,y.p=z:=⟨_,rfl⟩
 rw [hky,hty,hfy,hpy] at hzy hcelly
 have hkb:(ky == 7)=false:=by rw [←hky];simpa using hk7 y hy
 have X0:∀u,Below w1.heap.size w1 u→Below G w u:=fun u h=>X1.trans (h.mono (Nat.le_of_lt (lt_of_row A1)))
 have HK:Hid (∀u,Below w1.heap.size w1 u→u.cell? ⟨b.block,b.off+20,none⟩=some (.int .i64 ky)∧u.cell? ⟨b.block,b.off+20+1,none⟩=some (.string ty)∧u.cell? ⟨b.block,b.off+20+2,none⟩=some (.int .i64 vky)∧u.cell? ⟨b.block,b.off+20+3,none⟩=some (.int .i64 vny)∧u.cell? ⟨b.block,b.off+20+4,none⟩=some (.string vsy)∧u.cell? ⟨b.block,b.off+20+5,none⟩=some (.slice aly lly cly)∧u.cell? ⟨b.block,b.off+20+6,none⟩=some (.slice aky lky cky)∧u.cell? ⟨b.block,b.off+20+7,none⟩=some (.bool fy)∧u.cell? ⟨b.block,b.off+20+8,none⟩=some (.slice ay ny ccy)∧u.cell? ⟨b.block,b.off+20+9,none⟩=some (.int .i64 py)):=hZ (fun u h=>by
  have hc:∀j v,([.int .i64 ky,.string ty,.int .i64 vky,.int .i64 vny,.string vsy,.slice aly lly cly,.slice aky lky cky,.bool fy,.slice ay ny ccy,.int .i64 py]:List Value)[j]?=some v→u.cell? ((b.add (2 * 10)).add j)=some v:=fun j v hj=>(World.cell?_of_block ((X0 u h).block _ (by rw [block_add,block_add];omega))).trans (hcelly j v hj)
  exact⟨hc 0 _ rfl,hc 1 _ rfl,hc 2 _ rfl,hc 3 _ rfl,hc 4 _ rfl,hc 5 _ rfl,hc 6 _ rfl,hc 7 _ rfl,hc 8 _ rfl,hc 9 _ rfl⟩)
 obtain⟨Z,hZz⟩:∃Z,T2 y=Z:=⟨_,rfl⟩
 rw [hZz] at HY
 have CE:Hid (∀u,Below w1.heap.size w1 u→Calls Tryz.prog 69 #[.agg #[.int .i64 ky,.string ty,.int .i64 vky,.int .i64 vny,.string vsy,.slice aly lly cly,.slice aky lky cky,.bool fy,.slice ay ny ccy,.int .i64 py],.int .i64 (d+1)] u fun e u'=>∃t,e=.returned t∧Txt B0 u' t Z∧Below u.heap.size u u'):=hZ (fun u h=>by rw [←hZz];exact hEy _ u (Nat.le_trans hBG (by rw [←hG];exact(X0 u h).size)) hG0 (hP.later (X0 u h) (by omega)) (hzy.laterB ((X0 u h).mono hBG)))
 clear hEy hzy hcelly hy hny hcy hby hky hty hfy hpy hZz X0 eb
 have hm1:=hZ (show IntKind.i64.wrap (d+1)=d+1 by rw [IntKind.wrap_i64];omega)
 clear hE0 h1 hE1 hd h2 hE2 hk7
 clear A1 X1 hw1 hBG hB hr hn hG0 hP hR
 go_enter Tryz.func131,Tryz.ntmps131
 go_upto_region 1 with fail
 rw [uZ HW]
 try rw [hG]
 clear HW
 obtain⟨x0,x1,x2,x3,x4,x5,x6,x7,x8,x9⟩:=uZ HF w1 (Below.refl _ _)
 go_wp2_with fail
 refine(uZ CW).mono ?_
 rintro e w3 ⟨t3,rfl,h3,b3⟩
 have H3:=hZ (And.intro h3 b3)
 obtain⟨F1,p1,rfl,-,-⟩:=h3
 clear b3 CW x0 x1 x2 x3 x4 x5 x6 x7 x8 x9
 obtain⟨x0,x1,x2,x3,x4,x5,x6,x7,x8,x9⟩:=uZ HF w3 (uZ H3).2
 obtain⟨z0,z1,z2,z3,z4,z5,z6,z7,z8,z9⟩:=uZ HK w3 (uZ H3).2
 go_upto_region 7 with fail
 obtain⟨w4,hw4⟩:∃w4,w3.alloc (.cells #[.int .i64 ky,.string ty,.int .i64 vky,.int .i64 vny,.string vsy,.slice aly lly cly,.slice aky lky cky,.bool fy,.slice ay ny ccy,.int .i64 py] 28)=w4:=⟨_,rfl⟩
 try rw [hw4]
 obtain⟨q4,hq4⟩:∃q,w3.heap.size=q:=⟨_,rfl⟩
 try rw [hq4]
 have at4:w4.heap[q4]?=some (.cells #[.int .i64 ky,.string ty,.int .i64 vky,.int .i64 vny,.string vsy,.slice aly lly cly,.slice aky lky cky,.bool fy,.slice ay ny ccy,.int .i64 py] 28 (0,0)):=by rw [←hw4,←hq4];exact heap_alloc_new _ _
 have b34:Below w3.heap.size w3 w4:=by rw [←hw4];exact(Below.refl _ _).alloc (Nat.le_refl _) _
 have H34:=hZ b34
 have H4:=hZ ((uZ H3).2.trans (b34.mono (uZ H3).2.size))
 have HB3:=hZ (show B0≤w3.heap.size from Nat.le_trans (uZ HB) (uZ H3).2.size)
 have HBB:=hZ (show B0≤w4.heap.size from Nat.le_trans (uZ HB) (uZ H4).size)
 have HQ:Hid (NF10 w4 q4 (.int .i64 ky) (.string ty) (.int .i64 vky) (.int .i64 vny) (.string vsy) (.slice aly lly cly) (.slice aky lky cky) (.bool fy) (.slice ay ny ccy) (.int .i64 py)):=hZ (fun u hu=>row_ten (Below.cellsAt hu at4))
 clear at4 b34 hw4 hq4 x0 x1 x2 x3 x4 x5 x6 x7 x8 x9 z0 z1 z2 z3 z4 z5 z6 z7 z8 z9
 have HS0:Hid (Below w4.heap.size w4 w4.drew):=hZ ((Below.refl _ _).drew)
 refine till_begin (S:=fun w'=>Below w4.heap.size w4 w') 8 (by kernel_rfl) ?_
 obtain⟨W0,hW0⟩:∃W0,w4.drew=W0:=⟨_,rfl⟩
 try rw [hW0]
 rw [hW0] at HS0
 clear hW0
 have HT1_0:=hZ ((uZ H3).1.later (Kp.below ((uZ H34).trans ((uZ HS0).mono (uZ H34).size)) (uZ HB3)))
 refine tK 0 (v:=.func (.func F1) #[] p1) (some 29) rfl rfl rfl (by kernel_rfl) (fun _ _ _ h=>h) (Or.inl ⟨by rfl,fun u hu=>by obtain⟨x0,x1,x2,x3,x4,x5,x6,x7,x8,x9⟩:=uZ HF u ((uZ H4).trans (hu.mono (uZ H4).size));obtain⟨z0,z1,z2,z3,z4,z5,z6,z7,z8,z9⟩:=uZ HQ u hu;go_simp⟩) (uZ HS0) ?_
 try simp only [Act.put,sA,sB,sC]
 refine tK 2 (v:=.agg #[.int .i64 ky,.string ty,.int .i64 vky,.int .i64 vny,.string vsy,.slice aly lly cly,.slice aky lky cky,.bool fy,.slice ay ny ccy,.int .i64 py]) (some 31) rfl rfl rfl (by kernel_rfl) (fun _ _ _ h=>h) (Or.inl ⟨by rfl,fun u hu=>by obtain⟨x0,x1,x2,x3,x4,x5,x6,x7,x8,x9⟩:=uZ HF u ((uZ H4).trans (hu.mono (uZ H4).size));obtain⟨z0,z1,z2,z3,z4,z5,z6,z7,z8,z9⟩:=uZ HQ u hu;go_simp⟩) (uZ HS0) ?_
 try simp only [Act.put,sA,sB,sC]
 refine tK 3 (v:=.int .i64 d) (some 32) rfl rfl rfl (by kernel_rfl) (fun _ _ _ h=>h) (Or.inl ⟨by rfl,fun u hu=>by obtain⟨x0,x1,x2,x3,x4,x5,x6,x7,x8,x9⟩:=uZ HF u ((uZ H4).trans (hu.mono (uZ H4).size));obtain⟨z0,z1,z2,z3,z4,z5,z6,z7,z8,z9⟩:=uZ HQ u hu;go_simp⟩) (uZ HS0) ?_
 try simp only [Act.put,sA,sB,sC]
 refine tK 4 (v:=.int .i64 (d+1)) (some 33) rfl rfl rfl (by kernel_rfl) (fun _ _ _ h=>h) (Or.inl ⟨by rfl,fun u hu=>by obtain⟨x0,x1,x2,x3,x4,x5,x6,x7,x8,x9⟩:=uZ HF u ((uZ H4).trans (hu.mono (uZ H4).size));obtain⟨z0,z1,z2,z3,z4,z5,z6,z7,z8,z9⟩:=uZ HQ u hu;have hm:=uZ hm1;go_simp⟩) (uZ HS0) ?_
 try simp only [Act.put,sA,sB,sC]
 refine till_one 1 (by kernel_rfl) rfl (fun K hK=>?_)
 go_simp
 refine(txw_any B0 ⟨#[32,101,108,115,101,32]⟩ W0).mono ?_
 rintro e W1 ⟨t2,rfl,h,bb⟩
 have h0:=h
 obtain⟨F2,p2,rfl,-,-⟩:=h0
 have HT2_1:=hZ h
 have HS1:=hZ ((uZ HS0).trans (bb.mono (uZ HS0).size))
 have HT1_1:=hZ ((uZ HT1_0).later (Kp.below bb (Nat.le_trans (uZ HBB) (uZ HS0).size)))
 clear bb h HT1_0
 go_wp2_with fail
 refine hK.out _ _ (Or.inr (uZ HS1)) ?_
 clear hK K HS0
 try simp only [Act.put,sA,sB,sC]
 refine till_one 5 (by kernel_rfl) rfl (fun K hK=>?_)
 go_simp
 refine((uZ CE) W1 ((uZ H4).trans ((uZ HS1).mono (uZ H4).size))).mono ?_
 rintro e W2 ⟨t3,rfl,h,bb⟩
 have h0:=h
 obtain⟨F3,p3,rfl,-,-⟩:=h0
 have HT3_2:=hZ h
 have HS2:=hZ ((uZ HS1).trans (bb.mono (uZ HS1).size))
 have HT1_2:=hZ ((uZ HT1_1).later (Kp.below bb (Nat.le_trans (uZ HBB) (uZ HS1).size)))
 have HT2_2:=hZ ((uZ HT2_1).later (Kp.below bb (Nat.le_trans (uZ HBB) (uZ HS1).size)))
 clear bb h HT1_1 HT2_1
 go_wp2_with fail
 refine hK.out _ _ (Or.inr (uZ HS2)) ?_
 clear hK K HS1
 try simp only [Act.put,sA,sB,sC]
 obtain⟨W3,hW3⟩:∃W,W2.alloc (.cells #[.func (.func F1) #[] p1,.func (.func F2) #[] p2,.func (.func F3) #[] p3] 39)=W:=⟨_,rfl⟩
 obtain⟨q,hq⟩:∃q,W2.heap.size=q:=⟨_,rfl⟩
 have bb:Below W2.heap.size W2 W3:=by rw [←hW3];exact(Below.refl _ _).alloc (Nat.le_refl _) _
 have HX3:=hZ (show Txs B0 W3 q _ from txs3 (by rw [←hW3,←hq];exact heap_alloc_new _ _) ((uZ HT1_2).later (Kp.below bb (Nat.le_trans (uZ HBB) (uZ HS2).size))) ((uZ HT2_2).later (Kp.below bb (Nat.le_trans (uZ HBB) (uZ HS2).size))) ((uZ HT3_2).later (Kp.below bb (Nat.le_trans (uZ HBB) (uZ HS2).size))))
 have HS3:=hZ ((uZ HS2).trans (bb.mono (uZ HS2).size))
 clear bb HT1_2 HT2_2 HT3_2
 refine till_one 6 (by kernel_rfl) rfl (fun K hK=>?_)
 go_simp
 try rw [hW3]
 try rw [hq]
 refine hK.out _ _ (Or.inr (uZ HS3)) ?_
 clear hK K HS2 hW3 hq
 try simp only [Act.put,sA,sB,sC]
 refine till_one 7 (by kernel_rfl) rfl (fun K hK=>?_)
 go_simp
 refine(row_any B0 q 3 3 _ W3 (Nat.le_trans (uZ HBB) (uZ HS3).size) (uZ HX3) rfl (by decide)).mono ?_
 rintro e W4 ⟨tr,rfl,h,bb⟩
 have h0:=h
 obtain⟨Fr,pr,rfl,-,-⟩:=h0
 have HT:=hZ h
 have HS4:=hZ ((uZ HS3).trans (bb.mono (uZ HS3).size))
 clear bb h HX3
 go_wp2_with fail
 refine hK.out _ _ (Or.inr (uZ HS4)) ?_
 clear hK K HS3
 try simp only [Act.put,sA,sB,sC]
 refine till_one 8 (by kernel_rfl) rfl (fun K hK=>?_)
 go_simp
 refine hK.out _ _ (Or.inl (by first|rfl|trivial)) ?_
 clear hK K
 try simp only [Act.put,sA,sB,sC]
 refine till_done (by kernel_rfl) ?_ _
 go_wp2_with fail
 go_ret
 refine⟨_,rfl,?_,?_⟩
 ·have h1:=uZ HT
  rw [←uZ HR]
  simpa [uZ HY] using h1
 ·have:=((uZ HM) _ ((uZ H4).trans ((uZ HS4).mono (uZ H4).size))).2.2.1
  first|exact this|(rw [hG];exact this)
end Go.Proofs.YtlkeaaopdnnceaaGreatDoor
