/-
  Layer 18 (print): a choice is written; conditions: the nodes lie in memory.
-/
import Derived.Test.YtekbmfppfjlboaaGreatDoorA38
set_option linter.unusedVariables false
set_option linter.unusedSimpArgs false
namespace Go.Proofs.YtekbmfppfjlboaaGreatDoor
open Go.RowKit
set_option linter.unusedVariables false
set_option linter.unusedSimpArgs false
def ChC (B0:Nat) (d:Int) (TC:Tn→List UInt8) (y:Tn):Prop:=∀(x:List Value) (u:World),B0≤u.heap.size→0<B0→PowAt u→IsN u (fun b=>b<B0) y x→Calls Tryz.prog 131 #[.agg x.toArray,.int .i64 d] u fun e u'=>∃t,e=.returned t∧Txt B0 u' t (TC y)∧Below u.heap.size u u'
set_option maxRecDepth 100000 in
set_option maxHeartbeats 4000000 in
theorem ch2_any (B0:Nat) (d:Int) (TB:Tn→List UInt8) (v:Vl) (ks:List Tn) (vk vn p:Int) (t vs:ByteArray) (al ak:Option Addr) (ll cl lk ck n cc:Nat) (f:Bool) (b:Addr) (w:World) (hB:B0≤w.heap.size) (hr:RowN w B0 ks (some b) cc) (hn:ks.length=n) (hG0:0<B0) (hP:PowAt w) (hE0:∀y,ks[0]?=some y→ExC B0 y) (hd:0≤d∧d≤1000000) (hE1:∀y,ks[1]?=some y→BlC B0 (d+1) TB y) (h1:1<n) (h2:n<3) :
  Calls Tryz.prog 131 #[.agg #[.int .i64 7,.string t,.int .i64 vk,.int .i64 vn,.string vs,.slice al ll cl,.slice ak lk ck,.bool f,.slice (some b) n cc,.int .i64 p],.int .i64 d] w fun e w'=>∃t',e=.returned t'∧Txt B0 w' t' (([105,102,32,40]:List UInt8)++(((exM ks)[0]?).getD []++(41 :: 32 :: ((ks[1]?).map TB).getD [])))∧Below w.heap.size w w':=by
 obtain⟨w1,hw1⟩:∃w1,w.alloc (.cells #[.int .i64 7,.string t,.int .i64 vk,.int .i64 vn,.string vs,.slice al ll cl,.slice ak lk ck,.bool f,.slice (some b) n cc,.int .i64 p] 28)=w1:=⟨_,rfl⟩
 obtain⟨G,hG⟩:∃G,w.heap.size=G:=⟨_,rfl⟩
 have A1:w1.heap[G]?=some (.cells #[.int .i64 7,.string t,.int .i64 vk,.int .i64 vn,.string vs,.slice al ll cl,.slice ak lk ck,.bool f,.slice (some b) n cc,.int .i64 p] 28 (0,0)):=by rw [←hw1,←hG];exact heap_alloc_new _ _
 have X1:Below G w w1:=by rw [←hw1,←hG];exact(Below.refl _ _).alloc (Nat.le_refl _) _
 have hBG:B0≤G:=by rw [←hG];exact hB
 have HM:Hid (∀u,Below w1.heap.size w1 u→RowN u B0 ks (some b) cc∧PowAt u∧Below G w u∧B0≤u.heap.size):=hide (fun u h=>by
  have h2:=X1.trans (h.mono (Nat.le_of_lt (lt_of_row A1)))
  exact⟨hr.later (h2.mono hBG),hP.later h2 (by omega),h2,Nat.le_trans hBG (by rw [←hG];exact h2.size)⟩)
 have HF:Hid (∀u,Below w1.heap.size w1 u→u.cell? ⟨G,0,none⟩=some (.int .i64 7)∧u.cell? ⟨G,1,none⟩=some (.string t)∧u.cell? ⟨G,2,none⟩=some (.int .i64 vk)∧u.cell? ⟨G,3,none⟩=some (.int .i64 vn)∧u.cell? ⟨G,4,none⟩=some (.string vs)∧u.cell? ⟨G,5,none⟩=some (.slice al ll cl)∧u.cell? ⟨G,6,none⟩=some (.slice ak lk ck)∧u.cell? ⟨G,7,none⟩=some (.bool f)∧u.cell? ⟨G,8,none⟩=some (.slice (some b) n cc)∧u.cell? ⟨G,9,none⟩=some (.int .i64 p)):=hide (fun u hu=>row_ten (Below.cellsAt hu A1))
 have HB:=hide (show B0≤w1.heap.size from Nat.le_trans hBG (Nat.le_of_lt (lt_of_row A1)))
 have HN:=hide (And.intro hn hG0)
 obtain⟨R,hR⟩:∃R,([105,102,32,40]:List UInt8)++(((exM ks)[0]?).getD []++(41 :: 32 :: ((ks[1]?).map TB).getD []))=R:=⟨_,rfl⟩
 rw [hR]
 have HR:=hide hR
 have HW:=hide hw1
 have CW:=hide (guarded_any B0 ⟨#[105,102,32,40]⟩ d hd TB v ks 7 vk vn p t vs al ak ll cl lk ck n cc f b w1 (Nat.le_trans hBG (Nat.le_of_lt (lt_of_row A1))) (hr.later (X1.mono hBG)) hn hG0 (hP.later X1 (by omega)) hE0 hE1 h1)
 have hn3:(n:Int)<3:=by omega
 clear hE0 h1 hE1 hd h2
 clear A1 X1 hw1 hBG hB hr hn hG0 hP hR
 go_enter Tryz.func131,Tryz.ntmps131
 go_upto_region 1 with fail
 rw [unhide HW]
 try rw [hG]
 clear HW
 obtain⟨x0,x1,x2,x3,x4,x5,x6,x7,x8,x9⟩:=unhide HF w1 (Below.refl _ _)
 go_wp2_with fail
 refine(unhide CW).mono ?_
 rintro e w3 ⟨t3,rfl,h3,b3⟩
 have H3:=hide (And.intro h3 b3)
 obtain⟨F1,p1,rfl,-,-⟩:=h3
 clear b3 CW x0 x1 x2 x3 x4 x5 x6 x7 x8 x9
 obtain⟨x0,x1,x2,x3,x4,x5,x6,x7,x8,x9⟩:=unhide HF w3 (unhide H3).2
 go_wp2_with fail
 go_ret
 have hb:=((unhide HM) w3 (unhide H3).2).2.2.1
 refine⟨_,rfl,?_,by first|exact hb|(rw [hG];exact hb)⟩
 have h1:=(unhide H3).1
 rw [←unhide HR]
 first|exact h1|simpa using h1
set_option maxRecDepth 100000 in
set_option maxHeartbeats 4000000 in
theorem ch3i_any (B0:Nat) (d:Int) (TB:Tn→List UInt8) (T2:Tn→List UInt8) (v:Vl) (ks:List Tn) (vk vn p:Int) (t vs:ByteArray) (al ak:Option Addr) (ll cl lk ck n cc:Nat) (f:Bool) (b:Addr) (w:World) (hB:B0≤w.heap.size) (hr:RowN w B0 ks (some b) cc) (hn:ks.length=n) (hG0:0<B0) (hP:PowAt w) (hE0:∀y,ks[0]?=some y→ExC B0 y) (hd:0≤d∧d≤1000000) (hE1:∀y,ks[1]?=some y→BlC B0 (d+1) TB y) (hE2:∀y,ks[2]?=some y→ChC B0 d T2 y) (hk7:∀y,ks[2]?=some y→y.k=7) (h1:1<n) (h2:n=3) :
  Calls Tryz.prog 131 #[.agg #[.int .i64 7,.string t,.int .i64 vk,.int .i64 vn,.string vs,.slice al ll cl,.slice ak lk ck,.bool f,.slice (some b) n cc,.int .i64 p],.int .i64 d] w fun e w'=>∃t',e=.returned t'∧Txt B0 w' t' (([105,102,32,40]:List UInt8)++(((exM ks)[0]?).getD []++(41 :: 32 :: ((ks[1]?).map TB).getD []))++(32 :: 101 :: 108 :: 115 :: 101 :: 32 :: ((ks[2]?).map T2).getD []))∧Below w.heap.size w w':=by
 obtain⟨w1,hw1⟩:∃w1,w.alloc (.cells #[.int .i64 7,.string t,.int .i64 vk,.int .i64 vn,.string vs,.slice al ll cl,.slice ak lk ck,.bool f,.slice (some b) n cc,.int .i64 p] 28)=w1:=⟨_,rfl⟩
 obtain⟨G,hG⟩:∃G,w.heap.size=G:=⟨_,rfl⟩
 have A1:w1.heap[G]?=some (.cells #[.int .i64 7,.string t,.int .i64 vk,.int .i64 vn,.string vs,.slice al ll cl,.slice ak lk ck,.bool f,.slice (some b) n cc,.int .i64 p] 28 (0,0)):=by rw [←hw1,←hG];exact heap_alloc_new _ _
 have X1:Below G w w1:=by rw [←hw1,←hG];exact(Below.refl _ _).alloc (Nat.le_refl _) _
 have hBG:B0≤G:=by rw [←hG];exact hB
 have HM:Hid (∀u,Below w1.heap.size w1 u→RowN u B0 ks (some b) cc∧PowAt u∧Below G w u∧B0≤u.heap.size):=hide (fun u h=>by
  have h2:=X1.trans (h.mono (Nat.le_of_lt (lt_of_row A1)))
  exact⟨hr.later (h2.mono hBG),hP.later h2 (by omega),h2,Nat.le_trans hBG (by rw [←hG];exact h2.size)⟩)
 have HF:Hid (∀u,Below w1.heap.size w1 u→u.cell? ⟨G,0,none⟩=some (.int .i64 7)∧u.cell? ⟨G,1,none⟩=some (.string t)∧u.cell? ⟨G,2,none⟩=some (.int .i64 vk)∧u.cell? ⟨G,3,none⟩=some (.int .i64 vn)∧u.cell? ⟨G,4,none⟩=some (.string vs)∧u.cell? ⟨G,5,none⟩=some (.slice al ll cl)∧u.cell? ⟨G,6,none⟩=some (.slice ak lk ck)∧u.cell? ⟨G,7,none⟩=some (.bool f)∧u.cell? ⟨G,8,none⟩=some (.slice (some b) n cc)∧u.cell? ⟨G,9,none⟩=some (.int .i64 p)):=hide (fun u hu=>row_ten (Below.cellsAt hu A1))
 have HB:=hide (show B0≤w1.heap.size from Nat.le_trans hBG (Nat.le_of_lt (lt_of_row A1)))
 have HN:=hide (And.intro hn hG0)
 obtain⟨R,hR⟩:∃R,([105,102,32,40]:List UInt8)++(((exM ks)[0]?).getD []++(41 :: 32 :: ((ks[1]?).map TB).getD []))++(32 :: 101 :: 108 :: 115 :: 101 :: 32 :: ((ks[2]?).map T2).getD [])=R:=⟨_,rfl⟩
 rw [hR]
 have HR:=hide hR
 have HW:=hide hw1
 have CW:=hide (guarded_any B0 ⟨#[105,102,32,40]⟩ d hd TB v ks 7 vk vn p t vs al ak ll cl lk ck n cc f b w1 (Nat.le_trans hBG (Nat.le_of_lt (lt_of_row A1))) (hr.later (X1.mono hBG)) hn hG0 (hP.later X1 (by omega)) hE0 hE1 h1)
 have hn3:¬(n:Int)<3:=by omega
 have hi2:(2:Int)<(n:Int):=by omega
 obtain⟨y,hy⟩:∃y,ks[2]?=some y:=⟨_,List.getElem?_eq_getElem (by omega)⟩
 have hEy:=hE2 y hy
 obtain⟨b',vky,vny,vsy,aly,aky,ay,lly,cly,lky,cky,ny,ccy,eb,hcy,hby,hny,hzy,hcelly⟩:=hr.ten hy
 obtain rfl:b=b':=Option.some.inj eb
 have hncc:n≤cc:=by rw [←hn];exact hcy
 have HY:=hide (show (ks[2]?).map T2=some (T2 y) by rw [hy];rfl)
 have hky:y.k=7:=hk7 y hy
 obtain⟨ty,hty⟩:∃z,y.t=z:=⟨_,rfl⟩
 obtain⟨fy,hfy⟩:∃z,y.f=z:=⟨_,rfl⟩
 obtain⟨py,hpy⟩:∃z,y.p=z:=⟨_,rfl⟩
 rw [hky,hty,hfy,hpy] at hzy hcelly
 have X0:∀u,Below w1.heap.size w1 u→Below G w u:=fun u h=>X1.trans (h.mono (Nat.le_of_lt (lt_of_row A1)))
 have HK:Hid (∀u,Below w1.heap.size w1 u→u.cell? ⟨b.block,b.off+20,none⟩=some (.int .i64 7)∧u.cell? ⟨b.block,b.off+20+1,none⟩=some (.string ty)∧u.cell? ⟨b.block,b.off+20+2,none⟩=some (.int .i64 vky)∧u.cell? ⟨b.block,b.off+20+3,none⟩=some (.int .i64 vny)∧u.cell? ⟨b.block,b.off+20+4,none⟩=some (.string vsy)∧u.cell? ⟨b.block,b.off+20+5,none⟩=some (.slice aly lly cly)∧u.cell? ⟨b.block,b.off+20+6,none⟩=some (.slice aky lky cky)∧u.cell? ⟨b.block,b.off+20+7,none⟩=some (.bool fy)∧u.cell? ⟨b.block,b.off+20+8,none⟩=some (.slice ay ny ccy)∧u.cell? ⟨b.block,b.off+20+9,none⟩=some (.int .i64 py)):=hide (fun u h=>by
  have hc:∀j v,([.int .i64 7,.string ty,.int .i64 vky,.int .i64 vny,.string vsy,.slice aly lly cly,.slice aky lky cky,.bool fy,.slice ay ny ccy,.int .i64 py]:List Value)[j]?=some v→u.cell? ((b.add (2 * 10)).add j)=some v:=fun j v hj=>(World.cell?_of_block ((X0 u h).block _ (by rw [block_add,block_add];omega))).trans (hcelly j v hj)
  exact⟨hc 0 _ rfl,hc 1 _ rfl,hc 2 _ rfl,hc 3 _ rfl,hc 4 _ rfl,hc 5 _ rfl,hc 6 _ rfl,hc 7 _ rfl,hc 8 _ rfl,hc 9 _ rfl⟩)
 obtain⟨Z,hZ⟩:∃Z,T2 y=Z:=⟨_,rfl⟩
 rw [hZ] at HY
 have CE:Hid (∀u,Below w1.heap.size w1 u→Calls Tryz.prog 131 #[.agg #[.int .i64 7,.string ty,.int .i64 vky,.int .i64 vny,.string vsy,.slice aly lly cly,.slice aky lky cky,.bool fy,.slice ay ny ccy,.int .i64 py],.int .i64 d] u fun e u'=>∃t,e=.returned t∧Txt B0 u' t Z∧Below u.heap.size u u'):=hide (fun u h=>by rw [←hZ];exact hEy _ u (Nat.le_trans hBG (by rw [←hG];exact(X0 u h).size)) hG0 (hP.later (X0 u h) (by omega)) (hzy.laterB ((X0 u h).mono hBG)))
 clear hEy hzy hcelly hy hny hcy hby hky hty hfy hpy hZ X0 eb
 clear hE0 h1 hE1 hd h2 hE2 hk7
 clear A1 X1 hw1 hBG hB hr hn hG0 hP hR
 go_enter Tryz.func131,Tryz.ntmps131
 go_upto_region 1 with fail
 rw [unhide HW]
 try rw [hG]
 clear HW
 obtain⟨x0,x1,x2,x3,x4,x5,x6,x7,x8,x9⟩:=unhide HF w1 (Below.refl _ _)
 go_wp2_with fail
 refine(unhide CW).mono ?_
 rintro e w3 ⟨t3,rfl,h3,b3⟩
 have H3:=hide (And.intro h3 b3)
 obtain⟨F1,p1,rfl,-,-⟩:=h3
 clear b3 CW x0 x1 x2 x3 x4 x5 x6 x7 x8 x9
 obtain⟨x0,x1,x2,x3,x4,x5,x6,x7,x8,x9⟩:=unhide HF w3 (unhide H3).2
 obtain⟨z0,z1,z2,z3,z4,z5,z6,z7,z8,z9⟩:=unhide HK w3 (unhide H3).2
 go_upto_region 6 with fail
 obtain⟨w4,hw4⟩:∃w4,w3.alloc (.cells #[.int .i64 7,.string ty,.int .i64 vky,.int .i64 vny,.string vsy,.slice aly lly cly,.slice aky lky cky,.bool fy,.slice ay ny ccy,.int .i64 py] 28)=w4:=⟨_,rfl⟩
 try rw [hw4]
 obtain⟨q4,hq4⟩:∃q,w3.heap.size=q:=⟨_,rfl⟩
 try rw [hq4]
 have at4:w4.heap[q4]?=some (.cells #[.int .i64 7,.string ty,.int .i64 vky,.int .i64 vny,.string vsy,.slice aly lly cly,.slice aky lky cky,.bool fy,.slice ay ny ccy,.int .i64 py] 28 (0,0)):=by rw [←hw4,←hq4];exact heap_alloc_new _ _
 have b34:Below w3.heap.size w3 w4:=by rw [←hw4];exact(Below.refl _ _).alloc (Nat.le_refl _) _
 have H34:=hide b34
 have H4:=hide ((unhide H3).2.trans (b34.mono (unhide H3).2.size))
 have HB3:=hide (show B0≤w3.heap.size from Nat.le_trans (unhide HB) (unhide H3).2.size)
 have HBB:=hide (show B0≤w4.heap.size from Nat.le_trans (unhide HB) (unhide H4).size)
 have HQ:Hid (∀u,Below w4.heap.size w4 u→u.cell? ⟨q4,0,none⟩=some (.int .i64 7)∧u.cell? ⟨q4,1,none⟩=some (.string ty)∧u.cell? ⟨q4,2,none⟩=some (.int .i64 vky)∧u.cell? ⟨q4,3,none⟩=some (.int .i64 vny)∧u.cell? ⟨q4,4,none⟩=some (.string vsy)∧u.cell? ⟨q4,5,none⟩=some (.slice aly lly cly)∧u.cell? ⟨q4,6,none⟩=some (.slice aky lky cky)∧u.cell? ⟨q4,7,none⟩=some (.bool fy)∧u.cell? ⟨q4,8,none⟩=some (.slice ay ny ccy)∧u.cell? ⟨q4,9,none⟩=some (.int .i64 py)):=hide (fun u hu=>row_ten (Below.cellsAt hu at4))
 clear at4 b34 hw4 hq4 x0 x1 x2 x3 x4 x5 x6 x7 x8 x9 z0 z1 z2 z3 z4 z5 z6 z7 z8 z9
 have HS0:Hid (Below w4.heap.size w4 w4.drew):=hide ((Below.refl _ _).drew)
 refine till_begin (S:=fun w'=>Below w4.heap.size w4 w') 7 (by kernel_rfl) ?_
 obtain⟨W0,hW0⟩:∃W0,w4.drew=W0:=⟨_,rfl⟩
 try rw [hW0]
 rw [hW0] at HS0
 clear hW0
 have HT1_0:=hide ((unhide H3).1.later (Kp.below ((unhide H34).trans ((unhide HS0).mono (unhide H34).size)) (unhide HB3)))
 refine till_take 0 (v:=.func (.func F1) #[] p1) (some 22) rfl rfl rfl (by kernel_rfl) (by kernel_rfl) (by kernel_rfl) (by kernel_rfl) (fun _ _ _ h=>h) (Or.inl ⟨by rfl,fun u hu=>by obtain⟨x0,x1,x2,x3,x4,x5,x6,x7,x8,x9⟩:=unhide HF u ((unhide H4).trans (hu.mono (unhide H4).size));obtain⟨z0,z1,z2,z3,z4,z5,z6,z7,z8,z9⟩:=unhide HQ u hu;go_simp⟩) (unhide HS0) ?_
 try simp only [Act.put,List.setIfInBounds_toArray,List.set_cons_zero,List.set_cons_succ]
 refine till_take 2 (v:=.agg #[.int .i64 7,.string ty,.int .i64 vky,.int .i64 vny,.string vsy,.slice aly lly cly,.slice aky lky cky,.bool fy,.slice ay ny ccy,.int .i64 py]) (some 24) rfl rfl rfl (by kernel_rfl) (by kernel_rfl) (by kernel_rfl) (by kernel_rfl) (fun _ _ _ h=>h) (Or.inl ⟨by rfl,fun u hu=>by obtain⟨x0,x1,x2,x3,x4,x5,x6,x7,x8,x9⟩:=unhide HF u ((unhide H4).trans (hu.mono (unhide H4).size));obtain⟨z0,z1,z2,z3,z4,z5,z6,z7,z8,z9⟩:=unhide HQ u hu;go_simp⟩) (unhide HS0) ?_
 try simp only [Act.put,List.setIfInBounds_toArray,List.set_cons_zero,List.set_cons_succ]
 refine till_take 3 (v:=.int .i64 d) (some 25) rfl rfl rfl (by kernel_rfl) (by kernel_rfl) (by kernel_rfl) (by kernel_rfl) (fun _ _ _ h=>h) (Or.inl ⟨by rfl,fun u hu=>by obtain⟨x0,x1,x2,x3,x4,x5,x6,x7,x8,x9⟩:=unhide HF u ((unhide H4).trans (hu.mono (unhide H4).size));obtain⟨z0,z1,z2,z3,z4,z5,z6,z7,z8,z9⟩:=unhide HQ u hu;go_simp⟩) (unhide HS0) ?_
 try simp only [Act.put,List.setIfInBounds_toArray,List.set_cons_zero,List.set_cons_succ]
 refine till_one 1 (by kernel_rfl) rfl (fun K hK=>?_)
 go_simp
 refine(txw_any B0 ⟨#[32,101,108,115,101,32]⟩ W0).mono ?_
 rintro e W1 ⟨t2,rfl,h,bb⟩
 have h0:=h
 obtain⟨F2,p2,rfl,-,-⟩:=h0
 have HT2_1:=hide h
 have HS1:=hide ((unhide HS0).trans (bb.mono (unhide HS0).size))
 have HT1_1:=hide ((unhide HT1_0).later (Kp.below bb (Nat.le_trans (unhide HBB) (unhide HS0).size)))
 clear bb h HT1_0
 go_wp2_with fail
 refine hK.out _ _ (Or.inr (unhide HS1)) ?_
 clear hK K HS0
 try simp only [Act.put,List.setIfInBounds_toArray,List.set_cons_zero,List.set_cons_succ]
 refine till_one 4 (by kernel_rfl) rfl (fun K hK=>?_)
 go_simp
 refine((unhide CE) W1 ((unhide H4).trans ((unhide HS1).mono (unhide H4).size))).mono ?_
 rintro e W2 ⟨t3,rfl,h,bb⟩
 have h0:=h
 obtain⟨F3,p3,rfl,-,-⟩:=h0
 have HT3_2:=hide h
 have HS2:=hide ((unhide HS1).trans (bb.mono (unhide HS1).size))
 have HT1_2:=hide ((unhide HT1_1).later (Kp.below bb (Nat.le_trans (unhide HBB) (unhide HS1).size)))
 have HT2_2:=hide ((unhide HT2_1).later (Kp.below bb (Nat.le_trans (unhide HBB) (unhide HS1).size)))
 clear bb h HT1_1 HT2_1
 go_wp2_with fail
 refine hK.out _ _ (Or.inr (unhide HS2)) ?_
 clear hK K HS1
 try simp only [Act.put,List.setIfInBounds_toArray,List.set_cons_zero,List.set_cons_succ]
 obtain⟨W3,hW3⟩:∃W,W2.alloc (.cells #[.func (.func F1) #[] p1,.func (.func F2) #[] p2,.func (.func F3) #[] p3] 39)=W:=⟨_,rfl⟩
 obtain⟨q,hq⟩:∃q,W2.heap.size=q:=⟨_,rfl⟩
 have bb:Below W2.heap.size W2 W3:=by rw [←hW3];exact(Below.refl _ _).alloc (Nat.le_refl _) _
 have HX3:=hide (show Txs B0 W3 q _ from txs3 (by rw [←hW3,←hq];exact heap_alloc_new _ _) ((unhide HT1_2).later (Kp.below bb (Nat.le_trans (unhide HBB) (unhide HS2).size))) ((unhide HT2_2).later (Kp.below bb (Nat.le_trans (unhide HBB) (unhide HS2).size))) ((unhide HT3_2).later (Kp.below bb (Nat.le_trans (unhide HBB) (unhide HS2).size))))
 have HS3:=hide ((unhide HS2).trans (bb.mono (unhide HS2).size))
 clear bb HT1_2 HT2_2 HT3_2
 refine till_one 5 (by kernel_rfl) rfl (fun K hK=>?_)
 go_simp
 try rw [hW3]
 try rw [hq]
 refine hK.out _ _ (Or.inr (unhide HS3)) ?_
 clear hK K HS2 hW3 hq
 try simp only [Act.put,List.setIfInBounds_toArray,List.set_cons_zero,List.set_cons_succ]
 refine till_one 6 (by kernel_rfl) rfl (fun K hK=>?_)
 go_simp
 refine(row_any B0 q 3 3 _ W3 (Nat.le_trans (unhide HBB) (unhide HS3).size) (unhide HX3) rfl (by decide)).mono ?_
 rintro e W4 ⟨tr,rfl,h,bb⟩
 have h0:=h
 obtain⟨Fr,pr,rfl,-,-⟩:=h0
 have HT:=hide h
 have HS4:=hide ((unhide HS3).trans (bb.mono (unhide HS3).size))
 clear bb h HX3
 go_wp2_with fail
 refine hK.out _ _ (Or.inr (unhide HS4)) ?_
 clear hK K HS3
 try simp only [Act.put,List.setIfInBounds_toArray,List.set_cons_zero,List.set_cons_succ]
 refine till_one 7 (by kernel_rfl) rfl (fun K hK=>?_)
 go_simp
 refine hK.out _ _ (Or.inl (by first|rfl|trivial)) ?_
 clear hK K
 try simp only [Act.put,List.setIfInBounds_toArray,List.set_cons_zero,List.set_cons_succ]
 refine till_done (by kernel_rfl) ?_ _
 go_wp2_with fail
 go_ret
 refine⟨_,rfl,?_,?_⟩
 ·have h1:=unhide HT
  rw [←unhide HR]
  simpa [unhide HY] using h1
 ·have:=((unhide HM) _ ((unhide H4).trans ((unhide HS4).mono (unhide H4).size))).2.2.1
  first|exact this|(rw [hG];exact this)
set_option maxRecDepth 100000 in
set_option maxHeartbeats 4000000 in
theorem ch3b_any (B0:Nat) (d:Int) (TB:Tn→List UInt8) (T2:Tn→List UInt8) (v:Vl) (ks:List Tn) (vk vn p:Int) (t vs:ByteArray) (al ak:Option Addr) (ll cl lk ck n cc:Nat) (f:Bool) (b:Addr) (w:World) (hB:B0≤w.heap.size) (hr:RowN w B0 ks (some b) cc) (hn:ks.length=n) (hG0:0<B0) (hP:PowAt w) (hE0:∀y,ks[0]?=some y→ExC B0 y) (hd:0≤d∧d≤1000000) (hE1:∀y,ks[1]?=some y→BlC B0 (d+1) TB y) (hE2:∀y,ks[2]?=some y→BlC B0 (d+1) T2 y) (hk7:∀y,ks[2]?=some y→y.k≠7) (h1:1<n) (h2:n=3) :
  Calls Tryz.prog 131 #[.agg #[.int .i64 7,.string t,.int .i64 vk,.int .i64 vn,.string vs,.slice al ll cl,.slice ak lk ck,.bool f,.slice (some b) n cc,.int .i64 p],.int .i64 d] w fun e w'=>∃t',e=.returned t'∧Txt B0 w' t' (([105,102,32,40]:List UInt8)++(((exM ks)[0]?).getD []++(41 :: 32 :: ((ks[1]?).map TB).getD []))++(32 :: 101 :: 108 :: 115 :: 101 :: 32 :: ((ks[2]?).map T2).getD []))∧Below w.heap.size w w':=by
 obtain⟨w1,hw1⟩:∃w1,w.alloc (.cells #[.int .i64 7,.string t,.int .i64 vk,.int .i64 vn,.string vs,.slice al ll cl,.slice ak lk ck,.bool f,.slice (some b) n cc,.int .i64 p] 28)=w1:=⟨_,rfl⟩
 obtain⟨G,hG⟩:∃G,w.heap.size=G:=⟨_,rfl⟩
 have A1:w1.heap[G]?=some (.cells #[.int .i64 7,.string t,.int .i64 vk,.int .i64 vn,.string vs,.slice al ll cl,.slice ak lk ck,.bool f,.slice (some b) n cc,.int .i64 p] 28 (0,0)):=by rw [←hw1,←hG];exact heap_alloc_new _ _
 have X1:Below G w w1:=by rw [←hw1,←hG];exact(Below.refl _ _).alloc (Nat.le_refl _) _
 have hBG:B0≤G:=by rw [←hG];exact hB
 have HM:Hid (∀u,Below w1.heap.size w1 u→RowN u B0 ks (some b) cc∧PowAt u∧Below G w u∧B0≤u.heap.size):=hide (fun u h=>by
  have h2:=X1.trans (h.mono (Nat.le_of_lt (lt_of_row A1)))
  exact⟨hr.later (h2.mono hBG),hP.later h2 (by omega),h2,Nat.le_trans hBG (by rw [←hG];exact h2.size)⟩)
 have HF:Hid (∀u,Below w1.heap.size w1 u→u.cell? ⟨G,0,none⟩=some (.int .i64 7)∧u.cell? ⟨G,1,none⟩=some (.string t)∧u.cell? ⟨G,2,none⟩=some (.int .i64 vk)∧u.cell? ⟨G,3,none⟩=some (.int .i64 vn)∧u.cell? ⟨G,4,none⟩=some (.string vs)∧u.cell? ⟨G,5,none⟩=some (.slice al ll cl)∧u.cell? ⟨G,6,none⟩=some (.slice ak lk ck)∧u.cell? ⟨G,7,none⟩=some (.bool f)∧u.cell? ⟨G,8,none⟩=some (.slice (some b) n cc)∧u.cell? ⟨G,9,none⟩=some (.int .i64 p)):=hide (fun u hu=>row_ten (Below.cellsAt hu A1))
 have HB:=hide (show B0≤w1.heap.size from Nat.le_trans hBG (Nat.le_of_lt (lt_of_row A1)))
 have HN:=hide (And.intro hn hG0)
 obtain⟨R,hR⟩:∃R,([105,102,32,40]:List UInt8)++(((exM ks)[0]?).getD []++(41 :: 32 :: ((ks[1]?).map TB).getD []))++(32 :: 101 :: 108 :: 115 :: 101 :: 32 :: ((ks[2]?).map T2).getD [])=R:=⟨_,rfl⟩
 rw [hR]
 have HR:=hide hR
 have HW:=hide hw1
 have CW:=hide (guarded_any B0 ⟨#[105,102,32,40]⟩ d hd TB v ks 7 vk vn p t vs al ak ll cl lk ck n cc f b w1 (Nat.le_trans hBG (Nat.le_of_lt (lt_of_row A1))) (hr.later (X1.mono hBG)) hn hG0 (hP.later X1 (by omega)) hE0 hE1 h1)
 have hn3:¬(n:Int)<3:=by omega
 have hi2:(2:Int)<(n:Int):=by omega
 obtain⟨y,hy⟩:∃y,ks[2]?=some y:=⟨_,List.getElem?_eq_getElem (by omega)⟩
 have hEy:=hE2 y hy
 obtain⟨b',vky,vny,vsy,aly,aky,ay,lly,cly,lky,cky,ny,ccy,eb,hcy,hby,hny,hzy,hcelly⟩:=hr.ten hy
 obtain rfl:b=b':=Option.some.inj eb
 have hncc:n≤cc:=by rw [←hn];exact hcy
 have HY:=hide (show (ks[2]?).map T2=some (T2 y) by rw [hy];rfl)
 obtain⟨ky,hky⟩:∃z,y.k=z:=⟨_,rfl⟩
 obtain⟨ty,hty⟩:∃z,y.t=z:=⟨_,rfl⟩
 obtain⟨fy,hfy⟩:∃z,y.f=z:=⟨_,rfl⟩
 obtain⟨py,hpy⟩:∃z,y.p=z:=⟨_,rfl⟩
 rw [hky,hty,hfy,hpy] at hzy hcelly
 have hkb:(ky == 7)=false:=by rw [←hky];simpa using hk7 y hy
 have X0:∀u,Below w1.heap.size w1 u→Below G w u:=fun u h=>X1.trans (h.mono (Nat.le_of_lt (lt_of_row A1)))
 have HK:Hid (∀u,Below w1.heap.size w1 u→u.cell? ⟨b.block,b.off+20,none⟩=some (.int .i64 ky)∧u.cell? ⟨b.block,b.off+20+1,none⟩=some (.string ty)∧u.cell? ⟨b.block,b.off+20+2,none⟩=some (.int .i64 vky)∧u.cell? ⟨b.block,b.off+20+3,none⟩=some (.int .i64 vny)∧u.cell? ⟨b.block,b.off+20+4,none⟩=some (.string vsy)∧u.cell? ⟨b.block,b.off+20+5,none⟩=some (.slice aly lly cly)∧u.cell? ⟨b.block,b.off+20+6,none⟩=some (.slice aky lky cky)∧u.cell? ⟨b.block,b.off+20+7,none⟩=some (.bool fy)∧u.cell? ⟨b.block,b.off+20+8,none⟩=some (.slice ay ny ccy)∧u.cell? ⟨b.block,b.off+20+9,none⟩=some (.int .i64 py)):=hide (fun u h=>by
  have hc:∀j v,([.int .i64 ky,.string ty,.int .i64 vky,.int .i64 vny,.string vsy,.slice aly lly cly,.slice aky lky cky,.bool fy,.slice ay ny ccy,.int .i64 py]:List Value)[j]?=some v→u.cell? ((b.add (2 * 10)).add j)=some v:=fun j v hj=>(World.cell?_of_block ((X0 u h).block _ (by rw [block_add,block_add];omega))).trans (hcelly j v hj)
  exact⟨hc 0 _ rfl,hc 1 _ rfl,hc 2 _ rfl,hc 3 _ rfl,hc 4 _ rfl,hc 5 _ rfl,hc 6 _ rfl,hc 7 _ rfl,hc 8 _ rfl,hc 9 _ rfl⟩)
 obtain⟨Z,hZ⟩:∃Z,T2 y=Z:=⟨_,rfl⟩
 rw [hZ] at HY
 have CE:Hid (∀u,Below w1.heap.size w1 u→Calls Tryz.prog 69 #[.agg #[.int .i64 ky,.string ty,.int .i64 vky,.int .i64 vny,.string vsy,.slice aly lly cly,.slice aky lky cky,.bool fy,.slice ay ny ccy,.int .i64 py],.int .i64 (d+1)] u fun e u'=>∃t,e=.returned t∧Txt B0 u' t Z∧Below u.heap.size u u'):=hide (fun u h=>by rw [←hZ];exact hEy _ u (Nat.le_trans hBG (by rw [←hG];exact(X0 u h).size)) hG0 (hP.later (X0 u h) (by omega)) (hzy.laterB ((X0 u h).mono hBG)))
 clear hEy hzy hcelly hy hny hcy hby hky hty hfy hpy hZ X0 eb
 have hm1:=hide (show IntKind.i64.wrap (d+1)=d+1 by rw [IntKind.wrap_i64];omega)
 clear hE0 h1 hE1 hd h2 hE2 hk7
 clear A1 X1 hw1 hBG hB hr hn hG0 hP hR
 go_enter Tryz.func131,Tryz.ntmps131
 go_upto_region 1 with fail
 rw [unhide HW]
 try rw [hG]
 clear HW
 obtain⟨x0,x1,x2,x3,x4,x5,x6,x7,x8,x9⟩:=unhide HF w1 (Below.refl _ _)
 go_wp2_with fail
 refine(unhide CW).mono ?_
 rintro e w3 ⟨t3,rfl,h3,b3⟩
 have H3:=hide (And.intro h3 b3)
 obtain⟨F1,p1,rfl,-,-⟩:=h3
 clear b3 CW x0 x1 x2 x3 x4 x5 x6 x7 x8 x9
 obtain⟨x0,x1,x2,x3,x4,x5,x6,x7,x8,x9⟩:=unhide HF w3 (unhide H3).2
 obtain⟨z0,z1,z2,z3,z4,z5,z6,z7,z8,z9⟩:=unhide HK w3 (unhide H3).2
 go_upto_region 7 with fail
 obtain⟨w4,hw4⟩:∃w4,w3.alloc (.cells #[.int .i64 ky,.string ty,.int .i64 vky,.int .i64 vny,.string vsy,.slice aly lly cly,.slice aky lky cky,.bool fy,.slice ay ny ccy,.int .i64 py] 28)=w4:=⟨_,rfl⟩
 try rw [hw4]
 obtain⟨q4,hq4⟩:∃q,w3.heap.size=q:=⟨_,rfl⟩
 try rw [hq4]
 have at4:w4.heap[q4]?=some (.cells #[.int .i64 ky,.string ty,.int .i64 vky,.int .i64 vny,.string vsy,.slice aly lly cly,.slice aky lky cky,.bool fy,.slice ay ny ccy,.int .i64 py] 28 (0,0)):=by rw [←hw4,←hq4];exact heap_alloc_new _ _
 have b34:Below w3.heap.size w3 w4:=by rw [←hw4];exact(Below.refl _ _).alloc (Nat.le_refl _) _
 have H34:=hide b34
 have H4:=hide ((unhide H3).2.trans (b34.mono (unhide H3).2.size))
 have HB3:=hide (show B0≤w3.heap.size from Nat.le_trans (unhide HB) (unhide H3).2.size)
 have HBB:=hide (show B0≤w4.heap.size from Nat.le_trans (unhide HB) (unhide H4).size)
 have HQ:Hid (∀u,Below w4.heap.size w4 u→u.cell? ⟨q4,0,none⟩=some (.int .i64 ky)∧u.cell? ⟨q4,1,none⟩=some (.string ty)∧u.cell? ⟨q4,2,none⟩=some (.int .i64 vky)∧u.cell? ⟨q4,3,none⟩=some (.int .i64 vny)∧u.cell? ⟨q4,4,none⟩=some (.string vsy)∧u.cell? ⟨q4,5,none⟩=some (.slice aly lly cly)∧u.cell? ⟨q4,6,none⟩=some (.slice aky lky cky)∧u.cell? ⟨q4,7,none⟩=some (.bool fy)∧u.cell? ⟨q4,8,none⟩=some (.slice ay ny ccy)∧u.cell? ⟨q4,9,none⟩=some (.int .i64 py)):=hide (fun u hu=>row_ten (Below.cellsAt hu at4))
 clear at4 b34 hw4 hq4 x0 x1 x2 x3 x4 x5 x6 x7 x8 x9 z0 z1 z2 z3 z4 z5 z6 z7 z8 z9
 have HS0:Hid (Below w4.heap.size w4 w4.drew):=hide ((Below.refl _ _).drew)
 refine till_begin (S:=fun w'=>Below w4.heap.size w4 w') 8 (by kernel_rfl) ?_
 obtain⟨W0,hW0⟩:∃W0,w4.drew=W0:=⟨_,rfl⟩
 try rw [hW0]
 rw [hW0] at HS0
 clear hW0
 have HT1_0:=hide ((unhide H3).1.later (Kp.below ((unhide H34).trans ((unhide HS0).mono (unhide H34).size)) (unhide HB3)))
 refine till_take 0 (v:=.func (.func F1) #[] p1) (some 29) rfl rfl rfl (by kernel_rfl) (by kernel_rfl) (by kernel_rfl) (by kernel_rfl) (fun _ _ _ h=>h) (Or.inl ⟨by rfl,fun u hu=>by obtain⟨x0,x1,x2,x3,x4,x5,x6,x7,x8,x9⟩:=unhide HF u ((unhide H4).trans (hu.mono (unhide H4).size));obtain⟨z0,z1,z2,z3,z4,z5,z6,z7,z8,z9⟩:=unhide HQ u hu;go_simp⟩) (unhide HS0) ?_
 try simp only [Act.put,List.setIfInBounds_toArray,List.set_cons_zero,List.set_cons_succ]
 refine till_take 2 (v:=.agg #[.int .i64 ky,.string ty,.int .i64 vky,.int .i64 vny,.string vsy,.slice aly lly cly,.slice aky lky cky,.bool fy,.slice ay ny ccy,.int .i64 py]) (some 31) rfl rfl rfl (by kernel_rfl) (by kernel_rfl) (by kernel_rfl) (by kernel_rfl) (fun _ _ _ h=>h) (Or.inl ⟨by rfl,fun u hu=>by obtain⟨x0,x1,x2,x3,x4,x5,x6,x7,x8,x9⟩:=unhide HF u ((unhide H4).trans (hu.mono (unhide H4).size));obtain⟨z0,z1,z2,z3,z4,z5,z6,z7,z8,z9⟩:=unhide HQ u hu;go_simp⟩) (unhide HS0) ?_
 try simp only [Act.put,List.setIfInBounds_toArray,List.set_cons_zero,List.set_cons_succ]
 refine till_take 3 (v:=.int .i64 d) (some 32) rfl rfl rfl (by kernel_rfl) (by kernel_rfl) (by kernel_rfl) (by kernel_rfl) (fun _ _ _ h=>h) (Or.inl ⟨by rfl,fun u hu=>by obtain⟨x0,x1,x2,x3,x4,x5,x6,x7,x8,x9⟩:=unhide HF u ((unhide H4).trans (hu.mono (unhide H4).size));obtain⟨z0,z1,z2,z3,z4,z5,z6,z7,z8,z9⟩:=unhide HQ u hu;go_simp⟩) (unhide HS0) ?_
 try simp only [Act.put,List.setIfInBounds_toArray,List.set_cons_zero,List.set_cons_succ]
 refine till_take 4 (v:=.int .i64 (d+1)) (some 33) rfl rfl rfl (by kernel_rfl) (by kernel_rfl) (by kernel_rfl) (by kernel_rfl) (fun _ _ _ h=>h) (Or.inl ⟨by rfl,fun u hu=>by obtain⟨x0,x1,x2,x3,x4,x5,x6,x7,x8,x9⟩:=unhide HF u ((unhide H4).trans (hu.mono (unhide H4).size));obtain⟨z0,z1,z2,z3,z4,z5,z6,z7,z8,z9⟩:=unhide HQ u hu;have hm:=unhide hm1;go_simp⟩) (unhide HS0) ?_
 try simp only [Act.put,List.setIfInBounds_toArray,List.set_cons_zero,List.set_cons_succ]
 refine till_one 1 (by kernel_rfl) rfl (fun K hK=>?_)
 go_simp
 refine(txw_any B0 ⟨#[32,101,108,115,101,32]⟩ W0).mono ?_
 rintro e W1 ⟨t2,rfl,h,bb⟩
 have h0:=h
 obtain⟨F2,p2,rfl,-,-⟩:=h0
 have HT2_1:=hide h
 have HS1:=hide ((unhide HS0).trans (bb.mono (unhide HS0).size))
 have HT1_1:=hide ((unhide HT1_0).later (Kp.below bb (Nat.le_trans (unhide HBB) (unhide HS0).size)))
 clear bb h HT1_0
 go_wp2_with fail
 refine hK.out _ _ (Or.inr (unhide HS1)) ?_
 clear hK K HS0
 try simp only [Act.put,List.setIfInBounds_toArray,List.set_cons_zero,List.set_cons_succ]
 refine till_one 5 (by kernel_rfl) rfl (fun K hK=>?_)
 go_simp
 refine((unhide CE) W1 ((unhide H4).trans ((unhide HS1).mono (unhide H4).size))).mono ?_
 rintro e W2 ⟨t3,rfl,h,bb⟩
 have h0:=h
 obtain⟨F3,p3,rfl,-,-⟩:=h0
 have HT3_2:=hide h
 have HS2:=hide ((unhide HS1).trans (bb.mono (unhide HS1).size))
 have HT1_2:=hide ((unhide HT1_1).later (Kp.below bb (Nat.le_trans (unhide HBB) (unhide HS1).size)))
 have HT2_2:=hide ((unhide HT2_1).later (Kp.below bb (Nat.le_trans (unhide HBB) (unhide HS1).size)))
 clear bb h HT1_1 HT2_1
 go_wp2_with fail
 refine hK.out _ _ (Or.inr (unhide HS2)) ?_
 clear hK K HS1
 try simp only [Act.put,List.setIfInBounds_toArray,List.set_cons_zero,List.set_cons_succ]
 obtain⟨W3,hW3⟩:∃W,W2.alloc (.cells #[.func (.func F1) #[] p1,.func (.func F2) #[] p2,.func (.func F3) #[] p3] 39)=W:=⟨_,rfl⟩
 obtain⟨q,hq⟩:∃q,W2.heap.size=q:=⟨_,rfl⟩
 have bb:Below W2.heap.size W2 W3:=by rw [←hW3];exact(Below.refl _ _).alloc (Nat.le_refl _) _
 have HX3:=hide (show Txs B0 W3 q _ from txs3 (by rw [←hW3,←hq];exact heap_alloc_new _ _) ((unhide HT1_2).later (Kp.below bb (Nat.le_trans (unhide HBB) (unhide HS2).size))) ((unhide HT2_2).later (Kp.below bb (Nat.le_trans (unhide HBB) (unhide HS2).size))) ((unhide HT3_2).later (Kp.below bb (Nat.le_trans (unhide HBB) (unhide HS2).size))))
 have HS3:=hide ((unhide HS2).trans (bb.mono (unhide HS2).size))
 clear bb HT1_2 HT2_2 HT3_2
 refine till_one 6 (by kernel_rfl) rfl (fun K hK=>?_)
 go_simp
 try rw [hW3]
 try rw [hq]
 refine hK.out _ _ (Or.inr (unhide HS3)) ?_
 clear hK K HS2 hW3 hq
 try simp only [Act.put,List.setIfInBounds_toArray,List.set_cons_zero,List.set_cons_succ]
 refine till_one 7 (by kernel_rfl) rfl (fun K hK=>?_)
 go_simp
 refine(row_any B0 q 3 3 _ W3 (Nat.le_trans (unhide HBB) (unhide HS3).size) (unhide HX3) rfl (by decide)).mono ?_
 rintro e W4 ⟨tr,rfl,h,bb⟩
 have h0:=h
 obtain⟨Fr,pr,rfl,-,-⟩:=h0
 have HT:=hide h
 have HS4:=hide ((unhide HS3).trans (bb.mono (unhide HS3).size))
 clear bb h HX3
 go_wp2_with fail
 refine hK.out _ _ (Or.inr (unhide HS4)) ?_
 clear hK K HS3
 try simp only [Act.put,List.setIfInBounds_toArray,List.set_cons_zero,List.set_cons_succ]
 refine till_one 8 (by kernel_rfl) rfl (fun K hK=>?_)
 go_simp
 refine hK.out _ _ (Or.inl (by first|rfl|trivial)) ?_
 clear hK K
 try simp only [Act.put,List.setIfInBounds_toArray,List.set_cons_zero,List.set_cons_succ]
 refine till_done (by kernel_rfl) ?_ _
 go_wp2_with fail
 go_ret
 refine⟨_,rfl,?_,?_⟩
 ·have h1:=unhide HT
  rw [←unhide HR]
  simpa [unhide HY] using h1
 ·have:=((unhide HM) _ ((unhide H4).trans ((unhide HS4).mono (unhide H4).size))).2.2.1
  first|exact this|(rw [hG];exact this)
end Go.Proofs.YtekbmfppfjlboaaGreatDoor
