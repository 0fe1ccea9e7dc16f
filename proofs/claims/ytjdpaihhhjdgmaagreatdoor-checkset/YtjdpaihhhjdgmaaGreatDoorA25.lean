/-
  Layer 19 (check): Program; conditions: the nodes lie in memory; the table of operations as the program's text lays it.
-/
import Derived.Test.YtjdpaihhhjdgmaaGreatDoorA19
import Derived.Test.YtjdpaihhhjdgmaaGreatDoorA24
set_option linter.unusedVariables false
set_option linter.unusedSimpArgs false
set_option maxRecDepth 100000
set_option maxHeartbeats 8000000
namespace Go.Proofs.YtjdpaihhhjdgmaaGreatDoor
open Go.RowKit
set_option linter.unusedVariables false
set_option linter.unusedSimpArgs false
def prgC (d:Nat) (y:Tn):Ft:=if (decide (y.k=1) && rgB y)=true then (if (heaL (fun _=>none) y.ks).1.2=0 then bodL (heaL (fun _=>none) y.ks).2 d y.ks else (heaL (fun _=>none) y.ks).1) else (0,190)
theorem nms_two {u:World} {z zn G:Nat} {g:List UInt8→Option Int} {c:Array Value} {T:TypeId} (hz:Nms u z zn g) (hr:u.heap[G]?=some (.cells c T (0,0))) (x y:Value):Nms ((u.setCell ⟨G,0,none⟩ x).setCell ⟨G,1,none⟩ y) z zn g:=nms_fin hz hr x y
theorem prog_any {k vk vn p:Int} {t vs:ByteArray} {al ak a:Option Addr} {ll cl lk ck m cc:Nat} {f:Bool} {w:World} {B0 d:Nat} {y:Tn} (hT:Tab w) (hB:B0≤w.heap.size) (hx:IsN w (fun b=>b<B0) y [.int .i64 k,.string t,.int .i64 vk,.int .i64 vn,.string vs,.slice al ll cl,.slice ak lk ck,.bool f,.slice a m cc,.int .i64 p]) (hr:RowN w B0 y.ks a cc) (hn:y.ks.length=m) (hd:d≤1099511627776) (hok:(decide (y.k=1) && rgB y)=true→y.ks.length<1099511627776∧∀z∈y.ks,FnOk d z) :
  Calls Tryz.prog 7 #[.agg #[.int .i64 k,.string t,.int .i64 vk,.int .i64 vn,.string vs,.slice al ll cl,.slice ak lk ck,.bool f,.slice a m cc,.int .i64 p]] w fun e w'=>e=.returned (.tuple #[.int .i64 (prgC d y).1,.int .i64 (prgC d y).2])∧Below w.heap.size w w':=by
 obtain⟨G,hG⟩:=eX (w.heap.size)
 obtain⟨w2,hw2⟩:=eX (w.alloc (.cells #[.int .i64 k,.string t,.int .i64 vk,.int .i64 vn,.string vs,.slice al ll cl,.slice ak lk ck,.bool f,.slice a m cc,.int .i64 p] 28))
 have nG:w2.heap[G]?=some (.cells #[.int .i64 k,.string t,.int .i64 vk,.int .i64 vn,.string vs,.slice al ll cl,.slice ak lk ck,.bool f,.slice a m cc,.int .i64 p] 28 (0,0)):=alN hw2 hG
 have bG:=alB hw2
 have HBW:=hZ hB
 have HTw:=hZ hT
 have HRw:=hZ hr
 have HXx:=hZ (Below.refl w.heap.size w)
 have CR:=hZ (Right_any B0 y _ w2 (Nat.le_trans hB bG.size) (IsN.to (fun b hl=>bG.block b (Nat.lt_of_lt_of_le hl hB)) (fun _ h=>h) hx))
 obtain⟨ok,hokk⟩:=eX ((decide (y.k=1) && rgB y))
 rw [hokk] at CR hok
 obtain⟨R,hR⟩:=eX (prgC d y)
 rw [hR]
 unfold prgC at hR
 rw [hokk] at hR
 have HRR:=hZ hR
 have HOK:=hZ hok
 have HRW:=hZ (hr.later (bG.mono hB))
 have HLEN:=hZ hn
 have HT:=hZ (hT.below bG)
 have HG:=hZ (And.intro hG (And.intro bG nG))
 obtain⟨m0,m1,m2,m3,m4,m5,m6,m7,m8,m9⟩:=ten_at nG
 have hmm:=@run_makeMap Tryz.prog
 go_enter Tryz.func7,Tryz.ntmps7
 go_upto_region 1 with fail
 try rw [hw2]
 try rw [hG]
 clear hw2 hG bG nG hT hx hr hn hok hokk hR
 cases ok with
 |false=>
  have hR1:R=(0,190):=by rw [←uZ HRR];rfl
  subst hR1
  go_wp2_with fail
  refine(uZ CR).mono ?_
  rintro e w3 ⟨rfl,b3⟩
  have HB:=hZ ((uZ HG).2.1.trans (b3.mono (uZ HG).2.1.size))
  clear b3 CR
  go_wp2_with fail
  go_ret2
  exact⟨rfl,uZ HB⟩
 |true=>
  have hRv:(if (heaL (fun _=>none) y.ks).1.2=0 then bodL (heaL (fun _=>none) y.ks).2 d y.ks else (heaL (fun _=>none) y.ks).1)=R:=uZ HRR
  have hokv:=uZ HOK rfl
  have hcl:m<1099511627776:=by rw [←uZ HLEN];exact hokv.1
  have hfn:=hokv.2
  have HFN:=hZ hfn
  have hyy:∀z∈y.ks,z.t.size≤maxLen∧z.ks.length<1099511627776:=fun z hz=>⟨Nat.le_trans (hfn z hz).1.1 (by unfold maxLen;omega),(hfn z hz).1.2⟩
  have HYY:=hZ (And.intro hyy hcl)
  clear hokv hcl hfn hyy HRR HOK
  obtain⟨⟨⟨f1,f2⟩,M⟩,hH⟩:∃H,heaL (fun _=>none) y.ks=H:=⟨_,rfl⟩
  rw [hH] at hRv
  dsimp only at hRv
  have HH:=hZ hH
  have HRV:=hZ hRv
  clear hH hRv
  go_wp2_with fail
  refine(uZ CR).mono ?_
  rintro e w3 ⟨rfl,b3⟩
  have nG3:=(b3.block _ (ltR (uZ HG).2.2)).trans (uZ HG).2.2
  have hb23:=(uZ HG).2.1.trans (b3.mono (uZ HG).2.1.size)
  obtain⟨tb,htb⟩:=eX (w3.heap.size)
  obtain⟨w4,hw4⟩:=eX (w3.alloc (.map #[] 0))
  have hN:Nms w4 tb 0 (fun _=>none):=by rw [←hw4,←htb];exact Nms.made w3
  have b4:=alB hw4
  have hb4:=hb23.trans (b4.mono hb23.size)
  have T4:=((uZ HT).below b3).below b4
  have htbG:0<tb:=by rw [←htb];exact((uZ HT).below b3).big
  have hwtb:w.heap.size≤tb:=by rw [←htb];exact hb23.size
  have hGtb:G<tb:=by rw [←htb];exact ltR nG3
  have HT4:=hZ T4
  have HN4:=hZ hN
  have HB4:=hZ hb4
  have HI4:=hZ (And.intro htbG (And.intro hwtb hGtb))
  have HG4:=hZ ((b4.block _ (ltR nG3)).trans nG3)
  have HRW4:=hZ ((uZ HRW).later ((b3.mono (Nat.le_trans (uZ HBW) (uZ HG).2.1.size)).trans (b4.mono (Nat.le_trans (uZ HBW) hb23.size))))
  clear CR nG3 hb23 T4 htbG hwtb hGtb hN hb4 b3 m0 m1 m2 m3 m4 m5 m6 m7 m8 m9
  go_upto_region 4 with fail
  try rw [htb]
  try rw [hw4]
  clear htb hw4 b4 hmm
  have HS0:Hid (w4.drew.heap[G]?=some (.cells #[.int .i64 k,.string t,.int .i64 vk,.int .i64 vn,.string vs,.slice al ll cl,.slice ak lk ck,.bool f,.slice a m cc,.int .i64 p] 28 (0,0))):=hZ (uZ HG4)
  have HX0:Hid (Below w4.heap.size w4 w4.drew):=hZ ((Below.refl _ _).drew)
  refine till_begin (S:=fun u=>u.heap[G]?=some (.cells #[.int .i64 k,.string t,.int .i64 vk,.int .i64 vn,.string vs,.slice al ll cl,.slice ak lk ck,.bool f,.slice a m cc,.int .i64 p] 28 (0,0))) 99 (by kernel_rfl) ?_
  obtain⟨W0,hW0⟩:=eX (w4.drew)
  try rw [hW0]
  rw [hW0] at HS0 HX0
  clear hW0
  refine till_takeN 0 (v:=.pointer (some ⟨G,8,none⟩)) (some 10) rfl rfl rfl (by kernel_rfl) (by kernel_rfl) (by kernel_rfl) (fun _ _ _ h=>h) (Or.inl ⟨by rfl,fun u hu=>by obtain⟨m0,m1,m2,m3,m4,m5,m6,m7,m8,m9⟩:=ten_at hu;go_simp⟩) (uZ HS0) ?_
  try simp only [Act.put,sA,sB,sC]
  refine till_takeN 1 (v:=.slice a m cc) (some 11) rfl rfl rfl (by kernel_rfl) (by kernel_rfl) (by kernel_rfl) (fun _ _ _ h=>h) (Or.inl ⟨by rfl,fun u hu=>by obtain⟨m0,m1,m2,m3,m4,m5,m6,m7,m8,m9⟩:=ten_at hu;go_simp⟩) (uZ HS0) ?_
  try simp only [Act.put,sA,sB,sC]
  refine till_takeN 2 (v:=.map (some tb)) (some 12) rfl rfl rfl (by kernel_rfl) (by kernel_rfl) (by kernel_rfl) (fun _ _ _ h=>h) (Or.inl ⟨by rfl,fun u hu=>by obtain⟨m0,m1,m2,m3,m4,m5,m6,m7,m8,m9⟩:=ten_at hu;go_simp⟩) (uZ HS0) ?_
  try simp only [Act.put,sA,sB,sC]
  have HSW0:=HS0
  have HXW0:=HX0
  clear HS0 HX0
  refine till_two 3 5 (by kernel_rfl) rfl rfl (fun K hK=>?_) (fun K hK=>?_)
  ·have C1:=hZ (headsF_any (w:=W0) (tb:=tb))
   go_simp
   refine(uZ C1).mono ?_
   rintro e W1 ⟨xm,rfl,hxm,hxc,bx1⟩
   have HSW1:Hid (W1.heap[G]?=some (.cells #[.int .i64 k,.string t,.int .i64 vk,.int .i64 vn,.string vs,.slice al ll cl,.slice ak lk ck,.bool f,.slice a m cc,.int .i64 p] 28 (0,0))):=hZ ((bx1.block _ (ltR (uZ HSW0))).trans (uZ HSW0))
   have HXW1:=hZ ((uZ HXW0).trans (bx1.mono (uZ HXW0).size))
   have HXCW1:=hZ hxc
   clear C1 bx1 hxm hxc
   go_wp2_with fail
   refine hK.out _ _ (Or.inr (uZ HSW1)) ?_
   clear hK K
   try simp only [Act.put,sA,sB,sC]
   refine till_two 4 5 (by kernel_rfl) rfl rfl (fun K hK=>?_) (fun K hK=>?_)
   ·have CF:=hZ (heads_first (tk:=fun _=>none) (tn:=0) ((uZ HT4).below (uZ HXW1)) ((uZ HN4).later ((uZ HXW1).block tb (uZ HN4).lt)) (uZ HXCW1) ((uZ HRW4).later ((uZ HXW1).mono (Nat.le_trans (uZ HBW) (uZ HB4).size))) (uZ HLEN) (Nat.le_trans (uZ HBW) (uZ HI4).2.1) (uZ HI4).1 (by have:=(uZ HYY).2;omega) (uZ HYY).1)
    rw [uZ HH] at CF
    go_simp
    refine(uZ CF).mono ?_
    rintro e W2 ⟨rfl,⟨tn1,hm1⟩,bk1⟩
    have kf:=keepF_map ((uZ HN4).later ((uZ HXW1).block tb (uZ HN4).lt)) bk1
    have HSW2:Hid (W2.heap[G]?=some (.cells #[.int .i64 k,.string t,.int .i64 vk,.int .i64 vn,.string vs,.slice al ll cl,.slice ak lk ck,.bool f,.slice a m cc,.int .i64 p] 28 (0,0))):=hZ (kf _ _ _ (by decide) (by decide) (by decide) (uZ HSW1))
    have HZW2:Hid (Below w.heap.size w W2):=hZ (((uZ HB4).trans ((uZ HXW1).mono (uZ HB4).size)).trans (bk1.low (fun k e=>by rw [e];exact(uZ HI4).2.1) (Nat.le_trans (uZ HB4).size (uZ HXW1).size)))
    have HMW2:=hZ hm1
    clear CF hm1 bk1 kf
    unfold fltV
    go_wp2_with fail
    refine hK.out _ _ (Or.inr (uZ HSW2)) ?_
    clear hK K
    try simp only [Act.put,sA,sB,sC]
    refine till_one 5 (by kernel_rfl) rfl (fun K hK=>?_)
    go_simp
    obtain⟨gx,hgx⟩:=eX (W2.heap.size)
    obtain⟨W3,hV⟩:=eX (W2.alloc (.cells #[.int .i64 0,.int .i64 0] 42))
    have HGXW3:Hid (W3.heap[gx]?=some (.cells #[.int .i64 0,.int .i64 0] 42 (0,0))):=hZ (by rw [←hV,←hgx];exact heap_alloc_new _ _)
    have bx:=alB hV
    have HSW3:Hid (W3.heap[G]?=some (.cells #[.int .i64 k,.string t,.int .i64 vk,.int .i64 vn,.string vs,.slice al ll cl,.slice ak lk ck,.bool f,.slice a m cc,.int .i64 p] 28 (0,0))):=hZ ((bx.block _ (ltR (uZ HSW2))).trans (uZ HSW2))
    have HZW3:=hZ ((uZ HZW2).trans (bx.mono (uZ HZW2).size))
    have HMW3:=hZ ((uZ HMW2).later (bx.block _ (uZ HMW2).lt))
    have HGB:Hid (w.heap.size≤gx∧G≠gx):=hZ ⟨by rw [←hgx];exact(uZ HZW2).size,by have h1:=ltR (uZ HSW2);omega⟩
    try rw [hV]
    try rw [hgx]
    refine hK.out _ _ (Or.inr (uZ HSW3)) ?_
    clear hK K hV hgx bx
    try simp only [Act.put,sA,sB,sC]
    obtain⟨k0,k1⟩:=two_at (uZ HGXW3)
    have y0:=frozen_of_row W3 gx 0 _ _ (uZ HGXW3)
    have y1:=frozen_of_row W3 gx 1 _ _ (uZ HGXW3)
    refine till_one 6 (by kernel_rfl) rfl (fun K hK=>?_)
    go_simp
    obtain⟨w7,hw7⟩:=eX (((W3.setCell ⟨gx,0,none⟩ (.int .i64 f1)).setCell ⟨gx,1,none⟩ (.int .i64 f2)))
    have HGX7:Hid (w7.heap[gx]?=some (.cells #[.int .i64 f1,.int .i64 f2] 42 (0,0))):=hZ (by rw [←hw7];exact put2 (uZ HGXW3) _ _)
    have HS7:Hid (w7.heap[G]?=some (.cells #[.int .i64 k,.string t,.int .i64 vk,.int .i64 vn,.string vs,.slice al ll cl,.slice ak lk ck,.bool f,.slice a m cc,.int .i64 p] 28 (0,0))):=hZ (by rw [←hw7,heap_setCell_other _ ⟨gx,1,none⟩ G _ (uZ HGB).2,heap_setCell_other _ ⟨gx,0,none⟩ G _ (uZ HGB).2];exact uZ HSW3)
    have HZ7:Hid (Below w.heap.size w w7):=hZ (by rw [←hw7];exact((uZ HZW3).setCell (p:=⟨gx,0,none⟩) (uZ HGB).1 _).setCell (p:=⟨gx,1,none⟩) (uZ HGB).1 _)
    have HM7:=hZ (show Nms w7 tb tn1 M by rw [←hw7];exact nms_two (uZ HMW3) (uZ HGXW3) _ _)
    try rw [hw7]
    refine hK.out _ _ (Or.inr (uZ HS7)) ?_
    clear hK K hw7 k0 k1 y0 y1
    try simp only [Act.put,sA,sB,sC]
    refine till_done (by kernel_rfl) ?_ _
    obtain⟨k0,k1⟩:=two_at (uZ HGX7)
    by_cases hf2:f2=0
    ·subst hf2
     have hRv:=uZ HRV
     rw [if_pos rfl] at hRv
     have HRW9:=hZ hRv
     clear hRv
     go_upto_region 6 with fail
     have HS0b:Hid (w7.drew.heap[G]?=some (.cells #[.int .i64 k,.string t,.int .i64 vk,.int .i64 vn,.string vs,.slice al ll cl,.slice ak lk ck,.bool f,.slice a m cc,.int .i64 p] 28 (0,0))):=hZ (uZ HS7)
     have HX0b:Hid (Below w7.heap.size w7 w7.drew):=hZ ((Below.refl _ _).drew)
     clear k0 k1
     refine till_begin (S:=fun u=>u.heap[G]?=some (.cells #[.int .i64 k,.string t,.int .i64 vk,.int .i64 vn,.string vs,.slice al ll cl,.slice ak lk ck,.bool f,.slice a m cc,.int .i64 p] 28 (0,0))) 99 (by kernel_rfl) ?_
     obtain⟨V0,hV0⟩:=eX (w7.drew)
     try rw [hV0]
     rw [hV0] at HS0b HX0b
     clear hV0
     refine till_takeN 0 (v:=.pointer (some ⟨G,8,none⟩)) (some 18) rfl rfl rfl (by kernel_rfl) (by kernel_rfl) (by kernel_rfl) (fun _ _ _ h=>h) (Or.inl ⟨by rfl,fun u hu=>by obtain⟨m0,m1,m2,m3,m4,m5,m6,m7,m8,m9⟩:=ten_at hu;go_simp⟩) (uZ HS0b) ?_
     try simp only [Act.put,sA,sB,sC]
     refine till_takeN 1 (v:=.slice a m cc) (some 19) rfl rfl rfl (by kernel_rfl) (by kernel_rfl) (by kernel_rfl) (fun _ _ _ h=>h) (Or.inl ⟨by rfl,fun u hu=>by obtain⟨m0,m1,m2,m3,m4,m5,m6,m7,m8,m9⟩:=ten_at hu;go_simp⟩) (uZ HS0b) ?_
     try simp only [Act.put,sA,sB,sC]
     refine till_takeN 2 (v:=.map (some tb)) (some 20) rfl rfl rfl (by kernel_rfl) (by kernel_rfl) (by kernel_rfl) (fun _ _ _ h=>h) (Or.inl ⟨by rfl,fun u hu=>by obtain⟨m0,m1,m2,m3,m4,m5,m6,m7,m8,m9⟩:=ten_at hu;go_simp⟩) (uZ HS0b) ?_
     try simp only [Act.put,sA,sB,sC]
     have C1:=hZ (bodiesF_any (w:=V0) (tb:=tb))
     refine till_one 3 (by kernel_rfl) rfl (fun K hK=>?_)
     go_simp
     refine(uZ C1).mono ?_
     rintro e V1 ⟨xb,rfl,hxm,hxc,bx1⟩
     have hX:=(uZ HX0b).trans (bx1.mono (uZ HX0b).size)
     have HX1:=hZ hX
     have HS1b:Hid (V1.heap[G]?=some (.cells #[.int .i64 k,.string t,.int .i64 vk,.int .i64 vn,.string vs,.slice al ll cl,.slice ak lk ck,.bool f,.slice a m cc,.int .i64 p] 28 (0,0))):=hZ ((bx1.block _ (ltR (uZ HS0b))).trans (uZ HS0b))
     have hZ1:=(uZ HZ7).trans (hX.mono (uZ HZ7).size)
     have HZ1:=hZ hZ1
     have CB:=hZ (bodies_first (d:=d) (tk:=M) (tb:=tb) (tn:=tn1) (B0:=B0) (a:=a) (cc:=cc) (m:=m) (ns:=y.ks) (xm:=xb) ((uZ HTw).below hZ1) ((uZ HM7).later (hX.block tb (uZ HM7).lt)) hxc ((uZ HRw).later (hZ1.mono (uZ HBW))) (uZ HLEN) (Nat.le_trans (uZ HBW) hZ1.size) hd (uZ HFN))
     rw [uZ HRW9] at CB
     clear C1 bx1 hxm hxc hX hZ1
     go_wp2_with fail
     refine hK.out _ _ (Or.inr (uZ HS1b)) ?_
     clear hK K
     try simp only [Act.put,sA,sB,sC]
     refine till_one 4 (by kernel_rfl) rfl (fun K hK=>?_)
     go_simp
     refine(uZ CB).mono ?_
     rintro e V2 ⟨rfl,b2⟩
     have HS2b:Hid (V2.heap[G]?=some (.cells #[.int .i64 k,.string t,.int .i64 vk,.int .i64 vn,.string vs,.slice al ll cl,.slice ak lk ck,.bool f,.slice a m cc,.int .i64 p] 28 (0,0))):=hZ ((b2.block _ (ltR (uZ HS1b))).trans (uZ HS1b))
     have gx2:=(b2.block gx (Nat.lt_of_lt_of_le (ltR (uZ HGX7)) (uZ HX1).size)).trans (((uZ HX1).block gx (ltR (uZ HGX7))).trans (uZ HGX7))
     have HZ2:=hZ ((uZ HZ1).trans (b2.mono (uZ HZ1).size))
     clear CB b2 HS1b HS0b HX0b HX1 HZ1
     obtain⟨g1,g2⟩:=R
     unfold fltV
     obtain⟨k0,k1⟩:=two_at gx2
     have y0:=frozen_of_row V2 gx 0 _ _ gx2
     have y1:=frozen_of_row V2 gx 1 _ _ gx2
     have HGX8:=hZ gx2
     clear gx2
     go_wp2_with fail
     refine hK.out _ _ (Or.inr (uZ HS2b)) ?_
     clear hK K
     try simp only [Act.put,sA,sB,sC]
     refine till_one 5 (by kernel_rfl) rfl (fun K hK=>?_)
     go_simp
     obtain⟨w9,hw9⟩:=eX (((V2.setCell ⟨gx,0,none⟩ (.int .i64 g1)).setCell ⟨gx,1,none⟩ (.int .i64 g2)))
     have HGX9:Hid (w9.heap[gx]?=some (.cells #[.int .i64 g1,.int .i64 g2] 42 (0,0))):=hZ (by rw [←hw9];exact put2 (uZ HGX8) _ _)
     have HS9:Hid (w9.heap[G]?=some (.cells #[.int .i64 k,.string t,.int .i64 vk,.int .i64 vn,.string vs,.slice al ll cl,.slice ak lk ck,.bool f,.slice a m cc,.int .i64 p] 28 (0,0))):=hZ (by rw [←hw9,heap_setCell_other _ ⟨gx,1,none⟩ G _ (uZ HGB).2,heap_setCell_other _ ⟨gx,0,none⟩ G _ (uZ HGB).2];exact uZ HS2b)
     have HZ9:Hid (Below w.heap.size w w9):=hZ (by rw [←hw9];exact((uZ HZ2).setCell (p:=⟨gx,0,none⟩) (uZ HGB).1 _).setCell (p:=⟨gx,1,none⟩) (uZ HGB).1 _)
     try rw [hw9]
     refine hK.out _ _ (Or.inr (uZ HS9)) ?_
     clear hK K hw9 k0 k1 y0 y1
     try simp only [Act.put,sA,sB,sC]
     refine till_done (by kernel_rfl) ?_ _
     obtain⟨k0,k1⟩:=two_at (uZ HGX9)
     go_upto_region 7 with fail
     go_quiet (fail)
     go_wp2_with fail
     go_ret2
     exact⟨rfl,bdrew (uZ HZ9) _⟩
    ·have hne:(f2 == 0)=false:=by simpa using hf2
     have hRv:=uZ HRV
     rw [if_neg hf2] at hRv
     subst hRv
     go_upto_region 7 with fail
     go_quiet (fail)
     go_wp2_with fail
     go_ret2
     exact⟨rfl,bdrew (uZ HZ7) _⟩
   ·go_simp
    obtain⟨gx,hgx⟩:=eX (W1.heap.size)
    obtain⟨W2,hV⟩:=eX (W1.alloc (.cells #[.int .i64 0,.int .i64 0] 42))
    have HGXW2:Hid (W2.heap[gx]?=some (.cells #[.int .i64 0,.int .i64 0] 42 (0,0))):=hZ (by rw [←hV,←hgx];exact heap_alloc_new _ _)
    have bx:=alB hV
    have HSW2:Hid (W2.heap[G]?=some (.cells #[.int .i64 k,.string t,.int .i64 vk,.int .i64 vn,.string vs,.slice al ll cl,.slice ak lk ck,.bool f,.slice a m cc,.int .i64 p] 28 (0,0))):=hZ ((bx.block _ (ltR (uZ HSW1))).trans (uZ HSW1))
    have HXW2:=hZ ((uZ HXW1).trans (bx.mono (uZ HXW1).size))
    have HGB:Hid (w.heap.size≤gx∧G≠gx):=hZ ⟨by rw [←hgx];exact Nat.le_trans (uZ HB4).size (uZ HXW1).size,by have h1:=ltR (uZ HSW1);omega⟩
    have HXCW2:=hZ ((bx.block _ (ltR (uZ HXCW1))).trans (uZ HXCW1))
    try rw [hV]
    try rw [hgx]
    refine hK.out _ _ (Or.inr (uZ HSW2)) ?_
    clear hK K hV hgx bx
    try simp only [Act.put,sA,sB,sC]
    refine till_one 4 (by kernel_rfl) rfl (fun K hK=>?_)
    have CF:=hZ (heads_first (tk:=fun _=>none) (tn:=0) ((uZ HT4).below (uZ HXW2)) ((uZ HN4).later ((uZ HXW2).block tb (uZ HN4).lt)) (uZ HXCW2) ((uZ HRW4).later ((uZ HXW2).mono (Nat.le_trans (uZ HBW) (uZ HB4).size))) (uZ HLEN) (Nat.le_trans (uZ HBW) (uZ HI4).2.1) (uZ HI4).1 (by have:=(uZ HYY).2;omega) (uZ HYY).1)
    rw [uZ HH] at CF
    go_simp
    refine(uZ CF).mono ?_
    rintro e W3 ⟨rfl,⟨tn1,hm1⟩,bk1⟩
    have kf:=keepF_map ((uZ HN4).later ((uZ HXW2).block tb (uZ HN4).lt)) bk1
    have HSW3:Hid (W3.heap[G]?=some (.cells #[.int .i64 k,.string t,.int .i64 vk,.int .i64 vn,.string vs,.slice al ll cl,.slice ak lk ck,.bool f,.slice a m cc,.int .i64 p] 28 (0,0))):=hZ (kf _ _ _ (by decide) (by decide) (by decide) (uZ HSW2))
    have HZW3:Hid (Below w.heap.size w W3):=hZ (((uZ HB4).trans ((uZ HXW2).mono (uZ HB4).size)).trans (bk1.low (fun k e=>by rw [e];exact(uZ HI4).2.1) (Nat.le_trans (uZ HB4).size (uZ HXW2).size)))
    have HMW3:=hZ hm1
    have HGXW3:=hZ (kf _ _ _ (by decide) (by decide) (by decide) (uZ HGXW2))
    clear CF hm1 bk1 kf
    unfold fltV
    go_wp2_with fail
    refine hK.out _ _ (Or.inr (uZ HSW3)) ?_
    clear hK K
    try simp only [Act.put,sA,sB,sC]
    obtain⟨k0,k1⟩:=two_at (uZ HGXW3)
    have y0:=frozen_of_row W3 gx 0 _ _ (uZ HGXW3)
    have y1:=frozen_of_row W3 gx 1 _ _ (uZ HGXW3)
    refine till_one 6 (by kernel_rfl) rfl (fun K hK=>?_)
    go_simp
    obtain⟨w7,hw7⟩:=eX (((W3.setCell ⟨gx,0,none⟩ (.int .i64 f1)).setCell ⟨gx,1,none⟩ (.int .i64 f2)))
    have HGX7:Hid (w7.heap[gx]?=some (.cells #[.int .i64 f1,.int .i64 f2] 42 (0,0))):=hZ (by rw [←hw7];exact put2 (uZ HGXW3) _ _)
    have HS7:Hid (w7.heap[G]?=some (.cells #[.int .i64 k,.string t,.int .i64 vk,.int .i64 vn,.string vs,.slice al ll cl,.slice ak lk ck,.bool f,.slice a m cc,.int .i64 p] 28 (0,0))):=hZ (by rw [←hw7,heap_setCell_other _ ⟨gx,1,none⟩ G _ (uZ HGB).2,heap_setCell_other _ ⟨gx,0,none⟩ G _ (uZ HGB).2];exact uZ HSW3)
    have HZ7:Hid (Below w.heap.size w w7):=hZ (by rw [←hw7];exact((uZ HZW3).setCell (p:=⟨gx,0,none⟩) (uZ HGB).1 _).setCell (p:=⟨gx,1,none⟩) (uZ HGB).1 _)
    have HM7:=hZ (show Nms w7 tb tn1 M by rw [←hw7];exact nms_two (uZ HMW3) (uZ HGXW3) _ _)
    try rw [hw7]
    refine hK.out _ _ (Or.inr (uZ HS7)) ?_
    clear hK K hw7 k0 k1 y0 y1
    try simp only [Act.put,sA,sB,sC]
    refine till_done (by kernel_rfl) ?_ _
    obtain⟨k0,k1⟩:=two_at (uZ HGX7)
    by_cases hf2:f2=0
    ·subst hf2
     have hRv:=uZ HRV
     rw [if_pos rfl] at hRv
     have HRW9:=hZ hRv
     clear hRv
     go_upto_region 6 with fail
     have HS0b:Hid (w7.drew.heap[G]?=some (.cells #[.int .i64 k,.string t,.int .i64 vk,.int .i64 vn,.string vs,.slice al ll cl,.slice ak lk ck,.bool f,.slice a m cc,.int .i64 p] 28 (0,0))):=hZ (uZ HS7)
     have HX0b:Hid (Below w7.heap.size w7 w7.drew):=hZ ((Below.refl _ _).drew)
     clear k0 k1
     refine till_begin (S:=fun u=>u.heap[G]?=some (.cells #[.int .i64 k,.string t,.int .i64 vk,.int .i64 vn,.string vs,.slice al ll cl,.slice ak lk ck,.bool f,.slice a m cc,.int .i64 p] 28 (0,0))) 99 (by kernel_rfl) ?_
     obtain⟨V0,hV0⟩:=eX (w7.drew)
     try rw [hV0]
     rw [hV0] at HS0b HX0b
     clear hV0
     refine till_takeN 0 (v:=.pointer (some ⟨G,8,none⟩)) (some 18) rfl rfl rfl (by kernel_rfl) (by kernel_rfl) (by kernel_rfl) (fun _ _ _ h=>h) (Or.inl ⟨by rfl,fun u hu=>by obtain⟨m0,m1,m2,m3,m4,m5,m6,m7,m8,m9⟩:=ten_at hu;go_simp⟩) (uZ HS0b) ?_
     try simp only [Act.put,sA,sB,sC]
     refine till_takeN 1 (v:=.slice a m cc) (some 19) rfl rfl rfl (by kernel_rfl) (by kernel_rfl) (by kernel_rfl) (fun _ _ _ h=>h) (Or.inl ⟨by rfl,fun u hu=>by obtain⟨m0,m1,m2,m3,m4,m5,m6,m7,m8,m9⟩:=ten_at hu;go_simp⟩) (uZ HS0b) ?_
     try simp only [Act.put,sA,sB,sC]
     refine till_takeN 2 (v:=.map (some tb)) (some 20) rfl rfl rfl (by kernel_rfl) (by kernel_rfl) (by kernel_rfl) (fun _ _ _ h=>h) (Or.inl ⟨by rfl,fun u hu=>by obtain⟨m0,m1,m2,m3,m4,m5,m6,m7,m8,m9⟩:=ten_at hu;go_simp⟩) (uZ HS0b) ?_
     try simp only [Act.put,sA,sB,sC]
     have C1:=hZ (bodiesF_any (w:=V0) (tb:=tb))
     refine till_one 3 (by kernel_rfl) rfl (fun K hK=>?_)
     go_simp
     refine(uZ C1).mono ?_
     rintro e V1 ⟨xb,rfl,hxm,hxc,bx1⟩
     have hX:=(uZ HX0b).trans (bx1.mono (uZ HX0b).size)
     have HX1:=hZ hX
     have HS1b:Hid (V1.heap[G]?=some (.cells #[.int .i64 k,.string t,.int .i64 vk,.int .i64 vn,.string vs,.slice al ll cl,.slice ak lk ck,.bool f,.slice a m cc,.int .i64 p] 28 (0,0))):=hZ ((bx1.block _ (ltR (uZ HS0b))).trans (uZ HS0b))
     have hZ1:=(uZ HZ7).trans (hX.mono (uZ HZ7).size)
     have HZ1:=hZ hZ1
     have CB:=hZ (bodies_first (d:=d) (tk:=M) (tb:=tb) (tn:=tn1) (B0:=B0) (a:=a) (cc:=cc) (m:=m) (ns:=y.ks) (xm:=xb) ((uZ HTw).below hZ1) ((uZ HM7).later (hX.block tb (uZ HM7).lt)) hxc ((uZ HRw).later (hZ1.mono (uZ HBW))) (uZ HLEN) (Nat.le_trans (uZ HBW) hZ1.size) hd (uZ HFN))
     rw [uZ HRW9] at CB
     clear C1 bx1 hxm hxc hX hZ1
     go_wp2_with fail
     refine hK.out _ _ (Or.inr (uZ HS1b)) ?_
     clear hK K
     try simp only [Act.put,sA,sB,sC]
     refine till_one 4 (by kernel_rfl) rfl (fun K hK=>?_)
     go_simp
     refine(uZ CB).mono ?_
     rintro e V2 ⟨rfl,b2⟩
     have HS2b:Hid (V2.heap[G]?=some (.cells #[.int .i64 k,.string t,.int .i64 vk,.int .i64 vn,.string vs,.slice al ll cl,.slice ak lk ck,.bool f,.slice a m cc,.int .i64 p] 28 (0,0))):=hZ ((b2.block _ (ltR (uZ HS1b))).trans (uZ HS1b))
     have gx2:=(b2.block gx (Nat.lt_of_lt_of_le (ltR (uZ HGX7)) (uZ HX1).size)).trans (((uZ HX1).block gx (ltR (uZ HGX7))).trans (uZ HGX7))
     have HZ2:=hZ ((uZ HZ1).trans (b2.mono (uZ HZ1).size))
     clear CB b2 HS1b HS0b HX0b HX1 HZ1
     obtain⟨g1,g2⟩:=R
     unfold fltV
     obtain⟨k0,k1⟩:=two_at gx2
     have y0:=frozen_of_row V2 gx 0 _ _ gx2
     have y1:=frozen_of_row V2 gx 1 _ _ gx2
     have HGX8:=hZ gx2
     clear gx2
     go_wp2_with fail
     refine hK.out _ _ (Or.inr (uZ HS2b)) ?_
     clear hK K
     try simp only [Act.put,sA,sB,sC]
     refine till_one 5 (by kernel_rfl) rfl (fun K hK=>?_)
     go_simp
     obtain⟨w9,hw9⟩:=eX (((V2.setCell ⟨gx,0,none⟩ (.int .i64 g1)).setCell ⟨gx,1,none⟩ (.int .i64 g2)))
     have HGX9:Hid (w9.heap[gx]?=some (.cells #[.int .i64 g1,.int .i64 g2] 42 (0,0))):=hZ (by rw [←hw9];exact put2 (uZ HGX8) _ _)
     have HS9:Hid (w9.heap[G]?=some (.cells #[.int .i64 k,.string t,.int .i64 vk,.int .i64 vn,.string vs,.slice al ll cl,.slice ak lk ck,.bool f,.slice a m cc,.int .i64 p] 28 (0,0))):=hZ (by rw [←hw9,heap_setCell_other _ ⟨gx,1,none⟩ G _ (uZ HGB).2,heap_setCell_other _ ⟨gx,0,none⟩ G _ (uZ HGB).2];exact uZ HS2b)
     have HZ9:Hid (Below w.heap.size w w9):=hZ (by rw [←hw9];exact((uZ HZ2).setCell (p:=⟨gx,0,none⟩) (uZ HGB).1 _).setCell (p:=⟨gx,1,none⟩) (uZ HGB).1 _)
     try rw [hw9]
     refine hK.out _ _ (Or.inr (uZ HS9)) ?_
     clear hK K hw9 k0 k1 y0 y1
     try simp only [Act.put,sA,sB,sC]
     refine till_done (by kernel_rfl) ?_ _
     obtain⟨k0,k1⟩:=two_at (uZ HGX9)
     go_upto_region 7 with fail
     go_quiet (fail)
     go_wp2_with fail
     go_ret2
     exact⟨rfl,bdrew (uZ HZ9) _⟩
    ·have hne:(f2 == 0)=false:=by simpa using hf2
     have hRv:=uZ HRV
     rw [if_neg hf2] at hRv
     subst hRv
     go_upto_region 7 with fail
     go_quiet (fail)
     go_wp2_with fail
     go_ret2
     exact⟨rfl,bdrew (uZ HZ7) _⟩
  ·go_simp
   obtain⟨gx,hgx⟩:=eX (W0.heap.size)
   obtain⟨W1,hV⟩:=eX (W0.alloc (.cells #[.int .i64 0,.int .i64 0] 42))
   have HGXW1:Hid (W1.heap[gx]?=some (.cells #[.int .i64 0,.int .i64 0] 42 (0,0))):=hZ (by rw [←hV,←hgx];exact heap_alloc_new _ _)
   have bx:=alB hV
   have HSW1:Hid (W1.heap[G]?=some (.cells #[.int .i64 k,.string t,.int .i64 vk,.int .i64 vn,.string vs,.slice al ll cl,.slice ak lk ck,.bool f,.slice a m cc,.int .i64 p] 28 (0,0))):=hZ ((bx.block _ (ltR (uZ HSW0))).trans (uZ HSW0))
   have HXW1:=hZ ((uZ HXW0).trans (bx.mono (uZ HXW0).size))
   have HGB:Hid (w.heap.size≤gx∧G≠gx):=hZ ⟨by rw [←hgx];exact Nat.le_trans (uZ HB4).size (uZ HXW0).size,by have h1:=ltR (uZ HSW0);omega⟩
   try rw [hV]
   try rw [hgx]
   refine hK.out _ _ (Or.inr (uZ HSW1)) ?_
   clear hK K hV hgx bx
   try simp only [Act.put,sA,sB,sC]
   refine till_one 3 (by kernel_rfl) rfl (fun K hK=>?_)
   have C1:=hZ (headsF_any (w:=W1) (tb:=tb))
   go_simp
   refine(uZ C1).mono ?_
   rintro e W2 ⟨xm,rfl,hxm,hxc,bx1⟩
   have HSW2:Hid (W2.heap[G]?=some (.cells #[.int .i64 k,.string t,.int .i64 vk,.int .i64 vn,.string vs,.slice al ll cl,.slice ak lk ck,.bool f,.slice a m cc,.int .i64 p] 28 (0,0))):=hZ ((bx1.block _ (ltR (uZ HSW1))).trans (uZ HSW1))
   have HXW2:=hZ ((uZ HXW1).trans (bx1.mono (uZ HXW1).size))
   have HXCW2:=hZ hxc
   have HGXW2:=hZ ((bx1.block _ (ltR (uZ HGXW1))).trans (uZ HGXW1))
   clear C1 bx1 hxm hxc
   go_wp2_with fail
   refine hK.out _ _ (Or.inr (uZ HSW2)) ?_
   clear hK K
   try simp only [Act.put,sA,sB,sC]
   refine till_one 4 (by kernel_rfl) rfl (fun K hK=>?_)
   have CF:=hZ (heads_first (tk:=fun _=>none) (tn:=0) ((uZ HT4).below (uZ HXW2)) ((uZ HN4).later ((uZ HXW2).block tb (uZ HN4).lt)) (uZ HXCW2) ((uZ HRW4).later ((uZ HXW2).mono (Nat.le_trans (uZ HBW) (uZ HB4).size))) (uZ HLEN) (Nat.le_trans (uZ HBW) (uZ HI4).2.1) (uZ HI4).1 (by have:=(uZ HYY).2;omega) (uZ HYY).1)
   rw [uZ HH] at CF
   go_simp
   refine(uZ CF).mono ?_
   rintro e W3 ⟨rfl,⟨tn1,hm1⟩,bk1⟩
   have kf:=keepF_map ((uZ HN4).later ((uZ HXW2).block tb (uZ HN4).lt)) bk1
   have HSW3:Hid (W3.heap[G]?=some (.cells #[.int .i64 k,.string t,.int .i64 vk,.int .i64 vn,.string vs,.slice al ll cl,.slice ak lk ck,.bool f,.slice a m cc,.int .i64 p] 28 (0,0))):=hZ (kf _ _ _ (by decide) (by decide) (by decide) (uZ HSW2))
   have HZW3:Hid (Below w.heap.size w W3):=hZ (((uZ HB4).trans ((uZ HXW2).mono (uZ HB4).size)).trans (bk1.low (fun k e=>by rw [e];exact(uZ HI4).2.1) (Nat.le_trans (uZ HB4).size (uZ HXW2).size)))
   have HMW3:=hZ hm1
   have HGXW3:=hZ (kf _ _ _ (by decide) (by decide) (by decide) (uZ HGXW2))
   clear CF hm1 bk1 kf
   unfold fltV
   go_wp2_with fail
   refine hK.out _ _ (Or.inr (uZ HSW3)) ?_
   clear hK K
   try simp only [Act.put,sA,sB,sC]
   obtain⟨k0,k1⟩:=two_at (uZ HGXW3)
   have y0:=frozen_of_row W3 gx 0 _ _ (uZ HGXW3)
   have y1:=frozen_of_row W3 gx 1 _ _ (uZ HGXW3)
   refine till_one 6 (by kernel_rfl) rfl (fun K hK=>?_)
   go_simp
   obtain⟨w7,hw7⟩:=eX (((W3.setCell ⟨gx,0,none⟩ (.int .i64 f1)).setCell ⟨gx,1,none⟩ (.int .i64 f2)))
   have HGX7:Hid (w7.heap[gx]?=some (.cells #[.int .i64 f1,.int .i64 f2] 42 (0,0))):=hZ (by rw [←hw7];exact put2 (uZ HGXW3) _ _)
   have HS7:Hid (w7.heap[G]?=some (.cells #[.int .i64 k,.string t,.int .i64 vk,.int .i64 vn,.string vs,.slice al ll cl,.slice ak lk ck,.bool f,.slice a m cc,.int .i64 p] 28 (0,0))):=hZ (by rw [←hw7,heap_setCell_other _ ⟨gx,1,none⟩ G _ (uZ HGB).2,heap_setCell_other _ ⟨gx,0,none⟩ G _ (uZ HGB).2];exact uZ HSW3)
   have HZ7:Hid (Below w.heap.size w w7):=hZ (by rw [←hw7];exact((uZ HZW3).setCell (p:=⟨gx,0,none⟩) (uZ HGB).1 _).setCell (p:=⟨gx,1,none⟩) (uZ HGB).1 _)
   have HM7:=hZ (show Nms w7 tb tn1 M by rw [←hw7];exact nms_two (uZ HMW3) (uZ HGXW3) _ _)
   try rw [hw7]
   refine hK.out _ _ (Or.inr (uZ HS7)) ?_
   clear hK K hw7 k0 k1 y0 y1
   try simp only [Act.put,sA,sB,sC]
   refine till_done (by kernel_rfl) ?_ _
   obtain⟨k0,k1⟩:=two_at (uZ HGX7)
   by_cases hf2:f2=0
   ·subst hf2
    have hRv:=uZ HRV
    rw [if_pos rfl] at hRv
    have HRW9:=hZ hRv
    clear hRv
    go_upto_region 6 with fail
    have HS0b:Hid (w7.drew.heap[G]?=some (.cells #[.int .i64 k,.string t,.int .i64 vk,.int .i64 vn,.string vs,.slice al ll cl,.slice ak lk ck,.bool f,.slice a m cc,.int .i64 p] 28 (0,0))):=hZ (uZ HS7)
    have HX0b:Hid (Below w7.heap.size w7 w7.drew):=hZ ((Below.refl _ _).drew)
    clear k0 k1
    refine till_begin (S:=fun u=>u.heap[G]?=some (.cells #[.int .i64 k,.string t,.int .i64 vk,.int .i64 vn,.string vs,.slice al ll cl,.slice ak lk ck,.bool f,.slice a m cc,.int .i64 p] 28 (0,0))) 99 (by kernel_rfl) ?_
    obtain⟨V0,hV0⟩:=eX (w7.drew)
    try rw [hV0]
    rw [hV0] at HS0b HX0b
    clear hV0
    refine till_takeN 0 (v:=.pointer (some ⟨G,8,none⟩)) (some 18) rfl rfl rfl (by kernel_rfl) (by kernel_rfl) (by kernel_rfl) (fun _ _ _ h=>h) (Or.inl ⟨by rfl,fun u hu=>by obtain⟨m0,m1,m2,m3,m4,m5,m6,m7,m8,m9⟩:=ten_at hu;go_simp⟩) (uZ HS0b) ?_
    try simp only [Act.put,sA,sB,sC]
    refine till_takeN 1 (v:=.slice a m cc) (some 19) rfl rfl rfl (by kernel_rfl) (by kernel_rfl) (by kernel_rfl) (fun _ _ _ h=>h) (Or.inl ⟨by rfl,fun u hu=>by obtain⟨m0,m1,m2,m3,m4,m5,m6,m7,m8,m9⟩:=ten_at hu;go_simp⟩) (uZ HS0b) ?_
    try simp only [Act.put,sA,sB,sC]
    refine till_takeN 2 (v:=.map (some tb)) (some 20) rfl rfl rfl (by kernel_rfl) (by kernel_rfl) (by kernel_rfl) (fun _ _ _ h=>h) (Or.inl ⟨by rfl,fun u hu=>by obtain⟨m0,m1,m2,m3,m4,m5,m6,m7,m8,m9⟩:=ten_at hu;go_simp⟩) (uZ HS0b) ?_
    try simp only [Act.put,sA,sB,sC]
    have C1:=hZ (bodiesF_any (w:=V0) (tb:=tb))
    refine till_one 3 (by kernel_rfl) rfl (fun K hK=>?_)
    go_simp
    refine(uZ C1).mono ?_
    rintro e V1 ⟨xb,rfl,hxm,hxc,bx1⟩
    have hX:=(uZ HX0b).trans (bx1.mono (uZ HX0b).size)
    have HX1:=hZ hX
    have HS1b:Hid (V1.heap[G]?=some (.cells #[.int .i64 k,.string t,.int .i64 vk,.int .i64 vn,.string vs,.slice al ll cl,.slice ak lk ck,.bool f,.slice a m cc,.int .i64 p] 28 (0,0))):=hZ ((bx1.block _ (ltR (uZ HS0b))).trans (uZ HS0b))
    have hZ1:=(uZ HZ7).trans (hX.mono (uZ HZ7).size)
    have HZ1:=hZ hZ1
    have CB:=hZ (bodies_first (d:=d) (tk:=M) (tb:=tb) (tn:=tn1) (B0:=B0) (a:=a) (cc:=cc) (m:=m) (ns:=y.ks) (xm:=xb) ((uZ HTw).below hZ1) ((uZ HM7).later (hX.block tb (uZ HM7).lt)) hxc ((uZ HRw).later (hZ1.mono (uZ HBW))) (uZ HLEN) (Nat.le_trans (uZ HBW) hZ1.size) hd (uZ HFN))
    rw [uZ HRW9] at CB
    clear C1 bx1 hxm hxc hX hZ1
    go_wp2_with fail
    refine hK.out _ _ (Or.inr (uZ HS1b)) ?_
    clear hK K
    try simp only [Act.put,sA,sB,sC]
    refine till_one 4 (by kernel_rfl) rfl (fun K hK=>?_)
    go_simp
    refine(uZ CB).mono ?_
    rintro e V2 ⟨rfl,b2⟩
    have HS2b:Hid (V2.heap[G]?=some (.cells #[.int .i64 k,.string t,.int .i64 vk,.int .i64 vn,.string vs,.slice al ll cl,.slice ak lk ck,.bool f,.slice a m cc,.int .i64 p] 28 (0,0))):=hZ ((b2.block _ (ltR (uZ HS1b))).trans (uZ HS1b))
    have gx2:=(b2.block gx (Nat.lt_of_lt_of_le (ltR (uZ HGX7)) (uZ HX1).size)).trans (((uZ HX1).block gx (ltR (uZ HGX7))).trans (uZ HGX7))
    have HZ2:=hZ ((uZ HZ1).trans (b2.mono (uZ HZ1).size))
    clear CB b2 HS1b HS0b HX0b HX1 HZ1
    obtain⟨g1,g2⟩:=R
    unfold fltV
    obtain⟨k0,k1⟩:=two_at gx2
    have y0:=frozen_of_row V2 gx 0 _ _ gx2
    have y1:=frozen_of_row V2 gx 1 _ _ gx2
    have HGX8:=hZ gx2
    clear gx2
    go_wp2_with fail
    refine hK.out _ _ (Or.inr (uZ HS2b)) ?_
    clear hK K
    try simp only [Act.put,sA,sB,sC]
    refine till_one 5 (by kernel_rfl) rfl (fun K hK=>?_)
    go_simp
    obtain⟨w9,hw9⟩:=eX (((V2.setCell ⟨gx,0,none⟩ (.int .i64 g1)).setCell ⟨gx,1,none⟩ (.int .i64 g2)))
    have HGX9:Hid (w9.heap[gx]?=some (.cells #[.int .i64 g1,.int .i64 g2] 42 (0,0))):=hZ (by rw [←hw9];exact put2 (uZ HGX8) _ _)
    have HS9:Hid (w9.heap[G]?=some (.cells #[.int .i64 k,.string t,.int .i64 vk,.int .i64 vn,.string vs,.slice al ll cl,.slice ak lk ck,.bool f,.slice a m cc,.int .i64 p] 28 (0,0))):=hZ (by rw [←hw9,heap_setCell_other _ ⟨gx,1,none⟩ G _ (uZ HGB).2,heap_setCell_other _ ⟨gx,0,none⟩ G _ (uZ HGB).2];exact uZ HS2b)
    have HZ9:Hid (Below w.heap.size w w9):=hZ (by rw [←hw9];exact((uZ HZ2).setCell (p:=⟨gx,0,none⟩) (uZ HGB).1 _).setCell (p:=⟨gx,1,none⟩) (uZ HGB).1 _)
    try rw [hw9]
    refine hK.out _ _ (Or.inr (uZ HS9)) ?_
    clear hK K hw9 k0 k1 y0 y1
    try simp only [Act.put,sA,sB,sC]
    refine till_done (by kernel_rfl) ?_ _
    obtain⟨k0,k1⟩:=two_at (uZ HGX9)
    go_upto_region 7 with fail
    go_quiet (fail)
    go_wp2_with fail
    go_ret2
    exact⟨rfl,bdrew (uZ HZ9) _⟩
   ·have hne:(f2 == 0)=false:=by simpa using hf2
    have hRv:=uZ HRV
    rw [if_neg hf2] at hRv
    subst hRv
    go_upto_region 7 with fail
    go_quiet (fail)
    go_wp2_with fail
    go_ret2
    exact⟨rfl,bdrew (uZ HZ7) _⟩
end Go.Proofs.YtjdpaihhhjdgmaaGreatDoor
