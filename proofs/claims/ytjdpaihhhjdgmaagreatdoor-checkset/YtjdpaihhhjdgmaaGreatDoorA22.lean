/-
  Layer 18 (print): do brackets stand about one of a node's Kids; conditions: the node lies in memory.
-/
import Derived.Test.YtjdpaihhhjdgmaaGreatDoorA21
import Derived.Test.YtjdpaihhhjdgmaaGreatDoorA02
import Derived.Deep.RegionHeld3
import Derived.Deep.RegionWith
import Derived.Deep.CutRange
import Derived.BigQuiet
import Derived.Deep.QuietTactic
set_option linter.unusedVariables false
set_option linter.unusedSimpArgs false
set_option maxRecDepth 100000
set_option maxHeartbeats 8000000
namespace Go.Proofs.YtjdpaihhhjdgmaaGreatDoor
open Go.RowKit
set_option linter.unusedVariables false
set_option linter.unusedSimpArgs false
theorem below_drewP {B:Nat} {a w:World} (h:Below B a w) (q:Nat):Below B a (w.drewN q):=⟨h.os,h.tape,h.output,h.size,h.block⟩
theorem cells_ten {w w':World} {g:Nat} {v0 v1 v2 v3 v4 v5 v6 v7 v8 v9:Value} {T:TypeId} (h:w.heap[g]?=some (.cells #[v0,v1,v2,v3,v4,v5,v6,v7,v8,v9] T (0,0))) (hb:Below w.heap.size w w'):w'.heap[g]?=some (.cells #[v0,v1,v2,v3,v4,v5,v6,v7,v8,v9] T (0,0)):=(hb.block g (Array.getElem?_eq_some_iff.1 h).1).trans h
theorem bracketed_any (k vk vn p:Int) (t vs:ByteArray) (al ak:Option Addr) (ll cl lk ck n cc:Nat) (f:Bool) (b:Addr) (ky vky vny py:Int) (ty vsy:ByteArray) (aly aky ay:Option Addr) (lly cly lky cky ny ccy:Nat) (fy:Bool) (i:Nat) (w:World) (hi:i<n) (hn:n≤cc) (hn9:n≤140737488351232) (hc:∀j v,[.int .i64 ky,.string ty,.int .i64 vky,.int .i64 vny,.string vsy,.slice aly lly cly,.slice aky lky cky,.bool fy,.slice ay ny ccy,.int .i64 py][j]?=some v→w.cell? ((b.add (i * 10)).add j)=some v) :
  Calls Tryz.prog 89 #[.agg #[.int .i64 k,.string t,.int .i64 vk,.int .i64 vn,.string vs,.slice al ll cl,.slice ak lk ck,.bool f,.slice (some b) n cc,.int .i64 p],.int .i64 (i:Int)] w fun e w'=>e=.returned (.bool (brk k t ky ty i))∧Below w.heap.size w w':=by
 obtain⟨w1,hw1⟩:=eX (w.alloc (.cells #[.int .i64 k,.string t,.int .i64 vk,.int .i64 vn,.string vs,.slice al ll cl,.slice ak lk ck,.bool f,.slice (some b) n cc,.int .i64 p] 28))
 obtain⟨G,hG⟩:=eX (w.heap.size)
 have A1:=(al1 hw1 hG).1
 have B1:=alB hw1
 have hlt:(b.add (i * 10)).block<w.heap.size:=World.block_lt_of_cell? _ _ (hc 0 _ rfl)
 have hc1:∀j v,[.int .i64 ky,.string ty,.int .i64 vky,.int .i64 vny,.string vsy,.slice aly lly cly,.slice aky lky cky,.bool fy,.slice ay ny ccy,.int .i64 py][j]?=some v→w1.cell? ((b.add (i * 10)).add j)=some v:=fun j v hj=>(World.cell?_of_block (B1.block _ (by rw [block_add];exact hlt))).trans (hc j v hj)
 obtain⟨e0,e1,e2,e3,e4,e5,e6,e7,e8,e9⟩:=tenC hc1
 obtain⟨g1,hg1⟩:=eX (w1.heap.size)
 obtain⟨w2,hw2⟩:=eX (w1.alloc (.cells #[.int .i64 ky,.string ty,.int .i64 vky,.int .i64 vny,.string vsy,.slice aly lly cly,.slice aky lky cky,.bool fy,.slice ay ny ccy,.int .i64 py] 28))
 have A2:w2.heap[g1]?=some (.cells #[.int .i64 ky,.string ty,.int .i64 vky,.int .i64 vny,.string vsy,.slice aly lly cly,.slice aky lky cky,.bool fy,.slice ay ny ccy,.int .i64 py] 28 (0,0)):=alN hw2 hg1
 have B2:=alB hw2
 have A1':=cells_ten A1 B2
 have HX:Hid (Below G w w2):=hZ (by have h:=B1.trans (B2.mono B1.size);rw [hG] at h;exact h)
 obtain⟨_,_,_,_,_,_,_,_,c8,_⟩:=row_ten A1
 have HA:=hZ (And.intro A1' A2)
 have i2:(i:Int)<(n:Int):=by omega
 have HW1:=hZ hw1
 have HW2:=hZ hw2
 obtain⟨R,hR⟩:=eX (brk k t ky ty i)
 rw [hR]
 unfold brk at hR
 have HR:=hZ hR
 clear hR A1 A2 A1' B1 B2 hc hc1 hlt hw1 hw2
 go_enter Tryz.func89,Tryz.ntmps89
 go_upto_region 1 with fail
 rw [uZ HW1]
 try rw [hG]
 clear HW1
 go_upto_region 2 with fail
 rw [uZ HW2]
 try rw [hg1]
 clear HW2 e0 e1 e2 e3 e4 e5 e6 e7 e8 e9 c8
 obtain⟨x0,x1,x2,x3,x4,x5,x6,x7,x8,x9⟩:=row_ten (uZ HA).1
 obtain⟨y0,y1,y2,y3,y4,y5,y6,y7,y8,y9⟩:=row_ten (uZ HA).2
 have fin:∀{R':Bool},R=R'→(.returned (.bool R'):Ending)=.returned (.bool R):=fun h=>by rw [h]
 by_cases h16:k=16
 ·subst h16
  have hR:decide (ky=17)=R:=by have:=uZ HR;simpa using this
  by_cases h:ky=17
  ·subst h
   go_wp2_with fail
   go_ret
   exact⟨by rw [←hR];rfl,by first|exact uZ HX|(rw [hG];exact uZ HX)⟩
  ·have m:(ky == 17)=false:=beq_eq_false_iff_ne.2 h
   have hR2:R=false:=by rw [←hR];exact decide_eq_false h
   go_wp2_with fail
   go_ret
   exact⟨by rw [hR2];rfl,by first|exact uZ HX|(rw [hG];exact uZ HX)⟩
 ·have m16:(k == 16)=false:=beq_eq_false_iff_ne.2 h16
  by_cases h2:k=21∨k=22
  ·have hR:decide (i=0∧(ky=16∨ky=17))=R:=by have:=uZ HR;rw [if_neg h16,if_pos h2] at this;exact this
   clear HR
   rcases h2 with h2|h2
   all_goals
    subst h2
    by_cases hz:i=0
    ·subst hz
     by_cases hy:ky=16
     ·subst hy
      go_wp2_with fail
      go_ret
      exact⟨by rw [←hR];rfl,by first|exact uZ HX|(rw [hG];exact uZ HX)⟩
     ·have my:(ky == 16)=false:=beq_eq_false_iff_ne.2 hy
      by_cases hy2:ky=17
      ·subst hy2
       go_wp2_with fail
       go_ret
       exact⟨by rw [←hR];rfl,by first|exact uZ HX|(rw [hG];exact uZ HX)⟩
      ·have my2:(ky == 17)=false:=beq_eq_false_iff_ne.2 hy2
       have hR2:R=false:=by rw [←hR];exact decide_eq_false (fun e=>e.2.elim hy hy2)
       go_wp2_with fail
       go_ret
       exact⟨by rw [hR2];rfl,by first|exact uZ HX|(rw [hG];exact uZ HX)⟩
    ·have hz1:¬(i:Int)=0:=by omega
     have mz:((i:Int) == 0)=false:=beq_eq_false_iff_ne.2 hz1
     have hR2:R=false:=by rw [←hR];exact decide_eq_false (fun e=>hz e.1)
     go_wp2_with fail
     go_ret
     exact⟨by rw [hR2];rfl,by first|exact uZ HX|(rw [hG];exact uZ HX)⟩
  ·have m21:(k == 21)=false:=beq_eq_false_iff_ne.2 (fun e=>h2 (.inl e))
   have m22:(k == 22)=false:=beq_eq_false_iff_ne.2 (fun e=>h2 (.inr e))
   by_cases h17:k=17
   ·subst h17
    have hR:decide (ky=17∧((bnS ty.toList=bnS t.toList∧(i=1∨bnS t.toList=3))∨bnS ty.toList<bnS t.toList))=R:=by have:=uZ HR;rw [if_neg h16,if_neg h2,if_pos rfl] at this;exact this
    clear HR
    by_cases hy:ky=17
    ·subst hy
     obtain⟨P,hP⟩:=eX (bnS t.toList)
     obtain⟨Q,hQ⟩:=eX (bnS ty.toList)
     rw [hP,hQ] at hR
     have CB:Hid (∀u,Calls Tryz.prog 116 #[.agg #[.int .i64 17,.string t,.int .i64 vk,.int .i64 vn,.string vs,.slice al ll cl,.slice ak lk ck,.bool f,.slice (some b) n cc,.int .i64 p]] u fun e w'=>e=.returned (.int .i64 (P:Int))∧Below u.heap.size u w'):=hZ (fun u=>by rw [←hP];exact binds_any 17 vk vn p t vs al ak (some b) ll cl lk ck n cc f u)
     have CY:Hid (∀u,Calls Tryz.prog 116 #[.agg #[.int .i64 17,.string ty,.int .i64 vky,.int .i64 vny,.string vsy,.slice aly lly cly,.slice aky lky cky,.bool fy,.slice ay ny ccy,.int .i64 py]] u fun e w'=>e=.returned (.int .i64 (Q:Int))∧Below u.heap.size u w'):=hZ (fun u=>by rw [←hQ];exact binds_any 17 vky vny py ty vsy aly aky ay lly cly lky cky ny ccy fy u)
     have HQ:=hZ (And.intro hR trivial)
     have HK:Hid (∀w',Below w2.heap.size w2 w'→w'.cell? ⟨G,0,none⟩=some (.int .i64 17)∧w'.cell? ⟨G,1,none⟩=some (.string t)∧w'.cell? ⟨G,2,none⟩=some (.int .i64 vk)∧w'.cell? ⟨G,3,none⟩=some (.int .i64 vn)∧w'.cell? ⟨G,4,none⟩=some (.string vs)∧w'.cell? ⟨G,5,none⟩=some (.slice al ll cl)∧w'.cell? ⟨G,6,none⟩=some (.slice ak lk ck)∧w'.cell? ⟨G,7,none⟩=some (.bool f)∧w'.cell? ⟨G,8,none⟩=some (.slice (some b) n cc)∧w'.cell? ⟨G,9,none⟩=some (.int .i64 p)∧w'.cell? ⟨g1,0,none⟩=some (.int .i64 17)∧w'.cell? ⟨g1,1,none⟩=some (.string ty)∧w'.cell? ⟨g1,2,none⟩=some (.int .i64 vky)∧w'.cell? ⟨g1,3,none⟩=some (.int .i64 vny)∧w'.cell? ⟨g1,4,none⟩=some (.string vsy)∧w'.cell? ⟨g1,5,none⟩=some (.slice aly lly cly)∧w'.cell? ⟨g1,6,none⟩=some (.slice aky lky cky)∧w'.cell? ⟨g1,7,none⟩=some (.bool fy)∧w'.cell? ⟨g1,8,none⟩=some (.slice ay ny ccy)∧w'.cell? ⟨g1,9,none⟩=some (.int .i64 py)):=hZ (fun w' h=>by
      obtain⟨x0,x1,x2,x3,x4,x5,x6,x7,x8,x9⟩:=row_ten (cells_ten (uZ HA).1 h)
      obtain⟨y0,y1,y2,y3,y4,y5,y6,y7,y8,y9⟩:=row_ten (cells_ten (uZ HA).2 h)
      exact⟨x0,x1,x2,x3,x4,x5,x6,x7,x8,x9,y0,y1,y2,y3,y4,y5,y6,y7,y8,y9⟩)
     clear hR
     go_upto_region 11 with fail
     go_cut [6] from 39 to 52 (fun r wx=>r=.bool (decide (Q=P∧(i=1∨P=3)))∧Hid (Below w2.heap.size w2 wx))
     case first=>
      by_cases q1:Q=P
      ·subst q1
       have z2:((Q:Int) == (Q:Int))=true:=beq_self_eq_true _
       by_cases q2:i=1
       ·subst q2
        have dz:decide (Q=Q∧(1=1∨Q=3))=true:=decide_eq_true ⟨rfl,.inl rfl⟩
        have HS0:Hid (Below w2.heap.size w2 w2.drew):=hZ ((Below.refl _ _).drew)
        refine till_begin (S:=fun w'=>Below w2.heap.size w2 w') 14 (by kernel_rfl) ?_
        obtain⟨W0,hW0⟩:=eX (w2.drew)
        try rw [hW0]
        rw [hW0] at HS0
        clear hW0
        refine tK 0 (v:=.agg #[.int .i64 17,.string ty,.int .i64 vky,.int .i64 vny,.string vsy,.slice aly lly cly,.slice aky lky cky,.bool fy,.slice ay ny ccy,.int .i64 py]) (some 39) rfl rfl rfl (by kernel_rfl) (fun _ _ _ h=>h) (Or.inl ⟨by rfl,fun u hu=>by obtain⟨x0,x1,x2,x3,x4,x5,x6,x7,x8,x9,y0,y1,y2,y3,y4,y5,y6,y7,y8,y9⟩:=uZ HK u hu;go_simp⟩) (uZ HS0) ?_
        try simp only [Act.put,sA,sB,sC]
        refine tK 2 (v:=.agg #[.int .i64 17,.string t,.int .i64 vk,.int .i64 vn,.string vs,.slice al ll cl,.slice ak lk ck,.bool f,.slice (some b) n cc,.int .i64 p]) (some 41) rfl rfl rfl (by kernel_rfl) (fun _ _ _ h=>h) (Or.inl ⟨by rfl,fun u hu=>by obtain⟨x0,x1,x2,x3,x4,x5,x6,x7,x8,x9,y0,y1,y2,y3,y4,y5,y6,y7,y8,y9⟩:=uZ HK u hu;go_simp⟩) (uZ HS0) ?_
        try simp only [Act.put,sA,sB,sC]
        refine till_one 1 (by kernel_rfl) rfl (fun K hK=>?_)
        go_simp
        refine(uZ CY W0).mono ?_
        rintro e W1 ⟨rfl,bb⟩
        have HS1:=hZ ((uZ HS0).trans (bb.mono (uZ HS0).size))
        clear bb
        go_wp2_with fail
        refine hK.out _ _ (Or.inr (uZ HS1)) ?_
        clear hK K HS0
        try simp only [Act.put,sA,sB,sC]
        refine till_one 3 (by kernel_rfl) rfl (fun K hK=>?_)
        go_simp
        refine(uZ CB W1).mono ?_
        rintro e W2 ⟨rfl,bb⟩
        have HS2:=hZ ((uZ HS1).trans (bb.mono (uZ HS1).size))
        clear bb
        go_wp2_with fail
        refine hK.out _ _ (Or.inr (uZ HS2)) ?_
        clear hK K HS1
        try simp only [Act.put,sA,sB,sC]
        refine till_one 4 (by kernel_rfl) rfl (fun K hK=>?_)
        go_simp
        refine hK.out _ _ (Or.inr (uZ HS2)) ?_
        clear hK K
        try simp only [Act.put,sA,sB,sC]
        refine till_one 5 (by kernel_rfl) rfl (fun K hK=>?_)
        go_simp
        refine hK.out _ _ (Or.inr (uZ HS2)) ?_
        clear hK K
        try simp only [Act.put,sA,sB,sC]
        refine till_one 6 (by kernel_rfl) rfl (fun K hK=>?_)
        go_simp
        refine hK.out _ _ (Or.inr (uZ HS2)) ?_
        clear hK K
        try simp only [Act.put,sA,sB,sC]
        refine till_one 7 (by kernel_rfl) rfl (fun K hK=>?_)
        go_simp
        refine hK.out _ _ (Or.inr (uZ HS2)) ?_
        clear hK K
        try simp only [Act.put,sA,sB,sC]
        refine till_one 8 (by kernel_rfl) rfl (fun K hK=>?_)
        go_simp
        refine hK.out _ _ (Or.inr (uZ HS2)) ?_
        clear hK K
        try simp only [Act.put,sA,sB,sC]
        refine till_one 9 (by kernel_rfl) rfl (fun K hK=>?_)
        go_simp
        refine hK.out _ _ (Or.inr (uZ HS2)) ?_
        clear hK K
        try simp only [Act.put,sA,sB,sC]
        refine till_one 10 (by kernel_rfl) rfl (fun K hK=>?_)
        go_simp
        refine hK.out _ _ (Or.inr (uZ HS2)) ?_
        clear hK K
        try simp only [Act.put,sA,sB,sC]
        refine till_one 11 (by kernel_rfl) rfl (fun K hK=>?_)
        go_simp
        refine hK.out _ _ (Or.inr (uZ HS2)) ?_
        clear hK K
        try simp only [Act.put,sA,sB,sC]
        refine till_one 12 (by kernel_rfl) rfl (fun K hK=>?_)
        go_simp
        refine hK.out _ _ (Or.inr (uZ HS2)) ?_
        clear hK K
        try simp only [Act.put,sA,sB,sC]
        refine till_one 13 (by kernel_rfl) rfl (fun K hK=>?_)
        go_simp
        refine hK.out _ _ (Or.inr (uZ HS2)) ?_
        clear hK K
        try simp only [Act.put,sA,sB,sC]
        refine till_one 14 (by kernel_rfl) rfl (fun K hK=>?_)
        go_simp
        refine hK.out _ _ (Or.inl (by first|rfl|trivial)) ?_
        clear hK K
        try simp only [Act.put,sA,sB,sC]
        refine till_done (by kernel_rfl) ?_ _
        go_wp2_with fail
        go_meet
        exact⟨by rw [dz] <;> rfl,HS2⟩
       ·have z3:¬(i:Int)=1:=by omega
        have z4:((i:Int) == 1)=false:=beq_eq_false_iff_ne.2 z3
        by_cases q3:Q=3
        ·subst q3
         have dz:decide (3=3∧(i=1∨3=3))=true:=decide_eq_true ⟨rfl,.inr rfl⟩
         have HS0:Hid (Below w2.heap.size w2 w2.drew):=hZ ((Below.refl _ _).drew)
         refine till_begin (S:=fun w'=>Below w2.heap.size w2 w') 14 (by kernel_rfl) ?_
         obtain⟨W0,hW0⟩:=eX (w2.drew)
         try rw [hW0]
         rw [hW0] at HS0
         clear hW0
         refine tK 0 (v:=.agg #[.int .i64 17,.string ty,.int .i64 vky,.int .i64 vny,.string vsy,.slice aly lly cly,.slice aky lky cky,.bool fy,.slice ay ny ccy,.int .i64 py]) (some 39) rfl rfl rfl (by kernel_rfl) (fun _ _ _ h=>h) (Or.inl ⟨by rfl,fun u hu=>by obtain⟨x0,x1,x2,x3,x4,x5,x6,x7,x8,x9,y0,y1,y2,y3,y4,y5,y6,y7,y8,y9⟩:=uZ HK u hu;go_simp⟩) (uZ HS0) ?_
         try simp only [Act.put,sA,sB,sC]
         refine tK 2 (v:=.agg #[.int .i64 17,.string t,.int .i64 vk,.int .i64 vn,.string vs,.slice al ll cl,.slice ak lk ck,.bool f,.slice (some b) n cc,.int .i64 p]) (some 41) rfl rfl rfl (by kernel_rfl) (fun _ _ _ h=>h) (Or.inl ⟨by rfl,fun u hu=>by obtain⟨x0,x1,x2,x3,x4,x5,x6,x7,x8,x9,y0,y1,y2,y3,y4,y5,y6,y7,y8,y9⟩:=uZ HK u hu;go_simp⟩) (uZ HS0) ?_
         try simp only [Act.put,sA,sB,sC]
         refine till_one 1 (by kernel_rfl) rfl (fun K hK=>?_)
         go_simp
         refine(uZ CY W0).mono ?_
         rintro e W1 ⟨rfl,bb⟩
         have HS1:=hZ ((uZ HS0).trans (bb.mono (uZ HS0).size))
         clear bb
         go_wp2_with fail
         refine hK.out _ _ (Or.inr (uZ HS1)) ?_
         clear hK K HS0
         try simp only [Act.put,sA,sB,sC]
         refine till_one 3 (by kernel_rfl) rfl (fun K hK=>?_)
         go_simp
         refine(uZ CB W1).mono ?_
         rintro e W2 ⟨rfl,bb⟩
         have HS2:=hZ ((uZ HS1).trans (bb.mono (uZ HS1).size))
         clear bb
         go_wp2_with fail
         refine hK.out _ _ (Or.inr (uZ HS2)) ?_
         clear hK K HS1
         try simp only [Act.put,sA,sB,sC]
         refine till_one 4 (by kernel_rfl) rfl (fun K hK=>?_)
         go_simp
         refine hK.out _ _ (Or.inr (uZ HS2)) ?_
         clear hK K
         try simp only [Act.put,sA,sB,sC]
         refine till_one 5 (by kernel_rfl) rfl (fun K hK=>?_)
         go_simp
         refine hK.out _ _ (Or.inr (uZ HS2)) ?_
         clear hK K
         try simp only [Act.put,sA,sB,sC]
         refine till_one 6 (by kernel_rfl) rfl (fun K hK=>?_)
         go_simp
         refine hK.out _ _ (Or.inr (uZ HS2)) ?_
         clear hK K
         try simp only [Act.put,sA,sB,sC]
         refine till_one 7 (by kernel_rfl) rfl (fun K hK=>?_)
         go_simp
         refine hK.out _ _ (Or.inr (uZ HS2)) ?_
         clear hK K
         try simp only [Act.put,sA,sB,sC]
         refine till_one 8 (by kernel_rfl) rfl (fun K hK=>?_)
         go_simp
         refine hK.out _ _ (Or.inr (uZ HS2)) ?_
         clear hK K
         try simp only [Act.put,sA,sB,sC]
         refine till_one 9 (by kernel_rfl) rfl (fun K hK=>?_)
         obtain⟨x0,x1,x2,x3,x4,x5,x6,x7,x8,x9,y0,y1,y2,y3,y4,y5,y6,y7,y8,y9⟩:=uZ HK _ (uZ HS2)
         go_simp
         refine hK.out _ _ (Or.inr (uZ HS2)) ?_
         clear hK K x0 x1 x2 x3 x4 x5 x6 x7 x8 x9 y0 y1 y2 y3 y4 y5 y6 y7 y8 y9
         try simp only [Act.put,sA,sB,sC]
         refine till_one 10 (by kernel_rfl) rfl (fun K hK=>?_)
         go_simp
         refine(uZ CB W2).mono ?_
         rintro e W3 ⟨rfl,bb⟩
         have HS3:=hZ ((uZ HS2).trans (bb.mono (uZ HS2).size))
         clear bb
         go_wp2_with fail
         refine hK.out _ _ (Or.inr (uZ HS3)) ?_
         clear hK K HS2
         try simp only [Act.put,sA,sB,sC]
         refine till_one 11 (by kernel_rfl) rfl (fun K hK=>?_)
         go_simp
         refine hK.out _ _ (Or.inr (uZ HS3)) ?_
         clear hK K
         try simp only [Act.put,sA,sB,sC]
         refine till_one 12 (by kernel_rfl) rfl (fun K hK=>?_)
         go_simp
         refine hK.out _ _ (Or.inr (uZ HS3)) ?_
         clear hK K
         try simp only [Act.put,sA,sB,sC]
         refine till_one 13 (by kernel_rfl) rfl (fun K hK=>?_)
         go_simp
         refine hK.out _ _ (Or.inr (uZ HS3)) ?_
         clear hK K
         try simp only [Act.put,sA,sB,sC]
         refine till_one 14 (by kernel_rfl) rfl (fun K hK=>?_)
         go_simp
         refine hK.out _ _ (Or.inl (by first|rfl|trivial)) ?_
         clear hK K
         try simp only [Act.put,sA,sB,sC]
         refine till_done (by kernel_rfl) ?_ _
         go_wp2_with fail
         go_meet
         exact⟨by rw [dz] <;> rfl,HS3⟩
        ·have z5:¬(Q:Int)=3:=by omega
         have z6:((Q:Int) == 3)=false:=beq_eq_false_iff_ne.2 z5
         have dz:decide (Q=Q∧(i=1∨Q=3))=false:=decide_eq_false (fun e=>e.2.elim q2 q3)
         have HS0:Hid (Below w2.heap.size w2 w2.drew):=hZ ((Below.refl _ _).drew)
         refine till_begin (S:=fun w'=>Below w2.heap.size w2 w') 14 (by kernel_rfl) ?_
         obtain⟨W0,hW0⟩:=eX (w2.drew)
         try rw [hW0]
         rw [hW0] at HS0
         clear hW0
         refine tK 0 (v:=.agg #[.int .i64 17,.string ty,.int .i64 vky,.int .i64 vny,.string vsy,.slice aly lly cly,.slice aky lky cky,.bool fy,.slice ay ny ccy,.int .i64 py]) (some 39) rfl rfl rfl (by kernel_rfl) (fun _ _ _ h=>h) (Or.inl ⟨by rfl,fun u hu=>by obtain⟨x0,x1,x2,x3,x4,x5,x6,x7,x8,x9,y0,y1,y2,y3,y4,y5,y6,y7,y8,y9⟩:=uZ HK u hu;go_simp⟩) (uZ HS0) ?_
         try simp only [Act.put,sA,sB,sC]
         refine tK 2 (v:=.agg #[.int .i64 17,.string t,.int .i64 vk,.int .i64 vn,.string vs,.slice al ll cl,.slice ak lk ck,.bool f,.slice (some b) n cc,.int .i64 p]) (some 41) rfl rfl rfl (by kernel_rfl) (fun _ _ _ h=>h) (Or.inl ⟨by rfl,fun u hu=>by obtain⟨x0,x1,x2,x3,x4,x5,x6,x7,x8,x9,y0,y1,y2,y3,y4,y5,y6,y7,y8,y9⟩:=uZ HK u hu;go_simp⟩) (uZ HS0) ?_
         try simp only [Act.put,sA,sB,sC]
         refine till_one 1 (by kernel_rfl) rfl (fun K hK=>?_)
         go_simp
         refine(uZ CY W0).mono ?_
         rintro e W1 ⟨rfl,bb⟩
         have HS1:=hZ ((uZ HS0).trans (bb.mono (uZ HS0).size))
         clear bb
         go_wp2_with fail
         refine hK.out _ _ (Or.inr (uZ HS1)) ?_
         clear hK K HS0
         try simp only [Act.put,sA,sB,sC]
         refine till_one 3 (by kernel_rfl) rfl (fun K hK=>?_)
         go_simp
         refine(uZ CB W1).mono ?_
         rintro e W2 ⟨rfl,bb⟩
         have HS2:=hZ ((uZ HS1).trans (bb.mono (uZ HS1).size))
         clear bb
         go_wp2_with fail
         refine hK.out _ _ (Or.inr (uZ HS2)) ?_
         clear hK K HS1
         try simp only [Act.put,sA,sB,sC]
         refine till_one 4 (by kernel_rfl) rfl (fun K hK=>?_)
         go_simp
         refine hK.out _ _ (Or.inr (uZ HS2)) ?_
         clear hK K
         try simp only [Act.put,sA,sB,sC]
         refine till_one 5 (by kernel_rfl) rfl (fun K hK=>?_)
         go_simp
         refine hK.out _ _ (Or.inr (uZ HS2)) ?_
         clear hK K
         try simp only [Act.put,sA,sB,sC]
         refine till_one 6 (by kernel_rfl) rfl (fun K hK=>?_)
         go_simp
         refine hK.out _ _ (Or.inr (uZ HS2)) ?_
         clear hK K
         try simp only [Act.put,sA,sB,sC]
         refine till_one 7 (by kernel_rfl) rfl (fun K hK=>?_)
         go_simp
         refine hK.out _ _ (Or.inr (uZ HS2)) ?_
         clear hK K
         try simp only [Act.put,sA,sB,sC]
         refine till_one 8 (by kernel_rfl) rfl (fun K hK=>?_)
         go_simp
         refine hK.out _ _ (Or.inr (uZ HS2)) ?_
         clear hK K
         try simp only [Act.put,sA,sB,sC]
         refine till_one 9 (by kernel_rfl) rfl (fun K hK=>?_)
         obtain⟨x0,x1,x2,x3,x4,x5,x6,x7,x8,x9,y0,y1,y2,y3,y4,y5,y6,y7,y8,y9⟩:=uZ HK _ (uZ HS2)
         go_simp
         refine hK.out _ _ (Or.inr (uZ HS2)) ?_
         clear hK K x0 x1 x2 x3 x4 x5 x6 x7 x8 x9 y0 y1 y2 y3 y4 y5 y6 y7 y8 y9
         try simp only [Act.put,sA,sB,sC]
         refine till_one 10 (by kernel_rfl) rfl (fun K hK=>?_)
         go_simp
         refine(uZ CB W2).mono ?_
         rintro e W3 ⟨rfl,bb⟩
         have HS3:=hZ ((uZ HS2).trans (bb.mono (uZ HS2).size))
         clear bb
         go_wp2_with fail
         refine hK.out _ _ (Or.inr (uZ HS3)) ?_
         clear hK K HS2
         try simp only [Act.put,sA,sB,sC]
         refine till_one 11 (by kernel_rfl) rfl (fun K hK=>?_)
         go_simp
         refine hK.out _ _ (Or.inr (uZ HS3)) ?_
         clear hK K
         try simp only [Act.put,sA,sB,sC]
         refine till_one 12 (by kernel_rfl) rfl (fun K hK=>?_)
         go_simp
         refine hK.out _ _ (Or.inr (uZ HS3)) ?_
         clear hK K
         try simp only [Act.put,sA,sB,sC]
         refine till_one 13 (by kernel_rfl) rfl (fun K hK=>?_)
         go_simp
         refine hK.out _ _ (Or.inr (uZ HS3)) ?_
         clear hK K
         try simp only [Act.put,sA,sB,sC]
         refine till_one 14 (by kernel_rfl) rfl (fun K hK=>?_)
         go_simp
         refine hK.out _ _ (Or.inl (by first|rfl|trivial)) ?_
         clear hK K
         try simp only [Act.put,sA,sB,sC]
         refine till_done (by kernel_rfl) ?_ _
         go_wp2_with fail
         go_meet
         exact⟨by rw [dz] <;> rfl,HS3⟩
      ·have z1:¬(Q:Int)=(P:Int):=by omega
       have z2:((Q:Int) == (P:Int))=false:=beq_eq_false_iff_ne.2 z1
       have dz:decide (Q=P∧(i=1∨P=3))=false:=decide_eq_false (fun e=>q1 e.1)
       have HS0:Hid (Below w2.heap.size w2 w2.drew):=hZ ((Below.refl _ _).drew)
       refine till_begin (S:=fun w'=>Below w2.heap.size w2 w') 14 (by kernel_rfl) ?_
       obtain⟨W0,hW0⟩:=eX (w2.drew)
       try rw [hW0]
       rw [hW0] at HS0
       clear hW0
       refine tK 0 (v:=.agg #[.int .i64 17,.string ty,.int .i64 vky,.int .i64 vny,.string vsy,.slice aly lly cly,.slice aky lky cky,.bool fy,.slice ay ny ccy,.int .i64 py]) (some 39) rfl rfl rfl (by kernel_rfl) (fun _ _ _ h=>h) (Or.inl ⟨by rfl,fun u hu=>by obtain⟨x0,x1,x2,x3,x4,x5,x6,x7,x8,x9,y0,y1,y2,y3,y4,y5,y6,y7,y8,y9⟩:=uZ HK u hu;go_simp⟩) (uZ HS0) ?_
       try simp only [Act.put,sA,sB,sC]
       refine tK 2 (v:=.agg #[.int .i64 17,.string t,.int .i64 vk,.int .i64 vn,.string vs,.slice al ll cl,.slice ak lk ck,.bool f,.slice (some b) n cc,.int .i64 p]) (some 41) rfl rfl rfl (by kernel_rfl) (fun _ _ _ h=>h) (Or.inl ⟨by rfl,fun u hu=>by obtain⟨x0,x1,x2,x3,x4,x5,x6,x7,x8,x9,y0,y1,y2,y3,y4,y5,y6,y7,y8,y9⟩:=uZ HK u hu;go_simp⟩) (uZ HS0) ?_
       try simp only [Act.put,sA,sB,sC]
       refine till_one 1 (by kernel_rfl) rfl (fun K hK=>?_)
       go_simp
       refine(uZ CY W0).mono ?_
       rintro e W1 ⟨rfl,bb⟩
       have HS1:=hZ ((uZ HS0).trans (bb.mono (uZ HS0).size))
       clear bb
       go_wp2_with fail
       refine hK.out _ _ (Or.inr (uZ HS1)) ?_
       clear hK K HS0
       try simp only [Act.put,sA,sB,sC]
       refine till_one 3 (by kernel_rfl) rfl (fun K hK=>?_)
       go_simp
       refine(uZ CB W1).mono ?_
       rintro e W2 ⟨rfl,bb⟩
       have HS2:=hZ ((uZ HS1).trans (bb.mono (uZ HS1).size))
       clear bb
       go_wp2_with fail
       refine hK.out _ _ (Or.inr (uZ HS2)) ?_
       clear hK K HS1
       try simp only [Act.put,sA,sB,sC]
       refine till_one 4 (by kernel_rfl) rfl (fun K hK=>?_)
       go_simp
       refine hK.out _ _ (Or.inr (uZ HS2)) ?_
       clear hK K
       try simp only [Act.put,sA,sB,sC]
       refine till_one 5 (by kernel_rfl) rfl (fun K hK=>?_)
       go_simp
       refine hK.out _ _ (Or.inr (uZ HS2)) ?_
       clear hK K
       try simp only [Act.put,sA,sB,sC]
       refine till_one 6 (by kernel_rfl) rfl (fun K hK=>?_)
       go_simp
       refine hK.out _ _ (Or.inr (uZ HS2)) ?_
       clear hK K
       try simp only [Act.put,sA,sB,sC]
       refine till_one 7 (by kernel_rfl) rfl (fun K hK=>?_)
       go_simp
       refine hK.out _ _ (Or.inr (uZ HS2)) ?_
       clear hK K
       try simp only [Act.put,sA,sB,sC]
       refine till_one 8 (by kernel_rfl) rfl (fun K hK=>?_)
       go_simp
       refine hK.out _ _ (Or.inr (uZ HS2)) ?_
       clear hK K
       try simp only [Act.put,sA,sB,sC]
       refine till_one 9 (by kernel_rfl) rfl (fun K hK=>?_)
       go_simp
       refine hK.out _ _ (Or.inr (uZ HS2)) ?_
       clear hK K
       try simp only [Act.put,sA,sB,sC]
       refine till_one 10 (by kernel_rfl) rfl (fun K hK=>?_)
       go_simp
       refine hK.out _ _ (Or.inr (uZ HS2)) ?_
       clear hK K
       try simp only [Act.put,sA,sB,sC]
       refine till_one 11 (by kernel_rfl) rfl (fun K hK=>?_)
       go_simp
       refine hK.out _ _ (Or.inr (uZ HS2)) ?_
       clear hK K
       try simp only [Act.put,sA,sB,sC]
       refine till_one 12 (by kernel_rfl) rfl (fun K hK=>?_)
       go_simp
       refine hK.out _ _ (Or.inr (uZ HS2)) ?_
       clear hK K
       try simp only [Act.put,sA,sB,sC]
       refine till_one 13 (by kernel_rfl) rfl (fun K hK=>?_)
       go_simp
       refine hK.out _ _ (Or.inr (uZ HS2)) ?_
       clear hK K
       try simp only [Act.put,sA,sB,sC]
       refine till_one 14 (by kernel_rfl) rfl (fun K hK=>?_)
       go_simp
       refine hK.out _ _ (Or.inl (by first|rfl|trivial)) ?_
       clear hK K
       try simp only [Act.put,sA,sB,sC]
       refine till_done (by kernel_rfl) ?_ _
       go_wp2_with fail
       go_meet
       exact⟨by rw [dz] <;> rfl,HS2⟩
     case rest=>
      obtain⟨rfl,HX5⟩:=hcut
      clear x0 x1 x2 x3 x4 x5 x6 x7 x8 x9 y0 y1 y2 y3 y4 y5 y6 y7 y8 y9
      obtain⟨wq,hwq⟩:∃z,z=wc:=⟨_,rfl⟩
      subst hwq
      obtain⟨x0,x1,x2,x3,x4,x5,x6,x7,x8,x9,y0,y1,y2,y3,y4,y5,y6,y7,y8,y9⟩:=uZ HK wq (uZ HX5)
      obtain⟨D,hD⟩:=eX (decide (Q=P∧(i=1∨P=3)))
      rw [hD]
      have HY:=hZ ((uZ HX).trans ((uZ HX5).mono (by have:=(uZ HX).size;omega)))
      have HK2:Hid (∀w',Below wq.heap.size wq w'→w'.cell? ⟨G,0,none⟩=some (.int .i64 17)∧w'.cell? ⟨G,1,none⟩=some (.string t)∧w'.cell? ⟨G,2,none⟩=some (.int .i64 vk)∧w'.cell? ⟨G,3,none⟩=some (.int .i64 vn)∧w'.cell? ⟨G,4,none⟩=some (.string vs)∧w'.cell? ⟨G,5,none⟩=some (.slice al ll cl)∧w'.cell? ⟨G,6,none⟩=some (.slice ak lk ck)∧w'.cell? ⟨G,7,none⟩=some (.bool f)∧w'.cell? ⟨G,8,none⟩=some (.slice (some b) n cc)∧w'.cell? ⟨G,9,none⟩=some (.int .i64 p)∧w'.cell? ⟨g1,0,none⟩=some (.int .i64 17)∧w'.cell? ⟨g1,1,none⟩=some (.string ty)∧w'.cell? ⟨g1,2,none⟩=some (.int .i64 vky)∧w'.cell? ⟨g1,3,none⟩=some (.int .i64 vny)∧w'.cell? ⟨g1,4,none⟩=some (.string vsy)∧w'.cell? ⟨g1,5,none⟩=some (.slice aly lly cly)∧w'.cell? ⟨g1,6,none⟩=some (.slice aky lky cky)∧w'.cell? ⟨g1,7,none⟩=some (.bool fy)∧w'.cell? ⟨g1,8,none⟩=some (.slice ay ny ccy)∧w'.cell? ⟨g1,9,none⟩=some (.int .i64 py)):=hZ (fun w' h=>uZ HK w' ((uZ HX5).trans (h.mono (uZ HX5).size)))
      cases D with
      |true=>
       have hR2:R=true:=by rw [←(uZ HQ).1];exact decide_eq_true ⟨rfl,.inl (of_decide_eq_true hD)⟩
       go_wp2_with fail
       go_quiet (fail)
       go_wp2_with fail
       go_ret
       exact⟨by rw [hR2];rfl,by first|exact below_drewP (uZ HY) _|(rw [hG];exact below_drewP (uZ HY) _)⟩
      |false=>
       by_cases q1:Q<P
       ·have hR2:R=true:=by rw [←(uZ HQ).1];exact decide_eq_true ⟨rfl,.inr q1⟩
        have q2:(Q:Int)<(P:Int):=by omega
        go_wp2_with fail
        have HS0:Hid (Below wq.heap.size wq wq.drew):=hZ ((Below.refl _ _).drew)
        refine till_begin (S:=fun w'=>Below wq.heap.size wq w') 8 (by kernel_rfl) ?_
        obtain⟨W0,hW0⟩:=eX (wq.drew)
        try rw [hW0]
        rw [hW0] at HS0
        clear hW0
        refine till_one 0 (by kernel_rfl) rfl (fun K hK=>?_)
        go_simp
        refine hK.out _ _ (Or.inr (uZ HS0)) ?_
        clear hK K
        try simp only [Act.put,sA,sB,sC]
        refine till_one 1 (by kernel_rfl) rfl (fun K hK=>?_)
        go_simp
        refine hK.out _ _ (Or.inr (uZ HS0)) ?_
        clear hK K
        try simp only [Act.put,sA,sB,sC]
        refine tK 2 (v:=.agg #[.int .i64 17,.string ty,.int .i64 vky,.int .i64 vny,.string vsy,.slice aly lly cly,.slice aky lky cky,.bool fy,.slice ay ny ccy,.int .i64 py]) (some 55) rfl rfl rfl (by kernel_rfl) (fun _ _ _ h=>h) (Or.inl ⟨by rfl,fun u hu=>by obtain⟨x0,x1,x2,x3,x4,x5,x6,x7,x8,x9,y0,y1,y2,y3,y4,y5,y6,y7,y8,y9⟩:=uZ HK2 u hu;go_simp⟩) (uZ HS0) ?_
        try simp only [Act.put,sA,sB,sC]
        refine tK 4 (v:=.agg #[.int .i64 17,.string t,.int .i64 vk,.int .i64 vn,.string vs,.slice al ll cl,.slice ak lk ck,.bool f,.slice (some b) n cc,.int .i64 p]) (some 57) rfl rfl rfl (by kernel_rfl) (fun _ _ _ h=>h) (Or.inl ⟨by rfl,fun u hu=>by obtain⟨x0,x1,x2,x3,x4,x5,x6,x7,x8,x9,y0,y1,y2,y3,y4,y5,y6,y7,y8,y9⟩:=uZ HK2 u hu;go_simp⟩) (uZ HS0) ?_
        try simp only [Act.put,sA,sB,sC]
        refine till_one 3 (by kernel_rfl) rfl (fun K hK=>?_)
        go_simp
        refine(uZ CY W0).mono ?_
        rintro e W1 ⟨rfl,bb⟩
        have HS1:=hZ ((uZ HS0).trans (bb.mono (uZ HS0).size))
        clear bb
        go_wp2_with fail
        refine hK.out _ _ (Or.inr (uZ HS1)) ?_
        clear hK K HS0
        try simp only [Act.put,sA,sB,sC]
        refine till_one 5 (by kernel_rfl) rfl (fun K hK=>?_)
        go_simp
        refine(uZ CB W1).mono ?_
        rintro e W2 ⟨rfl,bb⟩
        have HS2:=hZ ((uZ HS1).trans (bb.mono (uZ HS1).size))
        clear bb
        go_wp2_with fail
        refine hK.out _ _ (Or.inr (uZ HS2)) ?_
        clear hK K HS1
        try simp only [Act.put,sA,sB,sC]
        refine till_one 6 (by kernel_rfl) rfl (fun K hK=>?_)
        go_simp
        refine hK.out _ _ (Or.inr (uZ HS2)) ?_
        clear hK K
        try simp only [Act.put,sA,sB,sC]
        refine till_one 7 (by kernel_rfl) rfl (fun K hK=>?_)
        go_simp
        refine hK.out _ _ (Or.inr (uZ HS2)) ?_
        clear hK K
        try simp only [Act.put,sA,sB,sC]
        refine till_one 8 (by kernel_rfl) rfl (fun K hK=>?_)
        go_simp
        refine hK.out _ _ (Or.inl (by first|rfl|trivial)) ?_
        clear hK K
        try simp only [Act.put,sA,sB,sC]
        refine till_done (by kernel_rfl) ?_ _
        go_wp2_with fail
        go_ret
        exact⟨by rw [hR2] <;> rfl,by first|exact(uZ HY).trans ((uZ HS2).mono (by have:=(uZ HY).size;omega))|(rw [hG];exact(uZ HY).trans ((uZ HS2).mono (by have:=(uZ HY).size;omega)))⟩
       ·have hR2:R=false:=by rw [←(uZ HQ).1];exact decide_eq_false (fun e=>e.2.elim (of_decide_eq_false hD) q1)
        have q2:¬(Q:Int)<(P:Int):=by omega
        go_wp2_with fail
        have HS0:Hid (Below wq.heap.size wq wq.drew):=hZ ((Below.refl _ _).drew)
        refine till_begin (S:=fun w'=>Below wq.heap.size wq w') 8 (by kernel_rfl) ?_
        obtain⟨W0,hW0⟩:=eX (wq.drew)
        try rw [hW0]
        rw [hW0] at HS0
        clear hW0
        refine till_one 0 (by kernel_rfl) rfl (fun K hK=>?_)
        go_simp
        refine hK.out _ _ (Or.inr (uZ HS0)) ?_
        clear hK K
        try simp only [Act.put,sA,sB,sC]
        refine till_one 1 (by kernel_rfl) rfl (fun K hK=>?_)
        go_simp
        refine hK.out _ _ (Or.inr (uZ HS0)) ?_
        clear hK K
        try simp only [Act.put,sA,sB,sC]
        refine tK 2 (v:=.agg #[.int .i64 17,.string ty,.int .i64 vky,.int .i64 vny,.string vsy,.slice aly lly cly,.slice aky lky cky,.bool fy,.slice ay ny ccy,.int .i64 py]) (some 55) rfl rfl rfl (by kernel_rfl) (fun _ _ _ h=>h) (Or.inl ⟨by rfl,fun u hu=>by obtain⟨x0,x1,x2,x3,x4,x5,x6,x7,x8,x9,y0,y1,y2,y3,y4,y5,y6,y7,y8,y9⟩:=uZ HK2 u hu;go_simp⟩) (uZ HS0) ?_
        try simp only [Act.put,sA,sB,sC]
        refine tK 4 (v:=.agg #[.int .i64 17,.string t,.int .i64 vk,.int .i64 vn,.string vs,.slice al ll cl,.slice ak lk ck,.bool f,.slice (some b) n cc,.int .i64 p]) (some 57) rfl rfl rfl (by kernel_rfl) (fun _ _ _ h=>h) (Or.inl ⟨by rfl,fun u hu=>by obtain⟨x0,x1,x2,x3,x4,x5,x6,x7,x8,x9,y0,y1,y2,y3,y4,y5,y6,y7,y8,y9⟩:=uZ HK2 u hu;go_simp⟩) (uZ HS0) ?_
        try simp only [Act.put,sA,sB,sC]
        refine till_one 3 (by kernel_rfl) rfl (fun K hK=>?_)
        go_simp
        refine(uZ CY W0).mono ?_
        rintro e W1 ⟨rfl,bb⟩
        have HS1:=hZ ((uZ HS0).trans (bb.mono (uZ HS0).size))
        clear bb
        go_wp2_with fail
        refine hK.out _ _ (Or.inr (uZ HS1)) ?_
        clear hK K HS0
        try simp only [Act.put,sA,sB,sC]
        refine till_one 5 (by kernel_rfl) rfl (fun K hK=>?_)
        go_simp
        refine(uZ CB W1).mono ?_
        rintro e W2 ⟨rfl,bb⟩
        have HS2:=hZ ((uZ HS1).trans (bb.mono (uZ HS1).size))
        clear bb
        go_wp2_with fail
        refine hK.out _ _ (Or.inr (uZ HS2)) ?_
        clear hK K HS1
        try simp only [Act.put,sA,sB,sC]
        refine till_one 6 (by kernel_rfl) rfl (fun K hK=>?_)
        go_simp
        refine hK.out _ _ (Or.inr (uZ HS2)) ?_
        clear hK K
        try simp only [Act.put,sA,sB,sC]
        refine till_one 7 (by kernel_rfl) rfl (fun K hK=>?_)
        go_simp
        refine hK.out _ _ (Or.inr (uZ HS2)) ?_
        clear hK K
        try simp only [Act.put,sA,sB,sC]
        refine till_one 8 (by kernel_rfl) rfl (fun K hK=>?_)
        go_simp
        refine hK.out _ _ (Or.inl (by first|rfl|trivial)) ?_
        clear hK K
        try simp only [Act.put,sA,sB,sC]
        refine till_done (by kernel_rfl) ?_ _
        go_wp2_with fail
        go_ret
        exact⟨by rw [hR2] <;> rfl,by first|exact(uZ HY).trans ((uZ HS2).mono (by have:=(uZ HY).size;omega))|(rw [hG];exact(uZ HY).trans ((uZ HS2).mono (by have:=(uZ HY).size;omega)))⟩
    ·have my:(ky == 17)=false:=beq_eq_false_iff_ne.2 hy
     have hR2:R=false:=by rw [←hR];exact decide_eq_false (fun e=>hy e.1)
     go_wp2_with fail
     go_ret
     exact⟨by rw [hR2];rfl,by first|exact uZ HX|(rw [hG];exact uZ HX)⟩
   ·have m17:(k == 17)=false:=beq_eq_false_iff_ne.2 h17
    have hR2:R=false:=by have:=uZ HR;rw [if_neg h16,if_neg h2,if_neg h17] at this;exact this.symm
    go_wp2_with fail
    go_ret
    exact⟨by rw [hR2];rfl,by first|exact uZ HX|(rw [hG];exact uZ HX)⟩
end Go.Proofs.YtjdpaihhhjdgmaaGreatDoor
