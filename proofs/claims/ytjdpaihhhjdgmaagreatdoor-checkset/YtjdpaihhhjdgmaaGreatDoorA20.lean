/-
  Layer 18 (print): a node's kids are as its kind says; conditions: the nodes lie in memory.
  Layer 18 (print): a node's kids are as its kind says; conditions: the nodes lie in memory.
-/
import Derived.Test.YtjdpaihhhjdgmaaGreatDoorA18
set_option linter.unusedVariables false
set_option linter.unusedSimpArgs false
set_option maxRecDepth 100000
set_option maxHeartbeats 8000000
namespace Go.Proofs.YtjdpaihhhjdgmaaGreatDoor
open Go.RowKit
set_option linter.unusedVariables false
set_option linter.unusedSimpArgs false
theorem kids4_any (B0:Nat) (ks:List Tn) (k vk vn p:Int) (t vs:ByteArray) (al ak a:Option Addr) (ll cl lk ck n cc:Nat) (f:Bool) (w:World) (hB:B0≤w.heap.size) (hr:RowN w B0 ks a cc) (hn:ks.length=n) (hk:k=8):Calls Tryz.prog 87 #[.agg #[.int .i64 k,.string t,.int .i64 vk,.int .i64 vn,.string vs,.slice al ll cl,.slice ak lk ck,.bool f,.slice a n cc,.int .i64 p]] w fun e w'=>e=.returned (.bool (kdB k (ks.map (·.k))))∧Below w.heap.size w w':=by
 have HK:=hZ hk
 clear hk
 obtain⟨w1,hw1⟩:=eX (w.alloc (.cells #[.int .i64 k,.string t,.int .i64 vk,.int .i64 vn,.string vs,.slice al ll cl,.slice ak lk ck,.bool f,.slice a n cc,.int .i64 p] 28))
 obtain⟨G,hG⟩:=eX (w.heap.size)
 have A1:=(al1 hw1 hG).1
 have HX:=hZ (alB hw1)
 obtain⟨c0,_,_,_,_,_,_,_,c8,_⟩:=row_ten A1
 have HA:=hZ A1
 obtain⟨R,hR⟩:=eX ((kdB k (ks.map (·.k))))
 rw [hR]
 have HR:=hZ hR
 have HW:=hZ hw1
 have HH:=hZ (And.intro (hr.later ((uZ HX).mono hB)) (And.intro hn (And.intro (Nat.le_trans hB (uZ HX).size) hB)))
 have hnb:n≤140737488351232:=by rw [←hn];exact hr.len
 have hncc:n≤cc:=by obtain⟨C,hf,_⟩:=hr;rw [←hn];exact hf.ll
 have HM:=hZ (show (ks.map (·.k)).length=n by rw [List.length_map];exact hn)
 clear hr hB hn
 clear A1 hw1 hR
 go_enter Tryz.func87,Tryz.ntmps87
 go_upto_region 1 with fail
 rw [uZ HW]
 try rw [hG]
 clear HW
 have hk:=uZ HK
 clear HK
 rcases hk with rfl
 ·by_cases hq1:n=2
  ·subst hq1
   obtain⟨hr1,hn,hB1,_⟩:=uZ HH
   obtain⟨y,z,rfl⟩:∃y z,ks=[y,z]:=by match ks,hn with|[y,z],_=>exact⟨_,_,rfl⟩
   have CG:=hZ (isGuarded_any B0 y z [] 8 vk vn p t vs al ak a ll cl lk ck 2 cc f w1 hB1 hr1 hn)
   obtain⟨q,hq⟩:=eX ((isEx y.k && decide (z.k=4)))
   rw [hq] at CG
   have HQ:=hZ hq
   clear hq
   obtain⟨x0,x1,x2,x3,x4,x5,x6,x7,x8,x9⟩:=row_ten (uZ HA)
   go_wp2_with fail
   refine(uZ CG).mono ?_
   rintro e w2 ⟨rfl,b2⟩
   have A2:=(b2.block G (lt_of_row (uZ HA))).trans (uZ HA)
   have HB:=hZ ((uZ HX).trans (b2.mono (uZ HX).size))
   have HV:=hZ (show R=q by rw [←uZ HR,kd_wh,←uZ HQ];simp)
   clear hr1 hn A2 b2 CG x0 x1 x2 x3 x4 x5 x6 x7 x8 x9
   go_wp2_with fail
   go_ret
   exact⟨by rw [uZ HV];rfl,by first|exact uZ HB|(rw [←hG];exact uZ HB)|(rw [hG];exact uZ HB)⟩
  ·have q1:¬(n:Int)=2:=by omega
   have q2:((n:Int) == 2)=false:=beq_eq_false_iff_ne.2 q1
   have q3:(n == 2)=false:=beq_eq_false_iff_ne.2 hq1
   have HV:=hZ (show R=false by rw [←uZ HR];rw [kd_wh,uZ HM,decide_eq_false hq1,Bool.false_and])
   have HB:=HX
   go_wp2_with fail
   go_ret
   exact⟨by rw [uZ HV];rfl,by first|exact uZ HB|(rw [←hG];exact uZ HB)|(rw [hG];exact uZ HB)⟩
theorem kids5_any (B0:Nat) (ks:List Tn) (k vk vn p:Int) (t vs:ByteArray) (al ak a:Option Addr) (ll cl lk ck n cc:Nat) (f:Bool) (w:World) (hB:B0≤w.heap.size) (hr:RowN w B0 ks a cc) (hn:ks.length=n) (hk:k=5∨k=9):Calls Tryz.prog 87 #[.agg #[.int .i64 k,.string t,.int .i64 vk,.int .i64 vn,.string vs,.slice al ll cl,.slice ak lk ck,.bool f,.slice a n cc,.int .i64 p]] w fun e w'=>e=.returned (.bool (kdB k (ks.map (·.k))))∧Below w.heap.size w w':=by
 have HK:=hZ hk
 clear hk
 obtain⟨w1,hw1⟩:=eX (w.alloc (.cells #[.int .i64 k,.string t,.int .i64 vk,.int .i64 vn,.string vs,.slice al ll cl,.slice ak lk ck,.bool f,.slice a n cc,.int .i64 p] 28))
 obtain⟨G,hG⟩:=eX (w.heap.size)
 have A1:=(al1 hw1 hG).1
 have HX:=hZ (alB hw1)
 obtain⟨c0,_,_,_,_,_,_,_,c8,_⟩:=row_ten A1
 have HA:=hZ A1
 obtain⟨R,hR⟩:=eX ((kdB k (ks.map (·.k))))
 rw [hR]
 have HR:=hZ hR
 have HW:=hZ hw1
 have HH:=hZ (And.intro (hr.later ((uZ HX).mono hB)) (And.intro hn (And.intro (Nat.le_trans hB (uZ HX).size) hB)))
 have hnb:n≤140737488351232:=by rw [←hn];exact hr.len
 have hncc:n≤cc:=by obtain⟨C,hf,_⟩:=hr;rw [←hn];exact hf.ll
 have HM:=hZ (show (ks.map (·.k)).length=n by rw [List.length_map];exact hn)
 clear hr hB hn
 clear A1 hw1 hR
 go_enter Tryz.func87,Tryz.ntmps87
 go_upto_region 1 with fail
 rw [uZ HW]
 try rw [hG]
 clear HW
 have hk:=uZ HK
 clear HK
 rcases hk with rfl|rfl
 ·by_cases hq1:n≤1
  ·have q1:(n:Int)≤1:=by omega
   have CC:=hZ (allG_any B0 a n cc (ks) _ (fun y=>isEx y.k) w1 call_isExpr (uZ HH).1 (uZ HH).2.1 (uZ HH).2.2.1 (fun y _=>isExpr_any_ask B0 y))
   obtain⟨q,hq⟩:=eX (ks.all (fun y=>isEx y.k))
   rw [hq] at CC
   have HQ:=hZ hq
   clear hq
   go_wp2_with fail
   refine(uZ CC).mono ?_
   rintro e w2 ⟨rfl,b2⟩
   have HV:=hZ (show R=q by rw [←uZ HR,←uZ HQ,kd_le (by omega),uZ HM,decide_eq_true hq1,Bool.true_and,all_k])
   have HB:=hZ ((uZ HX).trans (b2.mono (uZ HX).size))
   clear b2 CC
   go_wp2_with fail
   go_ret
   exact⟨by rw [uZ HV];rfl,by first|exact uZ HB|(rw [←hG];exact uZ HB)|(rw [hG];exact uZ HB)⟩
  ·have q1:¬(n:Int)≤1:=by omega
   have HV:=hZ (show R=false by rw [←uZ HR];rw [kd_le (by omega),uZ HM,decide_eq_false hq1,Bool.false_and])
   have HB:=HX
   go_wp2_with fail
   go_ret
   exact⟨by rw [uZ HV];rfl,by first|exact uZ HB|(rw [←hG];exact uZ HB)|(rw [hG];exact uZ HB)⟩
 ·by_cases hq1:n≤1
  ·have q1:(n:Int)≤1:=by omega
   have CC:=hZ (allG_any B0 a n cc (ks) _ (fun y=>isEx y.k) w1 call_isExpr (uZ HH).1 (uZ HH).2.1 (uZ HH).2.2.1 (fun y _=>isExpr_any_ask B0 y))
   obtain⟨q,hq⟩:=eX (ks.all (fun y=>isEx y.k))
   rw [hq] at CC
   have HQ:=hZ hq
   clear hq
   go_wp2_with fail
   refine(uZ CC).mono ?_
   rintro e w2 ⟨rfl,b2⟩
   have HV:=hZ (show R=q by rw [←uZ HR,←uZ HQ,kd_le (by omega),uZ HM,decide_eq_true hq1,Bool.true_and,all_k])
   have HB:=hZ ((uZ HX).trans (b2.mono (uZ HX).size))
   clear b2 CC
   go_wp2_with fail
   go_ret
   exact⟨by rw [uZ HV];rfl,by first|exact uZ HB|(rw [←hG];exact uZ HB)|(rw [hG];exact uZ HB)⟩
  ·have q1:¬(n:Int)≤1:=by omega
   have HV:=hZ (show R=false by rw [←uZ HR];rw [kd_le (by omega),uZ HM,decide_eq_false hq1,Bool.false_and])
   have HB:=HX
   go_wp2_with fail
   go_ret
   exact⟨by rw [uZ HV];rfl,by first|exact uZ HB|(rw [←hG];exact uZ HB)|(rw [hG];exact uZ HB)⟩
theorem kids7_any (B0:Nat) (ks:List Tn) (k vk vn p:Int) (t vs:ByteArray) (al ak a:Option Addr) (ll cl lk ck n cc:Nat) (f:Bool) (w:World) (hB:B0≤w.heap.size) (hr:RowN w B0 ks a cc) (hn:ks.length=n) (hk:k=17∨k=21):Calls Tryz.prog 87 #[.agg #[.int .i64 k,.string t,.int .i64 vk,.int .i64 vn,.string vs,.slice al ll cl,.slice ak lk ck,.bool f,.slice a n cc,.int .i64 p]] w fun e w'=>e=.returned (.bool (kdB k (ks.map (·.k))))∧Below w.heap.size w w':=by
 have HK:=hZ hk
 clear hk
 obtain⟨w1,hw1⟩:=eX (w.alloc (.cells #[.int .i64 k,.string t,.int .i64 vk,.int .i64 vn,.string vs,.slice al ll cl,.slice ak lk ck,.bool f,.slice a n cc,.int .i64 p] 28))
 obtain⟨G,hG⟩:=eX (w.heap.size)
 have A1:=(al1 hw1 hG).1
 have HX:=hZ (alB hw1)
 obtain⟨c0,_,_,_,_,_,_,_,c8,_⟩:=row_ten A1
 have HA:=hZ A1
 obtain⟨R,hR⟩:=eX ((kdB k (ks.map (·.k))))
 rw [hR]
 have HR:=hZ hR
 have HW:=hZ hw1
 have HH:=hZ (And.intro (hr.later ((uZ HX).mono hB)) (And.intro hn (And.intro (Nat.le_trans hB (uZ HX).size) hB)))
 have hnb:n≤140737488351232:=by rw [←hn];exact hr.len
 have hncc:n≤cc:=by obtain⟨C,hf,_⟩:=hr;rw [←hn];exact hf.ll
 have HM:=hZ (show (ks.map (·.k)).length=n by rw [List.length_map];exact hn)
 clear hr hB hn
 clear A1 hw1 hR
 go_enter Tryz.func87,Tryz.ntmps87
 go_upto_region 1 with fail
 rw [uZ HW]
 try rw [hG]
 clear HW
 have hk:=uZ HK
 clear HK
 rcases hk with rfl|rfl
 ·by_cases hq1:n=2
  ·subst hq1
   have CC:=hZ (allG_any B0 a 2 cc (ks) _ (fun y=>isEx y.k) w1 call_isExpr (uZ HH).1 (uZ HH).2.1 (uZ HH).2.2.1 (fun y _=>isExpr_any_ask B0 y))
   obtain⟨q,hq⟩:=eX (ks.all (fun y=>isEx y.k))
   rw [hq] at CC
   have HQ:=hZ hq
   clear hq
   go_wp2_with fail
   refine(uZ CC).mono ?_
   rintro e w2 ⟨rfl,b2⟩
   have HV:=hZ (show R=q by rw [←uZ HR,←uZ HQ,kd_two (by omega),uZ HM,decide_eq_true rfl,Bool.true_and,all_k])
   have HB:=hZ ((uZ HX).trans (b2.mono (uZ HX).size))
   clear b2 CC
   go_wp2_with fail
   go_ret
   exact⟨by rw [uZ HV];rfl,by first|exact uZ HB|(rw [←hG];exact uZ HB)|(rw [hG];exact uZ HB)⟩
  ·have q1:¬(n:Int)=2:=by omega
   have q2:((n:Int) == 2)=false:=beq_eq_false_iff_ne.2 q1
   have HV:=hZ (show R=false by rw [←uZ HR];rw [kd_two (by omega),uZ HM,decide_eq_false hq1,Bool.false_and])
   have HB:=HX
   go_wp2_with fail
   go_ret
   exact⟨by rw [uZ HV];rfl,by first|exact uZ HB|(rw [←hG];exact uZ HB)|(rw [hG];exact uZ HB)⟩
 ·by_cases hq1:n=2
  ·subst hq1
   have CC:=hZ (allG_any B0 a 2 cc (ks) _ (fun y=>isEx y.k) w1 call_isExpr (uZ HH).1 (uZ HH).2.1 (uZ HH).2.2.1 (fun y _=>isExpr_any_ask B0 y))
   obtain⟨q,hq⟩:=eX (ks.all (fun y=>isEx y.k))
   rw [hq] at CC
   have HQ:=hZ hq
   clear hq
   go_wp2_with fail
   refine(uZ CC).mono ?_
   rintro e w2 ⟨rfl,b2⟩
   have HV:=hZ (show R=q by rw [←uZ HR,←uZ HQ,kd_two (by omega),uZ HM,decide_eq_true rfl,Bool.true_and,all_k])
   have HB:=hZ ((uZ HX).trans (b2.mono (uZ HX).size))
   clear b2 CC
   go_wp2_with fail
   go_ret
   exact⟨by rw [uZ HV];rfl,by first|exact uZ HB|(rw [←hG];exact uZ HB)|(rw [hG];exact uZ HB)⟩
  ·have q1:¬(n:Int)=2:=by omega
   have q2:((n:Int) == 2)=false:=beq_eq_false_iff_ne.2 q1
   have HV:=hZ (show R=false by rw [←uZ HR];rw [kd_two (by omega),uZ HM,decide_eq_false hq1,Bool.false_and])
   have HB:=HX
   go_wp2_with fail
   go_ret
   exact⟨by rw [uZ HV];rfl,by first|exact uZ HB|(rw [←hG];exact uZ HB)|(rw [hG];exact uZ HB)⟩
theorem kids6_any (B0:Nat) (ks:List Tn) (k vk vn p:Int) (t vs:ByteArray) (al ak a:Option Addr) (ll cl lk ck n cc:Nat) (f:Bool) (w:World) (hB:B0≤w.heap.size) (hr:RowN w B0 ks a cc) (hn:ks.length=n) (hk:k=6∨k=12∨k=16∨k=22∨k=20):Calls Tryz.prog 87 #[.agg #[.int .i64 k,.string t,.int .i64 vk,.int .i64 vn,.string vs,.slice al ll cl,.slice ak lk ck,.bool f,.slice a n cc,.int .i64 p]] w fun e w'=>e=.returned (.bool (kdB k (ks.map (·.k))))∧Below w.heap.size w w':=by
 have HK:=hZ hk
 clear hk
 obtain⟨w1,hw1⟩:=eX (w.alloc (.cells #[.int .i64 k,.string t,.int .i64 vk,.int .i64 vn,.string vs,.slice al ll cl,.slice ak lk ck,.bool f,.slice a n cc,.int .i64 p] 28))
 obtain⟨G,hG⟩:=eX (w.heap.size)
 have A1:=(al1 hw1 hG).1
 have HX:=hZ (alB hw1)
 obtain⟨c0,_,_,_,_,_,_,_,c8,_⟩:=row_ten A1
 have HA:=hZ A1
 obtain⟨R,hR⟩:=eX ((kdB k (ks.map (·.k))))
 rw [hR]
 have HR:=hZ hR
 have HW:=hZ hw1
 have HH:=hZ (And.intro (hr.later ((uZ HX).mono hB)) (And.intro hn (And.intro (Nat.le_trans hB (uZ HX).size) hB)))
 have hnb:n≤140737488351232:=by rw [←hn];exact hr.len
 have hncc:n≤cc:=by obtain⟨C,hf,_⟩:=hr;rw [←hn];exact hf.ll
 have HM:=hZ (show (ks.map (·.k)).length=n by rw [List.length_map];exact hn)
 clear hr hB hn
 clear A1 hw1 hR
 go_enter Tryz.func87,Tryz.ntmps87
 go_upto_region 1 with fail
 rw [uZ HW]
 try rw [hG]
 clear HW
 have hk:=uZ HK
 clear HK
 rcases hk with rfl|rfl|rfl|rfl|rfl
 ·by_cases hq1:n=1
  ·subst hq1
   obtain⟨hr1,hn,hB1,_⟩:=uZ HH
   obtain⟨y,rfl⟩:∃y,ks=[y]:=List.length_eq_one_iff.1 hn
   obtain⟨b,vky,vny,vsy,aly,aky,ay,lly,cly,lky,cky,ny,ccy,rfl,hcy,hby,hny,hzy,hcelly⟩:=hr1.ten (i:=0) (y:=y) rfl
   obtain⟨ky,ty,vy,fy,ksy,py⟩:=y
   simp only at hcelly HR
   have ey0:w1.cell? b=some (.int .i64 ky):=hcelly 0 _ rfl
   have ey1:w1.cell? ⟨b.block,b.off+1,none⟩=some (.string ty):=hcelly 1 _ rfl
   have ey2:w1.cell? ⟨b.block,b.off+2,none⟩=some (.int .i64 vky):=hcelly 2 _ rfl
   have ey3:w1.cell? ⟨b.block,b.off+3,none⟩=some (.int .i64 vny):=hcelly 3 _ rfl
   have ey4:w1.cell? ⟨b.block,b.off+4,none⟩=some (.string vsy):=hcelly 4 _ rfl
   have ey5:w1.cell? ⟨b.block,b.off+5,none⟩=some (.slice aly lly cly):=hcelly 5 _ rfl
   have ey6:w1.cell? ⟨b.block,b.off+6,none⟩=some (.slice aky lky cky):=hcelly 6 _ rfl
   have ey7:w1.cell? ⟨b.block,b.off+7,none⟩=some (.bool fy):=hcelly 7 _ rfl
   have ey8:w1.cell? ⟨b.block,b.off+8,none⟩=some (.slice ay ny ccy):=hcelly 8 _ rfl
   have ey9:w1.cell? ⟨b.block,b.off+9,none⟩=some (.int .i64 py):=hcelly 9 _ rfl
   have CE:=hZ (isExpr_any ky vky vny py ty vsy aly aky ay lly cly lky cky ny ccy fy w1)
   clear hcelly hzy hny hr1 hn
   obtain⟨q,hq⟩:=eX (isEx ky)
   rw [hq] at CE
   have HV:=hZ (show R=q by rw [←uZ HR,kd_one (by omega),←hq];simp)
   clear hq
   go_wp2_with fail
   refine(uZ CE).mono ?_
   rintro e w2 ⟨rfl,b2⟩
   have HB:=hZ ((uZ HX).trans (b2.mono (uZ HX).size))
   clear b2 CE ey0 ey1 ey2 ey3 ey4 ey5 ey6 ey7 ey8 ey9
   go_wp2_with fail
   go_ret
   exact⟨by rw [uZ HV];rfl,by first|exact uZ HB|(rw [←hG];exact uZ HB)|(rw [hG];exact uZ HB)⟩
  ·have q1:¬(n:Int)=1:=by omega
   have q2:((n:Int) == 1)=false:=beq_eq_false_iff_ne.2 q1
   have q3:(n == 1)=false:=beq_eq_false_iff_ne.2 hq1
   have HV:=hZ (show R=false by rw [←uZ HR];rw [kd_one (by omega),uZ HM,decide_eq_false hq1,Bool.false_and])
   have HB:=HX
   go_wp2_with fail
   go_ret
   exact⟨by rw [uZ HV];rfl,by first|exact uZ HB|(rw [←hG];exact uZ HB)|(rw [hG];exact uZ HB)⟩
 ·by_cases hq1:n=1
  ·subst hq1
   obtain⟨hr1,hn,hB1,_⟩:=uZ HH
   obtain⟨y,rfl⟩:∃y,ks=[y]:=List.length_eq_one_iff.1 hn
   obtain⟨b,vky,vny,vsy,aly,aky,ay,lly,cly,lky,cky,ny,ccy,rfl,hcy,hby,hny,hzy,hcelly⟩:=hr1.ten (i:=0) (y:=y) rfl
   obtain⟨ky,ty,vy,fy,ksy,py⟩:=y
   simp only at hcelly HR
   have ey0:w1.cell? b=some (.int .i64 ky):=hcelly 0 _ rfl
   have ey1:w1.cell? ⟨b.block,b.off+1,none⟩=some (.string ty):=hcelly 1 _ rfl
   have ey2:w1.cell? ⟨b.block,b.off+2,none⟩=some (.int .i64 vky):=hcelly 2 _ rfl
   have ey3:w1.cell? ⟨b.block,b.off+3,none⟩=some (.int .i64 vny):=hcelly 3 _ rfl
   have ey4:w1.cell? ⟨b.block,b.off+4,none⟩=some (.string vsy):=hcelly 4 _ rfl
   have ey5:w1.cell? ⟨b.block,b.off+5,none⟩=some (.slice aly lly cly):=hcelly 5 _ rfl
   have ey6:w1.cell? ⟨b.block,b.off+6,none⟩=some (.slice aky lky cky):=hcelly 6 _ rfl
   have ey7:w1.cell? ⟨b.block,b.off+7,none⟩=some (.bool fy):=hcelly 7 _ rfl
   have ey8:w1.cell? ⟨b.block,b.off+8,none⟩=some (.slice ay ny ccy):=hcelly 8 _ rfl
   have ey9:w1.cell? ⟨b.block,b.off+9,none⟩=some (.int .i64 py):=hcelly 9 _ rfl
   have CE:=hZ (isExpr_any ky vky vny py ty vsy aly aky ay lly cly lky cky ny ccy fy w1)
   clear hcelly hzy hny hr1 hn
   obtain⟨q,hq⟩:=eX (isEx ky)
   rw [hq] at CE
   have HV:=hZ (show R=q by rw [←uZ HR,kd_one (by omega),←hq];simp)
   clear hq
   go_wp2_with fail
   refine(uZ CE).mono ?_
   rintro e w2 ⟨rfl,b2⟩
   have HB:=hZ ((uZ HX).trans (b2.mono (uZ HX).size))
   clear b2 CE ey0 ey1 ey2 ey3 ey4 ey5 ey6 ey7 ey8 ey9
   go_wp2_with fail
   go_ret
   exact⟨by rw [uZ HV];rfl,by first|exact uZ HB|(rw [←hG];exact uZ HB)|(rw [hG];exact uZ HB)⟩
  ·have q1:¬(n:Int)=1:=by omega
   have q2:((n:Int) == 1)=false:=beq_eq_false_iff_ne.2 q1
   have q3:(n == 1)=false:=beq_eq_false_iff_ne.2 hq1
   have HV:=hZ (show R=false by rw [←uZ HR];rw [kd_one (by omega),uZ HM,decide_eq_false hq1,Bool.false_and])
   have HB:=HX
   go_wp2_with fail
   go_ret
   exact⟨by rw [uZ HV];rfl,by first|exact uZ HB|(rw [←hG];exact uZ HB)|(rw [hG];exact uZ HB)⟩
 ·by_cases hq1:n=1
  ·subst hq1
   obtain⟨hr1,hn,hB1,_⟩:=uZ HH
   obtain⟨y,rfl⟩:∃y,ks=[y]:=List.length_eq_one_iff.1 hn
   obtain⟨b,vky,vny,vsy,aly,aky,ay,lly,cly,lky,cky,ny,ccy,rfl,hcy,hby,hny,hzy,hcelly⟩:=hr1.ten (i:=0) (y:=y) rfl
   obtain⟨ky,ty,vy,fy,ksy,py⟩:=y
   simp only at hcelly HR
   have ey0:w1.cell? b=some (.int .i64 ky):=hcelly 0 _ rfl
   have ey1:w1.cell? ⟨b.block,b.off+1,none⟩=some (.string ty):=hcelly 1 _ rfl
   have ey2:w1.cell? ⟨b.block,b.off+2,none⟩=some (.int .i64 vky):=hcelly 2 _ rfl
   have ey3:w1.cell? ⟨b.block,b.off+3,none⟩=some (.int .i64 vny):=hcelly 3 _ rfl
   have ey4:w1.cell? ⟨b.block,b.off+4,none⟩=some (.string vsy):=hcelly 4 _ rfl
   have ey5:w1.cell? ⟨b.block,b.off+5,none⟩=some (.slice aly lly cly):=hcelly 5 _ rfl
   have ey6:w1.cell? ⟨b.block,b.off+6,none⟩=some (.slice aky lky cky):=hcelly 6 _ rfl
   have ey7:w1.cell? ⟨b.block,b.off+7,none⟩=some (.bool fy):=hcelly 7 _ rfl
   have ey8:w1.cell? ⟨b.block,b.off+8,none⟩=some (.slice ay ny ccy):=hcelly 8 _ rfl
   have ey9:w1.cell? ⟨b.block,b.off+9,none⟩=some (.int .i64 py):=hcelly 9 _ rfl
   have CE:=hZ (isExpr_any ky vky vny py ty vsy aly aky ay lly cly lky cky ny ccy fy w1)
   clear hcelly hzy hny hr1 hn
   obtain⟨q,hq⟩:=eX (isEx ky)
   rw [hq] at CE
   have HV:=hZ (show R=q by rw [←uZ HR,kd_one (by omega),←hq];simp)
   clear hq
   go_wp2_with fail
   refine(uZ CE).mono ?_
   rintro e w2 ⟨rfl,b2⟩
   have HB:=hZ ((uZ HX).trans (b2.mono (uZ HX).size))
   clear b2 CE ey0 ey1 ey2 ey3 ey4 ey5 ey6 ey7 ey8 ey9
   go_wp2_with fail
   go_ret
   exact⟨by rw [uZ HV];rfl,by first|exact uZ HB|(rw [←hG];exact uZ HB)|(rw [hG];exact uZ HB)⟩
  ·have q1:¬(n:Int)=1:=by omega
   have q2:((n:Int) == 1)=false:=beq_eq_false_iff_ne.2 q1
   have q3:(n == 1)=false:=beq_eq_false_iff_ne.2 hq1
   have HV:=hZ (show R=false by rw [←uZ HR];rw [kd_one (by omega),uZ HM,decide_eq_false hq1,Bool.false_and])
   have HB:=HX
   go_wp2_with fail
   go_ret
   exact⟨by rw [uZ HV];rfl,by first|exact uZ HB|(rw [←hG];exact uZ HB)|(rw [hG];exact uZ HB)⟩
 ·by_cases hq1:n=1
  ·subst hq1
   obtain⟨hr1,hn,hB1,_⟩:=uZ HH
   obtain⟨y,rfl⟩:∃y,ks=[y]:=List.length_eq_one_iff.1 hn
   obtain⟨b,vky,vny,vsy,aly,aky,ay,lly,cly,lky,cky,ny,ccy,rfl,hcy,hby,hny,hzy,hcelly⟩:=hr1.ten (i:=0) (y:=y) rfl
   obtain⟨ky,ty,vy,fy,ksy,py⟩:=y
   simp only at hcelly HR
   have ey0:w1.cell? b=some (.int .i64 ky):=hcelly 0 _ rfl
   have ey1:w1.cell? ⟨b.block,b.off+1,none⟩=some (.string ty):=hcelly 1 _ rfl
   have ey2:w1.cell? ⟨b.block,b.off+2,none⟩=some (.int .i64 vky):=hcelly 2 _ rfl
   have ey3:w1.cell? ⟨b.block,b.off+3,none⟩=some (.int .i64 vny):=hcelly 3 _ rfl
   have ey4:w1.cell? ⟨b.block,b.off+4,none⟩=some (.string vsy):=hcelly 4 _ rfl
   have ey5:w1.cell? ⟨b.block,b.off+5,none⟩=some (.slice aly lly cly):=hcelly 5 _ rfl
   have ey6:w1.cell? ⟨b.block,b.off+6,none⟩=some (.slice aky lky cky):=hcelly 6 _ rfl
   have ey7:w1.cell? ⟨b.block,b.off+7,none⟩=some (.bool fy):=hcelly 7 _ rfl
   have ey8:w1.cell? ⟨b.block,b.off+8,none⟩=some (.slice ay ny ccy):=hcelly 8 _ rfl
   have ey9:w1.cell? ⟨b.block,b.off+9,none⟩=some (.int .i64 py):=hcelly 9 _ rfl
   have CE:=hZ (isExpr_any ky vky vny py ty vsy aly aky ay lly cly lky cky ny ccy fy w1)
   clear hcelly hzy hny hr1 hn
   obtain⟨q,hq⟩:=eX (isEx ky)
   rw [hq] at CE
   have HV:=hZ (show R=q by rw [←uZ HR,kd_one (by omega),←hq];simp)
   clear hq
   go_wp2_with fail
   refine(uZ CE).mono ?_
   rintro e w2 ⟨rfl,b2⟩
   have HB:=hZ ((uZ HX).trans (b2.mono (uZ HX).size))
   clear b2 CE ey0 ey1 ey2 ey3 ey4 ey5 ey6 ey7 ey8 ey9
   go_wp2_with fail
   go_ret
   exact⟨by rw [uZ HV];rfl,by first|exact uZ HB|(rw [←hG];exact uZ HB)|(rw [hG];exact uZ HB)⟩
  ·have q1:¬(n:Int)=1:=by omega
   have q2:((n:Int) == 1)=false:=beq_eq_false_iff_ne.2 q1
   have q3:(n == 1)=false:=beq_eq_false_iff_ne.2 hq1
   have HV:=hZ (show R=false by rw [←uZ HR];rw [kd_one (by omega),uZ HM,decide_eq_false hq1,Bool.false_and])
   have HB:=HX
   go_wp2_with fail
   go_ret
   exact⟨by rw [uZ HV];rfl,by first|exact uZ HB|(rw [←hG];exact uZ HB)|(rw [hG];exact uZ HB)⟩
 ·by_cases hq1:n=1
  ·subst hq1
   obtain⟨hr1,hn,hB1,_⟩:=uZ HH
   obtain⟨y,rfl⟩:∃y,ks=[y]:=List.length_eq_one_iff.1 hn
   obtain⟨b,vky,vny,vsy,aly,aky,ay,lly,cly,lky,cky,ny,ccy,rfl,hcy,hby,hny,hzy,hcelly⟩:=hr1.ten (i:=0) (y:=y) rfl
   obtain⟨ky,ty,vy,fy,ksy,py⟩:=y
   simp only at hcelly HR
   have ey0:w1.cell? b=some (.int .i64 ky):=hcelly 0 _ rfl
   have ey1:w1.cell? ⟨b.block,b.off+1,none⟩=some (.string ty):=hcelly 1 _ rfl
   have ey2:w1.cell? ⟨b.block,b.off+2,none⟩=some (.int .i64 vky):=hcelly 2 _ rfl
   have ey3:w1.cell? ⟨b.block,b.off+3,none⟩=some (.int .i64 vny):=hcelly 3 _ rfl
   have ey4:w1.cell? ⟨b.block,b.off+4,none⟩=some (.string vsy):=hcelly 4 _ rfl
   have ey5:w1.cell? ⟨b.block,b.off+5,none⟩=some (.slice aly lly cly):=hcelly 5 _ rfl
   have ey6:w1.cell? ⟨b.block,b.off+6,none⟩=some (.slice aky lky cky):=hcelly 6 _ rfl
   have ey7:w1.cell? ⟨b.block,b.off+7,none⟩=some (.bool fy):=hcelly 7 _ rfl
   have ey8:w1.cell? ⟨b.block,b.off+8,none⟩=some (.slice ay ny ccy):=hcelly 8 _ rfl
   have ey9:w1.cell? ⟨b.block,b.off+9,none⟩=some (.int .i64 py):=hcelly 9 _ rfl
   have CE:=hZ (isExpr_any ky vky vny py ty vsy aly aky ay lly cly lky cky ny ccy fy w1)
   clear hcelly hzy hny hr1 hn
   obtain⟨q,hq⟩:=eX (isEx ky)
   rw [hq] at CE
   have HV:=hZ (show R=q by rw [←uZ HR,kd_one (by omega),←hq];simp)
   clear hq
   go_wp2_with fail
   refine(uZ CE).mono ?_
   rintro e w2 ⟨rfl,b2⟩
   have HB:=hZ ((uZ HX).trans (b2.mono (uZ HX).size))
   clear b2 CE ey0 ey1 ey2 ey3 ey4 ey5 ey6 ey7 ey8 ey9
   go_wp2_with fail
   go_ret
   exact⟨by rw [uZ HV];rfl,by first|exact uZ HB|(rw [←hG];exact uZ HB)|(rw [hG];exact uZ HB)⟩
  ·have q1:¬(n:Int)=1:=by omega
   have q2:((n:Int) == 1)=false:=beq_eq_false_iff_ne.2 q1
   have q3:(n == 1)=false:=beq_eq_false_iff_ne.2 hq1
   have HV:=hZ (show R=false by rw [←uZ HR];rw [kd_one (by omega),uZ HM,decide_eq_false hq1,Bool.false_and])
   have HB:=HX
   go_wp2_with fail
   go_ret
   exact⟨by rw [uZ HV];rfl,by first|exact uZ HB|(rw [←hG];exact uZ HB)|(rw [hG];exact uZ HB)⟩
end Go.Proofs.YtjdpaihhhjdgmaaGreatDoor
