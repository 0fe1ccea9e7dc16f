/-
  Layer 18 (print): a node's kids are as its kind says; conditions: the nodes lie in memory.
  Layer 18 (print): a node's kids are as its kind says; conditions: the nodes lie in memory.
  Layer 18 (print): a tree has its form; conditions: the nodes lie in memory.
-/
import Derived.Test.YtjdpaihhhjdgmaaGreatDoorA18
import Derived.Test.YtjdpaihhhjdgmaaGreatDoorA19
import Derived.Test.YtjdpaihhhjdgmaaGreatDoorA20
set_option linter.unusedVariables false
set_option linter.unusedSimpArgs false
set_option maxRecDepth 100000
set_option maxHeartbeats 8000000
namespace Go.Proofs.YtjdpaihhhjdgmaaGreatDoor
open Go.RowKit
set_option linter.unusedVariables false
set_option linter.unusedSimpArgs false
theorem kids8_any (B0:Nat) (ks:List Tn) (k vk vn p:Int) (t vs:ByteArray) (al ak a:Option Addr) (ll cl lk ck n cc:Nat) (f:Bool) (w:World) (hB:B0≤w.heap.size) (hr:RowN w B0 ks a cc) (hn:ks.length=n) (hk:k=15∨k=18):Calls Tryz.prog 87 #[.agg #[.int .i64 k,.string t,.int .i64 vk,.int .i64 vn,.string vs,.slice al ll cl,.slice ak lk ck,.bool f,.slice a n cc,.int .i64 p]] w fun e w'=>e=.returned (.bool (kdB k (ks.map (·.k))))∧Below w.heap.size w w':=by
 have HK:=hZ hk
 clear hk
 obtain⟨w1,hw1⟩:=eX (w.alloc (.cells #[.int .i64 k,.string t,.int .i64 vk,.int .i64 vn,.string vs,.slice al ll cl,.slice ak lk ck,.bool f,.slice a n cc,.int .i64 p] 28))
 obtain⟨G,hG⟩:=eX (w.heap.size)
 have A1:=(al1 hw1 hG).1
 have HX:=hZ (alB hw1)
 obtain⟨c0,_,_,_,_,_,_,_,c8,_⟩:=row_ten A1
 have HA:=hZ A1
 obtain⟨R,hR⟩:=eX ((kdB k (ks.map (·.k))))
 rw [hR]
 have HR:=hZ hR
 have HW:=hZ hw1
 have HH:=hZ (And.intro (hr.later ((uZ HX).mono hB)) (And.intro hn (And.intro (Nat.le_trans hB (uZ HX).size) hB)))
 have hnb:n≤140737488351232:=by rw [←hn];exact hr.len
 have hncc:n≤cc:=by obtain⟨C,hf,_⟩:=hr;rw [←hn];exact hf.ll
 have HM:=hZ (show (ks.map (·.k)).length=n by rw [List.length_map];exact hn)
 clear hr hB hn
 clear A1 hw1 hR
 go_enter Tryz.func87,Tryz.ntmps87
 go_upto_region 1 with fail
 rw [uZ HW]
 try rw [hG]
 clear HW
 have hk:=uZ HK
 clear HK
 rcases hk with rfl|rfl
 ·have CC:=hZ (allG_any B0 a n cc (ks) _ (fun y=>isEx y.k) w1 call_isExpr (uZ HH).1 (uZ HH).2.1 (uZ HH).2.2.1 (fun y _=>isExpr_any_ask B0 y))
  obtain⟨q,hq⟩:=eX (ks.all (fun y=>isEx y.k))
  rw [hq] at CC
  have HQ:=hZ hq
  clear hq
  go_wp2_with fail
  refine(uZ CC).mono ?_
  rintro e w2 ⟨rfl,b2⟩
  have HV:=hZ (show R=q by rw [←uZ HR,←uZ HQ,kd_ex (by omega),all_k])
  have HB:=hZ ((uZ HX).trans (b2.mono (uZ HX).size))
  clear b2 CC
  go_wp2_with fail
  go_ret
  exact⟨by rw [uZ HV];rfl,by first|exact uZ HB|(rw [←hG];exact uZ HB)|(rw [hG];exact uZ HB)⟩
 ·have CC:=hZ (allG_any B0 a n cc (ks) _ (fun y=>isEx y.k) w1 call_isExpr (uZ HH).1 (uZ HH).2.1 (uZ HH).2.2.1 (fun y _=>isExpr_any_ask B0 y))
  obtain⟨q,hq⟩:=eX (ks.all (fun y=>isEx y.k))
  rw [hq] at CC
  have HQ:=hZ hq
  clear hq
  go_wp2_with fail
  refine(uZ CC).mono ?_
  rintro e w2 ⟨rfl,b2⟩
  have HV:=hZ (show R=q by rw [←uZ HR,←uZ HQ,kd_ex (by omega),all_k])
  have HB:=hZ ((uZ HX).trans (b2.mono (uZ HX).size))
  clear b2 CC
  go_wp2_with fail
  go_ret
  exact⟨by rw [uZ HV];rfl,by first|exact uZ HB|(rw [←hG];exact uZ HB)|(rw [hG];exact uZ HB)⟩
theorem kids9_any (B0:Nat) (ks:List Tn) (k vk vn p:Int) (t vs:ByteArray) (al ak a:Option Addr) (ll cl lk ck n cc:Nat) (f:Bool) (w:World) (hB:B0≤w.heap.size) (hr:RowN w B0 ks a cc) (hn:ks.length=n) (hk:k=19):Calls Tryz.prog 87 #[.agg #[.int .i64 k,.string t,.int .i64 vk,.int .i64 vn,.string vs,.slice al ll cl,.slice ak lk ck,.bool f,.slice a n cc,.int .i64 p]] w fun e w'=>e=.returned (.bool (kdB k (ks.map (·.k))))∧Below w.heap.size w w':=by
 have HK:=hZ hk
 clear hk
 obtain⟨w1,hw1⟩:=eX (w.alloc (.cells #[.int .i64 k,.string t,.int .i64 vk,.int .i64 vn,.string vs,.slice al ll cl,.slice ak lk ck,.bool f,.slice a n cc,.int .i64 p] 28))
 obtain⟨G,hG⟩:=eX (w.heap.size)
 have A1:=(al1 hw1 hG).1
 have HX:=hZ (alB hw1)
 obtain⟨c0,_,_,_,_,_,_,_,c8,_⟩:=row_ten A1
 have HA:=hZ A1
 obtain⟨R,hR⟩:=eX ((kdB k (ks.map (·.k))))
 rw [hR]
 have HR:=hZ hR
 have HW:=hZ hw1
 have HH:=hZ (And.intro (hr.later ((uZ HX).mono hB)) (And.intro hn (And.intro (Nat.le_trans hB (uZ HX).size) hB)))
 have hnb:n≤140737488351232:=by rw [←hn];exact hr.len
 have hncc:n≤cc:=by obtain⟨C,hf,_⟩:=hr;rw [←hn];exact hf.ll
 have HM:=hZ (show (ks.map (·.k)).length=n by rw [List.length_map];exact hn)
 clear hr hB hn
 clear A1 hw1 hR
 go_enter Tryz.func87,Tryz.ntmps87
 go_upto_region 1 with fail
 rw [uZ HW]
 try rw [hG]
 clear HW
 have hk:=uZ HK
 clear HK
 rcases hk with rfl
 ·have CC:=hZ (allG_any B0 a n cc (ks) _ (fun y=>decide (y.k=20)) w1 call_isPair (uZ HH).1 (uZ HH).2.1 (uZ HH).2.2.1 (fun y _=>isPair_any_ask B0 y))
  obtain⟨q,hq⟩:=eX (ks.all (fun y=>decide (y.k=20)))
  rw [hq] at CC
  have HQ:=hZ hq
  clear hq
  go_wp2_with fail
  refine(uZ CC).mono ?_
  rintro e w2 ⟨rfl,b2⟩
  have HV:=hZ (show R=q by rw [←uZ HR,←uZ HQ,show kdB 19 (ks.map (·.k))=(ks.map (·.k)).all (fun x=>decide (x=20)) by simp [kdB],all_k])
  have HB:=hZ ((uZ HX).trans (b2.mono (uZ HX).size))
  clear b2 CC
  go_wp2_with fail
  go_ret
  exact⟨by rw [uZ HV];rfl,by first|exact uZ HB|(rw [←hG];exact uZ HB)|(rw [hG];exact uZ HB)⟩
theorem kids10_any (B0:Nat) (ks:List Tn) (k vk vn p:Int) (t vs:ByteArray) (al ak a:Option Addr) (ll cl lk ck n cc:Nat) (f:Bool) (w:World) (hB:B0≤w.heap.size) (hr:RowN w B0 ks a cc) (hn:ks.length=n) (hk:k=3∨k=10∨k=11∨k=13∨k=14):Calls Tryz.prog 87 #[.agg #[.int .i64 k,.string t,.int .i64 vk,.int .i64 vn,.string vs,.slice al ll cl,.slice ak lk ck,.bool f,.slice a n cc,.int .i64 p]] w fun e w'=>e=.returned (.bool (kdB k (ks.map (·.k))))∧Below w.heap.size w w':=by
 have HK:=hZ hk
 clear hk
 obtain⟨w1,hw1⟩:=eX (w.alloc (.cells #[.int .i64 k,.string t,.int .i64 vk,.int .i64 vn,.string vs,.slice al ll cl,.slice ak lk ck,.bool f,.slice a n cc,.int .i64 p] 28))
 obtain⟨G,hG⟩:=eX (w.heap.size)
 have A1:=(al1 hw1 hG).1
 have HX:=hZ (alB hw1)
 obtain⟨c0,_,_,_,_,_,_,_,c8,_⟩:=row_ten A1
 have HA:=hZ A1
 obtain⟨R,hR⟩:=eX ((kdB k (ks.map (·.k))))
 rw [hR]
 have HR:=hZ hR
 have HW:=hZ hw1
 have HH:=hZ (And.intro (hr.later ((uZ HX).mono hB)) (And.intro hn (And.intro (Nat.le_trans hB (uZ HX).size) hB)))
 have hnb:n≤140737488351232:=by rw [←hn];exact hr.len
 have hncc:n≤cc:=by obtain⟨C,hf,_⟩:=hr;rw [←hn];exact hf.ll
 have HM:=hZ (show (ks.map (·.k)).length=n by rw [List.length_map];exact hn)
 clear hr hB hn
 clear A1 hw1 hR
 go_enter Tryz.func87,Tryz.ntmps87
 go_upto_region 1 with fail
 rw [uZ HW]
 try rw [hG]
 clear HW
 have hk:=uZ HK
 clear HK
 rcases hk with rfl|rfl|rfl|rfl|rfl
 ·by_cases hq1:n=0
  ·have q1:(n:Int)=0:=by omega
   have q2:((n:Int) == 0)=true:=by simpa using q1
   have HV:=hZ (show R=true by rw [←uZ HR,kd_none (by omega),uZ HM,decide_eq_true hq1])
   have HB:=HX
   go_wp2_with fail
   go_ret
   exact⟨by rw [uZ HV];rfl,by first|exact uZ HB|(rw [←hG];exact uZ HB)|(rw [hG];exact uZ HB)⟩
  ·have q1:¬(n:Int)=0:=by omega
   have q2:((n:Int) == 0)=false:=beq_eq_false_iff_ne.2 q1
   have q3:(n == 0)=false:=beq_eq_false_iff_ne.2 hq1
   have HV:=hZ (show R=false by rw [←uZ HR];rw [kd_none (by omega),uZ HM,decide_eq_false hq1])
   have HB:=HX
   go_wp2_with fail
   go_ret
   exact⟨by rw [uZ HV];rfl,by first|exact uZ HB|(rw [←hG];exact uZ HB)|(rw [hG];exact uZ HB)⟩
 ·by_cases hq1:n=0
  ·have q1:(n:Int)=0:=by omega
   have q2:((n:Int) == 0)=true:=by simpa using q1
   have HV:=hZ (show R=true by rw [←uZ HR,kd_none (by omega),uZ HM,decide_eq_true hq1])
   have HB:=HX
   go_wp2_with fail
   go_ret
   exact⟨by rw [uZ HV];rfl,by first|exact uZ HB|(rw [←hG];exact uZ HB)|(rw [hG];exact uZ HB)⟩
  ·have q1:¬(n:Int)=0:=by omega
   have q2:((n:Int) == 0)=false:=beq_eq_false_iff_ne.2 q1
   have q3:(n == 0)=false:=beq_eq_false_iff_ne.2 hq1
   have HV:=hZ (show R=false by rw [←uZ HR];rw [kd_none (by omega),uZ HM,decide_eq_false hq1])
   have HB:=HX
   go_wp2_with fail
   go_ret
   exact⟨by rw [uZ HV];rfl,by first|exact uZ HB|(rw [←hG];exact uZ HB)|(rw [hG];exact uZ HB)⟩
 ·by_cases hq1:n=0
  ·have q1:(n:Int)=0:=by omega
   have q2:((n:Int) == 0)=true:=by simpa using q1
   have HV:=hZ (show R=true by rw [←uZ HR,kd_none (by omega),uZ HM,decide_eq_true hq1])
   have HB:=HX
   go_wp2_with fail
   go_ret
   exact⟨by rw [uZ HV];rfl,by first|exact uZ HB|(rw [←hG];exact uZ HB)|(rw [hG];exact uZ HB)⟩
  ·have q1:¬(n:Int)=0:=by omega
   have q2:((n:Int) == 0)=false:=beq_eq_false_iff_ne.2 q1
   have q3:(n == 0)=false:=beq_eq_false_iff_ne.2 hq1
   have HV:=hZ (show R=false by rw [←uZ HR];rw [kd_none (by omega),uZ HM,decide_eq_false hq1])
   have HB:=HX
   go_wp2_with fail
   go_ret
   exact⟨by rw [uZ HV];rfl,by first|exact uZ HB|(rw [←hG];exact uZ HB)|(rw [hG];exact uZ HB)⟩
 ·by_cases hq1:n=0
  ·have q1:(n:Int)=0:=by omega
   have q2:((n:Int) == 0)=true:=by simpa using q1
   have HV:=hZ (show R=true by rw [←uZ HR,kd_none (by omega),uZ HM,decide_eq_true hq1])
   have HB:=HX
   go_wp2_with fail
   go_ret
   exact⟨by rw [uZ HV];rfl,by first|exact uZ HB|(rw [←hG];exact uZ HB)|(rw [hG];exact uZ HB)⟩
  ·have q1:¬(n:Int)=0:=by omega
   have q2:((n:Int) == 0)=false:=beq_eq_false_iff_ne.2 q1
   have q3:(n == 0)=false:=beq_eq_false_iff_ne.2 hq1
   have HV:=hZ (show R=false by rw [←uZ HR];rw [kd_none (by omega),uZ HM,decide_eq_false hq1])
   have HB:=HX
   go_wp2_with fail
   go_ret
   exact⟨by rw [uZ HV];rfl,by first|exact uZ HB|(rw [←hG];exact uZ HB)|(rw [hG];exact uZ HB)⟩
 ·by_cases hq1:n=0
  ·have q1:(n:Int)=0:=by omega
   have q2:((n:Int) == 0)=true:=by simpa using q1
   have HV:=hZ (show R=true by rw [←uZ HR,kd_none (by omega),uZ HM,decide_eq_true hq1])
   have HB:=HX
   go_wp2_with fail
   go_ret
   exact⟨by rw [uZ HV];rfl,by first|exact uZ HB|(rw [←hG];exact uZ HB)|(rw [hG];exact uZ HB)⟩
  ·have q1:¬(n:Int)=0:=by omega
   have q2:((n:Int) == 0)=false:=beq_eq_false_iff_ne.2 q1
   have q3:(n == 0)=false:=beq_eq_false_iff_ne.2 hq1
   have HV:=hZ (show R=false by rw [←uZ HR];rw [kd_none (by omega),uZ HM,decide_eq_false hq1])
   have HB:=HX
   go_wp2_with fail
   go_ret
   exact⟨by rw [uZ HV];rfl,by first|exact uZ HB|(rw [←hG];exact uZ HB)|(rw [hG];exact uZ HB)⟩
theorem kidsR_any (B0:Nat) (ks:List Tn) (k vk vn p:Int) (t vs:ByteArray) (al ak a:Option Addr) (ll cl lk ck n cc:Nat) (f:Bool) (w:World) (hB:B0≤w.heap.size) (hr:RowN w B0 ks a cc) (hn:ks.length=n) (hk:¬k=1∧¬k=2∧¬k=4∧¬k=7∧¬k=8∧¬k=5∧¬k=9∧¬k=6∧¬k=12∧¬k=16∧¬k=22∧¬k=20∧¬k=17∧¬k=21∧¬k=15∧¬k=18∧¬k=19∧¬k=3∧¬k=10∧¬k=11∧¬k=13∧¬k=14):Calls Tryz.prog 87 #[.agg #[.int .i64 k,.string t,.int .i64 vk,.int .i64 vn,.string vs,.slice al ll cl,.slice ak lk ck,.bool f,.slice a n cc,.int .i64 p]] w fun e w'=>e=.returned (.bool (kdB k (ks.map (·.k))))∧Below w.heap.size w w':=by
 obtain⟨w1,hw1⟩:=eX (w.alloc (.cells #[.int .i64 k,.string t,.int .i64 vk,.int .i64 vn,.string vs,.slice al ll cl,.slice ak lk ck,.bool f,.slice a n cc,.int .i64 p] 28))
 obtain⟨G,hG⟩:=eX (w.heap.size)
 have A1:=(al1 hw1 hG).1
 have HX:=hZ (alB hw1)
 obtain⟨c0,_,_,_,_,_,_,_,c8,_⟩:=row_ten A1
 have HA:=hZ A1
 obtain⟨R,hR⟩:=eX ((kdB k (ks.map (·.k))))
 rw [hR]
 have HR:=hZ hR
 have HW:=hZ hw1
 have HH:=hZ (And.intro (hr.later ((uZ HX).mono hB)) (And.intro hn (And.intro (Nat.le_trans hB (uZ HX).size) hB)))
 have hnb:n≤140737488351232:=by rw [←hn];exact hr.len
 have hncc:n≤cc:=by obtain⟨C,hf,_⟩:=hr;rw [←hn];exact hf.ll
 have HM:=hZ (show (ks.map (·.k)).length=n by rw [List.length_map];exact hn)
 clear hr hB hn
 clear A1 hw1 hR
 go_enter Tryz.func87,Tryz.ntmps87
 go_upto_region 1 with fail
 rw [uZ HW]
 try rw [hG]
 clear HW
 obtain⟨q1,q2,q4,q7,q8,q5,q9,q6,q12,q16,q22,q20,q17,q21,q15,q18,q19,q3,q10,q11,q13,q14⟩:=hk
 have m1:(k == 1)=false:=beq_eq_false_iff_ne.2 q1
 have m2:(k == 2)=false:=beq_eq_false_iff_ne.2 q2
 have m4:(k == 4)=false:=beq_eq_false_iff_ne.2 q4
 have m7:(k == 7)=false:=beq_eq_false_iff_ne.2 q7
 have m8:(k == 8)=false:=beq_eq_false_iff_ne.2 q8
 have m5:(k == 5)=false:=beq_eq_false_iff_ne.2 q5
 have m9:(k == 9)=false:=beq_eq_false_iff_ne.2 q9
 have m6:(k == 6)=false:=beq_eq_false_iff_ne.2 q6
 have m12:(k == 12)=false:=beq_eq_false_iff_ne.2 q12
 have m16:(k == 16)=false:=beq_eq_false_iff_ne.2 q16
 have m22:(k == 22)=false:=beq_eq_false_iff_ne.2 q22
 have m20:(k == 20)=false:=beq_eq_false_iff_ne.2 q20
 have m17:(k == 17)=false:=beq_eq_false_iff_ne.2 q17
 have m21:(k == 21)=false:=beq_eq_false_iff_ne.2 q21
 have m15:(k == 15)=false:=beq_eq_false_iff_ne.2 q15
 have m18:(k == 18)=false:=beq_eq_false_iff_ne.2 q18
 have m19:(k == 19)=false:=beq_eq_false_iff_ne.2 q19
 have m3:(k == 3)=false:=beq_eq_false_iff_ne.2 q3
 have m10:(k == 10)=false:=beq_eq_false_iff_ne.2 q10
 have m11:(k == 11)=false:=beq_eq_false_iff_ne.2 q11
 have m13:(k == 13)=false:=beq_eq_false_iff_ne.2 q13
 have m14:(k == 14)=false:=beq_eq_false_iff_ne.2 q14
 have HV:=hZ (show R=false by rw [←uZ HR];simp [kdB,q1,q2,q3,q4,q5,q6,q7,q8,q9,q10,q11,q12,q13,q14,q15,q16,q17,q18,q19,q20,q21,q22])
 have HB:=HX
 go_wp2_with fail
 go_ret
 exact⟨by rw [uZ HV];rfl,by first|exact uZ HB|(rw [←hG];exact uZ HB)|(rw [hG];exact uZ HB)⟩
theorem kidsFit_any (B0:Nat) (ks:List Tn) (k vk vn p:Int) (t vs:ByteArray) (al ak a:Option Addr) (ll cl lk ck n cc:Nat) (f:Bool) (w:World) (hB:B0≤w.heap.size) (hr:RowN w B0 ks a cc) (hn:ks.length=n):Calls Tryz.prog 87 #[.agg #[.int .i64 k,.string t,.int .i64 vk,.int .i64 vn,.string vs,.slice al ll cl,.slice ak lk ck,.bool f,.slice a n cc,.int .i64 p]] w fun e w'=>e=.returned (.bool (kdB k (ks.map (·.k))))∧Below w.heap.size w w':=by
 by_cases h0:k=1
 ·exact kids0_any B0 ks k vk vn p t vs al ak a ll cl lk ck n cc f w hB hr hn h0
 by_cases h1:k=2
 ·exact kids1_any B0 ks k vk vn p t vs al ak a ll cl lk ck n cc f w hB hr hn h1
 by_cases h2:k=4
 ·exact kids2_any B0 ks k vk vn p t vs al ak a ll cl lk ck n cc f w hB hr hn h2
 by_cases h3:k=7
 ·exact kids3_any B0 ks k vk vn p t vs al ak a ll cl lk ck n cc f w hB hr hn h3
 by_cases h4:k=8
 ·exact kids4_any B0 ks k vk vn p t vs al ak a ll cl lk ck n cc f w hB hr hn h4
 by_cases h5:k=5∨k=9
 ·exact kids5_any B0 ks k vk vn p t vs al ak a ll cl lk ck n cc f w hB hr hn h5
 by_cases h6:k=6∨k=12∨k=16∨k=22∨k=20
 ·exact kids6_any B0 ks k vk vn p t vs al ak a ll cl lk ck n cc f w hB hr hn h6
 by_cases h7:k=17∨k=21
 ·exact kids7_any B0 ks k vk vn p t vs al ak a ll cl lk ck n cc f w hB hr hn h7
 by_cases h8:k=15∨k=18
 ·exact kids8_any B0 ks k vk vn p t vs al ak a ll cl lk ck n cc f w hB hr hn h8
 by_cases h9:k=19
 ·exact kids9_any B0 ks k vk vn p t vs al ak a ll cl lk ck n cc f w hB hr hn h9
 by_cases h10:k=3∨k=10∨k=11∨k=13∨k=14
 ·exact kids10_any B0 ks k vk vn p t vs al ak a ll cl lk ck n cc f w hB hr hn h10
 exact kidsR_any B0 ks k vk vn p t vs al ak a ll cl lk ck n cc f w hB hr hn (by omega)
theorem cns_mem:∀(l:List Tn) (y:Tn),y∈l→cns [y]≤cns l
 |[],y,h=>by cases h
 |.mk k t v f ks p :: r,y,h=>by
  rcases List.mem_cons.1 h with rfl|h
  ·simp [cns]
  ·have:=cns_mem r y h
   simp only [cns] at this ⊢
   omega
theorem Below.cellsAt {w u:World} {g:Nat} {o:Obj} (h:Below w.heap.size w u) (hg:w.heap[g]?=some o):u.heap[g]?=some o:=(h.block g (Array.getElem?_eq_some_iff.1 hg).1).trans hg
def FormAt (N:Nat):Prop:=∀(B0:Nat) (y:Tn),cns [y]≤N→∀(x:List Value) (u:World),B0≤u.heap.size→IsN u (fun b=>b<B0) y x→Calls Tryz.prog 40 #[.agg x.toArray] u fun e u'=>e=.returned (.bool (fmB y))∧Below u.heap.size u u'
theorem call_formed (x:Array Value) (u:World):Sem.run Tryz.prog (callFunc 40 x) u=.ok (.enter 40 x) u:=by kernel_rfl
theorem formed_step (N:Nat) (ih:FormAt N):FormAt (N+1):=by
 intro B0 y hN x w hB hx
 have hx0:=hx
 obtain⟨vk,vn,vs,al,ak,a,ll,cl,lk,ck,cc,rfl,hv,hr,hbk,hbp⟩:=hx.opn
 obtain⟨k,t,v,f,ks,p⟩:=y
 simp only at hv hr hx0 ⊢
 obtain⟨n,hn⟩:=eX (ks.length)
 simp only [hn] at hx0 ⊢
 have hsub:∀z∈ks,cns [z]≤N:=fun z hz=>by
  have h1:=cns_mem ks z hz
  have h2:cns [⟨k,t,v,f,ks,p⟩]=1+cvs v.l+cns ks:=cns_one _
  omega
 obtain⟨w1,hw1⟩:=eX (w.alloc (.cells #[.int .i64 k,.string t,.int .i64 vk,.int .i64 vn,.string vs,.slice al ll cl,.slice ak lk ck,.bool f,.slice a n cc,.int .i64 p] 28))
 obtain⟨G,hG⟩:=eX (w.heap.size)
 obtain⟨A1,X1⟩:=al1 hw1 hG
 have hBG:B0≤G:=by rw [←hG];exact hB
 have HM:Hid (∀u,Below G w u→IsV u B0 v (.agg #[.int .i64 vk,.int .i64 vn,.string vs,.slice al ll cl,.slice ak lk ck])∧RowN u B0 ks a cc∧B0≤u.heap.size):=hZ (fun u b=>⟨hv.mono (b.mono hBG),hr.later (b.mono hBG),Nat.le_trans hB b.size⟩)
 have HS:=hZ (And.intro hn (And.intro hsub hBG))
 obtain⟨R,hR⟩:=eX (fmB ⟨k,t,v,f,ks,p⟩)
 rw [hR]
 have hR':(txB k t && flB k f && vlB k v && kdB k (ks.map (·.k)) && ks.all fmB)=R:=by rw [←hR,←fmL_all];rfl
 have HR:=hZ hR'
 have HA:=hZ A1
 have HX:=hZ X1
 have HW:=hZ hw1
 have hGs:Hid (G≤w1.heap.size):=hZ (Nat.le_of_lt (lt_of_row A1))
 clear A1 X1 hw1 hR hR' hv hr hx hx0 hbk hbp hn hsub hBG hB
 go_enter Tryz.func40,Tryz.ntmps40
 go_upto_region 1 with fail
 rw [uZ HW]
 try rw [hG]
 clear HW
 have C1:=hZ (textFits_any k vk vn p t vs al ak a ll cl lk ck n cc f w1)
 obtain⟨q1,hq1⟩:=eX (txB k t)
 rw [hq1] at C1
 have HQ1:=hZ hq1
 clear hq1
 obtain⟨x0,x1,x2,x3,x4,x5,x6,x7,x8,x9⟩:=row_ten (uZ HA)
 rw [uZ HQ1] at HR
 go_wp2_with fail
 refine(uZ C1).mono ?_
 rintro e w2 ⟨rfl,b⟩
 have HA2:=hZ ((b.block G (lt_of_row (uZ HA))).trans (uZ HA))
 have HX2:=hZ ((uZ HX).trans (b.mono (uZ hGs)))
 have hGs2:=hZ (Nat.le_trans (uZ hGs) b.size)
 clear b C1 x0 x1 x2 x3 x4 x5 x6 x7 x8 x9 HA HX hGs
 have HA:=HA2
 have HX:=HX2
 have hGs:=hGs2
 clear HA2 HX2 hGs2
 cases q1 with
 |false=>
  have HV:=hZ (show R=false by have:=uZ HR;simpa using this.symm)
  clear HR
  go_wp2_with fail
  go_ret
  exact⟨by rw [uZ HV];rfl,by first|exact uZ HX|(rw [hG];exact uZ HX)⟩
 |true=>
  have C2:=hZ (flagFits_any k vk vn p t vs al ak a ll cl lk ck n cc f w2)
  obtain⟨q2,hq2⟩:=eX (flB k f)
  rw [hq2] at C2
  have HQ2:=hZ hq2
  clear hq2
  obtain⟨x0,x1,x2,x3,x4,x5,x6,x7,x8,x9⟩:=row_ten (uZ HA)
  rw [uZ HQ2] at HR
  go_wp2_with fail
  refine(uZ C2).mono ?_
  rintro e w3 ⟨rfl,b⟩
  have HA2:=hZ ((b.block G (lt_of_row (uZ HA))).trans (uZ HA))
  have HX2:=hZ ((uZ HX).trans (b.mono (uZ hGs)))
  have hGs2:=hZ (Nat.le_trans (uZ hGs) b.size)
  clear b C2 x0 x1 x2 x3 x4 x5 x6 x7 x8 x9 HA HX hGs
  have HA:=HA2
  have HX:=HX2
  have hGs:=hGs2
  clear HA2 HX2 hGs2
  cases q2 with
  |false=>
   have HV:=hZ (show R=false by have:=uZ HR;simpa using this.symm)
   clear HR
   go_wp2_with fail
   go_ret
   exact⟨by rw [uZ HV];rfl,by first|exact uZ HX|(rw [hG];exact uZ HX)⟩
  |true=>
   have C3:=hZ (valFits_any B0 v k vk vn p t vs al ak a ll cl lk ck n cc f w3 (uZ HM _ (uZ HX)).2.2 (uZ HM _ (uZ HX)).1)
   obtain⟨q3,hq3⟩:=eX (vlB k v)
   rw [hq3] at C3
   have HQ3:=hZ hq3
   clear hq3
   obtain⟨x0,x1,x2,x3,x4,x5,x6,x7,x8,x9⟩:=row_ten (uZ HA)
   rw [uZ HQ3] at HR
   go_wp2_with fail
   refine(uZ C3).mono ?_
   rintro e w4 ⟨rfl,b⟩
   have HA2:=hZ ((b.block G (lt_of_row (uZ HA))).trans (uZ HA))
   have HX2:=hZ ((uZ HX).trans (b.mono (uZ hGs)))
   have hGs2:=hZ (Nat.le_trans (uZ hGs) b.size)
   clear b C3 x0 x1 x2 x3 x4 x5 x6 x7 x8 x9 HA HX hGs
   have HA:=HA2
   have HX:=HX2
   have hGs:=hGs2
   clear HA2 HX2 hGs2
   cases q3 with
   |false=>
    have HV:=hZ (show R=false by have:=uZ HR;simpa using this.symm)
    clear HR
    go_wp2_with fail
    go_ret
    exact⟨by rw [uZ HV];rfl,by first|exact uZ HX|(rw [hG];exact uZ HX)⟩
   |true=>
    have C4:=hZ (kidsFit_any B0 ks k vk vn p t vs al ak a ll cl lk ck n cc f w4 (uZ HM _ (uZ HX)).2.2 (uZ HM _ (uZ HX)).2.1 (uZ HS).1)
    obtain⟨q4,hq4⟩:=eX (kdB k (ks.map (·.k)))
    rw [hq4] at C4
    have HQ4:=hZ hq4
    clear hq4
    obtain⟨x0,x1,x2,x3,x4,x5,x6,x7,x8,x9⟩:=row_ten (uZ HA)
    rw [uZ HQ4] at HR
    go_wp2_with fail
    refine(uZ C4).mono ?_
    rintro e w5 ⟨rfl,b⟩
    have HA2:=hZ ((b.block G (lt_of_row (uZ HA))).trans (uZ HA))
    have HX2:=hZ ((uZ HX).trans (b.mono (uZ hGs)))
    have hGs2:=hZ (Nat.le_trans (uZ hGs) b.size)
    clear b C4 x0 x1 x2 x3 x4 x5 x6 x7 x8 x9 HA HX hGs
    have HA:=HA2
    have HX:=HX2
    have hGs:=hGs2
    clear HA2 HX2 hGs2
    cases q4 with
    |false=>
     have HV:=hZ (show R=false by have:=uZ HR;simpa using this.symm)
     clear HR
     go_wp2_with fail
     go_ret
     exact⟨by rw [uZ HV];rfl,by first|exact uZ HX|(rw [hG];exact uZ HX)⟩
    |true=>
     have C5:=hZ (allG_any B0 a n cc ks _ fmB w5 call_formed (uZ HM _ (uZ HX)).2.1 (uZ HS).1 (uZ HM _ (uZ HX)).2.2 (fun z hz x u hu hx=>ih B0 z ((uZ HS).2.1 z hz) x u hu hx))
     obtain⟨q5,hq5⟩:=eX (ks.all fmB)
     rw [hq5] at C5
     have HQ5:=hZ hq5
     clear hq5
     obtain⟨x0,x1,x2,x3,x4,x5,x6,x7,x8,x9⟩:=row_ten (uZ HA)
     rw [uZ HQ5] at HR
     go_wp2_with fail
     refine(uZ C5).mono ?_
     rintro e w6 ⟨rfl,b⟩
     have HA2:=hZ ((b.block G (lt_of_row (uZ HA))).trans (uZ HA))
     have HX2:=hZ ((uZ HX).trans (b.mono (uZ hGs)))
     have hGs2:=hZ (Nat.le_trans (uZ hGs) b.size)
     clear b C5 x0 x1 x2 x3 x4 x5 x6 x7 x8 x9 HA HX hGs
     have HA:=HA2
     have HX:=HX2
     have hGs:=hGs2
     clear HA2 HX2 hGs2
     have HV:=hZ (show R=q5 by have:=uZ HR;simpa using this.symm)
     clear HR
     go_wp2_with fail
     go_ret
     exact⟨by rw [uZ HV];rfl,by first|exact uZ HX|(rw [hG];exact uZ HX)⟩
theorem form_all:∀N,FormAt N
 |0=>fun B0 y hN x u hu hx=>by rw [cns_one] at hN;omega
 |N+1=>formed_step N (form_all N)
theorem pformed_any (B0:Nat) (y:Tn) (x:List Value) (u:World) (hu:B0≤u.heap.size) (hx:IsN u (fun b=>b<B0) y x):Calls Tryz.prog 40 #[.agg x.toArray] u fun e u'=>e=.returned (.bool (fmB y))∧Below u.heap.size u u':=form_all _ B0 y (Nat.le_refl _) x u hu hx
end Go.Proofs.YtjdpaihhhjdgmaaGreatDoor
