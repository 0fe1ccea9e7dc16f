/-
  Layer 18 (print): a node's kids are as its kind says; conditions: the nodes lie in memory.
  Layer 18 (print): a node's kids are as its kind says; conditions: the nodes lie in memory.
  Layer 18 (print): a tree has its form; conditions: the nodes lie in memory.
  A region that draws its order and closes with a store over a cell that it has read: the read may be taken first, since the store waits for it; no conditions.
-/
import Derived.Test.YtekbmfppfjlboaaGreatDoorA09
import Derived.Test.YtekbmfppfjlboaaGreatDoorA10
import Derived.Test.YtekbmfppfjlboaaGreatDoorA00
import Derived.Deep.RegionHeld3
set_option linter.unusedVariables false
set_option linter.unusedSimpArgs false
namespace Go.Proofs.YtekbmfppfjlboaaGreatDoor
open Go.RowKit
set_option linter.unusedVariables false
set_option linter.unusedSimpArgs false
set_option maxRecDepth 100000 in
set_option maxHeartbeats 2000000 in
theorem kids8_any (B0:Nat) (ks:List Tn) (k vk vn p:Int) (t vs:ByteArray) (al ak a:Option Addr) (ll cl lk ck n cc:Nat) (f:Bool) (w:World) (hB:B0≤w.heap.size) (hr:RowN w B0 ks a cc) (hn:ks.length=n) (hk:k=15∨k=18):Calls Tryz.prog 73 #[.agg #[.int .i64 k,.string t,.int .i64 vk,.int .i64 vn,.string vs,.slice al ll cl,.slice ak lk ck,.bool f,.slice a n cc,.int .i64 p]] w fun e w'=>e=.returned (.bool (kdB k (ks.map (·.k))))∧Below w.heap.size w w':=by
 have HK:=hide hk
 clear hk
 obtain⟨w1,hw1⟩:∃w1,w.alloc (.cells #[.int .i64 k,.string t,.int .i64 vk,.int .i64 vn,.string vs,.slice al ll cl,.slice ak lk ck,.bool f,.slice a n cc,.int .i64 p] 28)=w1:=⟨_,rfl⟩
 obtain⟨G,hG⟩:∃G,w.heap.size=G:=⟨_,rfl⟩
 have A1:w1.heap[G]?=some (.cells #[.int .i64 k,.string t,.int .i64 vk,.int .i64 vn,.string vs,.slice al ll cl,.slice ak lk ck,.bool f,.slice a n cc,.int .i64 p] 28 (0,0)):=by rw [←hw1,←hG];exact heap_alloc_new _ _
 have HX:=hide (show Below w.heap.size w w1 by rw [←hw1];exact(Below.refl _ _).alloc (Nat.le_refl _) _)
 obtain⟨c0,_,_,_,_,_,_,_,c8,_⟩:=row_ten A1
 have HA:=hide A1
 obtain⟨R,hR⟩:∃R,(kdB k (ks.map (·.k)))=R:=⟨_,rfl⟩
 rw [hR]
 have HR:=hide hR
 have HW:=hide hw1
 have HH:=hide (And.intro (hr.later ((unhide HX).mono hB)) (And.intro hn (And.intro (Nat.le_trans hB (unhide HX).size) hB)))
 have hnb:n≤140737488351232:=by rw [←hn];exact hr.len
 have hncc:n≤cc:=by obtain⟨C,hf,_⟩:=hr;rw [←hn];exact hf.ll
 have HM:=hide (show (ks.map (·.k)).length=n by rw [List.length_map];exact hn)
 clear hr hB hn
 clear A1 hw1 hR
 go_enter Tryz.func73,Tryz.ntmps73
 go_upto_region 1 with fail
 rw [unhide HW]
 try rw [hG]
 clear HW
 have hk:=unhide HK
 clear HK
 rcases hk with rfl|rfl
 ·have CC:=hide (all_any B0 a n cc (ks) _ (fun y=>isEx y.k) w1 call_isExpr (unhide HH).1 (unhide HH).2.1 (unhide HH).2.2.1 (fun y _=>isExpr_any_ask B0 y))
  obtain⟨q,hq⟩:∃q,ks.all (fun y=>isEx y.k)=q:=⟨_,rfl⟩
  rw [hq] at CC
  have HQ:=hide hq
  clear hq
  go_wp2_with fail
  refine(unhide CC).mono ?_
  rintro e w2 ⟨rfl,b2⟩
  have HV:=hide (show R=q by rw [←unhide HR,←unhide HQ,kd_ex (by omega),all_k])
  have HB:=hide ((unhide HX).trans (b2.mono (unhide HX).size))
  clear b2 CC
  go_wp2_with fail
  go_ret
  exact⟨by rw [unhide HV];rfl,by first|exact unhide HB|(rw [←hG];exact unhide HB)|(rw [hG];exact unhide HB)⟩
 ·have CC:=hide (all_any B0 a n cc (ks) _ (fun y=>isEx y.k) w1 call_isExpr (unhide HH).1 (unhide HH).2.1 (unhide HH).2.2.1 (fun y _=>isExpr_any_ask B0 y))
  obtain⟨q,hq⟩:∃q,ks.all (fun y=>isEx y.k)=q:=⟨_,rfl⟩
  rw [hq] at CC
  have HQ:=hide hq
  clear hq
  go_wp2_with fail
  refine(unhide CC).mono ?_
  rintro e w2 ⟨rfl,b2⟩
  have HV:=hide (show R=q by rw [←unhide HR,←unhide HQ,kd_ex (by omega),all_k])
  have HB:=hide ((unhide HX).trans (b2.mono (unhide HX).size))
  clear b2 CC
  go_wp2_with fail
  go_ret
  exact⟨by rw [unhide HV];rfl,by first|exact unhide HB|(rw [←hG];exact unhide HB)|(rw [hG];exact unhide HB)⟩
set_option maxRecDepth 100000 in
set_option maxHeartbeats 2000000 in
theorem kids9_any (B0:Nat) (ks:List Tn) (k vk vn p:Int) (t vs:ByteArray) (al ak a:Option Addr) (ll cl lk ck n cc:Nat) (f:Bool) (w:World) (hB:B0≤w.heap.size) (hr:RowN w B0 ks a cc) (hn:ks.length=n) (hk:k=19):Calls Tryz.prog 73 #[.agg #[.int .i64 k,.string t,.int .i64 vk,.int .i64 vn,.string vs,.slice al ll cl,.slice ak lk ck,.bool f,.slice a n cc,.int .i64 p]] w fun e w'=>e=.returned (.bool (kdB k (ks.map (·.k))))∧Below w.heap.size w w':=by
 have HK:=hide hk
 clear hk
 obtain⟨w1,hw1⟩:∃w1,w.alloc (.cells #[.int .i64 k,.string t,.int .i64 vk,.int .i64 vn,.string vs,.slice al ll cl,.slice ak lk ck,.bool f,.slice a n cc,.int .i64 p] 28)=w1:=⟨_,rfl⟩
 obtain⟨G,hG⟩:∃G,w.heap.size=G:=⟨_,rfl⟩
 have A1:w1.heap[G]?=some (.cells #[.int .i64 k,.string t,.int .i64 vk,.int .i64 vn,.string vs,.slice al ll cl,.slice ak lk ck,.bool f,.slice a n cc,.int .i64 p] 28 (0,0)):=by rw [←hw1,←hG];exact heap_alloc_new _ _
 have HX:=hide (show Below w.heap.size w w1 by rw [←hw1];exact(Below.refl _ _).alloc (Nat.le_refl _) _)
 obtain⟨c0,_,_,_,_,_,_,_,c8,_⟩:=row_ten A1
 have HA:=hide A1
 obtain⟨R,hR⟩:∃R,(kdB k (ks.map (·.k)))=R:=⟨_,rfl⟩
 rw [hR]
 have HR:=hide hR
 have HW:=hide hw1
 have HH:=hide (And.intro (hr.later ((unhide HX).mono hB)) (And.intro hn (And.intro (Nat.le_trans hB (unhide HX).size) hB)))
 have hnb:n≤140737488351232:=by rw [←hn];exact hr.len
 have hncc:n≤cc:=by obtain⟨C,hf,_⟩:=hr;rw [←hn];exact hf.ll
 have HM:=hide (show (ks.map (·.k)).length=n by rw [List.length_map];exact hn)
 clear hr hB hn
 clear A1 hw1 hR
 go_enter Tryz.func73,Tryz.ntmps73
 go_upto_region 1 with fail
 rw [unhide HW]
 try rw [hG]
 clear HW
 have hk:=unhide HK
 clear HK
 rcases hk with rfl
 ·have CC:=hide (all_any B0 a n cc (ks) _ (fun y=>decide (y.k=20)) w1 call_isPair (unhide HH).1 (unhide HH).2.1 (unhide HH).2.2.1 (fun y _=>isPair_any_ask B0 y))
  obtain⟨q,hq⟩:∃q,ks.all (fun y=>decide (y.k=20))=q:=⟨_,rfl⟩
  rw [hq] at CC
  have HQ:=hide hq
  clear hq
  go_wp2_with fail
  refine(unhide CC).mono ?_
  rintro e w2 ⟨rfl,b2⟩
  have HV:=hide (show R=q by rw [←unhide HR,←unhide HQ,show kdB 19 (ks.map (·.k))=(ks.map (·.k)).all (fun x=>decide (x=20)) by simp [kdB],all_k])
  have HB:=hide ((unhide HX).trans (b2.mono (unhide HX).size))
  clear b2 CC
  go_wp2_with fail
  go_ret
  exact⟨by rw [unhide HV];rfl,by first|exact unhide HB|(rw [←hG];exact unhide HB)|(rw [hG];exact unhide HB)⟩
set_option maxRecDepth 100000 in
set_option maxHeartbeats 2000000 in
theorem kids10_any (B0:Nat) (ks:List Tn) (k vk vn p:Int) (t vs:ByteArray) (al ak a:Option Addr) (ll cl lk ck n cc:Nat) (f:Bool) (w:World) (hB:B0≤w.heap.size) (hr:RowN w B0 ks a cc) (hn:ks.length=n) (hk:k=3∨k=10∨k=11∨k=13∨k=14):Calls Tryz.prog 73 #[.agg #[.int .i64 k,.string t,.int .i64 vk,.int .i64 vn,.string vs,.slice al ll cl,.slice ak lk ck,.bool f,.slice a n cc,.int .i64 p]] w fun e w'=>e=.returned (.bool (kdB k (ks.map (·.k))))∧Below w.heap.size w w':=by
 have HK:=hide hk
 clear hk
 obtain⟨w1,hw1⟩:∃w1,w.alloc (.cells #[.int .i64 k,.string t,.int .i64 vk,.int .i64 vn,.string vs,.slice al ll cl,.slice ak lk ck,.bool f,.slice a n cc,.int .i64 p] 28)=w1:=⟨_,rfl⟩
 obtain⟨G,hG⟩:∃G,w.heap.size=G:=⟨_,rfl⟩
 have A1:w1.heap[G]?=some (.cells #[.int .i64 k,.string t,.int .i64 vk,.int .i64 vn,.string vs,.slice al ll cl,.slice ak lk ck,.bool f,.slice a n cc,.int .i64 p] 28 (0,0)):=by rw [←hw1,←hG];exact heap_alloc_new _ _
 have HX:=hide (show Below w.heap.size w w1 by rw [←hw1];exact(Below.refl _ _).alloc (Nat.le_refl _) _)
 obtain⟨c0,_,_,_,_,_,_,_,c8,_⟩:=row_ten A1
 have HA:=hide A1
 obtain⟨R,hR⟩:∃R,(kdB k (ks.map (·.k)))=R:=⟨_,rfl⟩
 rw [hR]
 have HR:=hide hR
 have HW:=hide hw1
 have HH:=hide (And.intro (hr.later ((unhide HX).mono hB)) (And.intro hn (And.intro (Nat.le_trans hB (unhide HX).size) hB)))
 have hnb:n≤140737488351232:=by rw [←hn];exact hr.len
 have hncc:n≤cc:=by obtain⟨C,hf,_⟩:=hr;rw [←hn];exact hf.ll
 have HM:=hide (show (ks.map (·.k)).length=n by rw [List.length_map];exact hn)
 clear hr hB hn
 clear A1 hw1 hR
 go_enter Tryz.func73,Tryz.ntmps73
 go_upto_region 1 with fail
 rw [unhide HW]
 try rw [hG]
 clear HW
 have hk:=unhide HK
 clear HK
 rcases hk with rfl|rfl|rfl|rfl|rfl
 ·by_cases hq1:n=0
  ·have q1:(n:Int)=0:=by omega
   have q2:((n:Int) == 0)=true:=by simpa using q1
   have HV:=hide (show R=true by rw [←unhide HR,kd_none (by omega),unhide HM,decide_eq_true hq1])
   have HB:=HX
   go_wp2_with fail
   go_ret
   exact⟨by rw [unhide HV];rfl,by first|exact unhide HB|(rw [←hG];exact unhide HB)|(rw [hG];exact unhide HB)⟩
  ·have q1:¬(n:Int)=0:=by omega
   have q2:((n:Int) == 0)=false:=beq_eq_false_iff_ne.2 q1
   have q3:(n == 0)=false:=beq_eq_false_iff_ne.2 hq1
   have HV:=hide (show R=false by rw [←unhide HR];rw [kd_none (by omega),unhide HM,decide_eq_false hq1])
   have HB:=HX
   go_wp2_with fail
   go_ret
   exact⟨by rw [unhide HV];rfl,by first|exact unhide HB|(rw [←hG];exact unhide HB)|(rw [hG];exact unhide HB)⟩
 ·by_cases hq1:n=0
  ·have q1:(n:Int)=0:=by omega
   have q2:((n:Int) == 0)=true:=by simpa using q1
   have HV:=hide (show R=true by rw [←unhide HR,kd_none (by omega),unhide HM,decide_eq_true hq1])
   have HB:=HX
   go_wp2_with fail
   go_ret
   exact⟨by rw [unhide HV];rfl,by first|exact unhide HB|(rw [←hG];exact unhide HB)|(rw [hG];exact unhide HB)⟩
  ·have q1:¬(n:Int)=0:=by omega
   have q2:((n:Int) == 0)=false:=beq_eq_false_iff_ne.2 q1
   have q3:(n == 0)=false:=beq_eq_false_iff_ne.2 hq1
   have HV:=hide (show R=false by rw [←unhide HR];rw [kd_none (by omega),unhide HM,decide_eq_false hq1])
   have HB:=HX
   go_wp2_with fail
   go_ret
   exact⟨by rw [unhide HV];rfl,by first|exact unhide HB|(rw [←hG];exact unhide HB)|(rw [hG];exact unhide HB)⟩
 ·by_cases hq1:n=0
  ·have q1:(n:Int)=0:=by omega
   have q2:((n:Int) == 0)=true:=by simpa using q1
   have HV:=hide (show R=true by rw [←unhide HR,kd_none (by omega),unhide HM,decide_eq_true hq1])
   have HB:=HX
   go_wp2_with fail
   go_ret
   exact⟨by rw [unhide HV];rfl,by first|exact unhide HB|(rw [←hG];exact unhide HB)|(rw [hG];exact unhide HB)⟩
  ·have q1:¬(n:Int)=0:=by omega
   have q2:((n:Int) == 0)=false:=beq_eq_false_iff_ne.2 q1
   have q3:(n == 0)=false:=beq_eq_false_iff_ne.2 hq1
   have HV:=hide (show R=false by rw [←unhide HR];rw [kd_none (by omega),unhide HM,decide_eq_false hq1])
   have HB:=HX
   go_wp2_with fail
   go_ret
   exact⟨by rw [unhide HV];rfl,by first|exact unhide HB|(rw [←hG];exact unhide HB)|(rw [hG];exact unhide HB)⟩
 ·by_cases hq1:n=0
  ·have q1:(n:Int)=0:=by omega
   have q2:((n:Int) == 0)=true:=by simpa using q1
   have HV:=hide (show R=true by rw [←unhide HR,kd_none (by omega),unhide HM,decide_eq_true hq1])
   have HB:=HX
   go_wp2_with fail
   go_ret
   exact⟨by rw [unhide HV];rfl,by first|exact unhide HB|(rw [←hG];exact unhide HB)|(rw [hG];exact unhide HB)⟩
  ·have q1:¬(n:Int)=0:=by omega
   have q2:((n:Int) == 0)=false:=beq_eq_false_iff_ne.2 q1
   have q3:(n == 0)=false:=beq_eq_false_iff_ne.2 hq1
   have HV:=hide (show R=false by rw [←unhide HR];rw [kd_none (by omega),unhide HM,decide_eq_false hq1])
   have HB:=HX
   go_wp2_with fail
   go_ret
   exact⟨by rw [unhide HV];rfl,by first|exact unhide HB|(rw [←hG];exact unhide HB)|(rw [hG];exact unhide HB)⟩
 ·by_cases hq1:n=0
  ·have q1:(n:Int)=0:=by omega
   have q2:((n:Int) == 0)=true:=by simpa using q1
   have HV:=hide (show R=true by rw [←unhide HR,kd_none (by omega),unhide HM,decide_eq_true hq1])
   have HB:=HX
   go_wp2_with fail
   go_ret
   exact⟨by rw [unhide HV];rfl,by first|exact unhide HB|(rw [←hG];exact unhide HB)|(rw [hG];exact unhide HB)⟩
  ·have q1:¬(n:Int)=0:=by omega
   have q2:((n:Int) == 0)=false:=beq_eq_false_iff_ne.2 q1
   have q3:(n == 0)=false:=beq_eq_false_iff_ne.2 hq1
   have HV:=hide (show R=false by rw [←unhide HR];rw [kd_none (by omega),unhide HM,decide_eq_false hq1])
   have HB:=HX
   go_wp2_with fail
   go_ret
   exact⟨by rw [unhide HV];rfl,by first|exact unhide HB|(rw [←hG];exact unhide HB)|(rw [hG];exact unhide HB)⟩
set_option maxRecDepth 100000 in
set_option maxHeartbeats 2000000 in
theorem kidsR_any (B0:Nat) (ks:List Tn) (k vk vn p:Int) (t vs:ByteArray) (al ak a:Option Addr) (ll cl lk ck n cc:Nat) (f:Bool) (w:World) (hB:B0≤w.heap.size) (hr:RowN w B0 ks a cc) (hn:ks.length=n) (hk:¬k=1∧¬k=2∧¬k=4∧¬k=7∧¬k=8∧¬k=5∧¬k=9∧¬k=6∧¬k=12∧¬k=16∧¬k=22∧¬k=20∧¬k=17∧¬k=21∧¬k=15∧¬k=18∧¬k=19∧¬k=3∧¬k=10∧¬k=11∧¬k=13∧¬k=14):Calls Tryz.prog 73 #[.agg #[.int .i64 k,.string t,.int .i64 vk,.int .i64 vn,.string vs,.slice al ll cl,.slice ak lk ck,.bool f,.slice a n cc,.int .i64 p]] w fun e w'=>e=.returned (.bool (kdB k (ks.map (·.k))))∧Below w.heap.size w w':=by
 obtain⟨w1,hw1⟩:∃w1,w.alloc (.cells #[.int .i64 k,.string t,.int .i64 vk,.int .i64 vn,.string vs,.slice al ll cl,.slice ak lk ck,.bool f,.slice a n cc,.int .i64 p] 28)=w1:=⟨_,rfl⟩
 obtain⟨G,hG⟩:∃G,w.heap.size=G:=⟨_,rfl⟩
 have A1:w1.heap[G]?=some (.cells #[.int .i64 k,.string t,.int .i64 vk,.int .i64 vn,.string vs,.slice al ll cl,.slice ak lk ck,.bool f,.slice a n cc,.int .i64 p] 28 (0,0)):=by rw [←hw1,←hG];exact heap_alloc_new _ _
 have HX:=hide (show Below w.heap.size w w1 by rw [←hw1];exact(Below.refl _ _).alloc (Nat.le_refl _) _)
 obtain⟨c0,_,_,_,_,_,_,_,c8,_⟩:=row_ten A1
 have HA:=hide A1
 obtain⟨R,hR⟩:∃R,(kdB k (ks.map (·.k)))=R:=⟨_,rfl⟩
 rw [hR]
 have HR:=hide hR
 have HW:=hide hw1
 have HH:=hide (And.intro (hr.later ((unhide HX).mono hB)) (And.intro hn (And.intro (Nat.le_trans hB (unhide HX).size) hB)))
 have hnb:n≤140737488351232:=by rw [←hn];exact hr.len
 have hncc:n≤cc:=by obtain⟨C,hf,_⟩:=hr;rw [←hn];exact hf.ll
 have HM:=hide (show (ks.map (·.k)).length=n by rw [List.length_map];exact hn)
 clear hr hB hn
 clear A1 hw1 hR
 go_enter Tryz.func73,Tryz.ntmps73
 go_upto_region 1 with fail
 rw [unhide HW]
 try rw [hG]
 clear HW
 obtain⟨q1,q2,q4,q7,q8,q5,q9,q6,q12,q16,q22,q20,q17,q21,q15,q18,q19,q3,q10,q11,q13,q14⟩:=hk
 have m1:(k == 1)=false:=beq_eq_false_iff_ne.2 q1
 have m2:(k == 2)=false:=beq_eq_false_iff_ne.2 q2
 have m4:(k == 4)=false:=beq_eq_false_iff_ne.2 q4
 have m7:(k == 7)=false:=beq_eq_false_iff_ne.2 q7
 have m8:(k == 8)=false:=beq_eq_false_iff_ne.2 q8
 have m5:(k == 5)=false:=beq_eq_false_iff_ne.2 q5
 have m9:(k == 9)=false:=beq_eq_false_iff_ne.2 q9
 have m6:(k == 6)=false:=beq_eq_false_iff_ne.2 q6
 have m12:(k == 12)=false:=beq_eq_false_iff_ne.2 q12
 have m16:(k == 16)=false:=beq_eq_false_iff_ne.2 q16
 have m22:(k == 22)=false:=beq_eq_false_iff_ne.2 q22
 have m20:(k == 20)=false:=beq_eq_false_iff_ne.2 q20
 have m17:(k == 17)=false:=beq_eq_false_iff_ne.2 q17
 have m21:(k == 21)=false:=beq_eq_false_iff_ne.2 q21
 have m15:(k == 15)=false:=beq_eq_false_iff_ne.2 q15
 have m18:(k == 18)=false:=beq_eq_false_iff_ne.2 q18
 have m19:(k == 19)=false:=beq_eq_false_iff_ne.2 q19
 have m3:(k == 3)=false:=beq_eq_false_iff_ne.2 q3
 have m10:(k == 10)=false:=beq_eq_false_iff_ne.2 q10
 have m11:(k == 11)=false:=beq_eq_false_iff_ne.2 q11
 have m13:(k == 13)=false:=beq_eq_false_iff_ne.2 q13
 have m14:(k == 14)=false:=beq_eq_false_iff_ne.2 q14
 have HV:=hide (show R=false by rw [←unhide HR];simp [kdB,q1,q2,q3,q4,q5,q6,q7,q8,q9,q10,q11,q12,q13,q14,q15,q16,q17,q18,q19,q20,q21,q22])
 have HB:=HX
 go_wp2_with fail
 go_ret
 exact⟨by rw [unhide HV];rfl,by first|exact unhide HB|(rw [←hG];exact unhide HB)|(rw [hG];exact unhide HB)⟩
theorem kidsFit_any (B0:Nat) (ks:List Tn) (k vk vn p:Int) (t vs:ByteArray) (al ak a:Option Addr) (ll cl lk ck n cc:Nat) (f:Bool) (w:World) (hB:B0≤w.heap.size) (hr:RowN w B0 ks a cc) (hn:ks.length=n):Calls Tryz.prog 73 #[.agg #[.int .i64 k,.string t,.int .i64 vk,.int .i64 vn,.string vs,.slice al ll cl,.slice ak lk ck,.bool f,.slice a n cc,.int .i64 p]] w fun e w'=>e=.returned (.bool (kdB k (ks.map (·.k))))∧Below w.heap.size w w':=by
 by_cases h0:k=1
 ·exact kids0_any B0 ks k vk vn p t vs al ak a ll cl lk ck n cc f w hB hr hn h0
 by_cases h1:k=2
 ·exact kids1_any B0 ks k vk vn p t vs al ak a ll cl lk ck n cc f w hB hr hn h1
 by_cases h2:k=4
 ·exact kids2_any B0 ks k vk vn p t vs al ak a ll cl lk ck n cc f w hB hr hn h2
 by_cases h3:k=7
 ·exact kids3_any B0 ks k vk vn p t vs al ak a ll cl lk ck n cc f w hB hr hn h3
 by_cases h4:k=8
 ·exact kids4_any B0 ks k vk vn p t vs al ak a ll cl lk ck n cc f w hB hr hn h4
 by_cases h5:k=5∨k=9
 ·exact kids5_any B0 ks k vk vn p t vs al ak a ll cl lk ck n cc f w hB hr hn h5
 by_cases h6:k=6∨k=12∨k=16∨k=22∨k=20
 ·exact kids6_any B0 ks k vk vn p t vs al ak a ll cl lk ck n cc f w hB hr hn h6
 by_cases h7:k=17∨k=21
 ·exact kids7_any B0 ks k vk vn p t vs al ak a ll cl lk ck n cc f w hB hr hn h7
 by_cases h8:k=15∨k=18
 ·exact kids8_any B0 ks k vk vn p t vs al ak a ll cl lk ck n cc f w hB hr hn h8
 by_cases h9:k=19
 ·exact kids9_any B0 ks k vk vn p t vs al ak a ll cl lk ck n cc f w hB hr hn h9
 by_cases h10:k=3∨k=10∨k=11∨k=13∨k=14
 ·exact kids10_any B0 ks k vk vn p t vs al ak a ll cl lk ck n cc f w hB hr hn h10
 exact kidsR_any B0 ks k vk vn p t vs al ak a ll cl lk ck n cc f w hB hr hn (by omega)
theorem cns_mem:∀(l:List Tn) (y:Tn),y∈l→cns [y]≤cns l
 |[],y,h=>by cases h
 |.mk k t v f ks p :: r,y,h=>by
  rcases List.mem_cons.1 h with rfl|h
  ·simp [cns]
  ·have:=cns_mem r y h
   simp only [cns] at this ⊢
   omega
theorem Below.cellsAt {w u:World} {g:Nat} {o:Obj} (h:Below w.heap.size w u) (hg:w.heap[g]?=some o):u.heap[g]?=some o:=(h.block g (Array.getElem?_eq_some_iff.1 hg).1).trans hg
def FormAt (N:Nat):Prop:=∀(B0:Nat) (y:Tn),cns [y]≤N→∀(x:List Value) (u:World),B0≤u.heap.size→IsN u (fun b=>b<B0) y x→Calls Tryz.prog 38 #[.agg x.toArray] u fun e u'=>e=.returned (.bool (fmB y))∧Below u.heap.size u u'
theorem call_formed (x:Array Value) (u:World):Sem.run Tryz.prog (callFunc 38 x) u=.ok (.enter 38 x) u:=by kernel_rfl
set_option maxRecDepth 100000 in
set_option maxHeartbeats 2000000 in
theorem formed_step (N:Nat) (ih:FormAt N):FormAt (N+1):=by
 intro B0 y hN x w hB hx
 have hx0:=hx
 obtain⟨vk,vn,vs,al,ak,a,ll,cl,lk,ck,cc,rfl,hv,hr,hbk,hbp⟩:=hx.opn
 obtain⟨k,t,v,f,ks,p⟩:=y
 simp only at hv hr hx0 ⊢
 obtain⟨n,hn⟩:∃n,ks.length=n:=⟨_,rfl⟩
 simp only [hn] at hx0 ⊢
 have hsub:∀z∈ks,cns [z]≤N:=fun z hz=>by
  have h1:=cns_mem ks z hz
  have h2:cns [⟨k,t,v,f,ks,p⟩]=1+cvs v.l+cns ks:=cns_one _
  omega
 obtain⟨w1,hw1⟩:∃w1,w.alloc (.cells #[.int .i64 k,.string t,.int .i64 vk,.int .i64 vn,.string vs,.slice al ll cl,.slice ak lk ck,.bool f,.slice a n cc,.int .i64 p] 28)=w1:=⟨_,rfl⟩
 obtain⟨G,hG⟩:∃G,w.heap.size=G:=⟨_,rfl⟩
 have A1:w1.heap[G]?=some (.cells #[.int .i64 k,.string t,.int .i64 vk,.int .i64 vn,.string vs,.slice al ll cl,.slice ak lk ck,.bool f,.slice a n cc,.int .i64 p] 28 (0,0)):=by rw [←hw1,←hG];exact heap_alloc_new _ _
 have X1:Below G w w1:=by rw [←hw1,←hG];exact(Below.refl _ _).alloc (Nat.le_refl _) _
 have hBG:B0≤G:=by rw [←hG];exact hB
 have HM:Hid (∀u,Below G w u→IsV u B0 v (.agg #[.int .i64 vk,.int .i64 vn,.string vs,.slice al ll cl,.slice ak lk ck])∧RowN u B0 ks a cc∧B0≤u.heap.size):=hide (fun u b=>⟨hv.mono (b.mono hBG),hr.later (b.mono hBG),Nat.le_trans hB b.size⟩)
 have HS:=hide (And.intro hn (And.intro hsub hBG))
 obtain⟨R,hR⟩:∃R,fmB ⟨k,t,v,f,ks,p⟩=R:=⟨_,rfl⟩
 rw [hR]
 have hR':(txB k t && flB k f && vlB k v && kdB k (ks.map (·.k)) && ks.all fmB)=R:=by rw [←hR,←fmL_all];rfl
 have HR:=hide hR'
 have HA:=hide A1
 have HX:=hide X1
 have HW:=hide hw1
 have hGs:Hid (G≤w1.heap.size):=hide (Nat.le_of_lt (lt_of_row A1))
 clear A1 X1 hw1 hR hR' hv hr hx hx0 hbk hbp hn hsub hBG hB
 go_enter Tryz.func38,Tryz.ntmps38
 go_upto_region 1 with fail
 rw [unhide HW]
 try rw [hG]
 clear HW
 have C1:=hide (textFits_any k vk vn p t vs al ak a ll cl lk ck n cc f w1)
 obtain⟨q1,hq1⟩:∃q,txB k t=q:=⟨_,rfl⟩
 rw [hq1] at C1
 have HQ1:=hide hq1
 clear hq1
 obtain⟨x0,x1,x2,x3,x4,x5,x6,x7,x8,x9⟩:=row_ten (unhide HA)
 rw [unhide HQ1] at HR
 go_wp2_with fail
 refine(unhide C1).mono ?_
 rintro e w2 ⟨rfl,b⟩
 have HA2:=hide ((b.block G (lt_of_row (unhide HA))).trans (unhide HA))
 have HX2:=hide ((unhide HX).trans (b.mono (unhide hGs)))
 have hGs2:=hide (Nat.le_trans (unhide hGs) b.size)
 clear b C1 x0 x1 x2 x3 x4 x5 x6 x7 x8 x9 HA HX hGs
 have HA:=HA2
 have HX:=HX2
 have hGs:=hGs2
 clear HA2 HX2 hGs2
 cases q1 with
 |false=>
  have HV:=hide (show R=false by have:=unhide HR;simpa using this.symm)
  clear HR
  go_wp2_with fail
  go_ret
  exact⟨by rw [unhide HV];rfl,by first|exact unhide HX|(rw [hG];exact unhide HX)⟩
 |true=>
  have C2:=hide (flagFits_any k vk vn p t vs al ak a ll cl lk ck n cc f w2)
  obtain⟨q2,hq2⟩:∃q,flB k f=q:=⟨_,rfl⟩
  rw [hq2] at C2
  have HQ2:=hide hq2
  clear hq2
  obtain⟨x0,x1,x2,x3,x4,x5,x6,x7,x8,x9⟩:=row_ten (unhide HA)
  rw [unhide HQ2] at HR
  go_wp2_with fail
  refine(unhide C2).mono ?_
  rintro e w3 ⟨rfl,b⟩
  have HA2:=hide ((b.block G (lt_of_row (unhide HA))).trans (unhide HA))
  have HX2:=hide ((unhide HX).trans (b.mono (unhide hGs)))
  have hGs2:=hide (Nat.le_trans (unhide hGs) b.size)
  clear b C2 x0 x1 x2 x3 x4 x5 x6 x7 x8 x9 HA HX hGs
  have HA:=HA2
  have HX:=HX2
  have hGs:=hGs2
  clear HA2 HX2 hGs2
  cases q2 with
  |false=>
   have HV:=hide (show R=false by have:=unhide HR;simpa using this.symm)
   clear HR
   go_wp2_with fail
   go_ret
   exact⟨by rw [unhide HV];rfl,by first|exact unhide HX|(rw [hG];exact unhide HX)⟩
  |true=>
   have C3:=hide (valFits_any B0 v k vk vn p t vs al ak a ll cl lk ck n cc f w3 (unhide HM _ (unhide HX)).2.2 (unhide HM _ (unhide HX)).1)
   obtain⟨q3,hq3⟩:∃q,vlB k v=q:=⟨_,rfl⟩
   rw [hq3] at C3
   have HQ3:=hide hq3
   clear hq3
   obtain⟨x0,x1,x2,x3,x4,x5,x6,x7,x8,x9⟩:=row_ten (unhide HA)
   rw [unhide HQ3] at HR
   go_wp2_with fail
   refine(unhide C3).mono ?_
   rintro e w4 ⟨rfl,b⟩
   have HA2:=hide ((b.block G (lt_of_row (unhide HA))).trans (unhide HA))
   have HX2:=hide ((unhide HX).trans (b.mono (unhide hGs)))
   have hGs2:=hide (Nat.le_trans (unhide hGs) b.size)
   clear b C3 x0 x1 x2 x3 x4 x5 x6 x7 x8 x9 HA HX hGs
   have HA:=HA2
   have HX:=HX2
   have hGs:=hGs2
   clear HA2 HX2 hGs2
   cases q3 with
   |false=>
    have HV:=hide (show R=false by have:=unhide HR;simpa using this.symm)
    clear HR
    go_wp2_with fail
    go_ret
    exact⟨by rw [unhide HV];rfl,by first|exact unhide HX|(rw [hG];exact unhide HX)⟩
   |true=>
    have C4:=hide (kidsFit_any B0 ks k vk vn p t vs al ak a ll cl lk ck n cc f w4 (unhide HM _ (unhide HX)).2.2 (unhide HM _ (unhide HX)).2.1 (unhide HS).1)
    obtain⟨q4,hq4⟩:∃q,kdB k (ks.map (·.k))=q:=⟨_,rfl⟩
    rw [hq4] at C4
    have HQ4:=hide hq4
    clear hq4
    obtain⟨x0,x1,x2,x3,x4,x5,x6,x7,x8,x9⟩:=row_ten (unhide HA)
    rw [unhide HQ4] at HR
    go_wp2_with fail
    refine(unhide C4).mono ?_
    rintro e w5 ⟨rfl,b⟩
    have HA2:=hide ((b.block G (lt_of_row (unhide HA))).trans (unhide HA))
    have HX2:=hide ((unhide HX).trans (b.mono (unhide hGs)))
    have hGs2:=hide (Nat.le_trans (unhide hGs) b.size)
    clear b C4 x0 x1 x2 x3 x4 x5 x6 x7 x8 x9 HA HX hGs
    have HA:=HA2
    have HX:=HX2
    have hGs:=hGs2
    clear HA2 HX2 hGs2
    cases q4 with
    |false=>
     have HV:=hide (show R=false by have:=unhide HR;simpa using this.symm)
     clear HR
     go_wp2_with fail
     go_ret
     exact⟨by rw [unhide HV];rfl,by first|exact unhide HX|(rw [hG];exact unhide HX)⟩
    |true=>
     have C5:=hide (all_any B0 a n cc ks _ fmB w5 call_formed (unhide HM _ (unhide HX)).2.1 (unhide HS).1 (unhide HM _ (unhide HX)).2.2 (fun z hz x u hu hx=>ih B0 z ((unhide HS).2.1 z hz) x u hu hx))
     obtain⟨q5,hq5⟩:∃q,ks.all fmB=q:=⟨_,rfl⟩
     rw [hq5] at C5
     have HQ5:=hide hq5
     clear hq5
     obtain⟨x0,x1,x2,x3,x4,x5,x6,x7,x8,x9⟩:=row_ten (unhide HA)
     rw [unhide HQ5] at HR
     go_wp2_with fail
     refine(unhide C5).mono ?_
     rintro e w6 ⟨rfl,b⟩
     have HA2:=hide ((b.block G (lt_of_row (unhide HA))).trans (unhide HA))
     have HX2:=hide ((unhide HX).trans (b.mono (unhide hGs)))
     have hGs2:=hide (Nat.le_trans (unhide hGs) b.size)
     clear b C5 x0 x1 x2 x3 x4 x5 x6 x7 x8 x9 HA HX hGs
     have HA:=HA2
     have HX:=HX2
     have hGs:=hGs2
     clear HA2 HX2 hGs2
     have HV:=hide (show R=q5 by have:=unhide HR;simpa using this.symm)
     clear HR
     go_wp2_with fail
     go_ret
     exact⟨by rw [unhide HV];rfl,by first|exact unhide HX|(rw [hG];exact unhide HX)⟩
theorem form_all:∀N,FormAt N
 |0=>fun B0 y hN x u hu hx=>by rw [cns_one] at hN;omega
 |N+1=>formed_step N (form_all N)
theorem pformed_any (B0:Nat) (y:Tn) (x:List Value) (u:World) (hu:B0≤u.heap.size) (hx:IsN u (fun b=>b<B0) y x):Calls Tryz.prog 38 #[.agg x.toArray] u fun e u'=>e=.returned (.bool (fmB y))∧Below u.heap.size u u':=form_all _ B0 y (Nat.le_refl _) x u hu hx
section
variable {P : Program} {ops : Array Oper} {Q : Exit → Act → World → Prop} {md : Region.Mode} {S : World → Prop} {z : Nat}
def Till (P:Program) (md:Region.Mode) (ops:Array Oper) (Q:Exit→Act→World→Prop) (S:World→Prop) (z:Nat):Nat→Array Bool→Act→World→Prop
 |0,listed,a,w=>Region.ready md ops listed=[]∧Q .normal a w
 |f+1,listed,a,w=>(Region.ready md ops listed=[]→Q .normal a w)∧∀i∈Region.ready md ops listed,wpOp P ops Q i (fun a' w'=>(i=z∨S w')∧Till P md ops Q S z f (listed.setIfInBounds i true) a' w') a w
theorem Till.any:∀(f:Nat) (listed:Array Bool) (a:Act) (w:World),Till P md ops Q S z f listed a w→wpAny P md ops Q f listed a w
 |0,_,_,_,h=>h
 |f+1,_,_,_,h=>⟨h.1,fun i hi=>wpOp_mono (fun a' w' h'=>Till.any f _ a' w' h'.2) (h.2 i hi)⟩
theorem Till.first {i:Nat} {oi oz:Oper} {v:Value} (hi:ops[i]?=some oi) (hz:ops[z]?=some oz) (hwait:∃e∈oz.after,Region.binds md e=true∧e.on=i)
  (hsel:∀(j:Nat) (o:Oper) cs b,ops[j]?=some o→o.op≠.select cs b) (hQ:∀c a w,Q (.panic c) (a.put oi.dst v) w→Q (.panic c) a w) :
  ∀(f:Nat) (listed:Array Bool) (a:Act) (w:World),
   (∀j oj,ops[j]?=some oj→j≠i→listed.getD j true=false→(∀e∈oj.after,Region.binds md e=true→e.on≠i)→oi.apart ops oj=true) →
   i∈Region.ready md ops listed→YieldsIf P ops S oi v a→S w →
   Till P md ops Q S z f (listed.setIfInBounds i true) (a.put oi.dst v) w→Till P md ops Q S z (f+1) listed a w:=by
 intro f
 induction f with
 |zero=>
  intro listed a w _ hr hy hS H
  refine⟨fun h=>(by rw [h] at hr;cases hr),fun j hj=>?_⟩
  by_cases e:j=i
  ·rw [e]
   exact hy.wpOp hi hS ⟨Or.inr hS,H⟩
  ·exact absurd (ready_mono hj e) (by rw [H.1];simp)
 |succ f ih=>
  intro listed a w hfree hr hy hS H
  refine⟨fun h=>(by rw [h] at hr;cases hr),fun j hj=>?_⟩
  by_cases e:j=i
  ·rw [e]
   exact hy.wpOp hi hS ⟨Or.inr hS,H⟩
  ·obtain⟨hun,oj,hoj,hall⟩:=mem_ready.1 hj
   have hi0:=(mem_ready.1 hr).1
   -- nobody who may come up now waits for number i
   have hnot:∀x∈oj.after,Region.binds md x=true→x.on≠i:=fun x hx hb he=>by
    have h1:=hall x hx hb
    rw [he] at h1
    rcases Nat.lt_or_ge i listed.size with hl|hl
    ·simp [hl] at hi0 h1
     rw [hi0] at h1
     cases h1
    ·simp [Array.getElem?_eq_none hl] at h1
   have hjz:j≠z:=fun he=>by
    obtain⟨x,hx,hb,hon⟩:=hwait
    rw [he] at hoj
    rw [hoj] at hz
    cases hz
    exact hnot x hx hb hon
   have h2:=wpOp_putIf hoj (hfree j oj hoj e hun hnot) (fun cs b=>hsel i oi cs b hi) (fun cs b=>hsel j oj cs b hoj) hQ hy (H.2 j (ready_mono hj e))
   refine wpOp_mono (fun a' w' h3=>?_) h2
   obtain⟨hy',hS',hT⟩:=h3
   have hSw:S w':=hS'.resolve_left hjz
   refine⟨Or.inr hSw,ih (listed.setIfInBounds j true) a' w' (fun k ok hk hki hu hno=>hfree k ok hk hki ?_ hno) (ready_mono hr (Ne.symm e)) hy' hSw ?_⟩
   ·by_cases hjk:j=k
    ·rw [←hjk];exact hun
    ·rw [getD_set_ne true hjk] at hu;exact hu
   ·rw [Array.setIfInBounds_comm _ _ e]
    exact hT
theorem till_take {f:Nat} {listed:Array Bool} {a:Act} {w:World} (i:Nat) {oi oz:Oper} {v:Value} (d:Option Tmp) (hi:ops[i]?=some oi) (hd:oi.dst=d) (hz:ops[z]?=some oz) (hwait:(oz.after.any fun e=>Region.binds md e && e.on == i)=true)
  (hs:Region.noSelect ops=true) (hf:Region.free md ops listed i=true) (hr:(Region.ready md ops listed).contains i=true)
  (hQ:∀c a w,Q (.panic c) (a.put d v) w→Q (.panic c) a w) (hy:YieldsIf P ops S oi v a) (hS:S w)
  (h:Till P md ops Q S z f (listed.setIfInBounds i true) (a.put d v) w):Till P md ops Q S z (f+1) listed a w:=by
 subst hd
 refine Till.first hi hz ?_ (Region.noSelect_spec hs) hQ f listed a w (Region.free_spec hi hf) (by simpa using hr) hy hS h
 rw [Array.any_eq_true] at hwait
 obtain⟨k,hk,hx⟩:=hwait
 rw [Bool.and_eq_true,beq_iff_eq] at hx
 exact⟨_,Array.getElem_mem hk,hx.1,hx.2⟩
theorem till_one {f:Nat} {listed:Array Bool} {a:Act} {w:World} (i:Nat) {o:Oper} (hr:Region.ready md ops listed=[i]) (ho:ops[i]?=some o)
  (h:∀K':Act→World→Prop,Shut (∀a w,(i=z∨S w)→Till P md ops Q S z f (listed.setIfInBounds i true) a w→K' a w)→if Region.wanted o (yielded ops a.tmps)=true then Oper.wp P o a w K' Q else K' (a.put o.dst undef) w) :
  Till P md ops Q S z (f+1) listed a w:=by
 refine⟨fun e=>(by rw [e] at hr;cases hr),fun j hj=>?_⟩
 rw [hr,List.mem_singleton] at hj
 subst hj
 exact wpOp_step ho (fun K' hK=>h K' (fun a w hS hT=>hK a w ⟨hS,hT⟩))
theorem till_two {f:Nat} {listed:Array Bool} {a:Act} {w:World} (i j:Nat) {oi oj:Oper} (hr:Region.ready md ops listed=[i,j]) (hi:ops[i]?=some oi) (hj:ops[j]?=some oj)
  (h1:∀K':Act→World→Prop,Shut (∀a w,(i=z∨S w)→Till P md ops Q S z f (listed.setIfInBounds i true) a w→K' a w)→if Region.wanted oi (yielded ops a.tmps)=true then Oper.wp P oi a w K' Q else K' (a.put oi.dst undef) w)
  (h2:∀K':Act→World→Prop,Shut (∀a w,(j=z∨S w)→Till P md ops Q S z f (listed.setIfInBounds j true) a w→K' a w)→if Region.wanted oj (yielded ops a.tmps)=true then Oper.wp P oj a w K' Q else K' (a.put oj.dst undef) w) :
  Till P md ops Q S z (f+1) listed a w:=by
 refine⟨fun e=>(by rw [e] at hr;cases hr),fun k hk=>?_⟩
 rw [hr,List.mem_cons,List.mem_singleton] at hk
 rcases hk with e|e
 ·rw [e]
  exact wpOp_step hi (fun K' hK=>h1 K' (fun a w hS hT=>hK a w ⟨hS,hT⟩))
 ·rw [e]
  exact wpOp_step hj (fun K' hK=>h2 K' (fun a w hS hT=>hK a w ⟨hS,hT⟩))
theorem till_done {listed:Array Bool} {a:Act} {w:World} (hr:Region.ready md ops listed=[]) (h:Q .normal a w):∀f,Till P md ops Q S z f listed a w
 |0=>⟨hr,h⟩
 |_+1=>⟨fun _=>h,by rw [hr];simp⟩
theorem till_begin {id:Nat} {a:Act} {w:World} (z:Nat) (hm:P.follows .mixedOrders=true) (h:Till P .any ops Q S z ops.size (Array.replicate ops.size false) a w.drew):(Code.region id ops true).wp P Q a w:=
 wp_region_any hm (Till.any _ _ _ _ h)
end
end Go.Proofs.YtekbmfppfjlboaaGreatDoor
