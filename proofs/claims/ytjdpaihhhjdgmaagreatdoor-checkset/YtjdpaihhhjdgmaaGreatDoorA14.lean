/-
  The walks of Right; no conditions but the form's own reach.
  Layer 18 (print): a node's text, flag and value are as its kind says; conditions: the value lies in memory.
-/
import Derived.Test.YtjdpaihhhjdgmaaGreatDoorA12
import Derived.Test.YtjdpaihhhjdgmaaGreatDoorA13
set_option linter.unusedVariables false
set_option linter.unusedSimpArgs false
set_option maxRecDepth 100000
set_option maxHeartbeats 8000000
namespace Go.Proofs.YtjdpaihhhjdgmaaGreatDoor
open Go.RowKit
theorem right_code (v:Vl) (x:Value) (B:Nat) (w:World) (hv:IsV w B v x) (hBs:B≤w.heap.size) :
  Calls Tryz.prog 117 #[x] w fun e w'=>e=.returned (.bool (rightB v))∧Below w.heap.size w w':=by
 obtain⟨k',n',s',l',ks',al',ak',cl',ck',hy',hx⟩:=hv.shape
 obtain⟨ll,hll⟩:=eX (l'.length)
 obtain⟨m,hm⟩:=eX (ks'.length)
 rw [hll,hm] at hx
 subst hx
 obtain⟨w1,hw1⟩:=eX (w.alloc (.cells #[.int .i64 k',.int .i64 n',.string s',.slice al' ll cl',.slice ak' m ck'] 25))
 have BX:=Box.mk' w (.int .i64 k') (.int .i64 n') (.string s') (.slice al' ll cl') (.slice ak' m ck')
 rw [hw1] at BX
 obtain⟨c0,c1,c2,c3,c4⟩:=row_cell BX.row
 have z1:=BX.size
 have HB:=hZ BX.below
 have CM:=hZ (measure_any v _ B w1 (hv.mono (BX.below.mono hBs)) (by omega))
 have HRB:Hid (decide (0<wt0 v)=rightB v):=hZ (by
  unfold wt0
  cases h:rightB v with
  |false=>simp
  |true=>have:=wt_pos v;simp [this])
 clear BX hv hy'
 go_enter Tryz.func117,Tryz.ntmps117
 go_wp2_with fail
 refine(uZ CM).mono ?_
 rintro e w2 ⟨rfl,b2⟩
 have B2:=hZ b2
 clear b2 CM
 go_wp2_with fail
 go_ret
 exact⟨by rw [←uZ HRB];rfl,(uZ HB).trans ((uZ B2).mono (by omega))⟩
set_option linter.unusedVariables false
set_option linter.unusedSimpArgs false
theorem IsN.opn {w:World} {B0:Nat} {y:Tn} {x:List Value} (h:IsN w (fun b=>b<B0) y x):∃(vk vn:Int) (vs:ByteArray) (al ak a:Option Addr) (ll cl lk ck cc:Nat),x=[.int .i64 y.k,.string y.t,.int .i64 vk,.int .i64 vn,.string vs,.slice al ll cl,.slice ak lk ck,.bool y.f,.slice a y.ks.length cc,.int .i64 y.p]∧IsV w B0 y.v (.agg #[.int .i64 vk,.int .i64 vn,.string vs,.slice al ll cl,.slice ak lk ck])∧RowN w B0 y.ks a cc∧(-9223372036854775808≤y.k∧y.k≤9223372036854775807)∧(-9223372036854775808≤y.p∧y.p≤9223372036854775807):=by
 obtain⟨c,a,cc,C,h1,h5,hv,hf,hk⟩:=h
 have hv0:=hv
 obtain⟨al,ak,cl,ck,V,hx,_⟩:=hv
 unfold hd at hx
 injection hx with hx
 have hc:c=[.int .i64 y.v.kind,.int .i64 y.v.n,.string y.v.s,.slice al y.v.l.length cl,.slice ak y.v.ks.length ck]:=by
  have:=congrArg Array.toList hx
  simpa using this
 subst hc
 exact⟨_,_,_,al,ak,a,_,cl,_,ck,cc,h1,hv0,⟨C,⟨by omega,by omega,by decide,hf.nl,hf.ll,hf.bl,hf.hl,hf.hv⟩,hk⟩,hf.bk,hf.bp⟩
theorem IsN.laterB {w u:World} {B0:Nat} {y:Tn} {x:List Value} (h:IsN w (fun b=>b<B0) y x) (hb:Below B0 w u):IsN u (fun b=>b<B0) y x:=IsN.to (fun b hl=>hb.block b hl) (fun _ h=>h) h
theorem textFits_any (k vk vn p:Int) (t vs:ByteArray) (al ak a:Option Addr) (ll cl lk ck n cc:Nat) (f:Bool) (w:World):Calls Tryz.prog 84 #[.agg #[.int .i64 k,.string t,.int .i64 vk,.int .i64 vn,.string vs,.slice al ll cl,.slice ak lk ck,.bool f,.slice a n cc,.int .i64 p]] w fun e w'=>e=.returned (.bool (txB k t))∧Below w.heap.size w w':=by
 obtain⟨w1,hw1⟩:=eX (w.alloc (.cells #[.int .i64 k,.string t,.int .i64 vk,.int .i64 vn,.string vs,.slice al ll cl,.slice ak lk ck,.bool f,.slice a n cc,.int .i64 p] 28))
 obtain⟨G,hG⟩:=eX (w.heap.size)
 have A1:=(al1 hw1 hG).1
 have HX:=hZ (alB hw1)
 obtain⟨c0,c1,_,_,_,_,_,_,_,_⟩:=row_ten A1
 have HA:=hZ A1
 obtain⟨R,hR⟩:=eX ((txB k t))
 rw [hR]
 have HR:=hZ hR
 have HW:=hZ hw1
 clear A1 hw1 hR
 go_enter Tryz.func84,Tryz.ntmps84
 go_upto_region 1 with fail
 rw [uZ HW]
 try rw [hG]
 clear HW
 by_cases hk:k=2∨k=3∨k=5∨k=6∨k=14∨k=15∨k=22∨k=16∨k=17∨k=20
 ·rcases hk with rfl|rfl|rfl|rfl|rfl|rfl|rfl|rfl|rfl|rfl
  ·have CN:=hZ (isNameL_any t w1)
   go_wp2_with fail
   refine(uZ CN).mono ?_
   rintro e w2 ⟨rfl,b2⟩
   have HV:=hZ (show R=nameL t.data.toList by rw [←uZ HR];simp [txB])
   have HB:=hZ ((uZ HX).trans (b2.mono (uZ HX).size))
   clear b2 CN HR
   go_wp2_with fail
   go_ret
   exact⟨by rw [uZ HV];rfl,by first|exact uZ HB|(rw [←hG];exact uZ HB)|(rw [hG];exact uZ HB)⟩
  ·have CN:=hZ (isNameL_any t w1)
   go_wp2_with fail
   refine(uZ CN).mono ?_
   rintro e w2 ⟨rfl,b2⟩
   have HV:=hZ (show R=nameL t.data.toList by rw [←uZ HR];simp [txB])
   have HB:=hZ ((uZ HX).trans (b2.mono (uZ HX).size))
   clear b2 CN HR
   go_wp2_with fail
   go_ret
   exact⟨by rw [uZ HV];rfl,by first|exact uZ HB|(rw [←hG];exact uZ HB)|(rw [hG];exact uZ HB)⟩
  ·have CN:=hZ (isNameL_any t w1)
   go_wp2_with fail
   refine(uZ CN).mono ?_
   rintro e w2 ⟨rfl,b2⟩
   have HV:=hZ (show R=nameL t.data.toList by rw [←uZ HR];simp [txB])
   have HB:=hZ ((uZ HX).trans (b2.mono (uZ HX).size))
   clear b2 CN HR
   go_wp2_with fail
   go_ret
   exact⟨by rw [uZ HV];rfl,by first|exact uZ HB|(rw [←hG];exact uZ HB)|(rw [hG];exact uZ HB)⟩
  ·have CN:=hZ (isNameL_any t w1)
   go_wp2_with fail
   refine(uZ CN).mono ?_
   rintro e w2 ⟨rfl,b2⟩
   have HV:=hZ (show R=nameL t.data.toList by rw [←uZ HR];simp [txB])
   have HB:=hZ ((uZ HX).trans (b2.mono (uZ HX).size))
   clear b2 CN HR
   go_wp2_with fail
   go_ret
   exact⟨by rw [uZ HV];rfl,by first|exact uZ HB|(rw [←hG];exact uZ HB)|(rw [hG];exact uZ HB)⟩
  ·have CN:=hZ (isNameL_any t w1)
   go_wp2_with fail
   refine(uZ CN).mono ?_
   rintro e w2 ⟨rfl,b2⟩
   have HV:=hZ (show R=nameL t.data.toList by rw [←uZ HR];simp [txB])
   have HB:=hZ ((uZ HX).trans (b2.mono (uZ HX).size))
   clear b2 CN HR
   go_wp2_with fail
   go_ret
   exact⟨by rw [uZ HV];rfl,by first|exact uZ HB|(rw [←hG];exact uZ HB)|(rw [hG];exact uZ HB)⟩
  ·have CN:=hZ (isNameL_any t w1)
   go_wp2_with fail
   refine(uZ CN).mono ?_
   rintro e w2 ⟨rfl,b2⟩
   have HV:=hZ (show R=nameL t.data.toList by rw [←uZ HR];simp [txB])
   have HB:=hZ ((uZ HX).trans (b2.mono (uZ HX).size))
   clear b2 CN HR
   go_wp2_with fail
   go_ret
   exact⟨by rw [uZ HV];rfl,by first|exact uZ HB|(rw [←hG];exact uZ HB)|(rw [hG];exact uZ HB)⟩
  ·have CN:=hZ (isNameL_any t w1)
   go_wp2_with fail
   refine(uZ CN).mono ?_
   rintro e w2 ⟨rfl,b2⟩
   have HV:=hZ (show R=nameL t.data.toList by rw [←uZ HR];simp [txB])
   have HB:=hZ ((uZ HX).trans (b2.mono (uZ HX).size))
   clear b2 CN HR
   go_wp2_with fail
   go_ret
   exact⟨by rw [uZ HV];rfl,by first|exact uZ HB|(rw [←hG];exact uZ HB)|(rw [hG];exact uZ HB)⟩
  ·by_cases h1:t.toList=[45]
   ·have hR2:R=true:=by rw [←uZ HR];simp [txB,h1]
    have HV:=hZ hR2
    clear hR2 HR
    go_wp2_with fail
    go_ret
    exact⟨by rw [uZ HV];rfl,by first|exact uZ HX|(rw [hG];exact uZ HX)|(rw [←hG];exact uZ HX)⟩
   ·have m1:(t.toList == [45])=false:=beq_eq_false_iff_ne.2 h1
    by_cases h2:t.toList=[33]
    ·have hR2:R=true:=by rw [←uZ HR];simp [txB,h2]
     have HV:=hZ hR2
     clear hR2 HR
     go_wp2_with fail
     go_ret
     exact⟨by rw [uZ HV];rfl,by first|exact uZ HX|(rw [hG];exact uZ HX)|(rw [←hG];exact uZ HX)⟩
    ·have m2:(t.toList == [33])=false:=beq_eq_false_iff_ne.2 h2
     have hR2:R=false:=by rw [←uZ HR];simp [txB,h1,h2]
     have HV:=hZ hR2
     clear hR2 HR
     go_wp2_with fail
     go_ret
     exact⟨by rw [uZ HV];rfl,by first|exact uZ HX|(rw [hG];exact uZ HX)|(rw [←hG];exact uZ HX)⟩
  ·have CB:=hZ (binds_any 17 vk vn p t vs al ak a ll cl lk ck n cc f w1)
   obtain⟨b,hb⟩:=eX (bnS t.toList)
   rw [hb] at CB
   have HBN:=hZ hb
   clear hb
   obtain⟨_,_,x2,x3,x4,x5,x6,x7,x8,x9⟩:=row_ten (uZ HA)
   go_wp2_with fail
   refine(uZ CB).mono ?_
   rintro e w2 ⟨rfl,b2⟩
   have HB:=hZ ((uZ HX).trans (b2.mono (uZ HX).size))
   clear b2 CB x2 x3 x4 x5 x6 x7 x8 x9
   by_cases hq:0<b
   ·have q1:(0:Int)<(b:Int):=by omega
    have HV:=hZ (show R=true by rw [←uZ HR];simp [txB,uZ HBN,hq])
    clear HR
    go_wp2_with fail
    go_ret
    exact⟨by rw [uZ HV];rfl,by first|exact uZ HB|(rw [←hG];exact uZ HB)|(rw [hG];exact uZ HB)⟩
   ·have q1:¬(0:Int)<(b:Int):=by omega
    have HV:=hZ (show R=false by rw [←uZ HR];simp [txB,uZ HBN,hq])
    clear HR
    go_wp2_with fail
    go_ret
    exact⟨by rw [uZ HV];rfl,by first|exact uZ HB|(rw [←hG];exact uZ HB)|(rw [hG];exact uZ HB)⟩
  ·by_cases hq:t.size≤32
   ·have q1:(t.size:Int)≤32:=by omega
    have hR2:R=true:=by rw [←uZ HR];simp [txB,hq]
    have HV:=hZ hR2
    clear hR2 HR
    go_wp2_with fail
    go_ret
    exact⟨by rw [uZ HV];rfl,by first|exact uZ HX|(rw [hG];exact uZ HX)|(rw [←hG];exact uZ HX)⟩
   ·have q1:¬(t.size:Int)≤32:=by omega
    have hR2:R=false:=by rw [←uZ HR];simp [txB];omega
    have HV:=hZ hR2
    clear hR2 HR
    go_wp2_with fail
    go_ret
    exact⟨by rw [uZ HV];rfl,by first|exact uZ HX|(rw [hG];exact uZ HX)|(rw [←hG];exact uZ HX)⟩
 ·try simp only [not_or] at hk
  obtain⟨q2,q3,q5,q6,q14,q15,q22,q16,q17,q20⟩:=hk
  have m2:(k == 2)=false:=beq_eq_false_iff_ne.2 q2
  have m3:(k == 3)=false:=beq_eq_false_iff_ne.2 q3
  have m5:(k == 5)=false:=beq_eq_false_iff_ne.2 q5
  have m6:(k == 6)=false:=beq_eq_false_iff_ne.2 q6
  have m14:(k == 14)=false:=beq_eq_false_iff_ne.2 q14
  have m15:(k == 15)=false:=beq_eq_false_iff_ne.2 q15
  have m22:(k == 22)=false:=beq_eq_false_iff_ne.2 q22
  have m16:(k == 16)=false:=beq_eq_false_iff_ne.2 q16
  have m17:(k == 17)=false:=beq_eq_false_iff_ne.2 q17
  have m20:(k == 20)=false:=beq_eq_false_iff_ne.2 q20
  by_cases h1:t.toList=[]
  ·have hR2:R=true:=by rw [←uZ HR];simp [txB,h1,q2,q3,q5,q6,q14,q15,q22,q16,q17,q20]
   have HV:=hZ hR2
   clear hR2 HR
   go_wp2_with fail
   go_ret
   exact⟨by rw [uZ HV];rfl,by first|exact uZ HX|(rw [hG];exact uZ HX)|(rw [←hG];exact uZ HX)⟩
  ·have m1:(t.toList == [])=false:=beq_eq_false_iff_ne.2 h1
   have hR2:R=false:=by rw [←uZ HR];simp [txB,h1,q2,q3,q5,q6,q14,q15,q22,q16,q17,q20]
   have HV:=hZ hR2
   clear hR2 HR
   go_wp2_with fail
   go_ret
   exact⟨by rw [uZ HV];rfl,by first|exact uZ HX|(rw [hG];exact uZ HX)|(rw [←hG];exact uZ HX)⟩
theorem flagFits_any (k vk vn p:Int) (t vs:ByteArray) (al ak a:Option Addr) (ll cl lk ck n cc:Nat) (f:Bool) (w:World):Calls Tryz.prog 85 #[.agg #[.int .i64 k,.string t,.int .i64 vk,.int .i64 vn,.string vs,.slice al ll cl,.slice ak lk ck,.bool f,.slice a n cc,.int .i64 p]] w fun e w'=>e=.returned (.bool (flB k f))∧Below w.heap.size w w':=by
 obtain⟨w1,hw1⟩:=eX (w.alloc (.cells #[.int .i64 k,.string t,.int .i64 vk,.int .i64 vn,.string vs,.slice al ll cl,.slice ak lk ck,.bool f,.slice a n cc,.int .i64 p] 28))
 obtain⟨G,hG⟩:=eX (w.heap.size)
 have A1:=(al1 hw1 hG).1
 have HX:=hZ (alB hw1)
 obtain⟨c0,_,_,_,_,_,_,c7,_,_⟩:=row_ten A1
 have HA:=hZ A1
 obtain⟨R,hR⟩:=eX ((flB k f))
 rw [hR]
 have HR:=hZ hR
 have HW:=hZ hw1
 clear A1 hw1 hR
 go_enter Tryz.func85,Tryz.ntmps85
 go_upto_region 1 with fail
 rw [uZ HW]
 try rw [hG]
 clear HW
 by_cases hk:k=2
 ·rcases hk with rfl
  ·have hR2:R=true:=by rw [←uZ HR];simp [flB]
   have HV:=hZ hR2
   clear hR2 HR
   go_wp2_with fail
   go_ret
   exact⟨by rw [uZ HV];rfl,by first|exact uZ HX|(rw [hG];exact uZ HX)|(rw [←hG];exact uZ HX)⟩
 ·try simp only [not_or] at hk
  have q2:=hk
  have m2:(k == 2)=false:=beq_eq_false_iff_ne.2 q2
  cases f with
  |true=>
   have hR2:R=false:=by rw [←uZ HR];simp [flB,q2]
   have HV:=hZ hR2
   clear hR2 HR
   go_wp2_with fail
   go_ret
   exact⟨by rw [uZ HV];rfl,by first|exact uZ HX|(rw [hG];exact uZ HX)|(rw [←hG];exact uZ HX)⟩
  |false=>
   have hR2:R=true:=by rw [←uZ HR];simp [flB,q2]
   have HV:=hZ hR2
   clear hR2 HR
   go_wp2_with fail
   go_ret
   exact⟨by rw [uZ HV];rfl,by first|exact uZ HX|(rw [hG];exact uZ HX)|(rw [←hG];exact uZ HX)⟩
theorem valFits_any (B0:Nat) (v:Vl) (k vk vn p:Int) (t vs:ByteArray) (al ak a:Option Addr) (ll cl lk ck n cc:Nat) (f:Bool) (w:World) (hB:B0≤w.heap.size) (hv:IsV w B0 v (.agg #[.int .i64 vk,.int .i64 vn,.string vs,.slice al ll cl,.slice ak lk ck])):Calls Tryz.prog 86 #[.agg #[.int .i64 k,.string t,.int .i64 vk,.int .i64 vn,.string vs,.slice al ll cl,.slice ak lk ck,.bool f,.slice a n cc,.int .i64 p]] w fun e w'=>e=.returned (.bool (vlB k v))∧Below w.heap.size w w':=by
 obtain⟨w1,hw1⟩:=eX (w.alloc (.cells #[.int .i64 k,.string t,.int .i64 vk,.int .i64 vn,.string vs,.slice al ll cl,.slice ak lk ck,.bool f,.slice a n cc,.int .i64 p] 28))
 obtain⟨G,hG⟩:=eX (w.heap.size)
 have A1:=(al1 hw1 hG).1
 have HX:=hZ (alB hw1)
 obtain⟨c0,_,c2,c3,c4,c5,c6,_,_,_⟩:=row_ten A1
 have HA:=hZ A1
 obtain⟨R,hR⟩:=eX ((vlB k v))
 rw [hR]
 have HR:=hZ hR
 have HW:=hZ hw1
 obtain⟨w2,hw2⟩:=eX (w1.alloc (.cells #[.int .i64 vk,.int .i64 vn,.string vs,.slice al ll cl,.slice ak lk ck] 25))
 have BX:=Box.mk' w1 (.int .i64 vk) (.int .i64 vn) (.string vs) (.slice al ll cl) (.slice ak lk ck)
 rw [hw2] at BX
 obtain⟨g,hg⟩:=eX (w1.heap.size)
 have hX2:=(uZ HX).trans (BX.below.mono (uZ HX).size)
 have CV:=hZ (right_code v (.agg #[.int .i64 vk,.int .i64 vn,.string vs,.slice al ll cl,.slice ak lk ck]) B0 w2 (hv.mono (hX2.mono hB)) (Nat.le_trans hB hX2.size))
 have HX2:=hZ hX2
 obtain⟨kd,nn,ss,l,ks,al',ak',cl',ck',rfl,hsh⟩:=hv.shape
 simp only [Value.agg.injEq,Array.mk.injEq,List.cons.injEq,Value.int.injEq,Value.string.injEq,Value.slice.injEq,and_true,true_and] at hsh
 obtain⟨rfl,rfl,rfl,⟨rfl,hll,rfl⟩,rfl,hlk,rfl⟩:=hsh
 obtain⟨Q,hQ⟩:=eX (rightB (.mk vk vn vs l ks))
 rw [hQ] at CV
 have HQ:=hZ (And.intro hQ (And.intro hll.symm hlk.symm))
 have HC:=hZ BX.row
 have HA2:=hZ ((BX.below.block G (lt_of_row A1)).trans A1)
 have HW2:=hZ (And.intro hw2 hg)
 clear hw2 hg hv BX hX2 hQ hB hll hlk
 clear A1 hw1 hR
 go_enter Tryz.func86,Tryz.ntmps86
 go_upto_region 1 with fail
 rw [uZ HW]
 try rw [hG]
 clear HW
 go_upto_region 2 with fail
 rw [(uZ HW2).1]
 rw [(uZ HW2).2]
 obtain⟨d0,d1,d2,d3,d4⟩:=row_cell (uZ HC)
 rw [(uZ HW2).2] at d0 d1 d2 d3 d4
 clear HW2 c0 c2 c3 c4 c5 c6
 obtain⟨y0,_,_,_,_,_,_,_,_,_⟩:=row_ten (uZ HA2)
 by_cases hk:k=13
 ·rcases hk with rfl
  ·by_cases hv:vk=0∨vk=1∨vk=3
   ·rcases hv with rfl|rfl|rfl
    ·go_wp2_with fail
     refine(uZ CV).mono ?_
     rintro e w3 ⟨rfl,b3⟩
     have HB:=hZ ((uZ HX2).trans (b3.mono (uZ HX2).size))
     have HV:=hZ (show R=Q by rw [←uZ HR,←(uZ HQ).1];simp [vlB,])
     clear b3 CV HR
     go_wp2_with fail
     go_ret
     exact⟨by rw [uZ HV];rfl,by first|exact uZ HB|(rw [←hG];exact uZ HB)|(rw [hG];exact uZ HB)⟩
    ·go_wp2_with fail
     refine(uZ CV).mono ?_
     rintro e w3 ⟨rfl,b3⟩
     have HB:=hZ ((uZ HX2).trans (b3.mono (uZ HX2).size))
     have HV:=hZ (show R=Q by rw [←uZ HR,←(uZ HQ).1];simp [vlB,])
     clear b3 CV HR
     go_wp2_with fail
     go_ret
     exact⟨by rw [uZ HV];rfl,by first|exact uZ HB|(rw [←hG];exact uZ HB)|(rw [hG];exact uZ HB)⟩
    ·go_wp2_with fail
     refine(uZ CV).mono ?_
     rintro e w3 ⟨rfl,b3⟩
     have HB:=hZ ((uZ HX2).trans (b3.mono (uZ HX2).size))
     have HV:=hZ (show R=Q by rw [←uZ HR,←(uZ HQ).1];simp [vlB,])
     clear b3 CV HR
     go_wp2_with fail
     go_ret
     exact⟨by rw [uZ HV];rfl,by first|exact uZ HB|(rw [←hG];exact uZ HB)|(rw [hG];exact uZ HB)⟩
   ·simp only [not_or] at hv
    obtain⟨v0,v1,v3⟩:=hv
    have n0:(vk == 0)=false:=beq_eq_false_iff_ne.2 v0
    have n1:(vk == 1)=false:=beq_eq_false_iff_ne.2 v1
    have n3:(vk == 3)=false:=beq_eq_false_iff_ne.2 v3
    by_cases hv2:vk=2
    ·subst hv2
     by_cases hn:0≤vn
     ·go_wp2_with fail
      refine(uZ CV).mono ?_
      rintro e w3 ⟨rfl,b3⟩
      have HB:=hZ ((uZ HX2).trans (b3.mono (uZ HX2).size))
      have HV:=hZ (show R=Q by rw [←uZ HR,←(uZ HQ).1];simp [vlB,hn])
      clear b3 CV HR
      go_wp2_with fail
      go_ret
      exact⟨by rw [uZ HV];rfl,by first|exact uZ HB|(rw [←hG];exact uZ HB)|(rw [hG];exact uZ HB)⟩
     ·have hn2:vn<0:=by omega
      have hR2:R=false:=by rw [←uZ HR];simp [vlB];omega
      have HV:=hZ hR2
      clear hR2 HR
      go_wp2_with fail
      go_ret
      exact⟨by rw [uZ HV];rfl,by first|exact uZ HX2|(rw [←hG];exact uZ HX2)|(rw [hG];exact uZ HX2)⟩
    ·have n2:(vk == 2)=false:=beq_eq_false_iff_ne.2 hv2
     have hR2:R=false:=by rw [←uZ HR];simp [vlB,v0,v1,v3,hv2]
     have HV:=hZ hR2
     clear hR2 HR
     go_wp2_with fail
     go_ret
     exact⟨by rw [uZ HV];rfl,by first|exact uZ HX2|(rw [←hG];exact uZ HX2)|(rw [hG];exact uZ HX2)⟩
 ·try simp only [not_or] at hk
  have q13:=hk
  have m13:(k == 13)=false:=beq_eq_false_iff_ne.2 q13
  by_cases h0:vk=0
  ·subst h0
   by_cases h1:vn=0
   ·subst h1
    by_cases h2:vs.toList=[]
    ·by_cases h3:ll=0
     ·obtain rfl:=h3
      by_cases h4:lk=0
      ·obtain rfl:=h4
       have hR2:R=true:=by rw [←uZ HR];simp [vlB,q13,h2,(uZ HQ).2.1,(uZ HQ).2.2]
       have HV:=hZ hR2
       clear hR2 HR
       go_wp2_with fail
       go_ret
       exact⟨by rw [uZ HV];rfl,by first|exact uZ HX2|(rw [←hG];exact uZ HX2)|(rw [hG];exact uZ HX2)⟩
      ·have n4:((lk:Int) == 0)=false:=beq_eq_false_iff_ne.2 (by omega)
       have n4b:¬(lk:Int)=0:=by omega
       have n4c:(lk == 0)=false:=beq_eq_false_iff_ne.2 h4
       have hR2:R=false:=by rw [←uZ HR];simp [vlB,q13,h4,(uZ HQ).2.1,(uZ HQ).2.2]
       have HV:=hZ hR2
       clear hR2 HR
       go_wp2_with fail
       go_ret
       exact⟨by rw [uZ HV];rfl,by first|exact uZ HX2|(rw [←hG];exact uZ HX2)|(rw [hG];exact uZ HX2)⟩
     ·have n3:((ll:Int) == 0)=false:=beq_eq_false_iff_ne.2 (by omega)
      have n3b:¬(ll:Int)=0:=by omega
      have n3c:(ll == 0)=false:=beq_eq_false_iff_ne.2 h3
      have hR2:R=false:=by rw [←uZ HR];simp [vlB,q13,h3,(uZ HQ).2.1,(uZ HQ).2.2]
      have HV:=hZ hR2
      clear hR2 HR
      go_wp2_with fail
      go_ret
      exact⟨by rw [uZ HV];rfl,by first|exact uZ HX2|(rw [←hG];exact uZ HX2)|(rw [hG];exact uZ HX2)⟩
    ·have n2:(vs.toList == [])=false:=beq_eq_false_iff_ne.2 h2
     have hR2:R=false:=by rw [←uZ HR];simp [vlB,q13,h2,(uZ HQ).2.1,(uZ HQ).2.2]
     have HV:=hZ hR2
     clear hR2 HR
     go_wp2_with fail
     go_ret
     exact⟨by rw [uZ HV];rfl,by first|exact uZ HX2|(rw [←hG];exact uZ HX2)|(rw [hG];exact uZ HX2)⟩
   ·have n1:(vn == 0)=false:=beq_eq_false_iff_ne.2 h1
    have hR2:R=false:=by rw [←uZ HR];simp [vlB,q13,h1,(uZ HQ).2.1,(uZ HQ).2.2]
    have HV:=hZ hR2
    clear hR2 HR
    go_wp2_with fail
    go_ret
    exact⟨by rw [uZ HV];rfl,by first|exact uZ HX2|(rw [←hG];exact uZ HX2)|(rw [hG];exact uZ HX2)⟩
  ·have n0:(vk == 0)=false:=beq_eq_false_iff_ne.2 h0
   have hR2:R=false:=by rw [←uZ HR];simp [vlB,q13,h0,(uZ HQ).2.1,(uZ HQ).2.2]
   have HV:=hZ hR2
   clear hR2 HR
   go_wp2_with fail
   go_ret
   exact⟨by rw [uZ HV];rfl,by first|exact uZ HX2|(rw [←hG];exact uZ HX2)|(rw [hG];exact uZ HX2)⟩
end Go.Proofs.YtjdpaihhhjdgmaaGreatDoor
