/-
  is a tree right.
  Bytes as a source says them.
  The walks of lex's writePiece and Quote; conditions: a text of at most 2^30 bytes.
  Conditions: where nodes are told of, they lie in memory.
-/
import Derived.Test.YtlkeaaopdnnceaaGreatDoorA11
import Derived.Test.YtlkeaaopdnnceaaGreatDoorA12
import Derived.Test.YtlkeaaopdnnceaaGreatDoorA01
import Derived.Test.YtlkeaaopdnnceaaGreatDoorA00
import Derived.Test.YtlkeaaopdnnceaaGreatDoorA02
set_option linter.unusedVariables false
set_option linter.unusedSimpArgs false
set_option maxRecDepth 100000
set_option maxHeartbeats 8000000
namespace Go.Proofs.YtlkeaaopdnnceaaGreatDoor
open Go.RowKit
set_option linter.unusedVariables false
set_option linter.unusedSimpArgs false
theorem right_node (B0:Nat) (y:Tn) (x:List Value) (w:World) (hB:B0≤w.heap.size) (hx:IsN w (fun b=>b<B0) y x):Calls Tryz.prog 22 #[.agg x.toArray] w fun e w'=>e=.returned (.bool (rgB y))∧Below w.heap.size w w':=by
 have hx0:=hx
 obtain⟨vk,vn,vs,al,ak,a,ll,cl,lk,ck,cc,rfl,_⟩:=hx.shape
 obtain⟨R,hR⟩:∃R,(rgB y)=R:=⟨_,rfl⟩
 rw [hR]
 have HR:=hZ hR
 obtain⟨k,t,v,f,ks,p⟩:=y
 obtain⟨n,hn⟩:∃n,ks.length=n:=⟨_,rfl⟩
 simp only [hn] at hx0 HR ⊢
 obtain⟨w1,hw1⟩:∃w1,w.alloc (.cells #[.int .i64 k,.string t,.int .i64 vk,.int .i64 vn,.string vs,.slice al ll cl,.slice ak lk ck,.bool f,.slice a n cc,.int .i64 p] 28)=w1:=⟨_,rfl⟩
 obtain⟨G,hG⟩:∃G,w.heap.size=G:=⟨_,rfl⟩
 obtain⟨A1,X1⟩:=al1 hw1 hG
 have hBG:B0≤G:=by rw [←hG];exact hB
 have HM:Hid (∀u,Below G w u→IsN u (fun b=>b<B0) ⟨k,t,v,f,ks,p⟩ [.int .i64 k,.string t,.int .i64 vk,.int .i64 vn,.string vs,.slice al ll cl,.slice ak lk ck,.bool f,.slice a n cc,.int .i64 p]∧B0≤u.heap.size):=hZ (fun u b=>⟨hx0.laterB (b.mono hBG),Nat.le_trans hB b.size⟩)
 have HA:=hZ A1
 have HX:=hZ X1
 have HW:=hZ hw1
 have hGs:Hid (G≤w1.heap.size):=hZ (Nat.le_of_lt (lt_of_row A1))
 clear A1 X1 hw1 hR hx hx0 hn hBG hB
 go_enter Tryz.func22,Tryz.ntmps22
 go_upto_region 1 with fail
 rw [uZ HW]
 try rw [hG]
 clear HW
 obtain⟨x0,x1,x2,x3,x4,x5,x6,x7,x8,x9⟩:=row_ten (uZ HA)
 have CC:=hZ (small_any B0 ⟨k,t,v,f,ks,p⟩ _ w1 (uZ HM w1 (uZ HX)).2 (uZ HM w1 (uZ HX)).1)
 obtain⟨q,hq⟩:∃q,decide (cns [⟨k,t,v,f,ks,p⟩]≤20000)=q:=⟨_,rfl⟩
 rw [hq] at CC
 have HQ1:=hZ hq
 clear hq
 go_wp2_with fail
 refine(uZ CC).mono ?_
 rintro e w2 ⟨rfl,b⟩
 have HA2:=hZ (Below.cellsAt b (uZ HA))
 have HX2:=hZ ((uZ HX).trans (b.mono (uZ hGs)))
 have hGs2:=hZ (Nat.le_trans (uZ hGs) b.size)
 clear b CC x0 x1 x2 x3 x4 x5 x6 x7 x8 x9 HA HX hGs
 have HA:=HA2
 have HX:=HX2
 have hGs:=hGs2
 clear HA2 HX2 hGs2
 obtain⟨x0,x1,x2,x3,x4,x5,x6,x7,x8,x9⟩:=row_ten (uZ HA)
 cases q with
 |false=>
  have HV:=hZ (show R=false by rw [←uZ HR];unfold rgB;rw [uZ HQ1,Bool.false_and,Bool.false_and])
  clear HR
  go_wp2_with fail
  go_ret
  exact⟨by rw [uZ HV] <;> rfl,by first|exact uZ HX|(rw [hG];exact uZ HX)⟩
 |true=>
  have CC:=hZ (pformed_any B0 ⟨k,t,v,f,ks,p⟩ _ w2 (uZ HM w2 (uZ HX)).2 (uZ HM w2 (uZ HX)).1)
  obtain⟨q,hq⟩:∃q,fmB ⟨k,t,v,f,ks,p⟩=q:=⟨_,rfl⟩
  rw [hq] at CC
  have HQ2:=hZ hq
  clear hq
  go_wp2_with fail
  refine(uZ CC).mono ?_
  rintro e w3 ⟨rfl,b⟩
  have HA2:=hZ (Below.cellsAt b (uZ HA))
  have HX2:=hZ ((uZ HX).trans (b.mono (uZ hGs)))
  have hGs2:=hZ (Nat.le_trans (uZ hGs) b.size)
  clear b CC x0 x1 x2 x3 x4 x5 x6 x7 x8 x9 HA HX hGs
  have HA:=HA2
  have HX:=HX2
  have hGs:=hGs2
  clear HA2 HX2 hGs2
  obtain⟨x0,x1,x2,x3,x4,x5,x6,x7,x8,x9⟩:=row_ten (uZ HA)
  cases q with
  |false=>
   have HV:=hZ (show R=false by rw [←uZ HR];unfold rgB;rw [uZ HQ2,Bool.and_false,Bool.false_and])
   clear HR
   go_wp2_with fail
   go_ret
   exact⟨by rw [uZ HV] <;> rfl,by first|exact uZ HX|(rw [hG];exact uZ HX)⟩
  |true=>
   have HC:=hZ (of_decide_eq_true (uZ HQ1))
   have CC:=hZ (deep_all _ B0 ⟨k,t,v,f,ks,p⟩ (Nat.le_refl _) (uZ HC) _ w3 (uZ HM w3 (uZ HX)).2 (uZ HM w3 (uZ HX)).1)
   obtain⟨d,hd⟩:∃d,dpN ⟨k,t,v,f,ks,p⟩=d:=⟨_,rfl⟩
   rw [hd] at CC
   have HD:=hZ hd
   clear hd
   go_wp2_with fail
   refine(uZ CC).mono ?_
   rintro e w4 ⟨rfl,b⟩
   have HA2:=hZ (Below.cellsAt b (uZ HA))
   have HX2:=hZ ((uZ HX).trans (b.mono (uZ hGs)))
   have hGs2:=hZ (Nat.le_trans (uZ hGs) b.size)
   clear b CC x0 x1 x2 x3 x4 x5 x6 x7 x8 x9 HA HX hGs
   have HA:=HA2
   have HX:=HX2
   have hGs:=hGs2
   clear HA2 HX2 hGs2
   obtain⟨x0,x1,x2,x3,x4,x5,x6,x7,x8,x9⟩:=row_ten (uZ HA)
   clear x0 x1 x2 x3 x4 x5 x6 x7 x8 x9
   by_cases hq:d≤24
   ·have q1: (d:Int)≤24:=by omega
    have q2:decide ((d:Int)≤24)=true:=by simpa using q1
    have q3:decide (d≤24)=true:=by simpa using hq
    have HV:=hZ (show R=true by rw [←uZ HR];unfold rgB;rw [uZ HQ1,uZ HQ2,uZ HD,decide_eq_true hq];rfl)
    clear HR
    go_wp2_with fail
    go_ret
    exact⟨by rw [uZ HV] <;> rfl,by first|exact uZ HX|(rw [hG];exact uZ HX)⟩
   ·have q1:¬(d:Int)≤24:=by omega
    have q2:decide ((d:Int)≤24)=false:=by simpa using q1
    have q3:decide (d≤24)=false:=by simpa using hq
    have HV:=hZ (show R=false by rw [←uZ HR];unfold rgB;rw [uZ HQ1,uZ HQ2,uZ HD,decide_eq_false hq];rfl)
    clear HR
    go_wp2_with fail
    go_ret
    exact⟨by rw [uZ HV] <;> rfl,by first|exact uZ HX|(rw [hG];exact uZ HX)⟩
theorem Right_any (B0:Nat) (y:Tn) (x:List Value) (w:World) (hB:B0≤w.heap.size) (hx:IsN w (fun b=>b<B0) y x):Calls Tryz.prog 12 #[.agg x.toArray] w fun e w'=>e=.returned (.bool (decide (y.k=1) && rgB y))∧Below w.heap.size w w':=by
 have hx0:=hx
 obtain⟨vk,vn,vs,al,ak,a,ll,cl,lk,ck,cc,rfl,_⟩:=hx.shape
 obtain⟨R,hR⟩:∃R,(decide (y.k=1) && rgB y)=R:=⟨_,rfl⟩
 rw [hR]
 have HR:=hZ hR
 obtain⟨k,t,v,f,ks,p⟩:=y
 obtain⟨n,hn⟩:∃n,ks.length=n:=⟨_,rfl⟩
 simp only [hn] at hx0 HR ⊢
 obtain⟨w1,hw1⟩:∃w1,w.alloc (.cells #[.int .i64 k,.string t,.int .i64 vk,.int .i64 vn,.string vs,.slice al ll cl,.slice ak lk ck,.bool f,.slice a n cc,.int .i64 p] 28)=w1:=⟨_,rfl⟩
 obtain⟨G,hG⟩:∃G,w.heap.size=G:=⟨_,rfl⟩
 obtain⟨A1,X1⟩:=al1 hw1 hG
 have hBG:B0≤G:=by rw [←hG];exact hB
 have HM:Hid (∀u,Below G w u→IsN u (fun b=>b<B0) ⟨k,t,v,f,ks,p⟩ [.int .i64 k,.string t,.int .i64 vk,.int .i64 vn,.string vs,.slice al ll cl,.slice ak lk ck,.bool f,.slice a n cc,.int .i64 p]∧B0≤u.heap.size):=hZ (fun u b=>⟨hx0.laterB (b.mono hBG),Nat.le_trans hB b.size⟩)
 have HA:=hZ A1
 have HX:=hZ X1
 have HW:=hZ hw1
 have hGs:Hid (G≤w1.heap.size):=hZ (Nat.le_of_lt (lt_of_row A1))
 clear A1 X1 hw1 hR hx hx0 hn hBG hB
 go_enter Tryz.func12,Tryz.ntmps12
 go_upto_region 1 with fail
 rw [uZ HW]
 try rw [hG]
 clear HW
 obtain⟨x0,x1,x2,x3,x4,x5,x6,x7,x8,x9⟩:=row_ten (uZ HA)
 by_cases hk:k=1
 ·subst hk
  have CC:=hZ (right_node B0 ⟨1,t,v,f,ks,p⟩ _ w1 (uZ HM w1 (uZ HX)).2 (uZ HM w1 (uZ HX)).1)
  obtain⟨q,hq⟩:∃q,rgB ⟨1,t,v,f,ks,p⟩=q:=⟨_,rfl⟩
  rw [hq] at CC
  have HQ1:=hZ hq
  clear hq
  go_wp2_with fail
  refine(uZ CC).mono ?_
  rintro e w2 ⟨rfl,b⟩
  have HA2:=hZ (Below.cellsAt b (uZ HA))
  have HX2:=hZ ((uZ HX).trans (b.mono (uZ hGs)))
  have hGs2:=hZ (Nat.le_trans (uZ hGs) b.size)
  clear b CC x0 x1 x2 x3 x4 x5 x6 x7 x8 x9 HA HX hGs
  have HA:=HA2
  have HX:=HX2
  have hGs:=hGs2
  clear HA2 HX2 hGs2
  obtain⟨x0,x1,x2,x3,x4,x5,x6,x7,x8,x9⟩:=row_ten (uZ HA)
  clear x0 x1 x2 x3 x4 x5 x6 x7 x8 x9
  have HV:=hZ (show R=q by rw [←uZ HR,←uZ HQ1];rfl)
  clear HR
  go_wp2_with fail
  go_ret
  exact⟨by rw [uZ HV] <;> rfl,by first|exact uZ HX|(rw [hG];exact uZ HX)⟩
 ·have z1:(k == 1)=false:=beq_eq_false_iff_ne.2 hk
  have HV:=hZ (show R=false by rw [←uZ HR];simp [hk])
  clear HR
  go_wp2_with fail
  go_ret
  exact⟨by rw [uZ HV] <;> rfl,by first|exact uZ HX|(rw [hG];exact uZ HX)⟩
def hx (n:Nat):UInt8:=if n<10 then UInt8.ofNat (48+n) else UInt8.ofNat (87+n)
def qB (c:UInt8):List UInt8:=if c.toNat=34∨c.toNat=92 then [92,c] else if 32≤c.toNat∧c.toNat≤126 then [c] else [92,120,hx (c.toNat / 16),hx (c.toNat % 16)]
def quoB (l:List UInt8):List UInt8:=34 :: l.flatMap qB++[34]
theorem qB_num (c:UInt8) (h:c.toNat<32∨126<c.toNat):qB c=[92,120,hx (c.toNat / 16),hx (c.toNat % 16)]:=by
 unfold qB
 rw [if_neg (by omega),if_neg (by omega)]
theorem qB_esc (c:UInt8) (h:c.toNat=34∨c.toNat=92):qB c=[92,c]:=by
 unfold qB
 rw [if_pos (by omega)]
theorem qB_own (c:UInt8) (h0:32≤c.toNat) (h1:c.toNat≤126) (h2:c.toNat≠34) (h3:c.toNat≠92):qB c=[c]:=by
 unfold qB
 rw [if_neg (by omega),if_pos (by omega)]
theorem qB_len (c:UInt8):(qB c).length≤4∧1≤(qB c).length:=by
 unfold qB
 split
 ·simp
 ·split <;> simp
theorem flatB_len (l:List UInt8):(l.flatMap qB).length≤4 * l.length:=by
 induction l with
 |nil=>exact Nat.le_refl _
 |cons c l ih=>
  rw [List.flatMap_cons,List.length_append,List.length_cons]
  have:=qB_len c
  omega
theorem flatB_next (s:ByteArray) (i:Nat) (h:i<s.size):(s.data.toList.take (i+1)).flatMap qB=(s.data.toList.take i).flatMap qB++qB (s[i]'h):=by
 have e:s.data.toList[i]?=some (s[i]'h):=by rw [Array.getElem?_toList];exact Array.getElem?_eq_getElem h
 rw [List.take_add_one,e,List.flatMap_append]
 simp
def hexB:ByteArray:=⟨#[48,49,50,51,52,53,54,55,56,57,97,98,99,100,101,102]⟩
theorem hexB_fin:∀d:Fin 16,hexB[d.val]'(by have:=d.isLt;show d.val<16;omega)=hx d.val:=by decide +kernel
theorem hexB_at (k:Nat) (h:k<16) (hh:k<hexB.size):hexB[k]'hh=hx k:=hexB_fin ⟨k,h⟩
theorem Wr.size {B b:Nat} {l:List UInt8} {w w':World} (h:Wr B b l w w') (hB:B≤w.heap.size):B≤w'.heap.size:=Nat.le_trans hB h.below.size
theorem Wr.trans {B b:Nat} {l l':List UInt8} {w u v:World} (h:Wr B b l w u) (h':Wr B b l' u v):Wr B b l' w v:=⟨h'.bd,h.below.trans h'.below,h.kept.trans h'.kept⟩
theorem wbyte_lit (B b:Nat) (l:List UInt8) (c:UInt8) (z:Int) (hz:(c.toNat:Int)=z) (w:World) (h:Bd w B b l) (hlen:l.length+1≤140737488355328) (hBw:B≤w.heap.size) :
  Calls Tryz.prog 113 #[.pointer (some ⟨b,0,none⟩),.int .u8 z] w fun e w'=>e=.returned .nilIface∧Wr B b (l++[c]) w w':=by
 rw [←hz]
 exact wbyte_any B b l c w h hlen hBw
theorem wpiece_any (B b:Nat) (l:List UInt8) (c:UInt8) (w:World) (h:Bd w B b l) (hlen:l.length+4≤1099511627776) (hBw:B≤w.heap.size) :
  Calls Tryz.prog 118 #[.pointer (some ⟨b,0,none⟩),.int .u8 (c.toNat:Int)] w fun e w'=>e=.returned (.tuple #[])∧Wr B b (l++qB c) w w':=by
 obtain⟨z,hz⟩:∃z:Nat,c.toNat=z:=⟨_,rfl⟩
 have z1:(z:Int)≤255:=by have:=c.toNat_lt;omega
 have HZ:=hZ hz
 have HL:=hZ hlen
 have HB:=hZ hBw
 have HBd:=hZ h
 have hcz:((c.toNat:Nat):Int)=(z:Int):=by rw [hz]
 rw [hcz]
 by_cases hn:z<32∨126<z
 ·have HQ:Hid (qB c=[92,120]++[hx (z / 16)]++[hx (z % 16)]):=hZ (by rw [qB_num c (by omega),hz];rfl)
  have hs1:hexB.size=16:=rfl
  have C1:=hZ (wstr_any B b l ⟨#[92,120]⟩ w h (by show _+2≤_;omega) hBw)
  clear h hcz hz
  rcases hn with h1|h1
  ·have i1:(z:Int)<32:=by omega
   go_enter Tryz.func118,Tryz.ntmps118
   go_wp2_with fail
   refine(uZ C1).mono ?_
   rintro e w1 ⟨rfl,k1⟩
   have HX1:=hZ k1
   clear k1 C1
   go_wp2_with fail
   refine(wbyte_any B b _ (hexB[z / 16]'(by omega)) w1 (uZ HX1).bd (by have:=uZ HL;rw [List.length_append];show _+2+1≤_;omega) ((uZ HX1).size (uZ HB))).mono ?_
   rintro e w2 ⟨rfl,k2⟩
   have HX2:=hZ ((uZ HX1).trans k2)
   clear k2 HX1
   go_wp2_with fail
   refine(wbyte_any B b _ (hexB[z % 16]'(by omega)) w2 (uZ HX2).bd (by have:=uZ HL;rw [List.length_append,List.length_append];show _+2+1+1≤_;omega) ((uZ HX2).size (uZ HB))).mono ?_
   rintro e w3 ⟨rfl,k3⟩
   have HX3:=hZ ((uZ HX2).trans k3)
   clear k3 HX2
   go_wp2_with fail
   go_end0
   refine⟨rfl,?_⟩
   have h3:=uZ HX3
   rw [hexB_at (z / 16) (by omega) (by omega),hexB_at (z % 16) (by omega) (by omega)] at h3
   rw [uZ HQ]
   simpa using h3
  ·have i0:¬(z:Int)<32:=by omega
   have i1:(126:Int)<(z:Int):=by omega
   go_enter Tryz.func118,Tryz.ntmps118
   go_wp2_with fail
   refine(uZ C1).mono ?_
   rintro e w1 ⟨rfl,k1⟩
   have HX1:=hZ k1
   clear k1 C1
   go_wp2_with fail
   refine(wbyte_any B b _ (hexB[z / 16]'(by omega)) w1 (uZ HX1).bd (by have:=uZ HL;rw [List.length_append];show _+2+1≤_;omega) ((uZ HX1).size (uZ HB))).mono ?_
   rintro e w2 ⟨rfl,k2⟩
   have HX2:=hZ ((uZ HX1).trans k2)
   clear k2 HX1
   go_wp2_with fail
   refine(wbyte_any B b _ (hexB[z % 16]'(by omega)) w2 (uZ HX2).bd (by have:=uZ HL;rw [List.length_append,List.length_append];show _+2+1+1≤_;omega) ((uZ HX2).size (uZ HB))).mono ?_
   rintro e w3 ⟨rfl,k3⟩
   have HX3:=hZ ((uZ HX2).trans k3)
   clear k3 HX2
   go_wp2_with fail
   go_end0
   refine⟨rfl,?_⟩
   have h3:=uZ HX3
   rw [hexB_at (z / 16) (by omega) (by omega),hexB_at (z % 16) (by omega) (by omega)] at h3
   rw [uZ HQ]
   simpa using h3
 ·have i0:¬(z:Int)<32:=by omega
  have i1:¬(126:Int)<(z:Int):=by omega
  by_cases hq:z=34∨z=92
  ·have HQ:Hid (qB c=[92]++[c]):=hZ (by rw [qB_esc c (by omega)];rfl)
   have C1:=hZ (wbyte_lit B b l 92 92 rfl w h (by omega) hBw)
   rcases hq with q1|q1
   ·have q2:((z:Int) == 34)=true:=beq_iff_eq.2 (by omega)
    have q3:(z:Int)=34:=by omega
    have HC:Hid ((c.toNat:Int)=34):=hZ (by omega)
    rw [q3]
    clear h hcz hz q1 q2 q3 i0 i1 hn z1
    go_enter Tryz.func118,Tryz.ntmps118
    go_wp2_with fail
    refine(uZ C1).mono ?_
    rintro e w1 ⟨rfl,k1⟩
    have HX1:=hZ k1
    clear k1 C1
    have C2:=hZ (wbyte_lit B b _ c 34 (uZ HC) w1 (uZ HX1).bd (by have:=uZ HL;rw [List.length_append];show _+1+1≤_;omega) ((uZ HX1).size (uZ HB)))
    go_wp2_with fail
    refine(uZ C2).mono ?_
    rintro e w2 ⟨rfl,k2⟩
    have HX2:=hZ ((uZ HX1).trans k2)
    clear k2 C2 HX1
    go_wp2_with fail
    go_end0
    refine⟨rfl,?_⟩
    have h3:=uZ HX2
    rw [uZ HQ]
    simpa using h3
   ·have q3:(z:Int)=92:=by omega
    have HC:Hid ((c.toNat:Int)=92):=hZ (by omega)
    rw [q3]
    clear h hcz hz q1 q3 i0 i1 hn z1
    go_enter Tryz.func118,Tryz.ntmps118
    go_wp2_with fail
    refine(uZ C1).mono ?_
    rintro e w1 ⟨rfl,k1⟩
    have HX1:=hZ k1
    clear k1 C1
    have C2:=hZ (wbyte_lit B b _ c 92 (uZ HC) w1 (uZ HX1).bd (by have:=uZ HL;rw [List.length_append];show _+1+1≤_;omega) ((uZ HX1).size (uZ HB)))
    go_wp2_with fail
    refine(uZ C2).mono ?_
    rintro e w2 ⟨rfl,k2⟩
    have HX2:=hZ ((uZ HX1).trans k2)
    clear k2 C2 HX1
    go_wp2_with fail
    go_end0
    refine⟨rfl,?_⟩
    have h3:=uZ HX2
    rw [uZ HQ]
    simpa using h3
  ·have HQ:Hid (qB c=[c]):=hZ (qB_own c (by omega) (by omega) (by omega) (by omega))
   have q2:((z:Int) == 34)=false:=beq_eq_false_iff_ne.2 (by omega)
   have q4:((z:Int) == 92)=false:=beq_eq_false_iff_ne.2 (by omega)
   have q5:¬(z:Int)=34:=by omega
   have q6:¬(z:Int)=92:=by omega
   have C1:=hZ (wbyte_lit B b l c (z:Int) hcz w h (by omega) hBw)
   clear h hcz hz hq
   go_enter Tryz.func118,Tryz.ntmps118
   go_wp2_with fail
   refine(uZ C1).mono ?_
   rintro e w1 ⟨rfl,k1⟩
   have HX1:=hZ k1
   clear k1 C1
   go_wp2_with fail
   go_end0
   refine⟨rfl,?_⟩
   have h3:=uZ HX1
   rw [uZ HQ]
   simpa using h3
theorem quoteL_any (s:ByteArray) (hs:s.size≤1073741824) (w:World) :
  Calls Tryz.prog 81 #[.string s] w fun e w'=>e=.returned (.string (bA (quoB s.data.toList)))∧Below w.heap.size w w':=by
 obtain⟨B,hB⟩:∃B,w.heap.size=B:=⟨_,rfl⟩
 obtain⟨u,hu⟩:∃u,w.alloc (.cells #[.pointer none,.slice none 0 0] 50)=u:=⟨_,rfl⟩
 have hbu:Below B w u:=by rw [←hu,←hB];exact(Below.refl _ _).alloc (Nat.le_refl _) _
 have F1:Bd u B B []:=by
  have h:=Lib.IsBuilderF.of (Lib.fresh_isBuilder 50 5 w)
  rw [hu,hB] at h
  exact h
 have C1:=hZ (wbyte_lit B B [] 34 34 rfl u F1 (by decide) (by have:=hbu.size;omega))
 have HBU:=hZ hbu
 have HBB:=hZ hB
 have HS:=hZ hs
 have hs2:(s.size:Int)≤1073741824:=by omega
 obtain⟨R,hR⟩:∃R,bA (quoB s.data.toList)=R:=⟨_,rfl⟩
 have HR:=hZ hR
 rw [hR]
 clear hbu F1 hR hs
 go_enter Tryz.func81,Tryz.ntmps81
 go_wp2_with fail
 refine(uZ C1).mono ?_
 rintro e w1 ⟨rfl,k1⟩
 have HX1:=hZ k1
 clear k1 C1
 go_wp2_with fail
 go_loopw [8] (fun x wr=>∃(i:Nat),x=.int .i64 (i:Int)∧i≤s.size∧Hid (Wr B B (34 :: (s.data.toList.take i).flatMap qB) u wr)) (fun x _=>s.size - (intOf x).toNat)
 case atStart=>exact⟨0,rfl,Nat.zero_le _,hZ (by simpa using uZ HX1)⟩
 case round=>
  obtain⟨i,rfl,hi,HX⟩:=hrel
  have HLE:Hid ((34 :: (s.data.toList.take i).flatMap qB).length≤1+4 * i):=hZ (by
   rw [List.length_cons]
   have:=flatB_len (s.data.toList.take i)
   have:=List.length_take_le i s.data.toList
   omega)
  by_cases hlt:i<s.size
  ·have j1:(i:Int)<(s.size:Int):=by omega
   obtain⟨c,hc⟩:∃c,s[i]'hlt=c:=⟨_,rfl⟩
   have hci:((s[i]'hlt).toNat:Int)=(c.toNat:Int):=by rw [hc]
   have HN:Hid (34 :: (s.data.toList.take (i+1)).flatMap qB=(34 :: (s.data.toList.take i).flatMap qB)++qB c):=hZ (by rw [flatB_next s i hlt,hc];rfl)
   have CP:=hZ (wpiece_any B B _ c wr (uZ HX).bd (by have:=uZ HLE;have:=uZ HS;omega) ((uZ HX).size (by have:=(uZ HBU).size;have:=uZ HBB;omega)))
   have HLT:=hZ hlt
   clear hc
   go_wp2_with fail
   refine(uZ CP).mono ?_
   rintro e w2 ⟨rfl,k2⟩
   have HX2:Hid (Wr B B (34 :: (s.data.toList.take (i+1)).flatMap qB) u w2):=hZ (by rw [uZ HN];exact(uZ HX).trans k2)
   clear k2 CP
   go_wp2_with fail
   go_roundw
   case rel=>exact⟨i+1,by go_num,uZ HLT,HX2⟩
   case measure=>have:=uZ HLT;simp [intOf];omega
  ·have e:i=s.size:=by omega
   have j1:¬(i:Int)<(s.size:Int):=by omega
   have CP:=hZ (wbyte_lit B B _ 34 34 rfl wr (uZ HX).bd (by have:=uZ HLE;have:=uZ HS;omega) ((uZ HX).size (by have:=(uZ HBU).size;have:=uZ HBB;omega)))
   have HE:Hid (34 :: (s.data.toList.take i).flatMap qB++[34]=quoB s.data.toList):=hZ (by
    rw [e,show s.data.toList.take s.size=s.data.toList from List.take_of_length_le (Nat.le_refl _)]
    rfl)
   clear e
   go_wp2_with fail
   refine(uZ CP).mono ?_
   rintro e w2 ⟨rfl,k2⟩
   have HX2:Hid (Wr B B (quoB s.data.toList) u w2):=hZ (by rw [←uZ HE];exact(uZ HX).trans k2)
   clear k2 CP
   have CS:=hZ (Tryz.Builder_String_any_k B B _ w2 (uZ HX2).bd ((uZ HX2).size (by have:=(uZ HBU).size;have:=uZ HBB;omega)))
   go_wp2_with fail
   refine(uZ CS).mono ?_
   rintro e w3 ⟨rfl,hd3,hb3,hk3⟩
   have HB3:Hid (Below B w w3):=hZ ((uZ HBU).trans ((uZ HX2).below.trans hb3))
   clear hd3 hb3 hk3 CS
   go_wp2_with fail
   go_ret
   exact⟨by rw [←uZ HR];rfl,by first|exact uZ HB3|(rw [uZ HBB];exact uZ HB3)⟩
end Go.Proofs.YtlkeaaopdnnceaaGreatDoor
