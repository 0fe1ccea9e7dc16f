/-
  Layer 18 (print): is a tree right; conditions: the nodes lie in memory.
  Bytes as a source says them; no conditions.
  The walks of lex's writePiece and Quote; conditions: a text of at most 2^30 bytes.
-/
import Derived.Test.YtekbmfppfjlboaaGreatDoorA21
import Derived.Test.YtekbmfppfjlboaaGreatDoorA14
import Derived.Test.YtekbmfppfjlboaaGreatDoorA05
import Derived.Test.YtekbmfppfjlboaaGreatDoorA03
import Derived.Test.YtekbmfppfjlboaaGreatDoorA06
set_option linter.unusedVariables false
set_option linter.unusedSimpArgs false
namespace Go.Proofs.YtekbmfppfjlboaaGreatDoor
open Go.RowKit
set_option linter.unusedVariables false
set_option linter.unusedSimpArgs false
set_option maxRecDepth 100000 in
set_option maxHeartbeats 2000000 in
theorem right_node (B0:Nat) (y:Tn) (x:List Value) (w:World) (hB:B0≤w.heap.size) (hx:IsN w (fun b=>b<B0) y x):Calls Tryz.prog 22 #[.agg x.toArray] w fun e w'=>e=.returned (.bool (rgB y))∧Below w.heap.size w w':=by
 have hx0:=hx
 obtain⟨vk,vn,vs,al,ak,a,ll,cl,lk,ck,cc,rfl,_⟩:=hx.shape
 obtain⟨R,hR⟩:∃R,(rgB y)=R:=⟨_,rfl⟩
 rw [hR]
 have HR:=hide hR
 obtain⟨k,t,v,f,ks,p⟩:=y
 obtain⟨n,hn⟩:∃n,ks.length=n:=⟨_,rfl⟩
 simp only [hn] at hx0 HR ⊢
 obtain⟨w1,hw1⟩:∃w1,w.alloc (.cells #[.int .i64 k,.string t,.int .i64 vk,.int .i64 vn,.string vs,.slice al ll cl,.slice ak lk ck,.bool f,.slice a n cc,.int .i64 p] 28)=w1:=⟨_,rfl⟩
 obtain⟨G,hG⟩:∃G,w.heap.size=G:=⟨_,rfl⟩
 have A1:w1.heap[G]?=some (.cells #[.int .i64 k,.string t,.int .i64 vk,.int .i64 vn,.string vs,.slice al ll cl,.slice ak lk ck,.bool f,.slice a n cc,.int .i64 p] 28 (0,0)):=by rw [←hw1,←hG];exact heap_alloc_new _ _
 have X1:Below G w w1:=by rw [←hw1,←hG];exact(Below.refl _ _).alloc (Nat.le_refl _) _
 have hBG:B0≤G:=by rw [←hG];exact hB
 have HM:Hid (∀u,Below G w u→IsN u (fun b=>b<B0) ⟨k,t,v,f,ks,p⟩ [.int .i64 k,.string t,.int .i64 vk,.int .i64 vn,.string vs,.slice al ll cl,.slice ak lk ck,.bool f,.slice a n cc,.int .i64 p]∧B0≤u.heap.size):=hide (fun u b=>⟨hx0.laterB (b.mono hBG),Nat.le_trans hB b.size⟩)
 have HA:=hide A1
 have HX:=hide X1
 have HW:=hide hw1
 have hGs:Hid (G≤w1.heap.size):=hide (Nat.le_of_lt (lt_of_row A1))
 clear A1 X1 hw1 hR hx hx0 hn hBG hB
 go_enter Tryz.func22,Tryz.ntmps22
 go_upto_region 1 with fail
 rw [unhide HW]
 try rw [hG]
 clear HW
 obtain⟨x0,x1,x2,x3,x4,x5,x6,x7,x8,x9⟩:=row_ten (unhide HA)
 have CC:=hide (small_any B0 ⟨k,t,v,f,ks,p⟩ _ w1 (unhide HM w1 (unhide HX)).2 (unhide HM w1 (unhide HX)).1)
 obtain⟨q,hq⟩:∃q,decide (cns [⟨k,t,v,f,ks,p⟩]≤20000)=q:=⟨_,rfl⟩
 rw [hq] at CC
 have HQ1:=hide hq
 clear hq
 go_wp2_with fail
 refine(unhide CC).mono ?_
 rintro e w2 ⟨rfl,b⟩
 have HA2:=hide (Below.cellsAt b (unhide HA))
 have HX2:=hide ((unhide HX).trans (b.mono (unhide hGs)))
 have hGs2:=hide (Nat.le_trans (unhide hGs) b.size)
 clear b CC x0 x1 x2 x3 x4 x5 x6 x7 x8 x9 HA HX hGs
 have HA:=HA2
 have HX:=HX2
 have hGs:=hGs2
 clear HA2 HX2 hGs2
 obtain⟨x0,x1,x2,x3,x4,x5,x6,x7,x8,x9⟩:=row_ten (unhide HA)
 cases q with
 |false=>
  have HV:=hide (show R=false by rw [←unhide HR];unfold rgB;rw [unhide HQ1,Bool.false_and,Bool.false_and])
  clear HR
  go_wp2_with fail
  go_ret
  exact⟨by rw [unhide HV] <;> rfl,by first|exact unhide HX|(rw [hG];exact unhide HX)⟩
 |true=>
  have CC:=hide (pformed_any B0 ⟨k,t,v,f,ks,p⟩ _ w2 (unhide HM w2 (unhide HX)).2 (unhide HM w2 (unhide HX)).1)
  obtain⟨q,hq⟩:∃q,fmB ⟨k,t,v,f,ks,p⟩=q:=⟨_,rfl⟩
  rw [hq] at CC
  have HQ2:=hide hq
  clear hq
  go_wp2_with fail
  refine(unhide CC).mono ?_
  rintro e w3 ⟨rfl,b⟩
  have HA2:=hide (Below.cellsAt b (unhide HA))
  have HX2:=hide ((unhide HX).trans (b.mono (unhide hGs)))
  have hGs2:=hide (Nat.le_trans (unhide hGs) b.size)
  clear b CC x0 x1 x2 x3 x4 x5 x6 x7 x8 x9 HA HX hGs
  have HA:=HA2
  have HX:=HX2
  have hGs:=hGs2
  clear HA2 HX2 hGs2
  obtain⟨x0,x1,x2,x3,x4,x5,x6,x7,x8,x9⟩:=row_ten (unhide HA)
  cases q with
  |false=>
   have HV:=hide (show R=false by rw [←unhide HR];unfold rgB;rw [unhide HQ2,Bool.and_false,Bool.false_and])
   clear HR
   go_wp2_with fail
   go_ret
   exact⟨by rw [unhide HV] <;> rfl,by first|exact unhide HX|(rw [hG];exact unhide HX)⟩
  |true=>
   have HC:=hide (of_decide_eq_true (unhide HQ1))
   have CC:=hide (deep_all _ B0 ⟨k,t,v,f,ks,p⟩ (Nat.le_refl _) (unhide HC) _ w3 (unhide HM w3 (unhide HX)).2 (unhide HM w3 (unhide HX)).1)
   obtain⟨d,hd⟩:∃d,dpN ⟨k,t,v,f,ks,p⟩=d:=⟨_,rfl⟩
   rw [hd] at CC
   have HD:=hide hd
   clear hd
   go_wp2_with fail
   refine(unhide CC).mono ?_
   rintro e w4 ⟨rfl,b⟩
   have HA2:=hide (Below.cellsAt b (unhide HA))
   have HX2:=hide ((unhide HX).trans (b.mono (unhide hGs)))
   have hGs2:=hide (Nat.le_trans (unhide hGs) b.size)
   clear b CC x0 x1 x2 x3 x4 x5 x6 x7 x8 x9 HA HX hGs
   have HA:=HA2
   have HX:=HX2
   have hGs:=hGs2
   clear HA2 HX2 hGs2
   obtain⟨x0,x1,x2,x3,x4,x5,x6,x7,x8,x9⟩:=row_ten (unhide HA)
   clear x0 x1 x2 x3 x4 x5 x6 x7 x8 x9
   by_cases hq:d≤24
   ·have q1: (d:Int)≤24:=by omega
    have q2:decide ((d:Int)≤24)=true:=by simpa using q1
    have q3:decide (d≤24)=true:=by simpa using hq
    have HV:=hide (show R=true by rw [←unhide HR];unfold rgB;rw [unhide HQ1,unhide HQ2,unhide HD,decide_eq_true hq];rfl)
    clear HR
    go_wp2_with fail
    go_ret
    exact⟨by rw [unhide HV] <;> rfl,by first|exact unhide HX|(rw [hG];exact unhide HX)⟩
   ·have q1:¬(d:Int)≤24:=by omega
    have q2:decide ((d:Int)≤24)=false:=by simpa using q1
    have q3:decide (d≤24)=false:=by simpa using hq
    have HV:=hide (show R=false by rw [←unhide HR];unfold rgB;rw [unhide HQ1,unhide HQ2,unhide HD,decide_eq_false hq];rfl)
    clear HR
    go_wp2_with fail
    go_ret
    exact⟨by rw [unhide HV] <;> rfl,by first|exact unhide HX|(rw [hG];exact unhide HX)⟩
set_option maxRecDepth 100000 in
set_option maxHeartbeats 2000000 in
theorem Right_any (B0:Nat) (y:Tn) (x:List Value) (w:World) (hB:B0≤w.heap.size) (hx:IsN w (fun b=>b<B0) y x):Calls Tryz.prog 12 #[.agg x.toArray] w fun e w'=>e=.returned (.bool (decide (y.k=1) && rgB y))∧Below w.heap.size w w':=by
 have hx0:=hx
 obtain⟨vk,vn,vs,al,ak,a,ll,cl,lk,ck,cc,rfl,_⟩:=hx.shape
 obtain⟨R,hR⟩:∃R,(decide (y.k=1) && rgB y)=R:=⟨_,rfl⟩
 rw [hR]
 have HR:=hide hR
 obtain⟨k,t,v,f,ks,p⟩:=y
 obtain⟨n,hn⟩:∃n,ks.length=n:=⟨_,rfl⟩
 simp only [hn] at hx0 HR ⊢
 obtain⟨w1,hw1⟩:∃w1,w.alloc (.cells #[.int .i64 k,.string t,.int .i64 vk,.int .i64 vn,.string vs,.slice al ll cl,.slice ak lk ck,.bool f,.slice a n cc,.int .i64 p] 28)=w1:=⟨_,rfl⟩
 obtain⟨G,hG⟩:∃G,w.heap.size=G:=⟨_,rfl⟩
 have A1:w1.heap[G]?=some (.cells #[.int .i64 k,.string t,.int .i64 vk,.int .i64 vn,.string vs,.slice al ll cl,.slice ak lk ck,.bool f,.slice a n cc,.int .i64 p] 28 (0,0)):=by rw [←hw1,←hG];exact heap_alloc_new _ _
 have X1:Below G w w1:=by rw [←hw1,←hG];exact(Below.refl _ _).alloc (Nat.le_refl _) _
 have hBG:B0≤G:=by rw [←hG];exact hB
 have HM:Hid (∀u,Below G w u→IsN u (fun b=>b<B0) ⟨k,t,v,f,ks,p⟩ [.int .i64 k,.string t,.int .i64 vk,.int .i64 vn,.string vs,.slice al ll cl,.slice ak lk ck,.bool f,.slice a n cc,.int .i64 p]∧B0≤u.heap.size):=hide (fun u b=>⟨hx0.laterB (b.mono hBG),Nat.le_trans hB b.size⟩)
 have HA:=hide A1
 have HX:=hide X1
 have HW:=hide hw1
 have hGs:Hid (G≤w1.heap.size):=hide (Nat.le_of_lt (lt_of_row A1))
 clear A1 X1 hw1 hR hx hx0 hn hBG hB
 go_enter Tryz.func12,Tryz.ntmps12
 go_upto_region 1 with fail
 rw [unhide HW]
 try rw [hG]
 clear HW
 obtain⟨x0,x1,x2,x3,x4,x5,x6,x7,x8,x9⟩:=row_ten (unhide HA)
 by_cases hk:k=1
 ·subst hk
  have CC:=hide (right_node B0 ⟨1,t,v,f,ks,p⟩ _ w1 (unhide HM w1 (unhide HX)).2 (unhide HM w1 (unhide HX)).1)
  obtain⟨q,hq⟩:∃q,rgB ⟨1,t,v,f,ks,p⟩=q:=⟨_,rfl⟩
  rw [hq] at CC
  have HQ1:=hide hq
  clear hq
  go_wp2_with fail
  refine(unhide CC).mono ?_
  rintro e w2 ⟨rfl,b⟩
  have HA2:=hide (Below.cellsAt b (unhide HA))
  have HX2:=hide ((unhide HX).trans (b.mono (unhide hGs)))
  have hGs2:=hide (Nat.le_trans (unhide hGs) b.size)
  clear b CC x0 x1 x2 x3 x4 x5 x6 x7 x8 x9 HA HX hGs
  have HA:=HA2
  have HX:=HX2
  have hGs:=hGs2
  clear HA2 HX2 hGs2
  obtain⟨x0,x1,x2,x3,x4,x5,x6,x7,x8,x9⟩:=row_ten (unhide HA)
  clear x0 x1 x2 x3 x4 x5 x6 x7 x8 x9
  have HV:=hide (show R=q by rw [←unhide HR,←unhide HQ1];rfl)
  clear HR
  go_wp2_with fail
  go_ret
  exact⟨by rw [unhide HV] <;> rfl,by first|exact unhide HX|(rw [hG];exact unhide HX)⟩
 ·have z1:(k == 1)=false:=beq_eq_false_iff_ne.2 hk
  have HV:=hide (show R=false by rw [←unhide HR];simp [hk])
  clear HR
  go_wp2_with fail
  go_ret
  exact⟨by rw [unhide HV] <;> rfl,by first|exact unhide HX|(rw [hG];exact unhide HX)⟩
def hx (n:Nat):UInt8:=if n<10 then UInt8.ofNat (48+n) else UInt8.ofNat (87+n)
def qB (c:UInt8):List UInt8:=if c.toNat=34∨c.toNat=92 then [92,c] else if 32≤c.toNat∧c.toNat≤126 then [c] else [92,120,hx (c.toNat / 16),hx (c.toNat % 16)]
def quoB (l:List UInt8):List UInt8:=34 :: l.flatMap qB++[34]
theorem qB_num (c:UInt8) (h:c.toNat<32∨126<c.toNat):qB c=[92,120,hx (c.toNat / 16),hx (c.toNat % 16)]:=by
 unfold qB
 rw [if_neg (by omega),if_neg (by omega)]
theorem qB_esc (c:UInt8) (h:c.toNat=34∨c.toNat=92):qB c=[92,c]:=by
 unfold qB
 rw [if_pos (by omega)]
theorem qB_own (c:UInt8) (h0:32≤c.toNat) (h1:c.toNat≤126) (h2:c.toNat≠34) (h3:c.toNat≠92):qB c=[c]:=by
 unfold qB
 rw [if_neg (by omega),if_pos (by omega)]
theorem qB_len (c:UInt8):(qB c).length≤4∧1≤(qB c).length:=by
 unfold qB
 split
 ·simp
 ·split <;> simp
theorem flatB_len (l:List UInt8):(l.flatMap qB).length≤4 * l.length:=by
 induction l with
 |nil=>exact Nat.le_refl _
 |cons c l ih=>
  rw [List.flatMap_cons,List.length_append,List.length_cons]
  have:=qB_len c
  omega
theorem flatB_next (s:ByteArray) (i:Nat) (h:i<s.size):(s.data.toList.take (i+1)).flatMap qB=(s.data.toList.take i).flatMap qB++qB (s[i]'h):=by
 have e:s.data.toList[i]?=some (s[i]'h):=by rw [Array.getElem?_toList];exact Array.getElem?_eq_getElem h
 rw [List.take_add_one,e,List.flatMap_append]
 simp
def hexB:ByteArray:=⟨#[48,49,50,51,52,53,54,55,56,57,97,98,99,100,101,102]⟩
theorem hexB_fin:∀d:Fin 16,hexB[d.val]'(by have:=d.isLt;show d.val<16;omega)=hx d.val:=by decide +kernel
theorem hexB_at (k:Nat) (h:k<16) (hh:k<hexB.size):hexB[k]'hh=hx k:=hexB_fin ⟨k,h⟩
theorem Wr.size {B b:Nat} {l:List UInt8} {w w':World} (h:Wr B b l w w') (hB:B≤w.heap.size):B≤w'.heap.size:=Nat.le_trans hB h.below.size
theorem Wr.trans {B b:Nat} {l l':List UInt8} {w u v:World} (h:Wr B b l w u) (h':Wr B b l' u v):Wr B b l' w v:=⟨h'.bd,h.below.trans h'.below,h.kept.trans h'.kept⟩
theorem wbyte_lit (B b:Nat) (l:List UInt8) (c:UInt8) (z:Int) (hz:(c.toNat:Int)=z) (w:World) (h:Bd w B b l) (hlen:l.length+1≤140737488355328) (hBw:B≤w.heap.size) :
  Calls Tryz.prog 113 #[.pointer (some ⟨b,0,none⟩),.int .u8 z] w fun e w'=>e=.returned .nilIface∧Wr B b (l++[c]) w w':=by
 rw [←hz]
 exact wbyte_any B b l c w h hlen hBw
set_option maxRecDepth 100000 in
set_option maxHeartbeats 1000000 in
theorem wpiece_any (B b:Nat) (l:List UInt8) (c:UInt8) (w:World) (h:Bd w B b l) (hlen:l.length+4≤1099511627776) (hBw:B≤w.heap.size) :
  Calls Tryz.prog 118 #[.pointer (some ⟨b,0,none⟩),.int .u8 (c.toNat:Int)] w fun e w'=>e=.returned (.tuple #[])∧Wr B b (l++qB c) w w':=by
 obtain⟨z,hz⟩:∃z:Nat,c.toNat=z:=⟨_,rfl⟩
 have z1:(z:Int)≤255:=by have:=c.toNat_lt;omega
 have HZ:=hide hz
 have HL:=hide hlen
 have HB:=hide hBw
 have HBd:=hide h
 have hcz:((c.toNat:Nat):Int)=(z:Int):=by rw [hz]
 rw [hcz]
 by_cases hn:z<32∨126<z
 ·have HQ:Hid (qB c=[92,120]++[hx (z / 16)]++[hx (z % 16)]):=hide (by rw [qB_num c (by omega),hz];rfl)
  have hs1:hexB.size=16:=rfl
  have C1:=hide (wstr_any B b l ⟨#[92,120]⟩ w h (by show _+2≤_;omega) hBw)
  clear h hcz hz
  rcases hn with h1|h1
  ·have i1:(z:Int)<32:=by omega
   go_enter Tryz.func118,Tryz.ntmps118
   go_wp2_with fail
   refine(unhide C1).mono ?_
   rintro e w1 ⟨rfl,k1⟩
   have HX1:=hide k1
   clear k1 C1
   go_wp2_with fail
   refine(wbyte_any B b _ (hexB[z / 16]'(by omega)) w1 (unhide HX1).bd (by have:=unhide HL;rw [List.length_append];show _+2+1≤_;omega) ((unhide HX1).size (unhide HB))).mono ?_
   rintro e w2 ⟨rfl,k2⟩
   have HX2:=hide ((unhide HX1).trans k2)
   clear k2 HX1
   go_wp2_with fail
   refine(wbyte_any B b _ (hexB[z % 16]'(by omega)) w2 (unhide HX2).bd (by have:=unhide HL;rw [List.length_append,List.length_append];show _+2+1+1≤_;omega) ((unhide HX2).size (unhide HB))).mono ?_
   rintro e w3 ⟨rfl,k3⟩
   have HX3:=hide ((unhide HX2).trans k3)
   clear k3 HX2
   go_wp2_with fail
   go_end0
   refine⟨rfl,?_⟩
   have h3:=unhide HX3
   rw [hexB_at (z / 16) (by omega) (by omega),hexB_at (z % 16) (by omega) (by omega)] at h3
   rw [unhide HQ]
   simpa using h3
  ·have i0:¬(z:Int)<32:=by omega
   have i1:(126:Int)<(z:Int):=by omega
   go_enter Tryz.func118,Tryz.ntmps118
   go_wp2_with fail
   refine(unhide C1).mono ?_
   rintro e w1 ⟨rfl,k1⟩
   have HX1:=hide k1
   clear k1 C1
   go_wp2_with fail
   refine(wbyte_any B b _ (hexB[z / 16]'(by omega)) w1 (unhide HX1).bd (by have:=unhide HL;rw [List.length_append];show _+2+1≤_;omega) ((unhide HX1).size (unhide HB))).mono ?_
   rintro e w2 ⟨rfl,k2⟩
   have HX2:=hide ((unhide HX1).trans k2)
   clear k2 HX1
   go_wp2_with fail
   refine(wbyte_any B b _ (hexB[z % 16]'(by omega)) w2 (unhide HX2).bd (by have:=unhide HL;rw [List.length_append,List.length_append];show _+2+1+1≤_;omega) ((unhide HX2).size (unhide HB))).mono ?_
   rintro e w3 ⟨rfl,k3⟩
   have HX3:=hide ((unhide HX2).trans k3)
   clear k3 HX2
   go_wp2_with fail
   go_end0
   refine⟨rfl,?_⟩
   have h3:=unhide HX3
   rw [hexB_at (z / 16) (by omega) (by omega),hexB_at (z % 16) (by omega) (by omega)] at h3
   rw [unhide HQ]
   simpa using h3
 ·have i0:¬(z:Int)<32:=by omega
  have i1:¬(126:Int)<(z:Int):=by omega
  by_cases hq:z=34∨z=92
  ·have HQ:Hid (qB c=[92]++[c]):=hide (by rw [qB_esc c (by omega)];rfl)
   have C1:=hide (wbyte_lit B b l 92 92 rfl w h (by omega) hBw)
   rcases hq with q1|q1
   ·have q2:((z:Int) == 34)=true:=beq_iff_eq.2 (by omega)
    have q3:(z:Int)=34:=by omega
    have HC:Hid ((c.toNat:Int)=34):=hide (by omega)
    rw [q3]
    clear h hcz hz q1 q2 q3 i0 i1 hn z1
    go_enter Tryz.func118,Tryz.ntmps118
    go_wp2_with fail
    refine(unhide C1).mono ?_
    rintro e w1 ⟨rfl,k1⟩
    have HX1:=hide k1
    clear k1 C1
    have C2:=hide (wbyte_lit B b _ c 34 (unhide HC) w1 (unhide HX1).bd (by have:=unhide HL;rw [List.length_append];show _+1+1≤_;omega) ((unhide HX1).size (unhide HB)))
    go_wp2_with fail
    refine(unhide C2).mono ?_
    rintro e w2 ⟨rfl,k2⟩
    have HX2:=hide ((unhide HX1).trans k2)
    clear k2 C2 HX1
    go_wp2_with fail
    go_end0
    refine⟨rfl,?_⟩
    have h3:=unhide HX2
    rw [unhide HQ]
    simpa using h3
   ·have q3:(z:Int)=92:=by omega
    have HC:Hid ((c.toNat:Int)=92):=hide (by omega)
    rw [q3]
    clear h hcz hz q1 q3 i0 i1 hn z1
    go_enter Tryz.func118,Tryz.ntmps118
    go_wp2_with fail
    refine(unhide C1).mono ?_
    rintro e w1 ⟨rfl,k1⟩
    have HX1:=hide k1
    clear k1 C1
    have C2:=hide (wbyte_lit B b _ c 92 (unhide HC) w1 (unhide HX1).bd (by have:=unhide HL;rw [List.length_append];show _+1+1≤_;omega) ((unhide HX1).size (unhide HB)))
    go_wp2_with fail
    refine(unhide C2).mono ?_
    rintro e w2 ⟨rfl,k2⟩
    have HX2:=hide ((unhide HX1).trans k2)
    clear k2 C2 HX1
    go_wp2_with fail
    go_end0
    refine⟨rfl,?_⟩
    have h3:=unhide HX2
    rw [unhide HQ]
    simpa using h3
  ·have HQ:Hid (qB c=[c]):=hide (qB_own c (by omega) (by omega) (by omega) (by omega))
   have q2:((z:Int) == 34)=false:=beq_eq_false_iff_ne.2 (by omega)
   have q4:((z:Int) == 92)=false:=beq_eq_false_iff_ne.2 (by omega)
   have q5:¬(z:Int)=34:=by omega
   have q6:¬(z:Int)=92:=by omega
   have C1:=hide (wbyte_lit B b l c (z:Int) hcz w h (by omega) hBw)
   clear h hcz hz hq
   go_enter Tryz.func118,Tryz.ntmps118
   go_wp2_with fail
   refine(unhide C1).mono ?_
   rintro e w1 ⟨rfl,k1⟩
   have HX1:=hide k1
   clear k1 C1
   go_wp2_with fail
   go_end0
   refine⟨rfl,?_⟩
   have h3:=unhide HX1
   rw [unhide HQ]
   simpa using h3
set_option maxRecDepth 100000 in
set_option maxHeartbeats 1000000 in
theorem quoteL_any (s:ByteArray) (hs:s.size≤1073741824) (w:World) :
  Calls Tryz.prog 81 #[.string s] w fun e w'=>e=.returned (.string (bA (quoB s.data.toList)))∧Below w.heap.size w w':=by
 obtain⟨B,hB⟩:∃B,w.heap.size=B:=⟨_,rfl⟩
 obtain⟨u,hu⟩:∃u,w.alloc (.cells #[.pointer none,.slice none 0 0] 50)=u:=⟨_,rfl⟩
 have hbu:Below B w u:=by rw [←hu,←hB];exact(Below.refl _ _).alloc (Nat.le_refl _) _
 have F1:Bd u B B []:=by
  have h:=Lib.IsBuilderF.of (Lib.fresh_isBuilder 50 5 w)
  rw [hu,hB] at h
  exact h
 have C1:=hide (wbyte_lit B B [] 34 34 rfl u F1 (by decide) (by have:=hbu.size;omega))
 have HBU:=hide hbu
 have HBB:=hide hB
 have HS:=hide hs
 have hs2:(s.size:Int)≤1073741824:=by omega
 obtain⟨R,hR⟩:∃R,bA (quoB s.data.toList)=R:=⟨_,rfl⟩
 have HR:=hide hR
 rw [hR]
 clear hbu F1 hR hs
 go_enter Tryz.func81,Tryz.ntmps81
 go_wp2_with fail
 refine(unhide C1).mono ?_
 rintro e w1 ⟨rfl,k1⟩
 have HX1:=hide k1
 clear k1 C1
 go_wp2_with fail
 go_loopw [8] (fun x wr=>∃(i:Nat),x=.int .i64 (i:Int)∧i≤s.size∧Hid (Wr B B (34 :: (s.data.toList.take i).flatMap qB) u wr)) (fun x _=>s.size - (intOf x).toNat)
 case atStart=>exact⟨0,rfl,Nat.zero_le _,hide (by simpa using unhide HX1)⟩
 case round=>
  obtain⟨i,rfl,hi,HX⟩:=hrel
  have HLE:Hid ((34 :: (s.data.toList.take i).flatMap qB).length≤1+4 * i):=hide (by
   rw [List.length_cons]
   have:=flatB_len (s.data.toList.take i)
   have:=List.length_take_le i s.data.toList
   omega)
  by_cases hlt:i<s.size
  ·have j1:(i:Int)<(s.size:Int):=by omega
   obtain⟨c,hc⟩:∃c,s[i]'hlt=c:=⟨_,rfl⟩
   have hci:((s[i]'hlt).toNat:Int)=(c.toNat:Int):=by rw [hc]
   have HN:Hid (34 :: (s.data.toList.take (i+1)).flatMap qB=(34 :: (s.data.toList.take i).flatMap qB)++qB c):=hide (by rw [flatB_next s i hlt,hc];rfl)
   have CP:=hide (wpiece_any B B _ c wr (unhide HX).bd (by have:=unhide HLE;have:=unhide HS;omega) ((unhide HX).size (by have:=(unhide HBU).size;have:=unhide HBB;omega)))
   have HLT:=hide hlt
   clear hc
   go_wp2_with fail
   refine(unhide CP).mono ?_
   rintro e w2 ⟨rfl,k2⟩
   have HX2:Hid (Wr B B (34 :: (s.data.toList.take (i+1)).flatMap qB) u w2):=hide (by rw [unhide HN];exact(unhide HX).trans k2)
   clear k2 CP
   go_wp2_with fail
   go_roundw
   case rel=>exact⟨i+1,by go_num,unhide HLT,HX2⟩
   case measure=>have:=unhide HLT;simp [intOf];omega
  ·have e:i=s.size:=by omega
   have j1:¬(i:Int)<(s.size:Int):=by omega
   have CP:=hide (wbyte_lit B B _ 34 34 rfl wr (unhide HX).bd (by have:=unhide HLE;have:=unhide HS;omega) ((unhide HX).size (by have:=(unhide HBU).size;have:=unhide HBB;omega)))
   have HE:Hid (34 :: (s.data.toList.take i).flatMap qB++[34]=quoB s.data.toList):=hide (by
    rw [e,show s.data.toList.take s.size=s.data.toList from List.take_of_length_le (Nat.le_refl _)]
    rfl)
   clear e
   go_wp2_with fail
   refine(unhide CP).mono ?_
   rintro e w2 ⟨rfl,k2⟩
   have HX2:Hid (Wr B B (quoB s.data.toList) u w2):=hide (by rw [←unhide HE];exact(unhide HX).trans k2)
   clear k2 CP
   have CS:=hide (Tryz.Builder_String_any_k B B _ w2 (unhide HX2).bd ((unhide HX2).size (by have:=(unhide HBU).size;have:=unhide HBB;omega)))
   go_wp2_with fail
   refine(unhide CS).mono ?_
   rintro e w3 ⟨rfl,hd3,hb3,hk3⟩
   have HB3:Hid (Below B w w3):=hide ((unhide HBU).trans ((unhide HX2).below.trans hb3))
   clear hd3 hb3 hk3 CS
   go_wp2_with fail
   go_ret
   exact⟨by rw [←unhide HR];rfl,by first|exact unhide HB3|(rw [unhide HBB];exact unhide HB3)⟩
end Go.Proofs.YtekbmfppfjlboaaGreatDoor
