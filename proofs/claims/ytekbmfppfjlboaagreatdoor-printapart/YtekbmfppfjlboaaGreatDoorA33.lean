/-
  Layer 18 (print): how much signs bind, brackets, kinds (the document's); conditions: the nodes lie in memory.
-/
import Derived.Test.YtekbmfppfjlboaaGreatDoorA20
import Derived.Test.YtekbmfppfjlboaaGreatDoorA11
set_option linter.unusedVariables false
set_option linter.unusedSimpArgs false
namespace Go.Proofs.YtekbmfppfjlboaaGreatDoor
open Go.RowKit
set_option linter.unusedVariables false
set_option linter.unusedSimpArgs false
def sgR:List (List ByteArray):=[[⟨#[124,124]⟩],[⟨#[38,38]⟩],[⟨#[61,61]⟩,⟨#[33,61]⟩,⟨#[60]⟩,⟨#[60,61]⟩,⟨#[62]⟩,⟨#[62,61]⟩],[⟨#[43]⟩,⟨#[45]⟩],[⟨#[42]⟩,⟨#[47]⟩,⟨#[37]⟩]]
theorem sg_fin:∀i:Fin 5,∀s∈(sgR[i.val]?).getD [],bnS s.toList=i.val+1:=by decide +kernel
theorem sg_at {i:Nat} {r:List ByteArray} {s:ByteArray} (h:sgR[i]?=some r) (hs:s∈r):bnS s.toList=i+1:=by
 have hi:i<5:=(List.getElem?_eq_some_iff.1 h).1
 have:=sg_fin ⟨i,hi⟩ s (by simp only [h];exact hs)
 exact this
theorem ba_of {t:ByteArray} {l:List UInt8} (h:t.toList=l):t=⟨l.toArray⟩:=by
 rw [ByteArray.toList_eq] at h
 obtain⟨d⟩:=t
 simp only at h
 rw [←h]
theorem sg_no {t:ByteArray} (h:∀(i:Nat) (r:List ByteArray),sgR[i]?=some r→t∉r):bnS t.toList=0:=by
 have h0:=h 0 _ rfl
 have h1:=h 1 _ rfl
 have h2:=h 2 _ rfl
 have h3:=h 3 _ rfl
 have h4:=h 4 _ rfl
 unfold bnS
 split
 ·rename_i q;exact absurd (by rw [ba_of q];simp) h0
 ·split
  ·rename_i q;exact absurd (by rw [ba_of q];simp) h1
  ·split
   ·rename_i q;rcases q with q|q|q|q|q|q <;> exact absurd (by rw [ba_of q];simp) h2
   ·split
    ·rename_i q;rcases q with q|q <;> exact absurd (by rw [ba_of q];simp) h3
    ·split
     ·rename_i q;rcases q with q|q|q <;> exact absurd (by rw [ba_of q];simp) h4
     ·rfl
set_option maxRecDepth 100000 in
set_option maxHeartbeats 2000000 in
theorem rbinds_any (t:ByteArray) (w:World):Calls Tryz.prog 84 #[.string t] w fun e w'=>e=.returned (.int .i64 (bnS t.toList:Int))∧Below w.heap.size w w':=by
 obtain⟨G,hG⟩:∃G,w.heap.size=G:=⟨_,rfl⟩
 obtain⟨v1,hv1⟩:∃u,w.alloc (.cells #[.string ⟨#[124,124]⟩] 9)=u:=⟨_,rfl⟩
 obtain⟨v2,hv2⟩:∃u,v1.alloc (.cells #[.string ⟨#[38,38]⟩] 9)=u:=⟨_,rfl⟩
 obtain⟨v3,hv3⟩:∃u,v2.alloc (.cells #[.string ⟨#[61,61]⟩,.string ⟨#[33,61]⟩,.string ⟨#[60]⟩,.string ⟨#[60,61]⟩,.string ⟨#[62]⟩,.string ⟨#[62,61]⟩] 9)=u:=⟨_,rfl⟩
 obtain⟨v4,hv4⟩:∃u,v3.alloc (.cells #[.string ⟨#[43]⟩,.string ⟨#[45]⟩] 9)=u:=⟨_,rfl⟩
 obtain⟨v5,hv5⟩:∃u,v4.alloc (.cells #[.string ⟨#[42]⟩,.string ⟨#[47]⟩,.string ⟨#[37]⟩] 9)=u:=⟨_,rfl⟩
 obtain⟨v6,hv6⟩:∃u,v5.alloc (.cells #[.slice (some ⟨G,0,none⟩) 1 1,.slice (some ⟨G+1,0,none⟩) 1 1,.slice (some ⟨G+2,0,none⟩) 6 6,.slice (some ⟨G+3,0,none⟩) 2 2,.slice (some ⟨G+4,0,none⟩) 3 3] 24)=u:=⟨_,rfl⟩
 have z1:v1.heap.size=G+1:=by rw [←hv1];simp [hG]
 have z2:v2.heap.size=G+2:=by rw [←hv2];simp [z1]
 have z3:v3.heap.size=G+3:=by rw [←hv3];simp [z2]
 have z4:v4.heap.size=G+4:=by rw [←hv4];simp [z3]
 have z5:v5.heap.size=G+5:=by rw [←hv5];simp [z4]
 have z6:v6.heap.size=G+6:=by rw [←hv6];simp [z5]
 have b1:Below w.heap.size w v1:=by rw [←hv1];exact(Below.refl _ _).alloc (Nat.le_refl _) _
 have b2:Below v1.heap.size v1 v2:=by rw [←hv2];exact(Below.refl _ _).alloc (Nat.le_refl _) _
 have b3:Below v2.heap.size v2 v3:=by rw [←hv3];exact(Below.refl _ _).alloc (Nat.le_refl _) _
 have b4:Below v3.heap.size v3 v4:=by rw [←hv4];exact(Below.refl _ _).alloc (Nat.le_refl _) _
 have b5:Below v4.heap.size v4 v5:=by rw [←hv5];exact(Below.refl _ _).alloc (Nat.le_refl _) _
 have b6:Below v5.heap.size v5 v6:=by rw [←hv6];exact(Below.refl _ _).alloc (Nat.le_refl _) _
 have BB:Below G w v6:=by
  have q1:Below G w v1:=by rw [←hG];exact b1
  have q2:Below G w v2:=q1.trans (b2.mono (by omega))
  have q3:Below G w v3:=q2.trans (b3.mono (by omega))
  have q4:Below G w v4:=q3.trans (b4.mono (by omega))
  have q5:Below G w v5:=q4.trans (b5.mono (by omega))
  have q6:Below G w v6:=q5.trans (b6.mono (by omega))
  exact q6
 have D0:v1.heap[G]?=some (.cells #[.string ⟨#[124,124]⟩] 9 (0,0)):=by rw [←hv1,←hG];exact heap_alloc_new _ _
 have D0_2:=(b2.block G (by omega)).trans D0
 have D0_3:=(b3.block G (by omega)).trans D0_2
 have D0_4:=(b4.block G (by omega)).trans D0_3
 have D0_5:=(b5.block G (by omega)).trans D0_4
 have D0_6:=(b6.block G (by omega)).trans D0_5
 have C0:v6.heap[G]?=some (.cells #[.string ⟨#[124,124]⟩] 9 (0,0)):=D0_6
 have D1:v2.heap[G+1]?=some (.cells #[.string ⟨#[38,38]⟩] 9 (0,0)):=by rw [←hv2,←z1];exact heap_alloc_new _ _
 have D1_3:=(b3.block (G+1) (by omega)).trans D1
 have D1_4:=(b4.block (G+1) (by omega)).trans D1_3
 have D1_5:=(b5.block (G+1) (by omega)).trans D1_4
 have D1_6:=(b6.block (G+1) (by omega)).trans D1_5
 have C1:v6.heap[G+1]?=some (.cells #[.string ⟨#[38,38]⟩] 9 (0,0)):=D1_6
 have D2:v3.heap[G+2]?=some (.cells #[.string ⟨#[61,61]⟩,.string ⟨#[33,61]⟩,.string ⟨#[60]⟩,.string ⟨#[60,61]⟩,.string ⟨#[62]⟩,.string ⟨#[62,61]⟩] 9 (0,0)):=by rw [←hv3,←z2];exact heap_alloc_new _ _
 have D2_4:=(b4.block (G+2) (by omega)).trans D2
 have D2_5:=(b5.block (G+2) (by omega)).trans D2_4
 have D2_6:=(b6.block (G+2) (by omega)).trans D2_5
 have C2:v6.heap[G+2]?=some (.cells #[.string ⟨#[61,61]⟩,.string ⟨#[33,61]⟩,.string ⟨#[60]⟩,.string ⟨#[60,61]⟩,.string ⟨#[62]⟩,.string ⟨#[62,61]⟩] 9 (0,0)):=D2_6
 have D3:v4.heap[G+3]?=some (.cells #[.string ⟨#[43]⟩,.string ⟨#[45]⟩] 9 (0,0)):=by rw [←hv4,←z3];exact heap_alloc_new _ _
 have D3_5:=(b5.block (G+3) (by omega)).trans D3
 have D3_6:=(b6.block (G+3) (by omega)).trans D3_5
 have C3:v6.heap[G+3]?=some (.cells #[.string ⟨#[43]⟩,.string ⟨#[45]⟩] 9 (0,0)):=D3_6
 have D4:v5.heap[G+4]?=some (.cells #[.string ⟨#[42]⟩,.string ⟨#[47]⟩,.string ⟨#[37]⟩] 9 (0,0)):=by rw [←hv5,←z4];exact heap_alloc_new _ _
 have D4_6:=(b6.block (G+4) (by omega)).trans D4
 have C4:v6.heap[G+4]?=some (.cells #[.string ⟨#[42]⟩,.string ⟨#[47]⟩,.string ⟨#[37]⟩] 9 (0,0)):=D4_6
 have D5:v6.heap[G+5]?=some (.cells #[.slice (some ⟨G,0,none⟩) 1 1,.slice (some ⟨G+1,0,none⟩) 1 1,.slice (some ⟨G+2,0,none⟩) 6 6,.slice (some ⟨G+3,0,none⟩) 2 2,.slice (some ⟨G+4,0,none⟩) 3 3] 24 (0,0)):=by rw [←hv6,←z5];exact heap_alloc_new _ _
 have C5:v6.heap[G+5]?=some (.cells #[.slice (some ⟨G,0,none⟩) 1 1,.slice (some ⟨G+1,0,none⟩) 1 1,.slice (some ⟨G+2,0,none⟩) 6 6,.slice (some ⟨G+3,0,none⟩) 2 2,.slice (some ⟨G+4,0,none⟩) 3 3] 24 (0,0)):=D5
 have HC:Hid (∀(i:Nat) (r:List ByteArray),sgR[i]?=some r→v6.cell? ⟨G+5,i,none⟩=some (.slice (some ⟨G+i,0,none⟩) r.length r.length)∧∀(j:Nat) (s:ByteArray),r[j]?=some s→v6.cell? ⟨G+i,j,none⟩=some (.string s)):=hide (by
  intro i r hi
  have hi5:i<5:=(List.getElem?_eq_some_iff.1 hi).1
  have e5:=cell_of_row v6 (G+5) i _ _ (0,0) C5
  rcases i with _|_|_|_|_|i
  ·obtain rfl:=Option.some.inj hi
   refine⟨by rw [e5] <;> rfl,fun j s hj=>?_⟩
   have e:=cell_of_row v6 (G) j _ _ (0,0) C0
   simp only [Nat.add_zero,Nat.zero_add,Nat.reduceAdd]
   rw [e]
   rcases j with _|j
   ·obtain rfl:=Option.some.inj hj
    rfl
   ·simp at hj
  ·obtain rfl:=Option.some.inj hi
   refine⟨by rw [e5] <;> rfl,fun j s hj=>?_⟩
   have e:=cell_of_row v6 (G+1) j _ _ (0,0) C1
   simp only [Nat.add_zero,Nat.zero_add,Nat.reduceAdd]
   rw [e]
   rcases j with _|j
   ·obtain rfl:=Option.some.inj hj
    rfl
   ·simp at hj
  ·obtain rfl:=Option.some.inj hi
   refine⟨by rw [e5] <;> rfl,fun j s hj=>?_⟩
   have e:=cell_of_row v6 (G+2) j _ _ (0,0) C2
   simp only [Nat.add_zero,Nat.zero_add,Nat.reduceAdd]
   rw [e]
   rcases j with _|_|_|_|_|_|j
   ·obtain rfl:=Option.some.inj hj
    rfl
   ·obtain rfl:=Option.some.inj hj
    rfl
   ·obtain rfl:=Option.some.inj hj
    rfl
   ·obtain rfl:=Option.some.inj hj
    rfl
   ·obtain rfl:=Option.some.inj hj
    rfl
   ·obtain rfl:=Option.some.inj hj
    rfl
   ·simp at hj
  ·obtain rfl:=Option.some.inj hi
   refine⟨by rw [e5] <;> rfl,fun j s hj=>?_⟩
   have e:=cell_of_row v6 (G+3) j _ _ (0,0) C3
   simp only [Nat.add_zero,Nat.zero_add,Nat.reduceAdd]
   rw [e]
   rcases j with _|_|j
   ·obtain rfl:=Option.some.inj hj
    rfl
   ·obtain rfl:=Option.some.inj hj
    rfl
   ·simp at hj
  ·obtain rfl:=Option.some.inj hi
   refine⟨by rw [e5] <;> rfl,fun j s hj=>?_⟩
   have e:=cell_of_row v6 (G+4) j _ _ (0,0) C4
   simp only [Nat.add_zero,Nat.zero_add,Nat.reduceAdd]
   rw [e]
   rcases j with _|_|_|j
   ·obtain rfl:=Option.some.inj hj
    rfl
   ·obtain rfl:=Option.some.inj hj
    rfl
   ·obtain rfl:=Option.some.inj hj
    rfl
   ·simp at hj
  ·omega)
 have HB:=hide BB
 have HW:=hide (And.intro hv1 (And.intro hv2 (And.intro hv3 (And.intro hv4 (And.intro hv5 hv6)))))
 have HZ:=hide (And.intro hG (And.intro z1 (And.intro z2 (And.intro z3 (And.intro z4 z5)))))
 have HBW:Hid (Below w.heap.size w v6):=hide (by rw [hG];exact BB)
 clear hv1 hv2 hv3 hv4 hv5 hv6 z1 z2 z3 z4 z5 z6 b1 b2 b3 b4 b5 b6 BB hG D0 D1 D2 D3 D4 D5 D0_2 D0_3 D0_4 D0_5 D0_6 D1_3 D1_4 D1_5 D1_6 D2_4 D2_5 D2_6 D3_5 D3_6 D4_6 C0 C1 C2 C3 C4 C5
 go_enter Tryz.func84,Tryz.ntmps84
 go_upto_region 2 with fail
 rw [(unhide HW).1,(unhide HW).2.1,(unhide HW).2.2.1,(unhide HW).2.2.2.1,(unhide HW).2.2.2.2.1]
 try simp only [(unhide HZ).1,(unhide HZ).2.1,(unhide HZ).2.2.1,(unhide HZ).2.2.2.1,(unhide HZ).2.2.2.2.1,(unhide HZ).2.2.2.2.2]
 try rw [(unhide HW).2.2.2.2.2]
 try simp only [Nat.add_assoc,Nat.reduceAdd]
 try rw [(unhide HW).2.2.2.2.2]
 clear HW HZ HB
 go_wp2_with fail
 go_loopw [4] (fun x wr=>∃(i:Nat),x=.int .i64 (i:Int)∧i≤5∧v6=wr∧Hid (∀(j:Nat) (r:List ByteArray),j<i→sgR[j]?=some r→t∉r)) (fun x _=>5 - (intOf x).toNat)
 case atStart=>exact⟨0,rfl,by omega,rfl,hide (fun j r h=>absurd h (by omega))⟩
 case round=>
  obtain⟨i,rfl,hi,rfl,HI⟩:=hrel
  by_cases hlt:i<5
  ·have i1:(i:Int)<5:=by omega
   obtain⟨r,hr⟩:∃r,sgR[i]?=some r:=⟨_,List.getElem?_eq_getElem (by simp [sgR];omega)⟩
   obtain⟨m,hm⟩:∃m,r.length=m:=⟨_,rfl⟩
   have c0:=((unhide HC) i r hr).1
   rw [hm] at c0
   have HRR:=hide (And.intro hr hm)
   have hm7:m≤1000:=by
    have:r∈sgR:=List.mem_of_getElem? hr
    have h2:∀r∈sgR,r.length≤6:=by decide
    have:=h2 r this
    omega
   clear hr hm
   go_wp2_with fail
   go_loopw [5] (fun x wr=>∃(j:Nat),x=.int .i64 (j:Int)∧j≤m∧v6=wr∧Hid (∀(q:Nat),q<j→r[q]?≠some t)) (fun x _=>m - (intOf x).toNat)
   case atStart=>exact⟨0,rfl,by omega,rfl,hide (fun j h=>absurd h (by omega))⟩
   case round=>
    obtain⟨j,rfl,hj,rfl,HJ⟩:=hrel
    by_cases hlj:j<m
    ·have j1:(j:Int)<(m:Int):=by omega
     obtain⟨s,hs⟩:∃s,r[j]?=some s:=⟨_,List.getElem?_eq_getElem (by have:=(unhide HRR).2;omega)⟩
     have c1:=((unhide HC) i r (unhide HRR).1).2 j s hs
     by_cases he:s=t
     ·have HV:=hide (show bnS t.toList=i+1 from sg_at (unhide HRR).1 (he ▸ List.mem_of_getElem? hs))
      have hb:(s.toList == t.toList)=true:=by rw [he];simp
      clear hs he
      go_wp2_with fail
      go_ret
      exact⟨by rw [unhide HV];push_cast;rfl,unhide HBW⟩
     ·have HQ:Hid (∀q,q<j+1→r[q]?≠some t):=hide (fun q hq=>by
       by_cases h:q<j
       ·exact unhide HJ q h
       ·obtain rfl:q=j:=by omega
        rw [hs]
        exact fun e=>he (Option.some.inj e))
      have hb:(s.toList == t.toList)=false:=by
       rw [beq_eq_false_iff_ne]
       intro e
       exact he (by rw [ba_of e,ByteArray.toList_eq])
      have HJ1:=hide (show j+1≤m by omega)
      clear hs he
      go_wp2_with fail
      go_roundw
      case rel=>exact⟨j+1,by go_num,unhide HJ1,by first|rfl|trivial,HQ⟩
      case measure=>have:=unhide HJ1;simp [intOf];omega
    ·have j1:¬(j:Int)<(m:Int):=by omega
     have HQ:Hid (∀(q:Nat) (r':List ByteArray),q<i+1→sgR[q]?=some r'→t∉r'):=hide (fun q r' hq h=>by
      by_cases h2:q<i
      ·exact unhide HI q r' h2 h
      ·obtain rfl:q=i:=by omega
       obtain rfl:r=r':=Option.some.inj ((unhide HRR).1.symm.trans h)
       intro hmem
       obtain⟨p,hp⟩:=List.getElem?_of_mem hmem
       exact unhide HJ p (by have:=(List.getElem?_eq_some_iff.1 hp).1;have:=(unhide HRR).2;omega) hp)
     have HI1:=hide (show i+1≤5 by omega)
     go_wp2_with fail
     go_roundw
     case rel=>exact⟨i+1,by go_num,unhide HI1,by first|rfl|trivial,HQ⟩
     case measure=>have:=unhide HI1;simp [intOf];omega
  ·have i1:¬(i:Int)<5:=by omega
   have HV:=hide (show bnS t.toList=0 from sg_no (fun j r h=>unhide HI j r (by have:=(List.getElem?_eq_some_iff.1 h).1;simp [sgR] at this;omega) h))
   go_wp2_with fail
   go_ret
   exact⟨by rw [unhide HV] <;> rfl,unhide HBW⟩
set_option maxRecDepth 100000 in
set_option maxHeartbeats 1000000 in
theorem risex_any (k:Int) (w:World):Calls Tryz.prog 25 #[.int .i64 k] w fun e w'=>e=.returned (.bool (isEx k))∧Below w.heap.size w w':=by
 have HB:=hide (Below.refl w.heap.size w)
 obtain⟨R,hR⟩:∃R,isEx k=R:=⟨_,rfl⟩
 rw [hR]
 have HR:=hide hR
 clear hR
 go_enter Tryz.func25,Tryz.ntmps25
 by_cases h1:13≤k
 ·by_cases h2:k≤22
  ·by_cases h3:k=20
   ·subst h3
    have HV:=hide (show R=false by rw [←unhide HR];unfold isEx;rfl)
    clear HR
    go_wp2_with fail
    go_ret
    exact⟨by rw [unhide HV] <;> rfl,unhide HB⟩
   ·have b3:(k != 20)=true:=by simpa using h3
    have HV:=hide (show R=true by rw [←unhide HR];unfold isEx;rw [decide_eq_true_iff];omega)
    clear HR
    go_wp2_with fail
    go_ret
    exact⟨by rw [unhide HV] <;> rfl,unhide HB⟩
  ·have HV:=hide (show R=false by rw [←unhide HR];unfold isEx;rw [decide_eq_false_iff_not];omega)
   clear HR
   go_wp2_with fail
   go_ret
   exact⟨by rw [unhide HV] <;> rfl,unhide HB⟩
 ·have HV:=hide (show R=false by rw [←unhide HR];unfold isEx;rw [decide_eq_false_iff_not];omega)
  clear HR
  go_wp2_with fail
  go_ret
  exact⟨by rw [unhide HV] <;> rfl,unhide HB⟩
set_option maxRecDepth 100000 in
set_option maxHeartbeats 1000000 in
theorem risst_any (k:Int) (w:World):Calls Tryz.prog 87 #[.int .i64 k] w fun e w'=>e=.returned (.bool (isStm k))∧Below w.heap.size w w':=by
 have HB:=hide (Below.refl w.heap.size w)
 obtain⟨R,hR⟩:∃R,isStm k=R:=⟨_,rfl⟩
 rw [hR]
 have HR:=hide hR
 clear hR
 go_enter Tryz.func87,Tryz.ntmps87
 by_cases h1:5≤k
 ·by_cases h2:k≤12
  ·have HV:=hide (show R=true by rw [←unhide HR];unfold isStm;rw [decide_eq_true_iff];omega)
   clear HR
   go_wp2_with fail
   go_ret
   exact⟨by rw [unhide HV] <;> rfl,unhide HB⟩
  ·have HV:=hide (show R=false by rw [←unhide HR];unfold isStm;rw [decide_eq_false_iff_not];omega)
   clear HR
   go_wp2_with fail
   go_ret
   exact⟨by rw [unhide HV] <;> rfl,unhide HB⟩
 ·have HV:=hide (show R=false by rw [←unhide HR];unfold isStm;rw [decide_eq_false_iff_not];omega)
  clear HR
  go_wp2_with fail
  go_ret
  exact⟨by rw [unhide HV] <;> rfl,unhide HB⟩
def rkN (k:Int) (t:ByteArray):Nat:=if k=17 then bnS t.toList else if k=16 then 6 else 7
def lsN (k:Int) (t:ByteArray) (i:Nat):Nat:=if k=16 then 6 else if k=21∨k=22 then (if i=0 then 7 else 0) else if k=17 then (if i=1∨bnS t.toList=3 then bnS t.toList+1 else bnS t.toList) else 0
theorem bn_le (l:List UInt8):bnS l≤5:=by unfold bnS;split <;> (try split) <;> (try split) <;> (try split) <;> (try split) <;> omega
set_option maxRecDepth 100000 in
set_option maxHeartbeats 2000000 in
theorem rrank_any (B0:Nat) (y:Tn) (x:List Value) (w:World) (hB:B0≤w.heap.size) (hx:IsN w (fun b=>b<B0) y x) :
  Calls Tryz.prog 120 #[.agg x.toArray] w fun e w'=>e=.returned (.int .i64 (rkN y.k y.t:Int))∧Below w.heap.size w w':=by
 have hx0:=hx
 obtain⟨vk,vn,vs,al,ak,a,ll,cl,lk,ck,cc,rfl,hvv,hr,hbk,hbp⟩:=hx.opn
 obtain⟨k,t,v,f,ks,p⟩:=y
 obtain⟨n,hn⟩:∃n,ks.length=n:=⟨_,rfl⟩
 have hnb:n≤140737488351232:=by rw [←hn];exact hr.len
 simp only [hn] at hx0 hvv hr hbk hbp ⊢
 obtain⟨R,hR⟩:∃R,(.int .i64 (rkN k t:Int):Value)=R:=⟨_,rfl⟩
 rw [hR]
 have HR:=hide hR
 obtain⟨w1,hw1⟩:∃w1,w.alloc (.cells #[.int .i64 k,.string t,.int .i64 vk,.int .i64 vn,.string vs,.slice al ll cl,.slice ak lk ck,.bool f,.slice a n cc,.int .i64 p] 28)=w1:=⟨_,rfl⟩
 obtain⟨G,hG⟩:∃G,w.heap.size=G:=⟨_,rfl⟩
 have A1:w1.heap[G]?=some (.cells #[.int .i64 k,.string t,.int .i64 vk,.int .i64 vn,.string vs,.slice al ll cl,.slice ak lk ck,.bool f,.slice a n cc,.int .i64 p] 28 (0,0)):=by rw [←hw1,←hG];exact heap_alloc_new _ _
 have X1:Below G w w1:=by rw [←hw1,←hG];exact(Below.refl _ _).alloc (Nat.le_refl _) _
 have hBG:B0≤G:=by rw [←hG];exact hB
 have HM:Hid (∀u,Below w1.heap.size w1 u→IsN u (fun b=>b<B0) ⟨k,t,v,f,ks,p⟩ [.int .i64 k,.string t,.int .i64 vk,.int .i64 vn,.string vs,.slice al ll cl,.slice ak lk ck,.bool f,.slice a n cc,.int .i64 p]∧RowN u B0 ks a cc∧B0≤u.heap.size∧IsV u B0 v (.agg #[.int .i64 vk,.int .i64 vn,.string vs,.slice al ll cl,.slice ak lk ck])∧Below G w u):=hide (fun u hu=>by
  have h2:=X1.trans (hu.mono (Nat.le_of_lt (lt_of_row A1)))
  exact⟨hx0.laterB (h2.mono hBG),hr.later (h2.mono hBG),Nat.le_trans hBG (by rw [←hG];exact h2.size),hvv.mono (h2.mono hBG),h2⟩)
 have HF:Hid (∀u,Below w1.heap.size w1 u→u.cell? ⟨G,0,none⟩=some (.int .i64 k)∧u.cell? ⟨G,1,none⟩=some (.string t)∧u.cell? ⟨G,2,none⟩=some (.int .i64 vk)∧u.cell? ⟨G,3,none⟩=some (.int .i64 vn)∧u.cell? ⟨G,4,none⟩=some (.string vs)∧u.cell? ⟨G,5,none⟩=some (.slice al ll cl)∧u.cell? ⟨G,6,none⟩=some (.slice ak lk ck)∧u.cell? ⟨G,7,none⟩=some (.bool f)∧u.cell? ⟨G,8,none⟩=some (.slice a n cc)∧u.cell? ⟨G,9,none⟩=some (.int .i64 p)):=hide (fun u hu=>row_ten (Below.cellsAt hu A1))
 have HN:=hide hn
 have HS0:Hid (Below w1.heap.size w1 w1):=hide (Below.refl _ _)
 have HW:=hide hw1
 clear A1 X1 hw1 hx hx0 hr hvv hB hBG hn hR
 go_enter Tryz.func120,Tryz.ntmps120
 go_upto_region 1 with fail
 rw [unhide HW]
 try rw [hG]
 clear HW
 obtain⟨x0,x1,x2,x3,x4,x5,x6,x7,x8,x9⟩:=unhide HF w1 (Below.refl _ _)
 by_cases h17:k=17
 ·subst h17
  have CC:=hide (rbinds_any t w1)
  have HV:=hide (show R=.int .i64 (bnS t.toList:Int) by rw [←unhide HR];unfold rkN;rw [if_pos rfl])
  clear HR
  obtain⟨q,hq⟩:∃q,bnS t.toList=q:=⟨_,rfl⟩
  rw [hq] at CC HV
  clear hq
  go_wp2_with fail
  refine(unhide CC).mono ?_
  rintro e w2 ⟨rfl,bb⟩
  have HS2:=hide ((unhide HS0).trans (bb.mono (unhide HS0).size))
  clear bb CC x0 x1 x2 x3 x4 x5 x6 x7 x8 x9
  go_wp2_with fail
  go_ret
  have hbz:=((unhide HM) w2 (unhide HS2)).2.2.2.2
  exact⟨by rw [unhide HV] <;> rfl,by first|exact hbz|(rw [hG];exact hbz)⟩
 ·have b17:(k == 17)=false:=by simpa using h17
  by_cases h16:k=16
  ·subst h16
   have HV:=hide (show R=.int .i64 6 by rw [←unhide HR];rfl)
   clear HR
   go_wp2_with fail
   go_ret
   have hbz:=((unhide HM) w1 (unhide HS0)).2.2.2.2
   exact⟨by rw [unhide HV] <;> rfl,by first|exact hbz|(rw [hG];exact hbz)⟩
  ·have b16:(k == 16)=false:=by simpa using h16
   have HV:=hide (show R=.int .i64 7 by rw [←unhide HR];unfold rkN;rw [if_neg h17,if_neg h16];rfl)
   clear HR
   go_wp2_with fail
   go_ret
   have hbz:=((unhide HM) w1 (unhide HS0)).2.2.2.2
   exact⟨by rw [unhide HV] <;> rfl,by first|exact hbz|(rw [hG];exact hbz)⟩
set_option maxRecDepth 100000 in
set_option maxHeartbeats 2000000 in
theorem rleast_any (i:Nat) (B0:Nat) (y:Tn) (x:List Value) (w:World) (hB:B0≤w.heap.size) (hx:IsN w (fun b=>b<B0) y x) :
  Calls Tryz.prog 121 #[.agg x.toArray,.int .i64 (i:Int)] w fun e w'=>e=.returned (.int .i64 (lsN y.k y.t i:Int))∧Below w.heap.size w w':=by
 have hx0:=hx
 obtain⟨vk,vn,vs,al,ak,a,ll,cl,lk,ck,cc,rfl,hvv,hr,hbk,hbp⟩:=hx.opn
 obtain⟨k,t,v,f,ks,p⟩:=y
 obtain⟨n,hn⟩:∃n,ks.length=n:=⟨_,rfl⟩
 have hnb:n≤140737488351232:=by rw [←hn];exact hr.len
 simp only [hn] at hx0 hvv hr hbk hbp ⊢
 obtain⟨R,hR⟩:∃R,(.int .i64 (lsN k t i:Int):Value)=R:=⟨_,rfl⟩
 rw [hR]
 have HR:=hide hR
 obtain⟨w1,hw1⟩:∃w1,w.alloc (.cells #[.int .i64 k,.string t,.int .i64 vk,.int .i64 vn,.string vs,.slice al ll cl,.slice ak lk ck,.bool f,.slice a n cc,.int .i64 p] 28)=w1:=⟨_,rfl⟩
 obtain⟨G,hG⟩:∃G,w.heap.size=G:=⟨_,rfl⟩
 have A1:w1.heap[G]?=some (.cells #[.int .i64 k,.string t,.int .i64 vk,.int .i64 vn,.string vs,.slice al ll cl,.slice ak lk ck,.bool f,.slice a n cc,.int .i64 p] 28 (0,0)):=by rw [←hw1,←hG];exact heap_alloc_new _ _
 have X1:Below G w w1:=by rw [←hw1,←hG];exact(Below.refl _ _).alloc (Nat.le_refl _) _
 have hBG:B0≤G:=by rw [←hG];exact hB
 have HM:Hid (∀u,Below w1.heap.size w1 u→IsN u (fun b=>b<B0) ⟨k,t,v,f,ks,p⟩ [.int .i64 k,.string t,.int .i64 vk,.int .i64 vn,.string vs,.slice al ll cl,.slice ak lk ck,.bool f,.slice a n cc,.int .i64 p]∧RowN u B0 ks a cc∧B0≤u.heap.size∧IsV u B0 v (.agg #[.int .i64 vk,.int .i64 vn,.string vs,.slice al ll cl,.slice ak lk ck])∧Below G w u):=hide (fun u hu=>by
  have h2:=X1.trans (hu.mono (Nat.le_of_lt (lt_of_row A1)))
  exact⟨hx0.laterB (h2.mono hBG),hr.later (h2.mono hBG),Nat.le_trans hBG (by rw [←hG];exact h2.size),hvv.mono (h2.mono hBG),h2⟩)
 have HF:Hid (∀u,Below w1.heap.size w1 u→u.cell? ⟨G,0,none⟩=some (.int .i64 k)∧u.cell? ⟨G,1,none⟩=some (.string t)∧u.cell? ⟨G,2,none⟩=some (.int .i64 vk)∧u.cell? ⟨G,3,none⟩=some (.int .i64 vn)∧u.cell? ⟨G,4,none⟩=some (.string vs)∧u.cell? ⟨G,5,none⟩=some (.slice al ll cl)∧u.cell? ⟨G,6,none⟩=some (.slice ak lk ck)∧u.cell? ⟨G,7,none⟩=some (.bool f)∧u.cell? ⟨G,8,none⟩=some (.slice a n cc)∧u.cell? ⟨G,9,none⟩=some (.int .i64 p)):=hide (fun u hu=>row_ten (Below.cellsAt hu A1))
 have HN:=hide hn
 have HS0:Hid (Below w1.heap.size w1 w1):=hide (Below.refl _ _)
 have HW:=hide hw1
 clear A1 X1 hw1 hx hx0 hr hvv hB hBG hn hR
 go_enter Tryz.func121,Tryz.ntmps121
 go_upto_region 1 with fail
 rw [unhide HW]
 try rw [hG]
 clear HW
 obtain⟨x0,x1,x2,x3,x4,x5,x6,x7,x8,x9⟩:=unhide HF w1 (Below.refl _ _)
 by_cases h16:k=16
 ·subst h16
  have HV:=hide (show R=.int .i64 6 by rw [←unhide HR];rfl)
  clear HR
  go_wp2_with fail
  go_ret
  have hbz:=((unhide HM) w1 (unhide HS0)).2.2.2.2
  exact⟨by rw [unhide HV] <;> rfl,by first|exact hbz|(rw [hG];exact hbz)⟩
 have b16:(k == 16)=false:=by simpa using h16
 by_cases h21:k=21
 ·subst h21
  by_cases hi:i=0
  ·subst hi
   have HV:=hide (show R=.int .i64 7 by rw [←unhide HR];rfl)
   clear HR
   go_wp2_with fail
   go_ret
   have hbz:=((unhide HM) w1 (unhide HS0)).2.2.2.2
   exact⟨by rw [unhide HV] <;> rfl,by first|exact hbz|(rw [hG];exact hbz)⟩
  ·have bi:((i:Int) == 0)=false:=by simp;omega
   have HV:=hide (show R=.int .i64 0 by rw [←unhide HR];simp [lsN,hi])
   clear HR
   go_wp2_with fail
   go_ret
   have hbz:=((unhide HM) w1 (unhide HS0)).2.2.2.2
   exact⟨by rw [unhide HV] <;> rfl,by first|exact hbz|(rw [hG];exact hbz)⟩
 have b21:(k == 21)=false:=by simpa using h21
 by_cases h22:k=22
 ·subst h22
  by_cases hi:i=0
  ·subst hi
   have HV:=hide (show R=.int .i64 7 by rw [←unhide HR];rfl)
   clear HR
   go_wp2_with fail
   go_ret
   have hbz:=((unhide HM) w1 (unhide HS0)).2.2.2.2
   exact⟨by rw [unhide HV] <;> rfl,by first|exact hbz|(rw [hG];exact hbz)⟩
  ·have bi:((i:Int) == 0)=false:=by simp;omega
   have HV:=hide (show R=.int .i64 0 by rw [←unhide HR];simp [lsN,hi])
   clear HR
   go_wp2_with fail
   go_ret
   have hbz:=((unhide HM) w1 (unhide HS0)).2.2.2.2
   exact⟨by rw [unhide HV] <;> rfl,by first|exact hbz|(rw [hG];exact hbz)⟩
 have b22:(k == 22)=false:=by simpa using h22
 by_cases h17:k=17
 ·subst h17
  have CC:=hide (rbinds_any t w1)
  obtain⟨q,hq⟩:∃q,bnS t.toList=q:=⟨_,rfl⟩
  have hq5:q≤5:=by rw [←hq];exact bn_le _
  rw [hq] at CC
  have hw:IntKind.i64.wrap ((q:Int)+1)=(q:Int)+1:=by rw [IntKind.wrap_i64];omega
  by_cases hi:i=1
  ·subst hi
   have HV:=hide (show R=.int .i64 ((q:Int)+1) by rw [←unhide HR];simp [lsN,hq])
   clear HR hq
   go_wp2_with fail
   refine(unhide CC).mono ?_
   rintro e w2 ⟨rfl,bb⟩
   have HS2:=hide ((unhide HS0).trans (bb.mono (unhide HS0).size))
   clear bb CC x0 x1 x2 x3 x4 x5 x6 x7 x8 x9
   go_wp2_with fail
   go_ret
   have hbz:=((unhide HM) w2 (unhide HS2)).2.2.2.2
   exact⟨by rw [unhide HV] <;> rfl,by first|exact hbz|(rw [hG];exact hbz)⟩
  have bi:((i:Int) == 1)=false:=by simp;omega
  by_cases h3:q=3
  ·subst h3
   have HV:=hide (show R=.int .i64 4 by rw [←unhide HR];simp [lsN,hq])
   clear HR hq
   go_wp2_with fail
   refine(unhide CC).mono ?_
   rintro e w2 ⟨rfl,bb⟩
   have HS2:=hide ((unhide HS0).trans (bb.mono (unhide HS0).size))
   clear bb CC x0 x1 x2 x3 x4 x5 x6 x7 x8 x9
   go_wp2_with fail
   go_ret
   have hbz:=((unhide HM) w2 (unhide HS2)).2.2.2.2
   exact⟨by rw [unhide HV] <;> rfl,by first|exact hbz|(rw [hG];exact hbz)⟩
  have b3:((q:Int) == 3)=false:=by simp;omega
  have HV:=hide (show R=.int .i64 (q:Int) by rw [←unhide HR];simp [lsN,hq,hi,h3])
  clear HR hq
  go_wp2_with fail
  refine(unhide CC).mono ?_
  rintro e w2 ⟨rfl,bb⟩
  have HS2:=hide ((unhide HS0).trans (bb.mono (unhide HS0).size))
  clear bb CC x0 x1 x2 x3 x4 x5 x6 x7 x8 x9
  go_wp2_with fail
  go_ret
  have hbz:=((unhide HM) w2 (unhide HS2)).2.2.2.2
  exact⟨by rw [unhide HV] <;> rfl,by first|exact hbz|(rw [hG];exact hbz)⟩
 have b17:(k == 17)=false:=by simpa using h17
 have HV:=hide (show R=.int .i64 0 by rw [←unhide HR];simp [lsN,h16,h21,h22,h17])
 clear HR
 go_wp2_with fail
 go_ret
 have hbz:=((unhide HM) w1 (unhide HS0)).2.2.2.2
 exact⟨by rw [unhide HV] <;> rfl,by first|exact hbz|(rw [hG];exact hbz)⟩
theorem brk_eq (k:Int) (t:ByteArray) (ky:Int) (ty:ByteArray) (i:Nat):decide (rkN ky ty<lsN k t i)=brk k t ky ty i:=by
 have h1:=bn_le ty.toList
 have h2:=bn_le t.toList
 rw [Bool.eq_iff_iff,decide_eq_true_iff]
 unfold rkN lsN brk
 by_cases a16:k=16
 ·rw [if_pos a16,if_pos a16,decide_eq_true_iff]
  by_cases b17:ky=17
  ·rw [if_pos b17];constructor <;> intro h <;> omega
  ·rw [if_neg b17];split <;> constructor <;> intro h <;> omega
 rw [if_neg a16,if_neg a16]
 by_cases a21:k=21∨k=22
 ·rw [if_pos a21,if_pos a21,decide_eq_true_iff]
  by_cases hi:i=0
  ·rw [if_pos hi]
   by_cases b17:ky=17
   ·rw [if_pos b17];constructor <;> intro h <;> omega
   ·rw [if_neg b17];split <;> constructor <;> intro h <;> omega
  ·rw [if_neg hi];constructor <;> intro h <;> omega
 rw [if_neg a21,if_neg a21]
 by_cases a17:k=17
 ·rw [if_pos a17,if_pos a17,decide_eq_true_iff]
  by_cases b17:ky=17
  ·rw [if_pos b17];split <;> constructor <;> intro h <;> omega
  ·rw [if_neg b17];split <;> split <;> constructor <;> intro h <;> omega
 ·rw [if_neg a17,if_neg a17];constructor <;> intro h
  ·omega
  ·exact absurd h (by simp)
set_option maxRecDepth 100000 in
set_option maxHeartbeats 2000000 in
theorem rbracket_any (i:Nat) (z:Tn) (B0:Nat) (y:Tn) (x:List Value) (w:World) (hB:B0≤w.heap.size) (hx:IsN w (fun b=>b<B0) y x) (hz:y.ks[i]?=some z) :
  Calls Tryz.prog 88 #[.agg x.toArray,.int .i64 (i:Int)] w fun e w'=>e=.returned (.bool (brk y.k y.t z.k z.t i))∧Below w.heap.size w w':=by
 have hx0:=hx
 obtain⟨vk,vn,vs,al,ak,a,ll,cl,lk,ck,cc,rfl,hvv,hr,hbk,hbp⟩:=hx.opn
 obtain⟨k,t,v,f,ks,p⟩:=y
 obtain⟨n,hn⟩:∃n,ks.length=n:=⟨_,rfl⟩
 have hnb:n≤140737488351232:=by rw [←hn];exact hr.len
 simp only [hn] at hx0 hvv hr hbk hbp ⊢
 obtain⟨R,hR⟩:∃R,(.bool (brk k t z.k z.t i):Value)=R:=⟨_,rfl⟩
 rw [hR]
 have HR:=hide hR
 simp only at hz
 obtain⟨b,vky,vny,vsy,aly,aky,ay,lly,cly,lky,cky,ny,ccy,rfl,hcy,hby,hny,hzy,hcelly⟩:=hr.ten hz
 obtain⟨w1,hw1⟩:∃w1,w.alloc (.cells #[.int .i64 k,.string t,.int .i64 vk,.int .i64 vn,.string vs,.slice al ll cl,.slice ak lk ck,.bool f,.slice (some b) n cc,.int .i64 p] 28)=w1:=⟨_,rfl⟩
 obtain⟨G,hG⟩:∃G,w.heap.size=G:=⟨_,rfl⟩
 have A1:w1.heap[G]?=some (.cells #[.int .i64 k,.string t,.int .i64 vk,.int .i64 vn,.string vs,.slice al ll cl,.slice ak lk ck,.bool f,.slice (some b) n cc,.int .i64 p] 28 (0,0)):=by rw [←hw1,←hG];exact heap_alloc_new _ _
 have X1:Below G w w1:=by rw [←hw1,←hG];exact(Below.refl _ _).alloc (Nat.le_refl _) _
 have hBG:B0≤G:=by rw [←hG];exact hB
 have HM:Hid (∀u,Below w1.heap.size w1 u→IsN u (fun b=>b<B0) ⟨k,t,v,f,ks,p⟩ [.int .i64 k,.string t,.int .i64 vk,.int .i64 vn,.string vs,.slice al ll cl,.slice ak lk ck,.bool f,.slice (some b) n cc,.int .i64 p]∧RowN u B0 ks (some b) cc∧B0≤u.heap.size∧IsV u B0 v (.agg #[.int .i64 vk,.int .i64 vn,.string vs,.slice al ll cl,.slice ak lk ck])∧Below G w u):=hide (fun u hu=>by
  have h2:=X1.trans (hu.mono (Nat.le_of_lt (lt_of_row A1)))
  exact⟨hx0.laterB (h2.mono hBG),hr.later (h2.mono hBG),Nat.le_trans hBG (by rw [←hG];exact h2.size),hvv.mono (h2.mono hBG),h2⟩)
 have HF:Hid (∀u,Below w1.heap.size w1 u→u.cell? ⟨G,0,none⟩=some (.int .i64 k)∧u.cell? ⟨G,1,none⟩=some (.string t)∧u.cell? ⟨G,2,none⟩=some (.int .i64 vk)∧u.cell? ⟨G,3,none⟩=some (.int .i64 vn)∧u.cell? ⟨G,4,none⟩=some (.string vs)∧u.cell? ⟨G,5,none⟩=some (.slice al ll cl)∧u.cell? ⟨G,6,none⟩=some (.slice ak lk ck)∧u.cell? ⟨G,7,none⟩=some (.bool f)∧u.cell? ⟨G,8,none⟩=some (.slice (some b) n cc)∧u.cell? ⟨G,9,none⟩=some (.int .i64 p)):=hide (fun u hu=>row_ten (Below.cellsAt hu A1))
 have HN:=hide hn
 have HS0:Hid (Below w1.heap.size w1 w1):=hide (Below.refl _ _)
 have HW:=hide hw1
 have X0y:∀u,Below w1.heap.size w1 u→Below G w u:=fun u h=>X1.trans (h.mono (Nat.le_of_lt (lt_of_row A1)))
 have HK:Hid (∀u,Below w1.heap.size w1 u→(u.cell? (b.add (i * 10))=some (.int .i64 z.k)∧u.cell? (⟨(b.add (i * 10)).block,(b.add (i * 10)).off+1,none⟩)=some (.string z.t)∧u.cell? (⟨(b.add (i * 10)).block,(b.add (i * 10)).off+2,none⟩)=some (.int .i64 vky)∧u.cell? (⟨(b.add (i * 10)).block,(b.add (i * 10)).off+3,none⟩)=some (.int .i64 vny)∧u.cell? (⟨(b.add (i * 10)).block,(b.add (i * 10)).off+4,none⟩)=some (.string vsy)∧u.cell? (⟨(b.add (i * 10)).block,(b.add (i * 10)).off+5,none⟩)=some (.slice aly lly cly)∧u.cell? (⟨(b.add (i * 10)).block,(b.add (i * 10)).off+6,none⟩)=some (.slice aky lky cky)∧u.cell? (⟨(b.add (i * 10)).block,(b.add (i * 10)).off+7,none⟩)=some (.bool z.f)∧u.cell? (⟨(b.add (i * 10)).block,(b.add (i * 10)).off+8,none⟩)=some (.slice ay ny ccy)∧u.cell? (⟨(b.add (i * 10)).block,(b.add (i * 10)).off+9,none⟩)=some (.int .i64 z.p))∧IsN u (fun b=>b<B0) z [.int .i64 z.k,.string z.t,.int .i64 vky,.int .i64 vny,.string vsy,.slice aly lly cly,.slice aky lky cky,.bool z.f,.slice ay ny ccy,.int .i64 z.p]):=hide (fun u h=>by
  have hc:∀j v,([.int .i64 z.k,.string z.t,.int .i64 vky,.int .i64 vny,.string vsy,.slice aly lly cly,.slice aky lky cky,.bool z.f,.slice ay ny ccy,.int .i64 z.p]:List Value)[j]?=some v→u.cell? ((b.add (i * 10)).add j)=some v:=fun j v hj=>(World.cell?_of_block ((X0y u h).block _ (by rw [block_add,block_add];omega))).trans (hcelly j v hj)
  exact⟨⟨hc 0 _ rfl,hc 1 _ rfl,hc 2 _ rfl,hc 3 _ rfl,hc 4 _ rfl,hc 5 _ rfl,hc 6 _ rfl,hc 7 _ rfl,hc 8 _ rfl,hc 9 _ rfl⟩,hzy.laterB ((X0y u h).mono hBG)⟩)
 have hnccy:n≤cc:=by rw [←hn];exact hcy
 clear hzy hcelly X0y hby hcy
 have hin:i<n:=by have:=(List.getElem?_eq_some_iff.1 hz).1;omega
 have hii:(i:Int)<(n:Int):=by omega
 have hi0:(0:Int)≤(i:Int):=by omega
 clear hz
 clear A1 X1 hw1 hx hx0 hr hvv hB hBG hn hR
 go_enter Tryz.func88,Tryz.ntmps88
 go_upto_region 1 with fail
 rw [unhide HW]
 try rw [hG]
 clear HW
 have HD0:Hid (Below w1.heap.size w1 w1.drew):=hide ((Below.refl _ _).drew)
 refine till_begin (S:=fun w'=>Below w1.heap.size w1 w') 10 (by kernel_rfl) ?_
 obtain⟨W0,hW0⟩:∃W0,w1.drew=W0:=⟨_,rfl⟩
 try rw [hW0]
 rw [hW0] at HD0
 clear hW0
 refine till_take 0 (v:=.pointer (some ⟨G,8,none⟩)) (some 5) rfl rfl rfl (by kernel_rfl) (by kernel_rfl) (by kernel_rfl) (by kernel_rfl) (fun _ _ _ h=>h) (Or.inl ⟨by rfl,fun u hu=>by obtain⟨x0,x1,x2,x3,x4,x5,x6,x7,x8,x9⟩:=unhide HF u hu;obtain⟨y0,y1,y2,y3,y4,y5,y6,y7,y8,y9⟩:=(unhide HK u hu).1;go_simp⟩) (unhide HD0) ?_
 try simp only [Act.put,List.setIfInBounds_toArray,List.set_cons_zero,List.set_cons_succ]
 refine till_take 1 (v:=.slice (some b) n cc) (some 6) rfl rfl rfl (by kernel_rfl) (by kernel_rfl) (by kernel_rfl) (by kernel_rfl) (fun _ _ _ h=>h) (Or.inl ⟨by rfl,fun u hu=>by obtain⟨x0,x1,x2,x3,x4,x5,x6,x7,x8,x9⟩:=unhide HF u hu;obtain⟨y0,y1,y2,y3,y4,y5,y6,y7,y8,y9⟩:=(unhide HK u hu).1;go_simp⟩) (unhide HD0) ?_
 try simp only [Act.put,List.setIfInBounds_toArray,List.set_cons_zero,List.set_cons_succ]
 refine till_take 2 (v:=.int .i64 (i:Int)) (some 7) rfl rfl rfl (by kernel_rfl) (by kernel_rfl) (by kernel_rfl) (by kernel_rfl) (fun _ _ _ h=>h) (Or.inl ⟨by rfl,fun u hu=>by obtain⟨x0,x1,x2,x3,x4,x5,x6,x7,x8,x9⟩:=unhide HF u hu;obtain⟨y0,y1,y2,y3,y4,y5,y6,y7,y8,y9⟩:=(unhide HK u hu).1;go_simp⟩) (unhide HD0) ?_
 try simp only [Act.put,List.setIfInBounds_toArray,List.set_cons_zero,List.set_cons_succ]
 refine till_take 3 (v:=.pointer (some (b.add (i * 10)))) (some 8) rfl rfl rfl (by kernel_rfl) (by kernel_rfl) (by kernel_rfl) (by kernel_rfl) (fun _ _ _ h=>h) (Or.inl ⟨by rfl,fun u hu=>by obtain⟨x0,x1,x2,x3,x4,x5,x6,x7,x8,x9⟩:=unhide HF u hu;obtain⟨y0,y1,y2,y3,y4,y5,y6,y7,y8,y9⟩:=(unhide HK u hu).1;go_simp⟩) (unhide HD0) ?_
 try simp only [Act.put,List.setIfInBounds_toArray,List.set_cons_zero,List.set_cons_succ]
 refine till_take 4 (v:=.agg #[.int .i64 z.k,.string z.t,.int .i64 vky,.int .i64 vny,.string vsy,.slice aly lly cly,.slice aky lky cky,.bool z.f,.slice ay ny ccy,.int .i64 z.p]) (some 9) rfl rfl rfl (by kernel_rfl) (by kernel_rfl) (by kernel_rfl) (by kernel_rfl) (fun _ _ _ h=>h) (Or.inl ⟨by rfl,fun u hu=>by obtain⟨x0,x1,x2,x3,x4,x5,x6,x7,x8,x9⟩:=unhide HF u hu;obtain⟨y0,y1,y2,y3,y4,y5,y6,y7,y8,y9⟩:=(unhide HK u hu).1;go_simp⟩) (unhide HD0) ?_
 try simp only [Act.put,List.setIfInBounds_toArray,List.set_cons_zero,List.set_cons_succ]
 refine till_take 6 (v:=.agg #[.int .i64 k,.string t,.int .i64 vk,.int .i64 vn,.string vs,.slice al ll cl,.slice ak lk ck,.bool f,.slice (some b) n cc,.int .i64 p]) (some 11) rfl rfl rfl (by kernel_rfl) (by kernel_rfl) (by kernel_rfl) (by kernel_rfl) (fun _ _ _ h=>h) (Or.inl ⟨by rfl,fun u hu=>by obtain⟨x0,x1,x2,x3,x4,x5,x6,x7,x8,x9⟩:=unhide HF u hu;obtain⟨y0,y1,y2,y3,y4,y5,y6,y7,y8,y9⟩:=(unhide HK u hu).1;go_simp⟩) (unhide HD0) ?_
 try simp only [Act.put,List.setIfInBounds_toArray,List.set_cons_zero,List.set_cons_succ]
 refine till_take 7 (v:=.int .i64 (i:Int)) (some 12) rfl rfl rfl (by kernel_rfl) (by kernel_rfl) (by kernel_rfl) (by kernel_rfl) (fun _ _ _ h=>h) (Or.inl ⟨by rfl,fun u hu=>by obtain⟨x0,x1,x2,x3,x4,x5,x6,x7,x8,x9⟩:=unhide HF u hu;obtain⟨y0,y1,y2,y3,y4,y5,y6,y7,y8,y9⟩:=(unhide HK u hu).1;go_simp⟩) (unhide HD0) ?_
 try simp only [Act.put,List.setIfInBounds_toArray,List.set_cons_zero,List.set_cons_succ]
 refine till_one 5 (by kernel_rfl) rfl (fun K hK=>?_)
 go_simp
 refine(rrank_any B0 z _ W0 ((unhide HM) W0 (unhide HD0)).2.2.1 (unhide HK W0 (unhide HD0)).2).mono ?_
 rintro e W1 ⟨rfl,bb⟩
 have HD1:=hide ((unhide HD0).trans (bb.mono (unhide HD0).size))
 clear bb
 go_wp2_with fail
 refine hK.out _ _ (Or.inr (unhide HD1)) ?_
 clear hK K HD0
 try simp only [Act.put,List.setIfInBounds_toArray,List.set_cons_zero,List.set_cons_succ]
 refine till_one 8 (by kernel_rfl) rfl (fun K hK=>?_)
 go_simp
 refine(rleast_any i B0 ⟨k,t,v,f,ks,p⟩ _ W1 ((unhide HM) W1 (unhide HD1)).2.2.1 ((unhide HM) W1 (unhide HD1)).1).mono ?_
 rintro e W2 ⟨rfl,bb⟩
 have HD2:=hide ((unhide HD1).trans (bb.mono (unhide HD1).size))
 clear bb
 go_wp2_with fail
 refine hK.out _ _ (Or.inr (unhide HD2)) ?_
 clear hK K HD1
 try simp only [Act.put,List.setIfInBounds_toArray,List.set_cons_zero,List.set_cons_succ]
 refine till_one 9 (by kernel_rfl) rfl (fun K hK=>?_)
 go_simp
 refine hK.out _ _ (Or.inr (unhide HD2)) ?_
 clear hK K
 try simp only [Act.put,List.setIfInBounds_toArray,List.set_cons_zero,List.set_cons_succ]
 refine till_one 10 (by kernel_rfl) rfl (fun K hK=>?_)
 go_simp
 refine hK.out _ _ (Or.inl (by first|rfl|trivial)) ?_
 clear hK K
 try simp only [Act.put,List.setIfInBounds_toArray,List.set_cons_zero,List.set_cons_succ]
 refine till_done (by kernel_rfl) ?_ _
 have HV:=hide (show (.bool (decide (rkN z.k z.t<lsN k t i)):Value)=R by rw [←unhide HR];rw [brk_eq k t z.k z.t i])
 go_wp2_with fail
 go_ret
 have hbz:=((unhide HM) W2 (unhide HD2)).2.2.2.2
 exact⟨by rw [←unhide HV] <;> rfl,by first|exact hbz|(rw [hG];exact hbz)⟩
set_option maxRecDepth 100000 in
set_option maxHeartbeats 1000000 in
theorem rall_any (B0:Nat) (ns:List Tn) (a:Option Addr) (n cc:Nat) (c:Int) (w:World) (hr:RowN w B0 ns a cc) (hn:ns.length=n) :
  Calls Tryz.prog 86 #[.slice a n cc,.int .i64 c] w fun e w'=>e=.returned (.bool (ns.all (fun z=>decide (z.k=c))))∧Below w.heap.size w w':=by
 have HB:=hide (Below.refl w.heap.size w)
 have hnb:n≤140737488351232:=by rw [←hn];exact hr.len
 obtain⟨R,hR⟩:∃R,ns.all (fun z=>decide (z.k=c))=R:=⟨_,rfl⟩
 rw [hR]
 have HR:=hide hR
 have HX:=hide hr
 have HN:=hide hn
 clear hR hr hn
 go_enter Tryz.func86,Tryz.ntmps86
 go_wp2_with fail
 go_loopw [5] (fun x wr=>∃(i:Nat),x=.int .i64 (i:Int)∧i≤n∧w=wr∧Hid (∀(j:Nat) (y:Tn),j<i→ns[j]?=some y→y.k=c)) (fun x _=>n - (intOf x).toNat)
 case atStart=>exact⟨0,rfl,Nat.zero_le _,rfl,hide (fun j y h=>absurd h (by omega))⟩
 case round=>
  obtain⟨i,rfl,hi,rfl,HI⟩:=hrel
  by_cases hlt:i<n
  ·have i1:(i:Int)<(n:Int):=by omega
   obtain⟨y,hy⟩:∃y,ns[i]?=some y:=⟨_,List.getElem?_eq_getElem (by have:=unhide HN;omega)⟩
   obtain⟨b,vky,vny,vsy,aly,aky,ay,lly,cly,lky,cky,ny,ccy,rfl,hcy,hby,hny,hzy,hcelly⟩:=(unhide HX).ten hy
   have e0:w.cell? (b.add (i * 10))=some (.int .i64 y.k):=hcelly 0 _ rfl
   have HI1:Hid (i+1≤n):=hide (by omega)
   by_cases hk:y.k=c
   ·have b1:(y.k != c)=false:=by simp [hk]
    have HJ:Hid (∀(j:Nat) (z:Tn),j<i+1→ns[j]?=some z→z.k=c):=hide (fun j z h hz=>by
     by_cases h2:j<i
     ·exact unhide HI j z h2 hz
     ·obtain rfl:j=i:=by omega
      obtain rfl:=Option.some.inj (hy.symm.trans hz)
      exact hk)
    clear hy hcy hby hny hzy hcelly hk
    go_wp2_with fail
    go_roundw
    case rel=>exact⟨i+1,by go_num,unhide HI1,by first|rfl|trivial,HJ⟩
    case measure=>have:=unhide HI1;simp [intOf];omega
   ·have b1:(y.k != c)=true:=by simpa using hk
    have HV:=hide (show R=false by
     rw [←unhide HR,List.all_eq_false]
     exact⟨y,List.mem_of_getElem? hy,by simpa using hk⟩)
    clear hy hcy hby hny hzy hcelly hk
    go_wp2_with fail
    go_ret
    exact⟨by rw [unhide HV] <;> rfl,unhide HB⟩
  ·have i1:¬(i:Int)<(n:Int):=by omega
   have HV:=hide (show R=true by
    rw [←unhide HR,List.all_eq_true]
    intro z hz
    obtain⟨j,hj⟩:=List.getElem?_of_mem hz
    have:=unhide HI j z (by have:=(List.getElem?_eq_some_iff.1 hj).1;have:=unhide HN;omega) hj
    simpa using this)
   go_wp2_with fail
   go_ret
   exact⟨by rw [unhide HV] <;> rfl,unhide HB⟩
end Go.Proofs.YtekbmfppfjlboaaGreatDoor
