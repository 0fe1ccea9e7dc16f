/-
  The walk of the document's text; conditions: what a right value is.
  Conditions: where nodes are told of, they lie in memory.
-/
import Derived.Test.YtlkeaaopdnnceaaGreatDoorA16
import Derived.Test.YtlkeaaopdnnceaaGreatDoorA04
import Derived.WalkSpells
import Derived.WalkSmall
set_option linter.unusedVariables false
set_option linter.unusedSimpArgs false
set_option maxRecDepth 100000
set_option maxHeartbeats 8000000
namespace Go.Proofs.YtlkeaaopdnnceaaGreatDoor
open Go.RowKit
set_option linter.unusedVariables false
set_option linter.unusedSimpArgs false
def TextAt (b:Nat):Prop:=∀(v:Vl) (x:Value) (B:Nat) (w:World),okB b v=true→wt v≤2048→IsV w B v x→B≤w.heap.size →
  Calls Tryz.prog 89 #[x] w fun e w'=>∃t:ByteArray,e=.returned (.string t)∧t.data.toList=txt v∧t.size+2≤32 * wt v∧Below w.heap.size w w'
theorem text_zero:TextAt 0:=by
 intro v x B w h
 cases v
 simp [okB] at h
theorem okL_at:∀(b:Nat) (l:List Vl) (i:Nat) (y:Vl),okL b l=true→l[i]?=some y→okB b y=true
 |b,[],i,y,_,h=>by simp at h
 |b,x :: r,0,y,ho,h=>by
  rw [okL_cons,Bool.and_eq_true] at ho
  simp at h
  subst h
  exact ho.1
 |b,x :: r,i+1,y,ho,h=>by
  rw [okL_cons,Bool.and_eq_true] at ho
  exact okL_at b r i y ho.2 (by simpa using h)
theorem wtL_take1 (l:List Vl) (i:Nat) (y:Vl) (h:l[i]?=some y):wtL (l.take (i+1))=wtL (l.take i)+wt y:=by
 rw [List.take_add_one,h,wtL_app]
 show wtL (l.take i)+wtL [y]=_
 rw [wtL_cons,wtL_nil]
 omega
theorem keysW_app2:∀(a b:List ByteArray),keysW (a++b)=keysW a+keysW b
 |[],b=>by simp [keysW]
 |t :: r,b=>by
  have:=keysW_app2 r b
  rw [List.cons_append]
  simp only [keysW]
  omega
theorem keysW_take1 (ks:List ByteArray) (i:Nat) (t:ByteArray) (h:ks[i]?=some t):keysW (ks.take (i+1))=keysW (ks.take i)+1+t.size:=by
 rw [List.take_add_one,h,keysW_app2]
 show keysW (ks.take i)+keysW [t]=_
 simp only [keysW]
 omega
theorem keysW_take_le2 (ks:List ByteArray) (i:Nat):keysW (ks.take i)≤keysW ks:=by
 have h:=keysW_app2 (ks.take i) (ks.drop i)
 rw [List.take_append_drop] at h
 omega
theorem wtL_take_le2 (l:List Vl) (i:Nat):wtL (l.take i)≤wtL l:=by
 have h:=wtL_app (l.take i) (l.drop i)
 rw [List.take_append_drop] at h
 omega
theorem text_step (b:Nat) (ih:TextAt b):TextAt (b+1):=by
 intro v x B w hok hwt hv hBs
 obtain⟨k,n,s,l,ks,al,ak,cl,ck,rfl,rfl⟩:=hv.shape
 obtain⟨m,hm⟩:∃m,ks.length=m:=⟨_,rfl⟩
 obtain⟨ln,hln⟩:∃ln,l.length=ln:=⟨_,rfl⟩
 rw [hm,hln] at hv
 rw [hm,hln]
 have hbd:(-9223372036854775808≤n∧n≤9223372036854775807):=by
  obtain⟨_,_,_,_,_,V,hf,_⟩:=IsP.at hv
  exact hf.bn
 rw [okB,Bool.and_eq_true] at hok
 have hwt':1+s.size+keysW ks+wtL l≤2048:=by simpa [wt] using hwt
 obtain⟨g,hg⟩:∃g,w.heap.size=g:=⟨_,rfl⟩
 have BX:=Box.mk' w (.int .i64 k) (.int .i64 n) (.string s) (.slice al ln cl) (.slice ak m ck)
 obtain⟨w1,hw1⟩:∃w1,w.alloc (.cells #[.int .i64 k,.int .i64 n,.string s,.slice al ln cl,.slice ak m ck] 26)=w1:=⟨_,rfl⟩
 rw [hw1] at BX
 have at0:=BX.row
 rw [hg] at at0
 have HB:Hid (Below g w w1):=hZ (by rw [←hg];exact BX.below)
 have zb:g<w1.heap.size:=by have:=BX.size;omega
 have HT:Hid (∀u,Below w1.heap.size w1 u→u.heap[g]?=some (.cells #[.int .i64 k,.int .i64 n,.string s,.slice al ln cl,.slice ak m ck] 26 (0,0))∧IsV u B (.mk k n s l ks) (.agg #[.int .i64 k,.int .i64 n,.string s,.slice al ln cl,.slice ak m ck])∧B≤u.heap.size∧Below g w u):=hZ (fun u hu=>by
  have h1:Below g w u:=(uZ HB).trans (hu.mono (by omega))
  exact⟨(hu.block g zb).trans at0,hv.mono (h1.mono (by omega)),by have:=h1.size;omega,h1⟩)
 obtain⟨c0,c1,c2,c3,c4⟩:=row_cell at0
 have HL:=hZ (And.intro hm hln)
 have HO:=hZ (And.intro hok.1 hok.2)
 have HW:=hZ hwt'
 have HBD:=hZ hbd
 clear BX hv hm hln at0 hok hwt hwt' hbd
 by_cases k0:k=0
 ·subst k0
  go_enter Tryz.func89,Tryz.ntmps89
  go_wp2_with fail
  go_ret
  exact⟨_,rfl,by simp [txt,oneT],by have:=uZ HW;simp only [wt];show 4+2≤_;omega,by first|exact uZ HB|(rw [hg];exact uZ HB)⟩
 by_cases k1:k=1
 ·subst k1
  by_cases n1:n=1
  ·subst n1
   go_enter Tryz.func89,Tryz.ntmps89
   go_wp2_with fail
   go_ret
   exact⟨_,rfl,by simp [txt,oneT],by have:=uZ HW;simp only [wt];show 4+2≤_;omega,by first|exact uZ HB|(rw [hg];exact uZ HB)⟩
  ·have nb:(n == 1)=false:=by simpa using n1
   go_enter Tryz.func89,Tryz.ntmps89
   go_wp2_with fail
   go_ret
   exact⟨_,rfl,by simp [txt,oneT,n1],by have:=uZ HW;simp only [wt];show 5+2≤_;omega,by first|exact uZ HB|(rw [hg];exact uZ HB)⟩
 by_cases k2:k=2
 ·subst k2
  have CD:=hZ (digits_any n (uZ HBD).1 (uZ HBD).2 w1)
  go_enter Tryz.func89,Tryz.ntmps89
  go_wp2_with fail
  refine(uZ CD).mono ?_
  rintro e u ⟨t,rfl,ht,rfl⟩
  have HTT:=hZ ht
  clear ht CD
  go_wp2_with fail
  go_ret
  refine⟨t,rfl,by rw [uZ HTT];simp [txt,oneT],?_,by first|exact uZ HB|(rw [hg];exact uZ HB)⟩
  have h1:=itoa_len n (uZ HBD).1 (uZ HBD).2
  rw [←uZ HTT] at h1
  have h2:=str_size t
  simp only [wt]
  omega
 by_cases k3:k=3
 ·subst k3
  have CD:=hZ (quoted_any s (by have:=uZ HW;omega) w1)
  go_enter Tryz.func89,Tryz.ntmps89
  go_wp2_with fail
  refine(uZ CD).mono ?_
  rintro e u ⟨rfl,bu⟩
  have HF:=hZ (uZ HT u bu).2.2.2
  clear bu CD
  go_wp2_with fail
  go_ret
  refine⟨_,rfl,by simp [txt,oneT,quoteU],?_,by first|exact uZ HF|(rw [hg];exact uZ HF)⟩
  have h1:=quoteU_len s
  have h2:=str_size (strOfNums (quoteI s))
  unfold quoteU at h1
  simp only [wt]
  omega
 have b0:(k == 0)=false:=by simpa using k0
 have b1:(k == 1)=false:=by simpa using k1
 have b2:(k == 2)=false:=by simpa using k2
 have b3:(k == 3)=false:=by simpa using k3
 by_cases k5:k=5
 ·subst k5
  clear c0 c1 c2 c3 c4 b0 b1 b2 b3 k0 k1 k2 k3
  obtain⟨c0,c1,c2,c3,c4⟩:=row_cell (uZ HT w1 (Below.refl _ _)).1
  have HLM:Hid (ln=m):=hZ (by have h:=(uZ HO).1;unfold formB formM at h;simp at h;have h1:=(uZ HL).1;have h2:=(uZ HL).2;omega)
  have HE0:Hid ((⟨#[]⟩:ByteArray).data.toList=txtL true (l.take 0) ks true∧(⟨#[]⟩:ByteArray).size≤32 * (keysW (ks.take 0)+wtL (l.take 0))):=hZ ⟨by simp [txtL],by show 0≤_;omega⟩
  have hlb:ln≤140737488351232:=by
   obtain⟨_,_,_,_,_,V,hf,_⟩:=IsP.at (uZ HT w1 (Below.refl _ _)).2.1
   have h1:=hf.bl
   have h2:=(uZ HL).2
   omega
  go_enter Tryz.func89,Tryz.ntmps89
  go_wp2_with fail
  clear c0 c1 c2 c3 c4
  go_loopw [3,4] (fun y z wr=>∃(i:Nat) (t:ByteArray),i≤ln∧y=.string t∧z=.int .i64 i∧Hid (t.data.toList=txtL true (l.take i) ks true∧t.size≤32 * (keysW (ks.take i)+wtL (l.take i)))∧Hid (Below w1.heap.size w1 wr)) (fun _ z _=>ln - (intOf z).toNat)
  case atStart=>exact⟨0,_,Nat.zero_le _,rfl,rfl,HE0,hZ (Below.refl _ _)⟩
  case round=>
   clear HE0
   obtain⟨i,t,hi,rfl,rfl,HTi,HX⟩:=hrel
   obtain⟨c0,c1,c2,c3,c4⟩:=row_cell (uZ HT wr (uZ HX)).1
   have hts:t.size≤70000:=by
    have h1:=(uZ HTi).2
    have h2:=uZ HW
    have h3:=wtL_take_le2 l i
    have h4:=keysW_take_le2 ks i
    omega
   by_cases hlt:i<ln
   ·have i1:(i:Int)<(ln:Int):=by omega
    have i0:(0:Int)≤(i:Int):=by omega
    have HI1:Hid (i+1≤ln):=hZ (by omega)
    obtain⟨y,hy⟩:∃y,l[i]?=some y:=⟨_,List.getElem?_eq_getElem (by have:=(uZ HL).2;omega)⟩
    have HY:=hZ hy
    have hyw:wt y≤2048:=by
     have h1:=wtL_take1 l i y hy
     have h2:=wtL_take_le2 l (i+1)
     have h3:=uZ HW
     omega
    have hyo:okB b y=true:=okL_at b l i y (uZ HO).2 hy
    have CT:Hid (∀u x,IsV u B y x→B≤u.heap.size→_):=hZ (fun u x (h1:IsV u B y x) (h2:B≤u.heap.size)=>ih y x B u hyo hyw h1 h2)
    clear hy hyo hyw
    by_cases hi0:i=0
    ·have j0:¬(0:Int)<(i:Int):=by omega
     have HI0:=hZ hi0
     clear hi0
     have hz0:¬9223372036854775807<t.size+2:=by omega
     obtain⟨tk,htk⟩:∃tk,ks[i]?=some tk:=⟨_,List.getElem?_eq_getElem (by have:=(uZ HL).1;have:=uZ HLM;omega)⟩
     obtain⟨a2,rfl⟩:∃a2,ak=some a2:=by
      cases ak with
      |none=>have h1:=(uZ HT wr (uZ HX)).2.1.keys.1.none rfl;have h2:=(uZ HL).1;have:=uZ HLM;omega
      |some a2=>exact⟨a2,rfl⟩
     have cK:=(uZ HT wr (uZ HX)).2.1.keys.1.cell a2 rfl i tk htk
     have j2:(i:Int)<(m:Int):=by have:=uZ HLM;omega
     have hkw:=keysW_take1 ks i tk htk
     have hkb:tk.size≤5000:=by have h1:=uZ HW;have h2:=keysW_take_le2 ks (i+1);omega
     have CQ:=hZ (quoted_any tk hkb wr)
     obtain⟨qt,hqt⟩:∃qt,strOfNums (quoteI tk)=qt:=⟨_,rfl⟩
     rw [hqt] at CQ
     have hql:qt.size≤2+4 * tk.size:=by
      have h1:=quoteU_len tk
      unfold quoteU at h1
      rw [hqt] at h1
      have h2:=str_size qt
      omega
     have HQT:Hid (qt.data.toList=quoteU tk∧ks[i]?=some tk):=hZ ⟨by rw [←hqt];rfl,htk⟩
     have hz1:¬9223372036854775807<t.size+qt.size:=by omega
     have hz2:¬9223372036854775807<t.size+qt.size+2:=by omega
     clear hqt htk
     go_wp2_with fail
     refine(uZ CQ).mono ?_
     rintro e u2 ⟨rfl,bq⟩
     have HX2:=hZ ((uZ HX).trans (bq.mono (uZ HX).size))
     clear bq CQ cK c0 c1 c2 c3 c4
     obtain⟨c0,c1,c2,c3,c4⟩:=row_cell (uZ HT u2 (uZ HX2)).1
     obtain⟨a,y0,y1,y2,al',ak',ll',m',cl',ck',rfl,hab,hce,hve⟩:=(uZ HT u2 (uZ HX2)).2.1.elem i y (uZ HY)
     have e0:u2.cell? (a.add (i * 5))=some (.int .i64 y0):=hce 0 _ rfl
     have e1:u2.cell? ⟨(a.add (i * 5)).block,(a.add (i * 5)).off+1,none⟩=some (.int .i64 y1):=hce 1 _ rfl
     have e2:u2.cell? ⟨(a.add (i * 5)).block,(a.add (i * 5)).off+2,none⟩=some (.string y2):=hce 2 _ rfl
     have e3:u2.cell? ⟨(a.add (i * 5)).block,(a.add (i * 5)).off+3,none⟩=some (.slice al' ll' cl'):=hce 3 _ rfl
     have e4:u2.cell? ⟨(a.add (i * 5)).block,(a.add (i * 5)).off+4,none⟩=some (.slice ak' m' ck'):=hce 4 _ rfl
     have CC:=hZ (uZ CT u2 _ hve (uZ HT u2 (uZ HX2)).2.2.1)
     clear hce hve hab
     go_wp2_with fail
     refine(uZ CC).mono ?_
     rintro e u3 ⟨ty,rfl,hty,hsz,b3⟩
     have HX3:=hZ ((uZ HX2).trans (b3.mono (uZ HX2).size))
     have HTY:=hZ hty
     have hyw:=wtL_take1 l i y (uZ HY)
     have hyl:=wtL_take_le2 l (i+1)
     have hWW:=uZ HW
     have hz3:¬9223372036854775807<t.size+qt.size+2+ty.size:=by omega
     have HN1:Hid ((t++qt++⟨#[58,32]⟩++ty).data.toList=txtL true (l.take (i+1)) ks true∧(t++qt++⟨#[58,32]⟩++ty).size≤32 * (keysW (ks.take (i+1))+wtL (l.take (i+1)))):=hZ (by
      constructor
      ·rw [txtL_next true l ks i y (uZ HY),←(uZ HTi).1,←uZ HTY]
       unfold headT
       obtain⟨q1,q2⟩:=uZ HQT
       have hd:(ks.drop i).headD ⟨#[]⟩=tk:=by rw [List.headD_eq_head?_getD,List.head?_drop,q2];rfl
       rw [hd,←q1]
       simp [uZ HI0,ByteArray.data_append,List.append_assoc]
      ·have h1:=(uZ HTi).2
       simp only [ByteArray.size_append]
       show t.size+qt.size+2+ty.size≤_
       rw [hkw,hyw]
       omega)
     clear b3 hty hsz CC e0 e1 e2 e3 e4 hyw hyl hWW
     go_wp2_with fail
     go_roundw
     case rel=>exact⟨i+1,_,uZ HI1,rfl,by go_num,HN1,HX3⟩
     case measure=>have:=uZ HI1;simp [intOf];omega
    ·have j0:(0:Int)<(i:Int):=by omega
     have HI0:=hZ hi0
     clear hi0
     have hz0:¬9223372036854775807<t.size+2:=by omega
     obtain⟨tk,htk⟩:∃tk,ks[i]?=some tk:=⟨_,List.getElem?_eq_getElem (by have:=(uZ HL).1;have:=uZ HLM;omega)⟩
     obtain⟨a2,rfl⟩:∃a2,ak=some a2:=by
      cases ak with
      |none=>have h1:=(uZ HT wr (uZ HX)).2.1.keys.1.none rfl;have h2:=(uZ HL).1;have:=uZ HLM;omega
      |some a2=>exact⟨a2,rfl⟩
     have cK:=(uZ HT wr (uZ HX)).2.1.keys.1.cell a2 rfl i tk htk
     have j2:(i:Int)<(m:Int):=by have:=uZ HLM;omega
     have hkw:=keysW_take1 ks i tk htk
     have hkb:tk.size≤5000:=by have h1:=uZ HW;have h2:=keysW_take_le2 ks (i+1);omega
     have CQ:=hZ (quoted_any tk hkb wr)
     obtain⟨qt,hqt⟩:∃qt,strOfNums (quoteI tk)=qt:=⟨_,rfl⟩
     rw [hqt] at CQ
     have hql:qt.size≤2+4 * tk.size:=by
      have h1:=quoteU_len tk
      unfold quoteU at h1
      rw [hqt] at h1
      have h2:=str_size qt
      omega
     have HQT:Hid (qt.data.toList=quoteU tk∧ks[i]?=some tk):=hZ ⟨by rw [←hqt];rfl,htk⟩
     have hz1:¬9223372036854775807<t.size+2+qt.size:=by omega
     have hz2:¬9223372036854775807<t.size+2+qt.size+2:=by omega
     clear hqt htk
     go_wp2_with fail
     refine(uZ CQ).mono ?_
     rintro e u2 ⟨rfl,bq⟩
     have HX2:=hZ ((uZ HX).trans (bq.mono (uZ HX).size))
     clear bq CQ cK c0 c1 c2 c3 c4
     obtain⟨c0,c1,c2,c3,c4⟩:=row_cell (uZ HT u2 (uZ HX2)).1
     obtain⟨a,y0,y1,y2,al',ak',ll',m',cl',ck',rfl,hab,hce,hve⟩:=(uZ HT u2 (uZ HX2)).2.1.elem i y (uZ HY)
     have e0:u2.cell? (a.add (i * 5))=some (.int .i64 y0):=hce 0 _ rfl
     have e1:u2.cell? ⟨(a.add (i * 5)).block,(a.add (i * 5)).off+1,none⟩=some (.int .i64 y1):=hce 1 _ rfl
     have e2:u2.cell? ⟨(a.add (i * 5)).block,(a.add (i * 5)).off+2,none⟩=some (.string y2):=hce 2 _ rfl
     have e3:u2.cell? ⟨(a.add (i * 5)).block,(a.add (i * 5)).off+3,none⟩=some (.slice al' ll' cl'):=hce 3 _ rfl
     have e4:u2.cell? ⟨(a.add (i * 5)).block,(a.add (i * 5)).off+4,none⟩=some (.slice ak' m' ck'):=hce 4 _ rfl
     have CC:=hZ (uZ CT u2 _ hve (uZ HT u2 (uZ HX2)).2.2.1)
     clear hce hve hab
     go_wp2_with fail
     refine(uZ CC).mono ?_
     rintro e u3 ⟨ty,rfl,hty,hsz,b3⟩
     have HX3:=hZ ((uZ HX2).trans (b3.mono (uZ HX2).size))
     have HTY:=hZ hty
     have hyw:=wtL_take1 l i y (uZ HY)
     have hyl:=wtL_take_le2 l (i+1)
     have hWW:=uZ HW
     have hz3:¬9223372036854775807<t.size+2+qt.size+2+ty.size:=by omega
     have HN1:Hid ((t++⟨#[44,32]⟩++qt++⟨#[58,32]⟩++ty).data.toList=txtL true (l.take (i+1)) ks true∧(t++⟨#[44,32]⟩++qt++⟨#[58,32]⟩++ty).size≤32 * (keysW (ks.take (i+1))+wtL (l.take (i+1)))):=hZ (by
      constructor
      ·rw [txtL_next true l ks i y (uZ HY),←(uZ HTi).1,←uZ HTY]
       unfold headT
       obtain⟨q1,q2⟩:=uZ HQT
       have hd:(ks.drop i).headD ⟨#[]⟩=tk:=by rw [List.headD_eq_head?_getD,List.head?_drop,q2];rfl
       rw [hd,←q1]
       simp [uZ HI0,ByteArray.data_append,List.append_assoc]
      ·have h1:=(uZ HTi).2
       simp only [ByteArray.size_append]
       show t.size+2+qt.size+2+ty.size≤_
       rw [hkw,hyw]
       omega)
     clear b3 hty hsz CC e0 e1 e2 e3 e4 hyw hyl hWW
     go_wp2_with fail
     go_roundw
     case rel=>exact⟨i+1,_,uZ HI1,rfl,by go_num,HN1,HX3⟩
     case measure=>have:=uZ HI1;simp [intOf];omega
   ·have i1:¬(i:Int)<(ln:Int):=by omega
    have hz1:¬9223372036854775807<1+t.size:=by omega
    have hz2:¬9223372036854775807<1+t.size+1:=by omega
    have HFN:Hid (t.data.toList=txtL true l ks true∧t.size≤32 * (keysW ks+wtL l)∧Below g w wr):=hZ (by
     obtain⟨h1,h2⟩:=uZ HTi
     have hle:l.length≤i:=by have:=(uZ HL).2;omega
     rw [List.take_of_length_le hle] at h1 h2
     rw [List.take_of_length_le (by have:=(uZ HL).1;have:=uZ HLM;omega)] at h2
     exact⟨h1,h2,(uZ HT wr (uZ HX)).2.2.2⟩)
    go_wp2_with fail
    go_ret
    obtain⟨h1,h2,h3⟩:=uZ HFN
    refine⟨_,rfl,?_,?_,by first|exact h3|(rw [hg];exact h3)⟩
    ·simp [txt,oneT,ByteArray.data_append,h1]
    ·have hWW:=uZ HW
     simp only [ByteArray.size_append,wt]
     show 1+t.size+1+2≤_
     omega
 ·have b5:(k == 5)=false:=by simpa using k5
  clear c0 c1 c2 c3 c4
  obtain⟨c0,c1,c2,c3,c4⟩:=row_cell (uZ HT w1 (Below.refl _ _)).1
  have HLM:Hid (True):=hZ (trivial)
  have HE0:Hid ((⟨#[]⟩:ByteArray).data.toList=txtL false (l.take 0) ks true∧(⟨#[]⟩:ByteArray).size≤32 * (wtL (l.take 0))):=hZ ⟨by simp [txtL],by show 0≤_;omega⟩
  have hlb:ln≤140737488351232:=by
   obtain⟨_,_,_,_,_,V,hf,_⟩:=IsP.at (uZ HT w1 (Below.refl _ _)).2.1
   have h1:=hf.bl
   have h2:=(uZ HL).2
   omega
  go_enter Tryz.func89,Tryz.ntmps89
  go_wp2_with fail
  clear c0 c1 c2 c3 c4
  go_loopw [3,4] (fun y z wr=>∃(i:Nat) (t:ByteArray),i≤ln∧y=.string t∧z=.int .i64 i∧Hid (t.data.toList=txtL false (l.take i) ks true∧t.size≤32 * (wtL (l.take i)))∧Hid (Below w1.heap.size w1 wr)) (fun _ z _=>ln - (intOf z).toNat)
  case atStart=>exact⟨0,_,Nat.zero_le _,rfl,rfl,HE0,hZ (Below.refl _ _)⟩
  case round=>
   clear HE0
   obtain⟨i,t,hi,rfl,rfl,HTi,HX⟩:=hrel
   obtain⟨c0,c1,c2,c3,c4⟩:=row_cell (uZ HT wr (uZ HX)).1
   have hts:t.size≤70000:=by
    have h1:=(uZ HTi).2
    have h2:=uZ HW
    have h3:=wtL_take_le2 l i
    have h4:=keysW_take_le2 ks i
    omega
   by_cases hlt:i<ln
   ·have i1:(i:Int)<(ln:Int):=by omega
    have i0:(0:Int)≤(i:Int):=by omega
    have HI1:Hid (i+1≤ln):=hZ (by omega)
    obtain⟨y,hy⟩:∃y,l[i]?=some y:=⟨_,List.getElem?_eq_getElem (by have:=(uZ HL).2;omega)⟩
    have HY:=hZ hy
    have hyw:wt y≤2048:=by
     have h1:=wtL_take1 l i y hy
     have h2:=wtL_take_le2 l (i+1)
     have h3:=uZ HW
     omega
    have hyo:okB b y=true:=okL_at b l i y (uZ HO).2 hy
    have CT:Hid (∀u x,IsV u B y x→B≤u.heap.size→_):=hZ (fun u x (h1:IsV u B y x) (h2:B≤u.heap.size)=>ih y x B u hyo hyw h1 h2)
    clear hy hyo hyw
    by_cases hi0:i=0
    ·have j0:¬(0:Int)<(i:Int):=by omega
     have HI0:=hZ hi0
     clear hi0
     have hz0:¬9223372036854775807<t.size+2:=by omega
     obtain⟨a,y0,y1,y2,al',ak',ll',m',cl',ck',rfl,hab,hce,hve⟩:=(uZ HT wr (uZ HX)).2.1.elem i y (uZ HY)
     have e0:wr.cell? (a.add (i * 5))=some (.int .i64 y0):=hce 0 _ rfl
     have e1:wr.cell? ⟨(a.add (i * 5)).block,(a.add (i * 5)).off+1,none⟩=some (.int .i64 y1):=hce 1 _ rfl
     have e2:wr.cell? ⟨(a.add (i * 5)).block,(a.add (i * 5)).off+2,none⟩=some (.string y2):=hce 2 _ rfl
     have e3:wr.cell? ⟨(a.add (i * 5)).block,(a.add (i * 5)).off+3,none⟩=some (.slice al' ll' cl'):=hce 3 _ rfl
     have e4:wr.cell? ⟨(a.add (i * 5)).block,(a.add (i * 5)).off+4,none⟩=some (.slice ak' m' ck'):=hce 4 _ rfl
     have CC:=hZ (uZ CT wr _ hve (uZ HT wr (uZ HX)).2.2.1)
     clear hce hve hab
     go_wp2_with fail
     refine(uZ CC).mono ?_
     rintro e u3 ⟨ty,rfl,hty,hsz,b3⟩
     have HX3:=hZ ((uZ HX).trans (b3.mono (uZ HX).size))
     have HTY:=hZ hty
     have hyw:=wtL_take1 l i y (uZ HY)
     have hyl:=wtL_take_le2 l (i+1)
     have hWW:=uZ HW
     have hz3:¬9223372036854775807<t.size+ty.size:=by omega
     have HN1:Hid ((t++ty).data.toList=txtL false (l.take (i+1)) ks true∧(t++ty).size≤32 * (wtL (l.take (i+1)))):=hZ (by
      constructor
      ·rw [txtL_next false l ks i y (uZ HY),←(uZ HTi).1,←uZ HTY]
       unfold headT
       simp [uZ HI0,ByteArray.data_append,List.append_assoc]
      ·have h1:=(uZ HTi).2
       simp only [ByteArray.size_append]
       show t.size+ty.size≤_
       rw [hyw]
       omega)
     clear b3 hty hsz CC e0 e1 e2 e3 e4 hyw hyl hWW
     go_wp2_with fail
     go_roundw
     case rel=>exact⟨i+1,_,uZ HI1,rfl,by go_num,HN1,HX3⟩
     case measure=>have:=uZ HI1;simp [intOf];omega
    ·have j0:(0:Int)<(i:Int):=by omega
     have HI0:=hZ hi0
     clear hi0
     have hz0:¬9223372036854775807<t.size+2:=by omega
     obtain⟨a,y0,y1,y2,al',ak',ll',m',cl',ck',rfl,hab,hce,hve⟩:=(uZ HT wr (uZ HX)).2.1.elem i y (uZ HY)
     have e0:wr.cell? (a.add (i * 5))=some (.int .i64 y0):=hce 0 _ rfl
     have e1:wr.cell? ⟨(a.add (i * 5)).block,(a.add (i * 5)).off+1,none⟩=some (.int .i64 y1):=hce 1 _ rfl
     have e2:wr.cell? ⟨(a.add (i * 5)).block,(a.add (i * 5)).off+2,none⟩=some (.string y2):=hce 2 _ rfl
     have e3:wr.cell? ⟨(a.add (i * 5)).block,(a.add (i * 5)).off+3,none⟩=some (.slice al' ll' cl'):=hce 3 _ rfl
     have e4:wr.cell? ⟨(a.add (i * 5)).block,(a.add (i * 5)).off+4,none⟩=some (.slice ak' m' ck'):=hce 4 _ rfl
     have CC:=hZ (uZ CT wr _ hve (uZ HT wr (uZ HX)).2.2.1)
     clear hce hve hab
     go_wp2_with fail
     refine(uZ CC).mono ?_
     rintro e u3 ⟨ty,rfl,hty,hsz,b3⟩
     have HX3:=hZ ((uZ HX).trans (b3.mono (uZ HX).size))
     have HTY:=hZ hty
     have hyw:=wtL_take1 l i y (uZ HY)
     have hyl:=wtL_take_le2 l (i+1)
     have hWW:=uZ HW
     have hz3:¬9223372036854775807<t.size+2+ty.size:=by omega
     have HN1:Hid ((t++⟨#[44,32]⟩++ty).data.toList=txtL false (l.take (i+1)) ks true∧(t++⟨#[44,32]⟩++ty).size≤32 * (wtL (l.take (i+1)))):=hZ (by
      constructor
      ·rw [txtL_next false l ks i y (uZ HY),←(uZ HTi).1,←uZ HTY]
       unfold headT
       simp [uZ HI0,ByteArray.data_append,List.append_assoc]
      ·have h1:=(uZ HTi).2
       simp only [ByteArray.size_append]
       show t.size+2+ty.size≤_
       rw [hyw]
       omega)
     clear b3 hty hsz CC e0 e1 e2 e3 e4 hyw hyl hWW
     go_wp2_with fail
     go_roundw
     case rel=>exact⟨i+1,_,uZ HI1,rfl,by go_num,HN1,HX3⟩
     case measure=>have:=uZ HI1;simp [intOf];omega
   ·have i1:¬(i:Int)<(ln:Int):=by omega
    have hz1:¬9223372036854775807<1+t.size:=by omega
    have hz2:¬9223372036854775807<1+t.size+1:=by omega
    have HFN:Hid (t.data.toList=txtL false l ks true∧t.size≤32 * (wtL l)∧Below g w wr):=hZ (by
     obtain⟨h1,h2⟩:=uZ HTi
     have hle:l.length≤i:=by have:=(uZ HL).2;omega
     rw [List.take_of_length_le hle] at h1 h2
     exact⟨h1,h2,(uZ HT wr (uZ HX)).2.2.2⟩)
    go_wp2_with fail
    go_ret
    obtain⟨h1,h2,h3⟩:=uZ HFN
    refine⟨_,rfl,?_,?_,by first|exact h3|(rw [hg];exact h3)⟩
    ·simp [txt,oneT,ByteArray.data_append,h1,k0,k1,k2,k3,k5]
    ·have hWW:=uZ HW
     simp only [ByteArray.size_append,wt]
     show 1+t.size+1+2≤_
     omega
theorem text_any:∀b,TextAt b
 |0=>text_zero
 |b+1=>text_step b (text_any b)
end Go.Proofs.YtlkeaaopdnnceaaGreatDoor
