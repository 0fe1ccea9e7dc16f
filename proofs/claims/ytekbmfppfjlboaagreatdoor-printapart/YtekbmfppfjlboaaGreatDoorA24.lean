/-
  The walks of value's write and writeElements; conditions: what a right value is, the table of strconv as the program's text lays it.
-/
import Derived.Test.YtekbmfppfjlboaaGreatDoorA23
import Derived.Test.YtekbmfppfjlboaaGreatDoorA05
import Derived.Lib.AppendIntMem
set_option linter.unusedVariables false
set_option linter.unusedSimpArgs false
namespace Go.Proofs.YtekbmfppfjlboaaGreatDoor
open Go.RowKit
set_option linter.unusedVariables false
set_option linter.unusedSimpArgs false
def PowAt (w:World):Prop:=Lib.TabIs Tryz.prog w "internal/strconv.uint64pow10" .u64 Lib.pow10Tab
theorem gPow:Tryz.prog.globalNamed "internal/strconv.uint64pow10"=some 0:=by kernel_rfl
theorem PowAt.later {w w':World} {B:Nat} (h:PowAt w) (hb:Below B w w') (hB:0<B):PowAt w':=by
 unfold PowAt Lib.TabIs World.var? at *
 rw [gPow] at h ⊢
 have e:=hb.block 0 hB
 simp only [Option.bind_eq_bind,Option.bind_some] at h ⊢
 rw [e]
 exact h
theorem Wr.box {w w':World} {B b g:Nat} {l:List UInt8} {c:Array Value} (h:Wr B b l w w') (hg:w.heap[g]?=some (.cells c 26 (0,0))) (hn:g≠b):w'.heap[g]?=some (.cells c 26 (0,0)):=
 h.kept g _ hg (fun e=>hn (Option.some.inj e)) (fun c' fz e=>by cases e)
def WriteAt (d:Nat):Prop:=∀(v:Vl) (x:Value) (B b:Nat) (l:List UInt8) (w:World),okB d v=true→wt v≤2048→IsV w B v x→B≤w.heap.size→0<B→PowAt w→Bd w B b l→l.length+32 * wt v≤549755813888 →
  Calls Tryz.prog 78 #[.pointer (some ⟨b,0,none⟩),x] w fun e w'=>e=.returned (.tuple #[])∧(txt v).length+2≤32 * wt v∧Wr B b (l++txt v) w w'
set_option maxRecDepth 100000 in
set_option maxHeartbeats 4000000 in
theorem elems4 (d:Nat) (ih:WriteAt d) (n:Int) (s:ByteArray) (lv:List Vl) (ks:List ByteArray) (x:Value) (B b:Nat) (l:List UInt8) (w:World) (hok:okL d lv=true) (hwt:1+s.size+keysW ks+wtL lv≤2048) (hv:IsV w B (.mk 4 n s lv ks) x) (hBs:B≤w.heap.size) (hG:0<B) (hP:PowAt w) (hbd:Bd w B b l) (hl:l.length+32 * (keysW ks+wtL lv)+4≤549755813888) :
  Calls Tryz.prog 114 #[.pointer (some ⟨b,0,none⟩),x] w fun e w'=>e=.returned (.tuple #[])∧(txtL false lv ks true).length≤32 * (wtL lv)∧Wr B b (l++txtL false lv ks true) w w':=by
 obtain⟨_,_,_,_,_,al,ak,cl,ck,hvv,rfl⟩:=hv.shape
 cases hvv
 obtain⟨m,hm⟩:∃m,ks.length=m:=⟨_,rfl⟩
 obtain⟨ln,hln⟩:∃ln,lv.length=ln:=⟨_,rfl⟩
 rw [hm,hln] at hv
 rw [hm,hln]
 have hblt:b<w.heap.size:=by rcases hbd with h|h <;> exact h.lt
 obtain⟨g,hg⟩:∃g,w.heap.size=g:=⟨_,rfl⟩
 have BX:=Box.mk' w (.int .i64 4) (.int .i64 n) (.string s) (.slice al ln cl) (.slice ak m ck)
 obtain⟨w1,hw1⟩:∃w1,w.alloc (.cells #[.int .i64 4,.int .i64 n,.string s,.slice al ln cl,.slice ak m ck] 26)=w1:=⟨_,rfl⟩
 rw [hw1] at BX
 have at0:=BX.row
 rw [hg] at at0
 have zb:g<w1.heap.size:=by have:=BX.size;omega
 have W1:Wr B b l w w1:=(Wr.start hbd).more BX.below hBs
 have hB1:B≤w1.heap.size:=W1.size hBs
 have HGB:Hid (g≠b∧b<g∧B≤g):=hide (by omega)
 have HT:Hid (∀u l',Wr B b l' w1 u→u.heap[g]?=some (.cells #[.int .i64 4,.int .i64 n,.string s,.slice al ln cl,.slice ak m ck] 26 (0,0))∧IsV u B (.mk 4 n s lv ks) (.agg #[.int .i64 4,.int .i64 n,.string s,.slice al ln cl,.slice ak m ck])∧B≤u.heap.size∧PowAt u∧Wr B b l' w u∧g<u.heap.size):=hide (fun u l' hu=>by
  have h1:Wr B b l' w u:=W1.trans hu
  have h2:=hu.box at0 (by omega)
  exact⟨h2,hv.mono h1.below,h1.size hBs,hP.later h1.below hG,h1,(Array.getElem?_eq_some_iff.1 h2).1⟩)
 obtain⟨c0,c1,c2,c3,c4⟩:=row_cell at0
 have HL:=hide (And.intro hm hln)
 have HO:=hide hok
 have HW:=hide hwt
 have HS:Hid (Wr B b l w1 w1):=hide (Wr.start W1.bd)
 have HLL:=hide hl
 have HGG:=hide hG
 have hlb:ln≤140737488351232:=by
  obtain⟨_,_,_,_,_,V,hf,_⟩:=IsP.at hv
  have h1:=hf.bl
  omega
 clear BX hv hm hln at0 hok hwt hbd W1 hl hP hBs hblt
 go_enter Tryz.func114,Tryz.ntmps114
 go_wp2_with fail
 clear c0 c1 c2 c3 c4
 go_loopw [9] (fun z wr=>∃(i:Nat),i≤ln∧z=.int .i64 i∧Hid ((txtL false (lv.take i) ks true).length≤32 * (wtL (lv.take i))∧Wr B b (l++txtL false (lv.take i) ks true) w1 wr)) (fun z _=>ln - (intOf z).toNat)
 case atStart=>exact⟨0,Nat.zero_le _,rfl,hide ⟨by simp [txtL],by simpa [txtL] using unhide HS⟩⟩
 case round=>
  obtain⟨i,hi,rfl,HX⟩:=hrel
  obtain⟨h1,hV,hBw,hPw,hWw,hgw⟩:=unhide HT wr _ (unhide HX).2
  have HBW:=hide hBw
  obtain⟨c0,c1,c2,c3,c4⟩:=row_cell h1
  by_cases hlt:i<ln
  ·have i1:(i:Int)<(ln:Int):=by omega
   have i0:(0:Int)≤(i:Int):=by omega
   have HI1:Hid (i+1≤ln):=hide (by omega)
   obtain⟨y,hy⟩:∃y,lv[i]?=some y:=⟨_,List.getElem?_eq_getElem (by have:=(unhide HL).2;omega)⟩
   have HY:=hide hy
   have hyw:wt y≤2048:=by
    have h1:=wtL_take1 lv i y hy
    have h2:=wtL_take_le2 lv (i+1)
    have h3:=unhide HW
    omega
   have hyo:okB d y=true:=okL_at d lv i y (unhide HO) hy
   have CT:Hid (∀u x l',IsV u B y x→B≤u.heap.size→PowAt u→Bd u B b l'→l'.length+32 * wt y≤549755813888→_):=hide (fun u x l' (h1:IsV u B y x) (h2:B≤u.heap.size) (h3:PowAt u) (h4:Bd u B b l') (h5:l'.length+32 * wt y≤549755813888)=>ih y x B b l' u hyo hyw h1 h2 (unhide HGG) h3 h4 h5)
   have HLN:Hid ((l++txtL false (lv.take i) ks true).length≤l.length+32 * (keysW (ks.take i)+wtL (lv.take i))∧l.length+32 * (keysW ks+wtL lv)+4≤549755813888∧keysW (ks.take i)≤keysW ks∧wtL (lv.take i)≤wtL lv∧1+s.size+keysW ks+wtL lv≤2048):=hide (by
    have a1:=(unhide HX).1
    refine⟨?_,unhide HLL,keysW_take_le2 ks i,wtL_take_le2 lv i,unhide HW⟩
    rw [List.length_append]
    omega)
   obtain⟨a,y0,y1,y2,al',ak',ll',m',cl',ck',rfl,hab,hce,hve⟩:=hV.elem i y hy
   have e0:wr.cell? (a.add (i * 5))=some (.int .i64 y0):=hce 0 _ rfl
   have e1:wr.cell? ⟨(a.add (i * 5)).block,(a.add (i * 5)).off+1,none⟩=some (.int .i64 y1):=hce 1 _ rfl
   have e2:wr.cell? ⟨(a.add (i * 5)).block,(a.add (i * 5)).off+2,none⟩=some (.string y2):=hce 2 _ rfl
   have e3:wr.cell? ⟨(a.add (i * 5)).block,(a.add (i * 5)).off+3,none⟩=some (.slice al' ll' cl'):=hce 3 _ rfl
   have e4:wr.cell? ⟨(a.add (i * 5)).block,(a.add (i * 5)).off+4,none⟩=some (.slice ak' m' ck'):=hce 4 _ rfl
   have BY:=Box.mk' wr (.int .i64 y0) (.int .i64 y1) (.string y2) (.slice al' ll' cl') (.slice ak' m' ck')
   obtain⟨wa,hwa⟩:∃wa,wr.alloc (.cells #[.int .i64 y0,.int .i64 y1,.string y2,.slice al' ll' cl',.slice ak' m' ck'] 26)=wa:=⟨_,rfl⟩
   rw [hwa] at BY
   obtain⟨q,hq⟩:∃q,wr.heap.size=q:=⟨_,rfl⟩
   have atq:=BY.row
   rw [hq] at atq
   have HA:Hid (Wr B b (l++txtL false (lv.take i) ks true) w1 wa∧wa.heap[q]?=some (.cells #[.int .i64 y0,.int .i64 y1,.string y2,.slice al' ll' cl',.slice ak' m' ck'] 26 (0,0))∧q≠b∧IsV wa B y (.agg #[.int .i64 y0,.int .i64 y1,.string y2,.slice al' ll' cl',.slice ak' m' ck'])):=hide ⟨(unhide HX).2.more BY.below (unhide HBW),atq,by have:=unhide HGB;omega,hve.mono (BY.below.mono (unhide HBW))⟩
   have HE:Hid (∀u l',Wr B b l' wa u→u.heap[q]?=some (.cells #[.int .i64 y0,.int .i64 y1,.string y2,.slice al' ll' cl',.slice ak' m' ck'] 26 (0,0))∧IsV u B y (.agg #[.int .i64 y0,.int .i64 y1,.string y2,.slice al' ll' cl',.slice ak' m' ck'])∧Wr B b l' w1 u∧q<u.heap.size):=hide (fun u l' hu=>by
    have h2:=hu.box (unhide HA).2.1 (unhide HA).2.2.1
    exact⟨h2,(unhide HA).2.2.2.mono hu.below,(unhide HA).1.trans hu,(Array.getElem?_eq_some_iff.1 h2).1⟩)
   have SA:Wr B b (l++txtL false (lv.take i) ks true) wa wa:=Wr.start (unhide HA).1.bd
   have HSA:=hide SA
   have hqa:=(unhide HE wa _ SA).2.2.2
   clear hce hve hab BY atq SA hV hPw hWw hy hyo hyw
   by_cases hi0:i=0
   ·have j0:¬(0:Int)<(i:Int):=by omega
    have HI0:=hide hi0
    clear hi0
    go_upto_region 4 with fail
    try rw [hq]
    try rw [hwa]
    try rw [hq]
    clear c0 c1 c2 c3 c4 e0 e1 e2 e3 e4 h1 hgw
    obtain⟨hbx,hV,hBw,hPw,hWw,hgw⟩:=unhide HT wa _ (unhide HE wa _ (unhide HSA)).2.2.1
    obtain⟨c0,c1,c2,c3,c4⟩:=row_cell hbx
    obtain⟨hqx,hvy,_,hqs⟩:=unhide HE wa _ (unhide HSA)
    obtain⟨e0,e1,e2,e3,e4⟩:=row_cell hqx
    have C4:=hide (unhide CT wa _ _ hvy hBw hPw (unhide HSA).bd (by have:=unhide HLN;have a1:=wtL_take1 lv i y (unhide HY);have a2:=wtL_take_le2 lv (i+1);omega))
    go_wp2_with fail
    refine(unhide C4).mono ?_
    rintro e u4 ⟨rfl,hty,k4⟩
    have HX4:=hide ((unhide HA).1.trans ((unhide HSA).trans k4))
    have HTY:=hide hty
    clear k4 C4 hty
    clear c0 c1 c2 c3 c4 e0 e1 e2 e3 e4 hbx hV hBw hPw hWw hgw hqx hvy hqs
    have HN1:Hid ((txtL false (lv.take (i+1)) ks true).length≤32 * (wtL (lv.take (i+1)))∧Wr B b (l++txtL false (lv.take (i+1)) ks true) w1 u4):=hide (by
     have h4:=unhide HX4
     rw [txtL_next false lv ks i y (unhide HY)]
     unfold headT
     constructor
     ·have a0:=(unhide HX).1
      have a1:=wtL_take1 lv i y (unhide HY)
      have a3:=unhide HTY
      rw [a1]
      have hi0:=unhide HI0
      subst hi0
      simp at a0 a1 ⊢
      omega
     ·simpa [unhide HI0,List.append_assoc] using h4)
    clear HX4
    go_wp2_with fail
    go_roundw
    case rel=>exact⟨i+1,unhide HI1,by go_num,HN1⟩
    case measure=>have:=unhide HI1;simp [intOf];omega
   ·have j0:(0:Int)<(i:Int):=by omega
    have HI0:=hide hi0
    clear hi0
    go_upto_region 4 with fail
    try rw [hq]
    try rw [hwa]
    try rw [hq]
    clear c0 c1 c2 c3 c4 e0 e1 e2 e3 e4 h1 hgw
    obtain⟨hbx,hV,hBw,hPw,hWw,hgw⟩:=unhide HT wa _ (unhide HE wa _ (unhide HSA)).2.2.1
    obtain⟨c0,c1,c2,c3,c4⟩:=row_cell hbx
    obtain⟨hqx,hvy,_,hqs⟩:=unhide HE wa _ (unhide HSA)
    obtain⟨e0,e1,e2,e3,e4⟩:=row_cell hqx
    have C1:=hide (wstr_any B b _ ⟨#[44,32]⟩ wa (unhide HSA).bd (by have:=unhide HLN;show _+2≤_;omega) hBw)
    go_wp2_with fail
    refine(unhide C1).mono ?_
    rintro e u1 ⟨rfl,k1⟩
    have HX1:=hide ((unhide HSA).trans k1)
    clear k1 C1
    clear c0 c1 c2 c3 c4 e0 e1 e2 e3 e4 hbx hV hBw hPw hWw hgw hqx hvy hqs
    obtain⟨hbx,hV,hBw,hPw,hWw,hgw⟩:=unhide HT u1 _ (unhide HE u1 _ (unhide HX1)).2.2.1
    obtain⟨c0,c1,c2,c3,c4⟩:=row_cell hbx
    obtain⟨hqx,hvy,_,hqs⟩:=unhide HE u1 _ (unhide HX1)
    obtain⟨e0,e1,e2,e3,e4⟩:=row_cell hqx
    have C4:=hide (unhide CT u1 _ _ hvy hBw hPw (unhide HX1).bd (by have:=unhide HLN;have a1:=wtL_take1 lv i y (unhide HY);have a2:=wtL_take_le2 lv (i+1);rw [List.length_append];show _+2+_≤_;omega))
    go_wp2_with fail
    refine(unhide C4).mono ?_
    rintro e u4 ⟨rfl,hty,k4⟩
    have HX4:=hide ((unhide HA).1.trans ((unhide HX1).trans k4))
    have HTY:=hide hty
    clear k4 C4 hty
    clear c0 c1 c2 c3 c4 e0 e1 e2 e3 e4 hbx hV hBw hPw hWw hgw hqx hvy hqs
    have HN1:Hid ((txtL false (lv.take (i+1)) ks true).length≤32 * (wtL (lv.take (i+1)))∧Wr B b (l++txtL false (lv.take (i+1)) ks true) w1 u4):=hide (by
     have h4:=unhide HX4
     rw [txtL_next false lv ks i y (unhide HY)]
     unfold headT
     constructor
     ·have a0:=(unhide HX).1
      have a1:=wtL_take1 lv i y (unhide HY)
      have a3:=unhide HTY
      rw [a1]
      simp [unhide HI0]
      omega
     ·simpa [unhide HI0,List.append_assoc] using h4)
    clear HX4
    go_wp2_with fail
    go_roundw
    case rel=>exact⟨i+1,unhide HI1,by go_num,HN1⟩
    case measure=>have:=unhide HI1;simp [intOf];omega
  ·have i1:¬(i:Int)<(ln:Int):=by omega
   have HFN:Hid ((txtL false lv ks true).length≤32 * (wtL lv)∧Wr B b (l++txtL false lv ks true) w wr):=hide (by
    obtain⟨a1,a2⟩:=unhide HX
    have hle:lv.length≤i:=by have:=(unhide HL).2;omega
    rw [List.take_of_length_le hle] at a1 a2
    exact⟨a1,(unhide HT wr _ a2).2.2.2.2.1⟩)
   go_wp2_with fail
   go_end0
   exact⟨rfl,unhide HFN⟩
set_option maxRecDepth 100000 in
set_option maxHeartbeats 4000000 in
theorem elems5 (d:Nat) (ih:WriteAt d) (n:Int) (s:ByteArray) (lv:List Vl) (ks:List ByteArray) (x:Value) (B b:Nat) (l:List UInt8) (w:World) (hok:okL d lv=true) (hkl:ks.length=lv.length) (hwt:1+s.size+keysW ks+wtL lv≤2048) (hv:IsV w B (.mk 5 n s lv ks) x) (hBs:B≤w.heap.size) (hG:0<B) (hP:PowAt w) (hbd:Bd w B b l) (hl:l.length+32 * (keysW ks+wtL lv)+4≤549755813888) :
  Calls Tryz.prog 114 #[.pointer (some ⟨b,0,none⟩),x] w fun e w'=>e=.returned (.tuple #[])∧(txtL true lv ks true).length≤32 * (keysW ks+wtL lv)∧Wr B b (l++txtL true lv ks true) w w':=by
 obtain⟨_,_,_,_,_,al,ak,cl,ck,hvv,rfl⟩:=hv.shape
 cases hvv
 obtain⟨m,hm⟩:∃m,ks.length=m:=⟨_,rfl⟩
 obtain⟨ln,hln⟩:∃ln,lv.length=ln:=⟨_,rfl⟩
 rw [hm,hln] at hv
 rw [hm,hln]
 have hblt:b<w.heap.size:=by rcases hbd with h|h <;> exact h.lt
 obtain⟨g,hg⟩:∃g,w.heap.size=g:=⟨_,rfl⟩
 have BX:=Box.mk' w (.int .i64 5) (.int .i64 n) (.string s) (.slice al ln cl) (.slice ak m ck)
 obtain⟨w1,hw1⟩:∃w1,w.alloc (.cells #[.int .i64 5,.int .i64 n,.string s,.slice al ln cl,.slice ak m ck] 26)=w1:=⟨_,rfl⟩
 rw [hw1] at BX
 have at0:=BX.row
 rw [hg] at at0
 have zb:g<w1.heap.size:=by have:=BX.size;omega
 have W1:Wr B b l w w1:=(Wr.start hbd).more BX.below hBs
 have hB1:B≤w1.heap.size:=W1.size hBs
 have HGB:Hid (g≠b∧b<g∧B≤g):=hide (by omega)
 have HT:Hid (∀u l',Wr B b l' w1 u→u.heap[g]?=some (.cells #[.int .i64 5,.int .i64 n,.string s,.slice al ln cl,.slice ak m ck] 26 (0,0))∧IsV u B (.mk 5 n s lv ks) (.agg #[.int .i64 5,.int .i64 n,.string s,.slice al ln cl,.slice ak m ck])∧B≤u.heap.size∧PowAt u∧Wr B b l' w u∧g<u.heap.size):=hide (fun u l' hu=>by
  have h1:Wr B b l' w u:=W1.trans hu
  have h2:=hu.box at0 (by omega)
  exact⟨h2,hv.mono h1.below,h1.size hBs,hP.later h1.below hG,h1,(Array.getElem?_eq_some_iff.1 h2).1⟩)
 obtain⟨c0,c1,c2,c3,c4⟩:=row_cell at0
 have HL:=hide (And.intro hm hln)
 have HO:=hide hok
 have HW:=hide hwt
 have HS:Hid (Wr B b l w1 w1):=hide (Wr.start W1.bd)
 have HLL:=hide hl
 have HGG:=hide hG
 have HLM:Hid (ln=m):=hide (by omega)
 have hlb:ln≤140737488351232:=by
  obtain⟨_,_,_,_,_,V,hf,_⟩:=IsP.at hv
  have h1:=hf.bl
  omega
 clear BX hv hm hln at0 hok hwt hbd W1 hl hP hBs hblt hkl
 go_enter Tryz.func114,Tryz.ntmps114
 go_wp2_with fail
 clear c0 c1 c2 c3 c4
 go_loopw [9] (fun z wr=>∃(i:Nat),i≤ln∧z=.int .i64 i∧Hid ((txtL true (lv.take i) ks true).length≤32 * (keysW (ks.take i)+wtL (lv.take i))∧Wr B b (l++txtL true (lv.take i) ks true) w1 wr)) (fun z _=>ln - (intOf z).toNat)
 case atStart=>exact⟨0,Nat.zero_le _,rfl,hide ⟨by simp [txtL],by simpa [txtL] using unhide HS⟩⟩
 case round=>
  obtain⟨i,hi,rfl,HX⟩:=hrel
  obtain⟨h1,hV,hBw,hPw,hWw,hgw⟩:=unhide HT wr _ (unhide HX).2
  have HBW:=hide hBw
  obtain⟨c0,c1,c2,c3,c4⟩:=row_cell h1
  by_cases hlt:i<ln
  ·have i1:(i:Int)<(ln:Int):=by omega
   have i0:(0:Int)≤(i:Int):=by omega
   have HI1:Hid (i+1≤ln):=hide (by omega)
   obtain⟨y,hy⟩:∃y,lv[i]?=some y:=⟨_,List.getElem?_eq_getElem (by have:=(unhide HL).2;omega)⟩
   have HY:=hide hy
   have hyw:wt y≤2048:=by
    have h1:=wtL_take1 lv i y hy
    have h2:=wtL_take_le2 lv (i+1)
    have h3:=unhide HW
    omega
   have hyo:okB d y=true:=okL_at d lv i y (unhide HO) hy
   have CT:Hid (∀u x l',IsV u B y x→B≤u.heap.size→PowAt u→Bd u B b l'→l'.length+32 * wt y≤549755813888→_):=hide (fun u x l' (h1:IsV u B y x) (h2:B≤u.heap.size) (h3:PowAt u) (h4:Bd u B b l') (h5:l'.length+32 * wt y≤549755813888)=>ih y x B b l' u hyo hyw h1 h2 (unhide HGG) h3 h4 h5)
   have HLN:Hid ((l++txtL true (lv.take i) ks true).length≤l.length+32 * (keysW (ks.take i)+wtL (lv.take i))∧l.length+32 * (keysW ks+wtL lv)+4≤549755813888∧keysW (ks.take i)≤keysW ks∧wtL (lv.take i)≤wtL lv∧1+s.size+keysW ks+wtL lv≤2048):=hide (by
    have a1:=(unhide HX).1
    refine⟨?_,unhide HLL,keysW_take_le2 ks i,wtL_take_le2 lv i,unhide HW⟩
    rw [List.length_append]
    omega)
   obtain⟨tk,htk⟩:∃tk,ks[i]?=some tk:=⟨_,List.getElem?_eq_getElem (by have:=(unhide HL).1;have:=unhide HLM;omega)⟩
   obtain⟨a2,rfl⟩:∃a2,ak=some a2:=by
    cases ak with
    |none=>have h1:=hV.keys.1.none rfl;have h2:=(unhide HL).1;have:=unhide HLM;omega
    |some a2=>exact⟨a2,rfl⟩
   have j2:(i:Int)<(m:Int):=by have:=unhide HLM;omega
   have hkw:=keysW_take1 ks i tk htk
   have hkb:tk.size≤2048:=by have h1:=unhide HW;have h2:=keysW_take_le2 ks (i+1);omega
   have HTK:=hide (And.intro htk (And.intro hkw hkb))
   clear htk hkw hkb
   obtain⟨a,y0,y1,y2,al',ak',ll',m',cl',ck',rfl,hab,hce,hve⟩:=hV.elem i y hy
   have e0:wr.cell? (a.add (i * 5))=some (.int .i64 y0):=hce 0 _ rfl
   have e1:wr.cell? ⟨(a.add (i * 5)).block,(a.add (i * 5)).off+1,none⟩=some (.int .i64 y1):=hce 1 _ rfl
   have e2:wr.cell? ⟨(a.add (i * 5)).block,(a.add (i * 5)).off+2,none⟩=some (.string y2):=hce 2 _ rfl
   have e3:wr.cell? ⟨(a.add (i * 5)).block,(a.add (i * 5)).off+3,none⟩=some (.slice al' ll' cl'):=hce 3 _ rfl
   have e4:wr.cell? ⟨(a.add (i * 5)).block,(a.add (i * 5)).off+4,none⟩=some (.slice ak' m' ck'):=hce 4 _ rfl
   have BY:=Box.mk' wr (.int .i64 y0) (.int .i64 y1) (.string y2) (.slice al' ll' cl') (.slice ak' m' ck')
   obtain⟨wa,hwa⟩:∃wa,wr.alloc (.cells #[.int .i64 y0,.int .i64 y1,.string y2,.slice al' ll' cl',.slice ak' m' ck'] 26)=wa:=⟨_,rfl⟩
   rw [hwa] at BY
   obtain⟨q,hq⟩:∃q,wr.heap.size=q:=⟨_,rfl⟩
   have atq:=BY.row
   rw [hq] at atq
   have HA:Hid (Wr B b (l++txtL true (lv.take i) ks true) w1 wa∧wa.heap[q]?=some (.cells #[.int .i64 y0,.int .i64 y1,.string y2,.slice al' ll' cl',.slice ak' m' ck'] 26 (0,0))∧q≠b∧IsV wa B y (.agg #[.int .i64 y0,.int .i64 y1,.string y2,.slice al' ll' cl',.slice ak' m' ck'])):=hide ⟨(unhide HX).2.more BY.below (unhide HBW),atq,by have:=unhide HGB;omega,hve.mono (BY.below.mono (unhide HBW))⟩
   have HE:Hid (∀u l',Wr B b l' wa u→u.heap[q]?=some (.cells #[.int .i64 y0,.int .i64 y1,.string y2,.slice al' ll' cl',.slice ak' m' ck'] 26 (0,0))∧IsV u B y (.agg #[.int .i64 y0,.int .i64 y1,.string y2,.slice al' ll' cl',.slice ak' m' ck'])∧Wr B b l' w1 u∧q<u.heap.size):=hide (fun u l' hu=>by
    have h2:=hu.box (unhide HA).2.1 (unhide HA).2.2.1
    exact⟨h2,(unhide HA).2.2.2.mono hu.below,(unhide HA).1.trans hu,(Array.getElem?_eq_some_iff.1 h2).1⟩)
   have SA:Wr B b (l++txtL true (lv.take i) ks true) wa wa:=Wr.start (unhide HA).1.bd
   have HSA:=hide SA
   have hqa:=(unhide HE wa _ SA).2.2.2
   clear hce hve hab BY atq SA hV hPw hWw hy hyo hyw
   by_cases hi0:i=0
   ·have j0:¬(0:Int)<(i:Int):=by omega
    have HI0:=hide hi0
    clear hi0
    go_upto_region 4 with fail
    try rw [hq]
    try rw [hwa]
    try rw [hq]
    clear c0 c1 c2 c3 c4 e0 e1 e2 e3 e4 h1 hgw
    obtain⟨hbx,hV,hBw,hPw,hWw,hgw⟩:=unhide HT wa _ (unhide HE wa _ (unhide HSA)).2.2.1
    obtain⟨c0,c1,c2,c3,c4⟩:=row_cell hbx
    obtain⟨hqx,hvy,_,hqs⟩:=unhide HE wa _ (unhide HSA)
    obtain⟨e0,e1,e2,e3,e4⟩:=row_cell hqx
    have cK:=hV.keys.1.cell a2 rfl i tk (unhide HTK).1
    have C2:=hide (quote_any B b _ tk wa (unhide HSA).bd (by have:=unhide HLN;have:=(unhide HTK).2.2;omega) hBw)
    go_wp2_with fail
    refine(unhide C2).mono ?_
    rintro e u2 ⟨rfl,k2⟩
    have HX2:=hide ((unhide HSA).trans k2)
    clear k2 C2 cK
    clear c0 c1 c2 c3 c4 e0 e1 e2 e3 e4 hbx hV hBw hPw hWw hgw hqx hvy hqs
    obtain⟨hbx,hV,hBw,hPw,hWw,hgw⟩:=unhide HT u2 _ (unhide HE u2 _ (unhide HX2)).2.2.1
    obtain⟨c0,c1,c2,c3,c4⟩:=row_cell hbx
    obtain⟨hqx,hvy,_,hqs⟩:=unhide HE u2 _ (unhide HX2)
    obtain⟨e0,e1,e2,e3,e4⟩:=row_cell hqx
    have C3:=hide (wstr_any B b _ ⟨#[58,32]⟩ u2 (unhide HX2).bd (by have:=unhide HLN;have:=(unhide HTK).2.2;have:=quoteU_len tk;rw [List.length_append];show _+_+2≤_;omega) hBw)
    go_wp2_with fail
    refine(unhide C3).mono ?_
    rintro e u3 ⟨rfl,k3⟩
    have HX3:=hide ((unhide HX2).trans k3)
    clear k3 C3
    clear c0 c1 c2 c3 c4 e0 e1 e2 e3 e4 hbx hV hBw hPw hWw hgw hqx hvy hqs
    obtain⟨hbx,hV,hBw,hPw,hWw,hgw⟩:=unhide HT u3 _ (unhide HE u3 _ (unhide HX3)).2.2.1
    obtain⟨c0,c1,c2,c3,c4⟩:=row_cell hbx
    obtain⟨hqx,hvy,_,hqs⟩:=unhide HE u3 _ (unhide HX3)
    obtain⟨e0,e1,e2,e3,e4⟩:=row_cell hqx
    have C4:=hide (unhide CT u3 _ _ hvy hBw hPw (unhide HX3).bd (by have:=unhide HLN;have a1:=wtL_take1 lv i y (unhide HY);have a2:=wtL_take_le2 lv (i+1);have:=(unhide HTK).2;have:=quoteU_len tk;have:=keysW_take_le2 ks (i+1);rw [List.length_append,List.length_append];show _+_+2+_≤_;omega))
    go_wp2_with fail
    refine(unhide C4).mono ?_
    rintro e u4 ⟨rfl,hty,k4⟩
    have HX4:=hide ((unhide HA).1.trans ((unhide HX3).trans k4))
    have HTY:=hide hty
    clear k4 C4 hty
    clear c0 c1 c2 c3 c4 e0 e1 e2 e3 e4 hbx hV hBw hPw hWw hgw hqx hvy hqs
    have HN1:Hid ((txtL true (lv.take (i+1)) ks true).length≤32 * (keysW (ks.take (i+1))+wtL (lv.take (i+1)))∧Wr B b (l++txtL true (lv.take (i+1)) ks true) w1 u4):=hide (by
     have h4:=unhide HX4
     rw [txtL_next true lv ks i y (unhide HY)]
     unfold headT
     have hd:(ks.drop i).headD ⟨#[]⟩=tk:=by rw [List.headD_eq_head?_getD,List.head?_drop,(unhide HTK).1];rfl
     rw [hd]
     constructor
     ·have a0:=(unhide HX).1
      have a1:=wtL_take1 lv i y (unhide HY)
      have a3:=unhide HTY
      have a4:=quoteU_len tk
      have a5:=(unhide HTK).2.1
      rw [a1,a5]
      have hi0:=unhide HI0
      subst hi0
      simp at a0 a1 ⊢
      omega
     ·simpa [unhide HI0,List.append_assoc] using h4)
    clear HX4
    go_wp2_with fail
    go_roundw
    case rel=>exact⟨i+1,unhide HI1,by go_num,HN1⟩
    case measure=>have:=unhide HI1;simp [intOf];omega
   ·have j0:(0:Int)<(i:Int):=by omega
    have HI0:=hide hi0
    clear hi0
    go_upto_region 4 with fail
    try rw [hq]
    try rw [hwa]
    try rw [hq]
    clear c0 c1 c2 c3 c4 e0 e1 e2 e3 e4 h1 hgw
    obtain⟨hbx,hV,hBw,hPw,hWw,hgw⟩:=unhide HT wa _ (unhide HE wa _ (unhide HSA)).2.2.1
    obtain⟨c0,c1,c2,c3,c4⟩:=row_cell hbx
    obtain⟨hqx,hvy,_,hqs⟩:=unhide HE wa _ (unhide HSA)
    obtain⟨e0,e1,e2,e3,e4⟩:=row_cell hqx
    have C1:=hide (wstr_any B b _ ⟨#[44,32]⟩ wa (unhide HSA).bd (by have:=unhide HLN;show _+2≤_;omega) hBw)
    go_wp2_with fail
    refine(unhide C1).mono ?_
    rintro e u1 ⟨rfl,k1⟩
    have HX1:=hide ((unhide HSA).trans k1)
    clear k1 C1
    clear c0 c1 c2 c3 c4 e0 e1 e2 e3 e4 hbx hV hBw hPw hWw hgw hqx hvy hqs
    obtain⟨hbx,hV,hBw,hPw,hWw,hgw⟩:=unhide HT u1 _ (unhide HE u1 _ (unhide HX1)).2.2.1
    obtain⟨c0,c1,c2,c3,c4⟩:=row_cell hbx
    obtain⟨hqx,hvy,_,hqs⟩:=unhide HE u1 _ (unhide HX1)
    obtain⟨e0,e1,e2,e3,e4⟩:=row_cell hqx
    have cK:=hV.keys.1.cell a2 rfl i tk (unhide HTK).1
    have C2:=hide (quote_any B b _ tk u1 (unhide HX1).bd (by have:=unhide HLN;have:=(unhide HTK).2.2;rw [List.length_append];show _+2+8 * tk.size+8≤_;omega) hBw)
    go_wp2_with fail
    refine(unhide C2).mono ?_
    rintro e u2 ⟨rfl,k2⟩
    have HX2:=hide ((unhide HX1).trans k2)
    clear k2 C2 cK
    clear c0 c1 c2 c3 c4 e0 e1 e2 e3 e4 hbx hV hBw hPw hWw hgw hqx hvy hqs
    obtain⟨hbx,hV,hBw,hPw,hWw,hgw⟩:=unhide HT u2 _ (unhide HE u2 _ (unhide HX2)).2.2.1
    obtain⟨c0,c1,c2,c3,c4⟩:=row_cell hbx
    obtain⟨hqx,hvy,_,hqs⟩:=unhide HE u2 _ (unhide HX2)
    obtain⟨e0,e1,e2,e3,e4⟩:=row_cell hqx
    have C3:=hide (wstr_any B b _ ⟨#[58,32]⟩ u2 (unhide HX2).bd (by have:=unhide HLN;have:=(unhide HTK).2.2;have:=quoteU_len tk;rw [List.length_append,List.length_append];show _+2+_+2≤_;omega) hBw)
    go_wp2_with fail
    refine(unhide C3).mono ?_
    rintro e u3 ⟨rfl,k3⟩
    have HX3:=hide ((unhide HX2).trans k3)
    clear k3 C3
    clear c0 c1 c2 c3 c4 e0 e1 e2 e3 e4 hbx hV hBw hPw hWw hgw hqx hvy hqs
    obtain⟨hbx,hV,hBw,hPw,hWw,hgw⟩:=unhide HT u3 _ (unhide HE u3 _ (unhide HX3)).2.2.1
    obtain⟨c0,c1,c2,c3,c4⟩:=row_cell hbx
    obtain⟨hqx,hvy,_,hqs⟩:=unhide HE u3 _ (unhide HX3)
    obtain⟨e0,e1,e2,e3,e4⟩:=row_cell hqx
    have C4:=hide (unhide CT u3 _ _ hvy hBw hPw (unhide HX3).bd (by have:=unhide HLN;have a1:=wtL_take1 lv i y (unhide HY);have a2:=wtL_take_le2 lv (i+1);have:=(unhide HTK).2;have:=quoteU_len tk;have:=keysW_take_le2 ks (i+1);rw [List.length_append,List.length_append,List.length_append];show _+2+_+2+_≤_;omega))
    go_wp2_with fail
    refine(unhide C4).mono ?_
    rintro e u4 ⟨rfl,hty,k4⟩
    have HX4:=hide ((unhide HA).1.trans ((unhide HX3).trans k4))
    have HTY:=hide hty
    clear k4 C4 hty
    clear c0 c1 c2 c3 c4 e0 e1 e2 e3 e4 hbx hV hBw hPw hWw hgw hqx hvy hqs
    have HN1:Hid ((txtL true (lv.take (i+1)) ks true).length≤32 * (keysW (ks.take (i+1))+wtL (lv.take (i+1)))∧Wr B b (l++txtL true (lv.take (i+1)) ks true) w1 u4):=hide (by
     have h4:=unhide HX4
     rw [txtL_next true lv ks i y (unhide HY)]
     unfold headT
     have hd:(ks.drop i).headD ⟨#[]⟩=tk:=by rw [List.headD_eq_head?_getD,List.head?_drop,(unhide HTK).1];rfl
     rw [hd]
     constructor
     ·have a0:=(unhide HX).1
      have a1:=wtL_take1 lv i y (unhide HY)
      have a3:=unhide HTY
      have a4:=quoteU_len tk
      have a5:=(unhide HTK).2.1
      rw [a1,a5]
      simp [unhide HI0]
      omega
     ·simpa [unhide HI0,List.append_assoc] using h4)
    clear HX4
    go_wp2_with fail
    go_roundw
    case rel=>exact⟨i+1,unhide HI1,by go_num,HN1⟩
    case measure=>have:=unhide HI1;simp [intOf];omega
  ·have i1:¬(i:Int)<(ln:Int):=by omega
   have HFN:Hid ((txtL true lv ks true).length≤32 * (keysW ks+wtL lv)∧Wr B b (l++txtL true lv ks true) w wr):=hide (by
    obtain⟨a1,a2⟩:=unhide HX
    have hle:lv.length≤i:=by have:=(unhide HL).2;omega
    rw [List.take_of_length_le hle] at a1 a2
    rw [List.take_of_length_le (by have:=(unhide HL).1;have:=unhide HLM;omega)] at a1
    exact⟨a1,(unhide HT wr _ a2).2.2.2.2.1⟩)
   go_wp2_with fail
   go_end0
   exact⟨rfl,unhide HFN⟩
end Go.Proofs.YtekbmfppfjlboaaGreatDoor
