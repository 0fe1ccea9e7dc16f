/-
  The walk of value's write; conditions: what a right value is, the table of strconv as the program's text lays it.
  The walk of the document's plain: are the fields that a kind does not use zero? no conditions but the form's own reach.
  The walk of the document's weighed (it calls itself): a value's weight, above the greatest where it is not right; no conditions but the form's own reach.
-/
import Derived.Test.YtekbmfppfjlboaaGreatDoorA24
import Derived.Test.YtekbmfppfjlboaaGreatDoorA01
import Derived.Test.YtekbmfppfjlboaaGreatDoorA03
import Derived.BigQuiet
set_option linter.unusedVariables false
set_option linter.unusedSimpArgs false
namespace Go.Proofs.YtekbmfppfjlboaaGreatDoor
open Go.RowKit
set_option linter.unusedVariables false
set_option linter.unusedSimpArgs false
theorem bool_true:(Lib.formatBool true)=[116,114,117,101]:=by decide +kernel
theorem bool_false:(Lib.formatBool false)=[102,97,108,115,101]:=by decide +kernel
theorem write_zero:WriteAt 0:=by
 intro v x B b l w h
 cases v
 simp [okB] at h
theorem form_kind {k n:Int} {s:ByteArray} {ll:Nat} {ks:List ByteArray} (h:formB k n s ll ks=true):k=0∨k=1∨k=2∨k=3∨k=4∨(k=5∧ks.length=ll):=by
 by_cases k0:k=0
 ·exact .inl k0
 by_cases k1:k=1
 ·exact .inr (.inl k1)
 by_cases k2:k=2
 ·exact .inr (.inr (.inl k2))
 by_cases k3:k=3
 ·exact .inr (.inr (.inr (.inl k3)))
 by_cases k4:k=4
 ·exact .inr (.inr (.inr (.inr (.inl k4))))
 by_cases k5:k=5
 ·refine .inr (.inr (.inr (.inr (.inr ⟨k5,?_⟩))))
  subst k5
  unfold formB formM at h
  simp at h
  omega
 ·exfalso
  unfold formB formM at h
  simp [k0,k1,k2,k3,k4,k5] at h
set_option maxRecDepth 100000 in
set_option maxHeartbeats 4000000 in
theorem write_step (d:Nat) (ih:WriteAt d):WriteAt (d+1):=by
 intro v x B b l w hok hwt hv hBs hG hP hbd hl
 obtain⟨k,n,s,lv,ks,al,ak,cl,ck,rfl,rfl⟩:=hv.shape
 obtain⟨m,hm⟩:∃m,ks.length=m:=⟨_,rfl⟩
 obtain⟨ln,hln⟩:∃ln,lv.length=ln:=⟨_,rfl⟩
 have hn:(-9223372036854775808≤n∧n≤9223372036854775807):=by
  obtain⟨_,_,_,_,_,V,hf,_⟩:=IsP.at hv
  exact hf.bn
 rw [okB,Bool.and_eq_true] at hok
 have hkd:=form_kind hok.1
 rw [hm,hln] at hv
 rw [hm,hln]
 have hwt':1+s.size+keysW ks+wtL lv≤2048:=by simpa [wt] using hwt
 have hwe:wt (.mk k n s lv ks)=1+s.size+keysW ks+wtL lv:=by simp [wt]
 have hl':l.length+32 * (1+s.size+keysW ks+wtL lv)≤549755813888:=by rw [←hwe];exact hl
 rw [hwe]
 have hblt:b<w.heap.size:=by rcases hbd with h|h <;> exact h.lt
 obtain⟨g,hg⟩:∃g,w.heap.size=g:=⟨_,rfl⟩
 have BX:=Box.mk' w (.int .i64 k) (.int .i64 n) (.string s) (.slice al ln cl) (.slice ak m ck)
 obtain⟨w1,hw1⟩:∃w1,w.alloc (.cells #[.int .i64 k,.int .i64 n,.string s,.slice al ln cl,.slice ak m ck] 26)=w1:=⟨_,rfl⟩
 rw [hw1] at BX
 have at0:=BX.row
 rw [hg] at at0
 have zb:g<w1.heap.size:=by have:=BX.size;omega
 have W1:Wr B b l w w1:=(Wr.start hbd).more BX.below hBs
 have hB1:B≤w1.heap.size:=W1.size hBs
 have HT:Hid (∀u l',Wr B b l' w1 u→u.heap[g]?=some (.cells #[.int .i64 k,.int .i64 n,.string s,.slice al ln cl,.slice ak m ck] 26 (0,0))∧IsV u B (.mk k n s lv ks) (.agg #[.int .i64 k,.int .i64 n,.string s,.slice al ln cl,.slice ak m ck])∧B≤u.heap.size∧PowAt u∧Wr B b l' w u∧g<u.heap.size):=hide (fun u l' hu=>by
  have h1:Wr B b l' w u:=W1.trans hu
  have h2:=hu.box at0 (by omega)
  exact⟨h2,hv.mono h1.below,h1.size hBs,hP.later h1.below hG,h1,(Array.getElem?_eq_some_iff.1 h2).1⟩)
 have HS:Hid (Wr B b l w1 w1):=hide (Wr.start W1.bd)
 have HO:=hide hok.2
 have HW:=hide (And.intro hwt' hl')
 have HBN:=hide hn
 have HGG:=hide hG
 have HW1:=hide W1
 obtain⟨c0,c1,c2,c3,c4⟩:=row_cell at0
 clear BX hv hm hln at0 hok hwt hwt' hn hbd hP hl hwe hl' W1 hblt
 rcases hkd with rfl|rfl|rfl|rfl|rfl|⟨rfl,hkl⟩
 ·have C:=hide (wstr_any B b _ ⟨#[117,110,105,116]⟩ w1 (unhide HS).bd (by have:=unhide HW;show _+4≤_;omega) hB1)
  go_enter Tryz.func78,Tryz.ntmps78
  go_wp2_with fail
  refine(unhide C).mono ?_
  rintro e u ⟨rfl,ku⟩
  have HE:=hide ((unhide HW1).trans ku)
  clear ku C
  go_wp2_with fail
  go_end0
  refine⟨rfl,by simp [txt,oneT];omega,?_⟩
  have h:=unhide HE
  simpa [txt,oneT] using h
 ·by_cases n1:n=1
  ·subst n1
   have CB:=hide (Tryz.strconv_FormatBool true w1)
   have C:=hide (wstr_any B b _ ⟨(Lib.formatBool true).toArray⟩ w1 (unhide HS).bd (by have:=unhide HW;show _+4≤_;omega) hB1)
   go_enter Tryz.func78,Tryz.ntmps78
   go_wp2_with fail
   refine(unhide CB).mono ?_
   rintro e u ⟨rfl,rfl⟩
   go_wp2_with fail
   refine(unhide C).mono ?_
   rintro e u ⟨rfl,ku⟩
   have HE:=hide ((unhide HW1).trans ku)
   clear ku C CB
   go_wp2_with fail
   go_end0
   refine⟨rfl,by simp [txt,oneT];omega,?_⟩
   have h:=unhide HE
   rw [bool_true] at h
   simpa [txt,oneT] using h
  ·have nb:(n == 1)=false:=by simpa using n1
   have CB:=hide (Tryz.strconv_FormatBool false w1)
   have C:=hide (wstr_any B b _ ⟨(Lib.formatBool false).toArray⟩ w1 (unhide HS).bd (by have:=unhide HW;show _+5≤_;omega) hB1)
   go_enter Tryz.func78,Tryz.ntmps78
   go_wp2_with fail
   refine(unhide CB).mono ?_
   rintro e u ⟨rfl,rfl⟩
   go_wp2_with fail
   refine(unhide C).mono ?_
   rintro e u ⟨rfl,ku⟩
   have HE:=hide ((unhide HW1).trans ku)
   clear ku C CB
   go_wp2_with fail
   go_end0
   refine⟨rfl,by simp [txt,oneT,n1];omega,?_⟩
   have h:=unhide HE
   rw [bool_false] at h
   simpa [txt,oneT,n1] using h
 ·have CI:=hide (Tryz.strconv_FormatInt_10 n (unhide HBN).1 (unhide HBN).2 w1 (unhide HT w1 _ (unhide HS)).2.2.2.1)
  have HIL:=hide (itoa_len n (unhide HBN).1 (unhide HBN).2)
  go_enter Tryz.func78,Tryz.ntmps78
  go_wp2_with fail
  refine(unhide CI).mono ?_
  rintro e u ⟨rfl,q,os,hu⟩
  have HU:=hide ((unhide HS).more (show Below w1.heap.size w1 u by rw [hu];exact Lib.below_grow _ _ (Nat.le_refl _) q os) hB1)
  clear hu CI
  have C:=hide (wstr_any B b _ ⟨(Lib.itoa n).toArray⟩ u (unhide HU).bd (by have:=unhide HW;have:=unhide HIL;show _+(Lib.itoa n).toArray.size≤_;rw [List.size_toArray];omega) ((unhide HU).size hB1))
  go_wp2_with fail
  refine(unhide C).mono ?_
  rintro e u2 ⟨rfl,ku⟩
  have HE:=hide ((unhide HW1).trans ((unhide HU).trans ku))
  clear ku C
  go_wp2_with fail
  go_end0
  refine⟨rfl,by have:=unhide HIL;simp [txt,oneT];omega,?_⟩
  have h:=unhide HE
  simpa [txt,oneT] using h
 ·have C:=hide (quote_any B b _ s w1 (unhide HS).bd (by have:=unhide HW;omega) hB1)
  go_enter Tryz.func78,Tryz.ntmps78
  go_wp2_with fail
  refine(unhide C).mono ?_
  rintro e u ⟨rfl,ku⟩
  have HE:=hide ((unhide HW1).trans ku)
  clear ku C
  go_wp2_with fail
  go_end0
  refine⟨rfl,by have:=quoteU_len s;simp [txt,oneT];omega,?_⟩
  have h:=unhide HE
  simpa [txt,oneT] using h
 ·have C1:=hide (wbyte_lit B b _ 91 91 rfl w1 (unhide HS).bd (by have:=unhide HW;omega) hB1)
  go_enter Tryz.func78,Tryz.ntmps78
  go_wp2_with fail
  refine(unhide C1).mono ?_
  rintro e u1 ⟨rfl,k1⟩
  have HX1:=hide ((unhide HS).trans k1)
  clear k1 C1 c0 c1 c2 c3 c4
  obtain⟨hbx,hV,hBw,hPw,hWw,hgw⟩:=unhide HT u1 _ (unhide HX1)
  obtain⟨c0,c1,c2,c3,c4⟩:=row_cell hbx
  have C2:=hide (elems4 d ih n s lv ks _ B b _ u1 (unhide HO) (unhide HW).1 hV hBw (unhide HGG) hPw (unhide HX1).bd (by have:=unhide HW;rw [List.length_append];show _+1+_+4≤_;omega))
  clear hV hPw hWw hbx
  go_wp2_with fail
  refine(unhide C2).mono ?_
  rintro e u2 ⟨rfl,hln2,k2⟩
  have HX2:=hide ((unhide HX1).trans k2)
  have HLN:=hide hln2
  clear k2 C2 hln2
  have C3:=hide (wbyte_lit B b _ 93 93 rfl u2 (unhide HX2).bd (by have:=unhide HW;have:=unhide HLN;rw [List.length_append,List.length_append];show _+1+_+1≤_;omega) ((unhide HX2).size hB1))
  go_wp2_with fail
  refine(unhide C3).mono ?_
  rintro e u3 ⟨rfl,k3⟩
  have HE:=hide ((unhide HW1).trans ((unhide HX2).trans k3))
  clear k3 C3
  go_wp2_with fail
  go_end0
  refine⟨rfl,by have:=unhide HLN;simp [txt,oneT];omega,?_⟩
  have h:=unhide HE
  simpa [txt,oneT] using h
 ·have C1:=hide (wbyte_lit B b _ 123 123 rfl w1 (unhide HS).bd (by have:=unhide HW;omega) hB1)
  go_enter Tryz.func78,Tryz.ntmps78
  go_wp2_with fail
  refine(unhide C1).mono ?_
  rintro e u1 ⟨rfl,k1⟩
  have HX1:=hide ((unhide HS).trans k1)
  clear k1 C1 c0 c1 c2 c3 c4
  obtain⟨hbx,hV,hBw,hPw,hWw,hgw⟩:=unhide HT u1 _ (unhide HX1)
  obtain⟨c0,c1,c2,c3,c4⟩:=row_cell hbx
  have C2:=hide (elems5 d ih n s lv ks _ B b _ u1 (unhide HO) hkl (unhide HW).1 hV hBw (unhide HGG) hPw (unhide HX1).bd (by have:=unhide HW;rw [List.length_append];show _+1+_+4≤_;omega))
  clear hV hPw hWw hbx
  go_wp2_with fail
  refine(unhide C2).mono ?_
  rintro e u2 ⟨rfl,hln2,k2⟩
  have HX2:=hide ((unhide HX1).trans k2)
  have HLN:=hide hln2
  clear k2 C2 hln2
  have C3:=hide (wbyte_lit B b _ 125 125 rfl u2 (unhide HX2).bd (by have:=unhide HW;have:=unhide HLN;rw [List.length_append,List.length_append];show _+1+_+1≤_;omega) ((unhide HX2).size hB1))
  go_wp2_with fail
  refine(unhide C3).mono ?_
  rintro e u3 ⟨rfl,k3⟩
  have HE:=hide ((unhide HW1).trans ((unhide HX2).trans k3))
  clear k3 C3
  go_wp2_with fail
  go_end0
  refine⟨rfl,by have:=unhide HLN;simp [txt,oneT];omega,?_⟩
  have h:=unhide HE
  simpa [txt,oneT] using h
theorem write_any:∀d,WriteAt d
 |0=>write_zero
 |d+1=>write_step d (write_any d)
set_option maxRecDepth 100000 in
set_option maxHeartbeats 800000 in
theorem plain0 (n:Int) (s:ByteArray) (ll m:Nat) (al ak:Option Addr) (cl ck:Nat) (w:World) :
  Calls Tryz.prog 140 #[.agg #[.int .i64 0,.int .i64 n,.string s,.slice al ll cl,.slice ak m ck]] w fun e w'=>e=.returned (.bool (formM 0 n s ll m true))∧Below w.heap.size w w':=by
 have BEL:Hid (∀o,Below w.heap.size w (w.alloc o)):=hide (fun o=>(Below.refl _ _).alloc (Nat.le_refl _) o)
 go_enter Tryz.func140,Tryz.ntmps140
 go_wp2_with fail
 all_goals (go_ret;exact⟨by simp_all [formM,beq0],unhide BEL _⟩)
set_option maxRecDepth 100000 in
set_option maxHeartbeats 800000 in
theorem plain1 (n:Int) (s:ByteArray) (ll m:Nat) (al ak:Option Addr) (cl ck:Nat) (w:World) :
  Calls Tryz.prog 140 #[.agg #[.int .i64 1,.int .i64 n,.string s,.slice al ll cl,.slice ak m ck]] w fun e w'=>e=.returned (.bool (formM 1 n s ll m true))∧Below w.heap.size w w':=by
 have BEL:Hid (∀o,Below w.heap.size w (w.alloc o)):=hide (fun o=>(Below.refl _ _).alloc (Nat.le_refl _) o)
 go_enter Tryz.func140,Tryz.ntmps140
 go_wp2_with fail
 all_goals (go_ret;exact⟨by simp_all [formM,beq0],unhide BEL _⟩)
set_option maxRecDepth 100000 in
set_option maxHeartbeats 800000 in
theorem plain2 (n:Int) (s:ByteArray) (ll m:Nat) (al ak:Option Addr) (cl ck:Nat) (w:World) :
  Calls Tryz.prog 140 #[.agg #[.int .i64 2,.int .i64 n,.string s,.slice al ll cl,.slice ak m ck]] w fun e w'=>e=.returned (.bool (formM 2 n s ll m true))∧Below w.heap.size w w':=by
 have BEL:Hid (∀o,Below w.heap.size w (w.alloc o)):=hide (fun o=>(Below.refl _ _).alloc (Nat.le_refl _) o)
 go_enter Tryz.func140,Tryz.ntmps140
 go_wp2_with fail
 all_goals (go_ret;exact⟨by simp_all [formM,beq0],unhide BEL _⟩)
set_option maxRecDepth 100000 in
set_option maxHeartbeats 800000 in
theorem plain3 (n:Int) (s:ByteArray) (ll m:Nat) (al ak:Option Addr) (cl ck:Nat) (w:World) :
  Calls Tryz.prog 140 #[.agg #[.int .i64 3,.int .i64 n,.string s,.slice al ll cl,.slice ak m ck]] w fun e w'=>e=.returned (.bool (formM 3 n s ll m true))∧Below w.heap.size w w':=by
 have BEL:Hid (∀o,Below w.heap.size w (w.alloc o)):=hide (fun o=>(Below.refl _ _).alloc (Nat.le_refl _) o)
 go_enter Tryz.func140,Tryz.ntmps140
 go_wp2_with fail
 all_goals (go_ret;exact⟨by simp_all [formM,beq0],unhide BEL _⟩)
set_option maxRecDepth 100000 in
set_option maxHeartbeats 800000 in
theorem plain4 (n:Int) (s:ByteArray) (ll m:Nat) (al ak:Option Addr) (cl ck:Nat) (w:World) :
  Calls Tryz.prog 140 #[.agg #[.int .i64 4,.int .i64 n,.string s,.slice al ll cl,.slice ak m ck]] w fun e w'=>e=.returned (.bool (formM 4 n s ll m true))∧Below w.heap.size w w':=by
 have BEL:Hid (∀o,Below w.heap.size w (w.alloc o)):=hide (fun o=>(Below.refl _ _).alloc (Nat.le_refl _) o)
 go_enter Tryz.func140,Tryz.ntmps140
 go_wp2_with fail
 all_goals (go_ret;exact⟨by simp_all [formM,beq0],unhide BEL _⟩)
set_option maxRecDepth 100000 in
set_option maxHeartbeats 800000 in
theorem plain5 (n:Int) (s:ByteArray) (ll m:Nat) (al ak:Option Addr) (cl ck:Nat) (w:World) :
  Calls Tryz.prog 140 #[.agg #[.int .i64 5,.int .i64 n,.string s,.slice al ll cl,.slice ak m ck]] w fun e w'=>e=.returned (.bool (formM 5 n s ll m true))∧Below w.heap.size w w':=by
 have BEL:Hid (∀o,Below w.heap.size w (w.alloc o)):=hide (fun o=>(Below.refl _ _).alloc (Nat.le_refl _) o)
 by_cases hn:n=0
 ·subst hn
  by_cases hs:s.toList=[]
  ·by_cases hml:m=ll
   ·subst hml
    have HG:Hid (formM 5 0 s m m true=true):=hide (by simp [formM,hs])
    go_enter Tryz.func140,Tryz.ntmps140
    go_wp2_with fail
    all_goals (go_ret;exact⟨by rw [unhide HG];rfl,unhide BEL _⟩)
   ·have HG:Hid (formM 5 0 s ll m true=false):=hide (by simp [formM,hml])
    have hml':¬(m:Int)=(ll:Int):=by omega
    have hmb:Hid (((m:Int) == (ll:Int))=false):=hide (by simpa using hml')
    go_enter Tryz.func140,Tryz.ntmps140
    go_wp2_with fail
    all_goals (go_ret;exact⟨by rw [unhide HG,←unhide hmb];rfl,unhide BEL _⟩)
  ·have HG:Hid (formM 5 0 s ll m true=false):=hide (by simp [formM,hs])
   go_enter Tryz.func140,Tryz.ntmps140
   go_wp2_with fail
   all_goals (go_ret;exact⟨by rw [unhide HG];rfl,unhide BEL _⟩)
 ·have HG:Hid (formM 5 n s ll m true=false):=hide (by simp [formM,hn])
  go_enter Tryz.func140,Tryz.ntmps140
  go_wp2_with fail
  all_goals (go_ret;exact⟨by rw [unhide HG];rfl,unhide BEL _⟩)
set_option maxRecDepth 100000 in
set_option maxHeartbeats 800000 in
theorem plainX (kind:Int) (k0:¬kind=0) (k1:¬kind=1) (k2:¬kind=2) (k3:¬kind=3) (k4:¬kind=4) (k5:¬kind=5) (n:Int) (s:ByteArray) (ll m:Nat) (al ak:Option Addr) (cl ck:Nat) (w:World) :
  Calls Tryz.prog 140 #[.agg #[.int .i64 kind,.int .i64 n,.string s,.slice al ll cl,.slice ak m ck]] w fun e w'=>e=.returned (.bool (formM kind n s ll m true))∧Below w.heap.size w w':=by
 have BEL:Hid (∀o,Below w.heap.size w (w.alloc o)):=hide (fun o=>(Below.refl _ _).alloc (Nat.le_refl _) o)
 go_enter Tryz.func140,Tryz.ntmps140
 go_wp2_with fail
 all_goals (go_ret;exact⟨by simp_all [formM],unhide BEL _⟩)
theorem plain_any (kind n:Int) (s:ByteArray) (ll m:Nat) (al ak:Option Addr) (cl ck:Nat) (w:World) :
  Calls Tryz.prog 140 #[.agg #[.int .i64 kind,.int .i64 n,.string s,.slice al ll cl,.slice ak m ck]] w fun e w'=>e=.returned (.bool (formM kind n s ll m true))∧Below w.heap.size w w':=by
 by_cases k0:kind=0
 ·subst k0;exact plain0 n s ll m al ak cl ck w
 by_cases k1:kind=1
 ·subst k1;exact plain1 n s ll m al ak cl ck w
 by_cases k2:kind=2
 ·subst k2;exact plain2 n s ll m al ak cl ck w
 by_cases k3:kind=3
 ·subst k3;exact plain3 n s ll m al ak cl ck w
 by_cases k4:kind=4
 ·subst k4;exact plain4 n s ll m al ak cl ck w
 by_cases k5:kind=5
 ·subst k5;exact plain5 n s ll m al ak cl ck w
 exact plainX kind k0 k1 k2 k3 k4 k5 n s ll m al ak cl ck w
def wgh (b:Nat) (v:Vl) (sofar:Nat):Nat:=if (okB b v && decide (sofar+wt v≤2048))=true then sofar+wt v else 2049
def WeighAt (b:Nat):Prop:=∀(v:Vl) (x:Value) (around sofar B:Nat) (w:World),around+b=8→IsV w B v x→B≤w.heap.size→sofar≤4096 →
 Calls Tryz.prog 119 #[x,.int .i64 (around:Int),.int .i64 (sofar:Int)] w fun e w'=>e=.returned (.int .i64 (wgh b v sofar:Int))∧Below w.heap.size w w'
theorem form_true {kind n:Int} {s:ByteArray} {ll m:Nat} {R:Bool} (h:formM kind n s ll m true=false):formM kind n s ll m R=false:=by
 unfold formM at h ⊢
 repeat' split at h
 all_goals first
  |(subst_vars;simp_all;done)
  |simp_all
set_option maxRecDepth 100000 in
set_option maxHeartbeats 400000 in
theorem weigh_zero:WeighAt 0:=by
 intro v x around sofar B w hab hv hBs hso
 obtain⟨k',n',s',l',ks',al',ak',cl',ck',hy',hx⟩:=hv.shape
 obtain⟨ll,hll⟩:∃ll,l'.length=ll:=⟨_,rfl⟩
 obtain⟨m,hm⟩:∃m,ks'.length=m:=⟨_,rfl⟩
 rw [hll,hm] at hx
 subst hx
 obtain⟨w1,hw1⟩:∃w1,w.alloc (.cells #[.int .i64 k',.int .i64 n',.string s',.slice al' ll cl',.slice ak' m ck'] 26)=w1:=⟨_,rfl⟩
 have BX:=Box.mk' w (.int .i64 k') (.int .i64 n') (.string s') (.slice al' ll cl') (.slice ak' m ck')
 rw [hw1] at BX
 obtain⟨c0,c1,c2,c3,c4⟩:=row_cell BX.row
 have z1:=BX.size
 have HB:=hide BX.below
 obtain rfl:around=8:=by omega
 have HG:Hid (wgh 0 v sofar=2049):=hide (by simp [wgh,okB])
 have CP:=hide (plain_any k' n' s' ll m al' ak' cl' ck' w1)
 obtain⟨F,hF⟩:∃F,formM k' n' s' ll m true=F:=⟨_,rfl⟩
 rw [hF] at CP
 clear BX hv hy' hF
 go_enter Tryz.func119,Tryz.ntmps119
 go_wp2_with fail
 refine(unhide CP).mono ?_
 rintro e w2 ⟨rfl,b2⟩
 have B2:=hide b2
 clear b2 CP
 cases F with
 |false=>
  go_wp2_with fail
  go_ret
  exact⟨by rw [unhide HG];rfl,(unhide HB).trans ((unhide B2).mono (by omega))⟩
 |true=>
  go_wp2_with fail
  go_ret
  exact⟨by rw [unhide HG];rfl,(unhide HB).trans ((unhide B2).mono (by omega))⟩
/-! ### What weighed has in hand at element i -/
def kw (kind:Int) (ks:List ByteArray) (i:Nat):Nat:=if kind=5 then keysW (ks.take i) else 0
def prv (ks:List ByteArray) (i:Nat):Option ByteArray:=if i=0 then none else ks[i - 1]?
structure Inv (b:Nat) (kind n:Int) (t:ByteArray) (l:List Vl) (ks:List ByteArray) (sofar i W:Nat):Prop where
 good:W≤2048→okL b (l.take i)=true∧W=sofar+1+kw kind ks i+wtL (l.take i)∧(kind=5→risingFrom none ks=risingFrom (prv ks i) (ks.drop i))
 bad:2049≤W→wgh (b+1) (.mk kind n t l ks) sofar=2049
theorem keysW_take_le (ks:List ByteArray) (i:Nat):keysW (ks.take i)≤keysW ks:=by
 have h:=keysW_app (ks.take i) (ks.drop i)
 rw [List.take_append_drop] at h
 omega
theorem size_zero {t:ByteArray} (h:t.toList=[]):t.size=0:=by
 rw [ByteArray.toList_eq] at h
 have h1:t.data.size=0:=by rw [←Array.length_toList,h];rfl
 exact h1
theorem wgh_no {b:Nat} {v:Vl} {sofar:Nat} (h:okB b v=false∨2048<sofar+wt v):wgh b v sofar=2049:=by
 unfold wgh
 rw [if_neg]
 intro hc
 rw [Bool.and_eq_true,decide_eq_true_eq] at hc
 rcases h with h|h
 ·rw [h] at hc;cases hc.1
 ·omega
theorem wgh_yes {b:Nat} {v:Vl} {sofar:Nat} (h:okB b v=true) (h2:sofar+wt v≤2048):wgh b v sofar=sofar+wt v:=by
 unfold wgh
 rw [if_pos]
 rw [Bool.and_eq_true,decide_eq_true_eq]
 exact⟨h,h2⟩
theorem wgh_le (b:Nat) (v:Vl) (sofar:Nat):wgh b v sofar≤2049:=by
 unfold wgh
 by_cases h:(okB b v && decide (sofar+wt v≤2048))=true
 ·rw [if_pos h]
  rw [Bool.and_eq_true,decide_eq_true_eq] at h
  omega
 ·rw [if_neg h]
  omega
theorem Inv.start {b:Nat} {kind n:Int} {t:ByteArray} {l:List Vl} {ks:List ByteArray} {sofar:Nat} (hs:sofar≤2048):Inv b kind n t l ks sofar 0 (sofar+1):=by
 refine⟨fun _=>⟨by simp [okL],by simp [kw,wtL,keysW],fun _=>by simp [prv]⟩,fun h=>wgh_no (Or.inr ?_)⟩
 have:=wt_pos (.mk kind n t l ks)
 omega
theorem Inv.next {b:Nat} {kind n:Int} {t:ByteArray} {l:List Vl} {ks:List ByteArray} {sofar i W W':Nat} {y:Vl} (h:Inv b kind n t l ks sofar i W) (hW:W≤2048) (hy:l[i]?=some y)
  (h5:kind=5→∃k,ks[i]?=some k∧risingFrom none ks=risingFrom (some k) (ks.drop (i+1))∧W'=W+(1+k.size)) (hn:¬kind=5→W'=W):Inv b kind n t l ks sofar (i+1) (wgh b y W'):=by
 obtain⟨g1,g2,g3⟩:=h.good hW
 have hkw:W'=sofar+1+kw kind ks (i+1)+wtL (l.take i)∧(kind=5→risingFrom none ks=risingFrom (prv ks (i+1)) (ks.drop (i+1)))∧kw kind ks (i+1)≤keysW ks:=by
  by_cases hk:kind=5
  ·obtain⟨k,k1,k2,k3⟩:=h5 hk
   have e:=keysW_next ks i k k1
   have e2:=keysW_take_le ks (i+1)
   unfold kw at g2 ⊢
   rw [if_pos hk] at g2 ⊢
   refine⟨by omega,fun _=>?_,e2⟩
   unfold prv
   rw [if_neg (by omega),show i+1 - 1=i by omega,k1]
   exact k2
  ·have e:=hn hk
   unfold kw at g2 ⊢
   rw [if_neg hk] at g2 ⊢
   exact⟨by omega,fun h=>absurd h hk,by omega⟩
 obtain⟨e1,e2,e3⟩:=hkw
 have e4:=wt_le_wtL l i y hy
 by_cases ho:okB b y=true
 ·by_cases hw:W'+wt y≤2048
  ·rw [wgh_yes ho hw]
   refine⟨fun _=>⟨by rw [okL_next b l i y hy,g1,ho];rfl,by rw [wtL_next l i y hy];omega,e2⟩,fun h=>by omega⟩
  ·rw [wgh_no (Or.inr (by omega))]
   refine⟨fun h=>by omega,fun _=>wgh_no (Or.inr ?_)⟩
   simp only [wt]
   omega
 ·have ho':okB b y=false:=by simpa using ho
  rw [wgh_no (Or.inl ho')]
  refine⟨fun h=>by omega,fun _=>wgh_no (Or.inl ?_)⟩
  simp only [okB]
  rw [okL_of_take b l i y hy ho',Bool.and_false]
end Go.Proofs.YtekbmfppfjlboaaGreatDoor
