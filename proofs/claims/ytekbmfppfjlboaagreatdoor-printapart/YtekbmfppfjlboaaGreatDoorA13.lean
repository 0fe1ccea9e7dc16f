/-
  The walks of alike and same: are two values the same, field by field? no conditions but the form's own reach.
  Layer 18 (print): has a tree no more parts than may be; conditions: the nodes lie in memory.
  Layer 18 (print): are two values the same, field by field; no conditions but the form's own reach.
-/
import Derived.Test.YtekbmfppfjlboaaGreatDoorA03
import Derived.Test.YtekbmfppfjlboaaGreatDoorA12
import Derived.Deep.RegionHeld3
import Derived.Deep.QuietTactic
import Derived.BigQuiet
import Derived.Test.YtekbmfppfjlboaaGreatDoorA11
set_option linter.unusedVariables false
set_option linter.unusedSimpArgs false
namespace Go.Proofs.YtekbmfppfjlboaaGreatDoor
open Go.RowKit
theorem sameL_next:∀(l l':List Vl) (i:Nat) (x y:Vl),l[i]?=some x→l'[i]?=some y→sameL (l.take (i+1)) (l'.take (i+1))=(sameL (l.take i) (l'.take i) && sameB x y)
 |[],_,i,x,y,h,_=>by simp at h
 |_ :: _,[],i,x,y,_,h=>by simp at h
 |a :: l,b :: l',0,x,y,h,h'=>by
  simp at h h'
  subst h
  subst h'
  simp [sameL_cons,sameL_nil]
 |a :: l,b :: l',i+1,x,y,h,h'=>by
  have ih:=sameL_next l l' i x y (by simpa using h) (by simpa using h')
  rw [List.take_succ_cons,List.take_succ_cons,List.take_succ_cons,List.take_succ_cons,sameL_cons,sameL_cons,ih,Bool.and_assoc]
theorem sameL_no (l l':List Vl) (i:Nat) (x y:Vl) (h:l[i]?=some x) (h':l'[i]?=some y) (hl:l.length=l'.length) (hs:sameB x y=false):sameL l l'=false:=by
 cases hc:sameL l l' with
 |false=>rfl
 |true=>
  have e:=(sameL_iff l l' hl).1 hc
  rw [e,h'] at h
  have:=(sameB_iff x y).2 (Option.some.inj h).symm
  rw [hs] at this
  cases this
theorem take_next {α:Type} (ks ks':List α) (i:Nat) (t:α) (h:ks[i]?=some t) (h':ks'[i]?=some t) (he:ks.take i=ks'.take i):ks.take (i+1)=ks'.take (i+1):=by
 obtain⟨h1,e1⟩:=List.getElem?_eq_some_iff.1 h
 obtain⟨h2,e2⟩:=List.getElem?_eq_some_iff.1 h'
 rw [List.take_succ_eq_append_getElem h1,List.take_succ_eq_append_getElem h2,he,e1,e2]
structure TwoL (w w2:World) (g:Nat) (T:TypeId) (x y:Array Value):Prop where
 at0:w2.heap[g]?=some (.cells x T (0,0))
 at1:w2.heap[g+1]?=some (.cells y T (0,0))
 size:w2.heap.size=g+2
 below:Below w.heap.size w w2
theorem TwoL.mk' (w:World) (T:TypeId) (x y:Array Value):TwoL w ((w.alloc (.cells x T)).alloc (.cells y T)) w.heap.size T x y:=by
 have h1:Below w.heap.size w ((w.alloc (.cells x T)).alloc (.cells y T)):=((Below.refl _ _).alloc (Nat.le_refl _) _).alloc (by simp) _
 refine⟨?_,?_,by simp,h1⟩
 ·have:=((Below.refl (w.alloc (.cells x T)).heap.size (w.alloc (.cells x T))).alloc (Nat.le_refl _) (.cells y T)).block w.heap.size (by simp)
  rw [this]
  exact heap_alloc_new w _
 ·have:=heap_alloc_new (w.alloc (.cells x T)) (.cells y T)
  simpa using this
theorem TwoL.later {w w2 u:World} {g:Nat} {T:TypeId} {x y:Array Value} (h:TwoL w w2 g T x y) (hb:Below w2.heap.size w2 u):u.heap[g]?=some (.cells x T (0,0))∧u.heap[g+1]?=some (.cells y T (0,0)):=by
 have:=h.size
 exact⟨(hb.block g (by omega)).trans h.at0,(hb.block (g+1) (by omega)).trans h.at1⟩
set_option linter.unusedVariables false
set_option linter.unusedSimpArgs false
structure Bes (gl:Nat) (w w':World):Prop where
 os:w'.os=w.os
 tape:w'.tape=w.tape
 output:w'.output=w.output
 size:w.heap.size≤w'.heap.size
 block:∀k,k<w.heap.size→k≠gl→w'.heap[k]?=w.heap[k]?
theorem Bes.trans {gl:Nat} {a b c:World} (h:Bes gl a b) (k:Bes gl b c):Bes gl a c:=
 ⟨k.os.trans h.os,k.tape.trans h.tape,k.output.trans h.output,Nat.le_trans h.size k.size,fun i hi hn=>(k.block i (Nat.lt_of_lt_of_le hi h.size) hn).trans (h.block i hi hn)⟩
theorem Bes.of {gl:Nat} {a b:World} (h:Below a.heap.size a b):Bes gl a b:=⟨h.os,h.tape,h.output,h.size,fun k hk _=>h.block k hk⟩
theorem Bes.below {gl B:Nat} {a b:World} (h:Bes gl a b) (hB:B≤gl) (hs:B≤a.heap.size):Below B a b:=⟨h.os,h.tape,h.output,h.size,fun k hk=>h.block k (Nat.lt_of_lt_of_le hk hs) (by omega)⟩
theorem Bes.set {gl:Nat} {a b:World} (h:Bes gl a b) (v:Value):Bes gl a (b.setCell ⟨gl,0,none⟩ v):=by
 have hb:=(Below.refl 0 b).setCell (p:=⟨gl,0,none⟩) (Nat.zero_le _) v
 exact⟨hb.os.trans h.os,hb.tape.trans h.tape,hb.output.trans h.output,Nat.le_trans h.size hb.size,fun k hk hn=>by rw [heap_setCell_other _ _ _ _ hn];exact h.block k hk hn⟩
structure Sml (w:World) (gl gv:Nat) (x:Int):Prop where
 lf:w.heap[gl]?=some (.cells #[.int .i64 x] 3 (0,0))
 fv:w.heap[gv]?=some (.cells #[.func (.func 58) #[] #[.pointer (some ⟨gl,0,none⟩),.pointer (some ⟨gv,0,none⟩)]] 62 (0,0))
theorem Sml.set {w:World} {gl gv:Nat} {x:Int} (h:Sml w gl gv x) (hn:gv≠gl) (y:Int):Sml (w.setCell ⟨gl,0,none⟩ (.int .i64 y)) gl gv y:=
 ⟨by rw [heap_setCell_same w gl 0 _ _ _ h.lf];rfl,by rw [heap_setCell_other _ _ _ _ hn];exact h.fv⟩
theorem Sml.later {w u:World} {gl gv:Nat} {x:Int} (h:Sml w gl gv x) (hb:Below w.heap.size w u):Sml u gl gv x:=⟨Below.cellsAt hb h.lf,Below.cellsAt hb h.fv⟩
theorem cvs_le:∀(l:List Vl) (i:Nat),cvs (l.drop i)≤cvs l:=by
 intro l
 induction l with
 |nil=>intro i;simp
 |cons a r ih=>
  intro i
  cases i with
  |zero=>simp
  |succ i=>obtain⟨k,n,s,l,ks⟩:=a;have:=ih i;simp only [List.drop_succ_cons,cvs];omega
theorem cvs_mem:∀(l:List Vl) (i:Nat) (y:Vl),l[i]?=some y→1+cvs y.l≤cvs l:=by
 intro l i y h
 have h1:=cvs_at l i y h
 have h2:∀(l:List Vl) (i:Nat),cvs (l.drop i)≤cvs l:=by
  intro l
  induction l with
  |nil=>intro i;simp
  |cons a r ih=>
   intro i
   cases i with
   |zero=>simp
   |succ i=>obtain⟨k,n,s,l,ks⟩:=a;have:=ih i;simp only [List.drop_succ_cons,cvs];omega
 have:=h2 l i
 omega
theorem isV_lt {w:World} {B:Nat} {kind n:Int} {s:ByteArray} {l:List Vl} {ks:List ByteArray} {al ak:Option Addr} {ll cl lk ck:Nat} (h:IsV w B (.mk kind n s l ks) (.agg #[.int .i64 kind,.int .i64 n,.string s,.slice al ll cl,.slice ak lk ck])):ll=l.length∧ll≤cl∧ll≤140737488351232:=by
 obtain⟨_,_,_,h1,h2,V,hf,_⟩:=IsP.at h
 exact⟨h1,by rw [h1];exact hf.ll,by rw [h1];exact hf.bl⟩
def VlsAt (N:Nat):Prop:=∀(kind n:Int) (s:ByteArray) (l:List Vl) (ks:List ByteArray) (al ak:Option Addr) (ll cl lk ck x B gl gv:Nat) (w:World),cvs l≤N→IsV w B (.mk kind n s l ks) (.agg #[.int .i64 kind,.int .i64 n,.string s,.slice al ll cl,.slice ak lk ck])→B≤gl→B≤gv→gv≠gl→B≤w.heap.size→x≤20000→Sml w gl gv (x:Int) →
 Calls Tryz.prog 58 #[.slice al ll cl,.pointer (some ⟨gl,0,none⟩),.pointer (some ⟨gv,0,none⟩)] w fun e w'=>e=.returned (.bool (decide (cvs l≤x)))∧Bes gl w w'∧(decide (cvs l≤x)=true→Sml w' gl gv ((x - cvs l:Nat):Int))
set_option maxRecDepth 100000 in
set_option maxHeartbeats 2000000 in
theorem values_step (N:Nat) (ih:∀M,M<N→VlsAt M):VlsAt N:=by
 intro kind n s l ks al ak ll cl lk ck x B gl gv w hN hv hl hg hne hB hx hs
 obtain⟨hll,hlc,hlb⟩:=isV_lt hv
 have HH:=hide (And.intro hv (And.intro hs (And.intro hll (And.intro hB hN))))
 have HG:=hide (And.intro hl (And.intro hg hne))
 obtain⟨R,hR⟩:∃R,decide (cvs l≤x)=R:=⟨_,rfl⟩
 rw [hR]
 have HR:=hide hR
 obtain⟨Z,hZ⟩:∃Z,x - cvs l=Z:=⟨_,rfl⟩
 rw [hZ]
 have HZ:=hide hZ
 clear hv hs hll hB hN hl hg hR hZ
 go_enter Tryz.func58,Tryz.ntmps58
 go_wp2_with fail
 go_loopw [9] (fun xx wr=>∃(i y:Nat),xx=.int .i64 (i:Int)∧i≤ll∧y≤20000∧Hid (Bes gl w wr)∧Hid (Sml wr gl gv (y:Int))∧Hid (x=y+(cvs l - cvs (l.drop i)))) (fun xx _=>ll - (intOf xx).toNat)
 case atStart=>exact⟨0,x,rfl,Nat.zero_le _,hx,hide ⟨rfl,rfl,rfl,Nat.le_refl _,fun _ _ _=>rfl⟩,hide (unhide HH).2.1,hide (by simp)⟩
 case round=>
  obtain⟨i,y,rfl,hin,hy20,HBB,HS,HE⟩:=hrel
  obtain⟨wq,hwq⟩:∃wq,wq=wr:=⟨_,rfl⟩
  subst hwq
  by_cases hi:i<ll
  ·have i2:(i:Int)<(ll:Int):=by omega
   obtain⟨hv,hs,hll,hB,hN⟩:=unhide HH
   obtain⟨hl,hg,hne⟩:=unhide HG
   have bq:=(unhide HBB).below hl hB
   obtain⟨z,hz⟩:∃z,l[i]?=some z:=⟨_,List.getElem?_eq_getElem (by omega)⟩
   obtain⟨a,y0,y1,y2,al',ak',ll',m',cl',ck',rfl,hab,hce,hve⟩:=(hv.mono bq).elem i z hz
   have e0:wq.cell? (a.add (i * 5))=some (.int .i64 y0):=hce 0 (.int .i64 y0) rfl
   have e1:wq.cell? ⟨(a.add (i * 5)).block,(a.add (i * 5)).off+1,none⟩=some (.int .i64 y1):=hce 1 (.int .i64 y1) rfl
   have e2:wq.cell? ⟨(a.add (i * 5)).block,(a.add (i * 5)).off+2,none⟩=some (.string y2):=hce 2 (.string y2) rfl
   have e3:wq.cell? ⟨(a.add (i * 5)).block,(a.add (i * 5)).off+3,none⟩=some (.slice al' ll' cl'):=hce 3 (.slice al' ll' cl') rfl
   have e4:wq.cell? ⟨(a.add (i * 5)).block,(a.add (i * 5)).off+4,none⟩=some (.slice ak' m' ck'):=hce 4 (.slice ak' m' ck') rfl
   obtain⟨w5,hw5⟩:∃w5,wq.alloc (.cells #[(.int .i64 y0),(.int .i64 y1),(.string y2),(.slice al' ll' cl'),(.slice ak' m' ck')] 26)=w5:=⟨_,rfl⟩
   have BX5:=Box.mk' wq (.int .i64 y0) (.int .i64 y1) (.string y2) (.slice al' ll' cl') (.slice ak' m' ck')
   rw [hw5] at BX5
   obtain⟨g5,hg5⟩:∃g,wq.heap.size=g:=⟨_,rfl⟩
   have S5:=(unhide HS).later BX5.below
   obtain⟨q1,f1⟩:=one_cell S5.lf
   have hgl5:gl<g5:=by rw [←hg5];exact(Array.getElem?_eq_some_iff.1 (unhide HS).lf).1
   obtain⟨w6,hw6⟩:∃w6,w5.setCell ⟨gl,0,none⟩ (.int .i64 ((y:Int) - 1))=w6:=⟨_,rfl⟩
   have S6:Sml w6 gl gv ((y:Int) - 1):=by rw [←hw6];exact S5.set hne _
   have R6:w6.heap[g5]?=some (.cells #[(.int .i64 y0),(.int .i64 y1),(.string y2),(.slice al' ll' cl'),(.slice ak' m' ck')] 26 (0,0)):=by rw [←hw6,heap_setCell_other _ _ _ _ (by simp;omega),←hg5];exact BX5.row
   have B6:Bes gl wq w6:=by rw [←hw6];exact(Bes.of BX5.below).set _
   have hBq:B≤wq.heap.size:=Nat.le_trans hB (unhide HBB).size
   have hv6:IsV w6 B z (.agg #[.int .i64 y0,.int .i64 y1,.string y2,.slice al' ll' cl',.slice ak' m' ck']):=hve.mono (B6.below hl hBq)
   have X6:=hide ((unhide HBB).trans B6)
   have HY5:=hide hw5
   have HY6:=hide hw6
   have HV6:=hide (And.intro hv6 (And.intro S6 (And.intro hBq B6)))
   have HGG:=hide hg5
   have HR5:=hide (row_cell R6).2.2.2.1
   have HD:=hide hz
   clear hv hs hB hN hll hl hg bq hz hce hve BX5 S5 S6 R6 B6 hBq hv6 hw5 hw6
   go_upto_region 4 with fail
   rw [unhide HY5]
   try rw [unhide HGG]
   have e5:IntKind.i64.wrap ((y:Int) - 1)=(y:Int) - 1:=by rw [IntKind.wrap_i64];omega
   clear HY5 e0 e1 e2 e3 e4
   go_upto_region 5 with fail
   rw [unhide HY6]
   clear HY6 q1 f1
   obtain⟨q1,f1⟩:=one_cell (unhide HV6).2.1.lf
   by_cases hy0:y=0
   ·subst hy0
    have l1:((0:Nat):Int) - 1<0:=by omega
    have hF:R=false:=by
     rw [←unhide HR]
     have h1:=unhide HE
     have h2:=cvs_at l i z (unhide HD)
     have h3:=cvs_le l i
     exact decide_eq_false (by omega)
    have HF:=hide hF
    clear hF
    go_wp2_with fail
    go_ret
    exact⟨by rw [unhide HF];rfl,unhide X6,fun h=>by rw [unhide HF] at h;cases h⟩
   ·obtain⟨m,hm⟩:∃m,y=m+1:=⟨y - 1,by omega⟩
    have em:(y:Int) - 1=(m:Int):=by omega
    have HM:=hide hm
    have hm20:m≤20000:=by omega
    rw [em] at q1 HV6
    obtain⟨hv6,S6,hBq,B6⟩:=unhide HV6
    obtain⟨k',n',s',l',ks',_,_,_,_,rfl,_⟩:=hv6.shape
    obtain⟨hv6,h1,h2⟩:IsV w6 B (.mk k' n' s' l' ks') (.agg #[.int .i64 k',.int .i64 n',.string s',.slice al' ll' cl',.slice ak' m' ck'])∧y0=k'∧y1=n':=by
     obtain⟨e1,e2,e3,_⟩:=IsP.at hv6
     subst e1 e2 e3
     exact⟨hv6,rfl,rfl⟩
    have q2:=(one_cell S6.fv).1
    have CI:=hide (ih (cvs l') (by have h5:=cvs_mem l i _ (unhide HD);have h6:=(unhide HH).2.2.2.2;simp only at h5;omega) k' n' s' l' ks' al' ak' ll' cl' m' ck' m B gl gv w6 (Nat.le_refl _) hv6 (unhide HG).1 (unhide HG).2.1 (unhide HG).2.2 (Nat.le_trans hBq B6.size) hm20 S6)
    have HW6:=hide (And.intro B6 S6)
    have l1:¬(m:Int)<0:=by omega
    obtain⟨Q,hQ⟩:∃Q,decide (cvs l'≤m)=Q:=⟨_,rfl⟩
    rw [hQ] at CI
    have HQ:=hide hQ
    have HR6:=hide (show w6.cell? ⟨g5,3,none⟩=some (.slice al' ll' cl') from unhide HR5)
    have r3:=unhide HR6
    clear hQ hm hv6 S6 hBq B6 h1 h2 HV6 em hy0
    go_wp2_with fail
    refine(unhide CI).mono ?_
    rintro e w7 ⟨rfl,b7,s7⟩
    have X7:=hide ((unhide X6).trans b7)
    have S7:=hide s7
    clear b7 s7 CI q1 f1 q2 r3
    cases Q with
    |false=>
     have hF:R=false:=by
      rw [←unhide HR]
      have h1:=unhide HE
      have h2:=cvs_at l i _ (unhide HD)
      have h3:=cvs_le l i
      have h4:=of_decide_eq_false (unhide HQ)
      have h5:=unhide HM
      simp only at h2
      exact decide_eq_false (by omega)
     have HF:=hide hF
     clear hF
     go_wp2_with fail
     go_ret
     exact⟨by rw [unhide HF];rfl,unhide X7,fun h=>by rw [unhide HF] at h;cases h⟩
    |true=>
     have h4:=of_decide_eq_true (unhide HQ)
     have HE2:Hid (x=(m - cvs l')+(cvs l - cvs (l.drop (i+1)))):=hide (by
      have h1:=unhide HE
      have h2:=cvs_at l i _ (unhide HD)
      have h3:=cvs_le l i
      have h5:=unhide HM
      simp only at h2
      omega)
     have S8:=hide (unhide S7 rfl)
     have hq20:m - cvs l'≤20000:=by omega
     clear h4 S7 HS HE HBB
     go_wp2_with fail
     go_roundw
     case rel=>exact⟨i+1,m - cvs l',by go_num,by omega,hq20,X7,S8,HE2⟩
     case measure=>simp [intOf];omega
  ·have i2:¬(i:Int)<(ll:Int):=by omega
   have hin2:i=ll:=by omega
   have hE:x=y+cvs l:=by
    have h1:=unhide HE
    rw [hin2,(unhide HH).2.2.1,List.drop_length] at h1
    simpa [cvs] using h1
   have hT:R=true:=by rw [←unhide HR];exact decide_eq_true (by omega)
   have hZ2:Z=y:=by rw [←unhide HZ];omega
   have HT:=hide hT
   have HZ2:=hide hZ2
   clear hE hT hZ2
   go_wp2_with fail
   go_ret
   exact⟨by rw [unhide HT];rfl,unhide HBB,fun _=>by rw [unhide HZ2];exact unhide HS⟩
theorem vals_all (N:Nat):VlsAt N:=by
 induction N using Nat.strongRecOn with
 |ind N ih=>exact values_step N ih
theorem keys_no {ks ks':List ByteArray} {i:Nat} {t t':ByteArray} (h:ks[i]?=some t) (h':ks'[i]?=some t') (hb:(t.toList == t'.toList)=false):decide (ks=ks')=false:=decide_eq_false (fun e=>by
 rw [e,h'] at h
 have h2:=(bytes_beq t t').2 (Option.some.inj h).symm
 rw [hb] at h2
 cases h2)
set_option maxRecDepth 100000 in
set_option maxHeartbeats 2000000 in
theorem equalK_any (ks ks':List ByteArray) (ak ak':Option Addr) (m ck m' ck' B:Nat) (w:World) (hk:∀u,Below w.heap.size w u→IsK u ks ak ck) (hk':∀u,Below w.heap.size w u→IsK u ks' ak' ck') (hm:ks.length=m) (hm':ks'.length=m') :
  Calls Tryz.prog 95 #[.slice ak m ck,.slice ak' m' ck'] w fun e w'=>e=.returned (.bool (decide (ks=ks')))∧Below w.heap.size w w':=by
 have hb1:m≤140737488351232∧m'≤140737488351232:=by
  have h1:=(hk w (Below.refl _ _)).len
  have h2:=(hk' w (Below.refl _ _)).len
  have h3:=(hk w (Below.refl _ _)).bnd
  have h4:=(hk' w (Below.refl _ _)).bnd
  omega
 obtain⟨hmb,hmb'⟩:=hb1
 have HK:=hide (And.intro hk hk')
 have HL:=hide (And.intro hm hm')
 obtain⟨R,hR⟩:∃R,decide (ks=ks')=R:=⟨_,rfl⟩
 rw [hR]
 have HR:=hide hR
 clear hk hk' hm hm' hR
 by_cases h5:m=m'
 ·subst h5
  go_enter Tryz.func95,Tryz.ntmps95
  go_wp2_with fail
  go_loopw [13] (fun x wr=>∃(i:Nat),i≤m∧x=.int .i64 i∧Hid (Below w.heap.size w wr)∧Hid (ks.take i=ks'.take i)) (fun x _=>m - (intOf x).toNat)
  case atStart=>exact⟨0,Nat.zero_le _,rfl,hide (Below.refl _ _),hide rfl⟩
  case round=>
   obtain⟨i,hi,rfl,HX,HT⟩:=hrel
   obtain⟨wq,hwq⟩:∃wq,wq=wr:=⟨_,rfl⟩
   subst hwq
   by_cases hlt:i<m
   ·have i2:(i:Int)<(m:Int):=by omega
    have v1:=(unhide HK).1 wq (unhide HX)
    have v2:=(unhide HK).2 wq (unhide HX)
    obtain⟨tk,htk⟩:∃tk,ks[i]?=some tk:=⟨_,List.getElem?_eq_getElem (by have:=(unhide HL).1;omega)⟩
    obtain⟨tk',htk'⟩:∃tk',ks'[i]?=some tk':=⟨_,List.getElem?_eq_getElem (by have:=(unhide HL).2;omega)⟩
    obtain⟨a2,rfl⟩:∃a2,ak=some a2:=by
     cases ak with
     |none=>have h1:=v1.none rfl;have h2:=(unhide HL).1;omega
     |some a2=>exact⟨a2,rfl⟩
    obtain⟨a2',rfl⟩:∃a2',ak'=some a2':=by
     cases ak' with
     |none=>have h1:=v2.none rfl;have h2:=(unhide HL).2;omega
     |some a2=>exact⟨a2,rfl⟩
    have cK:=v1.cell a2 rfl i tk htk
    have cK':=v2.cell a2' rfl i tk' htk'
    have HTK:=hide (And.intro htk htk')
    have HI1:Hid (i+1≤m):=hide (by omega)
    clear v1 v2 htk htk'
    go_upto_region 6 with fail
    cases hbe:(tk.toList == tk'.toList) with
    |true=>
     have HT':Hid (ks.take (i+1)=ks'.take (i+1)):=hide (by
      have e:=(bytes_beq tk tk').1 hbe
      exact take_next ks ks' i tk (unhide HTK).1 (by rw [e];exact(unhide HTK).2) (unhide HT))
     go_quiet (fail)
     go_wp2_with fail
     go_roundw
     case rel=>exact⟨i+1,unhide HI1,by go_num,hide (below_drewP (unhide HX) _),HT'⟩
     case measure=>have:=unhide HI1;simp [intOf];omega
    |false=>
     have HG2:Hid (R=false):=hide (by rw [←unhide HR];exact keys_no (unhide HTK).1 (unhide HTK).2 hbe)
     go_quiet (fail)
     go_wp2_with fail
     go_ret
     exact⟨by rw [unhide HG2];rfl,below_drewP (unhide HX) _⟩
   ·have i2:¬(i:Int)<(m:Int):=by omega
    have HG2:Hid (R=true):=hide (by
     rw [←unhide HR]
     have h:=unhide HT
     have e1:=(unhide HL).1
     have e3:=(unhide HL).2
     rw [List.take_of_length_le (by omega),List.take_of_length_le (by omega)] at h
     exact decide_eq_true h)
    go_wp2_with fail
    go_ret
    exact⟨by rw [unhide HG2];rfl,unhide HX⟩
 ·have h5':(m:Int)≠(m':Int):=by omega
  have hb:((m:Int) != (m':Int))=true:=by simpa using h5'
  have hb2:((m:Int) == (m':Int))=false:=by simpa using h5'
  have HG2:Hid (R=false):=hide (by
   rw [←unhide HR]
   have e1:=(unhide HL).1
   have e3:=(unhide HL).2
   exact decide_eq_false (fun e=>h5 (by rw [←e1,←e3,e])))
  clear h5'
  go_enter Tryz.func95,Tryz.ntmps95
  go_wp2_with fail
  go_ret
  exact⟨by rw [unhide HG2];rfl,Below.refl _ _⟩
def SmvAt (b:Nat):Prop:=∀(v v':Vl) (x x':Value) (B:Nat) (w:World),dep v≤b→IsV w B v x→IsV w B v' x'→B≤w.heap.size →
  Calls Tryz.prog 61 #[x,x'] w fun e w'=>e=.returned (.bool (sameB v v'))∧Below w.heap.size w w'
set_option maxRecDepth 100000 in
set_option maxHeartbeats 2000000 in
theorem eqfV_any (k n k' n':Int) (s s':ByteArray) (l l':List Vl) (ks ks':List ByteArray) (al ak al' ak':Option Addr) (ln cl m ck ln' cl' m' ck' B:Nat) (w:World) (hv:IsV w B (.mk k n s l ks) (.agg #[.int .i64 k,.int .i64 n,.string s,.slice al ln cl,.slice ak m ck])) (hv':IsV w B (.mk k' n' s' l' ks') (.agg #[.int .i64 k',.int .i64 n',.string s',.slice al' ln' cl',.slice ak' m' ck'])) (hBs:B≤w.heap.size) (hln:l.length=ln) (hln':l'.length=ln') (ih:∀(i:Nat) (y y':Vl),l[i]?=some y→l'[i]?=some y'→∀(x x':Value) (u:World),IsV u B y x→IsV u B y' x'→B≤u.heap.size→Calls Tryz.prog 61 #[x,x'] u fun e u'=>e=.returned (.bool (sameB y y'))∧Below u.heap.size u u') :
  Calls Tryz.prog 96 #[.slice al ln cl,.slice al' ln' cl',.func (.func 61) #[] #[]] w fun e w'=>e=.returned (.bool (decide (ln=ln') && sameL l l'))∧Below w.heap.size w w':=by
 have hb1:ln≤140737488351232∧ln'≤140737488351232:=⟨(isV_lt hv).2.2,(isV_lt hv').2.2⟩
 have hc1:ln≤cl∧ln'≤cl':=⟨(isV_lt hv).2.1,(isV_lt hv').2.1⟩
 obtain⟨hlb,hlb'⟩:=hb1
 obtain⟨hcl,hcl'⟩:=hc1
 have HV2:Hid (∀u,Below w.heap.size w u→IsV u B (.mk k n s l ks) (.agg #[.int .i64 k,.int .i64 n,.string s,.slice al ln cl,.slice ak m ck])∧IsV u B (.mk k' n' s' l' ks') (.agg #[.int .i64 k',.int .i64 n',.string s',.slice al' ln' cl',.slice ak' m' ck'])∧B≤u.heap.size):=hide (fun u hu=>⟨hv.mono (hu.mono hBs),hv'.mono (hu.mono hBs),Nat.le_trans hBs hu.size⟩)
 have HI:=hide ih
 have HL:=hide (And.intro hln hln')
 obtain⟨R,hR⟩:∃R,(decide (ln=ln') && sameL l l')=R:=⟨_,rfl⟩
 rw [hR]
 have HR:=hide hR
 clear hv hv' hBs ih hln hln' hR
 by_cases h4:ln=ln'
 ·subst h4
  go_enter Tryz.func96,Tryz.ntmps96
  go_wp2_with fail
  go_loopw [17] (fun x wr=>∃(i:Nat),i≤ln∧x=.int .i64 i∧Hid (Below w.heap.size w wr)∧Hid (sameL (l.take i) (l'.take i)=true)) (fun x _=>ln - (intOf x).toNat)
  case atStart=>exact⟨0,Nat.zero_le _,rfl,hide (Below.refl _ _),hide (by simp [sameL])⟩
  case round=>
   obtain⟨i,hi,rfl,HX,HT⟩:=hrel
   obtain⟨wq,hwq⟩:∃wq,wq=wr:=⟨_,rfl⟩
   subst hwq
   by_cases hlt:i<ln
   ·have i3:(i:Int)<(ln:Int):=by omega
    obtain⟨v1,v2,hBq⟩:=(unhide HV2) wq (unhide HX)
    obtain⟨y,hy⟩:∃y,l[i]?=some y:=⟨_,List.getElem?_eq_getElem (by have:=(unhide HL).1;omega)⟩
    obtain⟨y',hy'⟩:∃y',l'[i]?=some y':=⟨_,List.getElem?_eq_getElem (by have:=(unhide HL).2;omega)⟩
    obtain⟨a,y0,y1,y2,bl,bk,ll',mm,cl1,ck1,rfl,hab,hce,hve⟩:=v1.elem i y hy
    obtain⟨a',z0,z1,z2,bl',bk',zl',zm,cl2,ck2,rfl,hab',hce',hve'⟩:=v2.elem i y' hy'
    have e0:wq.cell? (a.add (i * 5))=some (.int .i64 y0):=hce 0 _ rfl
    have e1:wq.cell? ⟨(a.add (i * 5)).block,(a.add (i * 5)).off+1,none⟩=some (.int .i64 y1):=hce 1 _ rfl
    have e2:wq.cell? ⟨(a.add (i * 5)).block,(a.add (i * 5)).off+2,none⟩=some (.string y2):=hce 2 _ rfl
    have e3:wq.cell? ⟨(a.add (i * 5)).block,(a.add (i * 5)).off+3,none⟩=some (.slice bl ll' cl1):=hce 3 _ rfl
    have e4:wq.cell? ⟨(a.add (i * 5)).block,(a.add (i * 5)).off+4,none⟩=some (.slice bk mm ck1):=hce 4 _ rfl
    obtain⟨w3,hw3⟩:∃w3,wq.alloc (.cells #[(.int .i64 y0),(.int .i64 y1),(.string y2),(.slice bl ll' cl1),(.slice bk mm ck1)] 26)=w3:=⟨_,rfl⟩
    have BX3:=Box.mk' wq (.int .i64 y0) (.int .i64 y1) (.string y2) (.slice bl ll' cl1) (.slice bk mm ck1)
    rw [hw3] at BX3
    have hlt':a'.block<wq.heap.size:=Nat.lt_of_lt_of_le hab' hBq
    have hce3:∀j v,[Value.int .i64 z0,.int .i64 z1,.string z2,.slice bl' zl' cl2,.slice bk' zm ck2][j]?=some v→w3.cell? ((a'.add (i * 5)).add j)=some v:=fun j v hj=>(World.cell?_of_block (BX3.below.block _ (by rw [block_add,block_add];exact hlt'))).trans (hce' j v hj)
    have f0:w3.cell? (a'.add (i * 5))=some (.int .i64 z0):=hce3 0 _ rfl
    have f1:w3.cell? ⟨(a'.add (i * 5)).block,(a'.add (i * 5)).off+1,none⟩=some (.int .i64 z1):=hce3 1 _ rfl
    have f2:w3.cell? ⟨(a'.add (i * 5)).block,(a'.add (i * 5)).off+2,none⟩=some (.string z2):=hce3 2 _ rfl
    have f3:w3.cell? ⟨(a'.add (i * 5)).block,(a'.add (i * 5)).off+3,none⟩=some (.slice bl' zl' cl2):=hce3 3 _ rfl
    have f4:w3.cell? ⟨(a'.add (i * 5)).block,(a'.add (i * 5)).off+4,none⟩=some (.slice bk' zm ck2):=hce3 4 _ rfl
    obtain⟨w4,hw4⟩:∃w4,w3.alloc (.cells #[(.int .i64 z0),(.int .i64 z1),(.string z2),(.slice bl' zl' cl2),(.slice bk' zm ck2)] 26)=w4:=⟨_,rfl⟩
    have BX4:=Box.mk' w3 (.int .i64 z0) (.int .i64 z1) (.string z2) (.slice bl' zl' cl2) (.slice bk' zm ck2)
    rw [hw4] at BX4
    obtain⟨g3,hg3⟩:∃g,wq.heap.size=g:=⟨_,rfl⟩
    obtain⟨g4,hg4⟩:∃g,w3.heap.size=g:=⟨_,rfl⟩
    have b4:Below wq.heap.size wq w4:=BX3.below.trans (BX4.below.mono BX3.below.size)
    have CR:=hide ((unhide HI) i y y' hy hy' (.agg #[(.int .i64 y0),(.int .i64 y1),(.string y2),(.slice bl ll' cl1),(.slice bk mm ck1)]) (.agg #[(.int .i64 z0),(.int .i64 z1),(.string z2),(.slice bl' zl' cl2),(.slice bk' zm ck2)]) w4 (hve.mono (b4.mono hBq)) (hve'.mono (b4.mono hBq)) (Nat.le_trans hBq b4.size))
    have R3:=hide ((BX4.below.block _ (lt_of_row BX3.row)).trans BX3.row)
    have R4:=hide BX4.row
    have X4:=hide ((unhide HX).trans (b4.mono (unhide HX).size))
    have HY:=hide (And.intro hy hy')
    have HW3:=hide (And.intro hw3 hg3)
    have HW4:=hide (And.intro hw4 hg4)
    obtain⟨Q,hQ⟩:∃Q,sameB y y'=Q:=⟨_,rfl⟩
    rw [hQ] at CR
    have HQ:=hide hQ
    clear v1 v2 hBq hy hy' hab hce hve hab' hce' hve' hw3 hw4 BX3 BX4 hg3 hg4 b4 hlt' hce3 hQ
    go_upto_region 6 with fail
    rw [(unhide HW3).1]
    try rw [(unhide HW3).2]
    clear e0 e1 e2 e3 e4
    go_upto_region 7 with fail
    rw [(unhide HW4).1]
    try rw [(unhide HW4).2]
    clear f0 f1 f2 f3 f4
    obtain⟨p0,p1,p2,p3,p4⟩:=row_cell (unhide R3)
    obtain⟨q0,q1,q2,q3,q4⟩:=row_cell (unhide R4)
    rw [(unhide HW3).2] at p0 p1 p2 p3 p4
    rw [(unhide HW4).2] at q0 q1 q2 q3 q4
    clear HW3 HW4
    go_wp2_with fail
    refine(unhide CR).mono ?_
    rintro e w5 ⟨rfl,b5⟩
    have HX5:Hid (Below w.heap.size w w5):=hide ((unhide X4).trans (b5.mono (unhide X4).size))
    clear b5 CR p0 p1 p2 p3 p4 q0 q1 q2 q3 q4
    have HI1:Hid (i+1≤ln):=hide (by omega)
    cases Q with
    |true=>
     have HT':Hid (sameL (l.take (i+1)) (l'.take (i+1))=true):=hide (by
      rw [sameL_next l l' i y y' (unhide HY).1 (unhide HY).2,unhide HT,unhide HQ];rfl)
     go_wp2_with fail
     go_roundw
     case rel=>exact⟨i+1,unhide HI1,by go_num,HX5,HT'⟩
     case measure=>have:=unhide HI1;simp [intOf];omega
    |false=>
     have HG2:Hid (R=false):=hide (by
      obtain⟨e1,e2⟩:=unhide HL
      rw [←unhide HR,sameL_no l l' i y y' (unhide HY).1 (unhide HY).2 (by omega) (unhide HQ),Bool.and_false])
     go_wp2_with fail
     go_ret
     exact⟨by rw [unhide HG2];rfl,unhide HX5⟩
   ·have i3:¬(i:Int)<(ln:Int):=by omega
    have HG2:Hid (R=true):=hide (by
     obtain⟨e1,e2⟩:=unhide HL
     have h:=unhide HT
     rw [List.take_of_length_le (by omega),List.take_of_length_le (by omega)] at h
     rw [←unhide HR,h];simp)
    go_wp2_with fail
    go_ret
    exact⟨by rw [unhide HG2];rfl,unhide HX⟩
 ·have h4':(ln:Int)≠(ln':Int):=by omega
  have hb:((ln:Int) != (ln':Int))=true:=by simpa using h4'
  have hb2:((ln:Int) == (ln':Int))=false:=by simpa using h4'
  have HG2:Hid (R=false):=hide (by rw [←unhide HR,decide_eq_false h4,Bool.false_and])
  clear h4'
  go_enter Tryz.func96,Tryz.ntmps96
  go_wp2_with fail
  go_ret
  exact⟨by rw [unhide HG2];rfl,Below.refl _ _⟩
set_option maxRecDepth 100000 in
set_option maxHeartbeats 2000000 in
theorem smv_step (b:Nat) (ih:SmvAt b):SmvAt (b+1):=by
 intro v v' x x' B w hd hv hv' hBs
 obtain⟨k,n,s,l,ks,al,ak,cl,ck,rfl,rfl⟩:=hv.shape
 obtain⟨k',n',s',l',ks',al',ak',cl',ck',rfl,rfl⟩:=hv'.shape
 obtain⟨m,hm⟩:∃m,ks.length=m:=⟨_,rfl⟩
 obtain⟨ln,hln⟩:∃ln,l.length=ln:=⟨_,rfl⟩
 obtain⟨m',hm'⟩:∃m',ks'.length=m':=⟨_,rfl⟩
 obtain⟨ln',hln'⟩:∃ln',l'.length=ln':=⟨_,rfl⟩
 rw [hm,hln] at hv
 rw [hm',hln'] at hv'
 rw [hm,hln,hm',hln']
 have TW:=TwoL.mk' w 26 #[.int .i64 k,.int .i64 n,.string s,.slice al ln cl,.slice ak m ck] #[.int .i64 k',.int .i64 n',.string s',.slice al' ln' cl',.slice ak' m' ck']
 obtain⟨w2,hw2⟩:∃w2,(w.alloc (.cells #[.int .i64 k,.int .i64 n,.string s,.slice al ln cl,.slice ak m ck] 26)).alloc (.cells #[.int .i64 k',.int .i64 n',.string s',.slice al' ln' cl',.slice ak' m' ck'] 26)=w2:=⟨_,rfl⟩
 rw [hw2] at TW
 obtain⟨g,hg⟩:∃g,w.heap.size=g:=⟨_,rfl⟩
 rw [hg] at TW
 have HT:=hide TW
 have HV:Hid (∀u,Below w2.heap.size w2 u→IsV u B (.mk k n s l ks) (.agg #[.int .i64 k,.int .i64 n,.string s,.slice al ln cl,.slice ak m ck])∧IsV u B (.mk k' n' s' l' ks') (.agg #[.int .i64 k',.int .i64 n',.string s',.slice al' ln' cl',.slice ak' m' ck'])∧B≤u.heap.size):=
  hide (fun u hu=>by
   have h1:Below B w u:=(TW.below.mono (by omega)).trans (hu.mono (by have:=TW.size;omega))
   exact⟨hv.mono h1,hv'.mono h1,by have:=TW.size;have:=hu.size;omega⟩)
 have HB:Hid (Below w.heap.size w w2):=hide TW.below
 have HGs:Hid (g≤w2.heap.size):=hide (by have:=TW.size;omega)
 obtain⟨c0,c1,c2,c3,c4⟩:=row_cell TW.at0
 obtain⟨d0,d1,d2,d3,d4⟩:=row_cell TW.at1
 have HL:=hide (And.intro hm (And.intro hln (And.intro hm' hln')))
 have hdl:∀i y,l[i]?=some y→dep y≤b:=fun i y h=>by have h1:=dep_elem l i y h;simp only [dep] at hd;omega
 have HD:=hide hdl
 have CE:=hide (equalK_any ks ks' ak ak' m ck m' ck' B w2 (fun u hu=>((unhide HV) u hu).1.keys.1) (fun u hu=>((unhide HV) u hu).2.1.keys.1) hm hm')
 obtain⟨Q,hQ⟩:∃Q,decide (ks=ks')=Q:=⟨_,rfl⟩
 rw [hQ] at CE
 have HS:Hid (sameB (.mk k n s l ks) (.mk k' n' s' l' ks')=(decide (k=k') && decide (n=n') && (s.toList == s'.toList) && decide (ln=ln') && Q && sameL l l')):=hide (by simp only [sameB];rw [hln,hln',hQ])
 obtain⟨R,hR⟩:∃R,sameB (.mk k n s l ks) (.mk k' n' s' l' ks')=R:=⟨_,rfl⟩
 rw [hR] at HS ⊢
 clear TW hv hv' hm hln hm' hln' hdl hd hQ hR
 by_cases h1:k=k'
 ·subst h1
  by_cases h2:n=n'
  ·subst h2
   cases h3:(s.toList == s'.toList) with
   |true=>
    rw [h3] at HS
    go_enter Tryz.func61,Tryz.ntmps61
    go_wp2_with fail
    refine(unhide CE).mono ?_
    rintro e w3 ⟨rfl,b3⟩
    have X3:=hide ((unhide HB).trans (b3.mono (by rw [hg];exact unhide HGs)))
    have T3:=hide ((unhide HT).later b3)
    have B3:=hide b3
    clear b3 CE c0 c1 c2 c3 c4 d0 d1 d2 d3 d4
    cases Q with
    |false=>
     have HG:Hid (R=false):=hide (by rw [unhide HS];simp)
     go_wp2_with fail
     go_ret
     exact⟨by rw [unhide HG];rfl,by first|exact unhide X3|(rw [←hg];exact unhide X3)⟩
    |true=>
     obtain⟨v1,v2,hB3⟩:=(unhide HV) w3 (unhide B3)
     have CF:=hide (eqfV_any k n k n s s' l l' ks ks' al ak al' ak' ln cl m ck ln' cl' m' ck' B w3 v1 v2 hB3 (unhide HL).2.1 (unhide HL).2.2.2 (fun i y y' hy hy' x x' u hx hx' hu=>ih y y' x x' B u (unhide HD i y hy) hx hx' hu))
     obtain⟨q,hq⟩:∃q,(decide (ln=ln') && sameL l l')=q:=⟨_,rfl⟩
     rw [hq] at CF
     have HG:Hid (R=q):=hide (by rw [unhide HS,←hq];simp)
     obtain⟨c0,c1,c2,c3,c4⟩:=row_cell (unhide T3).1
     obtain⟨d0,d1,d2,d3,d4⟩:=row_cell (unhide T3).2
     clear hq v1 v2 hB3
     go_wp2_with fail
     refine(unhide CF).mono ?_
     rintro e w4 ⟨rfl,b4⟩
     have X4:=hide ((unhide X3).trans (b4.mono (unhide X3).size))
     clear b4 CF c0 c1 c2 c3 c4 d0 d1 d2 d3 d4
     go_wp2_with fail
     go_ret
     exact⟨by rw [unhide HG];rfl,by first|exact unhide X4|(rw [←hg];exact unhide X4)⟩
   |false=>
    have HG:Hid (R=false):=hide (by rw [unhide HS,h3];simp)
    go_enter Tryz.func61,Tryz.ntmps61
    go_wp2_with fail
    go_ret
    exact⟨by rw [unhide HG];rfl,by first|exact unhide HB|(rw [←hg];exact unhide HB)⟩
  ·have HG:Hid (R=false):=hide (by rw [unhide HS];simp [h2])
   have hb:(n == n')=false:=by simpa using h2
   clear h2
   go_enter Tryz.func61,Tryz.ntmps61
   go_wp2_with fail
   go_ret
   exact⟨by rw [unhide HG];rfl,by first|exact unhide HB|(rw [←hg];exact unhide HB)⟩
 ·have HG:Hid (R=false):=hide (by rw [unhide HS];simp [h1])
  have hb:(k == k')=false:=by simpa using h1
  clear h1
  go_enter Tryz.func61,Tryz.ntmps61
  go_wp2_with fail
  go_ret
  exact⟨by rw [unhide HG];rfl,by first|exact unhide HB|(rw [←hg];exact unhide HB)⟩
theorem smv_any:∀b,SmvAt b
 |0=>fun v _ _ _ _ _ h=>by have:=dep_pos v;omega
 |b+1=>smv_step b (smv_any b)
end Go.Proofs.YtekbmfppfjlboaaGreatDoor
