/-
  has a tree no more parts than may be.
  has a tree no more parts than may be.
  Conditions: where nodes are told of, they lie in memory.
-/
import Derived.Test.YtlkeaaopdnnceaaGreatDoorA09
set_option linter.unusedVariables false
set_option linter.unusedSimpArgs false
set_option maxRecDepth 100000
set_option maxHeartbeats 8000000
namespace Go.Proofs.YtlkeaaopdnnceaaGreatDoor
open Go.RowKit
set_option linter.unusedVariables false
set_option linter.unusedSimpArgs false
structure Bes (gl:Nat) (w w':World):Prop where
 os:w'.os=w.os
 tape:w'.tape=w.tape
 output:w'.output=w.output
 size:w.heap.size≤w'.heap.size
 block:∀k,k<w.heap.size→k≠gl→w'.heap[k]?=w.heap[k]?
theorem Bes.trans {gl:Nat} {a b c:World} (h:Bes gl a b) (k:Bes gl b c):Bes gl a c:=
 ⟨k.os.trans h.os,k.tape.trans h.tape,k.output.trans h.output,Nat.le_trans h.size k.size,fun i hi hn=>(k.block i (Nat.lt_of_lt_of_le hi h.size) hn).trans (h.block i hi hn)⟩
theorem Bes.of {gl:Nat} {a b:World} (h:Below a.heap.size a b):Bes gl a b:=⟨h.os,h.tape,h.output,h.size,fun k hk _=>h.block k hk⟩
theorem Bes.below {gl B:Nat} {a b:World} (h:Bes gl a b) (hB:B≤gl) (hs:B≤a.heap.size):Below B a b:=⟨h.os,h.tape,h.output,h.size,fun k hk=>h.block k (Nat.lt_of_lt_of_le hk hs) (by omega)⟩
theorem Bes.set {gl:Nat} {a b:World} (h:Bes gl a b) (v:Value):Bes gl a (b.setCell ⟨gl,0,none⟩ v):=by
 have hb:=(Below.refl 0 b).setCell (p:=⟨gl,0,none⟩) (Nat.zero_le _) v
 exact⟨hb.os.trans h.os,hb.tape.trans h.tape,hb.output.trans h.output,Nat.le_trans h.size hb.size,fun k hk hn=>by rw [heap_setCell_other _ _ _ _ hn];exact h.block k hk hn⟩
structure Sml (w:World) (gl gv:Nat) (x:Int):Prop where
 lf:w.heap[gl]?=some (.cells #[.int .i64 x] 3 (0,0))
 fv:w.heap[gv]?=some (.cells #[.func (.func 58) #[] #[.pointer (some ⟨gl,0,none⟩),.pointer (some ⟨gv,0,none⟩)]] 62 (0,0))
theorem Sml.set {w:World} {gl gv:Nat} {x:Int} (h:Sml w gl gv x) (hn:gv≠gl) (y:Int):Sml (w.setCell ⟨gl,0,none⟩ (.int .i64 y)) gl gv y:=
 ⟨by rw [heap_setCell_same w gl 0 _ _ _ h.lf];rfl,by rw [heap_setCell_other _ _ _ _ hn];exact h.fv⟩
theorem Sml.later {w u:World} {gl gv:Nat} {x:Int} (h:Sml w gl gv x) (hb:Below w.heap.size w u):Sml u gl gv x:=⟨Below.cellsAt hb h.lf,Below.cellsAt hb h.fv⟩
theorem cvs_le:∀(l:List Vl) (i:Nat),cvs (l.drop i)≤cvs l:=by
 intro l
 induction l with
 |nil=>intro i;simp
 |cons a r ih=>
  intro i
  cases i with
  |zero=>simp
  |succ i=>obtain⟨k,n,s,l,ks⟩:=a;have:=ih i;simp only [List.drop_succ_cons,cvs];omega
theorem cvs_mem:∀(l:List Vl) (i:Nat) (y:Vl),l[i]?=some y→1+cvs y.l≤cvs l:=by
 intro l i y h
 have h1:=cvs_at l i y h
 have h2:∀(l:List Vl) (i:Nat),cvs (l.drop i)≤cvs l:=by
  intro l
  induction l with
  |nil=>intro i;simp
  |cons a r ih=>
   intro i
   cases i with
   |zero=>simp
   |succ i=>obtain⟨k,n,s,l,ks⟩:=a;have:=ih i;simp only [List.drop_succ_cons,cvs];omega
 have:=h2 l i
 omega
theorem isV_lt {w:World} {B:Nat} {kind n:Int} {s:ByteArray} {l:List Vl} {ks:List ByteArray} {al ak:Option Addr} {ll cl lk ck:Nat} (h:IsV w B (.mk kind n s l ks) (.agg #[.int .i64 kind,.int .i64 n,.string s,.slice al ll cl,.slice ak lk ck])):ll=l.length∧ll≤cl∧ll≤140737488351232:=by
 obtain⟨_,_,_,h1,h2,V,hf,_⟩:=IsP.at h
 exact⟨h1,by rw [h1];exact hf.ll,by rw [h1];exact hf.bl⟩
def VlsAt (N:Nat):Prop:=∀(kind n:Int) (s:ByteArray) (l:List Vl) (ks:List ByteArray) (al ak:Option Addr) (ll cl lk ck x B gl gv:Nat) (w:World),cvs l≤N→IsV w B (.mk kind n s l ks) (.agg #[.int .i64 kind,.int .i64 n,.string s,.slice al ll cl,.slice ak lk ck])→B≤gl→B≤gv→gv≠gl→B≤w.heap.size→x≤20000→Sml w gl gv (x:Int) →
 Calls Tryz.prog 58 #[.slice al ll cl,.pointer (some ⟨gl,0,none⟩),.pointer (some ⟨gv,0,none⟩)] w fun e w'=>e=.returned (.bool (decide (cvs l≤x)))∧Bes gl w w'∧(decide (cvs l≤x)=true→Sml w' gl gv ((x - cvs l:Nat):Int))
theorem values_step (N:Nat) (ih:∀M,M<N→VlsAt M):VlsAt N:=by
 intro kind n s l ks al ak ll cl lk ck x B gl gv w hN hv hl hg hne hB hx hs
 obtain⟨hll,hlc,hlb⟩:=isV_lt hv
 have HH:=hZ (And.intro hv (And.intro hs (And.intro hll (And.intro hB hN))))
 have HG:=hZ (And.intro hl (And.intro hg hne))
 obtain⟨R,hR⟩:∃R,decide (cvs l≤x)=R:=⟨_,rfl⟩
 rw [hR]
 have HR:=hZ hR
 obtain⟨Z,hZz⟩:∃Z,x - cvs l=Z:=⟨_,rfl⟩
 rw [hZz]
 have HZ:=hZ hZz
 clear hv hs hll hB hN hl hg hR hZz
 go_enter Tryz.func58,Tryz.ntmps58
 go_wp2_with fail
 go_loopw [9] (fun xx wr=>∃(i y:Nat),xx=.int .i64 (i:Int)∧i≤ll∧y≤20000∧Hid (Bes gl w wr)∧Hid (Sml wr gl gv (y:Int))∧Hid (x=y+(cvs l - cvs (l.drop i)))) (fun xx _=>ll - (intOf xx).toNat)
 case atStart=>exact⟨0,x,rfl,Nat.zero_le _,hx,hZ ⟨rfl,rfl,rfl,Nat.le_refl _,fun _ _ _=>rfl⟩,hZ (uZ HH).2.1,hZ (by simp)⟩
 case round=>
  obtain⟨i,y,rfl,hin,hy20,HBB,HS,HE⟩:=hrel
  obtain⟨wq,hwq⟩:∃wq,wq=wr:=⟨_,rfl⟩
  subst hwq
  by_cases hi:i<ll
  ·have i2:(i:Int)<(ll:Int):=by omega
   obtain⟨hv,hs,hll,hB,hN⟩:=uZ HH
   obtain⟨hl,hg,hne⟩:=uZ HG
   have bq:=(uZ HBB).below hl hB
   obtain⟨z,hz⟩:∃z,l[i]?=some z:=⟨_,List.getElem?_eq_getElem (by omega)⟩
   obtain⟨a,y0,y1,y2,al',ak',ll',m',cl',ck',rfl,hab,hce,hve⟩:=(hv.mono bq).elem i z hz
   have e0:wq.cell? (a.add (i * 5))=some (.int .i64 y0):=hce 0 (.int .i64 y0) rfl
   have e1:wq.cell? ⟨(a.add (i * 5)).block,(a.add (i * 5)).off+1,none⟩=some (.int .i64 y1):=hce 1 (.int .i64 y1) rfl
   have e2:wq.cell? ⟨(a.add (i * 5)).block,(a.add (i * 5)).off+2,none⟩=some (.string y2):=hce 2 (.string y2) rfl
   have e3:wq.cell? ⟨(a.add (i * 5)).block,(a.add (i * 5)).off+3,none⟩=some (.slice al' ll' cl'):=hce 3 (.slice al' ll' cl') rfl
   have e4:wq.cell? ⟨(a.add (i * 5)).block,(a.add (i * 5)).off+4,none⟩=some (.slice ak' m' ck'):=hce 4 (.slice ak' m' ck') rfl
   obtain⟨w5,hw5⟩:∃w5,wq.alloc (.cells #[(.int .i64 y0),(.int .i64 y1),(.string y2),(.slice al' ll' cl'),(.slice ak' m' ck')] 26)=w5:=⟨_,rfl⟩
   have BX5:=Box.mk' wq (.int .i64 y0) (.int .i64 y1) (.string y2) (.slice al' ll' cl') (.slice ak' m' ck')
   rw [hw5] at BX5
   obtain⟨g5,hg5⟩:∃g,wq.heap.size=g:=⟨_,rfl⟩
   have S5:=(uZ HS).later BX5.below
   obtain⟨q1,f1⟩:=one_cell S5.lf
   have hgl5:gl<g5:=by rw [←hg5];exact(Array.getElem?_eq_some_iff.1 (uZ HS).lf).1
   obtain⟨w6,hw6⟩:∃w6,w5.setCell ⟨gl,0,none⟩ (.int .i64 ((y:Int) - 1))=w6:=⟨_,rfl⟩
   have S6:Sml w6 gl gv ((y:Int) - 1):=by rw [←hw6];exact S5.set hne _
   have R6:w6.heap[g5]?=some (.cells #[(.int .i64 y0),(.int .i64 y1),(.string y2),(.slice al' ll' cl'),(.slice ak' m' ck')] 26 (0,0)):=by rw [←hw6,heap_setCell_other _ _ _ _ (by simp;omega),←hg5];exact BX5.row
   have B6:Bes gl wq w6:=by rw [←hw6];exact(Bes.of BX5.below).set _
   have hBq:B≤wq.heap.size:=Nat.le_trans hB (uZ HBB).size
   have hv6:IsV w6 B z (.agg #[.int .i64 y0,.int .i64 y1,.string y2,.slice al' ll' cl',.slice ak' m' ck']):=hve.mono (B6.below hl hBq)
   have X6:=hZ ((uZ HBB).trans B6)
   have HY5:=hZ hw5
   have HY6:=hZ hw6
   have HV6:=hZ (And.intro hv6 (And.intro S6 (And.intro hBq B6)))
   have HGG:=hZ hg5
   have HR5:=hZ (row_cell R6).2.2.2.1
   have HD:=hZ hz
   clear hv hs hB hN hll hl hg bq hz hce hve BX5 S5 S6 R6 B6 hBq hv6 hw5 hw6
   go_upto_region 4 with fail
   rw [uZ HY5]
   try rw [uZ HGG]
   have e5:IntKind.i64.wrap ((y:Int) - 1)=(y:Int) - 1:=by rw [IntKind.wrap_i64];omega
   clear HY5 e0 e1 e2 e3 e4
   go_upto_region 5 with fail
   rw [uZ HY6]
   clear HY6 q1 f1
   obtain⟨q1,f1⟩:=one_cell (uZ HV6).2.1.lf
   by_cases hy0:y=0
   ·subst hy0
    have l1:((0:Nat):Int) - 1<0:=by omega
    have hF:R=false:=by
     rw [←uZ HR]
     have h1:=uZ HE
     have h2:=cvs_at l i z (uZ HD)
     have h3:=cvs_le l i
     exact decide_eq_false (by omega)
    have HF:=hZ hF
    clear hF
    go_wp2_with fail
    go_ret
    exact⟨by rw [uZ HF];rfl,uZ X6,fun h=>by rw [uZ HF] at h;cases h⟩
   ·obtain⟨m,hm⟩:∃m,y=m+1:=⟨y - 1,by omega⟩
    have em:(y:Int) - 1=(m:Int):=by omega
    have HM:=hZ hm
    have hm20:m≤20000:=by omega
    rw [em] at q1 HV6
    obtain⟨hv6,S6,hBq,B6⟩:=uZ HV6
    obtain⟨k',n',s',l',ks',_,_,_,_,rfl,_⟩:=hv6.shape
    obtain⟨hv6,h1,h2⟩:IsV w6 B (.mk k' n' s' l' ks') (.agg #[.int .i64 k',.int .i64 n',.string s',.slice al' ll' cl',.slice ak' m' ck'])∧y0=k'∧y1=n':=by
     obtain⟨e1,e2,e3,_⟩:=IsP.at hv6
     subst e1 e2 e3
     exact⟨hv6,rfl,rfl⟩
    have q2:=(one_cell S6.fv).1
    have CI:=hZ (ih (cvs l') (by have h5:=cvs_mem l i _ (uZ HD);have h6:=(uZ HH).2.2.2.2;simp only at h5;omega) k' n' s' l' ks' al' ak' ll' cl' m' ck' m B gl gv w6 (Nat.le_refl _) hv6 (uZ HG).1 (uZ HG).2.1 (uZ HG).2.2 (Nat.le_trans hBq B6.size) hm20 S6)
    have HW6:=hZ (And.intro B6 S6)
    have l1:¬(m:Int)<0:=by omega
    obtain⟨Q,hQ⟩:∃Q,decide (cvs l'≤m)=Q:=⟨_,rfl⟩
    rw [hQ] at CI
    have HQ:=hZ hQ
    have HR6:=hZ (show w6.cell? ⟨g5,3,none⟩=some (.slice al' ll' cl') from uZ HR5)
    have r3:=uZ HR6
    clear hQ hm hv6 S6 hBq B6 h1 h2 HV6 em hy0
    go_wp2_with fail
    refine(uZ CI).mono ?_
    rintro e w7 ⟨rfl,b7,s7⟩
    have X7:=hZ ((uZ X6).trans b7)
    have S7:=hZ s7
    clear b7 s7 CI q1 f1 q2 r3
    cases Q with
    |false=>
     have hF:R=false:=by
      rw [←uZ HR]
      have h1:=uZ HE
      have h2:=cvs_at l i _ (uZ HD)
      have h3:=cvs_le l i
      have h4:=of_decide_eq_false (uZ HQ)
      have h5:=uZ HM
      simp only at h2
      exact decide_eq_false (by omega)
     have HF:=hZ hF
     clear hF
     go_wp2_with fail
     go_ret
     exact⟨by rw [uZ HF];rfl,uZ X7,fun h=>by rw [uZ HF] at h;cases h⟩
    |true=>
     have h4:=of_decide_eq_true (uZ HQ)
     have HE2:Hid (x=(m - cvs l')+(cvs l - cvs (l.drop (i+1)))):=hZ (by
      have h1:=uZ HE
      have h2:=cvs_at l i _ (uZ HD)
      have h3:=cvs_le l i
      have h5:=uZ HM
      simp only at h2
      omega)
     have S8:=hZ (uZ S7 rfl)
     have hq20:m - cvs l'≤20000:=by omega
     clear h4 S7 HS HE HBB
     go_wp2_with fail
     go_roundw
     case rel=>exact⟨i+1,m - cvs l',by go_num,by omega,hq20,X7,S8,HE2⟩
     case measure=>simp [intOf];omega
  ·have i2:¬(i:Int)<(ll:Int):=by omega
   have hin2:i=ll:=by omega
   have hE:x=y+cvs l:=by
    have h1:=uZ HE
    rw [hin2,(uZ HH).2.2.1,List.drop_length] at h1
    simpa [cvs] using h1
   have hT:R=true:=by rw [←uZ HR];exact decide_eq_true (by omega)
   have hZ2:Z=y:=by rw [←uZ HZ];omega
   have HT:=hZ hT
   have HZ2:=hZ hZ2
   clear hE hT hZ2
   go_wp2_with fail
   go_ret
   exact⟨by rw [uZ HT];rfl,uZ HBB,fun _=>by rw [uZ HZ2];exact uZ HS⟩
theorem vals_all (N:Nat):VlsAt N:=by
 induction N using Nat.strongRecOn with
 |ind N ih=>exact values_step N ih
theorem cns_le:∀(l:List Tn) (i:Nat),cns (l.drop i)≤cns l:=by
 intro l
 induction l with
 |nil=>intro i;simp
 |cons a r ih=>
  intro i
  cases i with
  |zero=>simp
  |succ i=>obtain⟨k,t,v,f,ks,p⟩:=a;have:=ih i;simp only [List.drop_succ_cons,cns];omega
def kcnt (l:List Tn) (i:Nat):Nat:=cns l - cns (l.drop i)
theorem kcnt_zero (l:List Tn):kcnt l 0=0:=by simp [kcnt]
theorem kcnt_all (l:List Tn):kcnt l l.length=cns l:=by simp [kcnt,cns]
theorem kcnt_up (l:List Tn) (i:Nat) (y:Tn) (h:l[i]?=some y):kcnt l (i+1)=kcnt l i+cns [y]:=by
 have h1:=cns_at l i y h
 have h2:=cns_le l i
 have h3:=cns_le l (i+1)
 have h4:=cns_one y
 unfold kcnt
 omega
theorem kcnt_mono (l:List Tn) (i:Nat):kcnt l i≤cns l:=by unfold kcnt;omega
theorem range_cnt (l:List Tn) (t:Nat):(List.range l.length).all (fun i=>decide (kcnt l (i+1)≤t))=decide (cns l≤t):=by
 rw [Bool.eq_iff_iff,List.all_eq_true,decide_eq_true_eq]
 constructor
 ·intro h
  by_cases h0:l.length=0
  ·have:l=[]:=List.eq_nil_of_length_eq_zero h0
   subst this
   simp [cns]
  ·have h1:=h (l.length - 1) (List.mem_range.2 (by omega))
   rw [show l.length - 1+1=l.length by omega,kcnt_all] at h1
   simpa using h1
 ·intro h i _
  have:=kcnt_mono l (i+1)
  simp only [decide_eq_true_eq]
  omega
def NdsAt (N:Nat):Prop:=∀(y:Tn) (x:List Value) (t B gl gv gn:Nat) (w:World),cns [y]≤N→IsN w (fun b=>b<B) y x→B≤gl→B≤gv→gv≠gl→gn≠gl→B≤w.heap.size→t≤20000→Sml w gl gv (t:Int) →
 w.heap[gn]?=some (.cells #[.func (.func 59) #[] #[.pointer (some ⟨gl,0,none⟩),.pointer (some ⟨gv,0,none⟩),.pointer (some ⟨gn,0,none⟩)]] 34 (0,0)) →
 Calls Tryz.prog 59 #[.agg x.toArray,.pointer (some ⟨gl,0,none⟩),.pointer (some ⟨gv,0,none⟩),.pointer (some ⟨gn,0,none⟩)] w fun e w'=>e=.returned (.bool (decide (cns [y]≤t)))∧Bes gl w w'∧(decide (cns [y]≤t)=true→Sml w' gl gv ((t - cns [y]:Nat):Int))
theorem call_nds (x:Array Value) (u:World):Sem.run Tryz.prog (callFunc 59 x) u=.ok (.enter 59 x) u:=by kernel_rfl
theorem nodes_step (N:Nat) (ih:NdsAt N):NdsAt (N+1):=by
 intro y x t B gl gv gn w hN hx hl hg hne hnn hB ht hs hgn
 obtain⟨vk,vn,vs,al,ak,a,ll,cl,lk,ck,cc,rfl,hv,hr,hbk,hbp⟩:=hx.opn
 obtain⟨k,tx,v,f,ks,p⟩:=y
 obtain⟨kd,nn,ss,l,vks⟩:=v
 obtain⟨e1,e2,e3,-⟩:=IsP.at hv
 simp only at e1 e2 e3 hv hr ⊢
 subst e1 e2 e3
 obtain⟨n,hn⟩:∃n,ks.length=n:=⟨_,rfl⟩
 simp only [hn]
 have hc1:cns [⟨k,tx,⟨vk,vn,vs,l,vks⟩,f,ks,p⟩]=1+cvs l+cns ks:=cns_one _
 rw [hc1] at hN ⊢
 have hsub:∀z∈ks,cns [z]≤N:=fun z hz=>by
  have h1:=cns_mem ks z hz
  omega
 obtain⟨w1,hw1⟩:∃w1,w.alloc (.cells #[.int .i64 k,.string tx,.int .i64 vk,.int .i64 vn,.string vs,.slice al ll cl,.slice ak lk ck,.bool f,.slice a n cc,.int .i64 p] 28)=w1:=⟨_,rfl⟩
 obtain⟨G,hG⟩:∃G,w.heap.size=G:=⟨_,rfl⟩
 have A1:=(al1 hw1 hG).1
 have X1:Below w.heap.size w w1:=by rw [←hw1];exact(Below.refl _ _).alloc (Nat.le_refl _) _
 have S1:=hs.later X1
 obtain⟨q1,f1⟩:=one_cell S1.lf
 have hglG:gl<G:=by rw [←hG];exact(Array.getElem?_eq_some_iff.1 hs.lf).1
 obtain⟨w2,hw2⟩:∃w2,w1.setCell ⟨gl,0,none⟩ (.int .i64 ((t:Int) - 1))=w2:=⟨_,rfl⟩
 have S2:Sml w2 gl gv ((t:Int) - 1):=by rw [←hw2];exact S1.set hne _
 have A2:w2.heap[G]?=some (.cells #[.int .i64 k,.string tx,.int .i64 vk,.int .i64 vn,.string vs,.slice al ll cl,.slice ak lk ck,.bool f,.slice a n cc,.int .i64 p] 28 (0,0)):=by rw [←hw2,heap_setCell_other _ _ _ _ (by simp;omega)];exact A1
 have B2:Bes gl w w2:=by rw [←hw2];exact(Bes.of X1).set _
 have N2:=(B2.block gn (lt_of_row hgn) hnn).trans hgn
 have H2:=hZ (And.intro S2 (And.intro A2 (And.intro B2 N2)))
 have HH:=hZ (And.intro hv (And.intro hr (And.intro hn (And.intro hsub (And.intro hB hglG)))))
 have HG:=hZ (And.intro hl (And.intro hg (And.intro hne hnn)))
 obtain⟨R,hR⟩:∃R,decide (1+cvs l+cns ks≤t)=R:=⟨_,rfl⟩
 rw [hR]
 have HR:=hZ hR
 obtain⟨Z,hZz⟩:∃Z,t - (1+cvs l+cns ks)=Z:=⟨_,rfl⟩
 rw [hZz]
 have HZ:=hZ hZz
 have HW1:=hZ hw1
 have HW2:=hZ hw2
 have e5:IntKind.i64.wrap ((t:Int) - 1)=(t:Int) - 1:=by rw [IntKind.wrap_i64];omega
 clear hv hr hn hsub hB hl hg hne hnn hs hgn hx hbk hbp hN hc1 X1 A1 S1 S2 A2 B2 N2 hw1 hw2 hR hZz hglG
 go_enter Tryz.func59,Tryz.ntmps59
 go_upto_region 1 with fail
 rw [uZ HW1]
 try rw [hG]
 clear HW1
 go_upto_region 2 with fail
 rw [uZ HW2]
 clear HW2 q1 f1
 obtain⟨q1,f1⟩:=one_cell (uZ H2).1.lf
 by_cases ht0:t=0
 ·subst ht0
  have l1:¬(0:Int)≤((0:Nat):Int) - 1:=by omega
  have HF:=hZ (show R=false by rw [←uZ HR];exact decide_eq_false (by omega))
  go_wp2_with fail
  go_ret
  exact⟨by rw [uZ HF];rfl,(uZ H2).2.2.1,fun h=>by rw [uZ HF] at h;cases h⟩
 ·obtain⟨m,hm⟩:∃m,t=m+1:=⟨t - 1,by omega⟩
  have em:(t:Int) - 1=(m:Int):=by omega
  have HM:=hZ hm
  have hm20:m≤20000:=by omega
  rw [em] at q1 H2
  obtain⟨S2,A2,B2,N2⟩:=uZ H2
  have BB2:Below B w w2:=B2.below (uZ HG).1 (uZ HH).2.2.2.2.1
  have hBw2:B≤w2.heap.size:=Nat.le_trans (uZ HH).2.2.2.2.1 B2.size
  have q2:=(one_cell S2.fv).1
  have CI:=hZ (vals_all _ vk vn vs l vks al ak ll cl lk ck m B gl gv w2 (Nat.le_refl _) ((uZ HH).1.mono BB2) (uZ HG).1 (uZ HG).2.1 (uZ HG).2.2.1 hBw2 hm20 S2)
  have l1:(0:Int)≤(m:Int):=by omega
  obtain⟨Q,hQ⟩:∃Q,decide (cvs l≤m)=Q:=⟨_,rfl⟩
  rw [hQ] at CI
  have HQ:=hZ hQ
  obtain⟨_,_,_,_,_,c5,_,_,_,_⟩:=row_ten A2
  clear hQ hm S2 A2 B2 N2 BB2 hBw2 em ht0
  go_wp2_with fail
  refine(uZ CI).mono ?_
  rintro e w3 ⟨rfl,b3,s3⟩
  obtain⟨S2,A2,B2,N2⟩:=uZ H2
  have B3:=hZ (B2.trans b3)
  have A3:=hZ ((b3.block G (lt_of_row A2) (by have:=(uZ HH).2.2.2.2.2;omega)).trans A2)
  have N3:=hZ ((b3.block gn (lt_of_row N2) (uZ HG).2.2.2).trans N2)
  have S3:=hZ s3
  clear b3 s3 CI q1 f1 q2 c5 S2 A2 B2 N2 H2
  cases Q with
  |false=>
   have HF:=hZ (show R=false by rw [←uZ HR];have h1:=of_decide_eq_false (uZ HQ);have h2:=uZ HM;exact decide_eq_false (by omega))
   go_wp2_with fail
   go_ret
   exact⟨by rw [uZ HF];rfl,uZ B3,fun h=>by rw [uZ HF] at h;cases h⟩
  |true=>
   have h3:=uZ S3 rfl
   obtain⟨t',ht'⟩:∃t',m - cvs l=t':=⟨_,rfl⟩
   rw [ht'] at h3
   have hle:=of_decide_eq_true (uZ HQ)
   have BB3:Below B w w3:=(uZ B3).below (uZ HG).1 (uZ HH).2.2.2.2.1
   have hB3:B≤w3.heap.size:=Nat.le_trans (uZ HH).2.2.2.2.1 (uZ B3).size
   have CA:=all_gen B a n cc ks 59 #[.pointer (some ⟨gl,0,none⟩),.pointer (some ⟨gv,0,none⟩),.pointer (some ⟨gn,0,none⟩)] (fun i=>decide (kcnt ks (i+1)≤t'))
    (fun i u=>Bes gl w3 u∧∃x,Sml u gl gv ((x:Nat):Int)∧t'=x+kcnt ks i) (fun u=>Bes gl w3 u) w3 call_nds ((uZ HH).2.1.later BB3) (uZ HH).2.2.1
    ⟨⟨rfl,rfl,rfl,Nat.le_refl _,fun _ _ _=>rfl⟩,t',h3,by rw [kcnt_zero];omega⟩ (fun i u h=>h.1.below (uZ HG).1 hB3) hB3
    (fun i u u' h k=>⟨h.1.trans (Bes.of k),by obtain⟨x,h1,h2⟩:=h.2;exact⟨x,h1.later k,h2⟩⟩)
    (fun i z u x hz hI hu hx=>by
     obtain⟨hb,y',hy1,hy2⟩:=hI
     refine(ih z x y' B gl gv gn u ((uZ HH).2.2.2.1 z (List.mem_of_getElem? hz)) hx (uZ HG).1 (uZ HG).2.1 (uZ HG).2.2.1 (uZ HG).2.2.2 hu (by omega) hy1 ((hb.block gn (lt_of_row (uZ N3)) (uZ HG).2.2.2).trans (uZ N3))).mono (fun e u' h=>?_)
     have hup:=kcnt_up ks i z hz
     have er:decide (kcnt ks (i+1)≤t')=decide (cns [z]≤y'):=by
      rw [hup]
      by_cases hq:cns [z]≤y'
      ·rw [decide_eq_true hq,decide_eq_true (by omega)]
      ·rw [decide_eq_false hq,decide_eq_false (by omega)]
     refine⟨by rw [er];exact h.1,fun hh=>⟨hb.trans h.2.1,y' - cns [z],h.2.2 (by rw [←er];exact hh),?_⟩,fun _=>hb.trans h.2.1⟩
     have:=of_decide_eq_true (er ▸ hh)
     omega)
   have hrange:(List.range n).all (fun i=>decide (kcnt ks (i+1)≤t'))=decide (cns ks≤t'):=by rw [←(uZ HH).2.2.1];exact range_cnt ks t'
   rw [hrange] at CA
   have CA:=hZ CA
   obtain⟨q,hq⟩:∃q,decide (cns ks≤t')=q:=⟨_,rfl⟩
   rw [hq] at CA
   have HV:Hid (R=q∧(q=true→Z=t' - cns ks)):=hZ (by
    rw [←uZ HR,←uZ HZ,←hq]
    have h2:=uZ HM
    refine⟨?_,fun h=>by omega⟩
    by_cases h5:cns ks≤t'
    ·rw [decide_eq_true h5,decide_eq_true (by omega)]
    ·rw [decide_eq_false h5,decide_eq_false (by omega)])
   have qn:=(one_cell (uZ N3)).1
   obtain⟨_,_,_,_,_,_,_,_,c8,_⟩:=row_ten (uZ A3)
   have HT:=hZ ht'
   clear h3 hle BB3 hB3 hrange hq ht'
   go_wp2_with fail
   refine(uZ CA).mono ?_
   rintro e w4 ⟨rfl,b4,j4⟩
   have H4:=hZ (And.intro b4 j4)
   clear b4 j4 CA qn c8
   go_wp2_with fail
   go_ret
   refine⟨by rw [(uZ HV).1];rfl,?_,fun h=>?_⟩
   ·cases q with
    |true=>exact(uZ B3).trans ((uZ H4).1 rfl).1
    |false=>exact(uZ B3).trans ((uZ H4).2 rfl)
   ·rw [(uZ HV).1] at h
    subst h
    obtain⟨_,x,h1,h2⟩:=(uZ H4).1 rfl
    rw [(uZ HV).2 rfl]
    have h3:kcnt ks n=cns ks:=by rw [←(uZ HH).2.2.1];exact kcnt_all ks
    rw [h3] at h2
    rw [show t' - cns ks=x by omega]
    exact h1
theorem nodes_all:∀N,NdsAt N
 |0=>fun y x t B gl gv gn w hN=>by rw [cns_one] at hN;omega
 |N+1=>nodes_step N (nodes_all N)
theorem small_any (B0:Nat) (y:Tn) (x:List Value) (w:World) (hB:B0≤w.heap.size) (hx:IsN w (fun b=>b<B0) y x):Calls Tryz.prog 30 #[.agg x.toArray] w fun e w'=>e=.returned (.bool (decide (cns [y]≤20000)))∧Below w.heap.size w w':=by
 have hx0:=hx
 obtain⟨vk,vn,vs,al,ak,a,ll,cl,lk,ck,cc,rfl,_⟩:=hx.shape
 obtain⟨n,hn⟩:∃n,y.ks.length=n:=⟨_,rfl⟩
 obtain⟨k,hk⟩:∃k,y.k=k:=⟨_,rfl⟩
 obtain⟨t,ht⟩:∃t,y.t=t:=⟨_,rfl⟩
 obtain⟨f,hf⟩:∃f,y.f=f:=⟨_,rfl⟩
 obtain⟨p,hp⟩:∃p,y.p=p:=⟨_,rfl⟩
 rw [hn,hk,ht,hf,hp] at hx0
 simp only [hn,hk,ht,hf,hp]
 clear hx
 obtain⟨g,hg⟩:∃g,w.heap.size=g:=⟨_,rfl⟩
 obtain⟨w1,hw1⟩:∃w1,w.alloc (.cells #[.int .i64 k,.string t,.int .i64 vk,.int .i64 vn,.string vs,.slice al ll cl,.slice ak lk ck,.bool f,.slice a n cc,.int .i64 p] 28)=w1:=⟨_,rfl⟩
 obtain⟨w2,hw2⟩:∃w2,w1.alloc (.cells #[.int .i64 20000] 3)=w2:=⟨_,rfl⟩
 obtain⟨w3,hw3⟩:∃w3,w2.alloc (.cells #[.nilFunc] 62)=w3:=⟨_,rfl⟩
 have z1:w1.heap.size=g+1:=by rw [←hw1];simp [hg]
 have z2:w2.heap.size=g+2:=by rw [←hw2];simp [z1]
 have z3:w3.heap.size=g+3:=by rw [←hw3];simp [z2]
 have b01:Below w.heap.size w w1:=by rw [←hw1];exact(Below.refl _ _).alloc (Nat.le_refl _) _
 have b12:Below w1.heap.size w1 w2:=by rw [←hw2];exact(Below.refl _ _).alloc (Nat.le_refl _) _
 have b23:Below w2.heap.size w2 w3:=by rw [←hw3];exact(Below.refl _ _).alloc (Nat.le_refl _) _
 have r1:w1.heap[g]?=some (.cells #[.int .i64 k,.string t,.int .i64 vk,.int .i64 vn,.string vs,.slice al ll cl,.slice ak lk ck,.bool f,.slice a n cc,.int .i64 p] 28 (0,0)):=by rw [←hw1,←hg];exact heap_alloc_new w _
 have r2:w2.heap[g+1]?=some (.cells #[.int .i64 20000] 3 (0,0)):=by rw [←hw2,←z1];exact heap_alloc_new w1 _
 have r3:w3.heap[g+2]?=some (.cells #[.nilFunc] 62 (0,0)):=by rw [←hw3,←z2];exact heap_alloc_new w2 _
 obtain⟨w4,hw4⟩:∃w4,w3.setCell ⟨g+2,0,none⟩ (.func (.func 58) #[] #[.pointer (some ⟨g+1,0,none⟩),.pointer (some ⟨g+2,0,none⟩)])=w4:=⟨_,rfl⟩
 have z4:w4.heap.size=g+3:=by rw [←hw4];simp [z3]
 obtain⟨w5,hw5⟩:∃w5,w4.alloc (.cells #[.nilFunc] 34)=w5:=⟨_,rfl⟩
 have z5:w5.heap.size=g+4:=by rw [←hw5];simp [z4]
 have b45:Below w4.heap.size w4 w5:=by rw [←hw5];exact(Below.refl _ _).alloc (Nat.le_refl _) _
 have r5:w5.heap[g+3]?=some (.cells #[.nilFunc] 34 (0,0)):=by rw [←hw5,←z4];exact heap_alloc_new w4 _
 obtain⟨w6,hw6⟩:∃w6,w5.setCell ⟨g+3,0,none⟩ (.func (.func 59) #[] #[.pointer (some ⟨g+1,0,none⟩),.pointer (some ⟨g+2,0,none⟩),.pointer (some ⟨g+3,0,none⟩)])=w6:=⟨_,rfl⟩
 have S6:Sml w6 (g+1) (g+2) ((20000:Nat):Int):=by
  refine⟨?_,?_⟩
  ·rw [←hw6,heap_setCell_other _ _ _ _ (by simp),b45.block _ (by omega),←hw4,heap_setCell_other _ _ _ _ (by simp),b23.block _ (by omega)];exact r2
  ·rw [←hw6,heap_setCell_other _ _ _ _ (by simp),b45.block _ (by omega),←hw4,heap_setCell_same w3 (g+2) 0 _ _ _ r3];rfl
 have N6:w6.heap[g+3]?=some (.cells #[.func (.func 59) #[] #[.pointer (some ⟨g+1,0,none⟩),.pointer (some ⟨g+2,0,none⟩),.pointer (some ⟨g+3,0,none⟩)]] 34 (0,0)):=by rw [←hw6,heap_setCell_same w5 (g+3) 0 _ _ _ r5];rfl
 have X6:Below g w w6:=by
  have h:=(b01.trans (b12.mono (by omega))).trans (b23.mono (by omega))
  rw [hg] at h
  have h4:=h.setCell (p:=⟨g+2,0,none⟩) (by show g≤g+2;omega) (.func (.func 58) #[] #[.pointer (some ⟨g+1,0,none⟩),.pointer (some ⟨g+2,0,none⟩)])
  rw [hw4] at h4
  rw [←hw6]
  exact(h4.trans (b45.mono (by omega))).setCell (p:=⟨g+3,0,none⟩) (by show g≤g+3;omega) _
 have R6:w6.heap[g]?=some (.cells #[.int .i64 k,.string t,.int .i64 vk,.int .i64 vn,.string vs,.slice al ll cl,.slice ak lk ck,.bool f,.slice a n cc,.int .i64 p] 28 (0,0)):=by
  rw [←hw6,heap_setCell_other _ _ _ _ (by simp),b45.block _ (by omega),←hw4,heap_setCell_other _ _ _ _ (by simp),b23.block _ (by omega),b12.block _ (by omega)]
  exact r1
 have hBg:B0≤g:=by rw [←hg];exact hB
 have CI:=hZ (nodes_all _ y _ 20000 B0 (g+1) (g+2) (g+3) w6 (Nat.le_refl _) (hx0.laterB (X6.mono hBg)) (by omega) (by omega) (by omega) (by omega) (Nat.le_trans hB X6.size) (Nat.le_refl _) S6 N6)
 obtain⟨R,hR⟩:∃R,decide (cns [y]≤20000)=R:=⟨_,rfl⟩
 rw [hR] at CI ⊢
 obtain⟨c0,c1,c2,c3,c4,c5,c6,c7,c8,c9⟩:=row_ten R6
 have qn:=(one_cell N6).1
 have q3:w3.cell? ⟨g+2,0,none⟩=some .nilFunc:=(one_cell r3).1
 have f3:w3.frozen? ⟨g+2,0,none⟩=false:=(one_cell r3).2
 have q5:w5.cell? ⟨g+3,0,none⟩=some .nilFunc:=(one_cell r5).1
 have f5:w5.frozen? ⟨g+3,0,none⟩=false:=(one_cell r5).2
 have HX:=hZ X6
 have HL:=hZ (show g≤w6.heap.size from by have:=X6.size;omega)
 clear b01 b12 b23 b45 r1 r2 r3 r5 S6 N6 X6 R6 hx0 hB hBg hR hn hk ht hf hp
 go_enter Tryz.func30,Tryz.ntmps30
 go_wp2_with fail
 refine(uZ CI).mono ?_
 rintro e w7 ⟨rfl,b7,_⟩
 have H7:=hZ ((uZ HX).trans (b7.below (by omega) (uZ HL)))
 clear b7 CI
 go_wp2_with fail
 go_ret
 exact⟨rfl,by first|exact uZ H7|(rw [hg];exact uZ H7)⟩
end Go.Proofs.YtlkeaaopdnnceaaGreatDoor
