/-
  Layer 18 (print): has a tree no more parts than may be; conditions: the nodes lie in memory.
  Layer 18 (print): is a tree right; conditions: the nodes lie in memory.
-/
import Derived.Test.YtjdpaihhhjdgmaaGreatDoorA23
set_option linter.unusedVariables false
set_option linter.unusedSimpArgs false
set_option maxRecDepth 100000
set_option maxHeartbeats 8000000
namespace Go.Proofs.YtjdpaihhhjdgmaaGreatDoor
open Go.RowKit
set_option linter.unusedVariables false
set_option linter.unusedSimpArgs false
theorem cns_le:∀(l:List Tn) (i:Nat),cns (l.drop i)≤cns l:=by
 intro l
 induction l with
 |nil=>intro i;simp
 |cons a r ih=>
  intro i
  cases i with
  |zero=>simp
  |succ i=>obtain⟨k,t,v,f,ks,p⟩:=a;have:=ih i;simp only [List.drop_succ_cons,cns];omega
def kcnt (l:List Tn) (i:Nat):Nat:=cns l - cns (l.drop i)
theorem kcnt_zero (l:List Tn):kcnt l 0=0:=by simp [kcnt]
theorem kcnt_all (l:List Tn):kcnt l l.length=cns l:=by simp [kcnt,cns]
theorem kcnt_up (l:List Tn) (i:Nat) (y:Tn) (h:l[i]?=some y):kcnt l (i+1)=kcnt l i+cns [y]:=by
 have h1:=cns_at l i y h
 have h2:=cns_le l i
 have h3:=cns_le l (i+1)
 have h4:=cns_one y
 unfold kcnt
 omega
theorem kcnt_mono (l:List Tn) (i:Nat):kcnt l i≤cns l:=by unfold kcnt;omega
theorem range_cnt (l:List Tn) (t:Nat):(List.range l.length).all (fun i=>decide (kcnt l (i+1)≤t))=decide (cns l≤t):=by
 rw [Bool.eq_iff_iff,List.all_eq_true,decide_eq_true_eq]
 constructor
 ·intro h
  by_cases h0:l.length=0
  ·have:l=[]:=List.eq_nil_of_length_eq_zero h0
   subst this
   simp [cns]
  ·have h1:=h (l.length - 1) (List.mem_range.2 (by omega))
   rw [show l.length - 1+1=l.length by omega,kcnt_all] at h1
   simpa using h1
 ·intro h i _
  have:=kcnt_mono l (i+1)
  simp only [decide_eq_true_eq]
  omega
def NdsAt (N:Nat):Prop:=∀(y:Tn) (x:List Value) (t B gl gv gn:Nat) (w:World),cns [y]≤N→IsN w (fun b=>b<B) y x→B≤gl→B≤gv→gv≠gl→gn≠gl→B≤w.heap.size→t≤20000→Sml w gl gv (t:Int) →
 w.heap[gn]?=some (.cells #[.func (.func 82) #[] #[.pointer (some ⟨gl,0,none⟩),.pointer (some ⟨gv,0,none⟩),.pointer (some ⟨gn,0,none⟩)]] 33 (0,0)) →
 Calls Tryz.prog 82 #[.agg x.toArray,.pointer (some ⟨gl,0,none⟩),.pointer (some ⟨gv,0,none⟩),.pointer (some ⟨gn,0,none⟩)] w fun e w'=>e=.returned (.bool (decide (cns [y]≤t)))∧Bes gl w w'∧(decide (cns [y]≤t)=true→Sml w' gl gv ((t - cns [y]:Nat):Int))
theorem call_nds (x:Array Value) (u:World):Sem.run Tryz.prog (callFunc 82 x) u=.ok (.enter 82 x) u:=by kernel_rfl
theorem nodes_step (N:Nat) (ih:NdsAt N):NdsAt (N+1):=by
 intro y x t B gl gv gn w hN hx hl hg hne hnn hB ht hs hgn
 obtain⟨vk,vn,vs,al,ak,a,ll,cl,lk,ck,cc,rfl,hv,hr,hbk,hbp⟩:=hx.opn
 obtain⟨k,tx,v,f,ks,p⟩:=y
 obtain⟨kd,nn,ss,l,vks⟩:=v
 obtain⟨e1,e2,e3,-⟩:=IsP.at hv
 simp only at e1 e2 e3 hv hr ⊢
 subst e1 e2 e3
 obtain⟨n,hn⟩:=eX (ks.length)
 simp only [hn]
 have hc1:cns [⟨k,tx,⟨vk,vn,vs,l,vks⟩,f,ks,p⟩]=1+cvs l+cns ks:=cns_one _
 rw [hc1] at hN ⊢
 have hsub:∀z∈ks,cns [z]≤N:=fun z hz=>by
  have h1:=cns_mem ks z hz
  omega
 obtain⟨w1,hw1⟩:=eX (w.alloc (.cells #[.int .i64 k,.string tx,.int .i64 vk,.int .i64 vn,.string vs,.slice al ll cl,.slice ak lk ck,.bool f,.slice a n cc,.int .i64 p] 28))
 obtain⟨G,hG⟩:=eX (w.heap.size)
 have A1:=(al1 hw1 hG).1
 have X1:=alB hw1
 have S1:=hs.later X1
 obtain⟨q1,f1⟩:=one_cell S1.lf
 have hglG:gl<G:=by rw [←hG];exact(Array.getElem?_eq_some_iff.1 hs.lf).1
 obtain⟨w2,hw2⟩:=eX (w1.setCell ⟨gl,0,none⟩ (.int .i64 ((t:Int) - 1)))
 have S2:Sml w2 gl gv ((t:Int) - 1):=by rw [←hw2];exact S1.set hne _
 have A2:w2.heap[G]?=some (.cells #[.int .i64 k,.string tx,.int .i64 vk,.int .i64 vn,.string vs,.slice al ll cl,.slice ak lk ck,.bool f,.slice a n cc,.int .i64 p] 28 (0,0)):=by rw [←hw2,heap_setCell_other _ _ _ _ (by simp;omega)];exact A1
 have B2:Bes gl w w2:=by rw [←hw2];exact(Bes.of X1).set _
 have N2:=(B2.block gn (lt_of_row hgn) hnn).trans hgn
 have H2:=hZ (And.intro S2 (And.intro A2 (And.intro B2 N2)))
 have HH:=hZ (And.intro hv (And.intro hr (And.intro hn (And.intro hsub (And.intro hB hglG)))))
 have HG:=hZ (And.intro hl (And.intro hg (And.intro hne hnn)))
 obtain⟨R,hR⟩:=eX (decide (1+cvs l+cns ks≤t))
 rw [hR]
 have HR:=hZ hR
 obtain⟨Z,hZz⟩:=eX (t - (1+cvs l+cns ks))
 rw [hZz]
 have HZ:=hZ hZz
 have HW1:=hZ hw1
 have HW2:=hZ hw2
 have e5:IntKind.i64.wrap ((t:Int) - 1)=(t:Int) - 1:=by rw [IntKind.wrap_i64];omega
 clear hv hr hn hsub hB hl hg hne hnn hs hgn hx hbk hbp hN hc1 X1 A1 S1 S2 A2 B2 N2 hw1 hw2 hR hZz hglG
 go_enter Tryz.func82,Tryz.ntmps82
 go_upto_region 1 with fail
 rw [uZ HW1]
 try rw [hG]
 clear HW1
 go_upto_region 2 with fail
 rw [uZ HW2]
 clear HW2 q1 f1
 obtain⟨q1,f1⟩:=one_cell (uZ H2).1.lf
 by_cases ht0:t=0
 ·subst ht0
  have l1:¬(0:Int)≤((0:Nat):Int) - 1:=by omega
  have HF:=hZ (show R=false by rw [←uZ HR];exact decide_eq_false (by omega))
  go_wp2_with fail
  go_ret
  exact⟨by rw [uZ HF];rfl,(uZ H2).2.2.1,fun h=>by rw [uZ HF] at h;cases h⟩
 ·obtain⟨m,hm⟩:∃m,t=m+1:=⟨t - 1,by omega⟩
  have em:(t:Int) - 1=(m:Int):=by omega
  have HM:=hZ hm
  have hm20:m≤20000:=by omega
  rw [em] at q1 H2
  obtain⟨S2,A2,B2,N2⟩:=uZ H2
  have BB2:Below B w w2:=B2.below (uZ HG).1 (uZ HH).2.2.2.2.1
  have hBw2:B≤w2.heap.size:=Nat.le_trans (uZ HH).2.2.2.2.1 B2.size
  have q2:=(one_cell S2.fv).1
  have CI:=hZ (vals_all _ vk vn vs l vks al ak ll cl lk ck m B gl gv w2 (Nat.le_refl _) ((uZ HH).1.mono BB2) (uZ HG).1 (uZ HG).2.1 (uZ HG).2.2.1 hBw2 hm20 S2)
  have l1:(0:Int)≤(m:Int):=by omega
  obtain⟨Q,hQ⟩:=eX (decide (cvs l≤m))
  rw [hQ] at CI
  have HQ:=hZ hQ
  obtain⟨_,_,_,_,_,c5,_,_,_,_⟩:=row_ten A2
  clear hQ hm S2 A2 B2 N2 BB2 hBw2 em ht0
  go_wp2_with fail
  refine(uZ CI).mono ?_
  rintro e w3 ⟨rfl,b3,s3⟩
  obtain⟨S2,A2,B2,N2⟩:=uZ H2
  have B3:=hZ (B2.trans b3)
  have A3:=hZ ((b3.block G (lt_of_row A2) (by have:=(uZ HH).2.2.2.2.2;omega)).trans A2)
  have N3:=hZ ((b3.block gn (lt_of_row N2) (uZ HG).2.2.2).trans N2)
  have S3:=hZ s3
  clear b3 s3 CI q1 f1 q2 c5 S2 A2 B2 N2 H2
  cases Q with
  |false=>
   have HF:=hZ (show R=false by rw [←uZ HR];have h1:=of_decide_eq_false (uZ HQ);have h2:=uZ HM;exact decide_eq_false (by omega))
   go_wp2_with fail
   go_ret
   exact⟨by rw [uZ HF];rfl,uZ B3,fun h=>by rw [uZ HF] at h;cases h⟩
  |true=>
   have h3:=uZ S3 rfl
   obtain⟨t',ht'⟩:∃t',m - cvs l=t':=⟨_,rfl⟩
   rw [ht'] at h3
   have hle:=of_decide_eq_true (uZ HQ)
   have BB3:Below B w w3:=(uZ B3).below (uZ HG).1 (uZ HH).2.2.2.2.1
   have hB3:B≤w3.heap.size:=Nat.le_trans (uZ HH).2.2.2.2.1 (uZ B3).size
   have CA:=all_gen B a n cc ks 82 #[.pointer (some ⟨gl,0,none⟩),.pointer (some ⟨gv,0,none⟩),.pointer (some ⟨gn,0,none⟩)] (fun i=>decide (kcnt ks (i+1)≤t'))
    (fun i u=>Bes gl w3 u∧∃x,Sml u gl gv ((x:Nat):Int)∧t'=x+kcnt ks i) (fun u=>Bes gl w3 u) w3 call_nds ((uZ HH).2.1.later BB3) (uZ HH).2.2.1
    ⟨⟨rfl,rfl,rfl,Nat.le_refl _,fun _ _ _=>rfl⟩,t',h3,by rw [kcnt_zero];omega⟩ (fun i u h=>h.1.below (uZ HG).1 hB3) hB3
    (fun i u u' h k=>⟨h.1.trans (Bes.of k),by obtain⟨x,h1,h2⟩:=h.2;exact⟨x,h1.later k,h2⟩⟩)
    (fun i z u x hz hI hu hx=>by
     obtain⟨hb,y',hy1,hy2⟩:=hI
     refine(ih z x y' B gl gv gn u ((uZ HH).2.2.2.1 z (List.mem_of_getElem? hz)) hx (uZ HG).1 (uZ HG).2.1 (uZ HG).2.2.1 (uZ HG).2.2.2 hu (by omega) hy1 ((hb.block gn (lt_of_row (uZ N3)) (uZ HG).2.2.2).trans (uZ N3))).mono (fun e u' h=>?_)
     have hup:=kcnt_up ks i z hz
     have er:decide (kcnt ks (i+1)≤t')=decide (cns [z]≤y'):=by
      rw [hup]
      by_cases hq:cns [z]≤y'
      ·rw [decide_eq_true hq,decide_eq_true (by omega)]
      ·rw [decide_eq_false hq,decide_eq_false (by omega)]
     refine⟨by rw [er];exact h.1,fun hh=>⟨hb.trans h.2.1,y' - cns [z],h.2.2 (by rw [←er];exact hh),?_⟩,fun _=>hb.trans h.2.1⟩
     have:=of_decide_eq_true (er ▸ hh)
     omega)
   have hrange:(List.range n).all (fun i=>decide (kcnt ks (i+1)≤t'))=decide (cns ks≤t'):=by rw [←(uZ HH).2.2.1];exact range_cnt ks t'
   rw [hrange] at CA
   have CA:=hZ CA
   obtain⟨q,hq⟩:=eX (decide (cns ks≤t'))
   rw [hq] at CA
   have HV:Hid (R=q∧(q=true→Z=t' - cns ks)):=hZ (by
    rw [←uZ HR,←uZ HZ,←hq]
    have h2:=uZ HM
    refine⟨?_,fun h=>by omega⟩
    by_cases h5:cns ks≤t'
    ·rw [decide_eq_true h5,decide_eq_true (by omega)]
    ·rw [decide_eq_false h5,decide_eq_false (by omega)])
   have qn:=(one_cell (uZ N3)).1
   obtain⟨_,_,_,_,_,_,_,_,c8,_⟩:=row_ten (uZ A3)
   have HT:=hZ ht'
   clear h3 hle BB3 hB3 hrange hq ht'
   go_wp2_with fail
   refine(uZ CA).mono ?_
   rintro e w4 ⟨rfl,b4,j4⟩
   have H4:=hZ (And.intro b4 j4)
   clear b4 j4 CA qn c8
   go_wp2_with fail
   go_ret
   refine⟨by rw [(uZ HV).1];rfl,?_,fun h=>?_⟩
   ·cases q with
    |true=>exact(uZ B3).trans ((uZ H4).1 rfl).1
    |false=>exact(uZ B3).trans ((uZ H4).2 rfl)
   ·rw [(uZ HV).1] at h
    subst h
    obtain⟨_,x,h1,h2⟩:=(uZ H4).1 rfl
    rw [(uZ HV).2 rfl]
    have h3:kcnt ks n=cns ks:=by rw [←(uZ HH).2.2.1];exact kcnt_all ks
    rw [h3] at h2
    rw [show t' - cns ks=x by omega]
    exact h1
theorem nodes_all:∀N,NdsAt N
 |0=>fun y x t B gl gv gn w hN=>by rw [cns_one] at hN;omega
 |N+1=>nodes_step N (nodes_all N)
theorem small_any (B0:Nat) (y:Tn) (x:List Value) (w:World) (hB:B0≤w.heap.size) (hx:IsN w (fun b=>b<B0) y x):Calls Tryz.prog 39 #[.agg x.toArray] w fun e w'=>e=.returned (.bool (decide (cns [y]≤20000)))∧Below w.heap.size w w':=by
 have hx0:=hx
 obtain⟨vk,vn,vs,al,ak,a,ll,cl,lk,ck,cc,rfl,_⟩:=hx.shape
 obtain⟨n,hn⟩:=eX (y.ks.length)
 obtain⟨k,hk⟩:=eX (y.k)
 obtain⟨t,ht⟩:=eX (y.t)
 obtain⟨f,hf⟩:=eX (y.f)
 obtain⟨p,hp⟩:=eX (y.p)
 rw [hn,hk,ht,hf,hp] at hx0
 simp only [hn,hk,ht,hf,hp]
 clear hx
 obtain⟨g,hg⟩:=eX (w.heap.size)
 obtain⟨w1,hw1⟩:=eX (w.alloc (.cells #[.int .i64 k,.string t,.int .i64 vk,.int .i64 vn,.string vs,.slice al ll cl,.slice ak lk ck,.bool f,.slice a n cc,.int .i64 p] 28))
 obtain⟨w2,hw2⟩:=eX (w1.alloc (.cells #[.int .i64 20000] 3))
 obtain⟨w3,hw3⟩:=eX (w2.alloc (.cells #[.nilFunc] 103))
 have z1:w1.heap.size=g+1:=by rw [←hw1];simp [hg]
 have z2:w2.heap.size=g+2:=by rw [←hw2];simp [z1]
 have z3:w3.heap.size=g+3:=by rw [←hw3];simp [z2]
 have b01:=alB hw1
 have b12:=alB hw2
 have b23:=alB hw3
 have r1:w1.heap[g]?=some (.cells #[.int .i64 k,.string t,.int .i64 vk,.int .i64 vn,.string vs,.slice al ll cl,.slice ak lk ck,.bool f,.slice a n cc,.int .i64 p] 28 (0,0)):=by rw [←hw1,←hg];exact heap_alloc_new w _
 have r2:w2.heap[g+1]?=some (.cells #[.int .i64 20000] 3 (0,0)):=by rw [←hw2,←z1];exact heap_alloc_new w1 _
 have r3:w3.heap[g+2]?=some (.cells #[.nilFunc] 103 (0,0)):=by rw [←hw3,←z2];exact heap_alloc_new w2 _
 obtain⟨w4,hw4⟩:=eX (w3.setCell ⟨g+2,0,none⟩ (.func (.func 81) #[] #[.pointer (some ⟨g+1,0,none⟩),.pointer (some ⟨g+2,0,none⟩)]))
 have z4:w4.heap.size=g+3:=by rw [←hw4];simp [z3]
 obtain⟨w5,hw5⟩:=eX (w4.alloc (.cells #[.nilFunc] 33))
 have z5:w5.heap.size=g+4:=by rw [←hw5];simp [z4]
 have b45:=alB hw5
 have r5:w5.heap[g+3]?=some (.cells #[.nilFunc] 33 (0,0)):=by rw [←hw5,←z4];exact heap_alloc_new w4 _
 obtain⟨w6,hw6⟩:=eX (w5.setCell ⟨g+3,0,none⟩ (.func (.func 82) #[] #[.pointer (some ⟨g+1,0,none⟩),.pointer (some ⟨g+2,0,none⟩),.pointer (some ⟨g+3,0,none⟩)]))
 have S6:Sml w6 (g+1) (g+2) ((20000:Nat):Int):=by
  refine⟨?_,?_⟩
  ·rw [←hw6,heap_setCell_other _ _ _ _ (by simp),b45.block _ (by omega),←hw4,heap_setCell_other _ _ _ _ (by simp),b23.block _ (by omega)];exact r2
  ·rw [←hw6,heap_setCell_other _ _ _ _ (by simp),b45.block _ (by omega),←hw4,heap_setCell_same w3 (g+2) 0 _ _ _ r3];rfl
 have N6:w6.heap[g+3]?=some (.cells #[.func (.func 82) #[] #[.pointer (some ⟨g+1,0,none⟩),.pointer (some ⟨g+2,0,none⟩),.pointer (some ⟨g+3,0,none⟩)]] 33 (0,0)):=by rw [←hw6,heap_setCell_same w5 (g+3) 0 _ _ _ r5];rfl
 have X6:Below g w w6:=by
  have h:=(b01.trans (b12.mono (by omega))).trans (b23.mono (by omega))
  rw [hg] at h
  have h4:=h.setCell (p:=⟨g+2,0,none⟩) (by show g≤g+2;omega) (.func (.func 81) #[] #[.pointer (some ⟨g+1,0,none⟩),.pointer (some ⟨g+2,0,none⟩)])
  rw [hw4] at h4
  rw [←hw6]
  exact(h4.trans (b45.mono (by omega))).setCell (p:=⟨g+3,0,none⟩) (by show g≤g+3;omega) _
 have R6:w6.heap[g]?=some (.cells #[.int .i64 k,.string t,.int .i64 vk,.int .i64 vn,.string vs,.slice al ll cl,.slice ak lk ck,.bool f,.slice a n cc,.int .i64 p] 28 (0,0)):=by
  rw [←hw6,heap_setCell_other _ _ _ _ (by simp),b45.block _ (by omega),←hw4,heap_setCell_other _ _ _ _ (by simp),b23.block _ (by omega),b12.block _ (by omega)]
  exact r1
 have hBg:B0≤g:=by rw [←hg];exact hB
 have CI:=hZ (nodes_all _ y _ 20000 B0 (g+1) (g+2) (g+3) w6 (Nat.le_refl _) (hx0.laterB (X6.mono hBg)) (by omega) (by omega) (by omega) (by omega) (Nat.le_trans hB X6.size) (Nat.le_refl _) S6 N6)
 obtain⟨R,hR⟩:=eX (decide (cns [y]≤20000))
 rw [hR] at CI ⊢
 obtain⟨c0,c1,c2,c3,c4,c5,c6,c7,c8,c9⟩:=row_ten R6
 have qn:=(one_cell N6).1
 have q3:w3.cell? ⟨g+2,0,none⟩=some .nilFunc:=(one_cell r3).1
 have f3:w3.frozen? ⟨g+2,0,none⟩=false:=(one_cell r3).2
 have q5:w5.cell? ⟨g+3,0,none⟩=some .nilFunc:=(one_cell r5).1
 have f5:w5.frozen? ⟨g+3,0,none⟩=false:=(one_cell r5).2
 have HX:=hZ X6
 have HL:=hZ (show g≤w6.heap.size from by have:=X6.size;omega)
 clear b01 b12 b23 b45 r1 r2 r3 r5 S6 N6 X6 R6 hx0 hB hBg hR hn hk ht hf hp
 go_enter Tryz.func39,Tryz.ntmps39
 go_wp2_with fail
 refine(uZ CI).mono ?_
 rintro e w7 ⟨rfl,b7,_⟩
 have H7:=hZ ((uZ HX).trans (b7.below (by omega) (uZ HL)))
 clear b7 CI
 go_wp2_with fail
 go_ret
 exact⟨rfl,by first|exact uZ H7|(rw [hg];exact uZ H7)⟩
theorem right_node (B0:Nat) (y:Tn) (x:List Value) (w:World) (hB:B0≤w.heap.size) (hx:IsN w (fun b=>b<B0) y x):Calls Tryz.prog 21 #[.agg x.toArray] w fun e w'=>e=.returned (.bool (rgB y))∧Below w.heap.size w w':=by
 have hx0:=hx
 obtain⟨vk,vn,vs,al,ak,a,ll,cl,lk,ck,cc,rfl,_⟩:=hx.shape
 obtain⟨R,hR⟩:=eX ((rgB y))
 rw [hR]
 have HR:=hZ hR
 obtain⟨k,t,v,f,ks,p⟩:=y
 obtain⟨n,hn⟩:=eX (ks.length)
 simp only [hn] at hx0 HR ⊢
 obtain⟨w1,hw1⟩:=eX (w.alloc (.cells #[.int .i64 k,.string t,.int .i64 vk,.int .i64 vn,.string vs,.slice al ll cl,.slice ak lk ck,.bool f,.slice a n cc,.int .i64 p] 28))
 obtain⟨G,hG⟩:=eX (w.heap.size)
 obtain⟨A1,X1⟩:=al1 hw1 hG
 have hBG:B0≤G:=by rw [←hG];exact hB
 have HM:Hid (∀u,Below G w u→IsN u (fun b=>b<B0) ⟨k,t,v,f,ks,p⟩ [.int .i64 k,.string t,.int .i64 vk,.int .i64 vn,.string vs,.slice al ll cl,.slice ak lk ck,.bool f,.slice a n cc,.int .i64 p]∧B0≤u.heap.size):=hZ (fun u b=>⟨hx0.laterB (b.mono hBG),Nat.le_trans hB b.size⟩)
 have HA:=hZ A1
 have HX:=hZ X1
 have HW:=hZ hw1
 have hGs:Hid (G≤w1.heap.size):=hZ (Nat.le_of_lt (lt_of_row A1))
 clear A1 X1 hw1 hR hx hx0 hn hBG hB
 go_enter Tryz.func21,Tryz.ntmps21
 go_upto_region 1 with fail
 rw [uZ HW]
 try rw [hG]
 clear HW
 obtain⟨x0,x1,x2,x3,x4,x5,x6,x7,x8,x9⟩:=row_ten (uZ HA)
 have CC:=hZ (small_any B0 ⟨k,t,v,f,ks,p⟩ _ w1 (uZ HM w1 (uZ HX)).2 (uZ HM w1 (uZ HX)).1)
 obtain⟨q,hq⟩:=eX (decide (cns [⟨k,t,v,f,ks,p⟩]≤20000))
 rw [hq] at CC
 have HQ1:=hZ hq
 clear hq
 go_wp2_with fail
 refine(uZ CC).mono ?_
 rintro e w2 ⟨rfl,b⟩
 have HA2:=hZ (Below.cellsAt b (uZ HA))
 have HX2:=hZ ((uZ HX).trans (b.mono (uZ hGs)))
 have hGs2:=hZ (Nat.le_trans (uZ hGs) b.size)
 clear b CC x0 x1 x2 x3 x4 x5 x6 x7 x8 x9 HA HX hGs
 have HA:=HA2
 have HX:=HX2
 have hGs:=hGs2
 clear HA2 HX2 hGs2
 obtain⟨x0,x1,x2,x3,x4,x5,x6,x7,x8,x9⟩:=row_ten (uZ HA)
 cases q with
 |false=>
  have HV:=hZ (show R=false by rw [←uZ HR];unfold rgB;rw [uZ HQ1,Bool.false_and,Bool.false_and])
  clear HR
  go_wp2_with fail
  go_ret
  exact⟨by rw [uZ HV] <;> rfl,by first|exact uZ HX|(rw [hG];exact uZ HX)⟩
 |true=>
  have CC:=hZ (pformed_any B0 ⟨k,t,v,f,ks,p⟩ _ w2 (uZ HM w2 (uZ HX)).2 (uZ HM w2 (uZ HX)).1)
  obtain⟨q,hq⟩:=eX (fmB ⟨k,t,v,f,ks,p⟩)
  rw [hq] at CC
  have HQ2:=hZ hq
  clear hq
  go_wp2_with fail
  refine(uZ CC).mono ?_
  rintro e w3 ⟨rfl,b⟩
  have HA2:=hZ (Below.cellsAt b (uZ HA))
  have HX2:=hZ ((uZ HX).trans (b.mono (uZ hGs)))
  have hGs2:=hZ (Nat.le_trans (uZ hGs) b.size)
  clear b CC x0 x1 x2 x3 x4 x5 x6 x7 x8 x9 HA HX hGs
  have HA:=HA2
  have HX:=HX2
  have hGs:=hGs2
  clear HA2 HX2 hGs2
  obtain⟨x0,x1,x2,x3,x4,x5,x6,x7,x8,x9⟩:=row_ten (uZ HA)
  cases q with
  |false=>
   have HV:=hZ (show R=false by rw [←uZ HR];unfold rgB;rw [uZ HQ2,Bool.and_false,Bool.false_and])
   clear HR
   go_wp2_with fail
   go_ret
   exact⟨by rw [uZ HV] <;> rfl,by first|exact uZ HX|(rw [hG];exact uZ HX)⟩
  |true=>
   have HC:=hZ (of_decide_eq_true (uZ HQ1))
   have CC:=hZ (deep_all _ B0 ⟨k,t,v,f,ks,p⟩ (Nat.le_refl _) (uZ HC) _ w3 (uZ HM w3 (uZ HX)).2 (uZ HM w3 (uZ HX)).1)
   obtain⟨d,hd⟩:=eX (dpN ⟨k,t,v,f,ks,p⟩)
   rw [hd] at CC
   have HD:=hZ hd
   clear hd
   go_wp2_with fail
   refine(uZ CC).mono ?_
   rintro e w4 ⟨rfl,b⟩
   have HA2:=hZ (Below.cellsAt b (uZ HA))
   have HX2:=hZ ((uZ HX).trans (b.mono (uZ hGs)))
   have hGs2:=hZ (Nat.le_trans (uZ hGs) b.size)
   clear b CC x0 x1 x2 x3 x4 x5 x6 x7 x8 x9 HA HX hGs
   have HA:=HA2
   have HX:=HX2
   have hGs:=hGs2
   clear HA2 HX2 hGs2
   obtain⟨x0,x1,x2,x3,x4,x5,x6,x7,x8,x9⟩:=row_ten (uZ HA)
   clear x0 x1 x2 x3 x4 x5 x6 x7 x8 x9
   by_cases hq:d≤24
   ·have q1: (d:Int)≤24:=by omega
    have q2:decide ((d:Int)≤24)=true:=by simpa using q1
    have q3:decide (d≤24)=true:=by simpa using hq
    have HV:=hZ (show R=true by rw [←uZ HR];unfold rgB;rw [uZ HQ1,uZ HQ2,uZ HD,decide_eq_true hq];rfl)
    clear HR
    go_wp2_with fail
    go_ret
    exact⟨by rw [uZ HV] <;> rfl,by first|exact uZ HX|(rw [hG];exact uZ HX)⟩
   ·have q1:¬(d:Int)≤24:=by omega
    have q2:decide ((d:Int)≤24)=false:=by simpa using q1
    have q3:decide (d≤24)=false:=by simpa using hq
    have HV:=hZ (show R=false by rw [←uZ HR];unfold rgB;rw [uZ HQ1,uZ HQ2,uZ HD,decide_eq_false hq];rfl)
    clear HR
    go_wp2_with fail
    go_ret
    exact⟨by rw [uZ HV] <;> rfl,by first|exact uZ HX|(rw [hG];exact uZ HX)⟩
theorem Right_any (B0:Nat) (y:Tn) (x:List Value) (w:World) (hB:B0≤w.heap.size) (hx:IsN w (fun b=>b<B0) y x):Calls Tryz.prog 12 #[.agg x.toArray] w fun e w'=>e=.returned (.bool (decide (y.k=1) && rgB y))∧Below w.heap.size w w':=by
 have hx0:=hx
 obtain⟨vk,vn,vs,al,ak,a,ll,cl,lk,ck,cc,rfl,_⟩:=hx.shape
 obtain⟨R,hR⟩:=eX ((decide (y.k=1) && rgB y))
 rw [hR]
 have HR:=hZ hR
 obtain⟨k,t,v,f,ks,p⟩:=y
 obtain⟨n,hn⟩:=eX (ks.length)
 simp only [hn] at hx0 HR ⊢
 obtain⟨w1,hw1⟩:=eX (w.alloc (.cells #[.int .i64 k,.string t,.int .i64 vk,.int .i64 vn,.string vs,.slice al ll cl,.slice ak lk ck,.bool f,.slice a n cc,.int .i64 p] 28))
 obtain⟨G,hG⟩:=eX (w.heap.size)
 obtain⟨A1,X1⟩:=al1 hw1 hG
 have hBG:B0≤G:=by rw [←hG];exact hB
 have HM:Hid (∀u,Below G w u→IsN u (fun b=>b<B0) ⟨k,t,v,f,ks,p⟩ [.int .i64 k,.string t,.int .i64 vk,.int .i64 vn,.string vs,.slice al ll cl,.slice ak lk ck,.bool f,.slice a n cc,.int .i64 p]∧B0≤u.heap.size):=hZ (fun u b=>⟨hx0.laterB (b.mono hBG),Nat.le_trans hB b.size⟩)
 have HA:=hZ A1
 have HX:=hZ X1
 have HW:=hZ hw1
 have hGs:Hid (G≤w1.heap.size):=hZ (Nat.le_of_lt (lt_of_row A1))
 clear A1 X1 hw1 hR hx hx0 hn hBG hB
 go_enter Tryz.func12,Tryz.ntmps12
 go_upto_region 1 with fail
 rw [uZ HW]
 try rw [hG]
 clear HW
 obtain⟨x0,x1,x2,x3,x4,x5,x6,x7,x8,x9⟩:=row_ten (uZ HA)
 by_cases hk:k=1
 ·subst hk
  have CC:=hZ (right_node B0 ⟨1,t,v,f,ks,p⟩ _ w1 (uZ HM w1 (uZ HX)).2 (uZ HM w1 (uZ HX)).1)
  obtain⟨q,hq⟩:=eX (rgB ⟨1,t,v,f,ks,p⟩)
  rw [hq] at CC
  have HQ1:=hZ hq
  clear hq
  go_wp2_with fail
  refine(uZ CC).mono ?_
  rintro e w2 ⟨rfl,b⟩
  have HA2:=hZ (Below.cellsAt b (uZ HA))
  have HX2:=hZ ((uZ HX).trans (b.mono (uZ hGs)))
  have hGs2:=hZ (Nat.le_trans (uZ hGs) b.size)
  clear b CC x0 x1 x2 x3 x4 x5 x6 x7 x8 x9 HA HX hGs
  have HA:=HA2
  have HX:=HX2
  have hGs:=hGs2
  clear HA2 HX2 hGs2
  obtain⟨x0,x1,x2,x3,x4,x5,x6,x7,x8,x9⟩:=row_ten (uZ HA)
  clear x0 x1 x2 x3 x4 x5 x6 x7 x8 x9
  have HV:=hZ (show R=q by rw [←uZ HR,←uZ HQ1];rfl)
  clear HR
  go_wp2_with fail
  go_ret
  exact⟨by rw [uZ HV] <;> rfl,by first|exact uZ HX|(rw [hG];exact uZ HX)⟩
 ·have z1:(k == 1)=false:=beq_eq_false_iff_ne.2 hk
  have HV:=hZ (show R=false by rw [←uZ HR];simp [hk])
  clear HR
  go_wp2_with fail
  go_ret
  exact⟨by rw [uZ HV] <;> rfl,by first|exact uZ HX|(rw [hG];exact uZ HX)⟩
end Go.Proofs.YtjdpaihhhjdgmaaGreatDoor
