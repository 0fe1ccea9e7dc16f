/-
  Layer 17 (parse): the small steps of the document's reader; conditions: the reader's state.
  Layer 17 (parse): the document's reader: what passes over a token that must stand there, opens and closes; the row of a sign; conditions: the reader's state.
  Layer 17 (parse): the document's reader: the row of a sign, a literal; no conditions.
  Layer 17 (parse): the document's reader: expressions, brackets; conditions: the reader's state.
-/
import Derived.Test.YtilhlmmcdfoaoaaGreatDoorE11
set_option linter.unusedVariables false
set_option linter.unusedSimpArgs false
namespace Go.Proofs.YtilhlmmcdfoaoaaGreatDoor
open Go.RowKit
set_option linter.unusedVariables false
set_option linter.unusedSimpArgs false
set_option maxRecDepth 100000 in
set_option maxHeartbeats 4000000 in
theorem peek_any {c:Cx} {σ:Sg} {w:World} (h:Rq w c σ) :
  Calls Tryz.prog 23 #[.pointer (some ⟨c.g,0,none⟩)] w fun e w'=>e=.returned (.agg (tkA (tkQ c.ts σ)))∧Below w.heap.size w w':=by
 obtain⟨c0,c1,c2,c3,c4⟩:=h.cells
 obtain⟨f1,f2,f3,f4,hgl⟩:=h.frz
 obtain⟨htl,t0,t1,t2,t3⟩:=h.tok
 have hix:=h.ix
 have hln:=h.len
 have hcp:=h.cap
 have hap:=h.apart
 obtain⟨⟨k,t,n,p⟩,ht⟩:∃t,tkQ c.ts σ=t:=⟨_,rfl⟩
 rw [ht] at t0 t1 t2 t3
 rw [ht]
 obtain⟨g,tb,ct,ts⟩:=c
 obtain⟨i,so,se,sa⟩:=σ
 simp only [] at c0 c1 c2 c3 c4 f1 f2 f3 f4 hgl htl t0 t1 t2 t3 hln hcp hap hix ⊢
 obtain⟨N,hN⟩:∃N,ts.length=N:=⟨_,rfl⟩
 rw [hN] at c0 hln hcp hix
 have j0:(0:Int)≤(i:Int):=by omega
 have j1:(i:Int)<(N:Int):=by omega
 obtain⟨o,ho⟩:∃o,i * 4=o:=⟨_,rfl⟩
 have r1:=add_row tb (i * 4)
 rw [ho] at r1 t0 t1 t2 t3
 obtain⟨G,hG⟩:∃G,w.heap.size=G:=⟨_,rfl⟩
 obtain⟨w1,hw1⟩:∃w1,w.alloc (.cells #[.int .i64 0,.string ⟨#[]⟩,.int .i64 0,.int .i64 0] 52)=w1:=⟨_,rfl⟩
 have A1:w1.heap[G]?=some (.cells #[.int .i64 0,.string ⟨#[]⟩,.int .i64 0,.int .i64 0] 52 (0,0)):=by rw [←hw1,←hG];exact heap_alloc_new _ _
 have B1:Below w.heap.size w w1:=by rw [←hw1];exact(Below.refl _ _).alloc (Nat.le_refl _) _
 have c0:=cell_later B1 c0
 have c1:=cell_later B1 c1
 have t0:=cell_later B1 t0
 have t1:=cell_later B1 t1
 have t2:=cell_later B1 t2
 have t3:=cell_later B1 t3
 obtain⟨a0,a1,a2,a3⟩:=row_cell4 A1
 have y0:=frozen_of_row w1 G 0 _ _ A1
 have y1:=frozen_of_row w1 G 1 _ _ A1
 have y2:=frozen_of_row w1 G 2 _ _ A1
 have y3:=frozen_of_row w1 G 3 _ _ A1
 have HA:=hZ A1
 have HB:=hZ B1
 clear h hN ht c2 c3 c4 f1 f2 f3 f4 A1 B1
 go_enter Tryz.func23,Tryz.ntmps23
 go_upto_region 1 with fail
 go_region
 go_wp2_with fail
 exact bodyPost_ret (ret_c1 (p:=2) (T:=52) rfl _ _ G _ _ _ rfl (set4 (uZ HA) _ _ _ _) Tryz.underlying52 rfl size_tk) rfl ⟨rfl,by first|exact set4_below (uZ HB) (by omega) _ _ _ _|exact(set4_below (uZ HB) (by omega) _ _ _ _).drew|(have hq:=uZ HB;rw [hG] at hq;exact(set4_below hq (Nat.le_refl _) _ _ _ _).drew)⟩
set_option maxRecDepth 100000 in
set_option maxHeartbeats 4000000 in
theorem wrong_any {c:Cx} {σ:Sg} {w:World} (h:Rq w c σ) (er:Nat) :
  Calls Tryz.prog 66 #[.pointer (some ⟨c.g,0,none⟩),.int .i64 (er:Int)] w fun e w'=>e=.returned (.tuple #[])∧Rq w' c (wrQ c.ts er σ)∧Beside c.g w w':=by
 obtain⟨c0,c1,c2,c3,c4⟩:=h.cells
 obtain⟨f1,f2,f3,f4,hgl⟩:=h.frz
 obtain⟨htl,t0,t1,t2,t3⟩:=h.tok
 have hix:=h.ix
 have hln:=h.len
 have hap:=h.apart
 obtain⟨⟨k,t,n,p⟩,ht⟩:∃t,tkQ c.ts σ=t:=⟨_,rfl⟩
 rw [ht] at t3
 unfold wrQ
 rw [ht]
 by_cases he:σ.e=0
 ·rw [if_pos he]
  have HR:=hZ (h.sete er (er:Int) rfl)
  have HR2:=hZ (fun u (hu:Rq u c ⟨σ.i,σ.o,er,σ.a⟩)=>(hu.seta p).drew)
  have HB:=hZ (Beside.refl c.g w)
  rw [he] at c3
  obtain⟨g,tb,ct,ts⟩:=c
  obtain⟨i,so,se,sa⟩:=σ
  simp only [] at c0 c1 c2 c3 c4 f1 f2 f3 f4 hgl htl t3 hln hap hix HR HR2 HB ⊢
  obtain⟨N,hN⟩:∃N,ts.length=N:=⟨_,rfl⟩
  rw [hN] at c0 hln hix
  have j0:(0:Int)≤(i:Int):=by omega
  have j1:(i:Int)<(N:Int):=by omega
  obtain⟨o,ho⟩:∃o,i * 4=o:=⟨_,rfl⟩
  have r1:=add_row tb (i * 4)
  rw [ho] at r1 t3
  have c3':w.cell? ⟨g,3,none⟩=some (.int .i64 0):=c3
  have d0:(w.setCell ⟨g,3,none⟩ (.int .i64 (er:Int))).cell? ⟨g,0,none⟩=some (.slice (some ⟨tb,0,none⟩) N ct):=by have:=(uZ HR).cells.1;rw [←hN];exact this
  have d1:(w.setCell ⟨g,3,none⟩ (.int .i64 (er:Int))).cell? ⟨g,1,none⟩=some (.int .i64 (i:Int)):=(uZ HR).cells.2.1
  have d4:(w.setCell ⟨g,3,none⟩ (.int .i64 (er:Int))).cell? ⟨g,4,none⟩=some (.int .i64 (sa:Int)):=(uZ HR).cells.2.2.2.2
  have z4:(w.setCell ⟨g,3,none⟩ (.int .i64 (er:Int))).frozen? ⟨g,4,none⟩=false:=(uZ HR).frz.2.2.2.1
  have u3:(w.setCell ⟨g,3,none⟩ (.int .i64 (er:Int))).cell? ⟨tb,o+3,none⟩=some (.int .i64 (p:Int)):=(World.cell?_of_block (heap_setCell_other _ _ _ _ hap)).trans t3
  have B1:Beside g w (w.setCell ⟨g,3,none⟩ (.int .i64 (er:Int))):=(uZ HB).set
  obtain⟨w1,hw1⟩:∃w1,w.setCell ⟨g,3,none⟩ (.int .i64 (er:Int))=w1:=⟨_,rfl⟩
  rw [hw1] at HR d0 d1 d4 z4 u3 B1
  have HF:=hZ (And.intro ((uZ HR2) w1 (uZ HR)) (show Beside g w (w1.setCell ⟨g,4,none⟩ (.int .i64 (p:Int))).drew from B1.set.trans (Beside.of_below (Below.refl _ _).drew)))
  have HW:=hZ hw1
  clear h ht he hN HR HR2 HB B1 hw1 c4 f4 c1 c2 c0
  go_enter Tryz.func66,Tryz.ntmps66
  go_upto_region 2 with fail
  rw [uZ HW]
  clear HW c3 c3' f3 t3
  go_region
  go_wp2_with fail
  go_end0
  exact⟨rfl,uZ HF⟩
 ·rw [if_neg he]
  have k1:¬(σ.e:Int)=0:=by omega
  have k2:((σ.e:Int) == 0)=false:=beq_eq_false_iff_ne.2 k1
  have HF:=hZ (And.intro h (Beside.refl c.g w))
  obtain⟨E,hE⟩:∃E,σ.e=E:=⟨_,rfl⟩
  rw [hE] at c3 k1 k2
  clear h ht he hE
  go_enter Tryz.func66,Tryz.ntmps66
  go_wp2_with fail
  go_end0
  exact⟨rfl,uZ HF⟩
set_option maxRecDepth 100000 in
set_option maxHeartbeats 4000000 in
theorem isq_any {c:Cx} {σ:Sg} {w:World} (h:Rq w c σ) (kd:Nat) (s:List UInt8) :
  Calls Tryz.prog 65 #[.pointer (some ⟨c.g,0,none⟩),.int .i64 (kd:Int),.string (bA s)] w fun e w'=>e=.returned (.bool (isQ c.ts kd s σ))∧Below w.heap.size w w':=by
 have CP:=hZ (peek_any h)
 have HQ:=hZ h
 unfold isQ
 obtain⟨⟨k,t,n,p⟩,ht⟩:∃t,tkQ c.ts σ=t:=⟨_,rfl⟩
 rw [ht] at CP
 rw [ht]
 simp only [tkA] at CP ⊢
 obtain⟨R,hR⟩:∃R,decide (σ.e=0∧k=kd∧(kd=1∨kd=3∨kd=4∨kd=0∨t=s))=R:=⟨_,rfl⟩
 rw [hR]
 have HR:=hZ hR
 clear h ht hR
 go_enter Tryz.func65,Tryz.ntmps65
 go_wp2_with fail
 refine(uZ CP).mono ?_
 rintro e w1 ⟨rfl,b1⟩
 have HB:=hZ b1
 clear b1 CP
 go_upto_region 2 with fail
 obtain⟨w2,hw2⟩:∃w2,w1.alloc (.cells #[.int .i64 (k:Int),.string (bA t),.int .i64 (n:Int),.int .i64 (p:Int)] 52)=w2:=⟨_,rfl⟩
 have A2:w2.heap[w1.heap.size]?=some (.cells #[.int .i64 (k:Int),.string (bA t),.int .i64 (n:Int),.int .i64 (p:Int)] 52 (0,0)):=by rw [←hw2];exact heap_alloc_new _ _
 have B2:Below w1.heap.size w1 w2:=by rw [←hw2];exact(Below.refl _ _).alloc (Nat.le_refl _) _
 have H2:Hid (Below w.heap.size w w2):=hZ ((uZ HB).trans (B2.mono (uZ HB).size))
 obtain⟨_,_,_,c3,_⟩:=((uZ HQ).below (uZ H2)).cells
 obtain⟨a0,a1,a2,a3⟩:=row_cell4 A2
 rw [hw2]
 clear hw2 A2 B2 HB HQ
 obtain⟨g,tb,ct,ts⟩:=c
 obtain⟨i,so,se,sa⟩:=σ
 simp only [] at c3 HR ⊢
 by_cases he:se=0
 ·subst he
  have c3':w2.cell? ⟨g,3,none⟩=some (.int .i64 0):=c3
  clear c3
  by_cases hk:k=kd
  ·subst hk
   by_cases h1:k=1∨k=3∨k=4∨k=0
   ·have hd:decide ((0:Nat)=0∧k=k∧(k=1∨k=3∨k=4∨k=0∨t=s))=true:=decide_eq_true ⟨rfl,rfl,by rcases h1 with h|h|h|h <;> simp [h]⟩
    have HD:Hid (R=true):=hZ ((uZ HR).symm.trans hd)
    clear hd HR
    rcases h1 with rfl|rfl|rfl|rfl
    all_goals
     go_wp2_with fail
     go_ret
     exact⟨by rw [uZ HD];rfl,uZ H2⟩
   ·have n1:¬(k:Int)=1:=by omega
    have n3:¬(k:Int)=3:=by omega
    have n4:¬(k:Int)=4:=by omega
    have n0:¬(k:Int)=0:=by omega
    have b1:((k:Int) == 1)=false:=beq_eq_false_iff_ne.2 n1
    have b3:((k:Int) == 3)=false:=beq_eq_false_iff_ne.2 n3
    have b4:((k:Int) == 4)=false:=beq_eq_false_iff_ne.2 n4
    have b0:((k:Int) == 0)=false:=beq_eq_false_iff_ne.2 n0
    by_cases hs:t=s
    ·subst hs
     have hd:decide ((0:Nat)=0∧k=k∧(k=1∨k=3∨k=4∨k=0∨t=t))=true:=decide_eq_true ⟨rfl,rfl,by simp⟩
     have HD:Hid (R=true):=hZ ((uZ HR).symm.trans hd)
     clear hd h1 HR
     go_wp2_with fail
     go_ret
     exact⟨by rw [uZ HD];first|rfl|simp,uZ H2⟩
    ·have hs':¬bA t=bA s:=fun e=>hs (bA_inj.1 e)
     have hs2:¬(bA t).toList=(bA s).toList:=fun e=>hs' (bytes_inj.1 e)
     have hs3:((bA t).toList == (bA s).toList)=false:=beq_eq_false_iff_ne.2 hs2
     have hd:decide ((0:Nat)=0∧k=k∧(k=1∨k=3∨k=4∨k=0∨t=s))=false:=decide_eq_false (fun e=>by rcases e.2.2 with h|h|h|h|h <;> first|omega|exact hs h)
     have HD:Hid (R=false):=hZ ((uZ HR).symm.trans hd)
     clear hd h1 hs hs' HR
     go_wp2_with fail
     go_ret
     exact⟨by rw [uZ HD];first|rfl|simp [hs2,hs3],uZ H2⟩
  ·have n1:¬(k:Int)=(kd:Int):=by omega
   have b1:((k:Int) == (kd:Int))=false:=beq_eq_false_iff_ne.2 n1
   have hd:decide ((0:Nat)=0∧k=kd∧(kd=1∨kd=3∨kd=4∨kd=0∨t=s))=false:=decide_eq_false (fun e=>hk e.2.1)
   have HD:Hid (R=false):=hZ ((uZ HR).symm.trans hd)
   clear hd hk HR
   go_wp2_with fail
   go_ret
   exact⟨by rw [uZ HD];first|rfl|simp,uZ H2⟩
 ·have n1:¬(se:Int)=0:=by omega
  have b1:((se:Int) == 0)=false:=beq_eq_false_iff_ne.2 n1
  have hd:decide (se=0∧k=kd∧(kd=1∨kd=3∨kd=4∨kd=0∨t=s))=false:=decide_eq_false (fun e=>he e.1)
  have HD:Hid (R=false):=hZ ((uZ HR).symm.trans hd)
  clear hd he HR
  go_wp2_with fail
  go_ret
  exact⟨by rw [uZ HD];first|rfl|simp,uZ H2⟩
set_option maxRecDepth 100000 in
set_option maxHeartbeats 4000000 in
theorem signq_any {c:Cx} {σ:Sg} {w:World} (h:Rq w c σ) (s:List UInt8) :
  Calls Tryz.prog 47 #[.pointer (some ⟨c.g,0,none⟩),.string (bA s)] w fun e w'=>e=.returned (.bool (isQ c.ts 5 s σ))∧Below w.heap.size w w':=by
 have CP:=hZ (isq_any h 5 s)
 obtain⟨b,hb⟩:∃b,isQ c.ts 5 s σ=b:=⟨_,rfl⟩
 rw [hb] at CP
 rw [hb]
 clear h hb
 go_enter Tryz.func47,Tryz.ntmps47
 go_wp2_with fail
 refine(uZ CP).mono ?_
 rintro e w1 ⟨rfl,b1⟩
 have HB:=hZ b1
 clear b1 CP
 go_wp2_with fail
 go_ret
 exact⟨rfl,uZ HB⟩
set_option maxRecDepth 100000 in
set_option maxHeartbeats 4000000 in
theorem keyq_any {c:Cx} {σ:Sg} {w:World} (h:Rq w c σ) (s:List UInt8) :
  Calls Tryz.prog 44 #[.pointer (some ⟨c.g,0,none⟩),.string (bA s)] w fun e w'=>e=.returned (.bool (isQ c.ts 2 s σ))∧Below w.heap.size w w':=by
 have CP:=hZ (isq_any h 2 s)
 obtain⟨b,hb⟩:∃b,isQ c.ts 2 s σ=b:=⟨_,rfl⟩
 rw [hb] at CP
 rw [hb]
 clear h hb
 go_enter Tryz.func44,Tryz.ntmps44
 go_wp2_with fail
 refine(uZ CP).mono ?_
 rintro e w1 ⟨rfl,b1⟩
 have HB:=hZ b1
 clear b1 CP
 go_wp2_with fail
 go_ret
 exact⟨rfl,uZ HB⟩
set_option maxRecDepth 100000 in
set_option maxHeartbeats 4000000 in
theorem next_any {c:Cx} {σ:Sg} {w:World} (h:Rq w c σ) :
  Calls Tryz.prog 45 #[.pointer (some ⟨c.g,0,none⟩)] w fun e w'=>e=.returned (.agg (tkA (tkQ c.ts σ)))∧Rq w' c (nxQ c.ts σ)∧Beside c.g w w':=by
 have S1:=hZ (Sq.start (d:=0) h 52 #[.int .i64 0,.string ⟨#[]⟩,.int .i64 0,.int .i64 0])
 obtain⟨w1,hw1⟩:∃w1,w.alloc (.cells #[.int .i64 0,.string ⟨#[]⟩,.int .i64 0,.int .i64 0] 52)=w1:=⟨_,rfl⟩
 rw [hw1] at S1
 have CP:=hZ (peek_any (uZ S1).rd)
 obtain⟨⟨k,t,n,p⟩,ht⟩:∃t,tkQ c.ts σ=t:=⟨_,rfl⟩
 rw [ht] at CP
 rw [ht]
 simp only [tkA] at CP ⊢
 obtain⟨G,hG⟩:∃G,w.heap.size=G:=⟨_,rfl⟩
 have hix:=h.ix
 have hln:=h.len
 obtain⟨σ2,hσ⟩:∃z,nxQ c.ts σ=z:=⟨_,rfl⟩
 rw [hσ]
 have HS2:=hZ hσ
 clear h ht hσ
 go_enter Tryz.func45,Tryz.ntmps45
 go_wp2_with fail
 refine(uZ CP).mono ?_
 rintro e w2 ⟨rfl,b2⟩
 have S2:=hZ ((uZ S1).below b2)
 obtain⟨w3,hw3⟩:∃w3,w2.alloc (.cells #[.int .i64 (k:Int),.string (bA t),.int .i64 (n:Int),.int .i64 (p:Int)] 52)=w3:=⟨_,rfl⟩
 have A3:w3.heap[w2.heap.size]?=some (.cells #[.int .i64 (k:Int),.string (bA t),.int .i64 (n:Int),.int .i64 (p:Int)] 52 (0,0)):=by rw [←hw3];exact heap_alloc_new _ _
 have B3:Below w2.heap.size w2 w3:=by rw [←hw3];exact(Below.refl _ _).alloc (Nat.le_refl _) _
 have S3:=hZ ((uZ S2).below B3)
 obtain⟨Q,hQ⟩:∃Q,w2.heap.size=Q:=⟨_,rfl⟩
 rw [hQ] at A3
 have hGQ:G<Q:=by rw [←hG,←hQ];exact(uZ S2).lt
 have HW:=hZ hw3
 clear hw1 hw3 b2 CP S1 B3
 obtain⟨c0,c1,c2,c3,c4⟩:=(uZ S3).rd.cells
 obtain⟨f1,f2,f3,f4,hgl⟩:=(uZ S3).rd.frz
 have hgG:c.g<G:=by rw [←hG];exact(uZ S3).g1
 have HA:=hZ A3
 go_upto_region 2 with fail
 rw [uZ HW]
 try rw [hQ]
 clear HW A3
 by_cases hl:σ.i+1<c.ts.length
 ·have hnx:nxQ c.ts σ=⟨σ.i+1,σ.o,σ.e,σ.a⟩:=by unfold nxQ;rw [if_pos hl]
  have R4:=hZ (fun (u:World) (hu:Rq u c σ)=>(by have:=hu.seti (σ.i+1) ((σ.i:Int)+1) (by omega) hl;rw [←hnx,uZ HS2] at this;exact this:Rq (u.setCell ⟨c.g,1,none⟩ (.int .i64 ((σ.i:Int)+1))) c σ2))
  obtain⟨N,hN⟩:∃N,c.ts.length=N:=⟨_,rfl⟩
  obtain⟨i,hi⟩:∃i,σ.i=i:=⟨_,rfl⟩
  rw [hN] at c0 hl hln
  rw [hi] at c1 hl R4
  have j1:(i:Int)<(N:Int) - 1:=by omega
  have jw:IntKind.i64.wrap ((N:Int) - 1)=(N:Int) - 1:=by rw [IntKind.wrap_i64];omega
  have jx:IntKind.i64.wrap ((i:Int)+1)=(i:Int)+1:=by rw [IntKind.wrap_i64];omega
  clear hl hnx hix
  go_quiet (fail)
  have S5:Hid (Sq w c 52 #[.int .i64 0,.string ⟨#[]⟩,.int .i64 0,.int .i64 0] (w3.drewN nq) σ 0):=hZ ((uZ S3).below (below_drewN' nq w3))
  have A5:Hid ((w3.drewN nq).heap[Q]?=some (.cells #[.int .i64 (k:Int),.string (bA t),.int .i64 (n:Int),.int .i64 (p:Int)] 52 (0,0))):=hZ (uZ HA)
  have C5:=(uZ S5).rd.cells.2.1
  have F5:=(uZ S5).rd.frz.1
  rw [hi] at C5
  obtain⟨u5,hu5⟩:∃u,w3.drewN nq=u:=⟨_,rfl⟩
  rw [hu5] at S5 A5 C5 F5
  rw [hu5]
  have S6:Hid (Sq w c 52 #[.int .i64 0,.string ⟨#[]⟩,.int .i64 0,.int .i64 0] (u5.setCell ⟨c.g,1,none⟩ (.int .i64 ((i:Int)+1))) σ2 0):=hZ ((uZ S5).go (Beside.refl c.g u5).set ((uZ R4) u5 (uZ S5).rd))
  have A6:Hid ((u5.setCell ⟨c.g,1,none⟩ (.int .i64 ((i:Int)+1))).heap[Q]?=some (.cells #[.int .i64 (k:Int),.string (bA t),.int .i64 (n:Int),.int .i64 (p:Int)] 52 (0,0))):=hZ (by rw [heap_setCell_other _ _ _ _ (show Q≠c.g by omega)];exact uZ A5)
  obtain⟨u6,hu6⟩:∃u,u5.setCell ⟨c.g,1,none⟩ (.int .i64 ((i:Int)+1))=u:=⟨_,rfl⟩
  rw [hu6] at S6 A6
  have HW6:=hZ hu6
  clear hu5 hu6 R4 HS2 hi hN HA S3 c0 c1 c2 c3 c4 f1 f2 f3 f4
  go_upto_region 4 with fail
  rw [uZ HW6]
  clear HW6 C5 F5
  obtain⟨x0,x1,x2,x3⟩:=row_cell4 (uZ A6)
  have BX:=(uZ S6).bx
  rw [hG] at BX
  obtain⟨g0,g1,g2,g3⟩:=row_cell4 BX
  have z0:=frozen_of_row u6 G 0 _ _ BX
  have z1:=frozen_of_row u6 G 1 _ _ BX
  have z2:=frozen_of_row u6 G 2 _ _ BX
  have z3:=frozen_of_row u6 G 3 _ _ BX
  clear BX
  go_wp2_with fail
  have F6:=(uZ S6).fin4 (.int .i64 (k:Int)) (.string (bA t)) (.int .i64 (n:Int)) (.int .i64 (p:Int))
  rw [hG] at F6
  exact bodyPost_ret (ret_c1 (p:=2) (T:=52) rfl _ _ G _ _ _ rfl F6.1 Tryz.underlying52 rfl size_tk) rfl ⟨rfl,F6.2⟩
 ·have hnx:nxQ c.ts σ=σ:=by unfold nxQ;rw [if_neg hl]
  have H2:Hid (σ=σ2):=hZ (hnx.symm.trans (uZ HS2))
  obtain⟨N,hN⟩:∃N,c.ts.length=N:=⟨_,rfl⟩
  obtain⟨i,hi⟩:∃i,σ.i=i:=⟨_,rfl⟩
  rw [hN] at c0 hl hln
  rw [hi] at c1 hl
  have j1:¬(i:Int)<(N:Int) - 1:=by omega
  have jw:IntKind.i64.wrap ((N:Int) - 1)=(N:Int) - 1:=by rw [IntKind.wrap_i64];omega
  clear hl hnx hix
  go_quiet (fail)
  have S6:Hid (Sq w c 52 #[.int .i64 0,.string ⟨#[]⟩,.int .i64 0,.int .i64 0] (w3.drewN nq) σ2 0):=hZ (by rw [←uZ H2];exact(uZ S3).below (below_drewN' nq w3))
  have A6:Hid ((w3.drewN nq).heap[Q]?=some (.cells #[.int .i64 (k:Int),.string (bA t),.int .i64 (n:Int),.int .i64 (p:Int)] 52 (0,0))):=hZ (uZ HA)
  obtain⟨u6,hu6⟩:∃u,w3.drewN nq=u:=⟨_,rfl⟩
  rw [hu6] at S6 A6
  rw [hu6]
  clear hu6 HS2 H2 hi hN HA S3 c0 c1 c2 c3 c4 f1 f2 f3 f4
  obtain⟨x0,x1,x2,x3⟩:=row_cell4 (uZ A6)
  have BX:=(uZ S6).bx
  rw [hG] at BX
  obtain⟨g0,g1,g2,g3⟩:=row_cell4 BX
  have z0:=frozen_of_row u6 G 0 _ _ BX
  have z1:=frozen_of_row u6 G 1 _ _ BX
  have z2:=frozen_of_row u6 G 2 _ _ BX
  have z3:=frozen_of_row u6 G 3 _ _ BX
  clear BX
  go_wp2_with fail
  have F6:=(uZ S6).fin4 (.int .i64 (k:Int)) (.string (bA t)) (.int .i64 (n:Int)) (.int .i64 (p:Int))
  rw [hG] at F6
  exact bodyPost_ret (ret_c1 (p:=2) (T:=52) rfl _ _ G _ _ _ rfl F6.1 Tryz.underlying52 rfl size_tk) rfl ⟨rfl,F6.2⟩
set_option maxRecDepth 100000 in
set_option maxHeartbeats 4000000 in
theorem must_any {c:Cx} {σ:Sg} {w:World} (h:Rq w c σ) (kd:Nat) (s:List UInt8) :
  Calls Tryz.prog 46 #[.pointer (some ⟨c.g,0,none⟩),.int .i64 (kd:Int),.string (bA s)] w fun e w'=>e=.returned (.agg (tkA (muQ c.ts kd s σ).1))∧Rq w' c (muQ c.ts kd s σ).2∧Beside c.g w w':=by
 have S1:=hZ (Sq.start (d:=0) h 52 #[.int .i64 0,.string ⟨#[]⟩,.int .i64 0,.int .i64 0])
 obtain⟨w1,hw1⟩:∃w1,w.alloc (.cells #[.int .i64 0,.string ⟨#[]⟩,.int .i64 0,.int .i64 0] 52)=w1:=⟨_,rfl⟩
 rw [hw1] at S1
 obtain⟨G,hG⟩:∃G,w.heap.size=G:=⟨_,rfl⟩
 have CI:=hZ (isq_any (uZ S1).rd kd s)
 cases hq:isQ c.ts kd s σ with
 |true=>
  have e1:muQ c.ts kd s σ=(tkQ c.ts σ,nxQ c.ts σ):=by unfold muQ;rw [if_pos hq]
  rw [e1]
  rw [hq] at CI
  obtain⟨⟨k,t,n,p⟩,ht⟩:∃t,tkQ c.ts σ=t:=⟨_,rfl⟩
  rw [ht]
  simp only [tkA]
  have HT:=hZ ht
  clear h hq e1 ht
  go_enter Tryz.func46,Tryz.ntmps46
  go_wp2_with fail
  refine(uZ CI).mono ?_
  rintro e w2 ⟨rfl,b2⟩
  have S2:=hZ ((uZ S1).below b2)
  have CN:=hZ (next_any (uZ S2).rd)
  rw [uZ HT] at CN
  simp only [tkA] at CN
  clear b2 CI S1 hw1
  go_wp2_with fail
  refine(uZ CN).mono ?_
  rintro e w3 ⟨rfl,r3,b3⟩
  have S3:=hZ ((uZ S2).go (d':=0) b3 r3)
  clear b3 r3 CN S2
  have BX:=(uZ S3).bx
  rw [hG] at BX
  obtain⟨g0,g1,g2,g3⟩:=row_cell4 BX
  have z0:=frozen_of_row _ G 0 _ _ BX
  have z1:=frozen_of_row _ G 1 _ _ BX
  have z2:=frozen_of_row _ G 2 _ _ BX
  have z3:=frozen_of_row _ G 3 _ _ BX
  clear BX
  go_wp2_with fail
  have F6:=(uZ S3).fin4 (.int .i64 (k:Int)) (.string (bA t)) (.int .i64 (n:Int)) (.int .i64 (p:Int))
  rw [hG] at F6
  exact bodyPost_ret (ret_c1 (p:=6) (T:=52) rfl _ _ G _ _ _ rfl F6.1 Tryz.underlying52 rfl size_tk) rfl ⟨rfl,F6.2⟩
 |false=>
  have e1:muQ c.ts kd s σ=(⟨0,[],0,0⟩,wrQ c.ts 170 σ):=by unfold muQ;rw [if_neg (by rw [hq];simp)]
  rw [e1]
  rw [hq] at CI
  show Calls Tryz.prog 46 #[.pointer (some ⟨c.g,0,none⟩),.int .i64 (kd:Int),.string (bA s)] w fun e w'=>e=.returned (.agg #[.int .i64 0,.string ⟨#[]⟩,.int .i64 0,.int .i64 0])∧Rq w' c (wrQ c.ts 170 σ)∧Beside c.g w w'
  clear h hq e1
  go_enter Tryz.func46,Tryz.ntmps46
  go_wp2_with fail
  refine(uZ CI).mono ?_
  rintro e w2 ⟨rfl,b2⟩
  have S2:=hZ ((uZ S1).below b2)
  have CN:=hZ (wrong_any (uZ S2).rd 170)
  clear b2 CI S1 hw1
  go_wp2_with fail
  refine(uZ CN).mono ?_
  rintro e w3 ⟨rfl,r3,b3⟩
  have S3:=hZ ((uZ S2).go (d':=0) b3 r3)
  clear b3 r3 CN S2
  have BX:=(uZ S3).bx
  rw [hG] at BX
  obtain⟨g0,g1,g2,g3⟩:=row_cell4 BX
  have z0:=frozen_of_row _ G 0 _ _ BX
  have z1:=frozen_of_row _ G 1 _ _ BX
  have z2:=frozen_of_row _ G 2 _ _ BX
  have z3:=frozen_of_row _ G 3 _ _ BX
  clear BX
  go_wp2_with fail
  have F6:=(uZ S3).fin4 (.int .i64 0) (.string ⟨#[]⟩) (.int .i64 0) (.int .i64 0)
  rw [hG] at F6
  exact bodyPost_ret (ret_c1 (p:=6) (T:=52) rfl _ _ G _ _ _ rfl F6.1 Tryz.underlying52 rfl size_tk) rfl ⟨rfl,F6.2⟩
set_option maxRecDepth 100000 in
set_option maxHeartbeats 4000000 in
theorem opens_any {c:Cx} {σ:Sg} {w:World} (h:Rq w c σ) :
  Calls Tryz.prog 67 #[.pointer (some ⟨c.g,0,none⟩)] w fun e w'=>e=.returned (.agg (tkA (opQ c.ts σ).1))∧Rq w' c (opQ c.ts σ).2∧Beside c.g w w':=by
 have S1:=hZ (Sq.start (d:=0) h 52 #[.int .i64 0,.string ⟨#[]⟩,.int .i64 0,.int .i64 0])
 obtain⟨w1,hw1⟩:∃w1,w.alloc (.cells #[.int .i64 0,.string ⟨#[]⟩,.int .i64 0,.int .i64 0] 52)=w1:=⟨_,rfl⟩
 rw [hw1] at S1
 obtain⟨G,hG⟩:∃G,w.heap.size=G:=⟨_,rfl⟩
 obtain⟨c0,c1,c2,c3,c4⟩:=(uZ S1).rd.cells
 obtain⟨f1,f2,f3,f4,hgl⟩:=(uZ S1).rd.frz
 obtain⟨so,hso⟩:∃z,σ.o=z:=⟨_,rfl⟩
 by_cases hq:24≤σ.o
 ·have e1:opQ c.ts σ=(⟨0,[],0,0⟩,wrQ c.ts 171 σ):=by unfold opQ;rw [if_pos hq]
  rw [e1]
  show Calls Tryz.prog 67 #[.pointer (some ⟨c.g,0,none⟩)] w fun e w'=>e=.returned (.agg #[.int .i64 0,.string ⟨#[]⟩,.int .i64 0,.int .i64 0])∧Rq w' c (wrQ c.ts 171 σ)∧Beside c.g w w'
  have CN:=hZ (wrong_any (uZ S1).rd 171)
  rw [hso] at hq c2
  clear h e1 hso c0 c1 c3 c4 f1 f3 f4
  go_enter Tryz.func67,Tryz.ntmps67
  go_wp2_with fail
  refine(uZ CN).mono ?_
  rintro e w3 ⟨rfl,r3,b3⟩
  have S3:=hZ ((uZ S1).go (d':=0) b3 r3)
  clear b3 r3 CN S1 hw1 c2 f2
  have BX:=(uZ S3).bx
  rw [hG] at BX
  obtain⟨g0,g1,g2,g3⟩:=row_cell4 BX
  have z0:=frozen_of_row _ G 0 _ _ BX
  have z1:=frozen_of_row _ G 1 _ _ BX
  have z2:=frozen_of_row _ G 2 _ _ BX
  have z3:=frozen_of_row _ G 3 _ _ BX
  clear BX
  go_wp2_with fail
  have F6:=(uZ S3).fin4 (.int .i64 0) (.string ⟨#[]⟩) (.int .i64 0) (.int .i64 0)
  rw [hG] at F6
  exact bodyPost_ret (ret_c1 (p:=2) (T:=52) rfl _ _ G _ _ _ rfl F6.1 Tryz.underlying52 rfl size_tk) rfl ⟨rfl,F6.2⟩
 ·have e1:opQ c.ts σ=(tkQ c.ts σ,nxQ c.ts ⟨σ.i,wrI (σ.o+1),σ.e,σ.a⟩):=by unfold opQ;rw [if_neg hq]
  rw [e1]
  have S2:=hZ ((uZ S1).go (d':=0) (Beside.refl c.g w1).set ((uZ S1).rd.seto (wrI (σ.o+1))))
  have CN:=hZ (next_any (uZ S2).rd)
  have e2:tkQ c.ts ⟨σ.i,wrI (σ.o+1),σ.e,σ.a⟩=tkQ c.ts σ:=rfl
  rw [e2] at CN
  obtain⟨⟨k,t,n,p⟩,ht⟩:∃t,tkQ c.ts σ=t:=⟨_,rfl⟩
  rw [ht] at CN
  rw [ht]
  simp only [tkA] at CN ⊢
  obtain⟨σ2,hσ2⟩:∃z,nxQ c.ts ⟨σ.i,wrI (σ.o+1),σ.e,σ.a⟩=z:=⟨_,rfl⟩
  rw [hσ2] at CN
  rw [hσ2]
  have hw9:wrI (σ.o+1)=wrap64 (so+1):=by rw [hso];rfl
  obtain⟨w2,hw2⟩:∃w2,w1.setCell ⟨c.g,2,none⟩ (.int .i64 (wrap64 (so+1)))=w2:=⟨_,rfl⟩
  rw [hw9,hw2] at S2 CN
  have HW:=hZ hw2
  rw [hso] at hq c2
  clear h e1 e2 hso ht hσ2 hw9 hw2 c0 c1 c3 c4 f1 f3 f4
  go_enter Tryz.func67,Tryz.ntmps67
  go_upto_region 5 with fail
  rw [uZ HW]
  clear HW c2 f2 hw1
  go_wp2_with fail
  refine(uZ CN).mono ?_
  rintro e w3 ⟨rfl,r3,b3⟩
  have S3:=hZ ((uZ S2).go (d':=0) b3 r3)
  clear b3 r3 CN S2 S1
  have BX:=(uZ S3).bx
  rw [hG] at BX
  obtain⟨g0,g1,g2,g3⟩:=row_cell4 BX
  have z0:=frozen_of_row _ G 0 _ _ BX
  have z1:=frozen_of_row _ G 1 _ _ BX
  have z2:=frozen_of_row _ G 2 _ _ BX
  have z3:=frozen_of_row _ G 3 _ _ BX
  clear BX
  go_wp2_with fail
  have F6:=(uZ S3).fin4 (.int .i64 (k:Int)) (.string (bA t)) (.int .i64 (n:Int)) (.int .i64 (p:Int))
  rw [hG] at F6
  exact bodyPost_ret (ret_c1 (p:=2) (T:=52) rfl _ _ G _ _ _ rfl F6.1 Tryz.underlying52 rfl size_tk) rfl ⟨rfl,F6.2⟩
set_option maxRecDepth 100000 in
set_option maxHeartbeats 4000000 in
theorem closes_any {c:Cx} {σ:Sg} {w:World} (h:Rq w c σ) (s:List UInt8) :
  Calls Tryz.prog 69 #[.pointer (some ⟨c.g,0,none⟩),.string (bA s)] w fun e w'=>e=.returned (.tuple #[])∧Rq w' c (clQ c.ts s σ)∧Beside c.g w w':=by
 have CM:=hZ (must_any h 5 s)
 unfold clQ dnQ
 obtain⟨⟨⟨k,t,n,p⟩,σ1⟩,hm⟩:∃z,muQ c.ts 5 s σ=z:=⟨_,rfl⟩
 rw [hm] at CM
 rw [hm]
 simp only [tkA] at CM ⊢
 obtain⟨i,so,se,sa⟩:=σ1
 clear h hm
 go_enter Tryz.func69,Tryz.ntmps69
 go_wp2_with fail
 refine(uZ CM).mono ?_
 rintro e w2 ⟨rfl,r2,b2⟩
 obtain⟨c0,c1,c2,c3,c4⟩:=r2.cells
 obtain⟨f1,f2,f3,f4,hgl⟩:=r2.frz
 have HF:Hid (Rq (w2.setCell ⟨c.g,2,none⟩ (.int .i64 (wrap64 (so - 1)))) c ⟨i,wrI (so - 1),se,sa⟩∧Beside c.g w (w2.setCell ⟨c.g,2,none⟩ (.int .i64 (wrap64 (so - 1))))):=hZ (And.intro (r2.seto (wrI (so - 1))) (b2.set (f:=2) (v:=.int .i64 (wrI (so - 1)))))
 clear r2 b2 CM c0 c1 c3 c4 f1 f3 f4
 go_wp2_with fail
 go_end0
 exact⟨rfl,uZ HF⟩
set_option maxRecDepth 100000 in
set_option maxHeartbeats 4000000 in
theorem level_any (t:Tk) (w:World) :
  Calls Tryz.prog 121 #[.agg (tkA t)] w fun e w'=>e=.returned (.int .i64 (lvT t:Int))∧Below w.heap.size w w':=by
 obtain⟨k,t,n,p⟩:=t
 simp only [tkA]
 obtain⟨L,hL⟩:∃L,lvT ⟨k,t,n,p⟩=L:=⟨_,rfl⟩
 rw [hL]
 unfold lvT at hL
 simp only [] at hL
 obtain⟨w2,hw2⟩:∃w2,w.alloc (.cells #[.int .i64 (k:Int),.string (bA t),.int .i64 (n:Int),.int .i64 (p:Int)] 52)=w2:=⟨_,rfl⟩
 have A2:w2.heap[w.heap.size]?=some (.cells #[.int .i64 (k:Int),.string (bA t),.int .i64 (n:Int),.int .i64 (p:Int)] 52 (0,0)):=by rw [←hw2];exact heap_alloc_new _ _
 have B2:Below w.heap.size w w2:=by rw [←hw2];exact(Below.refl _ _).alloc (Nat.le_refl _) _
 have H2:=hZ B2
 obtain⟨a0,a1,a2,a3⟩:=row_cell4 A2
 obtain⟨G,hG⟩:∃G,w.heap.size=G:=⟨_,rfl⟩
 rw [hG] at a0 a1 a2 a3
 have HW:=hZ hw2
 clear A2 B2 hw2
 go_enter Tryz.func121,Tryz.ntmps121
 go_upto_region 1 with fail
 rw [uZ HW]
 try rw [hG]
 clear HW
 by_cases hk:k=5
 ·subst hk
  rw [if_pos rfl] at hL
  have a0':w2.cell? ⟨G,0,none⟩=some (.int .i64 5):=a0
  clear a0
  by_cases h0:t=[124,124]
  ·subst h0
   have HL:Hid (L=1):=hZ (hL.symm.trans (by decide +kernel))
   have ee:((bA [124,124]).toList == [124,124])=true:=by kernel_rfl
   clear hL
   go_wp2_with fail
   go_ret
   exact⟨by rw [uZ HL];rfl,by first|exact uZ H2|(rw [←hG];exact uZ H2)⟩
  have e0:((bA t).toList == [124,124])=false:=beq_eq_false_iff_ne.2 (fun e=>h0 (by rw [bA_list] at e;exact e))
  have m0:¬(bA t).toList=[124,124]:=fun e=>h0 (by rw [bA_list] at e;exact e)
  by_cases h1:t=[38,38]
  ·subst h1
   have HL:Hid (L=2):=hZ (hL.symm.trans (by decide +kernel))
   have ee:((bA [38,38]).toList == [38,38])=true:=by kernel_rfl
   clear hL
   go_wp2_with fail
   go_ret
   exact⟨by rw [uZ HL];rfl,by first|exact uZ H2|(rw [←hG];exact uZ H2)⟩
  have e1:((bA t).toList == [38,38])=false:=beq_eq_false_iff_ne.2 (fun e=>h1 (by rw [bA_list] at e;exact e))
  have m1:¬(bA t).toList=[38,38]:=fun e=>h1 (by rw [bA_list] at e;exact e)
  by_cases h2:t=[61,61]
  ·subst h2
   have HL:Hid (L=3):=hZ (hL.symm.trans (by decide +kernel))
   have ee:((bA [61,61]).toList == [61,61])=true:=by kernel_rfl
   clear hL
   go_wp2_with fail
   go_ret
   exact⟨by rw [uZ HL];rfl,by first|exact uZ H2|(rw [←hG];exact uZ H2)⟩
  have e2:((bA t).toList == [61,61])=false:=beq_eq_false_iff_ne.2 (fun e=>h2 (by rw [bA_list] at e;exact e))
  have m2:¬(bA t).toList=[61,61]:=fun e=>h2 (by rw [bA_list] at e;exact e)
  by_cases h3:t=[33,61]
  ·subst h3
   have HL:Hid (L=3):=hZ (hL.symm.trans (by decide +kernel))
   have ee:((bA [33,61]).toList == [33,61])=true:=by kernel_rfl
   clear hL
   go_wp2_with fail
   go_ret
   exact⟨by rw [uZ HL];rfl,by first|exact uZ H2|(rw [←hG];exact uZ H2)⟩
  have e3:((bA t).toList == [33,61])=false:=beq_eq_false_iff_ne.2 (fun e=>h3 (by rw [bA_list] at e;exact e))
  have m3:¬(bA t).toList=[33,61]:=fun e=>h3 (by rw [bA_list] at e;exact e)
  by_cases h4:t=[60]
  ·subst h4
   have HL:Hid (L=3):=hZ (hL.symm.trans (by decide +kernel))
   have ee:((bA [60]).toList == [60])=true:=by kernel_rfl
   clear hL
   go_wp2_with fail
   go_ret
   exact⟨by rw [uZ HL];rfl,by first|exact uZ H2|(rw [←hG];exact uZ H2)⟩
  have e4:((bA t).toList == [60])=false:=beq_eq_false_iff_ne.2 (fun e=>h4 (by rw [bA_list] at e;exact e))
  have m4:¬(bA t).toList=[60]:=fun e=>h4 (by rw [bA_list] at e;exact e)
  by_cases h5:t=[60,61]
  ·subst h5
   have HL:Hid (L=3):=hZ (hL.symm.trans (by decide +kernel))
   have ee:((bA [60,61]).toList == [60,61])=true:=by kernel_rfl
   clear hL
   go_wp2_with fail
   go_ret
   exact⟨by rw [uZ HL];rfl,by first|exact uZ H2|(rw [←hG];exact uZ H2)⟩
  have e5:((bA t).toList == [60,61])=false:=beq_eq_false_iff_ne.2 (fun e=>h5 (by rw [bA_list] at e;exact e))
  have m5:¬(bA t).toList=[60,61]:=fun e=>h5 (by rw [bA_list] at e;exact e)
  by_cases h6:t=[62]
  ·subst h6
   have HL:Hid (L=3):=hZ (hL.symm.trans (by decide +kernel))
   have ee:((bA [62]).toList == [62])=true:=by kernel_rfl
   clear hL
   go_wp2_with fail
   go_ret
   exact⟨by rw [uZ HL];rfl,by first|exact uZ H2|(rw [←hG];exact uZ H2)⟩
  have e6:((bA t).toList == [62])=false:=beq_eq_false_iff_ne.2 (fun e=>h6 (by rw [bA_list] at e;exact e))
  have m6:¬(bA t).toList=[62]:=fun e=>h6 (by rw [bA_list] at e;exact e)
  by_cases h7:t=[62,61]
  ·subst h7
   have HL:Hid (L=3):=hZ (hL.symm.trans (by decide +kernel))
   have ee:((bA [62,61]).toList == [62,61])=true:=by kernel_rfl
   clear hL
   go_wp2_with fail
   go_ret
   exact⟨by rw [uZ HL];rfl,by first|exact uZ H2|(rw [←hG];exact uZ H2)⟩
  have e7:((bA t).toList == [62,61])=false:=beq_eq_false_iff_ne.2 (fun e=>h7 (by rw [bA_list] at e;exact e))
  have m7:¬(bA t).toList=[62,61]:=fun e=>h7 (by rw [bA_list] at e;exact e)
  by_cases h8:t=[43]
  ·subst h8
   have HL:Hid (L=4):=hZ (hL.symm.trans (by decide +kernel))
   have ee:((bA [43]).toList == [43])=true:=by kernel_rfl
   clear hL
   go_wp2_with fail
   go_ret
   exact⟨by rw [uZ HL];rfl,by first|exact uZ H2|(rw [←hG];exact uZ H2)⟩
  have e8:((bA t).toList == [43])=false:=beq_eq_false_iff_ne.2 (fun e=>h8 (by rw [bA_list] at e;exact e))
  have m8:¬(bA t).toList=[43]:=fun e=>h8 (by rw [bA_list] at e;exact e)
  by_cases h9:t=[45]
  ·subst h9
   have HL:Hid (L=4):=hZ (hL.symm.trans (by decide +kernel))
   have ee:((bA [45]).toList == [45])=true:=by kernel_rfl
   clear hL
   go_wp2_with fail
   go_ret
   exact⟨by rw [uZ HL];rfl,by first|exact uZ H2|(rw [←hG];exact uZ H2)⟩
  have e9:((bA t).toList == [45])=false:=beq_eq_false_iff_ne.2 (fun e=>h9 (by rw [bA_list] at e;exact e))
  have m9:¬(bA t).toList=[45]:=fun e=>h9 (by rw [bA_list] at e;exact e)
  by_cases h10:t=[42]
  ·subst h10
   have HL:Hid (L=5):=hZ (hL.symm.trans (by decide +kernel))
   have ee:((bA [42]).toList == [42])=true:=by kernel_rfl
   clear hL
   go_wp2_with fail
   go_ret
   exact⟨by rw [uZ HL];rfl,by first|exact uZ H2|(rw [←hG];exact uZ H2)⟩
  have e10:((bA t).toList == [42])=false:=beq_eq_false_iff_ne.2 (fun e=>h10 (by rw [bA_list] at e;exact e))
  have m10:¬(bA t).toList=[42]:=fun e=>h10 (by rw [bA_list] at e;exact e)
  by_cases h11:t=[47]
  ·subst h11
   have HL:Hid (L=5):=hZ (hL.symm.trans (by decide +kernel))
   have ee:((bA [47]).toList == [47])=true:=by kernel_rfl
   clear hL
   go_wp2_with fail
   go_ret
   exact⟨by rw [uZ HL];rfl,by first|exact uZ H2|(rw [←hG];exact uZ H2)⟩
  have e11:((bA t).toList == [47])=false:=beq_eq_false_iff_ne.2 (fun e=>h11 (by rw [bA_list] at e;exact e))
  have m11:¬(bA t).toList=[47]:=fun e=>h11 (by rw [bA_list] at e;exact e)
  by_cases h12:t=[37]
  ·subst h12
   have HL:Hid (L=5):=hZ (hL.symm.trans (by decide +kernel))
   have ee:((bA [37]).toList == [37])=true:=by kernel_rfl
   clear hL
   go_wp2_with fail
   go_ret
   exact⟨by rw [uZ HL];rfl,by first|exact uZ H2|(rw [←hG];exact uZ H2)⟩
  have e12:((bA t).toList == [37])=false:=beq_eq_false_iff_ne.2 (fun e=>h12 (by rw [bA_list] at e;exact e))
  have m12:¬(bA t).toList=[37]:=fun e=>h12 (by rw [bA_list] at e;exact e)
  have HL:Hid (L=0):=hZ (hL.symm.trans (by unfold rowS;simp [h0,h1,h2,h3,h4,h5,h6,h7,h8,h9,h10,h11,h12]))
  clear hL h0 h1 h2 h3 h4 h5 h6 h7 h8 h9 h10 h11 h12
  go_wp2_with fail
  go_ret
  exact⟨by rw [uZ HL];rfl,by first|exact uZ H2|(rw [←hG];exact uZ H2)⟩
 ·rw [if_neg hk] at hL
  have HL:Hid (L=0):=hZ hL.symm
  have n1:¬(k:Int)=5:=by omega
  have n2:((k:Int) == 5)=false:=beq_eq_false_iff_ne.2 n1
  clear hL hk
  go_wp2_with fail
  go_ret
  exact⟨by rw [uZ HL];rfl,by first|exact uZ H2|(rw [←hG];exact uZ H2)⟩
theorem bq_some {o:Option (List Nd × Sg)} {k:List Nd→Sg→Option (List Nd × Sg)} {r:List Nd × Sg} (h:bq o k=some r):∃ns σ,o=some (ns,σ)∧k ns σ=some r:=by
 cases o with
 |none=>cases h
 |some y=>exact⟨y.1,y.2,rfl,h⟩
theorem okq_some {n:List Nd} {σ:Sg} {r:List Nd × Sg} (h:okq n σ=some r):r=(n,σ):=by cases h;rfl
set_option maxRecDepth 100000 in
set_option maxHeartbeats 4000000 in
theorem exprq_step {c:Cx} {σ:Sg} {w:World} {r:List Nd × Sg} {f:Nat} (ihr:∀{x:Nat} {c:Cx} {σ:Sg} {w:World} {r:List Nd × Sg},1≤x→x≤6→RJ c.ts f 2 x [] σ=some r→Rq w c σ→Calls Tryz.prog 103 #[.pointer (some ⟨c.g,0,none⟩),.int .i64 (x:Int)] w fun e w'=>NqP c w r e w') (hJ:RJ c.ts (f+1) 0 0 [] σ=some r) (h:Rq w c σ) :
  Calls Tryz.prog 91 #[.pointer (some ⟨c.g,0,none⟩)] w fun e w'=>NqP c w r e w':=by
 have S1:=hZ (Sq.start (d:=0) h 29 #[.int .i64 0,.string ⟨#[]⟩,.int .i64 0,.int .i64 0,.string ⟨#[]⟩,.slice none 0 0,.slice none 0 0,.bool false,.slice none 0 0,.int .i64 0])
 obtain⟨w1,hw1⟩:∃w1,w.alloc (.cells #[.int .i64 0,.string ⟨#[]⟩,.int .i64 0,.int .i64 0,.string ⟨#[]⟩,.slice none 0 0,.slice none 0 0,.bool false,.slice none 0 0,.int .i64 0] 29)=w1:=⟨_,rfl⟩
 rw [hw1] at S1
 obtain⟨G,hG⟩:∃G,w.heap.size=G:=⟨_,rfl⟩
 have hgw:c.g<w.heap.size:=h.frz.2.2.2.2
 clear h
 go_enter Tryz.func91,Tryz.ntmps91
 have HJ0:=hZ (show RJ c.ts f 2 1 [] σ=some r from hJ)
 clear hJ
 obtain⟨⟨nsx,sx⟩,hrx⟩:∃zz,r=zz:=⟨_,rfl⟩
 have CR:=hZ (ihr (show 1≤1 by omega) (show 1≤6 by omega) (uZ HJ0) (uZ S1).rd)
 have HR1:=hZ hrx
 rw [hrx] at CR
 clear hrx
 go_wp2_with fail
 refine(uZ CR).mono ?_
 rintro e w2 ⟨kx,tx,vkx,vnx,vsx,fx,nx,akx,ckx,px,Zx,rfl,hlx,hn,r2,b⟩
 simp only [] at hlx hn r2
 have S2:=hZ ((uZ S1).go (d':=0) b r2)
 have HNx_2:=hZ (hn.low (lo':=w.heap.size+1) (uZ S1).lt)
 clear b r2 hn CR S1
 have HR:=hZ (uZ HR1)
 have BX:=(uZ S2).bx
 rw [hG] at BX
 obtain⟨g0,g1,g2,g3,g4,g5,g6,g7,g8,g9⟩:=row_cell10 BX
 obtain⟨z0,z1,z2,z3,z4,z5,z6,z7,z8,z9⟩:=frozen10 BX
 clear BX
 have FF:=hZ (Sq.done (uZ S2) (uZ HNx_2) hlx hG)
 go_wp2_with fail
 refine bodyPost_ret (ret_c1 (p:=2) (T:=29) rfl _ _ G _ _ _ rfl (uZ FF).1 Tryz.underlying29 rfl size_nd) rfl ?_
 rw [uZ HR]
 exact(uZ FF).2
end Go.Proofs.YtilhlmmcdfoaoaaGreatDoor
