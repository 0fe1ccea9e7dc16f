/-
  Layer 17 (parse): the document's Program, of any source: what the program's comes to; no conditions.
  Layer 17 (parse): trees in memory, as they are read; no conditions.
  Layer 17 (parse): the walks of the laws' Same, of values without parts and of trees; no conditions.
-/
import Derived.Test.YtilhlmmcdfoaoaaGreatDoorE24
import Derived.Test.YtilhlmmcdfoaoaaGreatDoorE27
import Derived.Test.YtilhlmmcdfoaoaaGreatDoorE31
import Derived.Test.YtilhlmmcdfoaoaaGreatDoorE48
import Derived.Test.YtilhlmmcdfoaoaaGreatDoorE25
import Derived.Deep.RegionHeld3
set_option linter.unusedVariables false
set_option linter.unusedSimpArgs false
namespace Go.Proofs.YtilhlmmcdfoaoaaGreatDoor
open Go.RowKit
set_option linter.unusedVariables false
set_option linter.unusedSimpArgs false
theorem fst_nm {l:List UInt8} {t:Tk} {n:Nat} (h:fstT l=.ok (t,n)):t.k=1→t.t.length≤20:=by
 cases l with
 |nil=>simp [fstT] at h
 |cons c r=>
  rw [fst_cons] at h
  split at h
  ·unfold wrdT at h
   split at h
   ·simp only [Except.ok.injEq,Prod.mk.injEq] at h
    obtain⟨rfl,_⟩:=h
    intro e
    cases e
   ·split at h
    ·cases h
    ·simp only [Except.ok.injEq,Prod.mk.injEq] at h
     obtain⟨rfl,_⟩:=h
     intro _
     show ((c :: r).takeWhile lxW).length≤20
     omega
  ·split at h
   ·unfold numT at h
    split at h
    ·cases h
    ·simp only [Except.ok.injEq,Prod.mk.injEq] at h
     obtain⟨rfl,_⟩:=h
     intro e
     cases e
   ·split at h
    ·unfold bytT at h
     split at h
     ·cases h
     ·simp only [Except.ok.injEq,Prod.mk.injEq] at h
      obtain⟨rfl,_⟩:=h
      intro e
      cases e
    ·unfold sgnT at h
     split at h
     ·cases h
     ·simp only [Except.ok.injEq,Prod.mk.injEq] at h
      obtain⟨rfl,_⟩:=h
      intro e
      cases e
theorem lp_nm:∀(f:Nat) (p:Nat) (l:List UInt8) (ts:List Tk),lpT f p l=.ok ts→∀t∈ts,t.k=1→t.t.length≤32
 |0,p,l,ts,h=>by simp [lpT] at h
 |f+1,p,[],ts,h=>by
  simp only [lpT,Except.ok.injEq] at h
  subst h
  intro t ht hk
  rw [List.mem_singleton] at ht
  subst ht
  cases hk
 |f+1,p,c :: r,ts,h=>by
  obtain⟨t0,n,us,h1,h2,rfl⟩:=lp_ok h
  intro t ht hk
  rcases List.mem_cons.1 ht with rfl|ht
  ·have:=fst_nm h1 hk
   show t0.t.length≤32
   omega
  ·exact lp_nm f _ _ us h2 t ht hk
theorem all_nm {s:List UInt8} {ts:List Tk} (h:allT s=.ok ts):∀t∈ts,t.k=1→t.t.length≤32:=by
 rw [all_split (all_small h)] at h
 exact lp_nm _ _ _ _ h
theorem rq_new {w:World} {B:Nat} {q cap:Nat} {ts:List Tk} (ho:w.ownsRow B 52 4 (.slice (some ⟨q,0,none⟩) ts.length cap) ts.length (flT ts)) (hlen:ts.length≤10000) (h0:0<ts.length) :
  Rq (w.alloc (.cells #[.slice (some ⟨q,0,none⟩) ts.length cap,.int .i64 0,.int .i64 0,.int .i64 0,.int .i64 0] 45)) ⟨w.heap.size,q,cap,ts⟩ ⟨0,0,0,0⟩:=by
 have b1:Below w.heap.size w (w.alloc (.cells #[.slice (some ⟨q,0,none⟩) ts.length cap,.int .i64 0,.int .i64 0,.int .i64 0,.int .i64 0] 45)):=(Below.refl _ _).alloc (Nat.le_refl _) _
 have hlt:=(ho.lt q rfl).2
 refine⟨heap_alloc_new _ _,h0,(TR.of ho rfl).later b1,?_,?_,hlen⟩
 ·show q≠w.heap.size
  omega
 ·rcases ho.2 with ⟨e,_⟩|⟨q',cap',cur,e,_,_,h3,_⟩
  ·cases e
  ·cases e
   exact h3
theorem pg_rl {T:List Tk} {r:Rs (List Nd)} {ns:List Nd} {s1:Sg} {f:Nat} (hr:PJ f 27 0 [] T 0=some r) (h:Rl T 0 r (ns,s1)) :
  (s1.e=0→∃l,r=.ok (ns,l)∧(hdT l).k=0)∧(¬s1.e=0→erOf r=(s1.e,s1.a)):=by
 match r,h,hr with
 |.error (E,P),h,hr=>
  have hE:=PJ_err f 27 0 [] T 0 E P hr
  refine⟨fun e=>absurd (h.1.symm.trans e) hE,fun _=>?_⟩
  rw [h.1,h.2]
  rfl
 |.ok (ms,l),h,hr=>
  obtain⟨i,hi,rfl,e⟩:=h
  cases e
  exact⟨fun _=>⟨_,rfl,prog_end hr⟩,fun e=>absurd rfl e⟩
theorem TrR.of_er {w:World} {r:Rs (List Nd)} {w':World} {E P:Nat} (hr:erOf r=(E,P)) (hE:¬E=0):TrR w r (.returned (.tuple #[.agg #[.int .i64 0,.string ⟨#[]⟩,.int .i64 0,.int .i64 0,.string ⟨#[]⟩,.slice none 0 0,.slice none 0 0,.bool false,.slice none 0 0,.int .i64 0],.int .i64 (P:Int),.int .i64 (E:Int)])) w':=by
 refine⟨0,[],0,0,[],false,0,none,0,0,P,E,[],rfl,?_⟩
 match r,hr with
 |.error (a,q),hr=>
  cases hr
  exact⟨⟨rfl,rfl,rfl,rfl,rfl,rfl,rfl,rfl,rfl,rfl⟩,rfl,rfl⟩
 |.ok (ns,l),hr=>
  unfold erOf at hr
  by_cases hk:(hdT l).k=0
  ·simp only [hk,if_true] at hr
   cases hr
   exact absurd rfl hE
  ·simp only [hk,if_false] at hr
   cases hr
   exact⟨fun e=>absurd e hk,fun _=>⟨⟨rfl,rfl,rfl,rfl,rfl,rfl,rfl,rfl,rfl,rfl⟩,rfl,rfl⟩⟩
theorem set10_of {u:World} {G:Nat} {x0 x1 x2 x3 x4 x5 x6 x7 x8 x9:Value} {T:TypeId} (h:u.heap[G]?=some (.cells #[x0,x1,x2,x3,x4,x5,x6,x7,x8,x9] T (0,0))) (v0 v1 v2 v3 v4 v5 v6 v7 v8 v9:Value) :
  ((((((((((u.setCell ⟨G,0,none⟩ (v0)).setCell ⟨G,1,none⟩ (v1)).setCell ⟨G,2,none⟩ (v2)).setCell ⟨G,3,none⟩ (v3)).setCell ⟨G,4,none⟩ (v4)).setCell ⟨G,5,none⟩ (v5)).setCell ⟨G,6,none⟩ (v6)).setCell ⟨G,7,none⟩ (v7)).setCell ⟨G,8,none⟩ (v8)).setCell ⟨G,9,none⟩ (v9)).heap[G]?=some (.cells #[v0,v1,v2,v3,v4,v5,v6,v7,v8,v9] T (0,0))∧(∀b,b≠G→((((((((((u.setCell ⟨G,0,none⟩ (v0)).setCell ⟨G,1,none⟩ (v1)).setCell ⟨G,2,none⟩ (v2)).setCell ⟨G,3,none⟩ (v3)).setCell ⟨G,4,none⟩ (v4)).setCell ⟨G,5,none⟩ (v5)).setCell ⟨G,6,none⟩ (v6)).setCell ⟨G,7,none⟩ (v7)).setCell ⟨G,8,none⟩ (v8)).setCell ⟨G,9,none⟩ (v9)).heap[b]?=u.heap[b]?)∧Below G u ((((((((((u.setCell ⟨G,0,none⟩ (v0)).setCell ⟨G,1,none⟩ (v1)).setCell ⟨G,2,none⟩ (v2)).setCell ⟨G,3,none⟩ (v3)).setCell ⟨G,4,none⟩ (v4)).setCell ⟨G,5,none⟩ (v5)).setCell ⟨G,6,none⟩ (v6)).setCell ⟨G,7,none⟩ (v7)).setCell ⟨G,8,none⟩ (v8)).setCell ⟨G,9,none⟩ (v9)):=by
 refine⟨set10 h v0 v1 v2 v3 v4 v5 v6 v7 v8 v9,fun b hb=>?_,?_⟩
 ·iterate 10 rw [heap_setCell_other _ _ _ _ hb]
 ·have e:∀(x:World) (f:Nat) (v:Value),Below G u x→Below G u (x.setCell ⟨G,f,none⟩ v):=fun x f v hx=>hx.setCell (p:=⟨G,f,none⟩) (Nat.le_refl _) v
  iterate 10 refine e _ _ _ ?_
  exact Below.refl _ _
set_option maxRecDepth 100000 in
set_option maxHeartbeats 2000000 in
theorem progD_bad (s:ByteArray) (w:World) {p er:Nat} (ha:allT s.data.toList=.error (p,er)) (hz:¬er=0) :
  Calls Tryz.prog 6 #[.string s] w fun e w'=>e=.returned (.tuple #[.agg #[.int .i64 0,.string ⟨#[]⟩,.int .i64 0,.int .i64 0,.string ⟨#[]⟩,.slice none 0 0,.slice none 0 0,.bool false,.slice none 0 0,.int .i64 0],.int .i64 (p:Int),.int .i64 (er:Int)])∧Below w.heap.size w w':=by
 obtain⟨w1,hw1⟩:∃w1,w.alloc (.cells #[.int .i64 0,.string ⟨#[]⟩,.int .i64 0,.int .i64 0,.string ⟨#[]⟩,.slice none 0 0,.slice none 0 0,.bool false,.slice none 0 0,.int .i64 0] 29)=w1:=⟨_,rfl⟩
 obtain⟨G,hG⟩:∃G,w.heap.size=G:=⟨_,rfl⟩
 have A1:w1.heap[G]?=some (.cells #[.int .i64 0,.string ⟨#[]⟩,.int .i64 0,.int .i64 0,.string ⟨#[]⟩,.slice none 0 0,.slice none 0 0,.bool false,.slice none 0 0,.int .i64 0] 29 (0,0)):=by rw [←hw1,←hG];exact heap_alloc_new _ _
 have B1:Below w.heap.size w w1:=by rw [←hw1];exact(Below.refl _ _).alloc (Nat.le_refl _) _
 have CA:=hZ (allD_any s w1)
 rw [ha] at CA
 have n1:¬(er:Int)=0:=by omega
 have n2:((er:Int) == 0)=false:=by simpa using n1
 have n3:((er:Int) != 0)=true:=by simp;omega
 have H1:=hZ (And.intro A1 B1)
 have HW:=hZ hw1
 clear ha hz A1 B1 hw1
 go_enter Tryz.func6,Tryz.ntmps6
 go_upto_region 1 with fail
 rw [uZ HW]
 try rw [hG]
 clear HW
 go_wp2_with fail
 refine(uZ CA).mono ?_
 rintro e w2 ⟨rfl,b2⟩
 have hlt:G<w1.heap.size:=(Array.getElem?_eq_some_iff.1 (uZ H1).1).1
 have A2:=(b2.block G hlt).trans (uZ H1).1
 obtain⟨g0,g1,g2,g3,g4,g5,g6,g7,g8,g9⟩:=row_cell10 A2
 obtain⟨z0,z1,z2,z3,z4,z5,z6,z7,z8,z9⟩:=frozen10 A2
 obtain⟨F1,F2,F3⟩:=set10_of A2 (.int .i64 0) (.string ⟨#[]⟩) (.int .i64 0) (.int .i64 0) (.string ⟨#[]⟩) (.slice none 0 0) (.slice none 0 0) (.bool false) (.slice none 0 0) (.int .i64 0)
 have HB:Hid (Below w.heap.size w w2):=hZ ((uZ H1).2.trans (b2.mono (uZ H1).2.size))
 obtain⟨w3,hw3⟩:∃w3,((((((((((w2.setCell ⟨G,0,none⟩ (.int .i64 0)).setCell ⟨G,1,none⟩ (.string ⟨#[]⟩)).setCell ⟨G,2,none⟩ (.int .i64 0)).setCell ⟨G,3,none⟩ (.int .i64 0)).setCell ⟨G,4,none⟩ (.string ⟨#[]⟩)).setCell ⟨G,5,none⟩ (.slice none 0 0)).setCell ⟨G,6,none⟩ (.slice none 0 0)).setCell ⟨G,7,none⟩ (.bool false)).setCell ⟨G,8,none⟩ (.slice none 0 0)).setCell ⟨G,9,none⟩ (.int .i64 0))=w3:=⟨_,rfl⟩
 rw [hw3] at F1 F2 F3
 have HF:=hZ (And.intro F1 F3)
 have HW3:=hZ hw3
 clear F1 F2 F3 hw3 A2 b2 CA
 go_wp2_with fail
 rw [uZ HW3]
 obtain⟨F1,F3⟩:=uZ HF
 obtain⟨r0,r1,r2,r3,r4,r5,r6,r7,r8,r9⟩:=row_cell10 F1
 refine bodyPost_ret (v:=.tuple #[.agg #[.int .i64 0,.string ⟨#[]⟩,.int .i64 0,.int .i64 0,.string ⟨#[]⟩,.slice none 0 0,.slice none 0 0,.bool false,.slice none 0 0,.int .i64 0],.int .i64 (p:Int),.int .i64 (er:Int)]) ?_ rfl ⟨rfl,by have h:=uZ HB;rw [hG] at h ⊢;exact h.trans F3⟩
 simp [results,Tryz.results6,go_sem,r0,r1,r2,r3,r4,r5,r6,r7,r8,r9]
set_option maxRecDepth 100000 in
set_option maxHeartbeats 2000000 in
theorem progD_ok (s:ByteArray) (w:World) {ts:List Tk} (ha:allT s.data.toList=.ok ts) {r:Rs (List Nd)} {fu:Nat} (hfu:fu≤400000) (hr:PJ fu 27 0 [] ts 0=some r) :
  Calls Tryz.prog 6 #[.string s] w fun e w'=>TrR w r e w'∧Below w.heap.size w w':=by
 obtain⟨R,hR⟩:∃R:Ending→World→Prop,∀e w',R e w'↔TrR w r e w':=⟨fun e w'=>TrR w r e w',fun _ _=>Iff.rfl⟩
 have HR:=hZ hR
 suffices hX:Calls Tryz.prog 6 #[.string s] w fun e w'=>R e w'∧Below w.heap.size w w' from hX.mono (fun e w' h=>⟨(hR e w').1 h.1,h.2⟩)
 clear hR
 obtain⟨hlen,hfin⟩:=all_fin ha
 have hfin':∃us p,ts=us++[endT p]:=hfin
 have h0:0<ts.length:=by obtain⟨us,p,rfl⟩:=hfin';simp
 have hFit:Fit ts 400000:=⟨hfin',all_nm ha,by omega⟩
 obtain⟨⟨ns,s1⟩,hq,hrl,hsi⟩:=prog_S hFit (f:=fu) (g:=fu+4) (Nat.le_refl _) h0 hr
 obtain⟨x1,x2⟩:=pg_rl hr hrl
 have AQ:=all_AS 400000 (all_Q _ 400000 (Nat.le_refl _) (by omega)) _ (fu+4) (Nat.le_refl _) (by omega)
 obtain⟨w1,hw1⟩:∃w1,w.alloc (.cells #[.int .i64 0,.string ⟨#[]⟩,.int .i64 0,.int .i64 0,.string ⟨#[]⟩,.slice none 0 0,.slice none 0 0,.bool false,.slice none 0 0,.int .i64 0] 29)=w1:=⟨_,rfl⟩
 obtain⟨G,hG⟩:∃G,w.heap.size=G:=⟨_,rfl⟩
 have A1:w1.heap[G]?=some (.cells #[.int .i64 0,.string ⟨#[]⟩,.int .i64 0,.int .i64 0,.string ⟨#[]⟩,.slice none 0 0,.slice none 0 0,.bool false,.slice none 0 0,.int .i64 0] 29 (0,0)):=by rw [←hw1,←hG];exact heap_alloc_new _ _
 have B1:Below w.heap.size w w1:=by rw [←hw1];exact(Below.refl _ _).alloc (Nat.le_refl _) _
 have CA:=hZ (allD_any s w1)
 rw [ha] at CA
 have H1:=hZ (And.intro A1 B1)
 have HX:=hZ (And.intro x1 x2)
 have HQ:=hZ (And.intro AQ (And.intro hq (And.intro hlen h0)))
 have HW:=hZ hw1
 clear ha A1 B1 hw1 x1 x2 AQ hq hlen h0 hrl hr hfin hfin' hFit hsi hfu
 go_enter Tryz.func6,Tryz.ntmps6
 go_upto_region 1 with fail
 rw [uZ HW]
 try rw [hG]
 clear HW
 go_wp2_with fail
 refine(uZ CA).mono ?_
 rintro e w2 ⟨⟨v,rfl,ho⟩,b2⟩
 obtain⟨q,cap,hv⟩:∃q cap,v=.slice (some ⟨q,0,none⟩) ts.length cap:=by
  rcases ho.2 with ⟨_,e2⟩|⟨q,cap,cur,e1,_⟩
  ·exfalso;have:=(uZ HQ).2.2.2;omega
  ·exact⟨q,cap,e1⟩
 subst hv
 have hlt:G<w1.heap.size:=(Array.getElem?_eq_some_iff.1 (uZ H1).1).1
 have A2:=(b2.block G hlt).trans (uZ H1).1
 have R3:=rq_new ho (uZ HQ).2.2.1 (uZ HQ).2.2.2
 have B3:Below w2.heap.size w2 (w2.alloc (.cells #[.slice (some ⟨q,0,none⟩) ts.length cap,.int .i64 0,.int .i64 0,.int .i64 0,.int .i64 0] 45)):=(Below.refl _ _).alloc (Nat.le_refl _) _
 obtain⟨w3,hw3⟩:∃w3,w2.alloc (.cells #[.slice (some ⟨q,0,none⟩) ts.length cap,.int .i64 0,.int .i64 0,.int .i64 0,.int .i64 0] 45)=w3:=⟨_,rfl⟩
 rw [hw3] at R3 B3
 obtain⟨g,hg⟩:∃g,w2.heap.size=g:=⟨_,rfl⟩
 have hGg:G<g:=by rw [←hg];have:=b2.size;omega
 have A3:=(B3.block G (by omega)).trans A2
 rw [hg] at R3
 have CE:=hZ ((uZ HQ).1.prog (c:=⟨g,q,cap,ts⟩) (uZ HQ).2.1 R3)
 have BB3:Hid (Below w.heap.size w w3):=hZ (by
  have h1:=(uZ H1).2
  exact(h1.trans (b2.mono h1.size)).trans (B3.mono (Nat.le_trans h1.size b2.size)))
 have HA3:=hZ A3
 have hg3:g<w3.heap.size:=R3.frz.2.2.2.2
 obtain⟨M,hM⟩:∃M,ts.length=M:=⟨_,rfl⟩
 have HW3:=hZ hw3
 rw [hM] at HW3
 have HM:=hZ hM
 clear ho b2 A2 R3 B3 A3 CA H1 hw3
 try rw [hM]
 clear hM
 go_upto_region 5 with fail
 rw [uZ HW3]
 try rw [hg]
 clear HW3
 go_wp2_with fail
 refine(uZ CE).mono ?_
 rintro e w4 ⟨k,t,vk,vn,vs,f,n,ak,ck,p,S,rfl,hl1,hn,r4,b4⟩
 try simp only [] at hl1 hn r4 b4
 have hGw3:G<w3.heap.size:=by omega
 have A4:=(b4.block G hGw3 (show G≠g by omega)).trans (uZ HA3)
 obtain⟨AX,GX⟩:=bx w4 #[.int .i64 (k:Int),.string (bA t),.int .i64 (vk:Int),.int .i64 (vn:Int),.string (bA vs),.slice none 0 0,.slice none 0 0,.bool f,.slice ak n ck,.int .i64 (p:Int)] 29
 obtain⟨w5,hw5⟩:∃w5,w4.alloc (.cells #[.int .i64 (k:Int),.string (bA t),.int .i64 (vk:Int),.int .i64 (vn:Int),.string (bA vs),.slice none 0 0,.slice none 0 0,.bool f,.slice ak n ck,.int .i64 (p:Int)] 29)=w5:=⟨_,rfl⟩
 rw [hw5] at AX GX
 obtain⟨X,hXX⟩:∃X,w4.heap.size=X:=⟨_,rfl⟩
 rw [hXX] at AX
 have h34:=b4.size
 have A5:=(GX.block G (by omega)).trans A4
 have R5:=r4.below GX
 have N5:=hn.to (w':=w5) (fun b _ hb _=>GX.block b hb) GX.size
 have BB6:Hid (Below G w3 w5):=hZ ⟨GX.os.trans b4.os,GX.tape.trans b4.tape,GX.output.trans b4.output,Nat.le_trans b4.size GX.size,fun z hz=>by rw [GX.block z (by omega),b4.block z (by omega) (show z≠g by omega)]⟩
 have HC:=hZ R5.cells
 have HW5:=hZ hw5
 have HL1:=hZ hl1
 have H5:=hZ (And.intro A5 (And.intro AX N5))
 have hX5:X<w5.heap.size:=(Array.getElem?_eq_some_iff.1 AX).1
 clear hn r4 b4 A4 A5 AX GX R5 N5 hw5 CE HA3 hl1
 go_upto_region 6 with fail
 rw [uZ HW5]
 try rw [hXX]
 clear HW5
 obtain⟨A6,X6,N6⟩:=uZ H5
 obtain⟨c0,c1,c2,c3,c4⟩:=uZ HC
 try simp only [] at c3 c4
 obtain⟨g0,g1,g2,g3,g4,g5,g6,g7,g8,g9⟩:=row_cell10 A6
 obtain⟨z0,z1,z2,z3,z4,z5,z6,z7,z8,z9⟩:=frozen10 A6
 obtain⟨y0,y1,y2,y3,y4,y5,y6,y7,y8,y9⟩:=row_cell10 X6
 have H6:=hZ (And.intro A6 N6)
 clear A6 X6 N6 H5 c0 c1 c2 HC
 by_cases he:s1.e=0
 ·obtain⟨l,hrl,hk0⟩:=(uZ HX).1 he
  obtain⟨A6,N6⟩:=uZ H6
  obtain⟨F1,F2,F3⟩:=set10_of A6 (.int .i64 (k:Int)) (.string (bA t)) (.int .i64 (vk:Int)) (.int .i64 (vn:Int)) (.string (bA vs)) (.slice none 0 0) (.slice none 0 0) (.bool f) (.slice ak n ck) (.int .i64 (p:Int))
  obtain⟨w7,hw7⟩:∃w7,((((((((((w5.setCell ⟨G,0,none⟩ (.int .i64 (k:Int))).setCell ⟨G,1,none⟩ (.string (bA t))).setCell ⟨G,2,none⟩ (.int .i64 (vk:Int))).setCell ⟨G,3,none⟩ (.int .i64 (vn:Int))).setCell ⟨G,4,none⟩ (.string (bA vs))).setCell ⟨G,5,none⟩ (.slice none 0 0)).setCell ⟨G,6,none⟩ (.slice none 0 0)).setCell ⟨G,7,none⟩ (.bool f)).setCell ⟨G,8,none⟩ (.slice ak n ck)).setCell ⟨G,9,none⟩ (.int .i64 (p:Int)))=w7:=⟨_,rfl⟩
  rw [hw7] at F1 F2 F3
  have he0:((s1.e:Nat):Int)=0:=by omega
  rw [he0] at c3
  have HF:=hZ (And.intro F1 (And.intro F2 (And.intro F3 N6)))
  have HK:=hZ (And.intro hrl hk0)
  have HW7:=hZ hw7
  clear F1 F2 F3 hw7 A6 N6 he he0 hrl hk0 c4
  go_wp2_with fail
  rw [uZ HW7]
  obtain⟨F1,F2,F3,N6⟩:=uZ HF
  obtain⟨hrl,hk0⟩:=uZ HK
  obtain⟨r0,r1,r2,r3,r4,r5,r6,r7,r8,r9⟩:=row_cell10 F1
  have bel:Below w.heap.size w w7:=by
   have h3:=uZ BB3
   rw [hG] at h3 ⊢
   exact(h3.trans (uZ BB6)).trans F3
  have N7:NdOk w.heap.size w7 ns (ndC k t vk vn vs f n ak ck p) S:=(N6.to (w':=w7) (fun b h1 _ _=>F2 b (by omega)) F3.size).low (by have:=(uZ BB3).size;exact this)
  have HE:TrR w r (.returned (.tuple #[.agg #[.int .i64 (k:Int),.string (bA t),.int .i64 (vk:Int),.int .i64 (vn:Int),.string (bA vs),.slice none 0 0,.slice none 0 0,.bool f,.slice ak n ck,.int .i64 (p:Int)],.int .i64 0,.int .i64 0])) w7:=by
   refine⟨k,t,vk,vn,vs,f,n,ak,ck,p,0,0,S,rfl,?_⟩
   subst hrl
   exact⟨fun _=>⟨rfl,rfl,uZ HL1,N7⟩,fun e=>absurd hk0 e⟩
  refine bodyPost_ret (v:=.tuple #[.agg #[.int .i64 (k:Int),.string (bA t),.int .i64 (vk:Int),.int .i64 (vn:Int),.string (bA vs),.slice none 0 0,.slice none 0 0,.bool f,.slice ak n ck,.int .i64 (p:Int)],.int .i64 0,.int .i64 0]) ?_ rfl ⟨((uZ HR) _ _).2 HE,bel⟩
  simp [results,Tryz.results6,go_sem,r0,r1,r2,r3,r4,r5,r6,r7,r8,r9]
 ·have hx2:=(uZ HX).2 he
  obtain⟨A6,N6⟩:=uZ H6
  obtain⟨F1,F2,F3⟩:=set10_of A6 (.int .i64 0) (.string ⟨#[]⟩) (.int .i64 0) (.int .i64 0) (.string ⟨#[]⟩) (.slice none 0 0) (.slice none 0 0) (.bool false) (.slice none 0 0) (.int .i64 0)
  obtain⟨w7,hw7⟩:∃w7,((((((((((w5.setCell ⟨G,0,none⟩ (.int .i64 0)).setCell ⟨G,1,none⟩ (.string ⟨#[]⟩)).setCell ⟨G,2,none⟩ (.int .i64 0)).setCell ⟨G,3,none⟩ (.int .i64 0)).setCell ⟨G,4,none⟩ (.string ⟨#[]⟩)).setCell ⟨G,5,none⟩ (.slice none 0 0)).setCell ⟨G,6,none⟩ (.slice none 0 0)).setCell ⟨G,7,none⟩ (.bool false)).setCell ⟨G,8,none⟩ (.slice none 0 0)).setCell ⟨G,9,none⟩ (.int .i64 0))=w7:=⟨_,rfl⟩
  rw [hw7] at F1 F2 F3
  obtain⟨E,hE⟩:∃E,s1.e=E:=⟨_,rfl⟩
  obtain⟨P,hP⟩:∃P,s1.a=P:=⟨_,rfl⟩
  rw [hE] at c3 he hx2
  rw [hP] at c4 hx2
  have n1:¬(E:Int)=0:=by omega
  have n2:((E:Int) == 0)=false:=by simpa using n1
  have n3:((E:Int) != 0)=true:=by simp;omega
  have HF:=hZ (And.intro F1 F3)
  have HK:=hZ (And.intro hx2 he)
  have HW7:=hZ hw7
  clear F1 F2 F3 hw7 A6 N6 he hx2 hE hP y0 y1 y2 y3 y4 y5 y6 y7 y8 y9 HX
  go_upto_region 7 with fail
  go_region
  rw [uZ HW7]
  obtain⟨F1,F3⟩:=uZ HF
  obtain⟨hx2,he⟩:=uZ HK
  have G1:w7.drew.heap[G]?=some (.cells #[.int .i64 0,.string ⟨#[]⟩,.int .i64 0,.int .i64 0,.string ⟨#[]⟩,.slice none 0 0,.slice none 0 0,.bool false,.slice none 0 0,.int .i64 0] 29 (0,0)):=F1
  have bel:Below w.heap.size w w7.drew:=by
   have h3:=uZ BB3
   rw [hG] at h3 ⊢
   exact((h3.trans (uZ BB6)).trans F3).trans ((Below.refl _ _).drew)
  have HE:TrR w r (.returned (.tuple #[.agg #[.int .i64 0,.string ⟨#[]⟩,.int .i64 0,.int .i64 0,.string ⟨#[]⟩,.slice none 0 0,.slice none 0 0,.bool false,.slice none 0 0,.int .i64 0],.int .i64 (P:Int),.int .i64 (E:Int)])) w7.drew:=TrR.of_er hx2 he
  have HB7:=hZ (And.intro HE bel)
  generalize w7.drew=w8 at G1 HB7 ⊢
  clear F1 F3 HE bel
  go_wp2_with fail
  obtain⟨r0,r1,r2,r3,r4,r5,r6,r7,r8,r9⟩:=row_cell10 G1
  refine bodyPost_ret (v:=.tuple #[.agg #[.int .i64 0,.string ⟨#[]⟩,.int .i64 0,.int .i64 0,.string ⟨#[]⟩,.slice none 0 0,.slice none 0 0,.bool false,.slice none 0 0,.int .i64 0],.int .i64 (P:Int),.int .i64 (E:Int)]) ?_ rfl ⟨((uZ HR) _ _).2 (uZ HB7).1,(uZ HB7).2⟩
  simp [results,Tryz.results6,go_sem,r0,r1,r2,r3,r4,r5,r6,r7,r8,r9]
theorem pgB (s:List UInt8):(∃p er,allT s=.error (p,er))∨∃ts f r,allT s=.ok ts∧f≤400000∧PJ f 27 0 [] ts 0=some r:=by
 cases h:allT s with
 |error x=>exact .inl ⟨x.1,x.2,rfl⟩
 |ok ts=>
  have hl:=(all_fin h).1
  obtain⟨r,hr⟩:=PJ_tot (32 * ts.length+rk 27 0+64) 27 0 [] ts 0 (by first|exact⟨by omega,by omega⟩|omega) (by omega)
  exact .inr ⟨ts,_,r,rfl,(by have h9:=(show rk 27 0≤100 by decide);omega),hr⟩
theorem both_any (s:ByteArray):∃r,PgOf 27 s.data.toList r∧∀w,Calls Tryz.prog 6 #[.string s] w fun e w'=>TrR w r e w'∧Below w.heap.size w w':=by
 rcases pgB s.data.toList with ⟨p,er,h1⟩|⟨ts,f,r,h1,h2,h3⟩
 ·exact⟨.error (er,p),.inl ⟨p,er,h1,rfl⟩,fun w=>(progD_bad s w h1 (all_er h1)).mono (fun e w' h=>⟨by rw [h.1];exact TrR.of_er (r:=.error (er,p)) rfl (all_er h1),h.2⟩)⟩
 ·exact⟨r,.inr ⟨ts,f,h1,h3⟩,fun w=>progD_ok s w h1 h2 h3⟩
theorem szL_at:∀(a:List Nd) (i:Nat) (x:Nd),a[i]?=some x→szL [x]≤szL a
 |[],i,x,h=>by simp at h
 |.mk k t vk vn vs f ks p :: r,0,x,h=>by
  simp at h
  subst h
  simp only [szL]
  omega
 |.mk k t vk vn vs f ks p :: r,i+1,x,h=>by
  have:=szL_at r i x (by simpa using h)
  simp only [szL] at this ⊢
  omega
def cN (x:Nd) (ak:Option Addr) (ck:Nat):List Value:=ndC x.k x.t x.vk x.vn x.vs x.f x.ks.length ak ck x.p
structure NdS (w:World) (ks:List Nd) (C:List Value) (S:List Nat):Prop where
 nl:IsNL w ks C S
 lt:∀b∈S,b<w.heap.size
theorem NdOk.s {lo:Nat} {w:World} {ks:List Nd} {C:List Value} {S:List Nat} (h:NdOk lo w ks C S):NdS w ks C S:=⟨h.nl,fun b hb=>(h.rg b hb).2⟩
theorem NdS.later {w w':World} {ks:List Nd} {C:List Value} {S:List Nat} (h:NdS w ks C S) (hb:Below w.heap.size w w'):NdS w' ks C S:=
 ⟨IsNL.to ks C S h.nl (fun b hm=>hb.block b (h.lt b hm)),fun b hm=>Nat.lt_of_lt_of_le (h.lt b hm) hb.size⟩
theorem nd_elem {w:World}:∀(ks:List Nd) (C:List Value) (S:List Nat),IsNL w ks C S→∀(i:Nat) (x:Nd),ks[i]?=some x→∃ak ck S',IsNL w [x] (cN x ak ck) S'∧(∀j v,(cN x ak ck)[j]?=some v→C[i * 10+j]?=some v)∧(∀b∈S',b∈S)
 |[],C,S,h,i,x,hx=>by simp at hx
 |.mk k t vk vn vs f ks p :: r,C,S,h,0,x,hx=>by
  simp at hx
  subst hx
  simp only [IsNL] at h
  obtain⟨ak,ck,C',R,S1,S2,hC,hS,ho,h1,h2⟩:=h
  refine⟨ak,ck,blkO ak++S1,?_,fun j v hj=>?_,fun b hb=>?_⟩
  ·simp only [IsNL,cN]
   exact⟨ak,ck,C',[],S1,[],by rw [List.append_nil],by rw [List.append_nil],ho,h1,rfl,rfl⟩
  ·have hlt:j<(ndC k t vk vn vs f ks.length ak ck p).length:=(List.getElem?_eq_some_iff.1 hj).1
   rw [hC,Nat.zero_mul,Nat.zero_add,List.getElem?_append_left hlt]
   exact hj
  ·rw [hS,←List.append_assoc]
   exact List.mem_append_left _ hb
 |.mk k t vk vn vs f ks p :: r,C,S,h,i+1,x,hx=>by
  simp only [IsNL] at h
  obtain⟨ak,ck,C',R,S1,S2,hC,hS,ho,h1,h2⟩:=h
  obtain⟨ak',ck',S',g1,g2,g3⟩:=nd_elem r R S2 h2 i x (by simpa using hx)
  refine⟨ak',ck',S',g1,fun j v hj=>?_,fun b hb=>?_⟩
  ·have hl:(ndC k t vk vn vs f ks.length ak ck p).length=10:=rfl
   rw [hC,List.getElem?_append_right (by omega),hl,show (i+1) * 10+j - 10=i * 10+j by omega]
   exact g2 j v hj
  ·rw [hS,←List.append_assoc]
   exact List.mem_append_right _ (g3 b hb)
theorem nd_kid {w:World} {x:Nd} {ak:Option Addr} {ck:Nat} {S:List Nat} (h:NdS w [x] (cN x ak ck) S) (i:Nat) (y:Nd) (hy:x.ks[i]?=some y) :
  ∃b ak' ck' S',ak=some ⟨b,0,none⟩∧b<w.heap.size∧x.ks.length≤ck∧ck≤maxLen∧NdS w [y] (cN y ak' ck') S'∧(∀j v,(cN y ak' ck')[j]?=some v→w.cell? ⟨b,i * 10+j,none⟩=some v)∧(∀b∈S',b∈S):=by
 obtain⟨k,t,vk,vn,vs,f,ks,p⟩:=x
 have hn:=h.nl
 simp only [IsNL,cN] at hn
 obtain⟨ak1,ck1,C',R,S1,S2,hC,hS,ho,h1,h2,h3⟩:=hn
 subst h2 h3
 simp only [ndC,List.append_nil,List.cons.injEq,Value.int.injEq,Value.string.injEq,Value.slice.injEq,Value.bool.injEq,true_and,and_true] at hC
 obtain⟨rfl,rfl⟩:=hC
 obtain⟨ak',ck',S',g1,g2,g3⟩:=nd_elem ks C' S1 h1 i y hy
 have hil:i<ks.length:=(List.getElem?_eq_some_iff.1 hy).1
 have hsub:∀b∈S',b∈S:=fun b hb=>by rw [hS,List.append_nil];exact List.mem_append_right _ (g3 b hb)
 rcases ho.2 with ⟨_,e⟩|⟨b,cap,cur,e,hbb,hcur,hc1,hc2,rest⟩
 ·omega
 ·injection e with e1 e2 e3
  subst e1
  subst e3
  have hlt:b<w.heap.size:=(Array.getElem?_eq_some_iff.1 hcur).1
  refine⟨b,ak',ck',S',rfl,hlt,hc1,hc2,⟨g1,fun c hc=>h.lt c (hsub c hc)⟩,fun j v hj=>?_,hsub⟩
  have:=ho.cells (g:=b) rfl _ v (g2 j v hj)
  have ha:(⟨b,0,none⟩:Addr).add (i * 10+j)=⟨b,i * 10+j,none⟩:=by unfold Addr.add;split <;> simp_all
  rwa [ha] at this
theorem nd_len {w:World} {x:Nd} {ak:Option Addr} {ck:Nat} {S:List Nat} (h:NdS w [x] (cN x ak ck) S):x.ks.length≤maxLen:=by
 obtain⟨k,t,vk,vn,vs,f,ks,p⟩:=x
 have hn:=h.nl
 simp only [IsNL,cN] at hn
 obtain⟨ak1,ck1,C',R,S1,S2,hC,hS,ho,h1,h2,h3⟩:=hn
 show ks.length≤maxLen
 rcases ho.2 with ⟨_,e⟩|⟨b,cap,cur,e,hbb,hcur,hc1,hc2,rest⟩
 ·rw [e];unfold maxLen;omega
 ·omega
theorem row_cell5v {w:World} {g:Nat} {v0 v1 v2 v3 v4:Value} {T:TypeId} (h:w.heap[g]?=some (.cells #[v0,v1,v2,v3,v4] T (0,0))) :
  w.cell? ⟨g,0,none⟩=some v0∧w.cell? ⟨g,1,none⟩=some v1∧w.cell? ⟨g,2,none⟩=some v2∧w.cell? ⟨g,3,none⟩=some v3∧w.cell? ⟨g,4,none⟩=some v4:=
 ⟨by rw [cell_of_row w g 0 _ _ (0,0) h];rfl,by rw [cell_of_row w g 1 _ _ (0,0) h];rfl,by rw [cell_of_row w g 2 _ _ (0,0) h];rfl,by rw [cell_of_row w g 3 _ _ (0,0) h];rfl,by rw [cell_of_row w g 4 _ _ (0,0) h];rfl⟩
theorem below_drew_of' {w w':World} (h:Below w.drew.heap.size w.drew w'):Below w.heap.size w w':=⟨h.os,h.tape,h.output,h.size,h.block⟩
theorem cell_latr {w u:World} {b i:Nat} {v:Value} (hb:Below w.heap.size w u) (h:w.cell? ⟨b,i,none⟩=some v):u.cell? ⟨b,i,none⟩=some v:=by
 have hlt:b<w.heap.size:=by
  unfold World.cell? at h
  cases hh:w.heap[b]? with
  |none=>simp [hh] at h
  |some o=>exact(Array.getElem?_eq_some_iff.1 hh).1
 unfold World.cell? at h ⊢
 rw [show u.heap[b]?=w.heap[b]? from hb.block b hlt]
 exact h
structure TwoB (w w2:World) (g:Nat) (T:TypeId) (x y:Array Value):Prop where
 at0:w2.heap[g]?=some (.cells x T (0,0))
 at1:w2.heap[g+1]?=some (.cells y T (0,0))
 size:w2.heap.size=g+2
 below:Below w.heap.size w w2
theorem TwoB.mk' (w:World) (T:TypeId) (x y:Array Value):TwoB w ((w.alloc (.cells x T)).alloc (.cells y T)) w.heap.size T x y:=by
 have h1:Below w.heap.size w ((w.alloc (.cells x T)).alloc (.cells y T)):=((Below.refl _ _).alloc (Nat.le_refl _) _).alloc (by simp) _
 refine⟨?_,?_,by simp,h1⟩
 ·have:=((Below.refl (w.alloc (.cells x T)).heap.size (w.alloc (.cells x T))).alloc (Nat.le_refl _) (.cells y T)).block w.heap.size (by simp)
  rw [this]
  exact heap_alloc_new w _
 ·have:=heap_alloc_new (w.alloc (.cells x T)) (.cells y T)
  simpa using this
theorem TwoB.later {w w2 u:World} {g:Nat} {T:TypeId} {x y:Array Value} (h:TwoB w w2 g T x y) (hb:Below w2.heap.size w2 u):u.heap[g]?=some (.cells x T (0,0))∧u.heap[g+1]?=some (.cells y T (0,0)):=by
 have:=h.size
 exact⟨(hb.block g (by omega)).trans h.at0,(hb.block (g+1) (by omega)).trans h.at1⟩
set_option maxRecDepth 100000 in
set_option maxHeartbeats 1000000 in
theorem sameV_any (k n:Int) (s:ByteArray) (w:World) :
  Calls Tryz.prog 14 #[.agg #[.int .i64 k,.int .i64 n,.string s,.slice none 0 0,.slice none 0 0],.agg #[.int .i64 k,.int .i64 n,.string s,.slice none 0 0,.slice none 0 0]] w fun e w'=>e=.returned (.bool true)∧Below w.heap.size w w':=by
 have TW:=TwoB.mk' w 26 #[.int .i64 k,.int .i64 n,.string s,.slice none 0 0,.slice none 0 0] #[.int .i64 k,.int .i64 n,.string s,.slice none 0 0,.slice none 0 0]
 obtain⟨w2,hw2⟩:∃w2,(w.alloc (.cells #[.int .i64 k,.int .i64 n,.string s,.slice none 0 0,.slice none 0 0] 26)).alloc (.cells #[.int .i64 k,.int .i64 n,.string s,.slice none 0 0,.slice none 0 0] 26)=w2:=⟨_,rfl⟩
 rw [hw2] at TW
 obtain⟨g,hg⟩:∃g,w.heap.size=g:=⟨_,rfl⟩
 rw [hg] at TW
 have HB:Hid (Below w.heap.size w w2):=hZ TW.below
 obtain⟨c0,c1,c2,c3,c4⟩:=row_cell5v TW.at0
 obtain⟨d0,d1,d2,d3,d4⟩:=row_cell5v TW.at1
 have hs1:(!(s.toList == s.toList))=false:=by simp
 clear TW
 go_enter Tryz.func14,Tryz.ntmps14
 go_wp2_with fail
 go_loopw [5] (fun x wr=>x=.int .i64 0∧wr=w2) (fun _ _=>0)
 case atStart=>exact⟨rfl,rfl⟩
 case round=>
  obtain⟨rfl,hwr⟩:=hrel
  rw [hwr]
  clear hwr
  go_wp2_with fail
  go_loopw [6] (fun x wr=>x=.int .i64 0∧wr=w2) (fun _ _=>0)
  case atStart=>exact⟨rfl,rfl⟩
  case round=>
   obtain⟨rfl,hwr⟩:=hrel
   rw [hwr]
   clear hwr
   go_wp2_with fail
   go_ret
   exact⟨rfl,by first|exact uZ HB|(rw [←hg];exact uZ HB)⟩
def eqN (pl:Bool) (x y:Nd):Prop:=pl=true∧x=y
def SameAt (m:Nat):Prop:=∀(x y:Nd) (pl:Bool) (ax ay:Option Addr) (cx cy:Nat) (Sx Sy:List Nat) (w:World),szL [x]≤m→NdS w [x] (cN x ax cx) Sx→NdS w [y] (cN y ay cy) Sy→eqN pl x y →
  Calls Tryz.prog 7 #[.agg (cN x ax cx).toArray,.agg (cN y ay cy).toArray,.bool pl] w fun e w'=>e=.returned (.bool true)∧Below w.heap.size w w'
theorem same_zero:SameAt 0:=by
 intro x y pl ax ay cx cy Sx Sy w h
 obtain⟨k,t,vk,vn,vs,f,ks,p⟩:=x
 simp only [szL] at h
 omega
set_option maxRecDepth 100000 in
set_option maxHeartbeats 4000000 in
theorem same_true (b:Nat) (ih:SameAt b) (k:Nat) (t:List UInt8) (vk vn:Nat) (vs:List UInt8) (f:Bool) (ks ks':List Nd) (p q:Nat) (hpq:p=q) (ax ay:Option Addr) (cx cy:Nat) (Sx Sy:List Nat) (w:World) (hb:szL ks≤b) (hx:NdS w [⟨k,t,vk,vn,vs,f,ks,p⟩] (cN ⟨k,t,vk,vn,vs,f,ks,p⟩ ax cx) Sx) (hy:NdS w [⟨k,t,vk,vn,vs,f,ks',q⟩] (cN ⟨k,t,vk,vn,vs,f,ks',q⟩ ay cy) Sy)
  (hl:ks.length=ks'.length) (he:∀(i:Nat) (a b:Nd),ks[i]?=some a→ks'[i]?=some b→eqN true a b) :
  Calls Tryz.prog 7 #[.agg (cN ⟨k,t,vk,vn,vs,f,ks,p⟩ ax cx).toArray,.agg (cN ⟨k,t,vk,vn,vs,f,ks',q⟩ ay cy).toArray,.bool true] w fun e w'=>e=.returned (.bool true)∧Below w.heap.size w w':=by
 subst hpq
 obtain⟨m,hm⟩:∃m,ks.length=m:=⟨_,rfl⟩
 have hm':ks'.length=m:=by omega
 have e1:(cN ⟨k,t,vk,vn,vs,f,ks,p⟩ ax cx).toArray=#[.int .i64 (k:Int),.string (bA t),.int .i64 (vk:Int),.int .i64 (vn:Int),.string (bA vs),.slice none 0 0,.slice none 0 0,.bool f,.slice ax m cx,.int .i64 (p:Int)]:=by rw [←hm];rfl
 have e2:(cN ⟨k,t,vk,vn,vs,f,ks',p⟩ ay cy).toArray=#[.int .i64 (k:Int),.string (bA t),.int .i64 (vk:Int),.int .i64 (vn:Int),.string (bA vs),.slice none 0 0,.slice none 0 0,.bool f,.slice ay m cy,.int .i64 (p:Int)]:=by rw [←hm'];rfl
 rw [e1,e2]
 clear e1 e2
 have hmm:m≤9223372036854775807:=by have hm9:=nd_len hx;rw [←hm];unfold maxLen at hm9;simpa using hm9
 have TW:=TwoB.mk' w 29 #[.int .i64 (k:Int),.string (bA t),.int .i64 (vk:Int),.int .i64 (vn:Int),.string (bA vs),.slice none 0 0,.slice none 0 0,.bool f,.slice ax m cx,.int .i64 (p:Int)] #[.int .i64 (k:Int),.string (bA t),.int .i64 (vk:Int),.int .i64 (vn:Int),.string (bA vs),.slice none 0 0,.slice none 0 0,.bool f,.slice ay m cy,.int .i64 (p:Int)]
 obtain⟨w2,hw2⟩:∃w2,(w.alloc (.cells #[.int .i64 (k:Int),.string (bA t),.int .i64 (vk:Int),.int .i64 (vn:Int),.string (bA vs),.slice none 0 0,.slice none 0 0,.bool f,.slice ax m cx,.int .i64 (p:Int)] 29)).alloc (.cells #[.int .i64 (k:Int),.string (bA t),.int .i64 (vk:Int),.int .i64 (vn:Int),.string (bA vs),.slice none 0 0,.slice none 0 0,.bool f,.slice ay m cy,.int .i64 (p:Int)] 29)=w2:=⟨_,rfl⟩
 rw [hw2] at TW
 obtain⟨g,hg⟩:∃g,w.heap.size=g:=⟨_,rfl⟩
 rw [hg] at TW
 have HT:=hZ TW
 have HB:Hid (Below w.heap.size w w2):=hZ TW.below
 have HV:Hid (∀u,Below w2.heap.size w2 u→NdS u [⟨k,t,vk,vn,vs,f,ks,p⟩] (cN ⟨k,t,vk,vn,vs,f,ks,p⟩ ax cx) Sx∧NdS u [⟨k,t,vk,vn,vs,f,ks',p⟩] (cN ⟨k,t,vk,vn,vs,f,ks',p⟩ ay cy) Sy):=hZ (fun u hu=>by
  have h1:Below w.heap.size w u:=TW.below.trans (hu.mono (by have:=TW.below.size;omega))
  exact⟨hx.later h1,hy.later h1⟩)
 obtain⟨c0,c1,c2,c3,c4,c5,c6,c7,c8,c9⟩:=row_cell10 TW.at0
 obtain⟨d0,d1,d2,d3,d4,d5,d6,d7,d8,d9⟩:=row_cell10 TW.at1
 have CV:=hZ (sameV_any (vk:Int) (vn:Int) (bA vs) w2)
 have hs1:(!((bA t).toList == (bA t).toList))=false:=by simp
 have HW:=hZ hw2
 have HL:=hZ (And.intro hm (And.intro hm' (And.intro hb he)))
 clear TW hx hy hm hm' hb he hl hw2
 go_enter Tryz.func7,Tryz.ntmps7
 go_upto_region 1 with fail
 rw [uZ HW]
 clear HW
 go_wp2_with fail
 refine(uZ CV).mono ?_
 rintro e u3 ⟨rfl,b3⟩
 have H3:=hZ b3
 obtain⟨r0,r1⟩:=(uZ HT).later b3
 clear c0 c1 c2 c3 c4 c5 c6 c7 c8 c9 d0 d1 d2 d3 d4 d5 d6 d7 d8 d9 b3 CV
 obtain⟨c0,c1,c2,c3,c4,c5,c6,c7,c8,c9⟩:=row_cell10 r0
 obtain⟨d0,d1,d2,d3,d4,d5,d6,d7,d8,d9⟩:=row_cell10 r1
 clear r0 r1
 go_wp2_with fail
 clear c0 c1 c2 c3 c4 c5 c6 c7 c8 c9 d0 d1 d2 d3 d4 d5 d6 d7 d8 d9 hs1
 go_loopw [8] (fun x wr=>∃i:Nat,i≤m∧x=.int .i64 (i:Int)∧Hid (Below w2.heap.size w2 wr)) (fun x _=>m - (intOf x).toNat)
 case atStart=>exact⟨0,Nat.zero_le _,rfl,H3⟩
 case round=>
  clear H3
  obtain⟨i,hi,rfl,HX⟩:=hrel
  obtain⟨wq,hwq⟩:∃wq,wq=wr:=⟨_,rfl⟩
  subst hwq
  obtain⟨r0,r1⟩:=(uZ HT).later (uZ HX)
  obtain⟨_,_,_,_,_,_,_,_,c8,_⟩:=row_cell10 r0
  obtain⟨_,_,_,_,_,_,_,_,d8,_⟩:=row_cell10 r1
  clear r0 r1
  by_cases hlt:i<m
  ·have i2:(i:Int)<(m:Int):=by omega
   obtain⟨v1,v2⟩:=uZ HV wq (uZ HX)
   obtain⟨h1,h2,h3,h4⟩:=uZ HL
   obtain⟨a,ha⟩:∃a,ks[i]?=some a:=⟨_,List.getElem?_eq_getElem (by omega)⟩
   obtain⟨b',hb'⟩:∃b,ks'[i]?=some b:=⟨_,List.getElem?_eq_getElem (by omega)⟩
   obtain⟨bx,ua,uc,US,rfl,hbx,hn1,hn2,s1,cu,_⟩:=nd_kid v1 i a ha
   obtain⟨bz,va,vc,VS,rfl,hbz,hn3,hn4,s2,cv,_⟩:=nd_kid v2 i b' hb'
   have hen:=h4 i a b' ha hb'
   have hsz:=szL_at ks i a ha
   have CR:Hid (∀u,Below wq.heap.size wq u→Calls Tryz.prog 7 #[.agg (cN a ua uc).toArray,.agg (cN b' va vc).toArray,.bool true] u fun e w'=>e=.returned (.bool true)∧Below u.heap.size u w'):=hZ (fun u hu=>ih a b' true ua va uc vc US VS u (by omega) (s1.later hu) (s2.later hu) hen)
   obtain⟨uk,ut,uvk,uvn,uvs,uf,uks,up⟩:=a
   obtain⟨vvk,vt,vvk2,vvn,vvs,vf,vks,vp⟩:=b'
   obtain⟨un,hun⟩:∃n,uks.length=n:=⟨_,rfl⟩
   obtain⟨vn2,hvn⟩:∃n,vks.length=n:=⟨_,rfl⟩
   simp only [cN,ndC,hun,hvn] at cu cv CR
   obtain⟨o,ho⟩:∃o,i * 10=o:=⟨_,rfl⟩
   have r1:=add_row bx (i * 10)
   have r2:=add_row bz (i * 10)
   rw [ho] at r1 r2 cu cv
   have x0:wq.cell? ⟨bx,o,none⟩=some (.int .i64 (uk:Int)):=cu 0 _ rfl
   have x1:=cu 1 _ rfl
   have x2:=cu 2 _ rfl
   have x3:=cu 3 _ rfl
   have x4:=cu 4 _ rfl
   have x5:=cu 5 _ rfl
   have x6:=cu 6 _ rfl
   have x7:=cu 7 _ rfl
   have x8:=cu 8 _ rfl
   have x9:=cu 9 _ rfl
   have y0:wq.cell? ⟨bz,o,none⟩=some (.int .i64 (vvk:Int)):=cv 0 _ rfl
   have y1:=cv 1 _ rfl
   have y2:=cv 2 _ rfl
   have y3:=cv 3 _ rfl
   have y4:=cv 4 _ rfl
   have y5:=cv 5 _ rfl
   have y6:=cv 6 _ rfl
   have y7:=cv 7 _ rfl
   have y8:=cv 8 _ rfl
   have y9:=cv 9 _ rfl
   have CR1:=hZ ((uZ CR) wq.drew (Below.refl _ _).drew)
   have HI:=hZ hlt
   clear cu cv CR s1 s2 hen hsz h1 h2 h3 h4 v1 v2 ha hb' hun hvn hlt
   go_upto_region 7 with fail
   go_cut [9] from 64 to 77 (fun r wx=>r=.bool true∧Hid (Below w2.heap.size w2 wx))
   case first=>
    go_region_held3 (fun w'=>w'.cell? ⟨g,8,none⟩=some (.slice (some ⟨bx,0,none⟩) m cx)∧w'.cell? ⟨g+1,8,none⟩=some (.slice (some ⟨bz,0,none⟩) m cy)∧w'.cell? ⟨bx,o,none⟩=some (.int .i64 (uk:Int))∧w'.cell? ⟨bx,o+1,none⟩=some (.string (bA ut))∧w'.cell? ⟨bx,o+2,none⟩=some (.int .i64 (uvk:Int))∧w'.cell? ⟨bx,o+3,none⟩=some (.int .i64 (uvn:Int))∧w'.cell? ⟨bx,o+4,none⟩=some (.string (bA uvs))∧w'.cell? ⟨bx,o+5,none⟩=some (.slice none 0 0)∧w'.cell? ⟨bx,o+6,none⟩=some (.slice none 0 0)∧w'.cell? ⟨bx,o+7,none⟩=some (.bool uf)∧w'.cell? ⟨bx,o+8,none⟩=some (.slice ua un uc)∧w'.cell? ⟨bx,o+9,none⟩=some (.int .i64 (up:Int))∧w'.cell? ⟨bz,o,none⟩=some (.int .i64 (vvk:Int))∧w'.cell? ⟨bz,o+1,none⟩=some (.string (bA vt))∧w'.cell? ⟨bz,o+2,none⟩=some (.int .i64 (vvk2:Int))∧w'.cell? ⟨bz,o+3,none⟩=some (.int .i64 (vvn:Int))∧w'.cell? ⟨bz,o+4,none⟩=some (.string (bA vvs))∧w'.cell? ⟨bz,o+5,none⟩=some (.slice none 0 0)∧w'.cell? ⟨bz,o+6,none⟩=some (.slice none 0 0)∧w'.cell? ⟨bz,o+7,none⟩=some (.bool vf)∧w'.cell? ⟨bz,o+8,none⟩=some (.slice va vn2 vc)∧w'.cell? ⟨bz,o+9,none⟩=some (.int .i64 (vp:Int)))
     (first|go_keep|(have hb6:=below_drew_of' b5;exact⟨cell_latr hb6 c8,cell_latr hb6 d8,cell_latr hb6 x0,cell_latr hb6 x1,cell_latr hb6 x2,cell_latr hb6 x3,cell_latr hb6 x4,cell_latr hb6 x5,cell_latr hb6 x6,cell_latr hb6 x7,cell_latr hb6 x8,cell_latr hb6 x9,cell_latr hb6 y0,cell_latr hb6 y1,cell_latr hb6 y2,cell_latr hb6 y3,cell_latr hb6 y4,cell_latr hb6 y5,cell_latr hb6 y6,cell_latr hb6 y7,cell_latr hb6 y8,cell_latr hb6 y9⟩))
     (first|(go_at_call 7;refine(uZ CR1).mono ?_;rintro e w5 ⟨rfl,b5⟩))
    have HX5:Hid (Below w2.heap.size w2 w5):=hZ ((uZ HX).trans ((below_drew_of' b5).mono (uZ HX).size))
    clear b5 CR1
    go_wp2_with fail
    go_meet
    exact⟨rfl,HX5⟩
   case rest=>
    obtain⟨rfl,HX5⟩:=hcut
    clear x0 x1 x2 x3 x4 x5 x6 x7 x8 x9 y0 y1 y2 y3 y4 y5 y6 y7 y8 y9 c8 d8 CR1 HX
    go_wp2_with fail
    go_roundw
    case rel=>exact⟨i+1,uZ HI,by go_num,HX5⟩
    case measure=>have:=uZ HI;simp [intOf];omega
  ·have i2:¬(i:Int)<(m:Int):=by omega
   go_wp2_with fail
   go_ret
   exact⟨rfl,by first|exact(uZ HB).trans ((uZ HX).mono (by have:=(uZ HT).size;omega))|(rw [←hg];exact(uZ HB).trans ((uZ HX).mono (by have:=(uZ HT).size;omega)))⟩
theorem same_any:∀m,SameAt m
 |0=>same_zero
 |b+1=>by
  intro x y pl ax ay cx cy Sx Sy w hsz hx hy he
  obtain⟨rfl,rfl⟩:=he
  obtain⟨k,t,vk,vn,vs,f,ks,p⟩:=x
  simp only [szL] at hsz
  exact same_true b (same_any b) k t vk vn vs f ks ks p p rfl ax ay cx cy Sx Sy w (by omega) hx hy rfl (fun i a b ha hb=>⟨rfl,by rw [ha] at hb;exact Option.some.inj hb⟩)
end Go.Proofs.YtilhlmmcdfoaoaaGreatDoor
