/-
  Layer 17 (parse): the reader's steps that pass over a token, or refuse it; conditions: the reader's state.
-/
import Derived.Test.YtjdpaihhhjdgmaaGreatDoorA31
set_option linter.unusedVariables false
set_option linter.unusedSimpArgs false
set_option maxRecDepth 100000
set_option maxHeartbeats 8000000
namespace Go.Proofs.YtjdpaihhhjdgmaaGreatDoor
open Go.RowKit
set_option linter.unusedVariables false
set_option linter.unusedSimpArgs false
theorem isT_k {k:Nat} {s:List UInt8} {l:List Tk} (h:isT k s l=true):(hdT l).k=k∧(hdT l).t=s:=by unfold isT at h;exact of_decide_eq_true h
theorem isS_k {s:List UInt8} {l:List Tk} (h:isS s l=true):¬(hdT l).k=0:=by have:=(isT_k h).1;omega
theorem isK_k {s:List UInt8} {l:List Tk} (h:isK s l=true):¬(hdT l).k=0:=by have:=(isT_k h).1;omega
structure St (w:World) (c:Cx) (T:TypeId) (z:Array Value) (u:World) (l:List Tk) (d:Nat):Prop where
 rd:Rd u c l d
 bs:Beside c.g w u
 bx:u.heap[w.heap.size]?=some (.cells z T (0,0))
 g1:c.g<w.heap.size
 t1:c.tb<w.heap.size
theorem St.start {w:World} {c:Cx} {l:List Tk} {d:Nat} (h:Rd w c l d) (T:TypeId) (z:Array Value):St w c T z (w.alloc (.cells z T)) l d:=by
 have b:Below w.heap.size w (w.alloc (.cells z T)):=(Below.refl _ _).alloc (Nat.le_refl _) _
 exact⟨h.below b,Beside.of_below b,heap_alloc_new _ _,h.cells.2.2.2.2.2,h.tok.1⟩
theorem St.lt {w:World} {c:Cx} {T:TypeId} {z:Array Value} {u:World} {l:List Tk} {d:Nat} (h:St w c T z u l d):w.heap.size<u.heap.size:=(Array.getElem?_eq_some_iff.1 h.bx).1
theorem St.go {w:World} {c:Cx} {T:TypeId} {z:Array Value} {u u':World} {l l':List Tk} {d d':Nat} (h:St w c T z u l d) (b:Beside c.g u u') (r:Rd u' c l' d'):St w c T z u' l' d':=
 ⟨r,h.bs.trans b,(b.block _ h.lt (by have:=h.g1;omega)).trans h.bx,h.g1,h.t1⟩
theorem St.below {w:World} {c:Cx} {T:TypeId} {z:Array Value} {u u':World} {l:List Tk} {d:Nat} (h:St w c T z u l d) (b:Below u.heap.size u u'):St w c T z u' l d:=
 h.go (Beside.of_below b) (h.rd.below b)
theorem St.own {w:World} {c:Cx} {T:TypeId} {z:Array Value} {u:World} {l:List Tk} {d:Nat} (h:St w c T z u l d) (q f:Nat) (v:Value) (hq:w.heap.size<q):St w c T z (u.setCell ⟨q,f,none⟩ v) l d:=
 ⟨h.rd.setN (by have:=h.g1;omega) (by have:=h.t1;omega),h.bs.setN (by omega),by rw [heap_setCell_other _ _ _ _ (show w.heap.size≠q by omega)];exact h.bx,h.g1,h.t1⟩
theorem St.bad {w:World} {c:Cx} {T:TypeId} {z:Array Value} {u u':World} {l:List Tk} {d:Nat} (h:St w c T z u l d) (b:Beside c.g u u'):Beside c.g w u':=h.bs.trans b
theorem set10 {w:World} {q:Nat} {x0 x1 x2 x3 x4 x5 x6 x7 x8 x9:Value} {T:TypeId} (h:w.heap[q]?=some (.cells #[x0,x1,x2,x3,x4,x5,x6,x7,x8,x9] T (0,0))) (v0 v1 v2 v3 v4 v5 v6 v7 v8 v9:Value) :
  ((((((((((w.setCell ⟨q,0,none⟩ v0).setCell ⟨q,1,none⟩ v1).setCell ⟨q,2,none⟩ v2).setCell ⟨q,3,none⟩ v3).setCell ⟨q,4,none⟩ v4).setCell ⟨q,5,none⟩ v5).setCell ⟨q,6,none⟩ v6).setCell ⟨q,7,none⟩ v7).setCell ⟨q,8,none⟩ v8).setCell ⟨q,9,none⟩ v9).heap[q]?=some (.cells #[v0,v1,v2,v3,v4,v5,v6,v7,v8,v9] T (0,0)):=by
 have e0:=heap_setCell_same w q 0 _ T v0 h
 have e1:=heap_setCell_same _ q 1 _ T v1 e0
 have e2:=heap_setCell_same _ q 2 _ T v2 e1
 have e3:=heap_setCell_same _ q 3 _ T v3 e2
 have e4:=heap_setCell_same _ q 4 _ T v4 e3
 have e5:=heap_setCell_same _ q 5 _ T v5 e4
 have e6:=heap_setCell_same _ q 6 _ T v6 e5
 have e7:=heap_setCell_same _ q 7 _ T v7 e6
 have e8:=heap_setCell_same _ q 8 _ T v8 e7
 have e9:=heap_setCell_same _ q 9 _ T v9 e8
 simpa only [sA,sB,sC] using e9
theorem St.fin {w:World} {c:Cx} {x0 x1 x2 x3 x4 x5 x6 x7 x8 x9:Value} {T:TypeId} {u:World} {l:List Tk} {d:Nat} (h:St w c T #[x0,x1,x2,x3,x4,x5,x6,x7,x8,x9] u l d) (v0 v1 v2 v3 v4 v5 v6 v7 v8 v9:Value) :
  ((((((((((u.setCell ⟨w.heap.size,0,none⟩ v0).setCell ⟨w.heap.size,1,none⟩ v1).setCell ⟨w.heap.size,2,none⟩ v2).setCell ⟨w.heap.size,3,none⟩ v3).setCell ⟨w.heap.size,4,none⟩ v4).setCell ⟨w.heap.size,5,none⟩ v5).setCell ⟨w.heap.size,6,none⟩ v6).setCell ⟨w.heap.size,7,none⟩ v7).setCell ⟨w.heap.size,8,none⟩ v8).setCell ⟨w.heap.size,9,none⟩ v9).heap[w.heap.size]?=some (.cells #[v0,v1,v2,v3,v4,v5,v6,v7,v8,v9] T (0,0))∧Rd ((((((((((u.setCell ⟨w.heap.size,0,none⟩ v0).setCell ⟨w.heap.size,1,none⟩ v1).setCell ⟨w.heap.size,2,none⟩ v2).setCell ⟨w.heap.size,3,none⟩ v3).setCell ⟨w.heap.size,4,none⟩ v4).setCell ⟨w.heap.size,5,none⟩ v5).setCell ⟨w.heap.size,6,none⟩ v6).setCell ⟨w.heap.size,7,none⟩ v7).setCell ⟨w.heap.size,8,none⟩ v8).setCell ⟨w.heap.size,9,none⟩ v9) c l d∧Beside c.g w ((((((((((u.setCell ⟨w.heap.size,0,none⟩ v0).setCell ⟨w.heap.size,1,none⟩ v1).setCell ⟨w.heap.size,2,none⟩ v2).setCell ⟨w.heap.size,3,none⟩ v3).setCell ⟨w.heap.size,4,none⟩ v4).setCell ⟨w.heap.size,5,none⟩ v5).setCell ⟨w.heap.size,6,none⟩ v6).setCell ⟨w.heap.size,7,none⟩ v7).setCell ⟨w.heap.size,8,none⟩ v8).setCell ⟨w.heap.size,9,none⟩ v9)∧(∀b,b≠w.heap.size→((((((((((u.setCell ⟨w.heap.size,0,none⟩ v0).setCell ⟨w.heap.size,1,none⟩ v1).setCell ⟨w.heap.size,2,none⟩ v2).setCell ⟨w.heap.size,3,none⟩ v3).setCell ⟨w.heap.size,4,none⟩ v4).setCell ⟨w.heap.size,5,none⟩ v5).setCell ⟨w.heap.size,6,none⟩ v6).setCell ⟨w.heap.size,7,none⟩ v7).setCell ⟨w.heap.size,8,none⟩ v8).setCell ⟨w.heap.size,9,none⟩ v9).heap[b]?=u.heap[b]?)∧((((((((((u.setCell ⟨w.heap.size,0,none⟩ v0).setCell ⟨w.heap.size,1,none⟩ v1).setCell ⟨w.heap.size,2,none⟩ v2).setCell ⟨w.heap.size,3,none⟩ v3).setCell ⟨w.heap.size,4,none⟩ v4).setCell ⟨w.heap.size,5,none⟩ v5).setCell ⟨w.heap.size,6,none⟩ v6).setCell ⟨w.heap.size,7,none⟩ v7).setCell ⟨w.heap.size,8,none⟩ v8).setCell ⟨w.heap.size,9,none⟩ v9).heap.size=u.heap.size:=by
 have n1:w.heap.size≠c.g:=by have:=h.g1;omega
 have n2:w.heap.size≠c.tb:=by have:=h.t1;omega
 refine⟨set10 h.bx _ _ _ _ _ _ _ _ _ _,?_,?_,?_,by simp⟩
 ·exact((((((((((h.rd.setN n1 n2).setN n1 n2).setN n1 n2).setN n1 n2).setN n1 n2).setN n1 n2).setN n1 n2).setN n1 n2).setN n1 n2).setN n1 n2)
 ·exact((((((((((h.bs.setN (Nat.le_refl _)).setN (Nat.le_refl _)).setN (Nat.le_refl _)).setN (Nat.le_refl _)).setN (Nat.le_refl _)).setN (Nat.le_refl _)).setN (Nat.le_refl _)).setN (Nat.le_refl _)).setN (Nat.le_refl _)).setN (Nat.le_refl _))
 ·intro b hb
  rw [heap_setCell_other _ _ _ _ hb,heap_setCell_other _ _ _ _ hb,heap_setCell_other _ _ _ _ hb,heap_setCell_other _ _ _ _ hb,heap_setCell_other _ _ _ _ hb,heap_setCell_other _ _ _ _ hb,heap_setCell_other _ _ _ _ hb,heap_setCell_other _ _ _ _ hb,heap_setCell_other _ _ _ _ hb,heap_setCell_other _ _ _ _ hb]
theorem St.fin4 {w:World} {c:Cx} {x0 x1 x2 x3:Value} {T:TypeId} {u:World} {l:List Tk} {d:Nat} (h:St w c T #[x0,x1,x2,x3] u l d) (v0 v1 v2 v3:Value) :
  ((((u.setCell ⟨w.heap.size,0,none⟩ v0).setCell ⟨w.heap.size,1,none⟩ v1).setCell ⟨w.heap.size,2,none⟩ v2).setCell ⟨w.heap.size,3,none⟩ v3).heap[w.heap.size]?=some (.cells #[v0,v1,v2,v3] T (0,0))∧Rd ((((u.setCell ⟨w.heap.size,0,none⟩ v0).setCell ⟨w.heap.size,1,none⟩ v1).setCell ⟨w.heap.size,2,none⟩ v2).setCell ⟨w.heap.size,3,none⟩ v3) c l d∧Beside c.g w ((((u.setCell ⟨w.heap.size,0,none⟩ v0).setCell ⟨w.heap.size,1,none⟩ v1).setCell ⟨w.heap.size,2,none⟩ v2).setCell ⟨w.heap.size,3,none⟩ v3):=by
 have n1:w.heap.size≠c.g:=by have:=h.g1;omega
 have n2:w.heap.size≠c.tb:=by have:=h.t1;omega
 refine⟨set4 h.bx _ _ _ _,?_,?_⟩
 ·exact((((h.rd.setN n1 n2).setN n1 n2).setN n1 n2).setN n1 n2)
 ·exact((((h.bs.setN (Nat.le_refl _)).setN (Nat.le_refl _)).setN (Nat.le_refl _)).setN (Nat.le_refl _))
theorem row_cell10 {w:World} {g:Nat} {v0 v1 v2 v3 v4 v5 v6 v7 v8 v9:Value} {T:TypeId} (h:w.heap[g]?=some (.cells #[v0,v1,v2,v3,v4,v5,v6,v7,v8,v9] T (0,0))) :
  w.cell? ⟨g,0,none⟩=some v0∧w.cell? ⟨g,1,none⟩=some v1∧w.cell? ⟨g,2,none⟩=some v2∧w.cell? ⟨g,3,none⟩=some v3∧w.cell? ⟨g,4,none⟩=some v4∧w.cell? ⟨g,5,none⟩=some v5∧w.cell? ⟨g,6,none⟩=some v6∧w.cell? ⟨g,7,none⟩=some v7∧w.cell? ⟨g,8,none⟩=some v8∧w.cell? ⟨g,9,none⟩=some v9:=
 ⟨by rw [cell_of_row w g 0 _ _ (0,0) h];rfl,by rw [cell_of_row w g 1 _ _ (0,0) h];rfl,by rw [cell_of_row w g 2 _ _ (0,0) h];rfl,by rw [cell_of_row w g 3 _ _ (0,0) h];rfl,by rw [cell_of_row w g 4 _ _ (0,0) h];rfl,by rw [cell_of_row w g 5 _ _ (0,0) h];rfl,by rw [cell_of_row w g 6 _ _ (0,0) h];rfl,by rw [cell_of_row w g 7 _ _ (0,0) h];rfl,by rw [cell_of_row w g 8 _ _ (0,0) h];rfl,by rw [cell_of_row w g 9 _ _ (0,0) h];rfl⟩
theorem frozen10 {w:World} {g:Nat} {c:Array Value} {T:TypeId} (h:w.heap[g]?=some (.cells c T (0,0))) :
  w.frozen? ⟨g,0,none⟩=false∧w.frozen? ⟨g,1,none⟩=false∧w.frozen? ⟨g,2,none⟩=false∧w.frozen? ⟨g,3,none⟩=false∧w.frozen? ⟨g,4,none⟩=false∧w.frozen? ⟨g,5,none⟩=false∧w.frozen? ⟨g,6,none⟩=false∧w.frozen? ⟨g,7,none⟩=false∧w.frozen? ⟨g,8,none⟩=false∧w.frozen? ⟨g,9,none⟩=false:=
 ⟨frozen_of_row w g 0 _ _ h,frozen_of_row w g 1 _ _ h,frozen_of_row w g 2 _ _ h,frozen_of_row w g 3 _ _ h,frozen_of_row w g 4 _ _ h,frozen_of_row w g 5 _ _ h,frozen_of_row w g 6 _ _ h,frozen_of_row w g 7 _ _ h,frozen_of_row w g 8 _ _ h,frozen_of_row w g 9 _ _ h⟩
theorem psg_ok {c:Cx} {l:List Tk} {d:Nat} {w:World} (h:Rd w c l d) (s:List UInt8) (hs:isS s l=true) :
  Calls Tryz.prog 77 #[.pointer (some ⟨c.g,0,none⟩),.string (bA s)] w fun e w'=>e=.returned (.agg (tkA (hdT l)))∧Rd w' c l.tail d∧Beside c.g w w':=by
 have S1:=hZ (St.start h 85 #[.int .i64 0,.string ⟨#[]⟩,.int .i64 0,.int .i64 0])
 obtain⟨w1,hw1⟩:=eX (w.alloc (.cells #[.int .i64 0,.string ⟨#[]⟩,.int .i64 0,.int .i64 0] 85))
 rw [hw1] at S1
 have CS:=hZ (seesSign_any (uZ S1).rd s)
 rw [hs] at CS
 have HK:=hZ (isS_k hs)
 obtain⟨⟨k,t,n,p⟩,ht⟩:∃t,hdT l=t:=⟨_,rfl⟩
 have HT:=hZ ht
 rw [ht]
 simp only [tkA]
 obtain⟨G,hG⟩:=eX (w.heap.size)
 clear h hs ht
 go_enter Tryz.func77,Tryz.ntmps77
 go_wp2_with fail
 refine(uZ CS).mono ?_
 rintro e w2 ⟨rfl,b2⟩
 have S2:=hZ ((uZ S1).below b2)
 have CP:=hZ (pass_any (uZ S2).rd (uZ HK))
 rw [uZ HT] at CP
 simp only [tkA] at CP
 clear b2 CS S1 hw1
 go_wp2_with fail
 refine(uZ CP).mono ?_
 rintro e w3 ⟨rfl,r3,b3⟩
 have S3:=hZ ((uZ S2).go b3 r3)
 clear b3 r3 CP S2
 have A3:=(uZ S3).bx
 rw [hG] at A3
 obtain⟨a0,a1,a2,a3⟩:=row_cell4 A3
 have y0:=frozen_of_row w3 G 0 _ _ A3
 have y1:=frozen_of_row w3 G 1 _ _ A3
 have y2:=frozen_of_row w3 G 2 _ _ A3
 have y3:=frozen_of_row w3 G 3 _ _ A3
 clear A3
 go_wp2_with fail
 have F:=(uZ S3).fin4 (.int .i64 (k:Int)) (.string (bA t)) (.int .i64 (n:Int)) (.int .i64 (p:Int))
 rw [hG] at F
 exact bodyPost_ret (ret_c1 (p:=4) (T:=85) rfl _ _ G _ _ _ rfl F.1 Tryz.underlying85 rfl size_tk) rfl ⟨rfl,F.2⟩
theorem psg_bad {c:Cx} {l:List Tk} {d:Nat} {w:World} (h:Rd w c l d) (s:List UInt8) (hs:isS s l=false) :
  Calls Tryz.prog 77 #[.pointer (some ⟨c.g,0,none⟩),.string (bA s)] w fun e w'=>e=fltP 170 (hdT l).p∧Beside c.g w w':=by
 have S1:=hZ (St.start h 85 #[.int .i64 0,.string ⟨#[]⟩,.int .i64 0,.int .i64 0])
 obtain⟨w1,hw1⟩:=eX (w.alloc (.cells #[.int .i64 0,.string ⟨#[]⟩,.int .i64 0,.int .i64 0] 85))
 rw [hw1] at S1
 have CS:=hZ (seesSign_any (uZ S1).rd s)
 rw [hs] at CS
 clear h hs
 go_enter Tryz.func77,Tryz.ntmps77
 go_wp2_with fail
 refine(uZ CS).mono ?_
 rintro e w2 ⟨rfl,b2⟩
 have S2:=hZ ((uZ S1).below b2)
 have CP:=hZ (refuse_any (uZ S2).rd)
 clear b2 CS S1 hw1
 go_wp2_with fail
 refine(uZ CP).mono ?_
 rintro e w3 ⟨rfl,b3⟩
 have HX:=hZ ((uZ S2).bad (Beside.of_below b3))
 clear b3
 unfold fltP
 go_wp2_with fail
 exact⟨rfl,rfl,uZ HX⟩
theorem pky_ok {c:Cx} {l:List Tk} {d:Nat} {w:World} (h:Rd w c l d) (s:List UInt8) (hs:isK s l=true) :
  Calls Tryz.prog 75 #[.pointer (some ⟨c.g,0,none⟩),.string (bA s)] w fun e w'=>e=.returned (.agg (tkA (hdT l)))∧Rd w' c l.tail d∧Beside c.g w w':=by
 have S1:=hZ (St.start h 85 #[.int .i64 0,.string ⟨#[]⟩,.int .i64 0,.int .i64 0])
 obtain⟨w1,hw1⟩:=eX (w.alloc (.cells #[.int .i64 0,.string ⟨#[]⟩,.int .i64 0,.int .i64 0] 85))
 rw [hw1] at S1
 have CS:=hZ (seesKey_any (uZ S1).rd s)
 rw [hs] at CS
 have HK:=hZ (isK_k hs)
 obtain⟨⟨k,t,n,p⟩,ht⟩:∃t,hdT l=t:=⟨_,rfl⟩
 have HT:=hZ ht
 rw [ht]
 simp only [tkA]
 obtain⟨G,hG⟩:=eX (w.heap.size)
 clear h hs ht
 go_enter Tryz.func75,Tryz.ntmps75
 go_wp2_with fail
 refine(uZ CS).mono ?_
 rintro e w2 ⟨rfl,b2⟩
 have S2:=hZ ((uZ S1).below b2)
 have CP:=hZ (pass_any (uZ S2).rd (uZ HK))
 rw [uZ HT] at CP
 simp only [tkA] at CP
 clear b2 CS S1 hw1
 go_wp2_with fail
 refine(uZ CP).mono ?_
 rintro e w3 ⟨rfl,r3,b3⟩
 have S3:=hZ ((uZ S2).go b3 r3)
 clear b3 r3 CP S2
 have A3:=(uZ S3).bx
 rw [hG] at A3
 obtain⟨a0,a1,a2,a3⟩:=row_cell4 A3
 have y0:=frozen_of_row w3 G 0 _ _ A3
 have y1:=frozen_of_row w3 G 1 _ _ A3
 have y2:=frozen_of_row w3 G 2 _ _ A3
 have y3:=frozen_of_row w3 G 3 _ _ A3
 clear A3
 go_wp2_with fail
 have F:=(uZ S3).fin4 (.int .i64 (k:Int)) (.string (bA t)) (.int .i64 (n:Int)) (.int .i64 (p:Int))
 rw [hG] at F
 exact bodyPost_ret (ret_c1 (p:=4) (T:=85) rfl _ _ G _ _ _ rfl F.1 Tryz.underlying85 rfl size_tk) rfl ⟨rfl,F.2⟩
theorem pky_bad {c:Cx} {l:List Tk} {d:Nat} {w:World} (h:Rd w c l d) (s:List UInt8) (hs:isK s l=false) :
  Calls Tryz.prog 75 #[.pointer (some ⟨c.g,0,none⟩),.string (bA s)] w fun e w'=>e=fltP 170 (hdT l).p∧Beside c.g w w':=by
 have S1:=hZ (St.start h 85 #[.int .i64 0,.string ⟨#[]⟩,.int .i64 0,.int .i64 0])
 obtain⟨w1,hw1⟩:=eX (w.alloc (.cells #[.int .i64 0,.string ⟨#[]⟩,.int .i64 0,.int .i64 0] 85))
 rw [hw1] at S1
 have CS:=hZ (seesKey_any (uZ S1).rd s)
 rw [hs] at CS
 clear h hs
 go_enter Tryz.func75,Tryz.ntmps75
 go_wp2_with fail
 refine(uZ CS).mono ?_
 rintro e w2 ⟨rfl,b2⟩
 have S2:=hZ ((uZ S1).below b2)
 have CP:=hZ (refuse_any (uZ S2).rd)
 clear b2 CS S1 hw1
 go_wp2_with fail
 refine(uZ CP).mono ?_
 rintro e w3 ⟨rfl,b3⟩
 have HX:=hZ ((uZ S2).bad (Beside.of_below b3))
 clear b3
 unfold fltP
 go_wp2_with fail
 exact⟨rfl,rfl,uZ HX⟩
theorem pnm_ok {c:Cx} {l:List Tk} {d:Nat} {w:World} (h:Rd w c l d) (hs:(hdT l).k=1) :
  Calls Tryz.prog 76 #[.pointer (some ⟨c.g,0,none⟩)] w fun e w'=>e=.returned (.agg (tkA (hdT l)))∧Rd w' c l.tail d∧Beside c.g w w':=by
 have S1:=hZ (St.start h 85 #[.int .i64 0,.string ⟨#[]⟩,.int .i64 0,.int .i64 0])
 obtain⟨w1,hw1⟩:=eX (w.alloc (.cells #[.int .i64 0,.string ⟨#[]⟩,.int .i64 0,.int .i64 0] 85))
 rw [hw1] at S1
 have CS:=hZ (token_any (uZ S1).rd)
 have HK:=hZ (show ¬(hdT l).k=0 by omega)
 obtain⟨⟨k,t,n,p⟩,ht⟩:∃t,hdT l=t:=⟨_,rfl⟩
 have HT:=hZ ht
 rw [ht] at CS hs
 rw [ht]
 simp only [] at hs
 subst hs
 simp only [tkA] at CS ⊢
 obtain⟨G,hG⟩:=eX (w.heap.size)
 clear h ht
 go_enter Tryz.func76,Tryz.ntmps76
 go_wp2_with fail
 refine(uZ CS).mono ?_
 rintro e w2 ⟨rfl,b2⟩
 have S2:=hZ ((uZ S1).below b2)
 have CP:=hZ (pass_any (uZ S2).rd (uZ HK))
 rw [uZ HT] at CP
 simp only [tkA] at CP
 clear b2 CS S1 hw1
 go_wp2_with (first|(refine wpl_tk0 rfl _ rfl _ _ _ _ rfl ?_))
 refine(uZ CP).mono ?_
 rintro e w3 ⟨rfl,r3,b3⟩
 have S3:=hZ ((uZ S2).go b3 r3)
 clear b3 r3 CP S2
 have A3:=(uZ S3).bx
 rw [hG] at A3
 obtain⟨a0,a1,a2,a3⟩:=row_cell4 A3
 have y0:=frozen_of_row w3 G 0 _ _ A3
 have y1:=frozen_of_row w3 G 1 _ _ A3
 have y2:=frozen_of_row w3 G 2 _ _ A3
 have y3:=frozen_of_row w3 G 3 _ _ A3
 clear A3
 go_wp2_with fail
 have F:=(uZ S3).fin4 (.int .i64 1) (.string (bA t)) (.int .i64 (n:Int)) (.int .i64 (p:Int))
 rw [hG] at F
 exact bodyPost_ret (ret_c1 (p:=2) (T:=85) rfl _ _ G _ _ _ rfl F.1 Tryz.underlying85 rfl size_tk) rfl ⟨rfl,F.2⟩
theorem pnm_bad {c:Cx} {l:List Tk} {d:Nat} {w:World} (h:Rd w c l d) (hs:¬(hdT l).k=1) :
  Calls Tryz.prog 76 #[.pointer (some ⟨c.g,0,none⟩)] w fun e w'=>e=fltP 170 (hdT l).p∧Beside c.g w w':=by
 have S1:=hZ (St.start h 85 #[.int .i64 0,.string ⟨#[]⟩,.int .i64 0,.int .i64 0])
 obtain⟨w1,hw1⟩:=eX (w.alloc (.cells #[.int .i64 0,.string ⟨#[]⟩,.int .i64 0,.int .i64 0] 85))
 rw [hw1] at S1
 have CS:=hZ (token_any (uZ S1).rd)
 have CP0:=hZ (fun (u:World) (hu:Rd u c l d)=>refuse_any hu)
 obtain⟨⟨k,t,n,p⟩,ht⟩:∃t,hdT l=t:=⟨_,rfl⟩
 rw [ht] at CS hs CP0
 rw [ht]
 simp only [] at hs
 simp only [tkA] at CS CP0 ⊢
 have h1:¬(k:Int)=1:=by omega
 have h2:((k:Int) == 1)=false:=by simpa using h1
 clear h ht hs
 go_enter Tryz.func76,Tryz.ntmps76
 go_wp2_with fail
 refine(uZ CS).mono ?_
 rintro e w2 ⟨rfl,b2⟩
 have S2:=hZ ((uZ S1).below b2)
 have CP:=hZ (uZ CP0 w2 (uZ S2).rd)
 clear b2 CS S1 hw1 CP0
 go_wp2_with (first|(refine wpl_tk0 rfl _ rfl _ _ _ _ rfl ?_))
 refine(uZ CP).mono ?_
 rintro e w3 ⟨rfl,b3⟩
 have HX:=hZ ((uZ S2).bad (Beside.of_below b3))
 clear b3
 unfold fltP
 go_wp2_with fail
 exact⟨rfl,rfl,uZ HX⟩
theorem ent_ok {c:Cx} {l:List Tk} {d:Nat} {w:World} (h:Rd w c l d) (s:List UInt8) (hs:isS s l=true) (hd:d<24) :
  Calls Tryz.prog 112 #[.pointer (some ⟨c.g,0,none⟩),.string (bA s)] w fun e w'=>e=.returned (.agg (tkA (hdT l)))∧Rd w' c l.tail (d+1)∧Beside c.g w w':=by
 have S1:=hZ (St.start h 85 #[.int .i64 0,.string ⟨#[]⟩,.int .i64 0,.int .i64 0])
 obtain⟨w1,hw1⟩:=eX (w.alloc (.cells #[.int .i64 0,.string ⟨#[]⟩,.int .i64 0,.int .i64 0] 85))
 rw [hw1] at S1
 have CS:=hZ (psg_ok (uZ S1).rd s hs)
 obtain⟨⟨k,t,n,p⟩,ht⟩:∃t,hdT l=t:=⟨_,rfl⟩
 rw [ht] at CS
 rw [ht]
 simp only [tkA] at CS ⊢
 have hlw:=h.low
 obtain⟨G,hG⟩:=eX (w.heap.size)
 clear h ht hs
 go_enter Tryz.func112,Tryz.ntmps112
 go_wp2_with fail
 refine(uZ CS).mono ?_
 rintro e w2 ⟨rfl,r2,b2⟩
 have S2:=hZ ((uZ S1).go b2 r2)
 clear b2 r2 CS S1 hw1
 go_upto_region 2 with fail
 obtain⟨w3,hw3⟩:=eX (w2.alloc (.cells #[.int .i64 (k:Int),.string (bA t),.int .i64 (n:Int),.int .i64 (p:Int)] 85))
 have A3:w3.heap[w2.heap.size]?=some (.cells #[.int .i64 (k:Int),.string (bA t),.int .i64 (n:Int),.int .i64 (p:Int)] 85 (0,0)):=by rw [←hw3];exact heap_alloc_new _ _
 have B3:=alB hw3
 have S3:=hZ ((uZ S2).below B3)
 obtain⟨Q,hQ⟩:=eX (w2.heap.size)
 rw [hw3]
 rw [hQ] at A3
 rw [hQ]
 have hwQ:w.heap.size<Q:=by rw [←hQ];exact(uZ S2).lt
 obtain⟨c0,c1,c2,f1,f2,hg3⟩:=(uZ S3).rd.cells
 obtain⟨a0,a1,a2,a3⟩:=row_cell4 A3
 have HA3:=hZ A3
 have hgl:=(uZ S3).g1
 clear A3 B3 hw3 S2 c0 c1
 have h1:¬(d:Int)=24:=by omega
 have h2:((d:Int) == 24)=false:=by simpa using h1
 have j1:IntKind.i64.wrap ((d:Int)+1)=(d:Int)+1:=by rw [IntKind.wrap_i64];omega
 go_upto_region 5 with fail
 have R4:=(uZ S3).rd.open (d+1) (by omega)
 obtain⟨w4,hw4⟩:=eX (w3.setCell ⟨c.g,2,none⟩ (.int .i64 ((d:Int)+1)))
 rw [show ((d+1:Nat):Int)=(d:Int)+1 by omega,hw4] at R4
 have S4:=hZ ((uZ S3).go (by rw [←hw4];exact(Beside.refl _ _).set) R4)
 have A4:w4.heap[Q]?=some (.cells #[.int .i64 (k:Int),.string (bA t),.int .i64 (n:Int),.int .i64 (p:Int)] 85 (0,0)):=by rw [←hw4,heap_setCell_other _ _ _ _ (show Q≠c.g by omega)];exact uZ HA3
 rw [hw4]
 clear hw4 c2 f1 f2 a0 a1 a2 a3 R4
 obtain⟨a0,a1,a2,a3⟩:=row_cell4 A4
 have B4:=(uZ S4).bx
 rw [hG] at B4
 obtain⟨b0,b1,b2,b3⟩:=row_cell4 B4
 have y0:=frozen_of_row w4 G 0 _ _ B4
 have y1:=frozen_of_row w4 G 1 _ _ B4
 have y2:=frozen_of_row w4 G 2 _ _ B4
 have y3:=frozen_of_row w4 G 3 _ _ B4
 clear B4 A4
 go_wp2_with fail
 have F:=(uZ S4).fin4 (.int .i64 (k:Int)) (.string (bA t)) (.int .i64 (n:Int)) (.int .i64 (p:Int))
 rw [hG] at F
 exact bodyPost_ret (ret_c1 (p:=4) (T:=85) rfl _ _ G _ _ _ rfl F.1 Tryz.underlying85 rfl size_tk) rfl ⟨rfl,F.2⟩
theorem ent_bad {c:Cx} {l:List Tk} {d:Nat} {w:World} (h:Rd w c l d) (s:List UInt8) (hs:isS s l=false) :
  Calls Tryz.prog 112 #[.pointer (some ⟨c.g,0,none⟩),.string (bA s)] w fun e w'=>e=fltP 170 (hdT l).p∧Beside c.g w w':=by
 have S1:=hZ (St.start h 85 #[.int .i64 0,.string ⟨#[]⟩,.int .i64 0,.int .i64 0])
 obtain⟨w1,hw1⟩:=eX (w.alloc (.cells #[.int .i64 0,.string ⟨#[]⟩,.int .i64 0,.int .i64 0] 85))
 rw [hw1] at S1
 have CS:=hZ (psg_bad (uZ S1).rd s hs)
 clear h hs
 go_enter Tryz.func112,Tryz.ntmps112
 go_wp2_with fail
 refine(uZ CS).mono ?_
 rintro e w3 ⟨rfl,b3⟩
 have HX:=hZ ((uZ S1).bad b3)
 clear b3
 unfold fltP
 go_wp2_with fail
 exact⟨rfl,rfl,uZ HX⟩
theorem ent_deep {c:Cx} {l:List Tk} {d:Nat} {w:World} (h:Rd w c l d) (s:List UInt8) (hs:isS s l=true) (hd:d=24) :
  Calls Tryz.prog 112 #[.pointer (some ⟨c.g,0,none⟩),.string (bA s)] w fun e w'=>e=fltP 171 (hdT l).p∧Beside c.g w w':=by
 have S1:=hZ (St.start h 85 #[.int .i64 0,.string ⟨#[]⟩,.int .i64 0,.int .i64 0])
 obtain⟨w1,hw1⟩:=eX (w.alloc (.cells #[.int .i64 0,.string ⟨#[]⟩,.int .i64 0,.int .i64 0] 85))
 rw [hw1] at S1
 have CS:=hZ (psg_ok (uZ S1).rd s hs)
 obtain⟨⟨k,t,n,p⟩,ht⟩:∃t,hdT l=t:=⟨_,rfl⟩
 rw [ht] at CS
 rw [ht]
 simp only [tkA] at CS ⊢
 have hlw:=h.low
 obtain⟨G,hG⟩:=eX (w.heap.size)
 clear h ht hs
 go_enter Tryz.func112,Tryz.ntmps112
 go_wp2_with fail
 refine(uZ CS).mono ?_
 rintro e w2 ⟨rfl,r2,b2⟩
 have S2:=hZ ((uZ S1).go b2 r2)
 clear b2 r2 CS S1 hw1
 go_upto_region 2 with fail
 obtain⟨w3,hw3⟩:=eX (w2.alloc (.cells #[.int .i64 (k:Int),.string (bA t),.int .i64 (n:Int),.int .i64 (p:Int)] 85))
 have A3:w3.heap[w2.heap.size]?=some (.cells #[.int .i64 (k:Int),.string (bA t),.int .i64 (n:Int),.int .i64 (p:Int)] 85 (0,0)):=by rw [←hw3];exact heap_alloc_new _ _
 have B3:=alB hw3
 have S3:=hZ ((uZ S2).below B3)
 obtain⟨Q,hQ⟩:=eX (w2.heap.size)
 rw [hw3]
 rw [hQ] at A3
 rw [hQ]
 have hwQ:w.heap.size<Q:=by rw [←hQ];exact(uZ S2).lt
 obtain⟨c0,c1,c2,f1,f2,hg3⟩:=(uZ S3).rd.cells
 obtain⟨a0,a1,a2,a3⟩:=row_cell4 A3
 have HA3:=hZ A3
 have hgl:=(uZ S3).g1
 clear A3 B3 hw3 S2 c0 c1
 subst hd
 go_wp2_with fail
 exact⟨rfl,rfl,(uZ S3).bs⟩
theorem leave_ok {c:Cx} {l:List Tk} {d:Nat} {w:World} (h:Rd w c l (d+1)) (s:List UInt8) (hs:isS s l=true) :
  Calls Tryz.prog 114 #[.pointer (some ⟨c.g,0,none⟩),.string (bA s)] w fun e w'=>e=.returned (.tuple #[])∧Rd w' c l.tail d∧Beside c.g w w':=by
 have CS:=hZ (psg_ok h s hs)
 have hlw:=h.low
 clear h hs
 go_enter Tryz.func114,Tryz.ntmps114
 go_wp2_with fail
 refine(uZ CS).mono ?_
 rintro e w2 ⟨rfl,r2,b2⟩
 obtain⟨c0,c1,c2,f1,f2,hg3⟩:=r2.cells
 have R2:=hZ r2
 have B2:=hZ b2
 rw [show ((d+1:Nat):Int)=(d:Int)+1 by omega] at c2
 have j1:IntKind.i64.wrap ((d:Int)+1 - 1)=(d:Int):=by rw [IntKind.wrap_i64];omega
 clear r2 b2 CS c0 c1
 go_wp2_with fail
 go_end0
 exact⟨rfl,(uZ R2).open d (by omega),(uZ B2).set⟩
theorem leave_bad {c:Cx} {l:List Tk} {d:Nat} {w:World} (h:Rd w c l d) (s:List UInt8) (hs:isS s l=false) :
  Calls Tryz.prog 114 #[.pointer (some ⟨c.g,0,none⟩),.string (bA s)] w fun e w'=>e=fltP 170 (hdT l).p∧Beside c.g w w':=by
 have CS:=hZ (psg_bad h s hs)
 clear h hs
 go_enter Tryz.func114,Tryz.ntmps114
 go_wp2_with fail
 refine(uZ CS).mono ?_
 rintro e w2 ⟨rfl,b2⟩
 have B2:=hZ b2
 clear b2
 unfold fltP
 go_wp2_with fail
 exact⟨rfl,rfl,uZ B2⟩
end Go.Proofs.YtjdpaihhhjdgmaaGreatDoor
