/-
  Layer 17 (parse): what binds; conditions: the reader's state.
-/
import Derived.Test.YtjdpaihhhjdgmaaGreatDoorA42
import Derived.Deep.LoopGhost
set_option linter.unusedVariables false
set_option linter.unusedSimpArgs false
set_option maxRecDepth 100000
set_option maxHeartbeats 8000000
namespace Go.Proofs.YtjdpaihhhjdgmaaGreatDoor
open Go.RowKit
set_option linter.unusedVariables false
set_option linter.unusedSimpArgs false
theorem binary_step {c:Cx} {l:List Tk} {d:Nat} {w:World} {r:Rs (List Nd)} {f x:Nat} (ihb:∀{f1:Nat},f1≤f→∀{x:Nat} {c:Cx} {l:List Tk} {d:Nat} {w:World} {r:Rs (List Nd)},1≤x→x≤6→PJ f1 2 x [] l d=some r→Rd w c l d→Calls Tryz.prog 177 #[.pointer (some ⟨c.g,0,none⟩),.int .i64 (x:Int)] w fun e w'=>NdP c w d r e w') (ihu:∀{c:Cx} {l:List Tk} {d:Nat} {w:World} {r:Rs (List Nd)},PJ f 1 0 [] l d=some r→Rd w c l d→Calls Tryz.prog 189 #[.pointer (some ⟨c.g,0,none⟩)] w fun e w'=>NdP c w d r e w') (hx0:1≤x) (hx6:x≤6) (hJ:PJ (f+1) 2 x [] l d=some r) (h:Rd w c l d) :
  Calls Tryz.prog 177 #[.pointer (some ⟨c.g,0,none⟩),.int .i64 (x:Int)] w fun e w'=>NdP c w d r e w':=by
 have S1:=hZ (St.start h 28 #[.int .i64 0,.string ⟨#[]⟩,.int .i64 0,.int .i64 0,.string ⟨#[]⟩,.slice none 0 0,.slice none 0 0,.bool false,.slice none 0 0,.int .i64 0])
 obtain⟨w1,hw1⟩:=eX (w.alloc (.cells #[.int .i64 0,.string ⟨#[]⟩,.int .i64 0,.int .i64 0,.string ⟨#[]⟩,.slice none 0 0,.slice none 0 0,.bool false,.slice none 0 0,.int .i64 0] 28))
 rw [hw1] at S1
 obtain⟨G,hG⟩:=eX (w.heap.size)
 have hgw:c.g<w.heap.size:=h.cells.2.2.2.2.2
 clear h
 go_enter Tryz.func177,Tryz.ntmps177
 have HJ0:=hZ (show jBinary (PJ f) x l d=some r from hJ)
 clear hJ
 have HJ1:=hZ ((by have:=uZ HJ0;unfold jBinary at this;exact this))
 clear HJ0
 by_cases hx5:5<x
 ·have hx1:(5:Int)<(x:Int):=by omega
  have HJ2:=hZ ((by have:=(uZ HJ1);rw [if_pos hx5] at this;exact this))
  clear HJ1
  have CR:=hZ (ihu (uZ HJ2) (uZ S1).rd)
  obtain⟨y,hyr⟩:=eX r
  have HR:=hZ hyr
  rw [hyr] at CR
  clear hyr
  rcases y with ⟨ea,ep⟩|⟨nsx,lx⟩
  ·go_wp2_with fail
   refine(uZ CR).mono ?_
   rintro e wx ⟨rfl,b⟩
   have HX:=hZ ((uZ S1).bad b)
   clear b CR
   unfold fltP
   go_wp2_with fail
   exact⟨rfl,by rw [uZ HR];exact⟨rfl,uZ HX⟩⟩
  ·go_wp2_with fail
   refine(uZ CR).mono ?_
   rintro e w2 ⟨kx,tx,vkx,vnx,vsx,fx,nx,akx,ckx,px,Zx,rfl,hlx,hn,r2,b⟩
   have S2:=hZ ((uZ S1).go b r2)
   have HNx_2:=hZ (hn.low (lo':=w.heap.size+1) (uZ S1).lt)
   clear b r2 hn CR S1
   have HR:=hZ (uZ HR)
   have BX:=(uZ S2).bx
   rw [hG] at BX
   obtain⟨g0,g1,g2,g3,g4,g5,g6,g7,g8,g9⟩:=row_cell10 BX
   obtain⟨z0,z1,z2,z3,z4,z5,z6,z7,z8,z9⟩:=frozen10 BX
   clear BX
   have FF:=hZ (St.done (uZ S2) (uZ HNx_2) hlx hG)
   go_wp2_with fail
   refine rtN (p:=4) rfl rfl (uZ FF).1 rfl rfl ?_
   rw [uZ HR]
   exact(uZ FF).2
 ·have hx1:¬(5:Int)<(x:Int):=by omega
  have j1:IntKind.i64.wrap ((x:Int)+1)=(x:Int)+1:=by rw [IntKind.wrap_i64];omega
  obtain⟨loa,hloa⟩:=eX (w.heap.size+1)
  have HJ2:=hZ ((by have:=(uZ HJ1);rw [if_neg hx5] at this;exact this))
  clear HJ1
  obtain⟨yx,hy,hth⟩:=bnd_some (uZ HJ2)
  have HJ3:=hZ (hth)
  clear HJ2
  clear hth
  have CR:=hZ ((fun hy hr=>by have:=ihb (f1:=f) (by omega) (x:=x+1) (by omega) (by omega) hy hr;rw [show ((x+1:Nat):Int)=(x:Int)+1 by omega] at this;exact this) hy (uZ S1).rd)
  have HYX:=hZ hy
  clear hy
  rcases yx with ⟨ea,ep⟩|⟨nsx,lx⟩
  ·have HR:=hZ (thn_err (uZ HJ3))
   go_wp2_with fail
   refine(uZ CR).mono ?_
   rintro e wx ⟨rfl,b⟩
   have HX:=hZ ((uZ S1).bad b)
   clear b CR
   unfold fltP
   go_wp2_with fail
   exact⟨rfl,by rw [uZ HR];exact⟨rfl,uZ HX⟩⟩
  ·have HJ4:=hZ (thn_ok (uZ HJ3))
   clear HJ3
   go_wp2_with fail
   refine(uZ CR).mono ?_
   rintro e w2 ⟨kx,tx,vkx,vnx,vsx,fx,nx,akx,ckx,px,Zx,rfl,hlx,hn,r2,b⟩
   have S2:=hZ ((uZ S1).go b r2)
   obtain⟨lox,hlo⟩:=eX (w1.heap.size)
   have ltlox:w.heap.size<lox:=by rw [←hlo];exact(uZ S1).lt
   rw [hlo] at hn
   have HNx_2:=hZ hn
   clear hlo b r2 hn CR S1
   have ANx:=hZ ((uZ HNx_2).fresh rfl)
   obtain⟨w3,hw⟩:=eX (w2.alloc (.cells #[.int .i64 (kx:Int),.string (bA tx),.int .i64 (vkx:Int),.int .i64 (vnx:Int),.string (bA vsx),.slice none 0 0,.slice none 0 0,.bool fx,.slice akx nx ckx,.int .i64 (px:Int)] 28))
   have b:=alB hw
   obtain⟨Q,hQ⟩:=eX (w2.heap.size)
   rw [hQ] at ANx
   have HBQ_3:Hid (w3.heap[Q]?=some (.cells #[.int .i64 (kx:Int),.string (bA tx),.int .i64 (vkx:Int),.int .i64 (vnx:Int),.string (bA vsx),.slice none 0 0,.slice none 0 0,.bool fx,.slice akx nx ckx,.int .i64 (px:Int)] 28 (0,0))):=hZ (by rw [←hw,←hQ];exact heap_alloc_new _ _)
   have S3:=hZ ((uZ S2).below b)
   have HNx_3:=hZ ((uZ HNx_2).beside (Beside.of_below (gr:=c.g) b) (by omega))
   have ltQ:w.heap.size<Q:=by rw [←hQ];exact(uZ S2).lt
   clear b S2 HNx_2
   go_wp2_with fail
   clear hw hQ
   go_loopg [] f (fun gk wr=>∃(acc:List Nd) (la:List Tk) (ka:Nat) (ta:List UInt8) (vka vna:Nat) (vsa:List UInt8) (fa:Bool) (na:Nat) (aka:Option Addr) (cka pa:Nat) (Za:List Nat),Hid (gk≤f∧PJ gk 3 x acc la d=some r∧acc.length=1)∧Hid (St w c 28 #[.int .i64 0,.string ⟨#[]⟩,.int .i64 0,.int .i64 0,.string ⟨#[]⟩,.slice none 0 0,.slice none 0 0,.bool false,.slice none 0 0,.int .i64 0] wr la d∧wr.heap[Q]?=some (.cells #[.int .i64 (ka:Int),.string (bA ta),.int .i64 (vka:Int),.int .i64 (vna:Int),.string (bA vsa),.slice none 0 0,.slice none 0 0,.bool fa,.slice aka na cka,.int .i64 (pa:Int)] 28 (0,0))∧NdOk loa wr acc (ndC ka ta vka vna vsa fa na aka cka pa) Za∧Q∉Za))
   case atStart=>exact⟨nsx,lx,kx,tx,vkx,vnx,vsx,fx,nx,akx,ckx,px,Zx,hZ ⟨Nat.le_refl _,(uZ HJ4),hlx⟩,hZ ⟨uZ S3,uZ HBQ_3,(uZ HNx_3).low (by omega),uZ ANx⟩⟩
   case round=>
    clear HJ4 HNx_3 S3 HBQ_3 ANx
    obtain⟨acc,la,ka,ta,vka,vna,vsa,fa,na,aka,cka,pa,Za,HA,HI⟩:=hrel
    obtain⟨w50,hw50⟩:∃zz,zz=wr:=⟨_,rfl⟩
    subst hw50
    have S50:=hZ (uZ HI).1
    have HBQ_50:=hZ (uZ HI).2.1
    have HNa_50:=hZ (uZ HI).2.2.1
    have HZQ:=hZ (uZ HI).2.2.2
    obtain⟨g1,hg1⟩:=PJ_fuel (uZ HA).2.1
    subst hg1
    have HJ60:=hZ (show jBinL (PJ g1) x acc la d=some r from (uZ HA).2.1)
    have hla:=(uZ HA).2.2
    have hgf:=(uZ HA).1
    clear HI HA
    have HJ61:=hZ ((by have:=uZ HJ60;unfold jBinL at this;exact this))
    clear HJ60
    obtain⟨ra,hra⟩:=eX (rowT la)
    have HRA:=hZ hra
    rw [hra] at HJ61
    clear hra
    have CC:=hZ ((by have:=row_any (uZ S50).rd;rw [uZ HRA] at this;exact this))
    go_wp2_with fail
    refine(uZ CC).mono ?_
    rintro e w51 ⟨rfl,b⟩
    have S51:=hZ ((uZ S50).below b)
    have HBQ_51:=bx_be HBQ_50 b
    have HNa_51:=hZ ((uZ HNa_50).beside (Beside.of_below (gr:=c.g) b) (by omega))
    clear b CC S50 HBQ_50 HNa_50
    by_cases hrx:ra=x
    ·have hk0:¬(hdT la).k=0:=fun e=>by have h5:=uZ HRA;unfold rowT at h5;rw [e] at h5;simp at h5;omega
     have HK0:=hZ hk0
     clear hk0
     obtain⟨⟨k,t,n,p⟩,ht⟩:∃t,hdT la=t:=⟨_,rfl⟩
     have HT:=hZ ht
     clear ht
     have HJ62:=hZ ((by have:=(uZ HJ61);rw [if_pos hrx,uZ HT] at this;exact this))
     clear HJ61
     have h3:(ra:Int)=(x:Int):=by omega
     have CC:=hZ ((by have:=pass_any (uZ S51).rd (uZ HK0);rw [uZ HT] at this;simp only [tkA] at this;exact this))
     go_wp2_with fail
     refine(uZ CC).mono ?_
     rintro e w52 ⟨rfl,r2,b⟩
     have S52:=hZ ((uZ S51).go b r2)
     have HBQ_52:=bx_go HBQ_51 b (by omega)
     have HNa_52:=hZ ((uZ HNa_51).beside b (by omega))
     clear b r2 CC S51 HBQ_51 HNa_51
     go_upto_region 6 with fail
     obtain⟨w53,hw⟩:=eX (w52.alloc (.cells #[.int .i64 (k:Int),.string (bA t),.int .i64 (n:Int),.int .i64 (p:Int)] 85))
     have b:=alB hw
     obtain⟨T,hQ⟩:=eX (w52.heap.size)
     have HBT_53:Hid (w53.heap[T]?=some (.cells #[.int .i64 (k:Int),.string (bA t),.int .i64 (n:Int),.int .i64 (p:Int)] 85 (0,0))):=hZ (by rw [←hw,←hQ];exact heap_alloc_new _ _)
     have S53:=hZ ((uZ S52).below b)
     have HBQ_53:=bx_be HBQ_52 b
     have HNa_53:=hZ ((uZ HNa_52).beside (Beside.of_below (gr:=c.g) b) (by omega))
     have lQ_T:Q<T:=by rw [←hQ];exact(Array.getElem?_eq_some_iff.1 (uZ HBQ_52)).1
     have ANa_T:=hZ ((uZ HNa_52).fresh hQ)
     have ltT:w.heap.size<T:=by rw [←hQ];exact(uZ S52).lt
     rw [hw]
     try rw [hQ]
     clear hw hQ b S52 HBQ_52 HNa_52
     obtain⟨yy,hy,hth⟩:=bnd_some (uZ HJ62)
     have HJ63:=hZ (hth)
     clear HJ62
     clear hth
     have CR:=hZ ((fun hy hr=>by have:=ihb (f1:=g1) (by omega) (x:=x+1) (by omega) (by omega) hy hr;rw [show ((x+1:Nat):Int)=(x:Int)+1 by omega] at this;exact this) hy (uZ S53).rd)
     have HYX:=hZ hy
     clear hy
     rcases yy with ⟨ea,ep⟩|⟨nsy,ly⟩
     ·have HR:=hZ (thn_err (uZ HJ63))
      go_wp2_with fail
      refine(uZ CR).mono ?_
      rintro e wx ⟨rfl,b⟩
      have HX:=hZ ((uZ S53).bad b)
      clear b CR
      unfold fltP
      go_wp2_with fail
      exact⟨rfl,by rw [uZ HR];exact⟨rfl,uZ HX⟩⟩
     ·have HJ64:=hZ (thn_ok (uZ HJ63))
      clear HJ63
      go_wp2_with fail
      refine(uZ CR).mono ?_
      rintro e w54 ⟨ky,ty,vky,vny,vsy,fy,ny,aky,cky,py,Zy,rfl,hly,hn,r2,b⟩
      have S54:=hZ ((uZ S53).go b r2)
      have HBQ_54:=bx_go HBQ_53 b (by omega)
      have HBT_54:=bx_go HBT_53 b (by omega)
      have HNa_54:=hZ ((uZ HNa_53).beside b (by omega))
      obtain⟨loy,hlo⟩:=eX (w53.heap.size)
      have ltloy:w.heap.size<loy:=by rw [←hlo];exact(uZ S53).lt
      have lqQ_y:Q<loy:=by rw [←hlo];exact(Array.getElem?_eq_some_iff.1 (uZ HBQ_53)).1
      have lqT_y:T<loy:=by rw [←hlo];exact(Array.getElem?_eq_some_iff.1 (uZ HBT_53)).1
      have HMa_y:Hid (∀b∈Za,b<loy):=hZ (fun b hb=>by rw [←hlo];exact((uZ HNa_53).rg b hb).2)
      have lea_y:loa≤loy:=by rw [←hlo];exact(uZ HNa_53).le
      rw [hlo] at hn
      have HNy_54:=hZ hn
      clear hlo b r2 hn CR S53 HBQ_53 HBT_53 HNa_53
      go_upto_region 7 with fail
      obtain⟨w55,hw⟩:=eX (w54.alloc (.cells #[.int .i64 (ky:Int),.string (bA ty),.int .i64 (vky:Int),.int .i64 (vny:Int),.string (bA vsy),.slice none 0 0,.slice none 0 0,.bool fy,.slice aky ny cky,.int .i64 (py:Int)] 28))
      have b:=alB hw
      obtain⟨P,hQ⟩:=eX (w54.heap.size)
      have HBP_55:Hid (w55.heap[P]?=some (.cells #[.int .i64 (ky:Int),.string (bA ty),.int .i64 (vky:Int),.int .i64 (vny:Int),.string (bA vsy),.slice none 0 0,.slice none 0 0,.bool fy,.slice aky ny cky,.int .i64 (py:Int)] 28 (0,0))):=hZ (by rw [←hw,←hQ];exact heap_alloc_new _ _)
      have S55:=hZ ((uZ S54).below b)
      have HBQ_55:=bx_be HBQ_54 b
      have HBT_55:=bx_be HBT_54 b
      have HNa_55:=hZ ((uZ HNa_54).beside (Beside.of_below (gr:=c.g) b) (by omega))
      have HNy_55:=hZ ((uZ HNy_54).beside (Beside.of_below (gr:=c.g) b) (by omega))
      have lQ_P:Q<P:=by rw [←hQ];exact(Array.getElem?_eq_some_iff.1 (uZ HBQ_54)).1
      have lT_P:T<P:=by rw [←hQ];exact(Array.getElem?_eq_some_iff.1 (uZ HBT_54)).1
      have ANa_P:=hZ ((uZ HNa_54).fresh hQ)
      have ANy_P:=hZ ((uZ HNy_54).fresh hQ)
      have ltP:w.heap.size<P:=by rw [←hQ];exact(uZ S54).lt
      rw [hw]
      try rw [hQ]
      clear hw hQ b S54 HBQ_54 HBT_54 HNa_54 HNy_54
      obtain⟨-,Tc1,-,Tc3⟩:=row_cell4 (uZ HBT_55)
      obtain⟨Qc0,Qc1,Qc2,Qc3,Qc4,Qc5,Qc6,Qc7,Qc8,Qc9⟩:=row_cell10 (uZ HBQ_55)
      obtain⟨Pc0,Pc1,Pc2,Pc3,Pc4,Pc5,Pc6,Pc7,Pc8,Pc9⟩:=row_cell10 (uZ HBP_55)
      have hQl:=(Array.getElem?_eq_some_iff.1 (uZ HBQ_55)).1
      have hkn:=hZ ((uZ HNa_55).app (uZ HMa_y) (uZ HNy_55) (by omega))
      obtain⟨w56,hwr⟩:=eX (w55.alloc (.cells #[.int .i64 (ka:Int),.string (bA ta),.int .i64 (vka:Int),.int .i64 (vna:Int),.string (bA vsa),.slice none 0 0,.slice none 0 0,.bool fa,.slice aka na cka,.int .i64 (pa:Int),.int .i64 (ky:Int),.string (bA ty),.int .i64 (vky:Int),.int .i64 (vny:Int),.string (bA vsy),.slice none 0 0,.slice none 0 0,.bool fy,.slice aky ny cky,.int .i64 (py:Int)] 28))
      have b:=alB hwr
      obtain⟨qr,hqr⟩:=eX (w55.heap.size)
      have hl2:(acc++nsy).length=2:=by rw [List.length_append,hla,hly]
      have HKr_56:Hid (Kr loa w56 (acc++nsy) (.slice (some ⟨qr,0,none⟩) 2 2) [.int .i64 (ka:Int),.string (bA ta),.int .i64 (vka:Int),.int .i64 (vna:Int),.string (bA vsa),.slice none 0 0,.slice none 0 0,.bool fa,.slice aka na cka,.int .i64 (pa:Int),.int .i64 (ky:Int),.string (bA ty),.int .i64 (vky:Int),.int .i64 (vny:Int),.string (bA vsy),.slice none 0 0,.slice none 0 0,.bool fy,.slice aky ny cky,.int .i64 (py:Int)] (Za++Zy)):=hZ (by have h9:=Kr.mk' (uZ hkn) (by rw [hl2];decide);rw [hl2,hqr] at h9;rw [←hwr];exact h9)
      have hQr:Q<qr:=by rw [←hqr];exact hQl
      have APr_Q:=hZ (And.intro (show Q∉Za++Zy from fun hm=>by rcases List.mem_append.1 hm with h|h;exact(uZ HZQ) h;have:=((uZ HNy_55).rg Q h).1;omega) (own_ne (n:=2) (m:=2) hQr))
      have S56:=hZ ((uZ S55).below b)
      have HBQ_56:=bx_be HBQ_55 b
      have HBT_56:=bx_be HBT_55 b
      have HBP_56:=bx_be HBP_55 b
      clear Tc1 Tc3 Qc0 Qc1 Qc2 Qc3 Qc4 Qc5 Qc6 Qc7 Qc8 Qc9 Pc0 Pc1 Pc2 Pc3 Pc4 Pc5 Pc6 Pc7 Pc8 Pc9
      obtain⟨-,Tc1,-,Tc3⟩:=row_cell4 (uZ HBT_56)
      obtain⟨Qc0,Qc1,Qc2,Qc3,Qc4,Qc5,Qc6,Qc7,Qc8,Qc9⟩:=row_cell10 (uZ HBQ_56)
      have Qf0:=frozen_of_row w56 Q 0 _ _ (uZ HBQ_56)
      have Qf1:=frozen_of_row w56 Q 1 _ _ (uZ HBQ_56)
      have Qf2:=frozen_of_row w56 Q 2 _ _ (uZ HBQ_56)
      have Qf3:=frozen_of_row w56 Q 3 _ _ (uZ HBQ_56)
      have Qf4:=frozen_of_row w56 Q 4 _ _ (uZ HBQ_56)
      have Qf5:=frozen_of_row w56 Q 5 _ _ (uZ HBQ_56)
      have Qf6:=frozen_of_row w56 Q 6 _ _ (uZ HBQ_56)
      have Qf7:=frozen_of_row w56 Q 7 _ _ (uZ HBQ_56)
      have Qf8:=frozen_of_row w56 Q 8 _ _ (uZ HBQ_56)
      have Qf9:=frozen_of_row w56 Q 9 _ _ (uZ HBQ_56)
      obtain⟨Pc0,Pc1,Pc2,Pc3,Pc4,Pc5,Pc6,Pc7,Pc8,Pc9⟩:=row_cell10 (uZ HBP_56)
      obtain⟨To0,To1,To2,To3⟩:=row_cell4 (uZ HBT_55)
      obtain⟨Qo0,Qo1,Qo2,Qo3,Qo4,Qo5,Qo6,Qo7,Qo8,Qo9⟩:=row_cell10 (uZ HBQ_55)
      obtain⟨Po0,Po1,Po2,Po3,Po4,Po5,Po6,Po7,Po8,Po9⟩:=row_cell10 (uZ HBP_55)
      clear b hkn S55 HBQ_55 HBT_55 HBP_55 HNa_55 HNy_55
      go_upto_region 8 with fail
      clear hwr hqr Tc1 Tc3 Qc0 Qf0 Qc1 Qf1 Qc2 Qf2 Qc3 Qf3 Qc4 Qf4 Qc5 Qf5 Qc6 Qf6 Qc7 Qf7 Qc8 Qf8 Qc9 Qf9 Pc0 Pc1 Pc2 Pc3 Pc4 Pc5 Pc6 Pc7 Pc8 Pc9 To0 To1 To2 To3 Qo0 Qo1 Qo2 Qo3 Qo4 Qo5 Qo6 Qo7 Qo8 Qo9 Po0 Po1 Po2 Po3 Po4 Po5 Po6 Po7 Po8 Po9
      have O:=(uZ S56).own10 ltQ (.int .i64 17) (.string (bA t)) (.int .i64 0) (.int .i64 0) (.string ⟨#[]⟩) (.slice none 0 0) (.slice none 0 0) (.bool false) (.slice (some ⟨qr,0,none⟩) 2 2) (.int .i64 (p:Int))
      have D:=set10 (uZ HBQ_56) (.int .i64 17) (.string (bA t)) (.int .i64 0) (.int .i64 0) (.string ⟨#[]⟩) (.slice none 0 0) (.slice none 0 0) (.bool false) (.slice (some ⟨qr,0,none⟩) 2 2) (.int .i64 (p:Int))
      obtain⟨w57,hw⟩:=eX (((((((((((w56.setCell ⟨Q,0,none⟩ (.int .i64 17)).setCell ⟨Q,1,none⟩ (.string (bA t))).setCell ⟨Q,2,none⟩ (.int .i64 0)).setCell ⟨Q,3,none⟩ (.int .i64 0)).setCell ⟨Q,4,none⟩ (.string ⟨#[]⟩)).setCell ⟨Q,5,none⟩ (.slice none 0 0)).setCell ⟨Q,6,none⟩ (.slice none 0 0)).setCell ⟨Q,7,none⟩ (.bool false)).setCell ⟨Q,8,none⟩ (.slice (some ⟨qr,0,none⟩) 2 2)).setCell ⟨Q,9,none⟩ (.int .i64 (p:Int))))
      rw [hw] at O D
      have S57:=hZ O.1
      have HBQ_57:=hZ D
      have HBT_57:Hid (w57.heap[T]?=some (.cells #[.int .i64 (k:Int),.string (bA t),.int .i64 (n:Int),.int .i64 (p:Int)] 85 (0,0))):=hZ ((O.2.1 T (by omega)).trans (uZ HBT_56))
      have HBP_57:Hid (w57.heap[P]?=some (.cells #[.int .i64 (ky:Int),.string (bA ty),.int .i64 (vky:Int),.int .i64 (vny:Int),.string (bA vsy),.slice none 0 0,.slice none 0 0,.bool fy,.slice aky ny cky,.int .i64 (py:Int)] 28 (0,0))):=hZ ((O.2.1 P (by omega)).trans (uZ HBP_56))
      have HKr_57:=hZ ((uZ HKr_56).but2 (q:=Q) (fun b _ hb=>O.2.1 b hb) (Nat.le_of_eq O.2.2.symm) (uZ APr_Q).1 (uZ APr_Q).2)
      rw [hw]
      clear hw O D S56 HBQ_56 HBT_56 HBP_56 HKr_56
      by_cases hx3:x=3
      ·have hxi:(x:Int)=3:=by omega
       have HJ65:=hZ ((by have:=(uZ HJ64);rw [if_pos hx3] at this;exact this))
       clear HJ64
       have hr1:=okN_some (uZ HJ65)
       have hnn:=(uZ HKr_57).node' hl2 17 t 0 0 [] false p
       have HR:=hZ (hr1)
       have BX:=(uZ S57).bx
       rw [hG] at BX
       obtain⟨g0,g1,g2,g3,g4,g5,g6,g7,g8,g9⟩:=row_cell10 BX
       obtain⟨z0,z1,z2,z3,z4,z5,z6,z7,z8,z9⟩:=frozen10 BX
       clear BX
       obtain⟨Qc0,Qc1,Qc2,Qc3,Qc4,Qc5,Qc6,Qc7,Qc8,Qc9⟩:=row_cell10 (uZ HBQ_57)
       have FF:=hZ (St.done (uZ S57) (hnn.low (by omega)) rfl hG)
       go_wp2_with fail
       refine rtN (p:=4) rfl rfl (uZ FF).1 rfl rfl ?_
       rw [uZ HR]
       exact(uZ FF).2
      ·have hxi:¬(x:Int)=3:=by omega
       have hxj:((x:Int) == 3)=false:=by simpa using hxi
       have HJ65:=hZ ((by have:=(uZ HJ64);rw [if_neg hx3] at this;exact this))
       clear HJ64
       go_wp2_with fail
       go_roundg g1
       case measure=>omega
       case rel=>exact⟨[nd0 17 t (acc++nsy) p],ly,17,t,0,0,[],false,2,some ⟨qr,0,none⟩,2,p,_,hZ ⟨by omega,(uZ HJ65),rfl⟩,hZ ⟨uZ S57,uZ HBQ_57,(uZ HKr_57).node' hl2 17 t 0 0 [] false p,fun hm=>by rcases List.mem_append.1 hm with h|h;exact absurd (List.mem_singleton.1 h) (show ¬Q=qr by omega);exact(uZ APr_Q).1 h⟩⟩
    ·have h1:¬(ra:Int)=(x:Int):=by omega
     have h2:((ra:Int) == (x:Int))=false:=by simpa using h1
     have HJ62:=hZ ((by have:=(uZ HJ61);rw [if_neg hrx] at this;exact this))
     clear HJ61
     have hr1:=okN_some (uZ HJ62)
     have HR:=hZ (hr1)
     have BX:=(uZ S51).bx
     rw [hG] at BX
     obtain⟨g0,g1,g2,g3,g4,g5,g6,g7,g8,g9⟩:=row_cell10 BX
     obtain⟨z0,z1,z2,z3,z4,z5,z6,z7,z8,z9⟩:=frozen10 BX
     clear BX
     obtain⟨Qc0,Qc1,Qc2,Qc3,Qc4,Qc5,Qc6,Qc7,Qc8,Qc9⟩:=row_cell10 (uZ HBQ_51)
     have FF:=hZ (St.done (uZ S51) ((uZ HNa_51).low (by omega)) hla hG)
     go_wp2_with fail
     refine rtN (p:=4) rfl rfl (uZ FF).1 rfl rfl ?_
     rw [uZ HR]
     exact(uZ FF).2
end Go.Proofs.YtjdpaihhhjdgmaaGreatDoor
