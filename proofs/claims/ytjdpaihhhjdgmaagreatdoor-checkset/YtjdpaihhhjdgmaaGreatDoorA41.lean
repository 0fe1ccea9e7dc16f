/-
  Layer 17 (parse): parts with commas between; conditions: the reader's state.
-/
import Derived.Test.YtjdpaihhhjdgmaaGreatDoorA39
import Derived.Deep.LoopGhost
set_option linter.unusedVariables false
set_option linter.unusedSimpArgs false
set_option maxRecDepth 100000
set_option maxHeartbeats 8000000
namespace Go.Proofs.YtjdpaihhhjdgmaaGreatDoor
open Go.RowKit
set_option linter.unusedVariables false
set_option linter.unusedSimpArgs false
theorem parts_p0 {c:Cx} {l:List Tk} {d:Nat} {w w1:World} {r:Rs (List Nd)} {f x:Nat} (cl:List UInt8) (hcl:clX x=cl) (ihp:∀{f1:Nat},f1≤f→∀{c:Cx} {l:List Tk} {d:Nat} {w:World} {r:Rs (List Nd)},jPart (PJ f1) x l d=some r→Rd w c l d→Calls Tryz.prog 79 #[.pointer (some ⟨c.g,0,none⟩)] w fun e w'=>NdP c w d r e w') (hJ:PJ (f+1) 6 x [] l d=some r) (hws:w=w1) (h:Rd w1 c l d) :
  Calls Tryz.prog 78 #[.pointer (some ⟨c.g,0,none⟩),.string (bA cl),.func (Fn.func 79) #[.pointer (some ⟨c.g,0,none⟩)] #[]] w1 fun e w'=>KsP c w d r e w':=by
 have S1:=hZ (St0.start hws h)
 have hgw:c.g<w.heap.size:=by rw [hws];exact h.cells.2.2.2.2.2
 have hnl:l.length≤10000:=by have h1:=h.head;have h2:=h.len;omega
 clear h hws
 go_enter Tryz.func78,Tryz.ntmps78
 have HJ0:=hZ (show jParts (PJ f) x l d=some r from hJ)
 clear hJ
 have HJ1:=hZ ((by have:=uZ HJ0;unfold jParts at this;exact this))
 clear HJ0
 have HJ2:=hZ ((by have:=(uZ HJ1);rw [hcl] at this;exact this))
 clear HJ1
 by_cases hb:isS cl l=true
 ·have hq:isS cl l=true:=by simpa using hb
  have CC:=hZ ((by have:=seesSign_any (uZ S1).rd cl;rw [hq] at this;exact this))
  go_wp2_with fail
  refine(uZ CC).mono ?_
  rintro e w2 ⟨rfl,b⟩
  have S2:=hZ ((uZ S1).below b)
  clear b CC S1
  have HJ3:=hZ ((by have:=(uZ HJ2);rw [if_pos hq] at this;exact this))
  clear HJ2
  have HR:=hZ (okN_some (uZ HJ3))
  go_wp2_with fail
  go_ret
  rw [uZ HR]
  exact⟨none,0,[],[],rfl,Kr.nil (uZ S2).lt,(uZ S2).rd,(uZ S2).bs⟩
 ·have hq:isS cl l=false:=by simpa using hb
  have CC:=hZ ((by have:=seesSign_any (uZ S1).rd cl;rw [hq] at this;exact this))
  go_wp2_with fail
  refine(uZ CC).mono ?_
  rintro e w2 ⟨rfl,b⟩
  have S2:=hZ ((uZ S1).below b)
  clear b CC S1
  have HJ3:=hZ ((by have:=(uZ HJ2);rw [if_neg (by rw [hq];decide)] at this;exact this))
  clear HJ2
  obtain⟨yx,hy,hth⟩:=bnd_some (uZ HJ3)
  have HJ4:=hZ (hth)
  clear HJ3
  clear hth
  have CR:=hZ (ihp (Nat.le_refl f) hy (uZ S2).rd)
  have HYX:=hZ hy
  clear hy
  rcases yx with ⟨ea,ep⟩|⟨nsx,lx⟩
  ·have HR:=hZ (thn_err (uZ HJ4))
   go_wp2_with fail
   refine(uZ CR).mono ?_
   rintro e wx ⟨rfl,b⟩
   have HX:=hZ ((uZ S2).bad b)
   clear b CR
   unfold fltP
   go_wp2_with fail
   exact⟨rfl,by rw [uZ HR];exact⟨rfl,uZ HX⟩⟩
  ·have HJ5:=hZ (thn_ok (uZ HJ4))
   clear HJ4
   go_wp2_with fail
   refine(uZ CR).mono ?_
   rintro e w3 ⟨kx,tx,vkx,vnx,vsx,fx,nx,akx,ckx,px,Zx,rfl,hlx,hn,r2,b⟩
   have S3:=hZ ((uZ S2).go b r2)
   obtain⟨lox,hlo⟩:=eX (w2.heap.size)
   have ltlox:w.heap.size≤lox:=by rw [←hlo];exact(uZ S2).lt
   rw [hlo] at hn
   have HNx_3:=hZ hn
   clear hlo b r2 hn CR S2
   have hbna:1+lx.length≤10000:=by have h1:=part_len (PJ_len f) (uZ HYX);have h2:=hnl;omega
   have hkn:=hZ (uZ HNx_3)
   obtain⟨w4,hwr⟩:=eX (w3.alloc (.cells #[.int .i64 (kx:Int),.string (bA tx),.int .i64 (vkx:Int),.int .i64 (vnx:Int),.string (bA vsx),.slice none 0 0,.slice none 0 0,.bool fx,.slice akx nx ckx,.int .i64 (px:Int)] 28))
   have b:=alB hwr
   obtain⟨qr,hqr⟩:=eX (w3.heap.size)
   have HKr_4:Hid (Kr lox w4 _ (.slice (some ⟨qr,0,none⟩) _ _) [.int .i64 (kx:Int),.string (bA tx),.int .i64 (vkx:Int),.int .i64 (vnx:Int),.string (bA vsx),.slice none 0 0,.slice none 0 0,.bool fx,.slice akx nx ckx,.int .i64 (px:Int)] _):=hZ (by rw [←hwr,←hqr];exact Kr.mk' (uZ hkn) (by rw [hlx];decide))
   rw [hlx] at HKr_4
   have ltr:w.heap.size≤qr:=by rw [←hqr];exact(uZ S3).lt
   have S4:=hZ ((uZ S3).below b)
   clear b hkn S3 HNx_3
   go_wp2_with fail
   clear hwr hqr
   go_loopg [7] f (fun gk v7 wr=>∃(acc:List Nd) (la:List Tk) (na:Nat) (ak:Option Addr) (ck:Nat) (C:List Value) (Sa:List Nat),v7=.slice ak na ck∧Hid (gk≤f∧PJ gk 7 x acc la d=some r∧acc.length=na∧na+la.length≤10000)∧Hid (St0 w c wr la d∧Kr w.heap.size wr acc (.slice ak na ck) C Sa))
   case atStart=>exact⟨nsx,lx,1,some ⟨qr,0,none⟩,1,_,_,rfl,hZ ⟨Nat.le_refl _,(uZ HJ5),hlx,hbna⟩,hZ ⟨uZ S4,(uZ HKr_4).low ltlox⟩⟩
   case round=>
    clear HJ5 HKr_4 S4
    obtain⟨acc,la,na,ak,ck,Ca,Sa,rfl,HA,HI⟩:=hrel
    obtain⟨w50,hw50⟩:∃zz,zz=wr:=⟨_,rfl⟩
    subst hw50
    have S50:=hZ (uZ HI).1
    have HKa_50:=hZ (uZ HI).2
    obtain⟨g1,hg1⟩:=PJ_fuel (uZ HA).2.1
    subst hg1
    have HJ60:=hZ (show jPaL (PJ g1) x acc la d=some r from (uZ HA).2.1)
    have hlna:=(uZ HA).2.2.1
    have hbnb:=(uZ HA).2.2.2
    have hgf:=(uZ HA).1
    clear HI HA
    have HJ61:=hZ ((by have:=uZ HJ60;unfold jPaL at this;exact this))
    clear HJ60
    by_cases hb:isS [44] la=true
    ·have hq:isS [44] la=true:=by simpa using hb
     have CC:=hZ ((by have:=seesSign_any (uZ S50).rd [44];rw [hq] at this;exact this))
     go_wp2_with fail
     refine(uZ CC).mono ?_
     rintro e w51 ⟨rfl,b⟩
     have S51:=hZ ((uZ S50).below b)
     have HKa_51:=hZ ((uZ HKa_50).beside (Beside.of_below (gr:=c.g) b) (by omega))
     clear b CC S50 HKa_50
     have HJ62:=hZ ((by have:=(uZ HJ61);rw [if_pos hq] at this;exact this))
     clear HJ61
     have hkk:=isS_k hq
     have CC:=hZ (pass_any (uZ S51).rd hkk)
     go_wp2_with fail
     refine(uZ CC).mono ?_
     rintro e w52 ⟨rfl,r2,b⟩
     have S52:=hZ ((uZ S51).go b r2)
     have HKa_52:=hZ ((uZ HKa_51).beside b (by omega))
     clear b r2 CC S51 HKa_51
     obtain⟨yy,hy,hth⟩:=bnd_some (uZ HJ62)
     have HJ63:=hZ (hth)
     clear HJ62
     clear hth
     have CR:=hZ (ihp (f1:=g1) (by omega) hy (uZ S52).rd)
     have HYX:=hZ hy
     clear hy
     rcases yy with ⟨ea,ep⟩|⟨nsy,ly⟩
     ·have HR:=hZ (thn_err (uZ HJ63))
      go_wp2_with fail
      refine(uZ CR).mono ?_
      rintro e wx ⟨rfl,b⟩
      have HX:=hZ ((uZ S52).bad b)
      clear b CR
      unfold fltP
      go_wp2_with fail
      exact⟨rfl,by rw [uZ HR];exact⟨rfl,uZ HX⟩⟩
     ·have HJ64:=hZ (thn_ok (uZ HJ63))
      clear HJ63
      go_wp2_with fail
      refine(uZ CR).mono ?_
      rintro e w53 ⟨ky,ty,vky,vny,vsy,fy,ny,aky,cky,py,Zy,rfl,hly,hn,r2,b⟩
      have S53:=hZ ((uZ S52).go b r2)
      have HKa_53:=hZ ((uZ HKa_52).beside b (by omega))
      obtain⟨loy,hlo⟩:=eX (w52.heap.size)
      have ltloy:w.heap.size≤loy:=by rw [←hlo];exact(uZ S52).lt
      have HWa_y:=hZ ((uZ HKa_52).vlt hlo)
      have lea_y:=(uZ HKa_52).ok.le
      rw [hlo] at lea_y
      rw [hlo] at hn
      have HNy_53:=hZ hn
      clear hlo b r2 hn CR S52 HKa_52
      have hpl:=part_len (PJ_len g1) (uZ HYX)
      have htl:=tail_le la
      obtain⟨w54,hwr⟩:=eX (w53.alloc (.cells #[.int .i64 (ky:Int),.string (bA ty),.int .i64 (vky:Int),.int .i64 (vny:Int),.string (bA vsy),.slice none 0 0,.slice none 0 0,.bool fy,.slice aky ny cky,.int .i64 (py:Int)] 28))
      have b:=alB hwr
      obtain⟨hx,hhx⟩:=eX (w53.heap.size)
      have at4:Hid (w54.heap[hx]?=some (.cells #[.int .i64 (ky:Int),.string (bA ty),.int .i64 (vky:Int),.int .i64 (vny:Int),.string (bA vsy),.slice none 0 0,.slice none 0 0,.bool fy,.slice aky ny cky,.int .i64 (py:Int)] 28 (0,0))):=hZ (by rw [←hwr,←hhx];exact heap_alloc_new _ _)
      have S54:=hZ ((uZ S53).below b)
      have HKa_54:=hZ ((uZ HKa_53).beside (Beside.of_below (gr:=c.g) b) (by omega))
      have HNy_54:=hZ ((uZ HNy_53).beside (Beside.of_below (gr:=c.g) b) (by omega))
      clear b S53 HKa_53 HNy_53
      have hkl:=(uZ HKa_54).own
      rw [hlna] at hkl
      have HKL:=hZ hkl
      clear hkl
      have tokA:True:=trivial
      go_wp2_with (first|(at_builtin;have _t:=tokA;refine wpl_appN rfl (.tmp 18) (.tmp 21) rfl w.heap.size (.slice ak na ck) na _ rfl (uZ HKL) hx #[.int .i64 (ky:Int),.string (bA ty),.int .i64 (vky:Int),.int .i64 (vny:Int),.string (bA vsy),.slice none 0 0,.slice none 0 0,.bool fy,.slice aky ny cky,.int .i64 (py:Int)] rfl (uZ at4) rfl (ndC_one _ _ _ _ _ _ _ _ _ _) (by omega) (uZ HKa_54).ok.le ?_;clear tokA;intro g5 cap5 w55 H5))
      have bb:Below w.heap.size w54 w55:=(Below.refl _ _).grown (uZ H5).2.1 (uZ HKa_54).ok.le (fun z hz=>((uZ HKa_54).own.lt z hz).1)
      have S55:=hZ ((uZ S54).below2 bb (Nat.le_refl _))
      have HKn_55:=hZ (Kr.push (uZ HKa_54) (uZ HNy_54) (by omega) (uZ HWa_y).2 (uZ HWa_y).1 (uZ H5).1 (by rw [List.length_append,hly,hlna]) (uZ H5).2.1 (uZ H5).2.2)
      clear bb H5 HKL at4 hwr hhx
      go_roundg g1
      case measure=>omega
      case rel=>exact⟨acc++nsy,ly,na+1,some ⟨g5,0,none⟩,cap5,_,_,rfl,hZ ⟨by omega,(uZ HJ64),by rw [List.length_append,hly,hlna],by omega⟩,hZ ⟨uZ S55,uZ HKn_55⟩⟩
    ·have hq:isS [44] la=false:=by simpa using hb
     have CC:=hZ ((by have:=seesSign_any (uZ S50).rd [44];rw [hq] at this;exact this))
     go_wp2_with fail
     refine(uZ CC).mono ?_
     rintro e w51 ⟨rfl,b⟩
     have S51:=hZ ((uZ S50).below b)
     have HKa_51:=hZ ((uZ HKa_50).beside (Beside.of_below (gr:=c.g) b) (by omega))
     clear b CC S50 HKa_50
     have HJ62:=hZ ((by have:=(uZ HJ61);rw [if_neg (by rw [hq];decide)] at this;exact this))
     clear HJ61
     have HR:=hZ (okN_some (uZ HJ62))
     go_wp2_with fail
     go_ret
     rw [uZ HR]
     exact⟨ak,ck,_,_,by rw [hlna];rfl,by rw [hlna];exact uZ HKa_51,(uZ S51).rd,(uZ S51).bs⟩
theorem parts_e0 {c:Cx} {l:List Tk} {d:Nat} {w w1:World} {r:Rs (List Nd)} {f x:Nat} (cl:List UInt8) (hcl:clX x=cl) (ihp:∀{f1:Nat},f1≤f→∀{c:Cx} {l:List Tk} {d:Nat} {w:World} {r:Rs (List Nd)},jPart (PJ f1) x l d=some r→Rd w c l d→Calls Tryz.prog 161 #[.pointer (some ⟨c.g,0,none⟩)] w fun e w'=>NdP c w d r e w') (hJ:PJ (f+1) 6 x [] l d=some r) (hws:w=w1) (h:Rd w1 c l d) :
  Calls Tryz.prog 78 #[.pointer (some ⟨c.g,0,none⟩),.string (bA cl),.func (Fn.func 161) #[.pointer (some ⟨c.g,0,none⟩)] #[]] w1 fun e w'=>KsP c w d r e w':=by
 have S1:=hZ (St0.start hws h)
 have hgw:c.g<w.heap.size:=by rw [hws];exact h.cells.2.2.2.2.2
 have hnl:l.length≤10000:=by have h1:=h.head;have h2:=h.len;omega
 clear h hws
 go_enter Tryz.func78,Tryz.ntmps78
 have HJ0:=hZ (show jParts (PJ f) x l d=some r from hJ)
 clear hJ
 have HJ1:=hZ ((by have:=uZ HJ0;unfold jParts at this;exact this))
 clear HJ0
 have HJ2:=hZ ((by have:=(uZ HJ1);rw [hcl] at this;exact this))
 clear HJ1
 by_cases hb:isS cl l=true
 ·have hq:isS cl l=true:=by simpa using hb
  have CC:=hZ ((by have:=seesSign_any (uZ S1).rd cl;rw [hq] at this;exact this))
  go_wp2_with fail
  refine(uZ CC).mono ?_
  rintro e w2 ⟨rfl,b⟩
  have S2:=hZ ((uZ S1).below b)
  clear b CC S1
  have HJ3:=hZ ((by have:=(uZ HJ2);rw [if_pos hq] at this;exact this))
  clear HJ2
  have HR:=hZ (okN_some (uZ HJ3))
  go_wp2_with fail
  go_ret
  rw [uZ HR]
  exact⟨none,0,[],[],rfl,Kr.nil (uZ S2).lt,(uZ S2).rd,(uZ S2).bs⟩
 ·have hq:isS cl l=false:=by simpa using hb
  have CC:=hZ ((by have:=seesSign_any (uZ S1).rd cl;rw [hq] at this;exact this))
  go_wp2_with fail
  refine(uZ CC).mono ?_
  rintro e w2 ⟨rfl,b⟩
  have S2:=hZ ((uZ S1).below b)
  clear b CC S1
  have HJ3:=hZ ((by have:=(uZ HJ2);rw [if_neg (by rw [hq];decide)] at this;exact this))
  clear HJ2
  obtain⟨yx,hy,hth⟩:=bnd_some (uZ HJ3)
  have HJ4:=hZ (hth)
  clear HJ3
  clear hth
  have CR:=hZ (ihp (Nat.le_refl f) hy (uZ S2).rd)
  have HYX:=hZ hy
  clear hy
  rcases yx with ⟨ea,ep⟩|⟨nsx,lx⟩
  ·have HR:=hZ (thn_err (uZ HJ4))
   go_wp2_with fail
   refine(uZ CR).mono ?_
   rintro e wx ⟨rfl,b⟩
   have HX:=hZ ((uZ S2).bad b)
   clear b CR
   unfold fltP
   go_wp2_with fail
   exact⟨rfl,by rw [uZ HR];exact⟨rfl,uZ HX⟩⟩
  ·have HJ5:=hZ (thn_ok (uZ HJ4))
   clear HJ4
   go_wp2_with fail
   refine(uZ CR).mono ?_
   rintro e w3 ⟨kx,tx,vkx,vnx,vsx,fx,nx,akx,ckx,px,Zx,rfl,hlx,hn,r2,b⟩
   have S3:=hZ ((uZ S2).go b r2)
   obtain⟨lox,hlo⟩:=eX (w2.heap.size)
   have ltlox:w.heap.size≤lox:=by rw [←hlo];exact(uZ S2).lt
   rw [hlo] at hn
   have HNx_3:=hZ hn
   clear hlo b r2 hn CR S2
   have hbna:1+lx.length≤10000:=by have h1:=part_len (PJ_len f) (uZ HYX);have h2:=hnl;omega
   have hkn:=hZ (uZ HNx_3)
   obtain⟨w4,hwr⟩:=eX (w3.alloc (.cells #[.int .i64 (kx:Int),.string (bA tx),.int .i64 (vkx:Int),.int .i64 (vnx:Int),.string (bA vsx),.slice none 0 0,.slice none 0 0,.bool fx,.slice akx nx ckx,.int .i64 (px:Int)] 28))
   have b:=alB hwr
   obtain⟨qr,hqr⟩:=eX (w3.heap.size)
   have HKr_4:Hid (Kr lox w4 _ (.slice (some ⟨qr,0,none⟩) _ _) [.int .i64 (kx:Int),.string (bA tx),.int .i64 (vkx:Int),.int .i64 (vnx:Int),.string (bA vsx),.slice none 0 0,.slice none 0 0,.bool fx,.slice akx nx ckx,.int .i64 (px:Int)] _):=hZ (by rw [←hwr,←hqr];exact Kr.mk' (uZ hkn) (by rw [hlx];decide))
   rw [hlx] at HKr_4
   have ltr:w.heap.size≤qr:=by rw [←hqr];exact(uZ S3).lt
   have S4:=hZ ((uZ S3).below b)
   clear b hkn S3 HNx_3
   go_wp2_with fail
   clear hwr hqr
   go_loopg [7] f (fun gk v7 wr=>∃(acc:List Nd) (la:List Tk) (na:Nat) (ak:Option Addr) (ck:Nat) (C:List Value) (Sa:List Nat),v7=.slice ak na ck∧Hid (gk≤f∧PJ gk 7 x acc la d=some r∧acc.length=na∧na+la.length≤10000)∧Hid (St0 w c wr la d∧Kr w.heap.size wr acc (.slice ak na ck) C Sa))
   case atStart=>exact⟨nsx,lx,1,some ⟨qr,0,none⟩,1,_,_,rfl,hZ ⟨Nat.le_refl _,(uZ HJ5),hlx,hbna⟩,hZ ⟨uZ S4,(uZ HKr_4).low ltlox⟩⟩
   case round=>
    clear HJ5 HKr_4 S4
    obtain⟨acc,la,na,ak,ck,Ca,Sa,rfl,HA,HI⟩:=hrel
    obtain⟨w50,hw50⟩:∃zz,zz=wr:=⟨_,rfl⟩
    subst hw50
    have S50:=hZ (uZ HI).1
    have HKa_50:=hZ (uZ HI).2
    obtain⟨g1,hg1⟩:=PJ_fuel (uZ HA).2.1
    subst hg1
    have HJ60:=hZ (show jPaL (PJ g1) x acc la d=some r from (uZ HA).2.1)
    have hlna:=(uZ HA).2.2.1
    have hbnb:=(uZ HA).2.2.2
    have hgf:=(uZ HA).1
    clear HI HA
    have HJ61:=hZ ((by have:=uZ HJ60;unfold jPaL at this;exact this))
    clear HJ60
    by_cases hb:isS [44] la=true
    ·have hq:isS [44] la=true:=by simpa using hb
     have CC:=hZ ((by have:=seesSign_any (uZ S50).rd [44];rw [hq] at this;exact this))
     go_wp2_with fail
     refine(uZ CC).mono ?_
     rintro e w51 ⟨rfl,b⟩
     have S51:=hZ ((uZ S50).below b)
     have HKa_51:=hZ ((uZ HKa_50).beside (Beside.of_below (gr:=c.g) b) (by omega))
     clear b CC S50 HKa_50
     have HJ62:=hZ ((by have:=(uZ HJ61);rw [if_pos hq] at this;exact this))
     clear HJ61
     have hkk:=isS_k hq
     have CC:=hZ (pass_any (uZ S51).rd hkk)
     go_wp2_with fail
     refine(uZ CC).mono ?_
     rintro e w52 ⟨rfl,r2,b⟩
     have S52:=hZ ((uZ S51).go b r2)
     have HKa_52:=hZ ((uZ HKa_51).beside b (by omega))
     clear b r2 CC S51 HKa_51
     obtain⟨yy,hy,hth⟩:=bnd_some (uZ HJ62)
     have HJ63:=hZ (hth)
     clear HJ62
     clear hth
     have CR:=hZ (ihp (f1:=g1) (by omega) hy (uZ S52).rd)
     have HYX:=hZ hy
     clear hy
     rcases yy with ⟨ea,ep⟩|⟨nsy,ly⟩
     ·have HR:=hZ (thn_err (uZ HJ63))
      go_wp2_with fail
      refine(uZ CR).mono ?_
      rintro e wx ⟨rfl,b⟩
      have HX:=hZ ((uZ S52).bad b)
      clear b CR
      unfold fltP
      go_wp2_with fail
      exact⟨rfl,by rw [uZ HR];exact⟨rfl,uZ HX⟩⟩
     ·have HJ64:=hZ (thn_ok (uZ HJ63))
      clear HJ63
      go_wp2_with fail
      refine(uZ CR).mono ?_
      rintro e w53 ⟨ky,ty,vky,vny,vsy,fy,ny,aky,cky,py,Zy,rfl,hly,hn,r2,b⟩
      have S53:=hZ ((uZ S52).go b r2)
      have HKa_53:=hZ ((uZ HKa_52).beside b (by omega))
      obtain⟨loy,hlo⟩:=eX (w52.heap.size)
      have ltloy:w.heap.size≤loy:=by rw [←hlo];exact(uZ S52).lt
      have HWa_y:=hZ ((uZ HKa_52).vlt hlo)
      have lea_y:=(uZ HKa_52).ok.le
      rw [hlo] at lea_y
      rw [hlo] at hn
      have HNy_53:=hZ hn
      clear hlo b r2 hn CR S52 HKa_52
      have hpl:=part_len (PJ_len g1) (uZ HYX)
      have htl:=tail_le la
      obtain⟨w54,hwr⟩:=eX (w53.alloc (.cells #[.int .i64 (ky:Int),.string (bA ty),.int .i64 (vky:Int),.int .i64 (vny:Int),.string (bA vsy),.slice none 0 0,.slice none 0 0,.bool fy,.slice aky ny cky,.int .i64 (py:Int)] 28))
      have b:=alB hwr
      obtain⟨hx,hhx⟩:=eX (w53.heap.size)
      have at4:Hid (w54.heap[hx]?=some (.cells #[.int .i64 (ky:Int),.string (bA ty),.int .i64 (vky:Int),.int .i64 (vny:Int),.string (bA vsy),.slice none 0 0,.slice none 0 0,.bool fy,.slice aky ny cky,.int .i64 (py:Int)] 28 (0,0))):=hZ (by rw [←hwr,←hhx];exact heap_alloc_new _ _)
      have S54:=hZ ((uZ S53).below b)
      have HKa_54:=hZ ((uZ HKa_53).beside (Beside.of_below (gr:=c.g) b) (by omega))
      have HNy_54:=hZ ((uZ HNy_53).beside (Beside.of_below (gr:=c.g) b) (by omega))
      clear b S53 HKa_53 HNy_53
      have hkl:=(uZ HKa_54).own
      rw [hlna] at hkl
      have HKL:=hZ hkl
      clear hkl
      have tokA:True:=trivial
      go_wp2_with (first|(at_builtin;have _t:=tokA;refine wpl_appN rfl (.tmp 18) (.tmp 21) rfl w.heap.size (.slice ak na ck) na _ rfl (uZ HKL) hx #[.int .i64 (ky:Int),.string (bA ty),.int .i64 (vky:Int),.int .i64 (vny:Int),.string (bA vsy),.slice none 0 0,.slice none 0 0,.bool fy,.slice aky ny cky,.int .i64 (py:Int)] rfl (uZ at4) rfl (ndC_one _ _ _ _ _ _ _ _ _ _) (by omega) (uZ HKa_54).ok.le ?_;clear tokA;intro g5 cap5 w55 H5))
      have bb:Below w.heap.size w54 w55:=(Below.refl _ _).grown (uZ H5).2.1 (uZ HKa_54).ok.le (fun z hz=>((uZ HKa_54).own.lt z hz).1)
      have S55:=hZ ((uZ S54).below2 bb (Nat.le_refl _))
      have HKn_55:=hZ (Kr.push (uZ HKa_54) (uZ HNy_54) (by omega) (uZ HWa_y).2 (uZ HWa_y).1 (uZ H5).1 (by rw [List.length_append,hly,hlna]) (uZ H5).2.1 (uZ H5).2.2)
      clear bb H5 HKL at4 hwr hhx
      go_roundg g1
      case measure=>omega
      case rel=>exact⟨acc++nsy,ly,na+1,some ⟨g5,0,none⟩,cap5,_,_,rfl,hZ ⟨by omega,(uZ HJ64),by rw [List.length_append,hly,hlna],by omega⟩,hZ ⟨uZ S55,uZ HKn_55⟩⟩
    ·have hq:isS [44] la=false:=by simpa using hb
     have CC:=hZ ((by have:=seesSign_any (uZ S50).rd [44];rw [hq] at this;exact this))
     go_wp2_with fail
     refine(uZ CC).mono ?_
     rintro e w51 ⟨rfl,b⟩
     have S51:=hZ ((uZ S50).below b)
     have HKa_51:=hZ ((uZ HKa_50).beside (Beside.of_below (gr:=c.g) b) (by omega))
     clear b CC S50 HKa_50
     have HJ62:=hZ ((by have:=(uZ HJ61);rw [if_neg (by rw [hq];decide)] at this;exact this))
     clear HJ61
     have HR:=hZ (okN_some (uZ HJ62))
     go_wp2_with fail
     go_ret
     rw [uZ HR]
     exact⟨ak,ck,_,_,by rw [hlna];rfl,by rw [hlna];exact uZ HKa_51,(uZ S51).rd,(uZ S51).bs⟩
theorem parts_r0 {c:Cx} {l:List Tk} {d:Nat} {w w1:World} {r:Rs (List Nd)} {f x:Nat} (cl:List UInt8) (hcl:clX x=cl) (ihp:∀{f1:Nat},f1≤f→∀{c:Cx} {l:List Tk} {d:Nat} {w:World} {r:Rs (List Nd)},jPart (PJ f1) x l d=some r→Rd w c l d→Calls Tryz.prog 199 #[.pointer (some ⟨c.g,0,none⟩)] w fun e w'=>NdP c w d r e w') (hJ:PJ (f+1) 6 x [] l d=some r) (hws:w=w1) (h:Rd w1 c l d) :
  Calls Tryz.prog 78 #[.pointer (some ⟨c.g,0,none⟩),.string (bA cl),.func (Fn.func 199) #[.pointer (some ⟨c.g,0,none⟩)] #[]] w1 fun e w'=>KsP c w d r e w':=by
 have S1:=hZ (St0.start hws h)
 have hgw:c.g<w.heap.size:=by rw [hws];exact h.cells.2.2.2.2.2
 have hnl:l.length≤10000:=by have h1:=h.head;have h2:=h.len;omega
 clear h hws
 go_enter Tryz.func78,Tryz.ntmps78
 have HJ0:=hZ (show jParts (PJ f) x l d=some r from hJ)
 clear hJ
 have HJ1:=hZ ((by have:=uZ HJ0;unfold jParts at this;exact this))
 clear HJ0
 have HJ2:=hZ ((by have:=(uZ HJ1);rw [hcl] at this;exact this))
 clear HJ1
 by_cases hb:isS cl l=true
 ·have hq:isS cl l=true:=by simpa using hb
  have CC:=hZ ((by have:=seesSign_any (uZ S1).rd cl;rw [hq] at this;exact this))
  go_wp2_with fail
  refine(uZ CC).mono ?_
  rintro e w2 ⟨rfl,b⟩
  have S2:=hZ ((uZ S1).below b)
  clear b CC S1
  have HJ3:=hZ ((by have:=(uZ HJ2);rw [if_pos hq] at this;exact this))
  clear HJ2
  have HR:=hZ (okN_some (uZ HJ3))
  go_wp2_with fail
  go_ret
  rw [uZ HR]
  exact⟨none,0,[],[],rfl,Kr.nil (uZ S2).lt,(uZ S2).rd,(uZ S2).bs⟩
 ·have hq:isS cl l=false:=by simpa using hb
  have CC:=hZ ((by have:=seesSign_any (uZ S1).rd cl;rw [hq] at this;exact this))
  go_wp2_with fail
  refine(uZ CC).mono ?_
  rintro e w2 ⟨rfl,b⟩
  have S2:=hZ ((uZ S1).below b)
  clear b CC S1
  have HJ3:=hZ ((by have:=(uZ HJ2);rw [if_neg (by rw [hq];decide)] at this;exact this))
  clear HJ2
  obtain⟨yx,hy,hth⟩:=bnd_some (uZ HJ3)
  have HJ4:=hZ (hth)
  clear HJ3
  clear hth
  have CR:=hZ (ihp (Nat.le_refl f) hy (uZ S2).rd)
  have HYX:=hZ hy
  clear hy
  rcases yx with ⟨ea,ep⟩|⟨nsx,lx⟩
  ·have HR:=hZ (thn_err (uZ HJ4))
   go_wp2_with fail
   refine(uZ CR).mono ?_
   rintro e wx ⟨rfl,b⟩
   have HX:=hZ ((uZ S2).bad b)
   clear b CR
   unfold fltP
   go_wp2_with fail
   exact⟨rfl,by rw [uZ HR];exact⟨rfl,uZ HX⟩⟩
  ·have HJ5:=hZ (thn_ok (uZ HJ4))
   clear HJ4
   go_wp2_with fail
   refine(uZ CR).mono ?_
   rintro e w3 ⟨kx,tx,vkx,vnx,vsx,fx,nx,akx,ckx,px,Zx,rfl,hlx,hn,r2,b⟩
   have S3:=hZ ((uZ S2).go b r2)
   obtain⟨lox,hlo⟩:=eX (w2.heap.size)
   have ltlox:w.heap.size≤lox:=by rw [←hlo];exact(uZ S2).lt
   rw [hlo] at hn
   have HNx_3:=hZ hn
   clear hlo b r2 hn CR S2
   have hbna:1+lx.length≤10000:=by have h1:=part_len (PJ_len f) (uZ HYX);have h2:=hnl;omega
   have hkn:=hZ (uZ HNx_3)
   obtain⟨w4,hwr⟩:=eX (w3.alloc (.cells #[.int .i64 (kx:Int),.string (bA tx),.int .i64 (vkx:Int),.int .i64 (vnx:Int),.string (bA vsx),.slice none 0 0,.slice none 0 0,.bool fx,.slice akx nx ckx,.int .i64 (px:Int)] 28))
   have b:=alB hwr
   obtain⟨qr,hqr⟩:=eX (w3.heap.size)
   have HKr_4:Hid (Kr lox w4 _ (.slice (some ⟨qr,0,none⟩) _ _) [.int .i64 (kx:Int),.string (bA tx),.int .i64 (vkx:Int),.int .i64 (vnx:Int),.string (bA vsx),.slice none 0 0,.slice none 0 0,.bool fx,.slice akx nx ckx,.int .i64 (px:Int)] _):=hZ (by rw [←hwr,←hqr];exact Kr.mk' (uZ hkn) (by rw [hlx];decide))
   rw [hlx] at HKr_4
   have ltr:w.heap.size≤qr:=by rw [←hqr];exact(uZ S3).lt
   have S4:=hZ ((uZ S3).below b)
   clear b hkn S3 HNx_3
   go_wp2_with fail
   clear hwr hqr
   go_loopg [7] f (fun gk v7 wr=>∃(acc:List Nd) (la:List Tk) (na:Nat) (ak:Option Addr) (ck:Nat) (C:List Value) (Sa:List Nat),v7=.slice ak na ck∧Hid (gk≤f∧PJ gk 7 x acc la d=some r∧acc.length=na∧na+la.length≤10000)∧Hid (St0 w c wr la d∧Kr w.heap.size wr acc (.slice ak na ck) C Sa))
   case atStart=>exact⟨nsx,lx,1,some ⟨qr,0,none⟩,1,_,_,rfl,hZ ⟨Nat.le_refl _,(uZ HJ5),hlx,hbna⟩,hZ ⟨uZ S4,(uZ HKr_4).low ltlox⟩⟩
   case round=>
    clear HJ5 HKr_4 S4
    obtain⟨acc,la,na,ak,ck,Ca,Sa,rfl,HA,HI⟩:=hrel
    obtain⟨w50,hw50⟩:∃zz,zz=wr:=⟨_,rfl⟩
    subst hw50
    have S50:=hZ (uZ HI).1
    have HKa_50:=hZ (uZ HI).2
    obtain⟨g1,hg1⟩:=PJ_fuel (uZ HA).2.1
    subst hg1
    have HJ60:=hZ (show jPaL (PJ g1) x acc la d=some r from (uZ HA).2.1)
    have hlna:=(uZ HA).2.2.1
    have hbnb:=(uZ HA).2.2.2
    have hgf:=(uZ HA).1
    clear HI HA
    have HJ61:=hZ ((by have:=uZ HJ60;unfold jPaL at this;exact this))
    clear HJ60
    by_cases hb:isS [44] la=true
    ·have hq:isS [44] la=true:=by simpa using hb
     have CC:=hZ ((by have:=seesSign_any (uZ S50).rd [44];rw [hq] at this;exact this))
     go_wp2_with fail
     refine(uZ CC).mono ?_
     rintro e w51 ⟨rfl,b⟩
     have S51:=hZ ((uZ S50).below b)
     have HKa_51:=hZ ((uZ HKa_50).beside (Beside.of_below (gr:=c.g) b) (by omega))
     clear b CC S50 HKa_50
     have HJ62:=hZ ((by have:=(uZ HJ61);rw [if_pos hq] at this;exact this))
     clear HJ61
     have hkk:=isS_k hq
     have CC:=hZ (pass_any (uZ S51).rd hkk)
     go_wp2_with fail
     refine(uZ CC).mono ?_
     rintro e w52 ⟨rfl,r2,b⟩
     have S52:=hZ ((uZ S51).go b r2)
     have HKa_52:=hZ ((uZ HKa_51).beside b (by omega))
     clear b r2 CC S51 HKa_51
     obtain⟨yy,hy,hth⟩:=bnd_some (uZ HJ62)
     have HJ63:=hZ (hth)
     clear HJ62
     clear hth
     have CR:=hZ (ihp (f1:=g1) (by omega) hy (uZ S52).rd)
     have HYX:=hZ hy
     clear hy
     rcases yy with ⟨ea,ep⟩|⟨nsy,ly⟩
     ·have HR:=hZ (thn_err (uZ HJ63))
      go_wp2_with fail
      refine(uZ CR).mono ?_
      rintro e wx ⟨rfl,b⟩
      have HX:=hZ ((uZ S52).bad b)
      clear b CR
      unfold fltP
      go_wp2_with fail
      exact⟨rfl,by rw [uZ HR];exact⟨rfl,uZ HX⟩⟩
     ·have HJ64:=hZ (thn_ok (uZ HJ63))
      clear HJ63
      go_wp2_with fail
      refine(uZ CR).mono ?_
      rintro e w53 ⟨ky,ty,vky,vny,vsy,fy,ny,aky,cky,py,Zy,rfl,hly,hn,r2,b⟩
      have S53:=hZ ((uZ S52).go b r2)
      have HKa_53:=hZ ((uZ HKa_52).beside b (by omega))
      obtain⟨loy,hlo⟩:=eX (w52.heap.size)
      have ltloy:w.heap.size≤loy:=by rw [←hlo];exact(uZ S52).lt
      have HWa_y:=hZ ((uZ HKa_52).vlt hlo)
      have lea_y:=(uZ HKa_52).ok.le
      rw [hlo] at lea_y
      rw [hlo] at hn
      have HNy_53:=hZ hn
      clear hlo b r2 hn CR S52 HKa_52
      have hpl:=part_len (PJ_len g1) (uZ HYX)
      have htl:=tail_le la
      obtain⟨w54,hwr⟩:=eX (w53.alloc (.cells #[.int .i64 (ky:Int),.string (bA ty),.int .i64 (vky:Int),.int .i64 (vny:Int),.string (bA vsy),.slice none 0 0,.slice none 0 0,.bool fy,.slice aky ny cky,.int .i64 (py:Int)] 28))
      have b:=alB hwr
      obtain⟨hx,hhx⟩:=eX (w53.heap.size)
      have at4:Hid (w54.heap[hx]?=some (.cells #[.int .i64 (ky:Int),.string (bA ty),.int .i64 (vky:Int),.int .i64 (vny:Int),.string (bA vsy),.slice none 0 0,.slice none 0 0,.bool fy,.slice aky ny cky,.int .i64 (py:Int)] 28 (0,0))):=hZ (by rw [←hwr,←hhx];exact heap_alloc_new _ _)
      have S54:=hZ ((uZ S53).below b)
      have HKa_54:=hZ ((uZ HKa_53).beside (Beside.of_below (gr:=c.g) b) (by omega))
      have HNy_54:=hZ ((uZ HNy_53).beside (Beside.of_below (gr:=c.g) b) (by omega))
      clear b S53 HKa_53 HNy_53
      have hkl:=(uZ HKa_54).own
      rw [hlna] at hkl
      have HKL:=hZ hkl
      clear hkl
      have tokA:True:=trivial
      go_wp2_with (first|(at_builtin;have _t:=tokA;refine wpl_appN rfl (.tmp 18) (.tmp 21) rfl w.heap.size (.slice ak na ck) na _ rfl (uZ HKL) hx #[.int .i64 (ky:Int),.string (bA ty),.int .i64 (vky:Int),.int .i64 (vny:Int),.string (bA vsy),.slice none 0 0,.slice none 0 0,.bool fy,.slice aky ny cky,.int .i64 (py:Int)] rfl (uZ at4) rfl (ndC_one _ _ _ _ _ _ _ _ _ _) (by omega) (uZ HKa_54).ok.le ?_;clear tokA;intro g5 cap5 w55 H5))
      have bb:Below w.heap.size w54 w55:=(Below.refl _ _).grown (uZ H5).2.1 (uZ HKa_54).ok.le (fun z hz=>((uZ HKa_54).own.lt z hz).1)
      have S55:=hZ ((uZ S54).below2 bb (Nat.le_refl _))
      have HKn_55:=hZ (Kr.push (uZ HKa_54) (uZ HNy_54) (by omega) (uZ HWa_y).2 (uZ HWa_y).1 (uZ H5).1 (by rw [List.length_append,hly,hlna]) (uZ H5).2.1 (uZ H5).2.2)
      clear bb H5 HKL at4 hwr hhx
      go_roundg g1
      case measure=>omega
      case rel=>exact⟨acc++nsy,ly,na+1,some ⟨g5,0,none⟩,cap5,_,_,rfl,hZ ⟨by omega,(uZ HJ64),by rw [List.length_append,hly,hlna],by omega⟩,hZ ⟨uZ S55,uZ HKn_55⟩⟩
    ·have hq:isS [44] la=false:=by simpa using hb
     have CC:=hZ ((by have:=seesSign_any (uZ S50).rd [44];rw [hq] at this;exact this))
     go_wp2_with fail
     refine(uZ CC).mono ?_
     rintro e w51 ⟨rfl,b⟩
     have S51:=hZ ((uZ S50).below b)
     have HKa_51:=hZ ((uZ HKa_50).beside (Beside.of_below (gr:=c.g) b) (by omega))
     clear b CC S50 HKa_50
     have HJ62:=hZ ((by have:=(uZ HJ61);rw [if_neg (by rw [hq];decide)] at this;exact this))
     clear HJ61
     have HR:=hZ (okN_some (uZ HJ62))
     go_wp2_with fail
     go_ret
     rw [uZ HR]
     exact⟨ak,ck,_,_,by rw [hlna];rfl,by rw [hlna];exact uZ HKa_51,(uZ S51).rd,(uZ S51).bs⟩
end Go.Proofs.YtjdpaihhhjdgmaaGreatDoor
