/-
  Layer 17 (parse): the document's reader: pairs; conditions: the reader's state.
-/
import Derived.Test.YtilhlmmcdfoaoaaGreatDoorE15
set_option linter.unusedVariables false
set_option linter.unusedSimpArgs false
namespace Go.Proofs.YtilhlmmcdfoaoaaGreatDoor
open Go.RowKit
set_option linter.unusedVariables false
set_option linter.unusedSimpArgs false
set_option maxRecDepth 100000 in
set_option maxHeartbeats 2000000 in
theorem pairsq_step {c:Cx} {σ:Sg} {w w1:World} {r:List Nd × Sg} {f:Nat} (hf:f≤500000) (ihe:∀{f1:Nat},f1≤f→∀{c:Cx} {σ:Sg} {w:World} {r:List Nd × Sg},RJ c.ts f1 0 0 [] σ=some r→Rq w c σ→Calls Tryz.prog 91 #[.pointer (some ⟨c.g,0,none⟩)] w fun e w'=>NqP c w r e w') (hJ:RJ c.ts (f+1) 8 0 [] σ=some r) (hws:w=w1) (h:Rq w1 c σ) :
  Calls Tryz.prog 140 #[.pointer (some ⟨c.g,0,none⟩)] w1 fun e w'=>KqP c w r e w':=by
 have S1:=hZ (Sq0.start (d:=0) hws h)
 have hgw:c.g<w.heap.size:=by rw [hws];exact h.frz.2.2.2.2
 clear h hws
 go_enter Tryz.func140,Tryz.ntmps140
 have HJ0:=hZ (show qPairs c.ts (RJ c.ts f) σ=some r from hJ)
 clear hJ
 have HJ1:=hZ ((by have:=uZ HJ0;unfold qPairs at this;exact this))
 clear HJ0
 rcases Bool.eq_false_or_eq_true (isQ c.ts 5 [125] σ) with hq|hq
 ·have HJ2:=hZ ((by have:=(uZ HJ1);rw [if_pos hq] at this;exact this))
  clear HJ1
  have CC:=hZ ((by have:=signq_any (uZ S1).rd [125];rw [hq] at this;exact this))
  go_wp2_with fail
  refine(uZ CC).mono ?_
  rintro e w2 ⟨rfl,b⟩
  have S2:=hZ ((uZ S1).below b)
  clear b CC S1
  go_wp2_with fail
  go_loopg [3] 0 (fun gk v5 wr=>v5=.slice none 0 0∧Hid (Sq0 w c wr σ 0))
  case atStart=>exact⟨rfl,S2⟩
  case round=>
   have HJ60:=HJ2
   clear HJ2 S2
   obtain⟨rfl,HI⟩:=hrel
   obtain⟨w50,hw50⟩:∃zz,zz=wr:=⟨_,rfl⟩
   subst hw50
   have S50:=HI
   clear HI
   have CC:=hZ (closes_any (uZ S50).rd [125])
   go_wp2_with fail
   refine(uZ CC).mono ?_
   rintro e w51 ⟨rfl,r2,b⟩
   have S51:=hZ ((uZ S50).go (d':=0) b r2)
   clear b r2 CC S50
   have HR:=hZ (okq_some (uZ HJ60))
   go_wp2_with fail
   go_ret
   rw [uZ HR]
   exact⟨none,0,[],[],rfl,Kr.nil (uZ S51).lt,(uZ S51).rd,(uZ S51).bs⟩
 ·have HJ2:=hZ ((by have:=(uZ HJ1);rw [if_neg (by rw [hq];decide)] at this;exact this))
  clear HJ1
  have CC:=hZ ((by have:=signq_any (uZ S1).rd [125];rw [hq] at this;exact this))
  go_wp2_with fail
  refine(uZ CC).mono ?_
  rintro e w2 ⟨rfl,b⟩
  have S2:=hZ ((uZ S1).below b)
  clear b CC S1
  go_wp2_with fail
  go_loopg [3] f (fun gk v5 wr=>∃(acc:List Nd) (sa:Sg) (na:Nat) (ak:Option Addr) (ck:Nat) (C:List Value) (Sa:List Nat),v5=.slice ak na ck∧Hid (gk≤f∧RJ c.ts gk 9 0 acc sa=some r∧acc.length=na∧na+gk≤f)∧Hid (Sq0 w c wr sa 0∧Kr w.heap.size wr acc (.slice ak na ck) C Sa))
  case atStart=>exact⟨[],σ,0,none,0,_,_,rfl,hZ ⟨Nat.le_refl _,(uZ HJ2),rfl,by omega⟩,hZ ⟨uZ S2,Kr.nil (uZ S2).lt⟩⟩
  case round=>
   clear HJ2 S2
   obtain⟨acc,sa,na,ak,ck,Ca,Sa,rfl,HA,HI⟩:=hrel
   obtain⟨w50,hw50⟩:∃zz,zz=wr:=⟨_,rfl⟩
   subst hw50
   have S50:=hZ (uZ HI).1
   have HKa_50:=hZ (uZ HI).2
   obtain⟨g1,hg1⟩:=RJ_fuel (uZ HA).2.1
   subst hg1
   have HJ60:=hZ (show qPairL c.ts (RJ c.ts g1) acc sa=some r from (uZ HA).2.1)
   have hlna:=(uZ HA).2.2.1
   have hbnb:=(uZ HA).2.2.2
   have hgf:=(uZ HA).1
   clear HI HA
   obtain⟨⟨k,t,n,p⟩,ht⟩:∃zz,tkQ c.ts sa=zz:=⟨_,rfl⟩
   have HT:=hZ ht
   clear ht
   have HJ61:=hZ ((by have:=uZ HJ60;unfold qPairL at this;rw [uZ HT] at this;simp only [] at this;exact this))
   clear HJ60
   by_cases he:sa.e=0
   ·have HJ62:=hZ ((by have:=(uZ HJ61);rw [if_pos he] at this;exact this))
    clear HJ61
    have he0:((sa.e:Nat):Int)=0:=by omega
    have ec:=(uZ S50).rd.cells.2.2.2.1
    rw [he0] at ec
    have CC:=hZ ((by have:=peek_any (uZ S50).rd;rw [uZ HT] at this;simp only [tkA] at this;exact this))
    go_wp2_with fail
    refine(uZ CC).mono ?_
    rintro e w51 ⟨rfl,b⟩
    have S51:=hZ ((uZ S50).below b)
    have HKa_51:=hZ ((uZ HKa_50).beside (Beside.of_below (gr:=c.g) b) (by omega))
    clear b CC S50 HKa_50
    clear ec
    go_upto_region 5 with fail
    obtain⟨w52,hw⟩:∃zz,w51.alloc (.cells #[.int .i64 (k:Int),.string (bA t),.int .i64 (n:Int),.int .i64 (p:Int)] 52)=zz:=⟨_,rfl⟩
    have b:Below w51.heap.size w51 w52:=by rw [←hw];exact(Below.refl _ _).alloc (Nat.le_refl _) _
    obtain⟨B,hQ⟩:∃zz,w51.heap.size=zz:=⟨_,rfl⟩
    have HBB_52:Hid (w52.heap[B]?=some (.cells #[.int .i64 (k:Int),.string (bA t),.int .i64 (n:Int),.int .i64 (p:Int)] 52 (0,0))):=hZ (by rw [←hw,←hQ];exact heap_alloc_new _ _)
    have S52:=hZ ((uZ S51).below b)
    have HKa_52:=hZ ((uZ HKa_51).beside (Beside.of_below (gr:=c.g) b) (by omega))
    have APa_B:=hZ ((uZ HKa_51).fresh hQ)
    have ltB:w.heap.size≤B:=by rw [←hQ];exact(uZ S51).lt
    rw [hw]
    try rw [hQ]
    clear hw hQ b S51 HKa_51
    have hsz:(bA t).size=t.length:=bA_size t
    obtain⟨tl,htl⟩:∃zz,t.length=zz:=⟨_,rfl⟩
    rw [htl] at hsz
    have HJ63:=hZ ((by have:=(uZ HJ62);rw [htl] at this;exact this))
    clear HJ62
    clear htl
    by_cases hk1:k=1
    ·subst hk1
     by_cases hb:32<tl
     ·have HJ64:=hZ ((by have:=(uZ HJ63);rw [if_pos (Or.inr hb)] at this;exact this))
      clear HJ63
      have lz:(32:Int)<(tl:Int):=by omega
      obtain⟨Bc0,Bc1,Bc2,Bc3⟩:=row_cell4 (uZ HBB_52)
      have CC:=hZ (wrong_any (uZ S52).rd 170)
      go_wp2_with fail
      refine(uZ CC).mono ?_
      rintro e w53 ⟨rfl,r2,b⟩
      have S53:=hZ ((uZ S52).go (d':=0) b r2)
      have HBB_53:=bx_go HBB_52 b (by omega)
      have HKa_53:=hZ ((uZ HKa_52).beside b (by omega))
      clear b r2 CC S52 HBB_52 HKa_52
      have HR:=hZ (okq_some (uZ HJ64))
      go_wp2_with fail
      go_ret
      rw [uZ HR]
      exact⟨ak,ck,_,_,by rw [hlna];rfl,by rw [hlna];exact uZ HKa_53,(uZ S53).rd,(uZ S53).bs⟩
     ·have HJ64:=hZ ((by have:=(uZ HJ63);rw [if_neg (by rintro (e|e);omega;omega)] at this;exact this))
      clear HJ63
      have lz:¬(32:Int)<(tl:Int):=by omega
      obtain⟨Bc0,Bc1,Bc2,Bc3⟩:=row_cell4 (uZ HBB_52)
      have CC:=hZ ((by have:=next_any (uZ S52).rd;rw [uZ HT] at this;simp only [tkA] at this;exact this))
      go_wp2_with fail
      refine(uZ CC).mono ?_
      rintro e w53 ⟨rfl,r2,b⟩
      have S53:=hZ ((uZ S52).go (d':=0) b r2)
      have HBB_53:=bx_go HBB_52 b (by omega)
      have HKa_53:=hZ ((uZ HKa_52).beside b (by omega))
      clear b r2 CC S52 HBB_52 HKa_52
      clear Bc0 Bc1 Bc2 Bc3
      obtain⟨⟨kz,tz,nz,pz⟩,ht⟩:∃zz,(muQ c.ts 5 [58] (nxQ c.ts sa)).1=zz:=⟨_,rfl⟩
      have HTz:=hZ ht
      clear ht
      have CC:=hZ ((by have:=must_any (uZ S53).rd 5 [58];rw [uZ HTz] at this;simp only [tkA] at this;exact this))
      go_wp2_with fail
      refine(uZ CC).mono ?_
      rintro e w54 ⟨rfl,r2,b⟩
      have S54:=hZ ((uZ S53).go (d':=0) b r2)
      have HBB_54:=bx_go HBB_53 b (by omega)
      have HKa_54:=hZ ((uZ HKa_53).beside b (by omega))
      clear b r2 CC S53 HBB_53 HKa_53
      obtain⟨nsy,sy,hy,hth⟩:=bq_some (uZ HJ64)
      have HJ65:=hZ (hth)
      clear HJ64
      clear hth
      have CR:=hZ (ihe (f1:=g1) (by omega) hy (uZ S54).rd)
      clear hy
      go_wp2_with fail
      refine(uZ CR).mono ?_
      rintro e w55 ⟨ky,ty,vky,vny,vsy,fy,ny,aky,cky,py,Zy,rfl,hly,hn,r2,b⟩
      simp only [] at hly hn r2
      have S55:=hZ ((uZ S54).go (d':=0) b r2)
      have HBB_55:=bx_go HBB_54 b (by omega)
      have HKa_55:=hZ ((uZ HKa_54).beside b (by omega))
      obtain⟨loy,hlo⟩:∃zz,w54.heap.size=zz:=⟨_,rfl⟩
      have ltloy:w.heap.size≤loy:=by rw [←hlo];exact(uZ S54).lt
      have lqB_y:B<loy:=by rw [←hlo];exact(Array.getElem?_eq_some_iff.1 (uZ HBB_54)).1
      have HWa_y:=hZ ((uZ HKa_54).vlt hlo)
      have lea_y:=(uZ HKa_54).ok.le
      rw [hlo] at lea_y
      rw [hlo] at hn
      have HNy_55:=hZ hn
      clear hlo b r2 hn CR S54 HBB_54 HKa_54
      go_upto_region 11 with fail
      obtain⟨w56,hw⟩:∃zz,w55.alloc (.cells #[.int .i64 (ky:Int),.string (bA ty),.int .i64 (vky:Int),.int .i64 (vny:Int),.string (bA vsy),.slice none 0 0,.slice none 0 0,.bool fy,.slice aky ny cky,.int .i64 (py:Int)] 29)=zz:=⟨_,rfl⟩
      have b:Below w55.heap.size w55 w56:=by rw [←hw];exact(Below.refl _ _).alloc (Nat.le_refl _) _
      obtain⟨X,hQ⟩:∃zz,w55.heap.size=zz:=⟨_,rfl⟩
      have HBX_56:Hid (w56.heap[X]?=some (.cells #[.int .i64 (ky:Int),.string (bA ty),.int .i64 (vky:Int),.int .i64 (vny:Int),.string (bA vsy),.slice none 0 0,.slice none 0 0,.bool fy,.slice aky ny cky,.int .i64 (py:Int)] 29 (0,0))):=hZ (by rw [←hw,←hQ];exact heap_alloc_new _ _)
      have S56:=hZ ((uZ S55).below b)
      have HBB_56:=bx_be HBB_55 b
      have HKa_56:=hZ ((uZ HKa_55).beside (Beside.of_below (gr:=c.g) b) (by omega))
      have HNy_56:=hZ ((uZ HNy_55).beside (Beside.of_below (gr:=c.g) b) (by omega))
      have lB_X:B<X:=by rw [←hQ];exact(Array.getElem?_eq_some_iff.1 (uZ HBB_55)).1
      have APa_X:=hZ ((uZ HKa_55).fresh hQ)
      have ANy_X:=hZ ((uZ HNy_55).fresh hQ)
      have ltX:w.heap.size≤X:=by rw [←hQ];exact(uZ S55).lt
      rw [hw]
      try rw [hQ]
      clear hw hQ b S55 HBB_55 HKa_55 HNy_55
      obtain⟨Xo0,Xo1,Xo2,Xo3,Xo4,Xo5,Xo6,Xo7,Xo8,Xo9⟩:=row_cell10 (uZ HBX_56)
      obtain⟨Bo0,Bo1,Bo2,Bo3⟩:=row_cell4 (uZ HBB_56)
      have hkn:=hZ (uZ HNy_56)
      obtain⟨w57,hwr⟩:∃zz,w56.alloc (.cells #[.int .i64 (ky:Int),.string (bA ty),.int .i64 (vky:Int),.int .i64 (vny:Int),.string (bA vsy),.slice none 0 0,.slice none 0 0,.bool fy,.slice aky ny cky,.int .i64 (py:Int)] 29)=zz:=⟨_,rfl⟩
      have b:Below w56.heap.size w56 w57:=by rw [←hwr];exact(Below.refl _ _).alloc (Nat.le_refl _) _
      obtain⟨qr,hqr⟩:∃zz,w56.heap.size=zz:=⟨_,rfl⟩
      have HKr_57:Hid (Kr loy w57 _ (.slice (some ⟨qr,0,none⟩) _ _) [.int .i64 (ky:Int),.string (bA ty),.int .i64 (vky:Int),.int .i64 (vny:Int),.string (bA vsy),.slice none 0 0,.slice none 0 0,.bool fy,.slice aky ny cky,.int .i64 (py:Int)] _):=hZ (by rw [←hwr,←hqr];exact Kr.mk' (uZ hkn) (by rw [hly];decide))
      rw [hly] at HKr_57
      have ltr:w.heap.size≤qr:=by rw [←hqr];exact(uZ S56).lt
      have S57:=hZ ((uZ S56).below b)
      have HBB_57:=bx_be HBB_56 b
      have HBX_57:=bx_be HBX_56 b
      have HKa_57:=hZ ((uZ HKa_56).beside (Beside.of_below (gr:=c.g) b) (by omega))
      clear b hkn S56 HBB_56 HBX_56 HKa_56 HNy_56
      obtain⟨Bp0,Bp1,Bp2,Bp3⟩:=row_cell4 (uZ HBB_57)
      have hnd:=hZ ((uZ HKr_57).node' hly 20 t 0 0 [] false p)
      obtain⟨w58,hwr2⟩:∃zz,w57.alloc (.cells #[.int .i64 20,.string (bA t),.int .i64 0,.int .i64 0,.string ⟨#[]⟩,.slice none 0 0,.slice none 0 0,.bool false,.slice (some ⟨qr,0,none⟩) 1 1,.int .i64 (p:Int)] 29)=zz:=⟨_,rfl⟩
      have b:Below w57.heap.size w57 w58:=by rw [←hwr2];exact(Below.refl _ _).alloc (Nat.le_refl _) _
      obtain⟨hx,hhx⟩:∃zz,w57.heap.size=zz:=⟨_,rfl⟩
      have at4:Hid (w58.heap[hx]?=some (.cells #[.int .i64 20,.string (bA t),.int .i64 0,.int .i64 0,.string ⟨#[]⟩,.slice none 0 0,.slice none 0 0,.bool false,.slice (some ⟨qr,0,none⟩) 1 1,.int .i64 (p:Int)] 29 (0,0))):=hZ (by rw [←hwr2,←hhx];exact heap_alloc_new _ _)
      have hnd2:=hZ ((uZ hnd).beside (Beside.of_below (gr:=c.g) b) (by omega))
      clear hnd
      have S58:=hZ ((uZ S57).below b)
      have HBB_58:=bx_be HBB_57 b
      have HBX_58:=bx_be HBX_57 b
      have HKa_58:=hZ ((uZ HKa_57).beside (Beside.of_below (gr:=c.g) b) (by omega))
      have HKr_58:=hZ ((uZ HKr_57).beside (Beside.of_below (gr:=c.g) b) (by omega))
      clear b S57 HBB_57 HBX_57 HKa_57 HKr_57
      have hkl:=(uZ HKa_58).own
      rw [hlna] at hkl
      have HKL:=hZ hkl
      clear hkl
      have tokA:True:=trivial
      have bbL:∀u:World,w58.grownBy u (Value.slice ak na ck).ownBlock→Below w.heap.size w58 u:=fun u hg=>(Below.refl _ _).grown hg (uZ HKa_58).ok.le (fun z hz=>((uZ HKa_58).own.lt z hz).1)
      have HBL:=hZ bbL
      clear bbL
      go_upto_region 12 with (first|(at_builtin;have _t:=tokA;refine wpl_appQ rfl (.tmp 44) (.tmp 52) rfl w.heap.size (.slice ak na ck) na _ rfl (uZ HKL) hx #[.int .i64 20,.string (bA t),.int .i64 0,.int .i64 0,.string ⟨#[]⟩,.slice none 0 0,.slice none 0 0,.bool false,.slice (some ⟨qr,0,none⟩) 1 1,.int .i64 (p:Int)] rfl (uZ at4) rfl (ndC_one 20 t 0 0 [] false 1 (some ⟨qr,0,none⟩) 1 p) (by omega) (uZ HKa_58).ok.le ?_;clear tokA;intro g5 cap5 w59 H5))
      have bb:=(uZ HBL) _ (uZ H5).2.1
      have S59:=hZ ((uZ S58).below2 bb (Nat.le_refl _))
      have HKn_59:=hZ (Kr.push (uZ HKa_58) (uZ hnd2) (by omega) (uZ HWa_y).2 (uZ HWa_y).1 (uZ H5).1 (by rw [List.length_append,hlna];rfl) (uZ H5).2.1 (uZ H5).2.2)
      clear bb H5 HKL at4 hwr hhx hqr hwr2 HBL hnd2 HKa_58 HKr_58 HBX_58 HBB_58 S58 Xo0 Xo1 Xo2 Xo3 Xo4 Xo5 Xo6 Xo7 Xo8 Xo9 Bo0 Bo1 Bo2 Bo3 Bp0 Bp1 Bp2 Bp3
      have hl9:(acc++[nd0 20 t nsy p]).length=na+1:=by rw [List.length_append,hlna];rfl
      have HL9:=hZ hl9
      clear hl9
      rcases Bool.eq_false_or_eq_true (isQ c.ts 5 [44] sy) with hq2|hq2
      ·have HJ66:=hZ ((by have:=(uZ HJ65);rw [if_pos hq2] at this;exact this))
       clear HJ65
       have CC:=hZ ((by have:=signq_any (uZ S59).rd [44];rw [hq2] at this;exact this))
       go_wp2_with fail
       refine(uZ CC).mono ?_
       rintro e w60 ⟨rfl,b⟩
       have S60:=hZ ((uZ S59).below b)
       have HKn_60:=hZ ((uZ HKn_59).beside (Beside.of_below (gr:=c.g) b) (by omega))
       clear b CC S59 HKn_59
       have CC:=hZ (next_any (uZ S60).rd)
       go_wp2_with fail
       refine(uZ CC).mono ?_
       rintro e w61 ⟨rfl,r2,b⟩
       have S61:=hZ ((uZ S60).go (d':=0) b r2)
       have HKn_61:=hZ ((uZ HKn_60).beside b (by omega))
       clear b r2 CC S60 HKn_60
       go_wp2_with fail
       go_roundg g1
       case measure=>omega
       case rel=>exact⟨(acc++[nd0 20 t nsy p]),nxQ c.ts sy,na+1,some ⟨g5,0,none⟩,cap5,_,_,rfl,hZ ⟨by omega,(uZ HJ66),uZ HL9,by omega⟩,hZ ⟨uZ S61,uZ HKn_61⟩⟩
      ·have HJ66:=hZ ((by have:=(uZ HJ65);rw [if_neg (by rw [hq2];decide)] at this;exact this))
       clear HJ65
       have CC:=hZ ((by have:=signq_any (uZ S59).rd [44];rw [hq2] at this;exact this))
       go_wp2_with fail
       refine(uZ CC).mono ?_
       rintro e w60 ⟨rfl,b⟩
       have S60:=hZ ((uZ S59).below b)
       have HKn_60:=hZ ((uZ HKn_59).beside (Beside.of_below (gr:=c.g) b) (by omega))
       clear b CC S59 HKn_59
       have CC:=hZ (closes_any (uZ S60).rd [125])
       go_wp2_with fail
       refine(uZ CC).mono ?_
       rintro e w61 ⟨rfl,r2,b⟩
       have S61:=hZ ((uZ S60).go (d':=0) b r2)
       have HKn_61:=hZ ((uZ HKn_60).beside b (by omega))
       clear b r2 CC S60 HKn_60
       have HR:=hZ (okq_some (uZ HJ66))
       go_wp2_with fail
       go_ret
       rw [uZ HR]
       exact⟨some ⟨g5,0,none⟩,cap5,_,_,by show _=Ending.returned (.slice _ (acc++[nd0 20 t nsy p]).length _);rw [uZ HL9];rfl,by show Kr _ _ _ (.slice _ (acc++[nd0 20 t nsy p]).length _) _ _;rw [uZ HL9];exact uZ HKn_61,(uZ S61).rd,(uZ S61).bs⟩
    ·have n1:¬(k:Int)=1:=by omega
     have m1:((k:Int) == 1)=false:=beq_eq_false_iff_ne.2 n1
     have o1:((k:Int) != 1)=true:=by simp;omega
     by_cases hk4:k=4
     ·subst hk4
      by_cases hb:32<tl
      ·have HJ64:=hZ ((by have:=(uZ HJ63);rw [if_pos (Or.inr hb)] at this;exact this))
       clear HJ63
       have lz:(32:Int)<(tl:Int):=by omega
       obtain⟨Bc0,Bc1,Bc2,Bc3⟩:=row_cell4 (uZ HBB_52)
       have CC:=hZ (wrong_any (uZ S52).rd 170)
       go_wp2_with fail
       refine(uZ CC).mono ?_
       rintro e w53 ⟨rfl,r2,b⟩
       have S53:=hZ ((uZ S52).go (d':=0) b r2)
       have HBB_53:=bx_go HBB_52 b (by omega)
       have HKa_53:=hZ ((uZ HKa_52).beside b (by omega))
       clear b r2 CC S52 HBB_52 HKa_52
       have HR:=hZ (okq_some (uZ HJ64))
       go_wp2_with fail
       go_ret
       rw [uZ HR]
       exact⟨ak,ck,_,_,by rw [hlna];rfl,by rw [hlna];exact uZ HKa_53,(uZ S53).rd,(uZ S53).bs⟩
      ·have HJ64:=hZ ((by have:=(uZ HJ63);rw [if_neg (by rintro (e|e);omega;omega)] at this;exact this))
       clear HJ63
       have lz:¬(32:Int)<(tl:Int):=by omega
       obtain⟨Bc0,Bc1,Bc2,Bc3⟩:=row_cell4 (uZ HBB_52)
       have CC:=hZ ((by have:=next_any (uZ S52).rd;rw [uZ HT] at this;simp only [tkA] at this;exact this))
       go_wp2_with fail
       refine(uZ CC).mono ?_
       rintro e w53 ⟨rfl,r2,b⟩
       have S53:=hZ ((uZ S52).go (d':=0) b r2)
       have HBB_53:=bx_go HBB_52 b (by omega)
       have HKa_53:=hZ ((uZ HKa_52).beside b (by omega))
       clear b r2 CC S52 HBB_52 HKa_52
       clear Bc0 Bc1 Bc2 Bc3
       obtain⟨⟨kz,tz,nz,pz⟩,ht⟩:∃zz,(muQ c.ts 5 [58] (nxQ c.ts sa)).1=zz:=⟨_,rfl⟩
       have HTz:=hZ ht
       clear ht
       have CC:=hZ ((by have:=must_any (uZ S53).rd 5 [58];rw [uZ HTz] at this;simp only [tkA] at this;exact this))
       go_wp2_with fail
       refine(uZ CC).mono ?_
       rintro e w54 ⟨rfl,r2,b⟩
       have S54:=hZ ((uZ S53).go (d':=0) b r2)
       have HBB_54:=bx_go HBB_53 b (by omega)
       have HKa_54:=hZ ((uZ HKa_53).beside b (by omega))
       clear b r2 CC S53 HBB_53 HKa_53
       obtain⟨nsy,sy,hy,hth⟩:=bq_some (uZ HJ64)
       have HJ65:=hZ (hth)
       clear HJ64
       clear hth
       have CR:=hZ (ihe (f1:=g1) (by omega) hy (uZ S54).rd)
       clear hy
       go_wp2_with fail
       refine(uZ CR).mono ?_
       rintro e w55 ⟨ky,ty,vky,vny,vsy,fy,ny,aky,cky,py,Zy,rfl,hly,hn,r2,b⟩
       simp only [] at hly hn r2
       have S55:=hZ ((uZ S54).go (d':=0) b r2)
       have HBB_55:=bx_go HBB_54 b (by omega)
       have HKa_55:=hZ ((uZ HKa_54).beside b (by omega))
       obtain⟨loy,hlo⟩:∃zz,w54.heap.size=zz:=⟨_,rfl⟩
       have ltloy:w.heap.size≤loy:=by rw [←hlo];exact(uZ S54).lt
       have lqB_y:B<loy:=by rw [←hlo];exact(Array.getElem?_eq_some_iff.1 (uZ HBB_54)).1
       have HWa_y:=hZ ((uZ HKa_54).vlt hlo)
       have lea_y:=(uZ HKa_54).ok.le
       rw [hlo] at lea_y
       rw [hlo] at hn
       have HNy_55:=hZ hn
       clear hlo b r2 hn CR S54 HBB_54 HKa_54
       go_upto_region 11 with fail
       obtain⟨w56,hw⟩:∃zz,w55.alloc (.cells #[.int .i64 (ky:Int),.string (bA ty),.int .i64 (vky:Int),.int .i64 (vny:Int),.string (bA vsy),.slice none 0 0,.slice none 0 0,.bool fy,.slice aky ny cky,.int .i64 (py:Int)] 29)=zz:=⟨_,rfl⟩
       have b:Below w55.heap.size w55 w56:=by rw [←hw];exact(Below.refl _ _).alloc (Nat.le_refl _) _
       obtain⟨X,hQ⟩:∃zz,w55.heap.size=zz:=⟨_,rfl⟩
       have HBX_56:Hid (w56.heap[X]?=some (.cells #[.int .i64 (ky:Int),.string (bA ty),.int .i64 (vky:Int),.int .i64 (vny:Int),.string (bA vsy),.slice none 0 0,.slice none 0 0,.bool fy,.slice aky ny cky,.int .i64 (py:Int)] 29 (0,0))):=hZ (by rw [←hw,←hQ];exact heap_alloc_new _ _)
       have S56:=hZ ((uZ S55).below b)
       have HBB_56:=bx_be HBB_55 b
       have HKa_56:=hZ ((uZ HKa_55).beside (Beside.of_below (gr:=c.g) b) (by omega))
       have HNy_56:=hZ ((uZ HNy_55).beside (Beside.of_below (gr:=c.g) b) (by omega))
       have lB_X:B<X:=by rw [←hQ];exact(Array.getElem?_eq_some_iff.1 (uZ HBB_55)).1
       have APa_X:=hZ ((uZ HKa_55).fresh hQ)
       have ANy_X:=hZ ((uZ HNy_55).fresh hQ)
       have ltX:w.heap.size≤X:=by rw [←hQ];exact(uZ S55).lt
       rw [hw]
       try rw [hQ]
       clear hw hQ b S55 HBB_55 HKa_55 HNy_55
       obtain⟨Xo0,Xo1,Xo2,Xo3,Xo4,Xo5,Xo6,Xo7,Xo8,Xo9⟩:=row_cell10 (uZ HBX_56)
       obtain⟨Bo0,Bo1,Bo2,Bo3⟩:=row_cell4 (uZ HBB_56)
       have hkn:=hZ (uZ HNy_56)
       obtain⟨w57,hwr⟩:∃zz,w56.alloc (.cells #[.int .i64 (ky:Int),.string (bA ty),.int .i64 (vky:Int),.int .i64 (vny:Int),.string (bA vsy),.slice none 0 0,.slice none 0 0,.bool fy,.slice aky ny cky,.int .i64 (py:Int)] 29)=zz:=⟨_,rfl⟩
       have b:Below w56.heap.size w56 w57:=by rw [←hwr];exact(Below.refl _ _).alloc (Nat.le_refl _) _
       obtain⟨qr,hqr⟩:∃zz,w56.heap.size=zz:=⟨_,rfl⟩
       have HKr_57:Hid (Kr loy w57 _ (.slice (some ⟨qr,0,none⟩) _ _) [.int .i64 (ky:Int),.string (bA ty),.int .i64 (vky:Int),.int .i64 (vny:Int),.string (bA vsy),.slice none 0 0,.slice none 0 0,.bool fy,.slice aky ny cky,.int .i64 (py:Int)] _):=hZ (by rw [←hwr,←hqr];exact Kr.mk' (uZ hkn) (by rw [hly];decide))
       rw [hly] at HKr_57
       have ltr:w.heap.size≤qr:=by rw [←hqr];exact(uZ S56).lt
       have S57:=hZ ((uZ S56).below b)
       have HBB_57:=bx_be HBB_56 b
       have HBX_57:=bx_be HBX_56 b
       have HKa_57:=hZ ((uZ HKa_56).beside (Beside.of_below (gr:=c.g) b) (by omega))
       clear b hkn S56 HBB_56 HBX_56 HKa_56 HNy_56
       obtain⟨Bp0,Bp1,Bp2,Bp3⟩:=row_cell4 (uZ HBB_57)
       have hnd:=hZ ((uZ HKr_57).node' hly 20 t 0 0 [] false p)
       obtain⟨w58,hwr2⟩:∃zz,w57.alloc (.cells #[.int .i64 20,.string (bA t),.int .i64 0,.int .i64 0,.string ⟨#[]⟩,.slice none 0 0,.slice none 0 0,.bool false,.slice (some ⟨qr,0,none⟩) 1 1,.int .i64 (p:Int)] 29)=zz:=⟨_,rfl⟩
       have b:Below w57.heap.size w57 w58:=by rw [←hwr2];exact(Below.refl _ _).alloc (Nat.le_refl _) _
       obtain⟨hx,hhx⟩:∃zz,w57.heap.size=zz:=⟨_,rfl⟩
       have at4:Hid (w58.heap[hx]?=some (.cells #[.int .i64 20,.string (bA t),.int .i64 0,.int .i64 0,.string ⟨#[]⟩,.slice none 0 0,.slice none 0 0,.bool false,.slice (some ⟨qr,0,none⟩) 1 1,.int .i64 (p:Int)] 29 (0,0))):=hZ (by rw [←hwr2,←hhx];exact heap_alloc_new _ _)
       have hnd2:=hZ ((uZ hnd).beside (Beside.of_below (gr:=c.g) b) (by omega))
       clear hnd
       have S58:=hZ ((uZ S57).below b)
       have HBB_58:=bx_be HBB_57 b
       have HBX_58:=bx_be HBX_57 b
       have HKa_58:=hZ ((uZ HKa_57).beside (Beside.of_below (gr:=c.g) b) (by omega))
       have HKr_58:=hZ ((uZ HKr_57).beside (Beside.of_below (gr:=c.g) b) (by omega))
       clear b S57 HBB_57 HBX_57 HKa_57 HKr_57
       have hkl:=(uZ HKa_58).own
       rw [hlna] at hkl
       have HKL:=hZ hkl
       clear hkl
       have tokA:True:=trivial
       have bbL:∀u:World,w58.grownBy u (Value.slice ak na ck).ownBlock→Below w.heap.size w58 u:=fun u hg=>(Below.refl _ _).grown hg (uZ HKa_58).ok.le (fun z hz=>((uZ HKa_58).own.lt z hz).1)
       have HBL:=hZ bbL
       clear bbL
       go_upto_region 12 with (first|(at_builtin;have _t:=tokA;refine wpl_appQ rfl (.tmp 44) (.tmp 52) rfl w.heap.size (.slice ak na ck) na _ rfl (uZ HKL) hx #[.int .i64 20,.string (bA t),.int .i64 0,.int .i64 0,.string ⟨#[]⟩,.slice none 0 0,.slice none 0 0,.bool false,.slice (some ⟨qr,0,none⟩) 1 1,.int .i64 (p:Int)] rfl (uZ at4) rfl (ndC_one 20 t 0 0 [] false 1 (some ⟨qr,0,none⟩) 1 p) (by omega) (uZ HKa_58).ok.le ?_;clear tokA;intro g5 cap5 w59 H5))
       have bb:=(uZ HBL) _ (uZ H5).2.1
       have S59:=hZ ((uZ S58).below2 bb (Nat.le_refl _))
       have HKn_59:=hZ (Kr.push (uZ HKa_58) (uZ hnd2) (by omega) (uZ HWa_y).2 (uZ HWa_y).1 (uZ H5).1 (by rw [List.length_append,hlna];rfl) (uZ H5).2.1 (uZ H5).2.2)
       clear bb H5 HKL at4 hwr hhx hqr hwr2 HBL hnd2 HKa_58 HKr_58 HBX_58 HBB_58 S58 Xo0 Xo1 Xo2 Xo3 Xo4 Xo5 Xo6 Xo7 Xo8 Xo9 Bo0 Bo1 Bo2 Bo3 Bp0 Bp1 Bp2 Bp3
       have hl9:(acc++[nd0 20 t nsy p]).length=na+1:=by rw [List.length_append,hlna];rfl
       have HL9:=hZ hl9
       clear hl9
       rcases Bool.eq_false_or_eq_true (isQ c.ts 5 [44] sy) with hq2|hq2
       ·have HJ66:=hZ ((by have:=(uZ HJ65);rw [if_pos hq2] at this;exact this))
        clear HJ65
        have CC:=hZ ((by have:=signq_any (uZ S59).rd [44];rw [hq2] at this;exact this))
        go_wp2_with fail
        refine(uZ CC).mono ?_
        rintro e w60 ⟨rfl,b⟩
        have S60:=hZ ((uZ S59).below b)
        have HKn_60:=hZ ((uZ HKn_59).beside (Beside.of_below (gr:=c.g) b) (by omega))
        clear b CC S59 HKn_59
        have CC:=hZ (next_any (uZ S60).rd)
        go_wp2_with fail
        refine(uZ CC).mono ?_
        rintro e w61 ⟨rfl,r2,b⟩
        have S61:=hZ ((uZ S60).go (d':=0) b r2)
        have HKn_61:=hZ ((uZ HKn_60).beside b (by omega))
        clear b r2 CC S60 HKn_60
        go_wp2_with fail
        go_roundg g1
        case measure=>omega
        case rel=>exact⟨(acc++[nd0 20 t nsy p]),nxQ c.ts sy,na+1,some ⟨g5,0,none⟩,cap5,_,_,rfl,hZ ⟨by omega,(uZ HJ66),uZ HL9,by omega⟩,hZ ⟨uZ S61,uZ HKn_61⟩⟩
       ·have HJ66:=hZ ((by have:=(uZ HJ65);rw [if_neg (by rw [hq2];decide)] at this;exact this))
        clear HJ65
        have CC:=hZ ((by have:=signq_any (uZ S59).rd [44];rw [hq2] at this;exact this))
        go_wp2_with fail
        refine(uZ CC).mono ?_
        rintro e w60 ⟨rfl,b⟩
        have S60:=hZ ((uZ S59).below b)
        have HKn_60:=hZ ((uZ HKn_59).beside (Beside.of_below (gr:=c.g) b) (by omega))
        clear b CC S59 HKn_59
        have CC:=hZ (closes_any (uZ S60).rd [125])
        go_wp2_with fail
        refine(uZ CC).mono ?_
        rintro e w61 ⟨rfl,r2,b⟩
        have S61:=hZ ((uZ S60).go (d':=0) b r2)
        have HKn_61:=hZ ((uZ HKn_60).beside b (by omega))
        clear b r2 CC S60 HKn_60
        have HR:=hZ (okq_some (uZ HJ66))
        go_wp2_with fail
        go_ret
        rw [uZ HR]
        exact⟨some ⟨g5,0,none⟩,cap5,_,_,by show _=Ending.returned (.slice _ (acc++[nd0 20 t nsy p]).length _);rw [uZ HL9];rfl,by show Kr _ _ _ (.slice _ (acc++[nd0 20 t nsy p]).length _) _ _;rw [uZ HL9];exact uZ HKn_61,(uZ S61).rd,(uZ S61).bs⟩
     ·have HJ64:=hZ ((by have:=(uZ HJ63);rw [if_pos (Or.inl ⟨hk1,hk4⟩)] at this;exact this))
      clear HJ63
      have n4:¬(k:Int)=4:=by omega
      have m4:((k:Int) == 4)=false:=beq_eq_false_iff_ne.2 n4
      have o4:((k:Int) != 4)=true:=by simp;omega
      obtain⟨Bc0,Bc1,Bc2,Bc3⟩:=row_cell4 (uZ HBB_52)
      have CC:=hZ (wrong_any (uZ S52).rd 170)
      go_wp2_with fail
      refine(uZ CC).mono ?_
      rintro e w53 ⟨rfl,r2,b⟩
      have S53:=hZ ((uZ S52).go (d':=0) b r2)
      have HBB_53:=bx_go HBB_52 b (by omega)
      have HKa_53:=hZ ((uZ HKa_52).beside b (by omega))
      clear b r2 CC S52 HBB_52 HKa_52
      have HR:=hZ (okq_some (uZ HJ64))
      go_wp2_with fail
      go_ret
      rw [uZ HR]
      exact⟨ak,ck,_,_,by rw [hlna];rfl,by rw [hlna];exact uZ HKa_53,(uZ S53).rd,(uZ S53).bs⟩
   ·have HJ62:=hZ ((by have:=(uZ HJ61);rw [if_neg he] at this;exact this))
    clear HJ61
    have he0:¬((sa.e:Nat):Int)=0:=by omega
    have he1:(((sa.e:Nat):Int) == 0)=false:=beq_eq_false_iff_ne.2 he0
    have ec:=(uZ S50).rd.cells.2.2.2.1
    have CC:=hZ (closes_any (uZ S50).rd [125])
    go_wp2_with fail
    refine(uZ CC).mono ?_
    rintro e w51 ⟨rfl,r2,b⟩
    have S51:=hZ ((uZ S50).go (d':=0) b r2)
    have HKa_51:=hZ ((uZ HKa_50).beside b (by omega))
    clear b r2 CC S50 HKa_50
    have HR:=hZ (okq_some (uZ HJ62))
    go_wp2_with fail
    go_ret
    rw [uZ HR]
    exact⟨ak,ck,_,_,by rw [hlna];rfl,by rw [hlna];exact uZ HKa_51,(uZ S51).rd,(uZ S51).bs⟩
end Go.Proofs.YtilhlmmcdfoaoaaGreatDoor
