/-
  The walk of the document's All (layer 16); no conditions.
  Layer 17 (parse): what read defers: a fault that was panicked with becomes the answer; no conditions.
-/
import Derived.Test.YtilhlmmcdfoaoaaGreatDoorE30
import Derived.Test.YtilhlmmcdfoaoaaGreatDoorE10
import Derived.Defers
import Derived.Recover
import Derived.Laws.Pointers
set_option linter.unusedVariables false
set_option linter.unusedSimpArgs false
namespace Go.Proofs.YtilhlmmcdfoaoaaGreatDoor
open Go.RowKit
set_option linter.unusedVariables false
set_option linter.unusedSimpArgs false
set_option maxRecDepth 100000 in
set_option maxHeartbeats 2000000 in
theorem allD_any (s:ByteArray) (w:World) :
  Calls Tryz.prog 12 #[.string s] w fun e w'=>AllR w.heap.size e w' (allT s.data.toList)∧Below w.heap.size w w':=by
 by_cases hbig:8192<s.size
 ·have hE:allT s.data.toList=.error (0,160):=by unfold allT;rw [len_list,if_pos hbig]
  rw [hE]
  have j1:(8192:Int)<(s.size:Int):=by omega
  unfold AllR
  go_enter Tryz.func12,Tryz.ntmps12
  go_wp2_with fail
  exact bodyPost_ret (ret_ttt (p:=2) (u:=3) (v:=4) rfl _ _) rfl ⟨rfl,Below.refl _ _⟩
 have j1:¬(8192:Int)<(s.size:Int):=by omega
 have hs2:(s.size:Int)≤8192:=by omega
 have hs:s.size≤8192:=by omega
 obtain⟨b0,hb0⟩:∃b0,blk false s.data.toList=b0:=⟨_,rfl⟩
 have hE:allT s.data.toList=lpT (s.size+1) b0 (s.data.toList.drop b0):=by unfold allT;rw [len_list,if_neg hbig,hb0]
 have hb0l:b0≤s.size:=by rw [←hb0,←len_list];exact blk_le _ _
 rw [hE]
 obtain⟨R,hR⟩:∃R,lpT (s.size+1) b0 (s.data.toList.drop b0)=R:=⟨_,rfl⟩
 have HR:=hZ hR
 rw [hR]
 obtain⟨B,hB⟩:∃B,w.heap.size=B:=⟨_,rfl⟩
 have HB:=hZ hB
 have C00:=blanksD_any s 0 (by omega) (by omega) w
 rw [List.drop_zero,Nat.zero_add,hb0] at C00
 have C0:Hid (Calls Tryz.prog 21 #[.string s,.int .i64 0] w fun e w'=>e=.returned (.int .i64 (b0:Int))∧w'=w):=hZ C00
 clear C00
 have HEV:Hid (∀u,Below B w u→B≤u.heap.size):=hZ (fun u hu=>by have:=hu.size;omega)
 obtain⟨it,hi,hz0,hzs,hzb⟩:=info_parts infoTok
 have HI:=hZ (And.intro hi (And.intro hz0 (And.intro hzs hzb)))
 have HBL:=hZ hb0l
 clear hE hR hb0 hi hz0 hzs hzb hbig
 rw [hB]
 clear hB
 go_enter Tryz.func12,Tryz.ntmps12
 go_wp2_with fail
 refine(uZ C0).mono ?_
 rintro e u0 ⟨rfl,hu0⟩
 obtain rfl:=hu0.symm
 have HU0:Hid (Below B w w):=hZ (Below.refl _ _)
 clear C0
 go_wp2_with fail
 go_loopw [5,6] (fun v x wr=>∃(p f:Nat) (ts:List Tk),x=.int .i64 (p:Int)∧p≤s.size∧Hid (wr.ownsRow B 52 4 v ts.length (flT ts)∧R=preT ts (lpT f p (s.data.toList.drop p))∧(s.data.toList.drop p).length<f∧ts.length+(s.size - p)≤8192∧Below B w wr)) (fun _ x _=>s.size - (intOf x).toNat)
 case atStart=>exact⟨b0,s.size+1,[],rfl,uZ HBL,hZ ⟨⟨rfl,Or.inl ⟨rfl,rfl⟩⟩,by rw [uZ HR,preT_nil],by rw [List.length_drop,len_list];omega,by simp;omega,uZ HU0⟩⟩
 case round=>
  clear HU0 HBL HR
  obtain⟨p,f,ts,rfl,hps,HX⟩:=hrel
  obtain⟨q8,p8,rfl,hsl⟩:=slice_form (uZ HX).1
  clear hsl
  have hbel:=hZ (uZ HX).2.2.2.2
  obtain⟨f',rfl⟩:∃f',f=f'+1:=⟨f - 1,by have:=(uZ HX).2.2.1;omega⟩
  by_cases hlt:p<s.size
  ·have k1:(p:Int)<(s.size:Int):=by omega
   have t1:(p:Int)≤(s.size:Int):=by omega
   have CF:=hZ (tokenD_any s p hlt hs wr)
   have hdq:=drop_at s p hlt
   have hlp:=lp_cons f' p (s[p]'hlt) (s.data.toList.drop (p+1))
   rw [←hdq] at hlp
   cases hf:fstT (s.data.toList.drop p) with
   |error er=>
    rw [hf] at CF hlp
    have CF2:Hid (Calls Tryz.prog 22 #[.string s,.int .i64 (p:Int)] wr fun e w'=>e=.returned (.tuple #[.agg #[.int .i64 0,.string ⟨#[]⟩,.int .i64 0,.int .i64 0],.int .i64 0,.int .i64 (er:Int)])∧Below wr.heap.size wr w'):=CF
    have her:161≤er∧er≤164:=fst_err hf
    have e1:((er:Int) == 0)=false:=beq_eq_false_iff_ne.2 (by omega)
    have e2:((er:Int) != 0)=true:=by simp;omega
    have e3:¬(er:Int)=0:=by omega
    have HE:Hid (R=.error (p,er)):=hZ (by rw [(uZ HX).2.1,hlp];rfl)
    clear HX hdq hlp hf CF her
    go_wp2_with fail
    refine(uZ CF2).mono ?_
    rintro e u2 ⟨rfl,b2⟩
    have HU2:Hid (Below B w u2):=hZ ((uZ hbel).trans (b2.mono (uZ HEV wr (uZ hbel))))
    clear b2 CF2
    go_upto_region 7 with fail
    obtain⟨w4,hw4⟩:∃w4,w4=u2.alloc (.cells #[.int .i64 0,.string ⟨#[]⟩,.int .i64 0,.int .i64 0] 52):=⟨_,rfl⟩
    rw [←hw4]
    have HU4:Hid (Below B w w4):=hZ (by rw [hw4];exact(uZ HU2).alloc (uZ HEV u2 (uZ HU2)) _)
    clear hw4
    go_wp2_with fail
    refine bodyPost_ret (ret_ttt (p:=2) (u:=3) (v:=4) rfl _ _) rfl ⟨?_,uZ HU4⟩
    rw [uZ HE]
    exact rfl
   |ok x=>
    obtain⟨t,n⟩:=x
    have hnp:=fst_pos hf
    rw [List.length_drop,len_list] at hnp
    have htp:=(fst_zero hf).1
    obtain⟨tk,tt,tn,tp⟩:=t
    rw [hf] at CF hlp
    simp only at hlp htp
    subst htp
    have CF2:Hid (Calls Tryz.prog 22 #[.string s,.int .i64 (p:Int)] wr fun e w'=>e=.returned (.tuple #[.agg #[.int .i64 (tk:Int),.string (bA tt),.int .i64 (tn:Int),.int .i64 (p:Int)],.int .i64 ((p+n:Nat):Int),.int .i64 0])∧Below wr.heap.size wr w'):=CF
    obtain⟨V,hV⟩:∃V,bA tt=V:=⟨_,rfl⟩
    rw [hV] at CF2
    obtain⟨m,hm⟩:∃m,blk false (s.data.toList.drop (p+n))=m:=⟨_,rfl⟩
    have hml:m≤s.size - (p+n):=by rw [←hm,←len_list,←List.length_drop];exact blk_le _ _
    have CBk:=hZ (fun u=>blanksD_any s (p+n) (by omega) (by omega) u)
    rw [hm] at CBk
    obtain⟨b,hb⟩:∃b,p+n=b:=⟨_,rfl⟩
    obtain⟨d,hd⟩:∃d,b+m=d:=⟨_,rfl⟩
    rw [hb] at CBk CF2
    rw [hd] at CBk
    have HBD:=hZ (And.intro hb hd)
    have HNX:Hid (R=preT (ts++[⟨tk,tt,tn,p⟩]) (lpT f' (p+n+m) (s.data.toList.drop (p+n+m)))):=hZ (by
     rw [(uZ HX).2.1,hlp,preT_add,List.drop_drop,hm,List.drop_drop]
     rfl)
    have HFL:Hid (flT (ts++[⟨tk,tt,tn,p⟩])=flT ts++[.int .i64 (tk:Int),.string V,.int .i64 (tn:Int),.int .i64 (p:Int)]):=hZ (by rw [flT_one];unfold tkL;rw [hV])
    have HNP:=hZ (And.intro hnp hml)
    have HLN:=hZ (And.intro (uZ HX).2.2.1 (uZ HX).2.2.2.1)
    have HOW:=hZ (uZ HX).1
    have hpn:(b:Int)≤(s.size:Int):=by omega
    have hpm:(d:Int)≤(s.size:Int):=by omega
    obtain⟨N,hN⟩:∃N,ts.length=N:=⟨_,rfl⟩
    rw [hN] at HOW HLN ⊢
    have hN2:N≤8192:=by have:=(uZ HLN).2;omega
    have HNN:=hZ hN
    clear HX hdq hlp hf CF hnp hml hm hV hN hb hd
    go_wp2_with fail
    refine(uZ CF2).mono ?_
    rintro e u2 ⟨rfl,b2⟩
    have HU2:Hid (Below B w u2∧u2.ownsRow B 52 4 (.slice q8 N p8) N (flT ts)):=hZ ⟨(uZ hbel).trans (b2.mono (uZ HEV wr (uZ hbel))),own_later (uZ HOW) (fun b hb _=>b2.block b hb)⟩
    clear b2 CF2 HOW
    go_upto_region 7 with fail
    obtain⟨g4,hg4⟩:∃g4,u2.heap.size=g4:=⟨_,rfl⟩
    obtain⟨w5,hw5⟩:∃w5,w5=u2.alloc (.cells #[.int .i64 (tk:Int),.string V,.int .i64 (tn:Int),.int .i64 (p:Int)] 52):=⟨_,rfl⟩
    rw [←hw5]
    have A5:w5.heap[g4]?=some (.cells #[.int .i64 (tk:Int),.string V,.int .i64 (tn:Int),.int .i64 (p:Int)] 52 (0,0)):=by rw [hw5,←hg4];exact heap_alloc_new u2 _
    have HU5:Hid (Below B w w5∧w5.ownsRow B 52 4 (.slice q8 N p8) N (flT ts)∧B≤w5.heap.size):=hZ (by
     have h25:Below u2.heap.size u2 w5:=by rw [hw5];exact(Below.refl _ _).alloc (Nat.le_refl _) _
     have hBu:=uZ HEV u2 (uZ HU2).1
     exact⟨(uZ HU2).1.trans (h25.mono hBu),own_later (uZ HU2).2 (fun b hb _=>h25.block b hb),Nat.le_trans hBu h25.size⟩)
    clear hw5
    rw [hg4]
    obtain⟨a0,a1,a2,a3⟩:=row_cell4 A5
    have hl5:g4<w5.heap.size:=(Array.getElem?_eq_some_iff.1 A5).1
    clear A5
    have tokB:True:=trivial
    go_upto_region 10 with (first|(have _t:=tokB;at_builtin;refine wpl_oneG rfl (.tmp 30) (.tmp 32) 40 52 it (.agg #[.int .i64 0,.string ⟨#[]⟩,.int .i64 0,.int .i64 0]) 4 40 Tryz.underlying40 (uZ HI).1 (uZ HI).2.1 (uZ HI).2.2.1 (uZ HI).2.2.2 rfl (by omega) rfl B N (.slice q8 N p8) (flT ts) [.int .i64 (tk:Int),.string V,.int .i64 (tn:Int),.int .i64 (p:Int)] rfl (by simp [Value.oneCell']) rfl (uZ HU5).2.1 rfl (by unfold maxLen;omega) (by omega) (uZ HU5).2.2 ?_;intro v8 w8 H8;clear tokB;obtain⟨q9,p9,rfl,hsl⟩:=slice_form (uZ H8).1;clear hsl))
    have HU8:Hid (Below B w w8∧w8.ownsRow B 52 4 (.slice q9 (N+1) p9) (N+1) (flT (ts++[⟨tk,tt,tn,p⟩]))):=hZ (by
     obtain⟨h1,h2,_⟩:=uZ H8
     rw [uZ HFL]
     exact⟨(uZ HU5).1.trans ((Below.refl _ _).grown h2 (uZ HU5).2.2 (fun k e=>((uZ HU5).2.1.lt k e).1)),h1⟩)
    clear H8 a0 a1 a2 a3 hl5
    go_wp2_with fail
    refine((uZ CBk) _).mono ?_
    rintro e u9 ⟨rfl,hu9⟩
    obtain rfl:=hu9.symm
    have HU9:=HU8
    clear CBk
    go_wp2_with fail
    go_roundw
    case rel=>
     obtain⟨hb,hd⟩:=uZ HBD
     refine⟨d,f',ts++[⟨tk,tt,tn,p⟩],rfl,by omega,hZ ⟨?_,by rw [←hd,←hb];exact uZ HNX,?_,?_,(uZ HU9).1⟩⟩
     ·rw [List.length_append,uZ HNN]
      exact(uZ HU9).2
     ·have h1:=(uZ HLN).1
      have h2:=uZ HNP
      rw [List.length_drop,len_list] at h1 ⊢
      omega
     ·have h1:=(uZ HLN).2
      have h2:=uZ HNP
      rw [List.length_append,uZ HNN]
      simp
      omega
    case measure=>have h2:=uZ HNP;obtain⟨hb,hd⟩:=uZ HBD;simp [intOf];omega
  ·have k1:¬(p:Int)<(s.size:Int):=by omega
   have ep:p=s.size:=by omega
   have HE:Hid (R=.ok (ts++[endT p])):=hZ (by
    rw [(uZ HX).2.1,List.drop_of_length_le (by rw [len_list];omega)]
    rfl)
   obtain⟨N,hN⟩:∃N,ts.length=N:=⟨_,rfl⟩
   have HOW:=hZ (uZ HX).1
   have hN2:N≤8192:=by have:=(uZ HX).2.2.2.1;omega
   rw [hN] at HOW ⊢
   have HNN:=hZ hN
   have HFL:Hid (flT (ts++[endT p])=flT ts++[.int .i64 0,.string ⟨#[]⟩,.int .i64 0,.int .i64 (s.size:Int)]):=hZ (by rw [flT_one,ep];rfl)
   have hBr:=(uZ HEV wr (uZ hbel))
   clear HX hN ep
   have tokB:True:=trivial
   go_wp2_with (first|(have _t:=tokB;at_builtin;refine wpl_oneG rfl (.tmp 37) (.tmp 41) 40 52 it (.agg #[.int .i64 0,.string ⟨#[]⟩,.int .i64 0,.int .i64 0]) 4 40 Tryz.underlying40 (uZ HI).1 (uZ HI).2.1 (uZ HI).2.2.1 (uZ HI).2.2.2 rfl (by omega) rfl B N (.slice q8 N p8) (flT ts) [.int .i64 0,.string ⟨#[]⟩,.int .i64 0,.int .i64 (s.size:Int)] rfl (by simp [Value.oneCell']) rfl (uZ HOW) rfl (by unfold maxLen;omega) (by omega) hBr ?_;intro v8 w8 H8;clear tokB))
   refine bodyPost_ret (ret_ttt (p:=2) (u:=3) (v:=4) rfl _ _) rfl ⟨?_,?_⟩
   ·rw [uZ HE]
    refine⟨v8,rfl,?_⟩
    rw [List.length_append,uZ HNN,uZ HFL]
    exact(uZ H8).1
   ·exact(uZ hbel).trans ((Below.refl _ _).grown (uZ H8).2.1 hBr (fun k e=>((uZ HOW).lt k e).1))
theorem as_flt (v:Value) (w:World):(Instr.typeAssert (.iface 48 v) 20 48 false).run Tryz.prog w=.ok v w:=by kernel_rfl
def ndZ:Array Value:=#[.int .i64 0,.string ⟨#[]⟩,.int .i64 0,.int .i64 0,.string ⟨#[]⟩,.slice none 0 0,.slice none 0 0,.bool false,.slice none 0 0,.int .i64 0]
structure B3 (g:Nat) (n:Array Value) (p c:Int) (w:World):Prop where
 b0:w.heap[g]?=some (.cells n 29 (0,0))
 b1:w.heap[g+1]?=some (.cells #[.int .i64 p] 3 (0,0))
 b2:w.heap[g+2]?=some (.cells #[.int .i64 c] 30 (0,0))
theorem B3.drew {g:Nat} {n:Array Value} {p c:Int} {w:World} (h:B3 g n p c w):B3 g n p c w.drew:=⟨h.b0,h.b1,h.b2⟩
theorem b3_set {g:Nat} {x0 x1 x2 x3 x4 x5 x6 x7 x8 x9:Value} {p0 c0:Int} {w1:World} (h:B3 g #[x0,x1,x2,x3,x4,x5,x6,x7,x8,x9] p0 c0 w1) (v0 v1 v2 v3 v4 v5 v6 v7 v8 v9:Value) (q c:Int) :
  B3 g #[v0,v1,v2,v3,v4,v5,v6,v7,v8,v9] q c ((((((((((((w1.setCell ⟨g,0,none⟩ v0).setCell ⟨g,1,none⟩ v1).setCell ⟨g,2,none⟩ v2).setCell ⟨g,3,none⟩ v3).setCell ⟨g,4,none⟩ v4).setCell ⟨g,5,none⟩ v5).setCell ⟨g,6,none⟩ v6).setCell ⟨g,7,none⟩ v7).setCell ⟨g,8,none⟩ v8).setCell ⟨g,9,none⟩ v9).setCell ⟨g+1,0,none⟩ (.int .i64 q)).setCell ⟨g+2,0,none⟩ (.int .i64 c)):=by
 have P0:=set10 h.b0 v0 v1 v2 v3 v4 v5 v6 v7 v8 v9
 have P1:∀b,b≠g→((((((((((w1.setCell ⟨g,0,none⟩ v0).setCell ⟨g,1,none⟩ v1).setCell ⟨g,2,none⟩ v2).setCell ⟨g,3,none⟩ v3).setCell ⟨g,4,none⟩ v4).setCell ⟨g,5,none⟩ v5).setCell ⟨g,6,none⟩ v6).setCell ⟨g,7,none⟩ v7).setCell ⟨g,8,none⟩ v8).setCell ⟨g,9,none⟩ v9).heap[b]?=w1.heap[b]?:=fun b hb=>by
  iterate 10 rw [heap_setCell_other _ _ _ _ hb]
 generalize ((((((((((w1.setCell ⟨g,0,none⟩ v0).setCell ⟨g,1,none⟩ v1).setCell ⟨g,2,none⟩ v2).setCell ⟨g,3,none⟩ v3).setCell ⟨g,4,none⟩ v4).setCell ⟨g,5,none⟩ v5).setCell ⟨g,6,none⟩ v6).setCell ⟨g,7,none⟩ v7).setCell ⟨g,8,none⟩ v8).setCell ⟨g,9,none⟩ v9)=u at P0 P1 ⊢
 have D1:=(P1 (g+1) (by omega)).trans h.b1
 have D2:=(P1 (g+2) (by omega)).trans h.b2
 refine⟨?_,?_,?_⟩
 ·rw [heap_setCell_other _ _ _ _ (show g≠g+2 by omega),heap_setCell_other _ _ _ _ (show g≠g+1 by omega)]
  exact P0
 ·rw [heap_setCell_other _ _ _ _ (show g+1≠g+2 by omega),heap_setCell_same _ (g+1) 0 _ _ _ D1]
  rfl
 ·have D3:(u.setCell ⟨g+1,0,none⟩ (.int .i64 q)).heap[g+2]?=some (.cells #[.int .i64 c0] 30 (0,0)):=by rw [heap_setCell_other _ _ _ _ (show g+2≠g+1 by omega)];exact D2
  rw [heap_setCell_same _ (g+2) 0 _ _ _ D3]
  rfl
theorem b3_oth {g:Nat} {w1:World} (v0 v1 v2 v3 v4 v5 v6 v7 v8 v9 y z:Value):(∀b,b≠g→b≠g+1→b≠g+2→((((((((((((w1.setCell ⟨g,0,none⟩ v0).setCell ⟨g,1,none⟩ v1).setCell ⟨g,2,none⟩ v2).setCell ⟨g,3,none⟩ v3).setCell ⟨g,4,none⟩ v4).setCell ⟨g,5,none⟩ v5).setCell ⟨g,6,none⟩ v6).setCell ⟨g,7,none⟩ v7).setCell ⟨g,8,none⟩ v8).setCell ⟨g,9,none⟩ v9).setCell ⟨g+1,0,none⟩ y).setCell ⟨g+2,0,none⟩ z).heap[b]?=w1.heap[b]?)∧Below g w1 ((((((((((((w1.setCell ⟨g,0,none⟩ v0).setCell ⟨g,1,none⟩ v1).setCell ⟨g,2,none⟩ v2).setCell ⟨g,3,none⟩ v3).setCell ⟨g,4,none⟩ v4).setCell ⟨g,5,none⟩ v5).setCell ⟨g,6,none⟩ v6).setCell ⟨g,7,none⟩ v7).setCell ⟨g,8,none⟩ v8).setCell ⟨g,9,none⟩ v9).setCell ⟨g+1,0,none⟩ y).setCell ⟨g+2,0,none⟩ z):=by
 refine⟨fun b h0 h1 h2=>?_,?_⟩
 ·rw [heap_setCell_other _ _ _ _ h2,heap_setCell_other _ _ _ _ h1]
  iterate 10 rw [heap_setCell_other _ _ _ _ h0]
 ·have e:∀(x:World) (b f:Nat) (v:Value),g≤b→Below g w1 x→Below g w1 (x.setCell ⟨b,f,none⟩ v):=fun x b f v hb hx=>hx.setCell (p:=⟨b,f,none⟩) hb v
  refine e _ _ _ _ (by omega) (e _ _ _ _ (by omega) ?_)
  iterate 10 refine e _ _ _ _ (Nat.le_refl _) ?_
  exact Below.refl _ _
set_option maxRecDepth 100000 in
set_option maxHeartbeats 4000000 in
theorem catch_flt (g:Nat) (x0 x1 x2 x3 x4 x5 x6 x7 x8 x9:Value) (p0 c0:Int) (c q:Int) (older:List PanicEntry) (w:World) (h:B3 g #[x0,x1,x2,x3,x4,x5,x6,x7,x8,x9] p0 c0 w) :
  CallsD Tryz.prog 17 #[.pointer (some ⟨g,0,none⟩),.pointer (some ⟨g+1,0,none⟩),.pointer (some ⟨g+2,0,none⟩)] (.panicking ({ v:=.iface 48 (.agg #[.int .i64 c,.int .i64 q]),recovered:=false } :: older)) w fun e u' w'=>
   e=.returned (.tuple #[])∧u'=.panicking ({ v:=.iface 48 (.agg #[.int .i64 c,.int .i64 q]),recovered:=true } :: older)∧B3 g ndZ q c w'∧Below g w w':=by
 obtain⟨G,hG⟩:∃G,w.heap.size=G:=⟨_,rfl⟩
 have z0:g<G:=by rw [←hG];exact(Array.getElem?_eq_some_iff.1 h.b0).1
 have z1:g+1<G:=by rw [←hG];exact(Array.getElem?_eq_some_iff.1 h.b1).1
 have z2:g+2<G:=by rw [←hG];exact(Array.getElem?_eq_some_iff.1 h.b2).1
 refine callsD_of_wpS Tryz.func17 rfl fun c₀ cs hu=>?_
 apply wpS_seq
 apply wpS_region
 simp [wpOpsS,go_sem,recoverD,hu,Tryz.ntmps17,Exit.thenS]
 apply wpS_seq
 apply wpS_region
 simp [wpOpsS,go_sem,Exit.thenS,Array.replicate]
 refine wpS_cond (t:=true) (by simp [Act.eval]) ?_
 simp only [if_true]
 apply wpS_seq
 apply wpS_region
 simp [wpOpsS,go_sem,as_flt,Exit.thenS]
 obtain⟨w1,hw1⟩:∃w1,w.alloc (.cells #[.int .i64 c,.int .i64 q] 48)=w1:=⟨_,rfl⟩
 have A1:w1.heap[G]?=some (.cells #[.int .i64 c,.int .i64 q] 48 (0,0)):=by rw [←hw1,←hG];exact heap_alloc_new _ _
 have B1:Below w.heap.size w w1:=by rw [←hw1];exact(Below.refl _ _).alloc (Nat.le_refl _) _
 have D0:=(B1.block g (by omega)).trans h.b0
 have D1:=(B1.block (g+1) (by omega)).trans h.b1
 have D2:=(B1.block (g+2) (by omega)).trans h.b2
 rw [hw1,hG]
 have a0:w1.cell? ⟨G,0,none⟩=some (.int .i64 c):=by simp [World.cell?,A1]
 have a1:w1.cell? ⟨G,1,none⟩=some (.int .i64 q):=by simp [World.cell?,A1]
 obtain⟨e0,e1,e2,e3,e4,e5,e6,e7,e8,e9⟩:=row_cell10 D0
 obtain⟨f0,f1,f2,f3,f4,f5,f6,f7,f8,f9⟩:=frozen10 D0
 have k1:w1.cell? ⟨g+1,0,none⟩=some (.int .i64 p0):=by simp [World.cell?,D1]
 have k2:w1.cell? ⟨g+2,0,none⟩=some (.int .i64 c0):=by simp [World.cell?,D2]
 have m1:=frozen_of_row w1 (g+1) 0 _ _ D1
 have m2:=frozen_of_row w1 (g+2) 0 _ _ D2
 have HD:=hZ (And.intro D0 (And.intro D1 (And.intro D2 B1)))
 have HZ:=hZ (And.intro z0 (And.intro z1 (And.intro z2 hG)))
 clear D0 D1 D2 A1 B1 h hw1
 refine wpS_of_wp ?_
 go_region
 obtain⟨D0,D1,D2,B1⟩:=uZ HD
 clear HD HZ
 simp [bodyPostS,results,Tryz.results17]
 have b3:Below g w w1:=⟨B1.os,B1.tape,B1.output,B1.size,fun k hk=>B1.block k (by omega)⟩
 exact⟨(b3_set ⟨D0,D1,D2⟩ _ _ _ _ _ _ _ _ _ _ _ _).drew,(b3.trans (b3_oth _ _ _ _ _ _ _ _ _ _ _ _).2).drew⟩
theorem catch_none (g:Nat) (w:World) :
  CallsD Tryz.prog 17 #[.pointer (some ⟨g,0,none⟩),.pointer (some ⟨g+1,0,none⟩),.pointer (some ⟨g+2,0,none⟩)] .returning w fun e u' w'=>e=.returned (.tuple #[])∧u'=.returning∧w'=w:=by
 refine callsD_of_wpS Tryz.func17 rfl fun c₀ cs hu=>?_
 apply wpS_seq
 apply wpS_region
 simp [wpOpsS,go_sem,recoverD,hu,Tryz.ntmps17,Exit.thenS]
 apply wpS_seq
 apply wpS_region
 simp [wpOpsS,go_sem,Exit.thenS,Array.replicate]
 refine wpS_cond (t:=false) (by simp [Act.eval]) ?_
 simp only [Bool.false_eq_true,if_false]
 refine wpS_of_wp (wp_skip ?_)
 cases c₀
 simp_all [bodyPostS,results,Tryz.results17]
end Go.Proofs.YtilhlmmcdfoaoaaGreatDoor
