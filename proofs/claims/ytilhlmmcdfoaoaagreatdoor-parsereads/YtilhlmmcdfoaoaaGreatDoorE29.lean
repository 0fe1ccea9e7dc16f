/-
  The walks of the document's quoted, Signs, sign (layer 16); conditions: a text of at most 8192 bytes.
  The walk of the document's token (layer 16); conditions: a text of at most 8192 bytes.
  The walk of the document's token (layer 16); conditions: a text of at most 8192 bytes.
-/
import Derived.Test.YtilhlmmcdfoaoaaGreatDoorE28
import Derived.Test.YtilhlmmcdfoaoaaGreatDoorE07
import Derived.Deep.RegionHeld3
import Derived.BigRegion
set_option linter.unusedVariables false
set_option linter.unusedSimpArgs false
namespace Go.Proofs.YtilhlmmcdfoaoaaGreatDoor
open Go.RowKit
set_option linter.unusedVariables false
set_option linter.unusedSimpArgs false
def byV (l:List UInt8):List Value:=(l.map (fun c=>(c.toNat:Int))).map (Value.int .u8)
theorem byV_one (l:List UInt8) (c:UInt8):byV (l++[c])=byV l++[.int .u8 (c.toNat:Int)]:=by unfold byV;rw [List.map_append,List.map_append];rfl
theorem nums_str (l:List UInt8):strOfNums (l.map (fun c=>(c.toNat:Int)))=bA l:=by
 unfold strOfNums bA
 rw [List.map_map]
 congr 2
 have:((fun n:Int=>UInt8.ofNat n.toNat) ∘ fun c:UInt8=>(c.toNat:Int))=id:=by
  funext c
  simp
 rw [this,List.map_id]
theorem conv_bytes {w:World} {B n:Nat} {v:Value} {l:List UInt8} (h:w.ownsRow B 5 1 v n (byV l)) (hn:l.length=n) :
  ∃ao cap,v=.slice ao n cap∧Sem.run Tryz.prog (convert 77 9 (.slice ao n cap)) w=.ok (.string (bA l)) w:=by
 cases n with
 |zero=>
  have hl:l=[]:=List.eq_nil_of_length_eq_zero hn
  subst hl
  rcases h.2 with ⟨e,_⟩|⟨b,cap,cur,e,hbb,hcur,hrest⟩
  ·exact⟨none,0,e,run_convert_bytes_nil (P:=Tryz.prog) w 77 5 Tryz.underlying77 Tryz.underlying5 0 0 9 Tryz.underlying9⟩
  ·refine⟨some ⟨b,0,none⟩,cap,e,?_⟩
   have:=run_convert_bytes_arg (P:=Tryz.prog) w 77 5 Tryz.underlying77 Tryz.underlying5 b 0 0 cap [] rfl (fun j hj=>by omega) 9 Tryz.underlying9
   rw [this]
   rfl
 |succ n=>
  obtain⟨b,cap,rfl,hr⟩:=byte_conv (zs:=l.map (fun c=>(c.toNat:Int))) h
  refine⟨_,cap,rfl,?_⟩
  rw [hr,nums_str]
def quoV (a:Nat):Option (List UInt8 × Nat)→Value
 |none=>.tuple #[.string ⟨#[]⟩,.int .i64 0,.bool false]
 |some (bs,m)=>.tuple #[.string (bA bs),.int .i64 ((a+m:Nat):Int),.bool true]
set_option maxRecDepth 100000 in
set_option maxHeartbeats 2000000 in
theorem quotedD_any (s:ByteArray) (a:Nat) (ha:a<s.size) (hs:s.size≤8192) (w:World) :
  Calls Tryz.prog 42 #[.string s,.int .i64 (a:Int)] w fun e w'=>e=.returned (quoV a (bytV (s.data.toList.drop (a+1))))∧Below w.heap.size w w':=by
 obtain⟨r,hr⟩:∃r,s.data.toList.drop (a+1)=r:=⟨_,rfl⟩
 have hrl:r.length=s.size - (a+1):=by rw [←hr,List.length_drop,len_list]
 obtain⟨R,hR⟩:∃R,quoV a (bytV r)=R:=⟨_,rfl⟩
 have HR:Hid (∀x,bytV r=x→R=quoV a x):=hZ (fun x hx=>by rw [←hR,hx])
 rw [hr,hR]
 have hs2:(s.size:Int)≤8192:=by omega
 have HRR:=hZ (And.intro hr hrl)
 obtain⟨it,hi,hz0,hzs,hzb⟩:=info_parts infoBc
 have HI:=hZ (And.intro hi (And.intro hz0 (And.intro hzs hzb)))
 obtain⟨B,hB⟩:∃B,w.heap.size=B:=⟨_,rfl⟩
 have HBB:=hZ hB
 rw [hB]
 clear hR hr hrl hi hz0 hzs hzb hB
 go_enter Tryz.func42,Tryz.ntmps42
 go_wp2_with fail
 go_loopw [1,7] (fun x v wr=>∃(q f:Nat) (out:List UInt8),x=.int .i64 (q:Int)∧a+1≤q∧q≤s.size∧Hid (out.length≤2048∧(s.data.toList.drop q).length<f∧pcs (r.length+1) r=preP out (q - (a+1)) (pcs f (s.data.toList.drop q))∧wr.ownsRow B 5 1 v out.length (byV out)∧Below B w wr)) (fun x _ _=>s.size - (intOf x).toNat)
 case atStart=>exact⟨a+1,r.length+1,[],by first|rfl|go_num,Nat.le_refl _,ha,hZ ⟨by simp,by rw [(uZ HRR).1];omega,by
   rw [(uZ HRR).1,Nat.sub_self]
   cases pcs (r.length+1) r with
   |none=>rfl
   |some y=>simp [preP],⟨rfl,Or.inl ⟨rfl,rfl⟩⟩,Below.refl _ _⟩⟩
 case round=>
  obtain⟨q,f,out,rfl,hq1,hqs,HX⟩:=hrel
  obtain⟨q8,p8,rfl,hsl⟩:=slice_form (uZ HX).2.2.2.1
  clear hsl
  have hBw:B≤wr.heap.size:=by
   have h1:=(uZ HX).2.2.2.2.size
   have h2:=uZ HBB
   omega
  obtain⟨N,hN⟩:∃N,out.length=N:=⟨_,rfl⟩
  have HNN:=hZ hN
  rw [hN] at HX ⊢
  by_cases hlt:q<s.size
  ·have j1:(q:Int)<(s.size:Int):=by omega
   have hdq:=drop_at s q hlt
   obtain⟨c,hc⟩:∃c,s[q]'hlt=c:=⟨_,rfl⟩
   obtain⟨z,hz⟩:∃z:Nat,c.toNat=z:=⟨_,rfl⟩
   have hzi:((s[q]'hlt).toNat:Int)=(z:Int):=by rw [hc,hz]
   rw [hc] at hdq
   obtain⟨f',rfl⟩:∃f',f=f'+1:=⟨f - 1,by have:=(uZ HX).2.1;omega⟩
   have HC:=hZ (And.intro hz hdq)
   have nge:¬(s.size:Int)≤(q:Int):=by omega
   by_cases h34:z=34
   ·have k1:((z:Int) == 34)=true:=beq_iff_eq.2 (by omega)
    have k2:((z:Int) != 34)=false:=by simp [show (z:Int)=34 by omega]
    have hpe:pcs (r.length+1) r=some (out,q - (a+1)+1):=by
     rw [(uZ HX).2.2.1,hdq,pcs_end f' c _ (by omega)]
     simp [preP]
    by_cases hfull:2047<N
    ·have n1:(2047:Int)<(N:Int):=by omega
     have HE:Hid (R=.tuple #[.string ⟨#[]⟩,.int .i64 0,.bool false]):=hZ (by
      have h2:bytV r=none:=by
       unfold bytV
       rw [hpe]
       simp only [bytC]
       rw [if_neg (by rw [hN];omega)]
      rw [uZ HR _ h2]
      rfl)
     have HBF:=hZ (uZ HX).2.2.2.2
     clear hdq hc hz h34 hpe hfull hN HX
     go_wp2_with fail
     go_ret3
     exact⟨by rw [uZ HE];rfl,uZ HBF⟩
    ·have n1:¬(2047:Int)<(N:Int):=by omega
     obtain⟨ao,cap,e0,hcv⟩:=conv_bytes (uZ HX).2.2.2.1 hN
     cases e0
     have HE:Hid (R=.tuple #[.string (bA out),.int .i64 ((q:Int)+1),.bool true]):=hZ (by
      have h2:bytV r=some (out,q - (a+1)+1+1):=by
       unfold bytV
       rw [hpe]
       simp only [bytC]
       rw [if_pos (by rw [hN];omega)]
      rw [uZ HR _ h2]
      show Value.tuple #[.string (bA out),.int .i64 ((a+(q - (a+1)+1+1):Nat):Int),.bool true]=_
      rw [show ((a+(q - (a+1)+1+1):Nat):Int)=(q:Int)+1 by omega])
     have HBF:=hZ (uZ HX).2.2.2.2
     have hq8:(q:Int)+1≤8193:=by omega
     clear hdq hc hz h34 hpe hfull hN HX
     go_wp2_with fail
     go_ret3
     exact⟨by rw [uZ HE];rfl,uZ HBF⟩
   ·have k1:((z:Int) == 34)=false:=beq_eq_false_iff_ne.2 (by omega)
    have k2:((z:Int) != 34)=true:=by simp;omega
    have k3:¬(z:Int)=34:=by omega
    by_cases hfull:¬(N<2048)
    ·have n1:¬(N:Int)<2048:=by omega
     have n2:(2047:Int)<(N:Int):=by omega
     have HE:Hid (R=.tuple #[.string ⟨#[]⟩,.int .i64 0,.bool false]):=hZ (by
      have h2:bytV r=none:=by
       unfold bytV
       rw [(uZ HX).2.2.1]
       exact bytC_long _ (by omega)
      rw [uZ HR _ h2]
      rfl)
     have HBF:=hZ (uZ HX).2.2.2.2
     clear hdq hc hz h34 hfull hN HX
     go_wp2_with fail
     go_ret3
     exact⟨by rw [uZ HE];rfl,uZ HBF⟩
    replace hfull:N<2048:=Decidable.of_not_not hfull
    have n1:(N:Int)<2048:=by omega
    have CP:=hZ (pieceD_any s q hlt (by rw [hc,hz];exact h34) hs wr)
    cases hp:pcL (s.data.toList.drop q) with
    |none=>
     rw [hp] at CP
     have CP2:Hid (Calls Tryz.prog 63 #[.string s,.int .i64 (q:Int)] wr fun e w'=>e=.returned (.tuple #[.int .u8 0,.int .i64 0])∧w'=wr):=CP
     have HE:Hid (R=.tuple #[.string ⟨#[]⟩,.int .i64 0,.bool false]):=hZ (by
      have h1:=(uZ HX).2.2.1
      rw [(uZ HC).2] at h1 hp
      rw [pcs_bad f' c _ (by have:=(uZ HC).1;omega) hp] at h1
      have h2:bytV r=none:=by unfold bytV;rw [h1];rfl
      rw [uZ HR _ h2]
      rfl)
     have HBF:=hZ (uZ HX).2.2.2.2
     clear hdq hc hz h34 hfull hN HX hp CP
     go_wp2_with fail
     refine(uZ CP2).mono ?_
     rintro e uA ⟨rfl,rfl⟩
     go_wp2_with fail
     go_ret3
     exact⟨by rw [uZ HE];rfl,uZ HBF⟩
    |some y=>
     obtain⟨b,n⟩:=y
     have hnp:=pcL_pos hp
     rw [List.length_drop,len_list] at hnp
     rw [hp,pcV_some] at CP
     obtain⟨y,hy⟩:∃y:Int,(b.toNat:Int)=y:=⟨_,rfl⟩
     rw [hy] at CP
     have m1:((n:Int) == 0)=false:=beq_eq_false_iff_ne.2 (by omega)
     have m2:¬(n:Int)=0:=by omega
     have HN:=hZ hnp
     have HY:=hZ hy
     have HNX:Hid (pcs (r.length+1) r=preP (out++[b]) (q+n - (a+1)) (pcs f' (s.data.toList.drop (q+n)))):=hZ (by
      have h1:=(uZ HX).2.2.1
      rw [(uZ HC).2] at h1 hp
      rw [pcs_next f' c _ b n (by have:=(uZ HC).1;omega) hp,preP_add,←(uZ HC).2,List.drop_drop] at h1
      rw [h1]
      congr 1
      omega)
     have hqn:(q:Int)+(n:Int)≤(s.size:Int):=by omega
     have HOW:=hZ (And.intro (uZ HX).2.2.2.1 (uZ HX).2.2.2.2)
     have HF2:=hZ (uZ HX).2.1
     have HNF:=hZ hfull
     clear hdq hc hz h34 hfull hN hp HX hnp hy
     go_wp2_with fail
     refine(uZ CP).mono ?_
     rintro e uA ⟨rfl,rfl⟩
     have tokB:True:=trivial
     go_upto_region 8 with (first|(have _t:=tokB;at_builtin;refine wpl_oneG rfl (.tmp 35) (.tmp 37) 77 5 it (.int .u8 0) 1 1 Tryz.underlying77 (uZ HI).1 (uZ HI).2.1 (uZ HI).2.2.1 (uZ HI).2.2.2 rfl (by omega) rfl B N (.slice q8 N p8) (byV out) [.int .u8 y] rfl (by simp [Value.oneCell']) rfl (uZ HOW).1 rfl (by have:=uZ HNF;unfold maxLen;omega) (by have:=uZ HNF;omega) hBw ?_;intro v8 w8 H8;clear tokB;obtain⟨q9,p9,rfl,hsl⟩:=slice_form (uZ H8).1;clear hsl))
     have HU8:Hid (Below B w w8∧w8.ownsRow B 5 1 (.slice q9 (N+1) p9) (N+1) (byV (out++[b]))):=hZ (by
      obtain⟨h1,h2,_⟩:=uZ H8
      rw [byV_one,uZ HY]
      exact⟨(uZ HOW).2.trans ((Below.refl _ _).grown h2 hBw (fun k e=>((uZ HOW).1.lt k e).1)),h1⟩)
     clear H8
     go_wp2_with fail
     go_roundw
     case rel=>
      refine⟨q+n,f',out++[b],by go_num,by omega,by have:=uZ HN;omega,hZ ⟨by rw [List.length_append,uZ HNN];have:=uZ HNF;simp;omega,?_,uZ HNX,by rw [List.length_append,uZ HNN];exact(uZ HU8).2,(uZ HU8).1⟩⟩
      have h1:=uZ HF2
      have h2:=uZ HN
      rw [List.length_drop,len_list] at h1 ⊢
      omega
     case measure=>have h2:=uZ HN;simp [intOf];omega
  ·have j1:¬(q:Int)<(s.size:Int):=by omega
   have nge:(s.size:Int)≤(q:Int):=by omega
   have HE:Hid (R=.tuple #[.string ⟨#[]⟩,.int .i64 0,.bool false]):=hZ (by
    have h1:=(uZ HX).2.2.1
    rw [List.drop_of_length_le (by rw [len_list];omega)] at h1
    have h2:bytV r=none:=by
     unfold bytV
     rw [h1]
     cases f <;> rfl
    rw [uZ HR _ h2]
    rfl)
   have HBF:=hZ (uZ HX).2.2.2.2
   clear HX hN
   go_wp2_with fail
   go_ret3
   exact⟨by rw [uZ HE];rfl,uZ HBF⟩
def sgC:Array Value:=#[.string ⟨#[61,61]⟩,.string ⟨#[33,61]⟩,.string ⟨#[60,61]⟩,.string ⟨#[62,61]⟩,.string ⟨#[38,38]⟩,.string ⟨#[124,124]⟩,.string ⟨#[40]⟩,.string ⟨#[41]⟩,.string ⟨#[123]⟩,.string ⟨#[125]⟩,.string ⟨#[91]⟩,.string ⟨#[93]⟩,.string ⟨#[44]⟩,.string ⟨#[59]⟩,.string ⟨#[58]⟩,.string ⟨#[46]⟩,.string ⟨#[61]⟩,.string ⟨#[60]⟩,.string ⟨#[62]⟩,.string ⟨#[43]⟩,.string ⟨#[45]⟩,.string ⟨#[42]⟩,.string ⟨#[47]⟩,.string ⟨#[37]⟩,.string ⟨#[33]⟩]
set_option maxRecDepth 100000 in
set_option maxHeartbeats 2000000 in
theorem signs_any (w:World) :
  Calls Tryz.prog 64 #[] w fun e w'=>e=.returned (.slice (some ⟨w.heap.size,0,none⟩) 25 25)∧RowT w' w.heap.size sgL∧Below w.heap.size w w':=by
 have HX:Hid (RowT (w.alloc (.cells sgC 9)) w.heap.size sgL∧Below w.heap.size w (w.alloc (.cells sgC 9))):=hZ ⟨rowT_alloc w sgL sgC 9 rfl,(Below.refl _ _).alloc (Nat.le_refl _) _⟩
 unfold sgC at HX
 go_enter Tryz.func64,Tryz.ntmps64
 go_wp2_with fail
 go_ret
 exact⟨rfl,uZ HX⟩
def sgAt (l g:List UInt8):Bool:=decide (g.length≤l.length) && (l.take g.length == g)
theorem sg_order:∀i:Fin 25,∀k:Fin 25,(sgL[i.val]'(by have:=i.isLt;show i.val<25;omega)).length=1→(sgL[k.val]'(by have:=k.isLt;show k.val<25;omega)).length=2→k.val<i.val:=by decide +kernel
theorem sg_lens:∀i:Fin 25,(sgL[i.val]'(by have:=i.isLt;show i.val<25;omega)).length=1∨(sgL[i.val]'(by have:=i.isLt;show i.val<25;omega)).length=2:=by decide +kernel
theorem sg_len {i:Nat} {g:List UInt8} (h:sgL[i]?=some g):i<25∧(g.length=1∨g.length=2):=by
 obtain⟨hi,rfl⟩:=List.getElem?_eq_some_iff.1 h
 exact⟨hi,sg_lens ⟨i,hi⟩⟩
theorem sg_first {l:List UInt8} {i:Nat} {g:List UInt8} (h:sgL[i]?=some g) (hm:sgAt l g=true) (hn:∀j x,j<i→sgL[j]?=some x→sgAt l x=false):sgN l=g.length∧l.take (sgN l)=g:=by
 obtain⟨hi,hg⟩:=sg_len h
 unfold sgAt at hm
 rw [Bool.and_eq_true,decide_eq_true_eq,beq_iff_eq] at hm
 have hgB:sgB g=true:=List.contains_iff_mem.2 (List.mem_of_getElem? h)
 rcases hg with h1|h2
 ·have hno:¬(2≤l.length∧sgB (l.take 2)=true):=by
   rintro ⟨q1,q2⟩
   obtain⟨k,hk⟩:=List.mem_iff_getElem?.1 (List.contains_iff_mem.1 q2)
   have hkl:=(sg_len hk).1
   have hlt:(l.take 2).length=2:=by rw [List.length_take];omega
   have hki:k<i:=by
    obtain⟨_,e1⟩:=List.getElem?_eq_some_iff.1 h
    obtain⟨_,e2⟩:=List.getElem?_eq_some_iff.1 hk
    exact sg_order ⟨i,hi⟩ ⟨k,hkl⟩ (by rw [e1];exact h1) (by rw [e2];exact hlt)
   have:=hn k _ hki hk
   unfold sgAt at this
   rw [hlt,decide_eq_true q1] at this
   simp at this
  have e:sgN l=1:=by
   unfold sgN
   rw [if_neg hno,if_pos (by rw [←h1,hm.2];exact hgB)]
  rw [e,h1]
  exact⟨rfl,by rw [←h1];exact hm.2⟩
 ·have e:sgN l=2:=by
   unfold sgN
   rw [if_pos ⟨by omega,by rw [←h2,hm.2];exact hgB⟩]
  rw [e,h2]
  exact⟨rfl,by rw [←h2];exact hm.2⟩
theorem sg_none {l:List UInt8} (hl:1≤l.length) (hn:∀j x,j<25→sgL[j]?=some x→sgAt l x=false):sgN l=0:=by
 have key:∀m,m≤l.length→sgB (l.take m)=true→False:=fun m hm hb=>by
  obtain⟨k,hk⟩:=List.mem_iff_getElem?.1 (List.contains_iff_mem.1 hb)
  have hkl:=(sg_len hk).1
  have hlt:(l.take m).length=m:=by rw [List.length_take];omega
  have:=hn k _ hkl hk
  unfold sgAt at this
  rw [hlt,decide_eq_true hm] at this
  simp at this
 unfold sgN
 rw [if_neg (fun h=>key 2 h.1 h.2),if_neg (fun h=>key 1 hl h)]
set_option maxRecDepth 100000 in
set_option maxHeartbeats 2000000 in
theorem signD_any (s:ByteArray) (a:Nat) (ha:a<s.size) (hs:s.size≤8192) (w:World) :
  Calls Tryz.prog 43 #[.string s,.int .i64 (a:Int)] w fun e w'=>e=.returned (.string (bA ((s.data.toList.drop a).take (sgN (s.data.toList.drop a)))))∧Below w.heap.size w w':=by
 obtain⟨l,hl⟩:∃l,s.data.toList.drop a=l:=⟨_,rfl⟩
 have hll:l.length=s.size - a:=by rw [←hl,List.length_drop,len_list]
 obtain⟨R,hR⟩:∃R,bA (l.take (sgN l))=R:=⟨_,rfl⟩
 rw [hl,hR]
 have HR:=hZ hR
 have hs2:(s.size:Int)≤8192:=by omega
 have HL:=hZ (And.intro hl hll)
 have CS:=hZ (signs_any w)
 obtain⟨g,hg⟩:∃g,w.heap.size=g:=⟨_,rfl⟩
 rw [hg] at CS ⊢
 have HG:=hZ hg
 clear hl hll hR hg
 go_enter Tryz.func43,Tryz.ntmps43
 go_wp2_with fail
 refine(uZ CS).mono ?_
 rintro e uA ⟨rfl,hrow,b1⟩
 have HROW:=hZ hrow
 have B1:=hZ b1
 clear hrow b1 CS
 go_wp2_with fail
 go_loopw [6] (fun x wr=>∃i:Nat,x=.int .i64 (i:Int)∧i≤25∧Hid ((∀j y,j<i→sgL[j]?=some y→sgAt l y=false)∧∃q,wr=uA.drewN q)) (fun x _=>25 - (intOf x).toNat)
 case atStart=>exact⟨0,rfl,by omega,hZ ⟨(fun j y h=>by omega),0,rfl⟩⟩
 case round=>
  obtain⟨i,rfl,hi,HX⟩:=hrel
  obtain⟨q,hq⟩:=(uZ HX).2
  have HQ:=hZ hq
  have hbl:Below uA.heap.size uA wr:=by rw [hq];exact below_drewN' q uA
  by_cases hlt:i<25
  ·have j1:(i:Int)<25:=by omega
   obtain⟨y,hy⟩:∃y,sgL[i]?=some y:=⟨_,List.getElem?_eq_getElem hlt⟩
   have hcell:=cell_later hbl ((uZ HROW).2 i y hy)
   have hgl:g<wr.heap.size:=Nat.lt_of_lt_of_le (uZ HROW).1 hbl.size
   have hyl:=(sg_len hy).2
   obtain⟨m,hm⟩:∃m,y.length=m:=⟨_,rfl⟩
   obtain⟨V,hV⟩:∃V,bA y=V:=⟨_,rfl⟩
   have hVs:V.size=m:=by rw [←hV,bA_size,hm]
   have hVi:(V.size:Int)=(m:Int):=by rw [hVs]
   rw [hV] at hcell
   have r1:(⟨g,0,none⟩:Addr).add i=⟨g,i,none⟩:=by unfold Addr.add;split <;> simp_all
   have r2:i * 1=i:=Nat.mul_one i
   have m1:(m:Int)≤2∧1≤(m:Int):=by omega
   have hw1:IntKind.i64.wrap ((s.size:Int) - (a:Int))=(s.size:Int) - (a:Int):=by rw [IntKind.wrap_i64];omega
   have hw2:IntKind.i64.wrap ((a:Int)+(m:Int))=(a:Int)+(m:Int):=by rw [IntKind.wrap_i64];omega
   have HY:=hZ (And.intro hy (And.intro hm hV))
   have HNX:Hid (∀z,∃q',wr.drewN z=uA.drewN q'):=hZ (fun z=>⟨q+z,by rw [uZ HQ];unfold World.drewN;simp [Nat.add_assoc]⟩)
   have HBZ:Hid (∀z,Below g w (wr.drewN z)):=hZ (fun z=>by
    have h1:=uZ B1
    have h2:Below uA.heap.size uA (wr.drewN z):=hbl.trans ((below_drewN' z wr).mono hbl.size)
    exact h1.trans (h2.mono (Nat.le_trans (by rw [←uZ HG];exact Nat.le_refl _) h1.size)))
   have HLT:=hZ hlt
   by_cases hfit:¬(m≤s.size - a)
   ·have k1:¬(m:Int)≤(s.size:Int) - (a:Int):=by omega
    have HN:Hid (∀j x,j<i+1→sgL[j]?=some x→sgAt l x=false):=hZ (fun j x hj hx=>by
     rcases Nat.lt_or_ge j i with h|h
     ·exact(uZ HX).1 j x h hx
     ·obtain rfl:j=i:=by omega
      rw [hy] at hx
      cases hx
      unfold sgAt
      rw [decide_eq_false (by rw [hm,(uZ HL).2];omega)]
      rfl)
    clear hy hm hV hq hbl hyl hVs hfit
    go_upto_region 6 with fail
    go_quiet (fail)
    go_wp2_with fail
    go_roundw
    case rel=>exact⟨i+1,by go_num,uZ HLT,hZ ⟨uZ HN,uZ HNX _⟩⟩
    case measure=>have:=uZ HLT;simp [intOf];omega
   replace hfit:m≤s.size - a:=Decidable.of_not_not hfit
   have k1:(m:Int)≤(s.size:Int) - (a:Int):=by omega
   have k2:(a:Int)+(m:Int)≤(s.size:Int):=by omega
   have k3:(a:Int)≤(a:Int)+(m:Int):=by omega
   obtain⟨b,hb⟩:∃b,a+m=b:=⟨_,rfl⟩
   have hbi:(a:Int)+(m:Int)=(b:Int):=by omega
   have kb1:(b:Int)≤(s.size:Int):=by omega
   have kb2:(a:Int)≤(b:Int):=by omega
   have hext:((s.extract a b).toList == V.toList)=(l.take m == y):=by
    rw [ByteArray.toList_eq,ext_data,←hV,bA_list,List.drop_take,(uZ HL).1,show b - a=m by omega]
   cases hcmp:(l.take m == y) with
   |true=>
    rw [hcmp] at hext
    have HE:Hid (V=R):=hZ (by
     have hat:sgAt l y=true:=by
      unfold sgAt
      rw [hm,decide_eq_true (by rw [(uZ HL).2];exact hfit),hcmp]
      rfl
     rw [←uZ HR,(sg_first hy hat (uZ HX).1).2,hV])
    clear hy hm hV hq hbl hyl hVs hfit hb hcmp
    go_upto_region 6 with fail
    go_quiet (fail)
    go_wp2_with fail
    go_ret
    exact⟨by rw [←uZ HE];rfl,uZ HBZ _⟩
   |false=>
    rw [hcmp] at hext
    have HN:Hid (∀j x,j<i+1→sgL[j]?=some x→sgAt l x=false):=hZ (fun j x hj hx=>by
     rcases Nat.lt_or_ge j i with h|h
     ·exact(uZ HX).1 j x h hx
     ·obtain rfl:j=i:=by omega
      rw [hy] at hx
      cases hx
      unfold sgAt
      rw [hm,hcmp]
      simp)
    clear hy hm hV hq hbl hyl hVs hfit hb hcmp
    go_upto_region 6 with fail
    go_quiet (fail)
    go_wp2_with fail
    go_roundw
    case rel=>exact⟨i+1,by go_num,uZ HLT,hZ ⟨uZ HN,uZ HNX _⟩⟩
    case measure=>have:=uZ HLT;simp [intOf];omega
  ·have j1:¬(i:Int)<25:=by omega
   have HE:Hid (R=⟨#[]⟩∧Below g w wr):=hZ (by
    have h1:sgN l=0:=sg_none (by rw [(uZ HL).2];omega) (fun j x hj hx=>(uZ HX).1 j x (by omega) hx)
    refine⟨by rw [←uZ HR,h1];rfl,?_⟩
    have h2:=uZ B1
    exact h2.trans (hbl.mono (Nat.le_trans (by rw [←uZ HG];exact Nat.le_refl _) h2.size)))
   clear hq hbl HX
   go_wp2_with fail
   go_ret
   exact⟨by rw [(uZ HE).1];rfl,(uZ HE).2⟩
def tokV (a:Nat):Except Nat (Tk × Nat)→Value
 |.error e=>.tuple #[.agg #[.int .i64 0,.string ⟨#[]⟩,.int .i64 0,.int .i64 0],.int .i64 0,.int .i64 (e:Int)]
 |.ok (t,n)=>.tuple #[.agg #[.int .i64 (t.k:Int),.string (bA t.t),.int .i64 (t.n:Int),.int .i64 (a:Int)],.int .i64 ((a+n:Nat):Int),.int .i64 0]
structure Bx (w u:World) (g:Nat) (c0 c1 c2 c3:Value):Prop where
 ans:u.heap[g]?=some (.cells #[.int .i64 0,.string ⟨#[]⟩,.int .i64 0,.int .i64 0] 52 (0,0))
 tok:u.heap[g+1]?=some (.cells #[c0,c1,c2,c3] 52 (0,0))
 low:w.heap.size=g
 below:Below g w u
theorem Bx.later {w u v:World} {g:Nat} {c0 c1 c2 c3:Value} (h:Bx w u g c0 c1 c2 c3) (hb:Below u.heap.size u v):Bx w v g c0 c1 c2 c3:=
 ⟨(hb.block g (Array.getElem?_eq_some_iff.1 h.ans).1).trans h.ans,(hb.block (g+1) (Array.getElem?_eq_some_iff.1 h.tok).1).trans h.tok,h.low,h.below.trans (hb.mono (by have:=h.below.size;have:=h.low;omega))⟩
theorem Bx.set0 {w u:World} {g:Nat} {c0 c1 c2 c3:Value} (h:Bx w u g c0 c1 c2 c3) (x:Value):Bx w (u.setCell ⟨g+1,0,none⟩ x) g x c1 c2 c3:=
 ⟨by rw [heap_setCell_other _ _ _ _ (show g≠g+1 by omega)];exact h.ans,by rw [heap_setCell_same u (g+1) 0 _ _ x h.tok];rfl,h.low,h.below.setCell (p:=⟨g+1,0,none⟩) (by show g≤g+1;omega) x⟩
theorem Bx.set1 {w u:World} {g:Nat} {c0 c1 c2 c3:Value} (h:Bx w u g c0 c1 c2 c3) (x:Value):Bx w (u.setCell ⟨g+1,1,none⟩ x) g c0 x c2 c3:=
 ⟨by rw [heap_setCell_other _ _ _ _ (show g≠g+1 by omega)];exact h.ans,by rw [heap_setCell_same u (g+1) 1 _ _ x h.tok];rfl,h.low,h.below.setCell (p:=⟨g+1,1,none⟩) (by show g≤g+1;omega) x⟩
theorem Bx.set2 {w u:World} {g:Nat} {c0 c1 c2 c3:Value} (h:Bx w u g c0 c1 c2 c3) (x:Value):Bx w (u.setCell ⟨g+1,2,none⟩ x) g c0 c1 x c3:=
 ⟨by rw [heap_setCell_other _ _ _ _ (show g≠g+1 by omega)];exact h.ans,by rw [heap_setCell_same u (g+1) 2 _ _ x h.tok];rfl,h.low,h.below.setCell (p:=⟨g+1,2,none⟩) (by show g≤g+1;omega) x⟩
theorem Bx.frz {w u:World} {g:Nat} {c0 c1 c2 c3:Value} (h:Bx w u g c0 c1 c2 c3) (i:Nat):u.frozen? ⟨g+1,i,none⟩=false:=frozen_of_row u (g+1) i _ _ h.tok
theorem Bx.lt {w u:World} {g:Nat} {c0 c1 c2 c3:Value} (h:Bx w u g c0 c1 c2 c3):g+1<u.heap.size:=(Array.getElem?_eq_some_iff.1 h.tok).1
theorem Bx.cells {w u:World} {g:Nat} {c0 c1 c2 c3:Value} (h:Bx w u g c0 c1 c2 c3):u.cell? ⟨g+1,0,none⟩=some c0∧u.cell? ⟨g+1,1,none⟩=some c1∧u.cell? ⟨g+1,2,none⟩=some c2∧u.cell? ⟨g+1,3,none⟩=some c3:=row_cell4 h.tok
theorem bx_start (w:World) (a:Nat):Bx w ((w.alloc (.cells #[.int .i64 0,.string ⟨#[]⟩,.int .i64 0,.int .i64 0] 52)).alloc (.cells #[.int .i64 0,.string ⟨#[]⟩,.int .i64 0,.int .i64 (a:Int)] 52)) w.heap.size (.int .i64 0) (.string ⟨#[]⟩) (.int .i64 0) (.int .i64 (a:Int)):=by
 refine⟨?_,?_,rfl,((Below.refl _ _).alloc (Nat.le_refl _) _).alloc (by simp) _⟩
 ·rw [heap_alloc_old _ _ (by simp)]
  exact heap_alloc_new w _
 ·have:=heap_alloc_new (w.alloc (.cells #[.int .i64 0,.string ⟨#[]⟩,.int .i64 0,.int .i64 0] 52)) (.cells #[.int .i64 0,.string ⟨#[]⟩,.int .i64 0,.int .i64 (a:Int)] 52)
  rwa [show (w.alloc (.cells #[.int .i64 0,.string ⟨#[]⟩,.int .i64 0,.int .i64 0] 52)).heap.size=w.heap.size+1 by simp] at this
theorem four_set (w:World) (g:Nat) (T:TypeId) (c0 c1 c2 c3 x0 x1 x2 x3:Value) (h:w.heap[g]?=some (.cells #[c0,c1,c2,c3] T (0,0))) :
  ((((w.setCell ⟨g,0,none⟩ x0).setCell ⟨g,1,none⟩ x1).setCell ⟨g,2,none⟩ x2).setCell ⟨g,3,none⟩ x3).heap[g]?=some (.cells #[x0,x1,x2,x3] T (0,0)):=by
 have h1:=heap_setCell_same w g 0 _ T x0 h
 have h2:=heap_setCell_same _ g 1 _ T x1 h1
 have h3:=heap_setCell_same _ g 2 _ T x2 h2
 have h4:=heap_setCell_same _ g 3 _ T x3 h3
 rw [h4]
 rfl
theorem keepD {v w1 w2:World} {P:World→Prop} (H:Hid (∀w',Below v.heap.size v w'→P w')) (h:Below v.heap.size v w1) (hb:Below w1.heap.size w1 w2):Below v.heap.size v w2∧P w2:=
 ⟨h.trans (hb.mono h.size),uZ H _ (h.trans (hb.mono h.size))⟩
set_option maxRecDepth 100000 in
set_option maxHeartbeats 2000000 in
theorem tokenD_word (s:ByteArray) (a:Nat) (ha:a<s.size) (hs:s.size≤8192) (w:World) (hlet:lxLet (s[a]'ha)=true) :
  Calls Tryz.prog 22 #[.string s,.int .i64 (a:Int)] w fun e w'=>e=.returned (tokV a (wrdT ((s.data.toList.drop a).takeWhile lxW)))∧Below w.heap.size w w':=by
 have CW:=hZ (fun u=>wordD_any s a (by omega) (by omega) u)
 have CL:=hZ (fun u=>letterD_at s a ha u)
 have CD:=hZ (fun u=>digitD_at s a ha u)
 obtain⟨c,hc⟩:∃c,s[a]'ha=c:=⟨_,rfl⟩
 have hci:((s[a]'ha).toNat:Int)=(c.toNat:Int):=by rw [hc]
 obtain⟨g,hg⟩:∃g,w.heap.size=g:=⟨_,rfl⟩
 have HG:=hZ hg
 have hs2:(s.size:Int)≤8192:=by omega
 have ha2:(a:Int)<(s.size:Int):=by omega
 have hdr:=drop_at s a ha
 rw [hc] at hdr
 obtain⟨n,hn⟩:∃n,((s.data.toList.drop a).takeWhile lxW).length=n:=⟨_,rfl⟩
 rw [hn] at CW
 have hnl:a+n≤s.size:=by
  have:=tw_le lxW (s.data.toList.drop a)
  rw [hn,List.length_drop,len_list] at this
  omega
 obtain⟨b,hb⟩:∃b,a+n=b:=⟨_,rfl⟩
 have hbi:(a:Int)+(n:Int)=(b:Int):=by omega
 have hbs:(b:Int)≤(s.size:Int):=by omega
 have hab:(a:Int)≤(b:Int):=by omega
 rw [hc] at CL CD hlet
 have hdg:lxDig c=false:=by
  unfold lxLet at hlet
  rw [decide_eq_true_eq] at hlet
  exact decide_eq_false (by omega)
 rw [hlet] at CL
 rw [hdg] at CD
 obtain⟨W,hW⟩:∃W,(s.data.toList.drop a).takeWhile lxW=W:=⟨_,rfl⟩
 rw [hW] at hn ⊢
 have hext:s.extract a b=bA W:=by
  refine bA_eq _ _ ?_
  rw [ext_data,List.drop_take,show b - a=n by omega,←hW,←hn,←hW]
  exact(List.prefix_iff_eq_take.1 (List.takeWhile_prefix lxW)).symm
 have CI:=fun u r (h:RowT u r keyL)=>isIn_any u r keyL 12 h (by decide) (by decide) (bA W)
 rw [bA_data,show keyL.contains W=keyB W from rfl] at CI
 obtain⟨V,hV⟩:∃V,bA W=V:=⟨_,rfl⟩
 rw [hV] at hext CI
 have CII:=hZ CI
 obtain⟨R,hR⟩:∃R,tokV a (wrdT W)=R:=⟨_,rfl⟩
 have HR:=hZ (And.intro hR (And.intro hV (And.intro hn hb)))
 rw [hR]
 clear hlet hdg hdr hc hn hb hR hV hW CI
 go_enter Tryz.func22,Tryz.ntmps22
 go_upto_region 2 with fail
 obtain⟨w2,hw2⟩:∃w2,w2=(w.alloc (.cells #[.int .i64 0,.string ⟨#[]⟩,.int .i64 0,.int .i64 0] 52)).alloc (.cells #[.int .i64 0,.string ⟨#[]⟩,.int .i64 0,.int .i64 (a:Int)] 52):=⟨_,rfl⟩
 rw [←hw2]
 have BX:Hid (Bx w w2 g (.int .i64 0) (.string ⟨#[]⟩) (.int .i64 0) (.int .i64 (a:Int))):=hZ (by rw [hw2,←hg];exact bx_start w a)
 clear hw2
 go_wp2_with fail
 refine((uZ CW) _).mono ?_
 rintro e u ⟨rfl,hu⟩
 obtain rfl:=hu.symm
 go_wp2_with fail
 refine((uZ CL) _).mono ?_
 rintro e u ⟨rfl,hu⟩
 obtain rfl:=hu.symm
 go_wp2_with fail
 refine((uZ CD) _).mono ?_
 rintro e u ⟨rfl,hu⟩
 obtain rfl:=hu.symm
 have f0:=(uZ BX).frz 0
 obtain⟨x0,x1,x2,x3⟩:=(uZ BX).cells
 have hl:=(uZ BX).lt
 go_upto_region 7 with fail
 obtain⟨w3,hw3⟩:∃w3,w3=w2.setCell ⟨g+1,0,none⟩ (.int .i64 1):=⟨_,rfl⟩
 rw [←hw3]
 have BX3:Hid (Bx w w3 g (.int .i64 1) (.string ⟨#[]⟩) (.int .i64 0) (.int .i64 (a:Int))):=hZ (by rw [hw3];exact(uZ BX).set0 _)
 clear hw3 f0 hl BX x0 x1 x2 x3
 have f1:=(uZ BX3).frz 1
 obtain⟨x0,x1,x2,x3⟩:=(uZ BX3).cells
 have hl:=(uZ BX3).lt
 go_upto_region 8 with fail
 obtain⟨w4,hw4⟩:∃w4,w4=w3.setCell ⟨g+1,1,none⟩ (.string V):=⟨_,rfl⟩
 rw [←hw4]
 have BX4:Hid (Bx w w4 g (.int .i64 1) (.string V) (.int .i64 0) (.int .i64 (a:Int))):=hZ (by rw [hw4];exact(uZ BX3).set1 _)
 clear hw4 f1 hl BX3 x0 x1 x2 x3
 have c1:=(uZ BX4).cells.2.1
 have HKK:Hid (∀w',Below w4.heap.size w4 w'→w'.cell? ⟨g+1,1,none⟩=some (.string V)):=hZ (fun w' hw'=>cell_later hw' c1)
 go_region_held3 (fun w'=>Below w4.heap.size w4 w'∧w'.cell? ⟨g+1,1,none⟩=some (.string V))
  (first|assumption|exact⟨(Below.refl _ _).drew,uZ HKK _ (Below.refl _ _).drew⟩|(refine keepD HKK (And.left (by assumption)) (by assumption);done)|(refine keepD HKK ?_ ?_ <;> assumption))
  (first|(go_at_call 40;refine(keywords_any _).mono ?_;rintro e w5 ⟨rfl,hrow,b5⟩)|(go_at_call 39;refine((uZ CII) _ _ (by assumption)).mono ?_;rintro e w6 ⟨rfl,hw6⟩;obtain rfl:=hw6.symm))
 have hb5:Below w4.heap.size w4 w5:=And.left (by assumption)
 have BX6:=hZ ((uZ BX4).later hb5)
 clear b5 hb5 hrow c1 HKK BX4
 cases hk:keyB W with
  |true=>
   have HE:Hid (R=.tuple #[.agg #[.int .i64 2,.string V,.int .i64 0,.int .i64 (a:Int)],.int .i64 (b:Int),.int .i64 0]):=hZ (by
    obtain⟨h1,h2,h3,h4⟩:=uZ HR
    rw [←h1]
    unfold wrdT
    rw [if_pos hk,←h2,←h4,←h3]
    rfl)
   have f0:=(uZ BX6).frz 0
   obtain⟨x0,x1,x2,x3⟩:=(uZ BX6).cells
   have hl:=(uZ BX6).lt
   clear hk
   go_upto_region 13 with fail
   obtain⟨w7,hw7⟩:∃w7,w7=w5.setCell ⟨g+1,0,none⟩ (.int .i64 2):=⟨_,rfl⟩
   rw [←hw7]
   have BX7:Hid (Bx w w7 g (.int .i64 2) (.string V) (.int .i64 0) (.int .i64 (a:Int))):=hZ (by rw [hw7];exact(uZ BX6).set0 _)
   clear hw7 f0 hl BX6 x0 x1 x2 x3
   obtain⟨d0,d1,d2,d3⟩:=(uZ BX7).cells
   have tok:True:=trivial
   go_wp2_with (first|(have _t:=tok;refine wpList_put_arr rfl 52 (.tmp 4) (.tmp 49) rfl g _ _ rfl rfl (uZ BX7).ans rfl size_tok (one_tok _ _ _ _) ?_;clear tok;intro w9 M9))
   exact bodyPost_ret (ret_ctt (p:=4) (u:=5) (v:=6) (T:=52) rfl _ _ g _ _ _ rfl (uZ M9).at' Tryz.underlying52 rfl size_tok) rfl ⟨by rw [uZ HE];rfl,by first|exact(uZ M9).below g w (uZ BX7).below (Nat.le_refl _)|(rw [uZ HG];exact(uZ M9).below g w (uZ BX7).below (Nat.le_refl _))⟩
  |false=>
   by_cases h20:20<n
   ·have k1:(20:Int)<(n:Int):=by omega
    have HE:Hid (R=.tuple #[.agg #[.int .i64 0,.string ⟨#[]⟩,.int .i64 0,.int .i64 0],.int .i64 0,.int .i64 164]):=hZ (by
     obtain⟨h1,h2,h3,h4⟩:=uZ HR
     rw [←h1]
     unfold wrdT
     rw [if_neg (by rw [hk];simp),if_pos (by omega)]
     rfl)
    clear hk h20
    have tok:True:=trivial
    go_wp2_with (first|(have _t:=tok;refine wpList_put_arr rfl 52 (.tmp 4) (.tmp 48) rfl g _ _ rfl rfl (uZ BX6).ans rfl size_tok (one_tok _ _ _ _) ?_;clear tok;intro w9 M9))
    exact bodyPost_ret (ret_ctt (p:=4) (u:=5) (v:=6) (T:=52) rfl _ _ g _ _ _ rfl (uZ M9).at' Tryz.underlying52 rfl size_tok) rfl ⟨by rw [uZ HE];rfl,by first|exact(uZ M9).below g w (uZ BX6).below (Nat.le_refl _)|(rw [uZ HG];exact(uZ M9).below g w (uZ BX6).below (Nat.le_refl _))⟩
   ·have k1:¬(20:Int)<(n:Int):=by omega
    have HE:Hid (R=.tuple #[.agg #[.int .i64 1,.string V,.int .i64 0,.int .i64 (a:Int)],.int .i64 (b:Int),.int .i64 0]):=hZ (by
     obtain⟨h1,h2,h3,h4⟩:=uZ HR
     rw [←h1]
     unfold wrdT
     rw [if_neg (by rw [hk];simp),if_neg (by omega),←h2,←h4,←h3]
     rfl)
    obtain⟨d0,d1,d2,d3⟩:=(uZ BX6).cells
    have hl:=(uZ BX6).lt
    clear hk h20
    have tok:True:=trivial
    go_wp2_with (first|(have _t:=tok;refine wpList_put_arr rfl 52 (.tmp 4) (.tmp 49) rfl g _ _ rfl rfl (uZ BX6).ans rfl size_tok (one_tok _ _ _ _) ?_;clear tok;intro w9 M9))
    exact bodyPost_ret (ret_ctt (p:=4) (u:=5) (v:=6) (T:=52) rfl _ _ g _ _ _ rfl (uZ M9).at' Tryz.underlying52 rfl size_tok) rfl ⟨by rw [uZ HE];rfl,by first|exact(uZ M9).below g w (uZ BX6).below (Nat.le_refl _)|(rw [uZ HG];exact(uZ M9).below g w (uZ BX6).below (Nat.le_refl _))⟩
end Go.Proofs.YtilhlmmcdfoaoaaGreatDoor
