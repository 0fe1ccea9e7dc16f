/-
  The walk of deep: a value in new memory; conditions: at most 5000 parts, the form's own reach.
-/
import Derived.Test.YtekbmfppfjlboaaGreatDoorA16
import Derived.Deep.RegionHeld3
import Derived.Test.YtekbmfppfjlboaaGreatDoorA11
import Derived.Deep.QuietTactic
import Derived.BigQuiet
set_option linter.unusedVariables false
set_option linter.unusedSimpArgs false
namespace Go.Proofs.YtekbmfppfjlboaaGreatDoor
open Go.RowKit
theorem infoS:(Tryz.prog.info? 9).map (fun i=>(i.zero,i.size,i.bytes))=some (some (.string ⟨#[]⟩),1,16):=by kernel_rfl
theorem infoV:(Tryz.prog.info? 26).map (fun i=>(i.zero,i.size,i.bytes))=some (some (.agg #[.int .i64 0,.int .i64 0,.string ⟨#[]⟩,.slice none 0 0,.slice none 0 0]),5,80):=by kernel_rfl
def DeepAt (b:Nat):Prop:=∀(v:Vl) (x:Value) (B:Nat) (w:World),dep v≤b→cnt v≤5000→IsV w B v x→B≤w.heap.size →
  Calls Tryz.prog 66 #[x] w fun e w'=>∃x',e=.returned x'∧IsQ w' (fun b=>w.heap.size≤b∧b<w'.heap.size) v x'∧Below w.heap.size w w'
theorem deep_zero:DeepAt 0:=by
 intro v x B w h
 have:=dep_pos v
 omega
structure Dp (w u:World) (g:Nat) (A Z:Array Value):Prop where
 at0:u.heap[g]?=some (.cells A 26 (0,0))
 at1:u.heap[g+1]?=some (.cells Z 26 (0,0))
 size:g+3≤u.heap.size
 below:Below g w u
theorem Dp.later {w u u1:World} {g:Nat} {A Z:Array Value} (h:Dp w u g A Z) (hu:Below u.heap.size u u1):Dp w u1 g A Z:=by
 have hs:=h.size
 exact⟨(hu.block g (by omega)).trans h.at0,(hu.block (g+1) (by omega)).trans h.at1,Nat.le_trans h.size hu.size,h.below.trans (hu.mono (by omega))⟩
theorem Dp.push {w u w6:World} {g f:Nat} {A Z:Array Value} {row:Option Nat} {v:Value} (h:Dp w u g A Z) (hgrow:u.grownBy w6 row) (hrow:∀b,row=some b→g+3≤b):Dp w (w6.setCell ⟨g+1+1,f,none⟩ v) g A Z:=by
 have hs:=h.size
 have hg:=hgrow.size
 refine⟨?_,?_,by simp;omega,(h.below.grown hgrow (by omega) (fun b hb=>by have:=hrow b hb;omega)).setCell (p:=⟨g+1+1,f,none⟩) (by simp;omega) _⟩
 ·rw [heap_setCell_other _ _ _ _ (by simp;omega),hgrow.block g (by omega) (fun e=>by have:=hrow g e.symm;omega)];exact h.at0
 ·rw [heap_setCell_other _ _ _ _ (by simp),hgrow.block (g+1) (by omega) (fun e=>by have:=hrow (g+1) e.symm;omega)];exact h.at1
theorem deep_start (w:World) (A Z:Array Value) (k n:Int) (s:ByteArray) (l:List Vl) (ks:List ByteArray) (g:Nat) (hg:w.heap.size=g) :
  Dp w (((w.alloc (.cells A 26)).alloc (.cells Z 26)).alloc (.cells #[.int .i64 k,.int .i64 n,.string s,.slice none 0 0,.slice none 0 0] 26)) g A Z ∧
  Mid (((w.alloc (.cells A 26)).alloc (.cells Z 26)).alloc (.cells #[.int .i64 k,.int .i64 n,.string s,.slice none 0 0,.slice none 0 0] 26)) (g+3) (g+1+1) k n s l ks (.slice none 0 0) (.slice none 0 0) 0 0 (fun _=>[]):=by
 subst hg
 have h2:=heap_alloc_new ((w.alloc (.cells A 26)).alloc (.cells Z 26)) (.cells #[.int .i64 k,.int .i64 n,.string s,.slice none 0 0,.slice none 0 0] 26)
 have h1:=heap_alloc_new (w.alloc (.cells A 26)) (.cells Z 26)
 have h0:=heap_alloc_new w (.cells A 26)
 have b2:=(Below.refl ((w.alloc (.cells A 26)).alloc (.cells Z 26)).heap.size ((w.alloc (.cells A 26)).alloc (.cells Z 26))).alloc (Nat.le_refl _) (.cells #[.int .i64 k,.int .i64 n,.string s,.slice none 0 0,.slice none 0 0] 26)
 have b1:=(Below.refl (w.alloc (.cells A 26)).heap.size (w.alloc (.cells A 26))).alloc (Nat.le_refl _) (.cells Z 26)
 refine⟨⟨?_,?_,by simp,(((Below.refl _ _).alloc (Nat.le_refl _) _).alloc (by simp) _).alloc (by simp;omega) _⟩,?_,by omega,by simp,World.ownsRow_nil _ _ _ _,World.ownsRow_nil _ _ _ _,Or.inl rfl,fun c h=>by omega,fun c y h=>by omega⟩
 ·rw [b2.block w.heap.size (by simp;omega),b1.block w.heap.size (by simp)];exact h0
 ·rw [b2.block (w.heap.size+1) (by simp)];simpa using h1
 ·simpa using h2
set_option maxRecDepth 100000 in
set_option maxHeartbeats 1000000 in
theorem deep_step (b:Nat) (ih:DeepAt b):DeepAt (b+1):=by
 intro v x B w hd hc5 hv hBs
 obtain⟨k,n,s,l,ks,al,ak,cl,ck,rfl,rfl⟩:=hv.shape
 obtain⟨m,hm⟩:∃m,ks.length=m:=⟨_,rfl⟩
 obtain⟨ln,hln⟩:∃ln,l.length=ln:=⟨_,rfl⟩
 have hbd:((-9223372036854775808≤k∧k≤9223372036854775807)∧(-9223372036854775808≤n∧n≤9223372036854775807)∧s.size≤140737488351232∧16 * ks.length≤140737488351232∧∀t∈ks,t.size≤140737488351232)∧(ks.length≤ck∧ks.length≤140737488351232)∧(ak=none→ks.length=0):=by
  obtain⟨_,_,_,_,_,V,hf,_⟩:=IsP.at hv
  exact⟨⟨hf.bk,hf.bn,hf.bs,hf.bq,hf.bt⟩,⟨hf.lk,hf.bc⟩,fun e=>(hf.nk e).1⟩
 obtain⟨HBD,hck,hak⟩:=hbd
 have HBD:=hide HBD
 have hm16:=(unhide HBD).2.2.2.1
 rw [hm] at hck hak hm16
 have hlb:ln≤5000:=by have:=len_cntL l;simp only [cnt] at hc5;omega
 have HCN:Hid (cntL l≤5000):=hide (by simp only [cnt] at hc5;omega)
 rw [hm,hln] at hv
 rw [hm,hln]
 obtain⟨g,hg⟩:∃g,w.heap.size=g:=⟨_,rfl⟩
 have HL:=hide (And.intro hm hln)
 have hdl:∀i y,l[i]?=some y→dep y≤b:=fun i y h=>by have h1:=dep_elem l i y h;simp only [dep] at hd;omega
 have HD:=hide hdl
 have DS:=deep_start w #[.int .i64 k,.int .i64 n,.string s,.slice al ln cl,.slice ak m ck] #[.int .i64 0,.int .i64 0,.string ⟨#[]⟩,.slice none 0 0,.slice none 0 0] k n s l ks g hg
 have HV:Hid (∀u,Below g w u→IsV u B (.mk k n s l ks) (.agg #[.int .i64 k,.int .i64 n,.string s,.slice al ln cl,.slice ak m ck])):=hide (fun u hu=>hv.mono (hu.mono (by omega)))
 have HDS:=hide DS
 have hBg:B≤g:=by omega
 clear DS hv hm hln hdl hd hc5
 go_enter Tryz.func66,Tryz.ntmps66
 go_upto_if 15 with fail
 obtain⟨w3,hw3⟩:∃w3,(((w.alloc (.cells #[.int .i64 k,.int .i64 n,.string s,.slice al ln cl,.slice ak m ck] 26)).alloc (.cells #[.int .i64 0,.int .i64 0,.string ⟨#[]⟩,.slice none 0 0,.slice none 0 0] 26)).alloc (.cells #[.int .i64 k,.int .i64 n,.string s,.slice none 0 0,.slice none 0 0] 26))=w3:=⟨_,rfl⟩
 rw [hw3]
 have DS:=unhide HDS
 clear HDS
 rw [hw3] at DS
 obtain⟨c0,c1,c2,c3,c4⟩:=row_cell DS.1.at0
 obtain⟨d0,d1,d2,d3,d4⟩:=row_cell DS.2.box
 have HDS:=hide DS
 clear DS hw3
 go_cut [] from 5 to 24 (fun wx=>∃Kv:Value,Hid (Dp w wx g #[.int .i64 k,.int .i64 n,.string s,.slice al ln cl,.slice ak m ck] #[.int .i64 0,.int .i64 0,.string ⟨#[]⟩,.slice none 0 0,.slice none 0 0])∧Hid (Mid wx (g+3) (g+1+1) k n s l ks (.slice none 0 0) Kv 0 m (fun _=>[])))
 case first=>
  by_cases hm0:m=0
  ·subst hm0
   go_wp2_with fail
   go_meet
   exact⟨_,hide (unhide HDS).1,hide (unhide HDS).2⟩
  ·have m0:(0:Int)<(m:Int):=by omega
   have m0':0<m:=by omega
   obtain⟨a2,rfl⟩:∃a2,ak=some a2:=by
    cases ak with
    |none=>have h1:=hak rfl;omega
    |some a2=>exact⟨a2,rfl⟩
   obtain⟨i0,hi,hz0,hz1,hz2⟩:=info_parts infoS
   have HKC:Hid (∀u,Below g w u→∀j x,(ks.map Value.string)[j]?=some x→u.cell? (a2.add j)=some x):=hide (fun u hu j x hx=>by
    rw [List.getElem?_map] at hx
    cases ht:ks[j]? with
    |none=>rw [ht] at hx;cases hx
    |some t=>
     rw [ht] at hx
     cases hx
     exact(unhide HV u hu).keys.1.cell a2 rfl j t ht)
   have f4:w3.frozen? ⟨g+1+1,4,none⟩=false:=frozen_of_row w3 (g+1+1) 4 _ _ (unhide HDS).2.box
   have HI:=hide (And.intro hi (And.intro hz0 (And.intro hz1 hz2)))
   clear hi hz0 hz1 hz2
   have HK0:Hid (Below g w w3.drew):=hide (unhide HDS).1.below.drew
   have hz3:g+3≤w3.drew.heap.size:=(unhide HDS).1.size
   have m3:IntKind.i64.wrap ((m:Int)+3)=(m:Int)+3:=by rw [IntKind.wrap_i64];omega
   obtain⟨w4,hrun,hown4,hgrow4⟩:=run_make_own (P:=Tryz.prog) w3.drew (g+3) 24 9 i0 (.string ⟨#[]⟩) 1 Tryz.underlying24 (unhide HI).1 (unhide HI).2.1 (unhide HI).2.2.1 .i64 .i64 (m+3) (by rw [(unhide HI).2.2.2];omega) (by unfold maxLen;omega) hz3
   rw [show (((m+3:Nat)):Int)=(m:Int)+3 by omega] at hrun
   have hg4:=hgrow4.size
   have z3:g<w3.drew.heap.size:=by omega
   have z3':g+1+1<w3.drew.heap.size:=by omega
   have p1:w4.cell? ⟨g,4,none⟩=some (.slice (some a2) m ck):=(hgrow4.cell_far ⟨g,4,none⟩ z3 (by simp)).trans c4
   have p2:w4.cell? ⟨g+1+1,4,none⟩=some (.slice none 0 0):=(hgrow4.cell_far ⟨g+1+1,4,none⟩ z3' (by simp)).trans d4
   have p3:w4.frozen? ⟨g+1+1,4,none⟩=false:=(hgrow4.frozen_far ⟨g+1+1,4,none⟩ z3' (by simp)).trans f4
   have HB4:Hid (Below g w w4):=hide ((unhide HK0).grown hgrow4 (by omega) (fun k e=>by cases e))
   have z4:g<w4.heap.size:=by omega
   have z4':g+1+1<w4.heap.size:=by omega
   have z4b:g+3≤w4.heap.size:=by omega
   obtain⟨G,hG⟩:∃G,w3.drew.heap.size=G:=⟨_,rfl⟩
   rw [hG] at hrun hown4
   have HG4:=hide (And.intro hgrow4 (And.intro hown4 hG))
   clear hgrow4 hown4 hG hg4 z3 z3' hz3
   go_wp2_with fail
   have G0:g+3≤G:=((unhide HG4).2.1.lt _ rfl).1
   go_region_held3 (fun w'=>w'.cell? ⟨g,4,none⟩=some (.slice (some a2) m ck))
    (first|go_keep|exact q1|(rw [World.cell?_of_block (heap_setCell_other _ _ _ _ (by show g≠g+1+1;omega))];exact q1))
    (first
     |(refine step_append_lies _ (by rfl) _ _ 24 (by rfl) (g+3) 9 i0 (.string ⟨#[]⟩) 1 16 Tryz.underlying24 (unhide HI).1 (unhide HI).2.1 (unhide HI).2.2.1 (unhide HI).2.2.2 rfl (by omega) _ 0 [] (by rfl) (unhide HG4).2.1 a2 m ck (ks.map Value.string) (by rfl) (by simp [(unhide HL).1]) (unhide HKC w4 (unhide HB4)) (by simp [Value.oneCell']) m0' (by unfold maxLen;omega) (by omega) z4b _ rfl ?_;intro g5 cap5 w5 hown5 hgrow5 hat5 hlt5;have q1:=(hgrow5.cell_far _ z4 (by simp [Value.ownBlock];omega)).trans p1;have q2:=(hgrow5.cell_far _ z4' (by simp [Value.ownBlock];omega)).trans p2;have q3:=(hgrow5.frozen_far _ z4' (by simp [Value.ownBlock];omega)).trans p3;have H5:=hide (And.intro hown5 (And.intro hgrow5 (And.intro hat5 hlt5)));clear hown5 hgrow5 hat5 hlt5))
   go_wp2_with fail
   go_meet
   obtain⟨hown5,hgrow5,hat5,hlt5⟩:=unhide H5
   obtain⟨hgrow4,hown4,hG⟩:=unhide HG4
   have hd4:Below w3.heap.size w3 w4:=((Below.refl _ _).drew).grown hgrow4 (Nat.le_refl _) (fun k e=>by cases e)
   have D4:=(unhide HDS).1.later hd4
   refine⟨.slice (some ⟨g5,0,none⟩) m cap5,hide (D4.push hgrow5 (fun b e=>by cases e;exact G0)),hide ?_⟩
   have hown5':w5.ownsRow (g+3) 9 1 (.slice (some ⟨g5,0,none⟩) m cap5) m ((ks.take m).map Value.string):=by
    rw [List.take_of_length_le (by rw [(unhide HL).1];exact Nat.le_refl _)]
    simpa using hown5
   refine Mid.pushK (Kv:=.slice none 0 0) (unhide HDS).2 (fun b hb _=>?_) (by have:=hd4.size;have:=hgrow5.size;omega) hown5' (Or.inr ?_)
   ·have hG':w3.heap.size=G:=hG
    rw [hgrow5.block b (by have:=hd4.size;omega) (by simp [Value.ownBlock];omega),hd4.block b hb]
   ·have hG':w3.heap.size=G:=hG
    rcases hat5 with e|e
    ·simp [Value.ownBlock] at e;omega
    ·have:=hd4.size;omega
 case rest=>
  obtain⟨Kv,HD1,HM1⟩:=hcut
  clear c0 c1 c2 c3 c4 d0 d1 d2 d3 d4 HDS
  obtain⟨c0,c1,c2,c3,c4⟩:=row_cell (unhide HD1).at0
  obtain⟨d0,d1,d2,d3,d4⟩:=row_cell (unhide HM1).box
  go_upto_if 28 with fail
  go_cut [] from 5 to 34 (fun wx=>∃Lv:Value,Hid (Dp w wx g #[.int .i64 k,.int .i64 n,.string s,.slice al ln cl,.slice ak m ck] #[.int .i64 0,.int .i64 0,.string ⟨#[]⟩,.slice none 0 0,.slice none 0 0])∧Hid (Mid wx (g+3) (g+1+1) k n s l ks Lv Kv 0 m (fun _=>[])))
  case first=>
   by_cases hl0:ln=0
   ·subst hl0
    go_wp2_with fail
    go_meet
    exact⟨_,HD1,HM1⟩
   ·have l0:(0:Int)<(ln:Int):=by omega
    have l0':0<ln:=by omega
    obtain⟨i1,hi,hz0,hz1,hz2⟩:=info_parts infoV
    have hz3:g+3≤wc.heap.size:=(unhide HD1).size
    have f3:wc.frozen? ⟨g+1+1,3,none⟩=false:=frozen_of_row wc (g+1+1) 3 _ _ (unhide HM1).box
    have m3:IntKind.i64.wrap ((ln:Int)+3)=(ln:Int)+3:=by rw [IntKind.wrap_i64];omega
    obtain⟨w4,hrun,hown4,hgrow4⟩:=run_make_own (P:=Tryz.prog) wc (g+3) 23 26 i1 (.agg #[.int .i64 0,.int .i64 0,.string ⟨#[]⟩,.slice none 0 0,.slice none 0 0]) 5 Tryz.underlying23 hi hz0 hz1 .i64 .i64 (ln+3) (by rw [hz2];omega) (by unfold maxLen;omega) hz3
    rw [show (((ln+3:Nat)):Int)=(ln:Int)+3 by omega] at hrun
    have p2:w4.cell? ⟨g+1+1,3,none⟩=some (.slice none 0 0):=(hgrow4.cell_far ⟨g+1+1,3,none⟩ (by show g+1+1<_;omega) (by simp)).trans d3
    have p3:w4.frozen? ⟨g+1+1,3,none⟩=false:=(hgrow4.frozen_far ⟨g+1+1,3,none⟩ (by show g+1+1<_;omega) (by simp)).trans f3
    obtain⟨G,hG⟩:∃G,wc.heap.size=G:=⟨_,rfl⟩
    rw [hG] at hrun hown4
    have HG4:=hide (And.intro hgrow4 (And.intro hown4 hG))
    clear hgrow4 hown4 hG hi hz0 hz1 hz2 hz3
    go_wp2_with fail
    go_meet
    obtain⟨hgrow4,hown4,hG⟩:=unhide HG4
    refine⟨_,hide ((unhide HD1).push hgrow4 (fun b e=>by cases e)),hide ((unhide HM1).roomL (fun b hb=>hgrow4.block b hb (by simp)) hgrow4.size hown4 (by omega))⟩
  case rest=>
   obtain⟨L0,HD2,HM2⟩:=hcut
   clear c0 c1 c2 c3 c4 d0 d1 d2 d3 d4 HD1 HM1
   go_wp2_with fail
   go_loopw [4] (fun x wr=>∃(i:Nat) (Lv:Value) (V:Nat→List Value),i≤ln∧x=.int .i64 i∧Hid (Dp w wr g #[.int .i64 k,.int .i64 n,.string s,.slice al ln cl,.slice ak m ck] #[.int .i64 0,.int .i64 0,.string ⟨#[]⟩,.slice none 0 0,.slice none 0 0])∧Hid (Mid wr (g+3) (g+1+1) k n s l ks Lv Kv i m V)) (fun x _=>ln - (intOf x).toNat)
   case atStart=>exact⟨0,_,_,Nat.zero_le _,rfl,HD2,HM2⟩
   case round=>
    clear HD2 HM2
    obtain⟨i,Lv,V,hi,rfl,HDr,HMr⟩:=hrel
    obtain⟨c0,c1,c2,c3,c4⟩:=row_cell (unhide HDr).at0
    obtain⟨d0,d1,d2,d3,d4⟩:=row_cell (unhide HMr).box
    by_cases hlt:i<ln
    ·have i1:(i:Int)<(ln:Int):=by omega
     have i0:(0:Int)≤(i:Int):=by omega
     obtain⟨y,hy⟩:∃y,l[i]?=some y:=⟨_,List.getElem?_eq_getElem (by have:=(unhide HL).2;omega)⟩
     obtain⟨a,y0,y1,y2,al',ak',ll',m',cl',ck',rfl,hab,hce,hve⟩:=(unhide HV wr (unhide HDr).below).elem i y hy
     have e0:wr.cell? (a.add (i * 5))=some (.int .i64 y0):=hce 0 _ rfl
     have e1:wr.cell? ⟨(a.add (i * 5)).block,(a.add (i * 5)).off+1,none⟩=some (.int .i64 y1):=hce 1 _ rfl
     have e2:wr.cell? ⟨(a.add (i * 5)).block,(a.add (i * 5)).off+2,none⟩=some (.string y2):=hce 2 _ rfl
     have e3:wr.cell? ⟨(a.add (i * 5)).block,(a.add (i * 5)).off+3,none⟩=some (.slice al' ll' cl'):=hce 3 _ rfl
     have e4:wr.cell? ⟨(a.add (i * 5)).block,(a.add (i * 5)).off+4,none⟩=some (.slice ak' m' ck'):=hce 4 _ rfl
     have hdr:Below wr.heap.size wr wr.drew:=(Below.refl _ _).drew
     have hBr:B≤wr.heap.size:=by have:=(unhide HDr).size;omega
     have CR:=hide (ih y _ B wr.drew (unhide HD i y hy) (by have h1:=cntL_next l i y hy;have h2:=cntL_take_le l (i+1);have h3:=unhide HCN;omega) (hve.mono (hdr.mono hBr)) (by have:=hdr.size;omega))
     have hLb:∀q,Lv.ownBlock=some q→g+3≤q∧q<wr.heap.size:=(unhide HMr).ownL.lt
     have HY:=hide hy
     have HLb:=hide hLb
     clear hy hce hve hdr hLb
     obtain⟨iv,hiv,hz0,hz1,hz2⟩:=info_parts infoV
     have HI:=hide (And.intro hiv (And.intro hz0 (And.intro hz1 hz2)))
     clear hiv hz0 hz1 hz2
     have f3:wr.frozen? ⟨g+1+1,3,none⟩=false:=frozen_of_row wr (g+1+1) 3 _ _ (unhide HMr).box
     go_upto_region 9 with fail
     refine till_begin (S:=fun w'=>w'.cell? ⟨g+1+1,3,none⟩=some Lv∧w'.cell? ⟨g,3,none⟩=some (.slice (some a) ln cl) ∧
       w'.cell? (a.add (i * 5))=some (.int .i64 y0)∧w'.cell? ⟨(a.add (i * 5)).block,(a.add (i * 5)).off+1,none⟩=some (.int .i64 y1)∧w'.cell? ⟨(a.add (i * 5)).block,(a.add (i * 5)).off+2,none⟩=some (.string y2)∧w'.cell? ⟨(a.add (i * 5)).block,(a.add (i * 5)).off+3,none⟩=some (.slice al' ll' cl')∧w'.cell? ⟨(a.add (i * 5)).block,(a.add (i * 5)).off+4,none⟩=some (.slice ak' m' ck')) 11 (by kernel_rfl) ?_
     have HS0:=And.intro d3 (And.intro c3 (And.intro e0 (And.intro e1 (And.intro e2 (And.intro e3 e4)))))
     refine till_take 0 (v:=.pointer (some ⟨g+1+1,3,none⟩)) (some 42) rfl rfl rfl (by kernel_rfl) (by kernel_rfl) (by kernel_rfl) (by kernel_rfl) (fun _ _ _ h=>h) (Or.inl ⟨by rfl,fun u hu=>by obtain⟨s0,s1,s2,s3,s4,s5,s6⟩:=hu;go_simp⟩) HS0 ?_
     simp only [Act.put,List.setIfInBounds_toArray,List.set_cons_zero,List.set_cons_succ]
     refine till_take 1 (v:=Lv) (some 43) rfl rfl rfl (by kernel_rfl) (by kernel_rfl) (by kernel_rfl) (by kernel_rfl) (fun _ _ _ h=>h) (Or.inl ⟨by rfl,fun u hu=>by obtain⟨s0,s1,s2,s3,s4,s5,s6⟩:=hu;go_simp⟩) HS0 ?_
     simp only [Act.put,List.setIfInBounds_toArray,List.set_cons_zero,List.set_cons_succ]
     refine till_take 2 (v:=.pointer (some ⟨g,3,none⟩)) (some 44) rfl rfl rfl (by kernel_rfl) (by kernel_rfl) (by kernel_rfl) (by kernel_rfl) (fun _ _ _ h=>h) (Or.inl ⟨by rfl,fun u hu=>by obtain⟨s0,s1,s2,s3,s4,s5,s6⟩:=hu;go_simp⟩) HS0 ?_
     simp only [Act.put,List.setIfInBounds_toArray,List.set_cons_zero,List.set_cons_succ]
     refine till_take 3 (v:=.slice (some a) ln cl) (some 45) rfl rfl rfl (by kernel_rfl) (by kernel_rfl) (by kernel_rfl) (by kernel_rfl) (fun _ _ _ h=>h) (Or.inl ⟨by rfl,fun u hu=>by obtain⟨s0,s1,s2,s3,s4,s5,s6⟩:=hu;go_simp⟩) HS0 ?_
     simp only [Act.put,List.setIfInBounds_toArray,List.set_cons_zero,List.set_cons_succ]
     refine till_take 4 (v:=.int .i64 (i:Int)) (some 46) rfl rfl rfl (by kernel_rfl) (by kernel_rfl) (by kernel_rfl) (by kernel_rfl) (fun _ _ _ h=>h) (Or.inl ⟨by rfl,fun u hu=>by obtain⟨s0,s1,s2,s3,s4,s5,s6⟩:=hu;go_simp⟩) HS0 ?_
     simp only [Act.put,List.setIfInBounds_toArray,List.set_cons_zero,List.set_cons_succ]
     refine till_take 5 (v:=.pointer (some (a.add (i * 5)))) (some 47) rfl rfl rfl (by kernel_rfl) (by kernel_rfl) (by kernel_rfl) (by kernel_rfl) (fun _ _ _ h=>h) (Or.inl ⟨by rfl,fun u hu=>by obtain⟨s0,s1,s2,s3,s4,s5,s6⟩:=hu;go_simp⟩) HS0 ?_
     simp only [Act.put,List.setIfInBounds_toArray,List.set_cons_zero,List.set_cons_succ]
     refine till_take 6 (v:=.agg #[.int .i64 y0,.int .i64 y1,.string y2,.slice al' ll' cl',.slice ak' m' ck']) (some 48) rfl rfl rfl (by kernel_rfl) (by kernel_rfl) (by kernel_rfl) (by kernel_rfl) (fun _ _ _ h=>h) (Or.inl ⟨by rfl,fun u hu=>by obtain⟨s0,s1,s2,s3,s4,s5,s6⟩:=hu;go_simp⟩) HS0 ?_
     simp only [Act.put,List.setIfInBounds_toArray,List.set_cons_zero,List.set_cons_succ]
     refine till_one 7 (by kernel_rfl) rfl (fun K hK=>?_)
     go_simp
     refine(unhide CR).mono ?_
     rintro e w5 ⟨x5,rfl,h5,b5⟩
     obtain⟨k5,n5,s5,l5,ks5,al5,ak5,cl5,ck5,hy5,rfl⟩:=h5.shape
     obtain⟨lc5,hlc5⟩:∃lc5,l5.length=lc5:=⟨_,rfl⟩
     obtain⟨mc5,hmc5⟩:∃mc5,ks5.length=mc5:=⟨_,rfl⟩
     rw [hlc5,hmc5] at h5 ⊢
     have b6:=below_drew_of' b5
     have hz5:=b6.size
     have HS5:=And.intro (cell_later b6 d3) (And.intro (cell_later b6 c3) (And.intro (cell_later b6 e0) (And.intro (cell_later b6 e1) (And.intro (cell_later b6 e2) (And.intro (cell_later b6 e3) (cell_later b6 e4))))))
     have H5:=hide (And.intro h5 b6)
     clear b5 b6 h5 hy5 hlc5 hmc5 CR
     go_wp2_with fail
     refine hK.out _ _ (Or.inr HS5) ?_
     clear hK K HS0 c0 c1 c2 c3 c4 d0 d1 d2 d3 d4 e0 e1 e2 e3 e4 f3
     try simp only [Act.put,List.setIfInBounds_toArray,List.set_cons_zero,List.set_cons_succ]
     refine till_one 8 (by kernel_rfl) rfl (fun K hK=>?_)
     go_simp
     obtain⟨w6,hw6⟩:∃w6,w5.alloc (.cells #[.int .i64 k5,.int .i64 n5,.string s5,.slice al5 lc5 cl5,.slice ak5 mc5 ck5] 26)=w6:=⟨_,rfl⟩
     have X6:Below w5.heap.size w5 w6:=by rw [←hw6];exact(Below.refl _ _).alloc (Nat.le_refl _) _
     have at6:w6.heap[w5.heap.size]?=some (.cells #[.int .i64 k5,.int .i64 n5,.string s5,.slice al5 lc5 cl5,.slice ak5 mc5 ck5] 26 (0,0)):=by rw [←hw6];exact heap_alloc_new w5 _
     have sz6:w6.heap.size=w5.heap.size+1:=by rw [←hw6];simp
     rw [hw6]
     have HS6:=And.intro (cell_later X6 HS5.1) (And.intro (cell_later X6 HS5.2.1) (And.intro (cell_later X6 HS5.2.2.1) (And.intro (cell_later X6 HS5.2.2.2.1) (And.intro (cell_later X6 HS5.2.2.2.2.1) (And.intro (cell_later X6 HS5.2.2.2.2.2.1) (cell_later X6 HS5.2.2.2.2.2.2))))))
     have HM6:=hide (((unhide HMr).later (unhide H5).2).later X6)
     have H6:=hide (And.intro X6 (And.intro at6 sz6))
     obtain⟨h5s,hh5s⟩:∃h5s,w5.heap.size=h5s:=⟨_,rfl⟩
     rw [hh5s] at at6 sz6 ⊢
     have HH5:=hide hh5s
     refine hK.out _ _ (Or.inr HS6) ?_
     clear hK K hw6 X6 HS5 hh5s
     try simp only [Act.put,List.setIfInBounds_toArray,List.set_cons_zero,List.set_cons_succ]
     refine till_one 9 (by kernel_rfl) rfl (fun K hK=>?_)
     refine step_append_lies _ (by rfl) _ _ 23 (by rfl) (g+3) 26 iv (.agg #[.int .i64 0,.int .i64 0,.string ⟨#[]⟩,.slice none 0 0,.slice none 0 0]) 5 80 Tryz.underlying23 (unhide HI).1 (unhide HI).2.1 (unhide HI).2.2.1 (unhide HI).2.2.2 rfl (by omega) Lv i (flat V i) (by rfl) (unhide HM6).ownL ⟨h5s,0,none⟩ 1 1 [.int .i64 k5,.int .i64 n5,.string s5,.slice al5 lc5 cl5,.slice ak5 mc5 ck5] (by rfl) (by rfl) (World.news_of_block at6) (by simp [Value.oneCell']) (by omega) (by unfold maxLen;omega) (by omega) (unhide HM6).size _ rfl ?_
     intro g7 cap7 w7 hown7 hgrow7 hat7 hlt7
     change K (Act.put _ (some 51) _) w7
     have hLb:=unhide HLb
     have fr:∀q,q<g+3→some q≠Lv.ownBlock:=fun q hq e=>by have:=(hLb q e.symm).1;omega
     have kp7:∀(p:Addr) (x:Value),p.block<g+3→w6.cell? p=some x→w7.cell? p=some x:=fun p x hp hx=>(hgrow7.cell_far p (World.block_lt_of_cell? _ _ (by rw [hx])) (fr _ hp)).trans hx
     have hab3:(a.add (i * 5)).block<g+3:=by rw [block_add];omega
     have HS7:=And.intro (kp7 _ _ (by show g+1+1<g+3;omega) HS6.1) (And.intro (kp7 _ _ (by show g<g+3;omega) HS6.2.1) (And.intro (kp7 _ _ (by exact hab3) HS6.2.2.1) (And.intro (kp7 _ _ (by exact hab3) HS6.2.2.2.1) (And.intro (kp7 _ _ (by exact hab3) HS6.2.2.2.2.1) (And.intro (kp7 _ _ (by exact hab3) HS6.2.2.2.2.2.1) (kp7 _ _ (by exact hab3) HS6.2.2.2.2.2.2))))))
     have H7:=hide (And.intro hown7 (And.intro hgrow7 hat7))
     have f7:w7.frozen? ⟨g+1+1,3,none⟩=false:=(hgrow7.frozen_far ⟨g+1+1,3,none⟩ (Nat.lt_of_lt_of_le (by show g+1+1<g+3;omega) (unhide HM6).size) (fr _ (by show g+1+1<g+3;omega))).trans (frozen_of_row w6 (g+1+1) 3 _ _ (unhide HM6).box)
     refine hK.out _ _ (Or.inr HS7) ?_
     clear hK K kp7 hown7 hgrow7 hat7 hlt7 hLb HS6
     try simp only [Act.put,List.setIfInBounds_toArray,List.set_cons_zero,List.set_cons_succ]
     refine till_take 10 (v:=.pointer (some ⟨g+1+1,3,none⟩)) (some 52) rfl rfl rfl (by kernel_rfl) (by kernel_rfl) (by kernel_rfl) (by kernel_rfl) (fun _ _ _ h=>h) (Or.inl ⟨by rfl,fun u hu=>by obtain⟨s0,s1,s2,s3,s4,s5,s6⟩:=hu;go_simp⟩) HS7 ?_
     try simp only [Act.put,List.setIfInBounds_toArray,List.set_cons_zero,List.set_cons_succ]
     refine till_one 11 (by kernel_rfl) rfl (fun K hK=>?_)
     obtain⟨c7,_⟩:=HS7
     go_simp
     refine hK.out _ _ (Or.inl rfl) ?_
     clear hK K
     try simp only [Act.put,List.setIfInBounds_toArray,List.set_cons_zero,List.set_cons_succ]
     refine till_done (by kernel_rfl) ?_ _
     obtain⟨w8,hw8⟩:∃w8,w7.setCell ⟨g+1+1,3,none⟩ (.slice (some ⟨g7,0,none⟩) (i+1) cap7)=w8:=⟨_,rfl⟩
     have HD8:Hid (Dp w w8 g #[.int .i64 k,.int .i64 n,.string s,.slice (some a) ln cl,.slice ak m ck] #[.int .i64 0,.int .i64 0,.string ⟨#[]⟩,.slice none 0 0,.slice none 0 0]):=hide (by
      rw [←hw8]
      exact(((unhide HDr).later (unhide H5).2).later (unhide H6).1).push (unhide H7).2.1 (fun q e=>(unhide HLb q e).1))
     have HM8:Hid (Mid w8 (g+3) (g+1+1) k n s l ks (.slice (some ⟨g7,0,none⟩) (i+1) cap7) Kv (i+1) m (setV V i [.int .i64 k5,.int .i64 n5,.string s5,.slice al5 lc5 cl5,.slice ak5 mc5 ck5])):=hide (by
      rw [←hw8]
      obtain⟨h5,b5⟩:=unhide H5
      obtain⟨X6,at6,sz6⟩:=unhide H6
      obtain⟨hown7,hgrow7,hat7⟩:=unhide H7
      have M5:=(unhide HMr).later b5
      refine M5.pushL (lo:=wr.heap.size) (unhide HMr).size (fun q e=>(unhide HLb q e).2) (fun q e=>((unhide HMr).ownK.lt q e).2) (unhide HY) h5 rfl (fun q hq hne=>?_) (by have:=X6.size;have:=hgrow7.size;omega) hown7 ?_
      ·rw [hgrow7.block q (by have:=X6.size;omega) hne,X6.block q hq]
      ·rcases hat7 with e|e
       ·exact Or.inl e
       ·exact Or.inr (by omega))
     rw [hw8]
     have HI1:Hid (i+1≤ln):=hide (by omega)
     clear hw8 f7 c7
     go_wp2_with fail
     go_roundw
     case rel=>exact⟨i+1,_,_,unhide HI1,by go_num,HD8,HM8⟩
     case measure=>have:=unhide HI1;simp [intOf];omega
    ·have i1:¬(i:Int)<(ln:Int):=by omega
     have hii:i=ln:=by omega
     obtain⟨z0,z1,z2,z3,z4⟩:=row_cell (unhide HDr).at1
     have fz:∀q,wr.frozen? ⟨g+1,q,none⟩=false:=fun q=>frozen_of_row wr (g+1) q _ _ (unhide HDr).at1
     obtain⟨aL,cL,eL,_⟩:=slice_form (unhide HMr).ownL
     obtain⟨aK,cK,eK,_⟩:=slice_form (unhide HMr).ownK
     subst eL
     subst eK
     have hfin:∀u:World,u.heap.size=wr.heap.size→(∀q,q≠g+1→u.heap[q]?=wr.heap[q]?)→IsQ u (fun q=>g≤q∧q<u.heap.size) (.mk k n s l ks) (.agg #[.int .i64 k,.int .i64 n,.string s,.slice aL i cL,.slice aK m cK]):=fun u hu hq=>by
      obtain⟨bk,bn,bs,bq,bt⟩:=unhide HBD
      have hp:=(unhide HMr).made (by rw [(unhide HL).2];exact hii) (unhide HL).1.symm bk bn bs bq bt (by rw [(unhide HL).2];omega)
      exact(hp.move (fun q hP=>hq q (by omega))).weak (fun q hP=>⟨by omega,by omega⟩)
     have HF:=hide hfin
     have fz0:=fz 0
     have fz1:=fz 1
     have fz2:=fz 2
     have fz3:=fz 3
     have fz4:=fz 4
     clear fz hfin
     go_wp2_with fail
     subst hii
     have R9:=five_set wr (g+1) 26 _ _ _ _ _ (.int .i64 k) (.int .i64 n) (.string s) (.slice aL i cL) (.slice aK m cK) (unhide HDr).at1
     have O9:=five_other wr (g+1) (x0:=.int .i64 k) (x1:=.int .i64 n) (x2:=.string s) (x3:=.slice aL i cL) (x4:=.slice aK m cK)
     have S9:(((((wr.setCell ⟨g+1,0,none⟩ (.int .i64 k)).setCell ⟨g+1,1,none⟩ (.int .i64 n)).setCell ⟨g+1,2,none⟩ (.string s)).setCell ⟨g+1,3,none⟩ (.slice aL (i:Nat) cL)).setCell ⟨g+1,4,none⟩ (.slice aK m cK)).heap.size=wr.heap.size:=by simp
     have B9:Below g w (((((wr.setCell ⟨g+1,0,none⟩ (.int .i64 k)).setCell ⟨g+1,1,none⟩ (.int .i64 n)).setCell ⟨g+1,2,none⟩ (.string s)).setCell ⟨g+1,3,none⟩ (.slice aL (i:Nat) cL)).setCell ⟨g+1,4,none⟩ (.slice aK m cK)):=(((((unhide HDr).below.setCell (p:=⟨g+1,0,none⟩) (by simp) (.int .i64 k)).setCell (p:=⟨g+1,1,none⟩) (by simp) (.int .i64 n)).setCell (p:=⟨g+1,2,none⟩) (by simp) (.string s)).setCell (p:=⟨g+1,3,none⟩) (by simp) (.slice aL i cL)).setCell (p:=⟨g+1,4,none⟩) (by simp) (.slice aK m cK)
     obtain⟨w9,hw9⟩:∃w9,(((((wr.setCell ⟨g+1,0,none⟩ (.int .i64 k)).setCell ⟨g+1,1,none⟩ (.int .i64 n)).setCell ⟨g+1,2,none⟩ (.string s)).setCell ⟨g+1,3,none⟩ (.slice aL (i:Nat) cL)).setCell ⟨g+1,4,none⟩ (.slice aK m cK))=w9:=⟨_,rfl⟩
     rw [hw9] at R9 S9 B9 ⊢
     have I9:=unhide HF w9 S9 (fun q hq=>by rw [←hw9];exact O9 q hq)
     obtain⟨r0,r1,r2,r3,r4⟩:=row_cell R9
     refine bodyPost_ret (v:=.agg #[.int .i64 k,.int .i64 n,.string s,.slice aL i cL,.slice aK m cK]) (by simp [results,Tryz.results66,go_sem,r0,r1,r2,r3,r4]) rfl ?_
     first|exact⟨_,rfl,I9,B9⟩|(rw [←hg] at I9 B9;exact⟨_,rfl,I9,B9⟩)
theorem deep_any:∀b,DeepAt b
 |0=>deep_zero
 |b+1=>deep_step b (deep_any b)
end Go.Proofs.YtekbmfppfjlboaaGreatDoor
