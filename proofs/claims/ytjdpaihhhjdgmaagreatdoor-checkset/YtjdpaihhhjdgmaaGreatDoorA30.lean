/-
  The walk of lex's All; conditions: what the variables of strconv hold.
  What is so of a source's tokens: up to a token, or a fault, a source is read by itself; tokens written with a blank between are read again; a quoted text is one token; no conditions.
  Tokens written with a blank between are read again; a quoted text is one token; no conditions.
  Rows of tokens; tokens compared; the walks of the law's same and shown; conditions: what the variables of strconv hold.
-/
import Derived.Test.YtjdpaihhhjdgmaaGreatDoorA29
import Derived.Test.YtjdpaihhhjdgmaaGreatDoorA26
import Derived.Test.YtjdpaihhhjdgmaaGreatDoorA28
import Derived.Laws.StructEq
set_option linter.unusedVariables false
set_option linter.unusedSimpArgs false
set_option maxRecDepth 100000
set_option maxHeartbeats 8000000
namespace Go.Proofs.YtjdpaihhhjdgmaaGreatDoor
open Go.RowKit
set_option linter.unusedVariables false
set_option linter.unusedSimpArgs false
def tkL (t:Tk):List Value:=[.int .i64 (t.k:Int),.string (bA t.t),.int .i64 (t.n:Int),.int .i64 (t.p:Int)]
def flT (ts:List Tk):List Value:=ts.flatMap tkL
theorem flT_one (ts:List Tk) (t:Tk):flT (ts++[t])=flT ts++tkL t:=by unfold flT;rw [List.flatMap_append];simp
theorem infoTok:(Tryz.prog.info? 85).map (fun i=>(i.zero,i.size,i.bytes))=some (some (.agg #[.int .i64 0,.string ⟨#[]⟩,.int .i64 0,.int .i64 0]),4,40):=by kernel_rfl
theorem row_cell4 {w:World} {g:Nat} {x0 x1 x2 x3:Value} {T:TypeId} (h:w.heap[g]?=some (.cells #[x0,x1,x2,x3] T (0,0))) :
  w.cell? ⟨g,0,none⟩=some x0∧w.cell? ⟨g,1,none⟩=some x1∧w.cell? ⟨g,2,none⟩=some x2∧w.cell? ⟨g,3,none⟩=some x3:=
 ⟨by rw [cell_of_row w g 0 _ _ (0,0) h];rfl,by rw [cell_of_row w g 1 _ _ (0,0) h];rfl,by rw [cell_of_row w g 2 _ _ (0,0) h];rfl,by rw [cell_of_row w g 3 _ _ (0,0) h];rfl⟩
theorem ret_ttt {P:Program} {fn:Func} {p u v:Tmp} (h:fn.results=#[.tmp p,.tmp u,.tmp v]) (tmps:Array Value) (w:World) :
  (results fn tmps).run P w=.ok (.tuple #[tmps.getD p undef,tmps.getD u undef,tmps.getD v undef]) w:=by
 simp [results,h,Result.andThen]
def AllR (B:Nat) (e:Ending) (w':World):Except (Nat × Nat) (List Tk)→Prop
 |.error (p,er)=>e=.returned (.tuple #[.slice none 0 0,.int .i64 (p:Int),.int .i64 (er:Int)])
 |.ok ts=>∃v,e=.returned (.tuple #[v,.int .i64 0,.int .i64 0])∧w'.ownsRow B 85 4 v ts.length (flT ts)
theorem fst_err {l:List UInt8} {er:Nat} (h:fstT l=.error er):161≤er∧er≤164:=by
 cases l with
 |nil=>simp [fstT] at h;omega
 |cons c r=>
  rw [fst_cons] at h
  split at h
  ·unfold wrdT at h
   split at h
   ·simp at h
   ·split at h
    ·simp at h;omega
    ·simp at h
  ·split at h
   ·unfold numT at h
    split at h
    ·simp at h;omega
    ·simp at h
   ·split at h
    ·unfold bytT at h
     split at h
     ·simp at h;omega
     ·simp at h
    ·unfold sgnT at h
     split at h
     ·simp at h;omega
     ·simp at h
theorem lp_cons (f p:Nat) (c:UInt8) (r:List UInt8):lpT (f+1) p (c :: r)=match fstT (c :: r) with
  |.error e=>.error (p,e)
  |.ok (t,n)=>preT [t.at p] (lpT f (p+n+blk false ((c :: r).drop n)) (((c :: r).drop n).drop (blk false ((c :: r).drop n)))):=rfl
theorem all_any (s:ByteArray) (w:World) (he:Ev w) (hw6:5<w.heap.size) :
  Calls Tryz.prog 34 #[.string s] w fun e w'=>AllR w.heap.size e w' (allT s.data.toList)∧Below w.heap.size w w':=by
 by_cases hbig:8192<s.size
 ·have hE:allT s.data.toList=.error (0,160):=by unfold allT;rw [len_list,if_pos hbig]
  rw [hE]
  have j1:(8192:Int)<(s.size:Int):=by omega
  unfold AllR
  go_enter Tryz.func34,Tryz.ntmps34
  go_wp2_with fail
  exact bodyPost_ret (ret_ttt (p:=2) (u:=3) (v:=4) rfl _ _) rfl ⟨rfl,Below.refl _ _⟩
 have j1:¬(8192:Int)<(s.size:Int):=by omega
 have hs2:(s.size:Int)≤8192:=by omega
 have hs:s.size≤8192:=by omega
 obtain⟨b0,hb0⟩:=eX (blk false s.data.toList)
 have hE:allT s.data.toList=lpT (s.size+1) b0 (s.data.toList.drop b0):=by unfold allT;rw [len_list,if_neg hbig,hb0]
 have hb0l:b0≤s.size:=by rw [←hb0,←len_list];exact blk_le _ _
 rw [hE]
 obtain⟨R,hR⟩:=eX (lpT (s.size+1) b0 (s.data.toList.drop b0))
 have HR:=hZ hR
 rw [hR]
 obtain⟨B,hB⟩:=eX (w.heap.size)
 have HB:=hZ hB
 have C0:=hZ (blanks_any s (by omega) w)
 rw [hb0] at C0
 have HEV:Hid (∀u,Below B w u→Ev u∧5<u.heap.size∧B≤u.heap.size):=hZ (fun u hu=>⟨he.below hu (by omega),by have:=hu.size;omega,by have:=hu.size;omega⟩)
 obtain⟨it,hi,hz0,hzs,hzb⟩:=info_parts infoTok
 have HI:=hZ (And.intro hi (And.intro hz0 (And.intro hzs hzb)))
 have HBL:=hZ hb0l
 clear he hw6 hE hR hb0 hi hz0 hzs hzb hbig
 rw [hB] at C0 ⊢
 clear hB
 go_enter Tryz.func34,Tryz.ntmps34
 go_wp2_with fail
 refine(uZ C0).mono ?_
 rintro e u0 ⟨rfl,b1⟩
 have HU0:=hZ b1
 clear b1 C0
 go_wp2_with fail
 go_loopw [5,6] (fun v x wr=>∃(p f:Nat) (ts:List Tk),x=.int .i64 (p:Int)∧p≤s.size∧Hid (wr.ownsRow B 85 4 v ts.length (flT ts)∧R=preT ts (lpT f p (s.data.toList.drop p))∧(s.data.toList.drop p).length<f∧ts.length+(s.size - p)≤8192∧Below B w wr)) (fun _ x _=>s.size - (intOf x).toNat)
 case atStart=>exact⟨b0,s.size+1,[],rfl,uZ HBL,hZ ⟨⟨rfl,Or.inl ⟨rfl,rfl⟩⟩,by rw [uZ HR,preT_nil],by rw [List.length_drop,len_list];omega,by simp;omega,uZ HU0⟩⟩
 case round=>
  clear HU0 HBL HR
  obtain⟨p,f,ts,rfl,hps,HX⟩:=hrel
  obtain⟨q8,p8,rfl,hsl⟩:=slice_form (uZ HX).1
  clear hsl
  have hbel:=hZ (uZ HX).2.2.2.2
  obtain⟨f',rfl⟩:∃f',f=f'+1:=⟨f - 1,by have:=(uZ HX).2.2.1;omega⟩
  by_cases hlt:p<s.size
  ·have k1:(p:Int)<(s.size:Int):=by omega
   have t1:(p:Int)≤(s.size:Int):=by omega
   have hed:=ext_drop s p
   have hes:(s.extract p s.size).size=s.size - p:=by rw [ByteArray.size_extract];omega
   have CF:=hZ (first_any (s.extract p s.size) (by omega) (by omega) wr (uZ HEV wr (uZ hbel)).1 (uZ HEV wr (uZ hbel)).2.1)
   rw [hed,bA_data,←hed] at CF
   have hdq:=drop_at s p hlt
   have hlp:=lp_cons f' p (s[p]'hlt) (s.data.toList.drop (p+1))
   rw [←hdq] at hlp
   cases hf:fstT (s.data.toList.drop p) with
   |error er=>
    rw [hf] at CF hlp
    have CF2:Hid (Calls Tryz.prog 72 #[.string (s.extract p s.size)] wr fun e w'=>e=.returned (.tuple #[.agg #[.int .i64 0,.string ⟨#[]⟩,.int .i64 0,.int .i64 0],.int .i64 0,.int .i64 (er:Int)])∧Below wr.heap.size wr w'):=CF
    have her:161≤er∧er≤164:=fst_err hf
    have e1:((er:Int) == 0)=false:=beq_eq_false_iff_ne.2 (by omega)
    have e2:((er:Int) != 0)=true:=by simp;omega
    have e3:¬(er:Int)=0:=by omega
    have HE:Hid (R=.error (p,er)):=hZ (by rw [(uZ HX).2.1,hlp];rfl)
    clear HX hdq hlp hf CF hed hes her
    go_wp2_with fail
    refine(uZ CF2).mono ?_
    rintro e u2 ⟨rfl,b2⟩
    have HU2:Hid (Below B w u2):=hZ ((uZ hbel).trans (b2.mono (uZ HEV wr (uZ hbel)).2.2))
    clear b2 CF2
    go_upto_region 7 with fail
    obtain⟨w4,hw4⟩:∃w4,w4=u2.alloc (.cells #[.int .i64 0,.string ⟨#[]⟩,.int .i64 0,.int .i64 0] 85):=⟨_,rfl⟩
    rw [←hw4]
    have HU4:Hid (Below B w w4):=hZ (by rw [hw4];exact(uZ HU2).alloc (uZ HEV u2 (uZ HU2)).2.2 _)
    clear hw4
    go_wp2_with fail
    refine bodyPost_ret (ret_ttt (p:=2) (u:=3) (v:=4) rfl _ _) rfl ⟨?_,uZ HU4⟩
    rw [uZ HE]
    exact rfl
   |ok x=>
    obtain⟨t,n⟩:=x
    have hnp:=fst_pos hf
    rw [List.length_drop,len_list] at hnp
    have htp:=(fst_zero hf).1
    obtain⟨tk,tt,tn,tp⟩:=t
    rw [hf] at CF hlp
    simp only at hlp htp
    subst htp
    have CF2:Hid (Calls Tryz.prog 72 #[.string (s.extract p s.size)] wr fun e w'=>e=.returned (.tuple #[.agg #[.int .i64 (tk:Int),.string (bA tt),.int .i64 (tn:Int),.int .i64 0],.int .i64 (n:Int),.int .i64 0])∧Below wr.heap.size wr w'):=CF
    obtain⟨V,hV⟩:=eX (bA tt)
    rw [hV] at CF2
    obtain⟨m,hm⟩:=eX (blk false (s.data.toList.drop (p+n)))
    have hml:m≤s.size - (p+n):=by rw [←hm,←len_list,←List.length_drop];exact blk_le _ _
    have CBk:=hZ (fun u=>blanks_any (s.extract (p+n) s.size) (by rw [ByteArray.size_extract];omega) u)
    rw [ext_drop,bA_data,hm,←ext_drop] at CBk
    have HNX:Hid (R=preT (ts++[⟨tk,tt,tn,p⟩]) (lpT f' (p+n+m) (s.data.toList.drop (p+n+m)))):=hZ (by
     rw [(uZ HX).2.1,hlp,preT_add,List.drop_drop,hm,List.drop_drop]
     rfl)
    have HFL:Hid (flT (ts++[⟨tk,tt,tn,p⟩])=flT ts++[.int .i64 (tk:Int),.string V,.int .i64 (tn:Int),.int .i64 (p:Int)]):=hZ (by rw [flT_one];unfold tkL;rw [hV])
    have HNP:=hZ (And.intro hnp hml)
    have HLN:=hZ (And.intro (uZ HX).2.2.1 (uZ HX).2.2.2.1)
    have HOW:=hZ (uZ HX).1
    have hpn:(p:Int)+(n:Int)≤(s.size:Int):=by omega
    have hpm:(p:Int)+(n:Int)+(m:Int)≤(s.size:Int):=by omega
    obtain⟨N,hN⟩:=eX (ts.length)
    rw [hN] at HOW HLN ⊢
    have hN2:N≤8192:=by have:=(uZ HLN).2;omega
    have HNN:=hZ hN
    clear HX hdq hlp hf CF hed hes hnp hml hm hV hN
    go_wp2_with fail
    refine(uZ CF2).mono ?_
    rintro e u2 ⟨rfl,b2⟩
    have HU2:Hid (Below B w u2∧u2.ownsRow B 85 4 (.slice q8 N p8) N (flT ts)):=hZ ⟨(uZ hbel).trans (b2.mono (uZ HEV wr (uZ hbel)).2.2),own_later (uZ HOW) (fun b hb _=>b2.block b hb)⟩
    clear b2 CF2 HOW
    go_upto_region 7 with fail
    obtain⟨g4,hg4⟩:=eX (u2.heap.size)
    obtain⟨w4,hw4⟩:∃w4,w4=u2.alloc (.cells #[.int .i64 (tk:Int),.string V,.int .i64 (tn:Int),.int .i64 0] 85):=⟨_,rfl⟩
    rw [←hw4]
    have A4:w4.heap[g4]?=some (.cells #[.int .i64 (tk:Int),.string V,.int .i64 (tn:Int),.int .i64 0] 85 (0,0)):=by rw [hw4,←hg4];exact heap_alloc_new u2 _
    have HB4:Hid (Below u2.heap.size u2 w4∧w4.heap.size=g4+1∧B≤g4):=hZ ⟨by rw [hw4];exact(Below.refl _ _).alloc (Nat.le_refl _) _,by rw [hw4,←hg4];simp,by rw [←hg4];exact(uZ HEV u2 (uZ HU2).1).2.2⟩
    obtain⟨a0,a1,a2,a3⟩:=row_cell4 A4
    have fz:w4.frozen? ⟨g4,3,none⟩=false:=frozen_of_row w4 g4 3 _ _ A4
    have hl4:g4<w4.heap.size:=by have:=(uZ HB4).2.1;omega
    clear hw4
    rw [hg4]
    have HA4:=hZ A4
    clear A4
    go_upto_region 10 with fail
    obtain⟨w5,hw5⟩:∃w5,w5=w4.setCell ⟨g4,3,none⟩ (.int .i64 (p:Int)):=⟨_,rfl⟩
    rw [←hw5]
    have A5:w5.heap[g4]?=some (.cells #[.int .i64 (tk:Int),.string V,.int .i64 (tn:Int),.int .i64 (p:Int)] 85 (0,0)):=by
     rw [hw5,heap_setCell_same w4 g4 3 _ _ _ (uZ HA4)]
     rfl
    have HU5:Hid (Below B w w5∧w5.ownsRow B 85 4 (.slice q8 N p8) N (flT ts)∧B≤w5.heap.size):=hZ (by
     have h4:=uZ HB4
     have h45:Below g4 w4 w5:=by rw [hw5];exact(Below.refl _ _).setCell (p:=⟨g4,3,none⟩) (Nat.le_refl _) _
     have h25:Below g4 u2 w5:=by rw [←hg4] at h45 ⊢;exact h4.1.trans h45
     refine⟨(uZ HU2).1.trans (h25.mono h4.2.2),own_later (uZ HU2).2 (fun b hb _=>h25.block b (by omega)),?_⟩
     have:=h25.size
     omega)
    clear a0 a1 a2 a3 fz hw5 hl4 HA4 HB4
    obtain⟨a0,a1,a2,a3⟩:=row_cell4 A5
    have hl5:g4<w5.heap.size:=(Array.getElem?_eq_some_iff.1 A5).1
    clear A5
    have tokB:True:=trivial
    go_upto_region 11 with (first|(have _t:=tokB;at_builtin;refine wpl_oneG rfl (.tmp 33) (.tmp 35) 77 85 it (.agg #[.int .i64 0,.string ⟨#[]⟩,.int .i64 0,.int .i64 0]) 4 40 Tryz.underlying77 (uZ HI).1 (uZ HI).2.1 (uZ HI).2.2.1 (uZ HI).2.2.2 rfl (by omega) rfl B N (.slice q8 N p8) (flT ts) [.int .i64 (tk:Int),.string V,.int .i64 (tn:Int),.int .i64 (p:Int)] rfl (by simp [Value.oneCell']) rfl (uZ HU5).2.1 rfl (by unfold maxLen;omega) (by omega) (uZ HU5).2.2 ?_;intro v8 w8 H8;clear tokB;obtain⟨q9,p9,rfl,hsl⟩:=slice_form (uZ H8).1;clear hsl))
    have HU8:Hid (Below B w w8∧w8.ownsRow B 85 4 (.slice q9 (N+1) p9) (N+1) (flT (ts++[⟨tk,tt,tn,p⟩]))):=hZ (by
     obtain⟨h1,h2,_⟩:=uZ H8
     rw [uZ HFL]
     exact⟨(uZ HU5).1.trans ((Below.refl _ _).grown h2 (uZ HU5).2.2 (fun k e=>((uZ HU5).2.1.lt k e).1)),h1⟩)
    clear H8 a0 a1 a2 a3 hl5
    go_wp2_with fail
    refine((uZ CBk) _).mono ?_
    rintro e u9 ⟨rfl,b9⟩
    have HU9:Hid (Below B w u9∧u9.ownsRow B 85 4 (.slice q9 (N+1) p9) (N+1) (flT (ts++[⟨tk,tt,tn,p⟩]))):=hZ ⟨(uZ HU8).1.trans (b9.mono (uZ HEV w8 (uZ HU8).1).2.2),own_later (uZ HU8).2 (fun b hb _=>b9.block b hb)⟩
    clear b9 CBk
    go_wp2_with fail
    go_roundw
    case rel=>
     refine⟨p+n+m,f',ts++[⟨tk,tt,tn,p⟩],by go_num,by omega,hZ ⟨?_,uZ HNX,?_,?_,(uZ HU9).1⟩⟩
     ·rw [List.length_append,uZ HNN]
      exact(uZ HU9).2
     ·have h1:=(uZ HLN).1
      have h2:=uZ HNP
      rw [List.length_drop,len_list] at h1 ⊢
      omega
     ·have h1:=(uZ HLN).2
      have h2:=uZ HNP
      rw [List.length_append,uZ HNN]
      simp
      omega
    case measure=>have h2:=uZ HNP;simp [intOf];omega
  ·have k1:¬(p:Int)<(s.size:Int):=by omega
   have ep:p=s.size:=by omega
   have HE:Hid (R=.ok (ts++[endT p])):=hZ (by
    rw [(uZ HX).2.1,List.drop_of_length_le (by rw [len_list];omega)]
    rfl)
   obtain⟨N,hN⟩:=eX (ts.length)
   have HOW:=hZ (uZ HX).1
   have hN2:N≤8192:=by have:=(uZ HX).2.2.2.1;omega
   rw [hN] at HOW ⊢
   have HNN:=hZ hN
   have HFL:Hid (flT (ts++[endT p])=flT ts++[.int .i64 0,.string ⟨#[]⟩,.int .i64 0,.int .i64 (p:Int)]):=hZ (by rw [flT_one];rfl)
   have hBr:=(uZ HEV wr (uZ hbel)).2.2
   clear HX hN ep
   have tokB:True:=trivial
   go_wp2_with (first|(have _t:=tokB;at_builtin;refine wpl_oneG rfl (.tmp 46) (.tmp 49) 77 85 it (.agg #[.int .i64 0,.string ⟨#[]⟩,.int .i64 0,.int .i64 0]) 4 40 Tryz.underlying77 (uZ HI).1 (uZ HI).2.1 (uZ HI).2.2.1 (uZ HI).2.2.2 rfl (by omega) rfl B N (.slice q8 N p8) (flT ts) [.int .i64 0,.string ⟨#[]⟩,.int .i64 0,.int .i64 (p:Int)] rfl (by simp [Value.oneCell']) rfl (uZ HOW) rfl (by unfold maxLen;omega) (by omega) hBr ?_;intro v8 w8 H8;clear tokB))
   refine bodyPost_ret (ret_ttt (p:=2) (u:=3) (v:=4) rfl _ _) rfl ⟨?_,?_⟩
   ·rw [uZ HE]
    refine⟨v8,rfl,?_⟩
    rw [List.length_append,uZ HNN,uZ HFL]
    exact(uZ H8).1
   ·exact(uZ hbel).trans ((Below.refl _ _).grown (uZ H8).2.1 hBr (fun k e=>((uZ HOW).lt k e).1))
theorem lp_consP (f p:Nat) (c:UInt8) (r:List UInt8):lpT (f+1) p (c :: r)=match fstT (c :: r) with
  |.error e=>.error (p,e)
  |.ok (t,n)=>preT [t.at p] (lpT f (p+n+blk false ((c :: r).drop n)) (((c :: r).drop n).drop (blk false ((c :: r).drop n)))):=rfl
theorem lp_ok {f p:Nat} {c:UInt8} {r:List UInt8} {ts:List Tk} (h:lpT (f+1) p (c :: r)=.ok ts):∃t n us,fstT (c :: r)=.ok (t,n)∧lpT f (p+n+blk false ((c :: r).drop n)) (((c :: r).drop n).drop (blk false ((c :: r).drop n)))=.ok us∧ts=t.at p :: us:=by
 rw [lp_consP] at h
 cases hf:fstT (c :: r) with
 |error e=>rw [hf] at h;cases h
 |ok x=>
  obtain⟨t,n⟩:=x
  rw [hf] at h
  simp only at h
  cases hl:lpT f (p+n+blk false ((c :: r).drop n)) (((c :: r).drop n).drop (blk false ((c :: r).drop n))) with
  |error e=>rw [hl] at h;cases h
  |ok us=>
   rw [hl] at h
   simp only [preT,Except.ok.injEq] at h
   exact⟨t,n,us,rfl,hl,by rw [←h];rfl⟩
theorem rest_len (l:List UInt8) (n:Nat) (hn:n≤l.length):(((l.drop n).drop (blk false (l.drop n))).length+n+blk false (l.drop n)=l.length):=by
 have:=blk_le false (l.drop n)
 rw [List.length_drop] at this
 rw [List.length_drop,List.length_drop]
 omega
theorem lp_all:∀(f:Nat) (p:Nat) (l:List UInt8) (ts:List Tk),l.length<f→lpT f p l=.ok ts →
  (∃us,ts=us++[endT (p+l.length)])∧(∀(i:Nat) (t:Tk),ts[i]?=some t→p≤t.p∧t.p≤p+l.length∧∀f',l.length<f'→lpT f' p (l.take (t.p - p))=.ok (ts.take i++[endT t.p]))∧(∀(i:Nat) (a b:Tk),ts[i]?=some a→ts[i+1]?=some b→a.p<b.p)
 |0,p,l,ts,hf,_=>by omega
 |f+1,p,[],ts,hf,h=>by
  simp only [lpT,Except.ok.injEq] at h
  subst h
  refine⟨⟨[],rfl⟩,fun i t ht=>?_,fun i a b ha hb=>by simp at hb⟩
  cases i with
  |zero=>
   simp at ht
   subst ht
   refine⟨Nat.le_refl _,by simp [endT],fun f' hf'=>?_⟩
   obtain⟨g,rfl⟩:∃g,f'=g+1:=⟨f' - 1,by omega⟩
   simp [lpT,endT]
  |succ i=>simp at ht
 |f+1,p,c :: r,ts,hf,h=>by
  obtain⟨t,n,us,h1,h2,rfl⟩:=lp_ok h
  have hn:=fst_pos h1
  have hlen:=rest_len (c :: r) n hn.2
  obtain⟨⟨vs,hvs⟩,ih2,ih3⟩:=lp_all f _ _ us (by simp only [List.length_cons] at hf hlen;omega) h2
  have hend:p+n+blk false ((c :: r).drop n)+(((c :: r).drop n).drop (blk false ((c :: r).drop n))).length=p+(c :: r).length:=by omega
  refine⟨⟨t.at p :: vs,by rw [hvs,hend];rfl⟩,fun i x hx=>?_,fun i a b ha hb=>?_⟩
  ·cases i with
   |zero=>
    simp at hx
    subst hx
    refine⟨Nat.le_refl _,by simp [Tk.at],fun f' hf'=>?_⟩
    obtain⟨g,rfl⟩:∃g,f'=g+1:=⟨f' - 1,by omega⟩
    simp [lpT,Tk.at]
   |succ i=>
    have hx':us[i]?=some x:=by simpa using hx
    obtain⟨g1,g2,g3⟩:=ih2 i x hx'
    refine⟨by omega,by omega,fun f' hf'=>?_⟩
    obtain⟨g,rfl⟩:∃g,f'=g+1:=⟨f' - 1,by omega⟩
    obtain⟨m,hm⟩:=eX (x.p - p)
    have hnm:n≤m:=by omega
    have ht:=(fst_take m h1 hnm).2.2
    obtain⟨q,rfl⟩:∃q,m=q+1:=⟨m - 1,by omega⟩
    have hd:(c :: r.take q).drop n=((c :: r).drop n).take (q+1 - n):=by rw [←List.take_succ_cons,List.drop_take]
    have hb:blk false (((c :: r).drop n).take (q+1 - n))=blk false ((c :: r).drop n):=blk_take _ _ _ (by omega)
    have hdd:(((c :: r).drop n).take (q+1 - n)).drop (blk false ((c :: r).drop n))=(((c :: r).drop n).drop (blk false ((c :: r).drop n))).take (x.p - (p+n+blk false ((c :: r).drop n))):=by
     rw [List.drop_take]
     congr 1
     omega
    rw [hm,List.take_succ_cons] at *
    rw [lp_consP,ht]
    simp only
    rw [hd,hb,hdd,g3 g (by simp only [List.length_cons] at hf' hlen;omega)]
    simp [preT]
  ·cases i with
   |zero=>
    simp at ha
    subst ha
    have hb':us[0]?=some b:=by simpa using hb
    have:=(ih2 0 b hb').1
    simp only [Tk.at]
    omega
   |succ i=>exact ih3 i a b (by simpa using ha) (by simpa using hb)
theorem fst_errP {l:List UInt8} {er:Nat} (h:fstT l=.error er):161≤er∧er≤164:=by
 cases l with
 |nil=>simp [fstT] at h;omega
 |cons c r=>
  rw [fst_cons] at h
  split at h
  ·unfold wrdT at h
   split at h
   ·simp at h
   ·split at h
    ·simp at h;omega
    ·simp at h
  ·split at h
   ·unfold numT at h
    split at h
    ·simp at h;omega
    ·simp at h
   ·split at h
    ·unfold bytT at h
     split at h
     ·simp at h;omega
     ·simp at h
    ·unfold sgnT at h
     split at h
     ·simp at h;omega
     ·simp at h
theorem lp_fault:∀(f:Nat) (p:Nat) (l:List UInt8) (q e:Nat),l.length<f→lpT f p l=.error (q,e) →
  p≤q∧q<p+l.length∧161≤e∧e≤164∧∃ts,∀f',l.length<f'→lpT f' p (l.take (q - p))=.ok (ts++[endT q])
 |0,p,l,q,e,hf,_=>by omega
 |f+1,p,[],q,e,hf,h=>by simp [lpT] at h
 |f+1,p,c :: r,q,e,hf,h=>by
  rw [lp_consP] at h
  cases h1:fstT (c :: r) with
  |error e'=>
   rw [h1] at h
   simp only [Except.error.injEq,Prod.mk.injEq] at h
   obtain⟨rfl,rfl⟩:=h
   have:=fst_errP h1
   refine⟨Nat.le_refl _,by simp,this.1,this.2,[],fun f' hf'=>?_⟩
   obtain⟨g,rfl⟩:∃g,f'=g+1:=⟨f' - 1,by omega⟩
   simp [lpT]
  |ok x=>
   obtain⟨t,n⟩:=x
   rw [h1] at h
   simp only at h
   have hn:=fst_pos h1
   have hlen:=rest_len (c :: r) n hn.2
   cases h2:lpT f (p+n+blk false ((c :: r).drop n)) (((c :: r).drop n).drop (blk false ((c :: r).drop n))) with
   |ok us=>rw [h2] at h;cases h
   |error qe=>
    rw [h2] at h
    simp only [preT,Except.error.injEq] at h
    subst h
    obtain⟨g1,g2,g3,g4,ts,g5⟩:=lp_fault f _ _ q e (by simp only [List.length_cons] at hf hlen;omega) h2
    refine⟨by omega,by omega,g3,g4,t.at p :: ts,fun f' hf'=>?_⟩
    obtain⟨g,rfl⟩:∃g,f'=g+1:=⟨f' - 1,by omega⟩
    obtain⟨m,hm⟩:=eX (q - p)
    have ht:=(fst_take m h1 (by omega)).2.2
    obtain⟨y,rfl⟩:∃y,m=y+1:=⟨m - 1,by omega⟩
    have hd:(c :: r.take y).drop n=((c :: r).drop n).take (y+1 - n):=by rw [←List.take_succ_cons,List.drop_take]
    have hb:blk false (((c :: r).drop n).take (y+1 - n))=blk false ((c :: r).drop n):=blk_take _ _ _ (by omega)
    have hdd:(((c :: r).drop n).take (y+1 - n)).drop (blk false ((c :: r).drop n))=(((c :: r).drop n).drop (blk false ((c :: r).drop n))).take (q - (p+n+blk false ((c :: r).drop n))):=by
     rw [List.drop_take]
     congr 1
     omega
    rw [hm,List.take_succ_cons] at *
    rw [lp_consP,ht]
    simp only
    rw [hd,hb,hdd,g5 g (by simp only [List.length_cons] at hf' hlen;omega)]
    simp [preT]
theorem all_split {l:List UInt8} (h:l.length≤8192):allT l=lpT (l.length+1) (blk false l) (l.drop (blk false l)):=by unfold allT;rw [if_neg (by omega)]
theorem all_small {l:List UInt8} {ts:List Tk} (h:allT l=.ok ts):l.length≤8192:=by
 unfold allT at h
 split at h
 ·cases h
 ·omega
theorem bytes_inj {s t:ByteArray}:s.toList=t.toList↔s=t:=by
 constructor
 ·intro h
  rw [ByteArray.toList_eq,ByteArray.toList_eq] at h
  rw [bA_eq s _ h,bA_self]
 ·intro h
  rw [h]
theorem bA_inj {a b:List UInt8}:bA a=bA b↔a=b:=by
 constructor
 ·intro h
  have:=congrArg (fun s:ByteArray=>s.data.toList) h
  simpa [bA_data] using this
 ·intro h
  rw [h]
theorem flT_at:∀(ts:List Tk) (i:Nat) (t:Tk) (m:Nat) (x:Value),ts[i]?=some t→(tkL t)[m]?=some x→(flT ts)[i * 4+m]?=some x
 |[],i,t,m,x,h,_=>by simp at h
 |u :: us,0,t,m,x,h,hm=>by
  simp at h
  subst h
  have hl:m<(tkL u).length:=(List.getElem?_eq_some_iff.1 hm).1
  show (tkL u++flT us)[0 * 4+m]?=_
  rw [Nat.zero_mul,Nat.zero_add,List.getElem?_append_left hl]
  exact hm
 |u :: us,i+1,t,m,x,h,hm=>by
  have ih:=flT_at us i t m x (by simpa using h) hm
  show (tkL u++flT us)[(i+1) * 4+m]?=_
  have hl:(tkL u).length=4:=rfl
  rw [List.getElem?_append_right (by rw [hl];omega),hl,show (i+1) * 4+m - 4=i * 4+m by omega]
  exact ih
def TR (w:World) (ao:Option Addr) (ts:List Tk):Prop:=∀(i:Nat) (t:Tk),ts[i]?=some t→∃b,ao=some ⟨b,0,none⟩∧b<w.heap.size∧w.cell? ⟨b,i * 4,none⟩=some (.int .i64 (t.k:Int))∧w.cell? ⟨b,i * 4+1,none⟩=some (.string (bA t.t))∧w.cell? ⟨b,i * 4+2,none⟩=some (.int .i64 (t.n:Int))∧w.cell? ⟨b,i * 4+3,none⟩=some (.int .i64 (t.p:Int))
theorem TR.of {w:World} {B:Nat} {ao:Option Addr} {n c:Nat} {ts:List Tk} (h:w.ownsRow B 85 4 (.slice ao n c) n (flT ts)) (hn:ts.length=n):TR w ao ts:=fun i t ht=>by
 have hil:i<ts.length:=(List.getElem?_eq_some_iff.1 ht).1
 rcases h.2 with ⟨_,e⟩|⟨b,cap,cur,e,hbb,hcur,rest⟩
 ·omega
 ·injection e with e1 e2 e3
  subst e1
  have hlt:b<w.heap.size:=(Array.getElem?_eq_some_iff.1 hcur).1
  have hc:∀j x,(flT ts)[j]?=some x→w.cell? ⟨b,j,none⟩=some x:=fun j x hx=>by
   have:=h.cells (g:=b) rfl j x hx
   have ha:(⟨b,0,none⟩:Addr).add j=⟨b,j,none⟩:=by unfold Addr.add;split <;> simp_all
   rwa [ha] at this
  exact⟨b,rfl,hlt,hc _ _ (flT_at ts i t 0 _ ht rfl),hc _ _ (flT_at ts i t 1 _ ht rfl),hc _ _ (flT_at ts i t 2 _ ht rfl),hc _ _ (flT_at ts i t 3 _ ht rfl)⟩
theorem TR.later {w u:World} {ao:Option Addr} {ts:List Tk} (h:TR w ao ts) (hu:Below w.heap.size w u):TR u ao ts:=fun i t ht=>by
 obtain⟨b,h1,h2,h3,h4,h5,h6⟩:=h i t ht
 exact⟨b,h1,Nat.lt_of_lt_of_le h2 hu.size,cell_later hu h3,cell_later hu h4,cell_later hu h5,cell_later hu h6⟩
theorem add_row (b o:Nat):(⟨b,0,none⟩:Addr).add o=⟨b,o,none⟩:=by unfold Addr.add;split <;> simp_all
end Go.Proofs.YtjdpaihhhjdgmaaGreatDoor
