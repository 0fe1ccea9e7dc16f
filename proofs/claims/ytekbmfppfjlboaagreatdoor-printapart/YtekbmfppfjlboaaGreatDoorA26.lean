/-
  The walk of the document's weighed: one more step of the recursion; no conditions but the form's own reach.
-/
import Derived.Test.YtekbmfppfjlboaaGreatDoorA25
import Derived.WalkSmall
set_option linter.unusedVariables false
set_option linter.unusedSimpArgs false
namespace Go.Proofs.YtekbmfppfjlboaaGreatDoor
open Go.RowKit
set_option maxRecDepth 100000 in
set_option maxHeartbeats 1000000 in
theorem weigh_step (b:Nat) (ih:WeighAt b):WeighAt (b+1):=by
 intro v x around sofar B w hab hv hBs hso
 have hvw:=hv
 obtain⟨kind,n,t,l,ks,al,ak,cl,ck,V,rfl,rfl,⟨bk,bn,bs,nl,nk,ll,lk,bl,bc,bq,hl',hv',hk,bt⟩,el⟩:=hv.inv
 clear hv
 focus
  obtain⟨m,hm⟩:∃m,ks.length=m:=⟨_,rfl⟩
  obtain⟨ln,hln⟩:∃ln,l.length=ln:=⟨_,rfl⟩
  obtain⟨w1,hw1⟩:∃w1,w.alloc (.cells #[.int .i64 kind,.int .i64 n,.string t,.slice al ln cl,.slice ak m ck] 26)=w1:=⟨_,rfl⟩
  have BX:=Box.mk' w (.int .i64 kind) (.int .i64 n) (.string t) (.slice al ln cl) (.slice ak m ck)
  rw [hw1] at BX
  obtain⟨c0,c1,c2,c3,c4⟩:=row_cell BX.row
  have hik:IsK w ks ak ck:=⟨fun e=>(nk e).1,lk,bc,fun a ha i u hu=>(hk a ha i u hu).2,bt⟩
  have CP:=hide (plain_any kind n t ln m al ak cl ck w1)
  obtain⟨F,hF⟩:∃F,formM kind n t ln m true=F:=⟨_,rfl⟩
  obtain⟨g,hg⟩:∃g,w.heap.size=g:=⟨_,rfl⟩
  rw [hF] at CP
  have z1:=BX.size
  have hlnb:ln≤140737488351232:=by omega
  have H:=hide (And.intro BX (And.intro hik hvw))
  have HK:=hide (And.intro hm (And.intro hln hF))
  have HRW:Hid (w1.heap[g]?=some (.cells #[.int .i64 kind,.int .i64 n,.string t,.slice al ln cl,.slice ak m ck] 26 (0,0))):=hide (by rw [←hg];exact BX.row)
  rw [hg] at c0 c1 c2 c3 c4
  rw [hm,hln]
  have hoks:okB (b+1) (.mk kind n t l ks)=(formM kind n t ln m (risingFrom none ks) && okL b l):=by simp only [okB,formB];rw [hln,hm]
  have HOK:=hide hoks
  clear BX hik hvw hl' hv' hk el nl nk ll lk bl bt hoks hF hm
  cases F with
  |false=>
   have HG:Hid (wgh (b+1) (.mk kind n t l ks) sofar=2049):=hide (wgh_no (Or.inl (by rw [unhide HOK,form_true (unhide HK).2.2];rfl)))
   go_enter Tryz.func119,Tryz.ntmps119
   go_wp2_with fail
   refine(unhide CP).mono ?_
   rintro e w2 ⟨rfl,b2⟩
   have B2:=hide b2
   clear b2 CP
   go_wp2_with fail
   go_ret
   exact⟨by rw [unhide HG];rfl,(unhide H).1.below.trans ((unhide B2).mono (by omega))⟩
  |true=>
   by_cases hs:sofar≤2048
   ·by_cases k3:kind=3
    ·subst k3
     have hz:ln=0∧m=0:=by
      have:=(unhide HK).2.2
      simp [formM] at this
      exact⟨this.1.2,this.2⟩
     obtain⟨rfl,rfl⟩:=hz
     obtain⟨S,hS⟩:∃S,t.size=S:=⟨_,rfl⟩
     have hwt:wt (.mk 3 n t l ks)=1+S∧okB (b+1) (.mk 3 n t l ks)=true:=by
      have e1:l=[]:=List.eq_nil_of_length_eq_zero (unhide HK).2.1
      have e2:ks=[]:=List.eq_nil_of_length_eq_zero (unhide HK).1
      rw [unhide HOK,e1,e2]
      have e3:=(unhide HK).2.2
      refine⟨by simp [wt,keysW,wtL,hS],?_⟩
      simp [formM] at e3 ⊢
      simp [okL,e3]
     have HWT:=hide hwt
     clear hwt
     by_cases hS2:2048<S
     ·have HG:Hid (wgh (b+1) (.mk 3 n t l ks) sofar=2049):=hide (wgh_no (Or.inr (by rw [(unhide HWT).1];omega)))
      have s1:(2048:Int)<(S:Int):=by omega
      have s2:(sofar:Int)≤2048:=by omega
      go_enter Tryz.func119,Tryz.ntmps119
      go_wp2_with fail
      refine(unhide CP).mono ?_
      rintro e w2 ⟨rfl,b2⟩
      obtain⟨d0,d1,d2,d3,d4⟩:=row_cell ((b2.block g (by omega)).trans (unhide HRW))
      have B2:=hide b2
      clear b2 CP c0 c1 c2 c3 c4
      go_wp2_with fail
      go_ret
      exact⟨by rw [unhide HG];rfl,(unhide H).1.below.trans ((unhide B2).mono (by omega))⟩
     ·have s1:(S:Int)≤2048:=by omega
      have s2:(sofar:Int)≤2048:=by omega
      have s3:¬(2048:Int)<(S:Int):=by omega
      go_enter Tryz.func119,Tryz.ntmps119
      go_wp2_with fail
      refine(unhide CP).mono ?_
      rintro e w2 ⟨rfl,b2⟩
      obtain⟨d0,d1,d2,d3,d4⟩:=row_cell ((b2.block g (by omega)).trans (unhide HRW))
      have B2:=hide b2
      clear b2 CP c0 c1 c2 c3 c4
      obtain⟨T,hT⟩:∃T,sofar+1+S=T:=⟨_,rfl⟩
      have t1:(sofar:Int)+1+(S:Int)=(T:Int):=by omega
      have t2:IntKind.i64.wrap ((sofar:Int)+1+(S:Int))=(T:Int):=by rw [IntKind.wrap_i64];omega
      have t3:IntKind.i64.wrap (T:Int)=(T:Int):=by rw [IntKind.wrap_i64];omega
      go_wp2_with fail
      go_loopw [9,10] (fun y x wr=>y=.int .i64 (T:Int)∧x=.int .i64 0∧wr=w2) (fun _ _ _=>0)
      case atStart=>exact⟨rfl,rfl,rfl⟩
      case round=>
       obtain⟨rfl,rfl,rfl⟩:=hrel
       by_cases hT2:T≤2048
       ·have HG:Hid (wgh (b+1) (.mk 3 n t l ks) sofar=T):=hide (by rw [wgh_yes (unhide HWT).2 (by rw [(unhide HWT).1];omega),(unhide HWT).1];omega)
        have u1:(T:Int)≤2048:=by omega
        go_wp2_with fail
        go_ret
        exact⟨by rw [unhide HG];rfl,(unhide H).1.below.trans ((unhide B2).mono (by omega))⟩
       ·have HG:Hid (wgh (b+1) (.mk 3 n t l ks) sofar=2049):=hide (wgh_no (Or.inr (by rw [(unhide HWT).1];omega)))
        have u1:(2048:Int)<(T:Int):=by omega
        go_wp2_with fail
        go_ret
        exact⟨by rw [unhide HG];rfl,(unhide H).1.below.trans ((unhide B2).mono (by omega))⟩
    ·have ht0:t.toList=[]:=by
      have:=(unhide HK).2.2
      unfold formM at this
      repeat' split at this
      all_goals simp_all
     have s2:(sofar:Int)≤2048:=by omega
     have k3b:(kind == (3:Int))=false:=by simpa using k3
     have HT0:=hide ht0
     clear ht0
     go_enter Tryz.func119,Tryz.ntmps119
     go_wp2_with fail
     refine(unhide CP).mono ?_
     rintro e w2 ⟨rfl,b2⟩
     obtain⟨d0,d1,d2,d3,d4⟩:=row_cell ((b2.block g (by omega)).trans (unhide HRW))
     have X2:=hide b2
     clear b2 CP c0 c1 c2 c3 c4
     have t1:IntKind.i64.wrap ((sofar:Int)+1)=(sofar:Int)+1:=by rw [IntKind.wrap_i64];omega
     go_wp2_with fail
     clear d0 d1 d2 d3 d4
     go_loopw [9,10] (fun y x wr=>∃(i W:Nat),i≤ln∧x=.int .i64 i∧y=.int .i64 (W:Int)∧W≤2049∧Hid (Below w1.heap.size w1 wr)∧Hid (Inv b kind n t l ks sofar i W)) (fun _ x _=>ln - (intOf x).toNat)
     case atStart=>exact⟨0,sofar+1,by omega,rfl,by go_num,by omega,X2,hide (Inv.start hs)⟩
     case round=>
      clear X2
      obtain⟨i,W,hi,rfl,rfl,hW49,HX,HI⟩:=hrel
      obtain⟨d0,d1,d2,d3,d4⟩:=row_cell (((unhide HX).block g (by omega)).trans (unhide HRW))
      by_cases hlt:i<ln
      ·by_cases hW:W≤2048
       ·have w48:(W:Int)<2049:=by omega
        have i1:(i:Int)<(ln:Int):=by omega
        have HI1:Hid (i+1≤ln):=hide (by omega)
        obtain⟨y,hy⟩:∃y,l[i]?=some y:=⟨_,List.getElem?_eq_getElem (by omega)⟩
        have bX:Below B w wr:=((unhide H).1.below.mono hBs).trans ((unhide HX).mono (by omega))
        obtain⟨a,y0,y1,y2,al',ak',ll',m',cl',ck',rfl,hbl,hce,hve⟩:=((unhide H).2.2.mono bX).elem i y hy
        have hBr:B≤wr.heap.size:=by have:=(unhide HX).size;omega
        have e0:wr.cell? (a.add (i * 5))=some (.int .i64 y0):=hce 0 _ rfl
        have e1:wr.cell? ⟨(a.add (i * 5)).block,(a.add (i * 5)).off+1,none⟩=some (.int .i64 y1):=hce 1 _ rfl
        have e2:wr.cell? ⟨(a.add (i * 5)).block,(a.add (i * 5)).off+2,none⟩=some (.string y2):=hce 2 _ rfl
        have e3:wr.cell? ⟨(a.add (i * 5)).block,(a.add (i * 5)).off+3,none⟩=some (.slice al' ll' cl'):=hce 3 _ rfl
        have e4:wr.cell? ⟨(a.add (i * 5)).block,(a.add (i * 5)).off+4,none⟩=some (.slice ak' m' ck'):=hce 4 _ rfl
        have HY:=hide hy
        by_cases k5:kind=5
        ·subst k5
         have hmn:m=ln:=by
          have:=(unhide HK).2.2
          simp [formM] at this
          exact this.2
         subst hmn
         obtain⟨tk,htk⟩:∃tk,ks[i]?=some tk:=⟨_,List.getElem?_eq_getElem (by have:=(unhide HK).1;omega)⟩
         obtain⟨a2,rfl⟩:∃a2,ak=some a2:=by
          cases ak with
          |none=>have h1:=(unhide H).2.1.none rfl;have h2:=(unhide HK).1;omega
          |some a2=>exact⟨a2,rfl⟩
         have HKC:Hid (∀u,Below B w u→∀j k,ks[j]?=some k→u.cell? (a2.add j)=some (.string k)):=hide (fun u hu j k hj=>((unhide H).2.2.mono hu).keys.1.cell a2 rfl j k hj)
         have cK:=unhide HKC wr bX i tk htk
         have tkb:=(unhide H).2.1.small tk (List.mem_of_getElem? htk)
         have hg3:=((unhide HI).good hW).2.2 rfl
         rw [drop_cons htk] at hg3
         obtain⟨FL,hFL⟩:∃FL,(!(decide (tk.size≤32) && (match prv ks i with|none=>true|some q=>Op.bytesLess q.toList tk.toList)))=FL:=⟨_,rfl⟩
         have HR3:Hid (risingFrom none ks=(!FL && risingFrom (some tk) (ks.drop (i+1)))):=hide (by rw [hg3,←hFL];cases prv ks i <;> simp [risingFrom])
         have HFL:=hide hFL
         have HTK:=hide htk
         have i2:(i:Int)<(m:Int):=by omega
         have HV0:=hide hve
         have HBX:=hide bX
         clear hg3 hFL htk hce hve hy bX e0 e1 e2 e3 e4
         go_upto_region 14 with fail
         go_cut [78] from 39 to 97 (fun r wx=>r=.bool FL∧Hid (Below w1.heap.size w1 wx))
         case first=>
          have hfl:=unhide HFL
          by_cases h32:tk.size≤32
          ·have hd1:decide ((32:Int)<(tk.size:Int))=false:=by simpa using (by omega:(tk.size:Int)≤32)
           have hd1':decide (32<tk.size)=false:=by simpa using h32
           by_cases h0:i=0
           ·have f0:FL=false:=by rw [←hfl];simp [h32,prv,h0]
            have hd2:decide ((0:Int)<(i:Int))=false:=by simpa using (by omega:(i:Int)≤0)
            have hd2':decide (0<i)=false:=by simpa using h0
            have hF0:=hide f0
            clear f0 hfl h0
            go_quiet (fail)
            go_wp2_with fail
            go_meet
            exact⟨by rw [unhide hF0],hide (below_drewN (unhide HX) _)⟩
           ·obtain⟨k,hk⟩:∃k,i=k+1:=⟨i - 1,by omega⟩
            obtain⟨q,hq⟩:∃q,ks[k]?=some q:=⟨_,List.getElem?_eq_getElem (by have:=(unhide HK).1;omega)⟩
            have c2:=unhide HKC wr (unhide HBX) k q hq
            have hpv:prv ks i=some q:=by unfold prv;rw [if_neg h0,show i - 1=k by omega,hq]
            have f0:FL=!(Op.bytesLess q.toList tk.toList):=by rw [←hfl,hpv];simp [h32]
            have hbn:=bl_not q.toList tk.toList
            have hd2:decide ((0:Int)<(i:Int))=true:=by simpa using (by omega:(0:Int)<(i:Int))
            have hd2':decide (0<i)=true:=by simpa using (by omega:0<i)
            have k1:(i:Int) - 1=(k:Int):=by omega
            have k2:IntKind.i64.wrap ((i:Int) - 1)=(k:Int):=by rw [IntKind.wrap_i64];omega
            have k2':IntKind.i64.wrap (k:Int)=(k:Int):=by rw [IntKind.wrap_i64];omega
            have k4:(k:Int)<(m:Int):=by omega
            have hF0:Hid (FL=(Op.bytesLess tk.toList q.toList ||tk.toList == q.toList)):=hide (by rw [f0,hbn,Bool.not_not])
            clear f0 hfl h0 hpv hbn hq hk
            cases hle:(Op.bytesLess tk.toList q.toList ||tk.toList == q.toList) with
            |false=>
             rw [hle] at hF0
             go_quiet (fail)
             go_wp2_with fail
             go_meet
             exact⟨by rw [unhide hF0],hide (below_drewN (unhide HX) _)⟩
            |true=>
             rw [hle] at hF0
             go_quiet (fail)
             go_wp2_with fail
             go_meet
             exact⟨by rw [unhide hF0],hide (below_drewN (unhide HX) _)⟩
          ·have hd1:decide ((32:Int)<(tk.size:Int))=true:=by simpa using (by omega:(32:Int)<(tk.size:Int))
           have hd1':decide (32<tk.size)=true:=by simpa using (by omega:32<tk.size)
           have f0:FL=true:=by rw [←hfl];simp [h32]
           have hF0:=hide f0
           clear f0 hfl h32
           go_quiet (fail)
           go_wp2_with fail
           go_meet
           exact⟨by rw [unhide hF0],hide (below_drewN (unhide HX) _)⟩
         case rest=>
          obtain⟨rfl,HXc⟩:=hcut
          have bXc:Below B w wc:=((unhide H).1.below.mono hBs).trans ((unhide HXc).mono (by omega))
          clear d0 d1 d2 d3 d4 cK HX HBX
          obtain⟨d0,d1,d2,d3,d4⟩:=row_cell (((unhide HXc).block g (by omega)).trans (unhide HRW))
          cases FL with
          |true=>
           have HG:Hid (wgh (b+1) (.mk 5 n t l ks) sofar=2049):=hide (wgh_no (Or.inl (by rw [unhide HOK,unhide HR3];simp [formM])))
           go_wp2_with fail
           go_ret
           exact⟨by rw [unhide HG];rfl,by first|exact(unhide H).1.below.trans ((unhide HXc).mono (by omega))|(rw [←hg];exact(unhide H).1.below.trans ((unhide HXc).mono (by omega)))⟩
          |false=>
           have h32:tk.size≤32:=by
            have:=unhide HFL
            simp at this
            exact this.1
           obtain⟨u,hu⟩:∃u,tk.size=u:=⟨_,rfl⟩
           obtain⟨Wk,hWk⟩:∃Wk,W+(1+u)=Wk:=⟨_,rfl⟩
           have HI':Hid (Inv b 5 n t l ks sofar (i+1) (wgh b y Wk)):=hide ((unhide HI).next hW (unhide HY) (fun _=>⟨tk,unhide HTK,by rw [unhide HR3];rfl,by omega⟩) (fun h=>absurd rfl h))
           obtain⟨a',y0',y1',y2',al'',ak'',ll'',m'',cl'',ck'',haa,_,hce,hve⟩:=((unhide H).2.2.mono bXc).elem i y (unhide HY)
           cases haa
           have e0:wc.cell? (a.add (i * 5))=some (.int .i64 y0'):=hce 0 _ rfl
           have e1:wc.cell? ⟨(a.add (i * 5)).block,(a.add (i * 5)).off+1,none⟩=some (.int .i64 y1'):=hce 1 _ rfl
           have e2:wc.cell? ⟨(a.add (i * 5)).block,(a.add (i * 5)).off+2,none⟩=some (.string y2'):=hce 2 _ rfl
           have e3:wc.cell? ⟨(a.add (i * 5)).block,(a.add (i * 5)).off+3,none⟩=some (.slice al'' ll'' cl''):=hce 3 _ rfl
           have e4:wc.cell? ⟨(a.add (i * 5)).block,(a.add (i * 5)).off+4,none⟩=some (.slice ak'' m'' ck''):=hce 4 _ rfl
           have cK:=unhide HKC wc bXc i tk (unhide HTK)
           have HV:=hide hve
           have HX':=HXc
           have hBc:B≤wc.heap.size:=by have:=(unhide HXc).size;omega
           have v1:IntKind.i64.wrap ((W:Int)+1)=(W:Int)+1:=by rw [IntKind.wrap_i64];omega
           have v2:(W:Int)+1+(u:Int)=(Wk:Int):=by omega
           have v3:IntKind.i64.wrap (Wk:Int)=(Wk:Int):=by rw [IntKind.wrap_i64];omega
           clear hce hve bXc HV0
           have CI:=hide (ih y _ (around+1) Wk B wc (by omega) (unhide HV) (by omega) (by omega))
           rw [show (((around+1:Nat)):Int)=(around:Int)+1 by omega] at CI
           obtain⟨W2,hW2⟩:∃W2,wgh b y Wk=W2:=⟨_,rfl⟩
           rw [hW2] at CI
           have HI2:Hid (Inv b 5 n t l ks sofar (i+1) W2):=hide (by rw [←hW2];exact unhide HI')
           have hW2b:W2≤2049:=by rw [←hW2];exact wgh_le _ _ _
           clear hW2 HI'
           go_wp2_with fail
           refine(unhide CI).mono ?_
           rintro e w5 ⟨rfl,b5⟩
           have X5:Hid (Below w1.heap.size w1 w5):=hide ((unhide HX').trans (b5.mono (unhide HX').size))
           clear b5 CI
           go_wp2_with fail
           go_roundw
           case rel=>exact⟨i+1,W2,unhide HI1,by go_num,rfl,hW2b,X5,HI2⟩
           case measure=>have:=unhide HI1;simp [intOf];omega
        ·have HV:=hide hve
         have HX':=HX
         have HI':Hid (Inv b kind n t l ks sofar (i+1) (wgh b y W)):=hide ((unhide HI).next hW (unhide HY) (fun h=>absurd h k5) (fun _=>rfl))
         clear hce hve hy bX
         have CI:=hide (ih y _ (around+1) W B wr (by omega) (unhide HV) (by omega) (by omega))
         rw [show (((around+1:Nat)):Int)=(around:Int)+1 by omega] at CI
         obtain⟨W2,hW2⟩:∃W2,wgh b y W=W2:=⟨_,rfl⟩
         rw [hW2] at CI
         have HI2:Hid (Inv b kind n t l ks sofar (i+1) W2):=hide (by rw [←hW2];exact unhide HI')
         have hW2b:W2≤2049:=by rw [←hW2];exact wgh_le _ _ _
         clear hW2 HI'
         go_wp2_with fail
         refine(unhide CI).mono ?_
         rintro e w5 ⟨rfl,b5⟩
         have X5:Hid (Below w1.heap.size w1 w5):=hide ((unhide HX').trans (b5.mono (unhide HX').size))
         clear b5 CI
         go_wp2_with fail
         go_roundw
         case rel=>exact⟨i+1,W2,unhide HI1,by go_num,rfl,hW2b,X5,HI2⟩
         case measure=>have:=unhide HI1;simp [intOf];omega
       ·have HG:Hid (wgh (b+1) (.mk kind n t l ks) sofar=2049):=hide ((unhide HI).bad (by omega))
        have w48:(2048:Int)<(W:Int):=by omega
        have w49:¬(W:Int)<2049:=by omega
        have i1:(i:Int)<(ln:Int):=by omega
        go_wp2_with fail
        go_ret
        exact⟨by rw [unhide HG];rfl,by first|exact(unhide H).1.below.trans ((unhide HX).mono (by omega))|(rw [←hg];exact(unhide H).1.below.trans ((unhide HX).mono (by omega)))⟩
      ·have i1:¬(i:Int)<(ln:Int):=by omega
       by_cases hW:W≤2048
       ·have HG:Hid (wgh (b+1) (.mk kind n t l ks) sofar=W):=hide (by
         obtain⟨g1,g2,g3⟩:=(unhide HI).good hW
         have hii:i=ln:=by omega
         have hl1:=(unhide HK).2.1
         have hm1:=(unhide HK).1
         have hf:=(unhide HK).2.2
         rw [List.take_of_length_le (by omega)] at g1 g2
         have hs0:t.size=0:=size_zero (unhide HT0)
         by_cases k5:kind=5
         ·have hmn:m=ln:=by subst k5;simp [formM] at hf;exact hf.2
          have hr:risingFrom none ks=true:=by rw [g3 k5,List.drop_eq_nil_of_le (by omega)];rfl
          have hk:kw kind ks i=keysW ks:=by unfold kw;rw [if_pos k5,List.take_of_length_le (by omega)]
          have ho:okB (b+1) (.mk kind n t l ks)=true:=by rw [unhide HOK,hr,hf,g1];rfl
          have hw:sofar+wt (.mk kind n t l ks)=W:=by simp only [wt];omega
          rw [wgh_yes ho (by omega)];exact hw
         ·have hm0:ks=[]:=by
           refine List.eq_nil_of_length_eq_zero (hm1.trans ?_)
           unfold formM at hf
           repeat' split at hf
           all_goals simp_all
          have hk:kw kind ks i=0:=by unfold kw;rw [if_neg k5]
          have ho:okB (b+1) (.mk kind n t l ks)=true:=by rw [unhide HOK,hm0,g1];simp only [risingFrom,Bool.and_true];exact hf
          have hw:sofar+wt (.mk kind n t l ks)=W:=by simp only [wt];rw [hm0];simp only [keysW];omega
          rw [wgh_yes ho (by omega)];exact hw)
        have w48:(W:Int)≤2048:=by omega
        go_wp2_with fail
        go_ret
        exact⟨by rw [unhide HG];rfl,by first|exact(unhide H).1.below.trans ((unhide HX).mono (by omega))|(rw [←hg];exact(unhide H).1.below.trans ((unhide HX).mono (by omega)))⟩
       ·have HG:Hid (wgh (b+1) (.mk kind n t l ks) sofar=2049):=hide ((unhide HI).bad (by omega))
        have w48:(2048:Int)<(W:Int):=by omega
        go_wp2_with fail
        go_ret
        exact⟨by rw [unhide HG];rfl,by first|exact(unhide H).1.below.trans ((unhide HX).mono (by omega))|(rw [←hg];exact(unhide H).1.below.trans ((unhide HX).mono (by omega)))⟩
   ·have HG:Hid (wgh (b+1) (.mk kind n t l ks) sofar=2049):=hide (wgh_no (Or.inr (by omega)))
    have s1:(2048:Int)<(sofar:Int):=by omega
    have s2:¬(8:Int)≤(around:Int):=by omega
    go_enter Tryz.func119,Tryz.ntmps119
    go_wp2_with fail
    refine(unhide CP).mono ?_
    rintro e w2 ⟨rfl,b2⟩
    have B2:=hide b2
    clear b2 CP
    go_wp2_with fail
    go_ret
    exact⟨by rw [unhide HG];rfl,(unhide H).1.below.trans ((unhide B2).mono (by omega))⟩
end Go.Proofs.YtekbmfppfjlboaaGreatDoor
