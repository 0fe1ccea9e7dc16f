/-
  The walks of lex's firstBytes, first; conditions: a text of at most 8192 bytes; what the variables of strconv hold.
-/
import Derived.Test.YtilhlmmcdfoaoaaGreatDoorE05
set_option linter.unusedVariables false
set_option linter.unusedSimpArgs false
namespace Go.Proofs.YtilhlmmcdfoaoaaGreatDoor
open Go.RowKit
set_option linter.unusedVariables false
set_option linter.unusedSimpArgs false
def preP (out:List UInt8) (p:Nat):Option (List UInt8 × Nat)→Option (List UInt8 × Nat)
 |none=>none
 |some (bs,m)=>some (out++bs,p+m)
theorem preP_add (a b:List UInt8) (p n:Nat) (x:Option (List UInt8 × Nat)):preP a p (preP b n x)=preP (a++b) (p+n) x:=by
 cases x with
 |none=>rfl
 |some y=>simp [preP,Nat.add_assoc]
theorem pcs_next (f:Nat) (c:UInt8) (r:List UInt8) (b:UInt8) (n:Nat) (h:¬c.toNat=34) (hp:pcL (c :: r)=some (b,n)):pcs (f+1) (c :: r)=preP [b] n (pcs f ((c :: r).drop n)):=by
 conv=>lhs;unfold pcs
 rw [if_neg h,hp]
 simp only
 cases pcs f ((c :: r).drop n) with
 |none=>rfl
 |some y=>rfl
theorem pcs_bad (f:Nat) (c:UInt8) (r:List UInt8) (h:¬c.toNat=34) (hp:pcL (c :: r)=none):pcs (f+1) (c :: r)=none:=by
 unfold pcs
 rw [if_neg h,hp]
theorem pcs_end (f:Nat) (c:UInt8) (r:List UInt8) (h:c.toNat=34):pcs (f+1) (c :: r)=some ([],1):=by
 unfold pcs
 rw [if_pos h]
theorem bytC_long {out:List UInt8} {p:Nat} (x:Option (List UInt8 × Nat)) (h:2048≤out.length):bytC (preP out p x)=none:=by
 cases x with
 |none=>rfl
 |some y=>
  simp only [preP,bytC]
  rw [if_neg (by rw [List.length_append];omega)]
set_option maxRecDepth 100000 in
set_option maxHeartbeats 2000000 in
theorem fBytes_any (s:ByteArray) (r:List UInt8) (c0:UInt8) (hsr:s.data.toList=c0 :: r) (hs:s.size≤8192) (w:World) :
  Calls Tryz.prog 56 #[.string s] w fun e w'=>e=.returned (fstV (bytT r))∧Below w.heap.size w w':=by
 obtain⟨w1,hw1,hb1,hz1,hbx⟩:=tok_box w
 obtain⟨g,hg⟩:∃g,w.heap.size=g:=⟨_,rfl⟩
 have HG:=hZ hg
 rw [hg] at hbx
 have HBX:=hZ hbx
 obtain⟨B,hB⟩:∃B,w1.heap.size=B:=⟨_,rfl⟩
 obtain⟨w2,hw2⟩:∃w2,w1.alloc (.cells #[.pointer none,.slice none 0 0] 89)=w2:=⟨_,rfl⟩
 have hb2:Below B w1 w2:=by rw [←hw2,←hB];exact(Below.refl _ _).alloc (Nat.le_refl _) _
 have hz2:w2.heap.size=B+1:=by rw [←hw2,←hB];simp
 have F1:Bd w2 B B []:=by
  have h:=Lib.IsBuilderF.of (Lib.fresh_isBuilder 89 5 w1)
  rw [hw2,hB] at h
  exact h
 have hlen:s.size=r.length+1:=by rw [←len_list,hsr];rfl
 have hs2:(s.size:Int)≤8192:=by omega
 have HBOX:Hid (∀u,Below B w2 u→u.heap[g]?=some (.cells #[.int .i64 0,.string ⟨#[]⟩,.int .i64 0,.int .i64 0] 52 (0,0))∧Below g w u∧B+1≤u.heap.size):=hZ (fun u hu=>by
  have h1:=uZ HBX u (by rw [hB];exact hb2.trans hu)
  exact⟨h1.1,h1.2,by have:=hu.size;omega⟩)
 have HF:=hZ F1
 obtain⟨R,hR⟩:∃R,fstV (bytT r)=R:=⟨_,rfl⟩
 have HR:Hid (∀x,bytV r=x→R=fstV (match x with|none=>.error 163|some (bs,m)=>.ok (⟨4,bs,0,0⟩,m))):=hZ (fun x hx=>by
  rw [←hR]
  unfold bytT
  rw [hx]
  rfl)
 rw [hR]
 have HSR:=hZ (And.intro hsr hlen)
 have HBB:=hZ hB
 clear hR hsr F1 hbx hb1 hb2 HBX hz1 hz2 hlen
 go_enter Tryz.func56,Tryz.ntmps56
 go_wp2_with fail
 go_loopw [6] (fun x wr=>∃(q f:Nat) (out:List UInt8),x=.int .i64 (q:Int)∧1≤q∧q≤s.size∧Hid (out.length≤2047∧(s.data.toList.drop q).length<f∧pcs (r.length+1) r=preP out (q - 1) (pcs f (s.data.toList.drop q))∧Bd wr B B out∧Below B w2 wr)) (fun x _=>s.size - (intOf x).toNat)
 case atStart=>exact⟨1,r.length+1,[],by first|rfl|go_num,Nat.le_refl _,by have:=(uZ HSR).2;omega,hZ ⟨by simp,by rw [(uZ HSR).1];simp,by
   rw [(uZ HSR).1]
   simp only [List.drop_succ_cons,List.drop_zero]
   cases pcs (r.length+1) r with
   |none=>rfl
   |some y=>simp [preP],uZ HF,Below.refl _ _⟩⟩
 case round=>
  clear HF
  obtain⟨q,f,out,rfl,hq1,hqs,HX⟩:=hrel
  by_cases hlt:q<s.size
  ·have j1:(q:Int)<(s.size:Int):=by omega
   have hdq:=drop_at s q hlt
   obtain⟨c,hc⟩:∃c,s[q]'hlt=c:=⟨_,rfl⟩
   obtain⟨z,hz⟩:∃z:Nat,c.toNat=z:=⟨_,rfl⟩
   have hzi:((s[q]'hlt).toNat:Int)=(z:Int):=by rw [hc,hz]
   rw [hc] at hdq
   obtain⟨f',rfl⟩:∃f',f=f'+1:=⟨f - 1,by have:=(uZ HX).2.1;omega⟩
   have HC:=hZ (And.intro hz hdq)
   by_cases h34:z=34
   ·-- the closing quote
    have k1:((z:Int) == 34)=true:=beq_iff_eq.2 (by omega)
    have k2:((z:Int) != 34)=false:=by simp [show (z:Int)=34 by omega]
    have kne:((q:Int) == (s.size:Int))=false:=beq_eq_false_iff_ne.2 (by omega)
    have kn2:¬(q:Int)=(s.size:Int):=by omega
    have HE:Hid (R=.tuple #[.agg #[.int .i64 4,.string ⟨out.toArray⟩,.int .i64 0,.int .i64 0],.int .i64 ((q:Int)+1),.int .i64 0]):=hZ (by
     have h1:=(uZ HX).2.2.1
     rw [(uZ HC).2,pcs_end f' c _ (by have:=(uZ HC).1;omega)] at h1
     have h2:bytV r=some (out,q+1):=by
      unfold bytV
      rw [h1]
      simp only [preP,List.append_nil,bytC]
      rw [if_pos (uZ HX).1]
      congr 2
      omega
     rw [uZ HR _ h2]
     rfl)
    have CS:=hZ (Tryz.Builder_String_any_k B B out wr (uZ HX).2.2.2.1 (by have:=(uZ HBOX wr (uZ HX).2.2.2.2).2.2;omega))
    have HU:=hZ (uZ HX).2.2.2.2
    clear HX hc hz hdq h34
    go_wp2_with fail
    refine(uZ CS).mono ?_
    rintro e u2 ⟨rfl,_,b2,_⟩
    have HU2:Hid (Below B w2 u2):=hZ ((uZ HU).trans b2)
    clear b2 CS
    have tok:True:=trivial
    go_wp2_with (first|(have _t:=tok;refine wpList_put_arr rfl 52 (.tmp 2) (.tmp 44) rfl g _ _ rfl rfl (uZ HBOX u2 (uZ HU2)).1 rfl size_tok (one_tok _ _ _ _) ?_;clear tok;intro w7 M7))
    exact bodyPost_ret (ret_ctt (p:=2) (u:=3) (v:=4) (T:=52) rfl _ _ g _ _ _ rfl (uZ M7).at' Tryz.underlying52 rfl size_tok) rfl ⟨by rw [uZ HE];rfl,by first|exact(uZ M7).below w.heap.size w (by rw [uZ HG];exact(uZ HBOX u2 (uZ HU2)).2.1) (by have:=uZ HG;omega)|exact(uZ M7).below g w (uZ HBOX u2 (uZ HU2)).2.1 (Nat.le_refl _)⟩
   ·have k1:((z:Int) == 34)=false:=beq_eq_false_iff_ne.2 (by omega)
    have k2:((z:Int) != 34)=true:=by simp;omega
    have k3:¬(z:Int)=34:=by omega
    have hed:=ext_drop s q
    have hes:(s.extract q s.size).size=s.size - q:=by rw [ByteArray.size_extract];omega
    have CP:=hZ (piece_any (s.extract q s.size) (by omega) (by omega) wr)
    rw [hed,bA_data,←hed] at CP
    have t1:(q:Int)≤(s.size:Int):=by omega
    cases hp:pcL (s.data.toList.drop q) with
    |none=>
     rw [hp] at CP
     have CP2:Hid (Calls Tryz.prog 77 #[.string (s.extract q s.size)] wr fun e w'=>e=.returned (.tuple #[.int .u8 0,.int .i64 0])∧Below wr.heap.size wr w'):=CP
     have HE:Hid (R=.tuple #[.agg #[.int .i64 0,.string ⟨#[]⟩,.int .i64 0,.int .i64 0],.int .i64 0,.int .i64 163]):=hZ (by
      have h1:=(uZ HX).2.2.1
      rw [(uZ HC).2] at h1 hp
      rw [pcs_bad f' c _ (by have:=(uZ HC).1;omega) hp] at h1
      have h2:bytV r=none:=by unfold bytV;rw [h1];rfl
      rw [uZ HR _ h2]
      rfl)
     have HU:=hZ (uZ HX).2.2.2.2
     clear HX hc hz hdq h34 hp CP hed hes
     go_wp2_with fail
     refine(uZ CP2).mono ?_
     rintro e u2 ⟨rfl,b2⟩
     have HU2:Hid (Below B w2 u2):=hZ ((uZ HU).trans (b2.mono (by have:=(uZ HBOX wr (uZ HU)).2.2;omega)))
     clear b2 CP2
     have tok:True:=trivial
     go_wp2_with (first|(have _t:=tok;refine wpList_put_arr rfl 52 (.tmp 2) (.tmp 32) rfl g _ _ rfl rfl (uZ HBOX u2 (uZ HU2)).1 rfl size_tok (one_tok _ _ _ _) ?_;clear tok;intro w7 M7))
     exact bodyPost_ret (ret_ctt (p:=2) (u:=3) (v:=4) (T:=52) rfl _ _ g _ _ _ rfl (uZ M7).at' Tryz.underlying52 rfl size_tok) rfl ⟨by rw [uZ HE];rfl,by first|exact(uZ M7).below w.heap.size w (by rw [uZ HG];exact(uZ HBOX u2 (uZ HU2)).2.1) (by have:=uZ HG;omega)|exact(uZ M7).below g w (uZ HBOX u2 (uZ HU2)).2.1 (Nat.le_refl _)⟩
    |some y=>
     obtain⟨b,n⟩:=y
     have hnp:=pcL_pos hp
     rw [List.length_drop,len_list] at hnp
     rw [hp,pcV_some] at CP
     obtain⟨y,hy⟩:∃y:Int,(b.toNat:Int)=y:=⟨_,rfl⟩
     rw [hy] at CP
     have n1:((n:Int) == 0)=false:=beq_eq_false_iff_ne.2 (by omega)
     have n2:¬(n:Int)=0:=by omega
     have HN:=hZ hnp
     have HY:=hZ hy
     have HNX:Hid (pcs (r.length+1) r=preP (out++[b]) (q+n - 1) (pcs f' (s.data.toList.drop (q+n)))):=hZ (by
      have h1:=(uZ HX).2.2.1
      rw [(uZ HC).2] at h1 hp
      rw [pcs_next f' c _ b n (by have:=(uZ HC).1;omega) hp,preP_add,←(uZ HC).2,List.drop_drop] at h1
      rw [h1]
      congr 1
      omega)
     by_cases hfull:out.length=2047
     ·have HE:Hid (R=.tuple #[.agg #[.int .i64 0,.string ⟨#[]⟩,.int .i64 0,.int .i64 0],.int .i64 0,.int .i64 163]):=hZ (by
       have h2:bytV r=none:=by
        unfold bytV
        rw [uZ HNX]
        exact bytC_long _ (by rw [List.length_append];simp;omega)
       rw [uZ HR _ h2]
       rfl)
      have CL:=hZ (fun u (hu:Bd u B B out)=>blen_any B B out u hu)
      obtain⟨o,ho⟩:∃o,out.length=o:=⟨_,rfl⟩
      rw [ho] at CL
      have o1:((o:Int) == 2047)=true:=beq_iff_eq.2 (by omega)
      have o2:(o:Int)=2047:=by omega
      have HXX:=HX
      clear HX hc hz hdq h34 hp hed hes hnp hy hfull ho
      go_wp2_with fail
      refine(uZ CP).mono ?_
      rintro e u2 ⟨rfl,b2⟩
      have HD2:=hZ (Bd.later (uZ HXX).2.2.2.1 b2)
      have HU2:Hid (Below B w2 u2):=hZ ((uZ HXX).2.2.2.2.trans (b2.mono (by have:=(uZ HBOX wr (uZ HXX).2.2.2.2).2.2;omega)))
      clear b2 CP
      go_wp2_with fail
      refine((uZ CL) u2 (uZ HD2)).mono ?_
      rintro e u3 ⟨rfl,rfl⟩
      have tok:True:=trivial
      go_wp2_with (first|(have _t:=tok;refine wpList_put_arr rfl 52 (.tmp 2) (.tmp 32) rfl g _ _ rfl rfl (uZ HBOX _ (uZ HU2)).1 rfl size_tok (one_tok _ _ _ _) ?_;clear tok;intro w7 M7))
      exact bodyPost_ret (ret_ctt (p:=2) (u:=3) (v:=4) (T:=52) rfl _ _ g _ _ _ rfl (uZ M7).at' Tryz.underlying52 rfl size_tok) rfl ⟨by rw [uZ HE];rfl,by first|exact(uZ M7).below w.heap.size w (by rw [uZ HG];exact(uZ HBOX _ (uZ HU2)).2.1) (by have:=uZ HG;omega)|exact(uZ M7).below g w (uZ HBOX _ (uZ HU2)).2.1 (Nat.le_refl _)⟩
     ·have CL:=hZ (fun u (hu:Bd u B B out)=>blen_any B B out u hu)
      have HOL:Hid (out.length+1≤2047):=hZ (by have:=(uZ HX).1;omega)
      have CB:=hZ (fun u (hu:Bd u B B out) (hh:B≤u.heap.size)=>wbyte_lit B B out b y hy u hu (by have:=uZ HOL;omega) hh)
      obtain⟨o,ho⟩:∃o,out.length=o:=⟨_,rfl⟩
      rw [ho] at CL
      have o1:((o:Int) == 2047)=false:=beq_eq_false_iff_ne.2 (by omega)
      have o2:¬(o:Int)=2047:=by omega
      have HXX:=HX
      clear HX hc hz hdq h34 hp hed hes hnp hy hfull ho
      go_wp2_with fail
      refine(uZ CP).mono ?_
      rintro e u2 ⟨rfl,b2⟩
      have HD2:=hZ (Bd.later (uZ HXX).2.2.2.1 b2)
      have HU2:Hid (Below B w2 u2):=hZ ((uZ HXX).2.2.2.2.trans (b2.mono (by have:=(uZ HBOX wr (uZ HXX).2.2.2.2).2.2;omega)))
      clear b2 CP
      go_wp2_with fail
      refine((uZ CL) u2 (uZ HD2)).mono ?_
      rintro e u3 ⟨rfl,rfl⟩
      go_wp2_with fail
      refine((uZ CB) _ (uZ HD2) (by have:=(uZ HBOX _ (uZ HU2)).2.2;omega)).mono ?_
      rintro e u4 ⟨rfl,k4⟩
      have HU4:Hid (Bd u4 B B (out++[b])∧Below B w2 u4):=hZ ⟨k4.bd,(uZ HU2).trans k4.below⟩
      clear k4 CB CL
      have HQN:Hid (q+n≤s.size):=hZ (by have:=uZ HN;omega)
      have hqn:(q:Int)+(n:Int)≤(s.size:Int):=by have:=uZ HN;omega
      go_wp2_with fail
      go_roundw
      case rel=>exact⟨q+n,f',out++[b],by go_num,by omega,uZ HQN,hZ ⟨by rw [List.length_append];have:=uZ HOL;simp;omega,by
       have h1:=(uZ HXX).2.1
       have h2:=uZ HN
       rw [List.length_drop,len_list] at h1 ⊢
       omega,uZ HNX,(uZ HU4).1,(uZ HU4).2⟩⟩
      case measure=>have h1:=uZ HQN;have h2:=uZ HN;simp [intOf];omega
  ·have e:q=s.size:=by omega
   have j1:¬(q:Int)<(s.size:Int):=by omega
   have k1:((q:Int) == (s.size:Int))=true:=beq_iff_eq.2 (by omega)
   have HE:Hid (R=.tuple #[.agg #[.int .i64 0,.string ⟨#[]⟩,.int .i64 0,.int .i64 0],.int .i64 0,.int .i64 163]):=hZ (by
    have h1:=(uZ HX).2.2.1
    rw [List.drop_of_length_le (by rw [len_list];omega)] at h1
    have h2:bytV r=none:=by
     unfold bytV
     rw [h1]
     cases f <;> rfl
    rw [uZ HR _ h2]
    rfl)
   have HU2:=hZ (uZ HX).2.2.2.2
   clear HX e
   have tok:True:=trivial
   go_wp2_with (first|(have _t:=tok;refine wpList_put_arr rfl 52 (.tmp 2) (.tmp 42) rfl g _ _ rfl rfl (uZ HBOX _ (uZ HU2)).1 rfl size_tok (one_tok _ _ _ _) ?_;clear tok;intro w7 M7))
   exact bodyPost_ret (ret_ctt (p:=2) (u:=3) (v:=4) (T:=52) rfl _ _ g _ _ _ rfl (uZ M7).at' Tryz.underlying52 rfl size_tok) rfl ⟨by rw [uZ HE];rfl,by first|exact(uZ M7).below w.heap.size w (by rw [uZ HG];exact(uZ HBOX _ (uZ HU2)).2.1) (by have:=uZ HG;omega)|exact(uZ M7).below g w (uZ HBOX _ (uZ HU2)).2.1 (Nat.le_refl _)⟩
set_option maxRecDepth 100000 in
set_option maxHeartbeats 1000000 in
theorem first_any (s:ByteArray) (h0:0<s.size) (hs:s.size≤8192) (w:World) (he:Ev w) (hw6:5<w.heap.size) :
  Calls Tryz.prog 27 #[.string s] w fun e w'=>e=.returned (fstV (fstT s.data.toList))∧Below w.heap.size w w':=by
 obtain⟨w1,hw1,hb1,hz1,hbx⟩:=tok_box w
 obtain⟨g,hg⟩:∃g,w.heap.size=g:=⟨_,rfl⟩
 have HG:=hZ hg
 have he1:Ev w1:=he.below hb1 hw6
 have hw16:5<w1.heap.size:=by omega
 rw [hg] at hbx
 have HBX:=hZ hbx
 obtain⟨r,hr⟩:=head_list s h0
 obtain⟨c,hc⟩:∃c,s[0]'h0=c:=⟨_,rfl⟩
 rw [hc] at hr
 obtain⟨z,hz⟩:∃z:Nat,c.toNat=z:=⟨_,rfl⟩
 have hzi:((s[0]'h0).toNat:Int)=(z:Int):=by rw [hc,hz]
 have z1:(z:Int)≤255:=by have:=c.toNat_lt;omega
 have hL:rLet (z:Int)=lxLet c:=by rw [←hz];exact lxLet_r c
 have hD:rDig (z:Int)=lxDig c:=by rw [←hz];exact lxDig_r c
 have CL:=hZ (isLetter_any (z:Int) w1)
 have CD:=hZ (isDigit_any (z:Int) w1)
 rw [hL] at CL
 rw [hD] at CD
 have CW:=hZ (fWord_any s hs w1)
 have CI:Hid (lxDig c=true→_):=hZ (fun h=>fInt_any s h0 (by rw [hc];exact h) hs w1 he1 hw16)
 have CB:=hZ (fBytes_any s r c hr hs w1)
 have CS:=hZ (fSign_any s h0 hs w1)
 have hf:=fst_cons c r
 rw [←hr] at hf
 obtain⟨R,hR⟩:∃R,fstT s.data.toList=R:=⟨_,rfl⟩
 rw [hR] at hf ⊢
 clear he he1 hbx hb1 hz1 hR
 cases hl:lxLet c with
 |true=>
  rw [if_pos hl] at hf
  rw [←hf] at CW
  rw [hl] at CL
  clear hf hl hL hD hr hz hc CI CB CS CD
  cases R with
  |error e=>
   unfold fstV
   unfold fstV at CW
   go_enter Tryz.func27,Tryz.ntmps27
   go_wp2_with fail
   refine(uZ CL).mono ?_
   rintro e u ⟨rfl,rfl⟩
   go_wp2_with fail
   refine(uZ CW).mono ?_
   rintro e u2 ⟨rfl,b2⟩
   have HU2:=hZ b2
   clear b2
   have tok:True:=trivial
   go_wp2_with (first|(have _t:=tok;refine wpList_put_arr rfl 52 (.tmp 2) (.tmp 14) rfl g _ _ rfl rfl (uZ HBX u2 (uZ HU2)).1 rfl size_tok (one_tok _ _ _ _) ?_;clear tok;intro w7 M7))
   exact bodyPost_ret (ret_ctt (p:=2) (u:=3) (v:=4) (T:=52) rfl _ _ g _ _ _ rfl (uZ M7).at' Tryz.underlying52 rfl size_tok) rfl ⟨rfl,by first|exact(uZ M7).below w.heap.size w (by rw [uZ HG];exact(uZ HBX u2 (uZ HU2)).2) (by have:=uZ HG;omega)|exact(uZ M7).below g w (uZ HBX u2 (uZ HU2)).2 (Nat.le_refl _)⟩
  |ok x=>
   obtain⟨t,n⟩:=x
   unfold fstV
   unfold fstV at CW
   obtain⟨tk,tt,tn,tp⟩:=t
   simp only at CW ⊢
   go_enter Tryz.func27,Tryz.ntmps27
   go_wp2_with fail
   refine(uZ CL).mono ?_
   rintro e u ⟨rfl,rfl⟩
   go_wp2_with fail
   refine(uZ CW).mono ?_
   rintro e u2 ⟨rfl,b2⟩
   have HU2:=hZ b2
   clear b2
   have tok:True:=trivial
   go_wp2_with (first|(have _t:=tok;refine wpList_put_arr rfl 52 (.tmp 2) (.tmp 14) rfl g _ _ rfl rfl (uZ HBX u2 (uZ HU2)).1 rfl size_tok (one_tok _ _ _ _) ?_;clear tok;intro w7 M7))
   exact bodyPost_ret (ret_ctt (p:=2) (u:=3) (v:=4) (T:=52) rfl _ _ g _ _ _ rfl (uZ M7).at' Tryz.underlying52 rfl size_tok) rfl ⟨rfl,by first|exact(uZ M7).below w.heap.size w (by rw [uZ HG];exact(uZ HBX u2 (uZ HU2)).2) (by have:=uZ HG;omega)|exact(uZ M7).below g w (uZ HBX u2 (uZ HU2)).2 (Nat.le_refl _)⟩
 |false=>
  rw [if_neg (by rw [hl];simp)] at hf
  rw [hl] at CL
  cases hd:lxDig c with
  |true=>
   rw [if_pos hd] at hf
   have CI2:=hZ (uZ CI hd)
   rw [←hf] at CI2
   rw [hd] at CD
   clear hf hl hd hL hD hr hz hc CI CB CS CW
   cases R with
   |error e=>
    unfold fstV
    unfold fstV at CI2
    go_enter Tryz.func27,Tryz.ntmps27
    go_wp2_with fail
    refine(uZ CL).mono ?_
    rintro e u ⟨rfl,rfl⟩
    go_wp2_with fail
    refine(uZ CD).mono ?_
    rintro e u ⟨rfl,rfl⟩
    go_wp2_with fail
    refine(uZ CI2).mono ?_
    rintro e u2 ⟨rfl,b2⟩
    have HU2:=hZ b2
    clear b2
    have tok:True:=trivial
    go_wp2_with (first|(have _t:=tok;refine wpList_put_arr rfl 52 (.tmp 2) (.tmp 22) rfl g _ _ rfl rfl (uZ HBX u2 (uZ HU2)).1 rfl size_tok (one_tok _ _ _ _) ?_;clear tok;intro w7 M7))
    exact bodyPost_ret (ret_ctt (p:=2) (u:=3) (v:=4) (T:=52) rfl _ _ g _ _ _ rfl (uZ M7).at' Tryz.underlying52 rfl size_tok) rfl ⟨rfl,by first|exact(uZ M7).below w.heap.size w (by rw [uZ HG];exact(uZ HBX u2 (uZ HU2)).2) (by have:=uZ HG;omega)|exact(uZ M7).below g w (uZ HBX u2 (uZ HU2)).2 (Nat.le_refl _)⟩
   |ok x=>
    obtain⟨t,n⟩:=x
    unfold fstV
    unfold fstV at CI2
    obtain⟨tk,tt,tn,tp⟩:=t
    simp only at CI2 ⊢
    go_enter Tryz.func27,Tryz.ntmps27
    go_wp2_with fail
    refine(uZ CL).mono ?_
    rintro e u ⟨rfl,rfl⟩
    go_wp2_with fail
    refine(uZ CD).mono ?_
    rintro e u ⟨rfl,rfl⟩
    go_wp2_with fail
    refine(uZ CI2).mono ?_
    rintro e u2 ⟨rfl,b2⟩
    have HU2:=hZ b2
    clear b2
    have tok:True:=trivial
    go_wp2_with (first|(have _t:=tok;refine wpList_put_arr rfl 52 (.tmp 2) (.tmp 22) rfl g _ _ rfl rfl (uZ HBX u2 (uZ HU2)).1 rfl size_tok (one_tok _ _ _ _) ?_;clear tok;intro w7 M7))
    exact bodyPost_ret (ret_ctt (p:=2) (u:=3) (v:=4) (T:=52) rfl _ _ g _ _ _ rfl (uZ M7).at' Tryz.underlying52 rfl size_tok) rfl ⟨rfl,by first|exact(uZ M7).below w.heap.size w (by rw [uZ HG];exact(uZ HBX u2 (uZ HU2)).2) (by have:=uZ HG;omega)|exact(uZ M7).below g w (uZ HBX u2 (uZ HU2)).2 (Nat.le_refl _)⟩
  |false=>
   rw [if_neg (by rw [hd];simp)] at hf
   rw [hd] at CD
   by_cases h34:c.toNat=34
   ·rw [if_pos h34] at hf
    rw [←hf] at CB
    have k1:((z:Int) == 34)=true:=beq_iff_eq.2 (by omega)
    clear hf hl hd hL hD hr hz hc CI CS CW h34
    cases R with
    |error e=>
     unfold fstV
     unfold fstV at CB
     go_enter Tryz.func27,Tryz.ntmps27
     go_wp2_with fail
     refine(uZ CL).mono ?_
     rintro e u ⟨rfl,rfl⟩
     go_wp2_with fail
     refine(uZ CD).mono ?_
     rintro e u ⟨rfl,rfl⟩
     go_wp2_with fail
     refine(uZ CB).mono ?_
     rintro e u2 ⟨rfl,b2⟩
     have HU2:=hZ b2
     clear b2
     have tok:True:=trivial
     go_wp2_with (first|(have _t:=tok;refine wpList_put_arr rfl 52 (.tmp 2) (.tmp 30) rfl g _ _ rfl rfl (uZ HBX u2 (uZ HU2)).1 rfl size_tok (one_tok _ _ _ _) ?_;clear tok;intro w7 M7))
     exact bodyPost_ret (ret_ctt (p:=2) (u:=3) (v:=4) (T:=52) rfl _ _ g _ _ _ rfl (uZ M7).at' Tryz.underlying52 rfl size_tok) rfl ⟨rfl,by first|exact(uZ M7).below w.heap.size w (by rw [uZ HG];exact(uZ HBX u2 (uZ HU2)).2) (by have:=uZ HG;omega)|exact(uZ M7).below g w (uZ HBX u2 (uZ HU2)).2 (Nat.le_refl _)⟩
    |ok x=>
     obtain⟨t,n⟩:=x
     unfold fstV
     unfold fstV at CB
     obtain⟨tk,tt,tn,tp⟩:=t
     simp only at CB ⊢
     go_enter Tryz.func27,Tryz.ntmps27
     go_wp2_with fail
     refine(uZ CL).mono ?_
     rintro e u ⟨rfl,rfl⟩
     go_wp2_with fail
     refine(uZ CD).mono ?_
     rintro e u ⟨rfl,rfl⟩
     go_wp2_with fail
     refine(uZ CB).mono ?_
     rintro e u2 ⟨rfl,b2⟩
     have HU2:=hZ b2
     clear b2
     have tok:True:=trivial
     go_wp2_with (first|(have _t:=tok;refine wpList_put_arr rfl 52 (.tmp 2) (.tmp 30) rfl g _ _ rfl rfl (uZ HBX u2 (uZ HU2)).1 rfl size_tok (one_tok _ _ _ _) ?_;clear tok;intro w7 M7))
     exact bodyPost_ret (ret_ctt (p:=2) (u:=3) (v:=4) (T:=52) rfl _ _ g _ _ _ rfl (uZ M7).at' Tryz.underlying52 rfl size_tok) rfl ⟨rfl,by first|exact(uZ M7).below w.heap.size w (by rw [uZ HG];exact(uZ HBX u2 (uZ HU2)).2) (by have:=uZ HG;omega)|exact(uZ M7).below g w (uZ HBX u2 (uZ HU2)).2 (Nat.le_refl _)⟩
   ·rw [if_neg h34] at hf
    rw [←hf] at CS
    have k1:((z:Int) == 34)=false:=beq_eq_false_iff_ne.2 (by omega)
    have k2:¬(z:Int)=34:=by omega
    clear hf hl hd hL hD hr hz hc CI CB CW h34
    cases R with
    |error e=>
     unfold fstV
     unfold fstV at CS
     go_enter Tryz.func27,Tryz.ntmps27
     go_wp2_with fail
     refine(uZ CL).mono ?_
     rintro e u ⟨rfl,rfl⟩
     go_wp2_with fail
     refine(uZ CD).mono ?_
     rintro e u ⟨rfl,rfl⟩
     go_wp2_with fail
     refine(uZ CS).mono ?_
     rintro e u2 ⟨rfl,b2⟩
     have HU2:=hZ b2
     clear b2
     have tok:True:=trivial
     go_wp2_with (first|(have _t:=tok;refine wpList_put_arr rfl 52 (.tmp 2) (.tmp 35) rfl g _ _ rfl rfl (uZ HBX u2 (uZ HU2)).1 rfl size_tok (one_tok _ _ _ _) ?_;clear tok;intro w7 M7))
     exact bodyPost_ret (ret_ctt (p:=2) (u:=3) (v:=4) (T:=52) rfl _ _ g _ _ _ rfl (uZ M7).at' Tryz.underlying52 rfl size_tok) rfl ⟨rfl,by first|exact(uZ M7).below w.heap.size w (by rw [uZ HG];exact(uZ HBX u2 (uZ HU2)).2) (by have:=uZ HG;omega)|exact(uZ M7).below g w (uZ HBX u2 (uZ HU2)).2 (Nat.le_refl _)⟩
    |ok x=>
     obtain⟨t,n⟩:=x
     unfold fstV
     unfold fstV at CS
     obtain⟨tk,tt,tn,tp⟩:=t
     simp only at CS ⊢
     go_enter Tryz.func27,Tryz.ntmps27
     go_wp2_with fail
     refine(uZ CL).mono ?_
     rintro e u ⟨rfl,rfl⟩
     go_wp2_with fail
     refine(uZ CD).mono ?_
     rintro e u ⟨rfl,rfl⟩
     go_wp2_with fail
     refine(uZ CS).mono ?_
     rintro e u2 ⟨rfl,b2⟩
     have HU2:=hZ b2
     clear b2
     have tok:True:=trivial
     go_wp2_with (first|(have _t:=tok;refine wpList_put_arr rfl 52 (.tmp 2) (.tmp 35) rfl g _ _ rfl rfl (uZ HBX u2 (uZ HU2)).1 rfl size_tok (one_tok _ _ _ _) ?_;clear tok;intro w7 M7))
     exact bodyPost_ret (ret_ctt (p:=2) (u:=3) (v:=4) (T:=52) rfl _ _ g _ _ _ rfl (uZ M7).at' Tryz.underlying52 rfl size_tok) rfl ⟨rfl,by first|exact(uZ M7).below w.heap.size w (by rw [uZ HG];exact(uZ HBX u2 (uZ HU2)).2) (by have:=uZ HG;omega)|exact(uZ M7).below g w (uZ HBX u2 (uZ HU2)).2 (Nat.le_refl _)⟩
end Go.Proofs.YtilhlmmcdfoaoaaGreatDoor
