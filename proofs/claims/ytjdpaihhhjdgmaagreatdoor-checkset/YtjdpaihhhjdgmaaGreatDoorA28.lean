/-
  Whole numbers as a source says them; no conditions.
  The walks of lex's firstWord, firstInt, firstSign; conditions: a text of at most 8192 bytes; what the variables of strconv hold.
-/
import Derived.Test.YtjdpaihhhjdgmaaGreatDoorA00
import Derived.Lib.ItoaNum
import Derived.Lib.ParseIntB
import Derived.Test.YtjdpaihhhjdgmaaGreatDoorA27
import Derived.Lib.AppendIntMem
set_option linter.unusedVariables false
set_option linter.unusedSimpArgs false
set_option maxRecDepth 100000
set_option maxHeartbeats 8000000
namespace Go.Proofs.YtjdpaihhhjdgmaaGreatDoor
set_option linter.unusedVariables false
set_option linter.unusedSimpArgs false
def valF (a:Nat) (w:List UInt8):Nat:=w.foldl (fun n c=>10 * n+(c.toNat - 48)) a
theorem valF_nil (a:Nat):valF a []=a:=rfl
theorem valF_cons (a:Nat) (c:UInt8) (r:List UInt8):valF a (c :: r)=valF (10 * a+(c.toNat - 48)) r:=by unfold valF;rw [List.foldl_cons]
theorem valF_one (a:Nat) (w:List UInt8) (c:UInt8):valF a (w++[c])=10 * valF a w+(c.toNat - 48):=by unfold valF;rw [List.foldl_append,List.foldl_cons,List.foldl_nil]
theorem valD_F (w:List UInt8):valD w=valF 0 w:=rfl
theorem valF_ge:∀(w:List UInt8) (a:Nat),a≤valF a w
 |[],a=>Nat.le_refl _
 |c :: r,a=>by
  rw [valF_cons]
  have:=valF_ge r (10 * a+(c.toNat - 48))
  omega
theorem dig_range {c:UInt8} (h:lxDig c=true):48≤c.toNat∧c.toNat≤57:=of_decide_eq_true h
theorem parse_ok:∀(w:List UInt8) (a u:Nat),Lib.parseUintM 18446744073709551615 a w=.ok u→w.all lxDig=true∧u=valF a w
 |[],a,u,h=>by
  simp only [Lib.parseUintM] at h
  injection h with h
  exact⟨rfl,by rw [valF_nil,h]⟩
 |c :: r,a,u,h=>by
  simp only [Lib.parseUintM] at h
  split at h
  ·rename_i hc
   split at h
   ·cases h
   ·split at h
    ·cases h
    ·have ih:=parse_ok r _ u h
     refine⟨?_,?_⟩
     ·rw [List.all_cons,ih.1]
      have:lxDig c=true:=decide_eq_true hc
      rw [this]
      rfl
     ·rw [valF_cons,ih.2,Nat.mul_comm]
  ·cases h
theorem parse_is:∀(w:List UInt8) (a:Nat),w.all lxDig=true→valF a w≤9223372036854775807→Lib.parseUintM 18446744073709551615 a w=.ok (valF a w)
 |[],a,_,_=>rfl
 |c :: r,a,h,hv=>by
  rw [List.all_cons,Bool.and_eq_true] at h
  have hc:=dig_range h.1
  rw [valF_cons] at hv
  have h2:=valF_ge r (10 * a+(c.toNat - 48))
  simp only [Lib.parseUintM]
  rw [if_pos hc,if_neg (by omega),if_neg (by omega),Nat.mul_comm a 10,parse_is r _ h.2 hv,valF_cons]
theorem parseB_dig {c:UInt8} {r:List UInt8} (hc:lxDig c=true):Lib.parseIntB 64 (c :: r)=match Lib.parseUintM 18446744073709551615 0 (c :: r) with
  |.syntax=>.syntax
  |.range=>.range
  |.ok u=>if 9223372036854775808≤u then .range else .ok (u:Int):=by
 have h:=dig_range hc
 have n1:¬(c.toNat=43∨c.toNat=45):=by omega
 have n2:¬c.toNat=45:=by omega
 have e1:(if c.toNat=43∨c.toNat=45 then r else c :: r)=c :: r:=if_neg n1
 have e2:Lib.parseUintB 64 (c :: r)=Lib.parseUintM 18446744073709551615 0 (c :: r):=by
  unfold Lib.parseUintB
  rw [if_neg (by simp)]
 unfold Lib.parseIntB
 simp only [e1,e2]
 cases Lib.parseUintM 18446744073709551615 0 (c :: r) with
 |«syntax»=>rfl
 |range=>rfl
 |ok u=>simp only [n2,not_false_eq_true,true_and,false_and,if_false]
theorem dec_lt {n:Nat} (h:n<10):Lib.decDigits n=[UInt8.ofNat (48+n)]:=Lib.decDigits_one h
theorem dec_ge {n:Nat} (h:¬n<10):Lib.decDigits n=Lib.decDigits (n / 10)++[UInt8.ofNat (48+n % 10)]:=by rw [Lib.decDigits,dif_neg h]
theorem of_dig {c:UInt8} (h:lxDig c=true):UInt8.ofNat (48+(c.toNat - 48))=c:=by
 have:=dig_range h
 rw [show 48+(c.toNat - 48)=c.toNat by omega]
 simp
theorem dig_of (n:Nat) (h:n<10):lxDig (UInt8.ofNat (48+n))=true∧(UInt8.ofNat (48+n)).toNat=48+n:=by
 have e:(UInt8.ofNat (48+n)).toNat=48+n:=by
  rw [UInt8.toNat_ofNat']
  omega
 refine⟨?_,e⟩
 unfold lxDig
 rw [e]
 exact decide_eq_true (by omega)
theorem dec_all (n:Nat):(Lib.decDigits n).all lxDig=true∧valD (Lib.decDigits n)=n∧((Lib.decDigits n).length≤1∨(Lib.decDigits n).head?≠some 48)∧Lib.decDigits n≠[]∧(1≤n→(Lib.decDigits n).head?≠some 48):=by
 induction n using Nat.strongRecOn with
 |_ n ih=>
  by_cases h:n<10
  ·rw [dec_lt h]
   have h1:=dig_of n h
   refine⟨by rw [List.all_cons,List.all_nil,h1.1];rfl,?_,Or.inl (by simp),by simp,fun h2=>?_⟩
   ·rw [valD_F,valF_cons,valF_nil,h1.2];omega
   ·simp only [List.head?_cons,ne_eq,Option.some.injEq]
    intro e
    have h3:=congrArg UInt8.toNat e
    rw [h1.2] at h3
    have h4:(48:UInt8).toNat=48:=rfl
    omega
  ·have ihx:=ih (n / 10) (by omega)
   have h1:=dig_of (n % 10) (by omega)
   rw [dec_ge h]
   have hd:(Lib.decDigits (n / 10)++[UInt8.ofNat (48+n % 10)]).head?=(Lib.decDigits (n / 10)).head?:=by
    cases hq:Lib.decDigits (n / 10) with
    |nil=>exact absurd hq ihx.2.2.2.1
    |cons a b=>rfl
   have hne:=ihx.2.2.2.2 (by omega)
   refine⟨by rw [List.all_append,ihx.1,List.all_cons,List.all_nil,h1.1];rfl,?_,Or.inr (by rw [hd];exact hne),by simp,fun _=>by rw [hd];exact hne⟩
   rw [valD_F,valF_one,←valD_F,ihx.2.1,h1.2]
   omega
theorem dec_val:∀(k:Nat) (w:List UInt8),w.length=k→w≠[]→w.all lxDig=true→(w.length≤1∨w.head?≠some 48)→Lib.decDigits (valD w)=w∧(w.head?≠some 48→1≤valD w)
 |0,w,hk,hne,_,_=>absurd (List.eq_nil_of_length_eq_zero hk) hne
 |1,w,hk,hne,ha,_=>by
  match w,hk with
  |[c],_=>
   have hc:lxDig c=true:=by simpa using ha
   have hr:=dig_range hc
   have hv:valD [c]=c.toNat - 48:=by rw [valD_F,valF_cons,valF_nil];omega
   rw [hv,dec_lt (by omega),of_dig hc]
   refine⟨rfl,fun h=>?_⟩
   simp only [List.head?_cons,ne_eq,Option.some.injEq] at h
   rcases Nat.lt_or_ge 48 c.toNat with g|g
   ·omega
   ·exact absurd (UInt8.toNat_inj.1 (show c.toNat=(48:UInt8).toNat by show c.toNat=48;omega)) h
 |k+2,w,hk,hne,ha,hz=>by
  obtain⟨v,c,rfl⟩:∃v c,w=v++[c]:=⟨w.dropLast,w.getLast hne,(List.dropLast_concat_getLast hne).symm⟩
  have hl:v.length=k+1:=by simpa using hk
  have hv0:v≠[]:=by intro e;rw [e] at hl;simp at hl
  rw [List.all_append,Bool.and_eq_true] at ha
  have hc:lxDig c=true:=by simpa using ha.2
  have hr:=dig_range hc
  have hd:(v++[c]).head?=v.head?:=by
   cases v with
   |nil=>exact absurd rfl hv0
   |cons a b=>rfl
  have hz':v.head?≠some 48:=by
   rcases hz with h|h
   ·rw [List.length_append] at h;simp only [List.length_cons,List.length_nil] at h;omega
   ·rwa [hd] at h
  have ih:=dec_val (k+1) v hl hv0 ha.1 (Or.inr hz')
  have h1:=ih.2 hz'
  have he:valD (v++[c])=10 * valD v+(c.toNat - 48):=by rw [valD_F,valF_one];rfl
  rw [he,dec_ge (by omega),show (10 * valD v+(c.toNat - 48)) / 10=valD v by omega,show (10 * valD v+(c.toNat - 48)) % 10=c.toNat - 48 by omega,ih.1,of_dig hc]
  exact⟨rfl,fun _=>by omega⟩
theorem intV_dec (n:Nat) (h:n≤9223372036854775807):intV (Lib.decDigits n)=some n:=by
 have hd:=dec_all n
 unfold intV
 rw [if_pos ⟨hd.1,hd.2.2.1,by rw [hd.2.1];exact h⟩,hd.2.1]
theorem int_ok {c:UInt8} {r:List UInt8} {v:Int} (hc:lxDig c=true) (h:Lib.parseIntB 64 (c :: r)=.ok v) :
  0≤v∧v≤9223372036854775807∧(Lib.itoa v=c :: r→intV (c :: r)=some v.toNat)∧(Lib.itoa v≠c :: r→intV (c :: r)=none):=by
 rw [parseB_dig hc] at h
 cases hp:Lib.parseUintM 18446744073709551615 0 (c :: r) with
 |«syntax»=>rw [hp] at h;cases h
 |range=>rw [hp] at h;cases h
 |ok u=>
  rw [hp] at h
  simp only at h
  split at h
  ·cases h
  ·rename_i hu
   injection h with h
   subst h
   have hk:=parse_ok _ _ _ hp
   have hi:Lib.itoa (u:Int)=Lib.decDigits u:=by
    unfold Lib.itoa
    rw [if_neg (by omega)]
    rfl
   rw [hi]
   have hv:valD (c :: r)=u:=hk.2.symm
   refine⟨by omega,by omega,fun e=>?_,fun e=>?_⟩
   ·rw [←e,intV_dec u (by omega)]
    rfl
   ·unfold intV
    rw [if_neg]
    rintro ⟨h1,h2,h3⟩
    exact e (by rw [←hv];exact(dec_val _ (c :: r) rfl (by simp) h1 h2).1)
theorem int_bad {c:UInt8} {r:List UInt8} (hc:lxDig c=true) (h:∀v,Lib.parseIntB 64 (c :: r)≠.ok v):intV (c :: r)=none:=by
 unfold intV
 rw [if_neg]
 rintro ⟨h1,h2,h3⟩
 refine h (valD (c :: r):Int) ?_
 rw [parseB_dig hc,parse_is _ 0 h1 h3]
 simp only
 rw [if_neg (by have:=h3;rw [valD_F] at this;omega)]
 rfl
open Go.RowKit
theorem ret_ctt {P:Program} {fn:Func} {p u v:Tmp} {T:TypeId} (h:fn.results=#[.cell p T,.tmp u,.tmp v]) (tmps:Array Value) (w:World) (g:Nat) (c:Array Value) (d:TypeDesc) (t:TypeId)
  (hp:tmps.getD p undef=.pointer (some ⟨g,0,none⟩)) (hb:w.heap[g]?=some (.cells c t (0,0))) (hu:P.underlying T=some d) (hd:(match d with|.struct _|.array _ _=>true|_=>false)=true) (hi:(P.info? T).map (·.size)=some c.size) :
  (results fn tmps).run P w=.ok (.tuple #[.agg c,tmps.getD u undef,tmps.getD v undef]) w:=by
 have hl:=run_loadVar_row (P:=P) w g t T c (0,0) _ hb hu hd hi
 have hp':tmps[p]?.getD undef=.pointer (some ⟨g,0,none⟩):=by simpa using hp
 simp [results,h,hp',asAddr,Result.andThen,hl]
theorem size_tok:(Tryz.prog.info? 85).map (·.size)=some 4:=by kernel_rfl
theorem one_tok (a:Int) (s:ByteArray) (b c:Int):(#[.int .i64 a,.string s,.int .i64 b,.int .i64 c]:Array Value).all (·.oneCell')=true:=by simp [Value.oneCell']
def fstV:Except Nat (Tk × Nat)→Value
 |.error e=>.tuple #[.agg #[.int .i64 0,.string ⟨#[]⟩,.int .i64 0,.int .i64 0],.int .i64 0,.int .i64 (e:Int)]
 |.ok (t,n)=>.tuple #[.agg #[.int .i64 (t.k:Int),.string (bA t.t),.int .i64 (t.n:Int),.int .i64 (t.p:Int)],.int .i64 (n:Int),.int .i64 0]
theorem tok_box (w:World):∃w1,w.alloc (.cells #[.int .i64 0,.string ⟨#[]⟩,.int .i64 0,.int .i64 0] 85)=w1∧Below w.heap.size w w1∧w1.heap.size=w.heap.size+1∧∀u,Below w1.heap.size w1 u→u.heap[w.heap.size]?=some (.cells #[.int .i64 0,.string ⟨#[]⟩,.int .i64 0,.int .i64 0] 85 (0,0))∧Below w.heap.size w u:=by
 refine⟨_,rfl,(Below.refl _ _).alloc (Nat.le_refl _) _,by simp,fun u hu=>?_⟩
 have h1:Below w.heap.size w (w.alloc (.cells #[.int .i64 0,.string ⟨#[]⟩,.int .i64 0,.int .i64 0] 85)):=(Below.refl _ _).alloc (Nat.le_refl _) _
 exact⟨(hu.block w.heap.size (by simp)).trans (heap_alloc_new w _),h1.trans (hu.mono h1.size)⟩
theorem fWord_any (s:ByteArray) (hs:s.size≤8192) (w:World) :
  Calls Tryz.prog 105 #[.string s] w fun e w'=>e=.returned (fstV (wrdT (s.data.toList.takeWhile lxW)))∧Below w.heap.size w w':=by
 obtain⟨w1,hw1,hb1,hz1,hbx⟩:=tok_box w
 obtain⟨g,hg⟩:=eX (w.heap.size)
 have HG:=hZ hg
 rw [hg] at hbx
 have HBX:=hZ hbx
 obtain⟨W,hW⟩:=eX (s.data.toList.takeWhile lxW)
 have hWl:W.length≤8192:=by
  have:=tw_le lxW s.data.toList
  rw [hW,len_list] at this
  omega
 have CW:=hZ (word_any s (by omega) w1)
 rw [hW] at CW ⊢
 have hsz:=bA_size W
 have hwi:(W.length:Int)≤8192:=by omega
 have hK:=fun u=>isKey_any (bA W) u
 rw [bA_data] at hK
 have CC:=hZ (fun u=>str_clone (bA W) u (by omega))
 cases hk:keyB W with
 |true=>
  have hE:fstV (wrdT W)=.tuple #[.agg #[.int .i64 2,.string (bA W),.int .i64 0,.int .i64 0],.int .i64 (W.length:Int),.int .i64 0]:=by
   unfold wrdT
   rw [if_pos hk]
   rfl
  rw [hE]
  rw [hk] at hK
  have CK:=hZ hK
  obtain⟨V,hV⟩:=eX (bA W)
  rw [hV] at CW CK CC hsz ⊢
  clear hE hk hK hbx hV hb1 hW
  go_enter Tryz.func105,Tryz.ntmps105
  go_wp2_with fail
  refine(uZ CW).mono ?_
  rintro e u ⟨rfl,b1⟩
  have HU:=hZ b1
  clear b1 CW
  go_wp2_with fail
  refine((uZ CK) _).mono ?_
  rintro e u' ⟨rfl,rfl⟩
  go_wp2_with fail
  refine((uZ CC) _).mono ?_
  rintro e u2 ⟨rfl,b2⟩
  have HU2:Hid (Below w1.heap.size w1 u2):=hZ ((uZ HU).trans (b2.mono (uZ HU).size))
  clear b2 CC
  have tok:True:=trivial
  go_wp2_with (first|(have _t:=tok;refine wpList_put_arr rfl 85 (.tmp 2) (.tmp 20) rfl g _ _ rfl rfl (uZ HBX u2 (uZ HU2)).1 rfl size_tok (one_tok _ _ _ _) ?_;clear tok;intro w7 M7))
  exact bodyPost_ret (ret_ctt (p:=2) (u:=3) (v:=4) (T:=85) rfl _ _ g _ _ _ rfl (uZ M7).at' Tryz.underlying85 rfl size_tok) rfl ⟨by rw [←hsz];rfl,by first|exact(uZ M7).below w.heap.size w (by rw [uZ HG];exact(uZ HBX u2 (uZ HU2)).2) (by have:=uZ HG;omega)|exact(uZ M7).below g w (uZ HBX u2 (uZ HU2)).2 (Nat.le_refl _)⟩
 |false=>
  rw [hk] at hK
  have CK:=hZ hK
  by_cases h20:20<W.length
  ·have hE:fstV (wrdT W)=.tuple #[.agg #[.int .i64 0,.string ⟨#[]⟩,.int .i64 0,.int .i64 0],.int .i64 0,.int .i64 164]:=by
    unfold wrdT
    rw [if_neg (by rw [hk];simp),if_pos h20]
    rfl
   rw [hE]
   obtain⟨V,hV⟩:=eX (bA W)
   rw [hV] at CW CK CC hsz
   have hvi:(20:Int)<(V.size:Int):=by omega
   clear hE hk hK hbx hV hb1 hW hsz
   go_enter Tryz.func105,Tryz.ntmps105
   go_wp2_with fail
   refine(uZ CW).mono ?_
   rintro e u ⟨rfl,b1⟩
   have HU:=hZ b1
   clear b1 CW
   go_wp2_with fail
   refine((uZ CK) _).mono ?_
   rintro e u' ⟨rfl,rfl⟩
   have tok:True:=trivial
   go_wp2_with (first|(have _t:=tok;refine wpList_put_arr rfl 85 (.tmp 2) (.tmp 16) rfl g _ _ rfl rfl (uZ HBX _ (uZ HU)).1 rfl size_tok (one_tok _ _ _ _) ?_;clear tok;intro w7 M7))
   exact bodyPost_ret (ret_ctt (p:=2) (u:=3) (v:=4) (T:=85) rfl _ _ g _ _ _ rfl (uZ M7).at' Tryz.underlying85 rfl size_tok) rfl ⟨rfl,by first|exact(uZ M7).below w.heap.size w (by rw [uZ HG];exact(uZ HBX _ (uZ HU)).2) (by have:=uZ HG;omega)|exact(uZ M7).below g w (uZ HBX _ (uZ HU)).2 (Nat.le_refl _)⟩
  ·have hE:fstV (wrdT W)=.tuple #[.agg #[.int .i64 1,.string (bA W),.int .i64 0,.int .i64 0],.int .i64 (W.length:Int),.int .i64 0]:=by
    unfold wrdT
    rw [if_neg (by rw [hk];simp),if_neg h20]
    rfl
   rw [hE]
   obtain⟨V,hV⟩:=eX (bA W)
   rw [hV] at CW CK CC hsz ⊢
   have hvi:¬(20:Int)<(V.size:Int):=by omega
   clear hE hk hK hbx hV hb1 hW
   go_enter Tryz.func105,Tryz.ntmps105
   go_wp2_with fail
   refine(uZ CW).mono ?_
   rintro e u ⟨rfl,b1⟩
   have HU:=hZ b1
   clear b1 CW
   go_wp2_with fail
   refine((uZ CK) _).mono ?_
   rintro e u' ⟨rfl,rfl⟩
   go_wp2_with fail
   refine((uZ CC) _).mono ?_
   rintro e u2 ⟨rfl,b2⟩
   have HU2:Hid (Below w1.heap.size w1 u2):=hZ ((uZ HU).trans (b2.mono (uZ HU).size))
   clear b2 CC
   have tok:True:=trivial
   go_wp2_with (first|(have _t:=tok;refine wpList_put_arr rfl 85 (.tmp 2) (.tmp 20) rfl g _ _ rfl rfl (uZ HBX u2 (uZ HU2)).1 rfl size_tok (one_tok _ _ _ _) ?_;clear tok;intro w7 M7))
   exact bodyPost_ret (ret_ctt (p:=2) (u:=3) (v:=4) (T:=85) rfl _ _ g _ _ _ rfl (uZ M7).at' Tryz.underlying85 rfl size_tok) rfl ⟨by rw [←hsz];rfl,by first|exact(uZ M7).below w.heap.size w (by rw [uZ HG];exact(uZ HBX u2 (uZ HU2)).2) (by have:=uZ HG;omega)|exact(uZ M7).below g w (uZ HBX u2 (uZ HU2)).2 (Nat.le_refl _)⟩
theorem below_bytes (w:World) (e:TypeId) (t:ByteArray):Below w.heap.size w (Lib.bytesWorld w e t):=by
 unfold Lib.bytesWorld
 exact Lib.below_freeze (((Below.refl _ w).drew).alloc (Nat.le_refl _) _) (p:=⟨w.heap.size,_,none⟩) (Nat.le_refl _) _
theorem tw_head (s:ByteArray) (h:0<s.size) (hd:lxDig (s[0]'h)=true):∃r,s.data.toList.takeWhile lxW=(s[0]'h) :: r:=by
 obtain⟨r,hr⟩:=head_list s h
 refine⟨r.takeWhile lxW,?_⟩
 rw [hr,List.takeWhile_cons,if_pos (by unfold lxW;rw [hd];simp)]
theorem fInt_any (s:ByteArray) (h0:0<s.size) (hd:lxDig (s[0]'h0)=true) (hs:s.size≤8192) (w:World) (he:Ev w) (hw6:5<w.heap.size) :
  Calls Tryz.prog 107 #[.string s] w fun e w'=>e=.returned (fstV (numT (s.data.toList.takeWhile lxW)))∧Below w.heap.size w w':=by
 obtain⟨w1,hw1,hb1,hz1,hbx⟩:=tok_box w
 obtain⟨g,hg⟩:=eX (w.heap.size)
 have HG:=hZ hg
 have HEV:Hid (∀u,Below w1.heap.size w1 u→Ev u):=hZ (fun u hu=>he.below (hbx u hu).2 hw6)
 rw [hg] at hbx
 have HBX:=hZ hbx
 obtain⟨r,hWr⟩:=tw_head s h0 hd
 obtain⟨c,hc⟩:=eX (s[0]'h0)
 rw [hc] at hWr hd
 have CW:=hZ (word_any s (by omega) w1)
 have hWl:(c :: r).length≤8192:=by
  have:=tw_le lxW s.data.toList
  rw [hWr,len_list] at this
  omega
 rw [hWr] at CW ⊢
 obtain⟨W,hW⟩:=eX (c :: r)
 have hsz:=bA_size W
 have hdat:=bA_data W
 have hlst:=bA_list W
 cases hp:Lib.parseIntB 64 (c :: r) with
 |ok v=>
  obtain⟨v0,v1,y1,y2⟩:=int_ok hd hp
  obtain⟨n,rfl⟩:∃n:Nat,v=(n:Int):=⟨v.toNat,by omega⟩
  rw [hW] at hp CW hWl y1 y2 ⊢
  have CP:=hZ (fun u=>Tryz.strconv_ParseInt_10_at64_ok (bA W) (by omega) (n:Int) (by rw [hdat];exact hp) u)
  have CF:=hZ (fun u (hu:Ev u)=>Tryz.strconv_FormatInt_10 (n:Int) (by omega) v1 u hu.tab)
  have hcmp:((⟨(Lib.itoa (n:Int)).toArray⟩:ByteArray).toList == (bA W).toList)=decide (Lib.itoa (n:Int)=W):=by
   rw [hlst,show (⟨(Lib.itoa (n:Int)).toArray⟩:ByteArray)=bA (Lib.itoa (n:Int)) from rfl,bA_list,Bool.eq_iff_iff,beq_iff_eq,decide_eq_true_eq]
  obtain⟨I,hI⟩:=eX ((⟨(Lib.itoa (n:Int)).toArray⟩:ByteArray))
  rw [hI] at CF hcmp
  obtain⟨V,hV⟩:=eX (bA W)
  rw [hV] at CW CP hsz hcmp
  by_cases hq:Lib.itoa (n:Int)=W
  ·have hE:fstV (numT W)=.tuple #[.agg #[.int .i64 3,.string ⟨#[]⟩,.int .i64 (n:Int),.int .i64 0],.int .i64 (W.length:Int),.int .i64 0]:=by
    unfold numT
    rw [y1 hq]
    rfl
   rw [hE]
   rw [decide_eq_true hq] at hcmp
   have hne:(I.toList != V.toList)=false:=by rw [bne,hcmp];rfl
   clear hE hp hbx hV hI hb1 hWr hW hdat hlst y1 y2 hq he hc
   go_enter Tryz.func107,Tryz.ntmps107
   go_wp2_with fail
   refine(uZ CW).mono ?_
   rintro e u ⟨rfl,b1⟩
   have HU:=hZ b1
   clear b1 CW
   go_wp2_with fail
   refine((uZ CP) _).mono ?_
   rintro e u2 ⟨rfl,b2⟩
   have HU2:Hid (Below w1.heap.size w1 u2):=hZ (by
    rcases b2 with rfl|⟨t,rfl⟩
    ·exact uZ HU
    ·exact(uZ HU).trans ((below_bytes u _ t).mono (uZ HU).size))
   clear b2 CP
   go_wp2_with fail
   refine((uZ CF) u2 (uZ HEV u2 (uZ HU2))).mono ?_
   rintro e u3 ⟨rfl,q,os,hu3⟩
   have HU3:Hid (Below w1.heap.size w1 u3):=hZ ((uZ HU2).trans (show Below w1.heap.size u2 u3 by rw [hu3];exact Lib.below_grow _ _ (uZ HU2).size q os))
   clear hu3 CF
   have tok:True:=trivial
   go_wp2_with (first|(have _t:=tok;refine wpList_put_arr rfl 85 (.tmp 2) (.tmp 25) rfl g _ _ rfl rfl (uZ HBX u3 (uZ HU3)).1 rfl size_tok (one_tok _ _ _ _) ?_;clear tok;intro w7 M7))
   exact bodyPost_ret (ret_ctt (p:=2) (u:=3) (v:=4) (T:=85) rfl _ _ g _ _ _ rfl (uZ M7).at' Tryz.underlying85 rfl size_tok) rfl ⟨by rw [←hsz];rfl,by first|exact(uZ M7).below w.heap.size w (by rw [uZ HG];exact(uZ HBX u3 (uZ HU3)).2) (by have:=uZ HG;omega)|exact(uZ M7).below g w (uZ HBX u3 (uZ HU3)).2 (Nat.le_refl _)⟩
  ·have hE:fstV (numT W)=.tuple #[.agg #[.int .i64 0,.string ⟨#[]⟩,.int .i64 0,.int .i64 0],.int .i64 0,.int .i64 162]:=by
    unfold numT
    rw [y2 hq]
    rfl
   rw [hE]
   rw [decide_eq_false hq] at hcmp
   have hne:(I.toList != V.toList)=true:=by rw [bne,hcmp];rfl
   clear hE hp hbx hV hI hb1 hWr hW hdat hlst y1 y2 hq he hc
   go_enter Tryz.func107,Tryz.ntmps107
   go_wp2_with fail
   refine(uZ CW).mono ?_
   rintro e u ⟨rfl,b1⟩
   have HU:=hZ b1
   clear b1 CW
   go_wp2_with fail
   refine((uZ CP) _).mono ?_
   rintro e u2 ⟨rfl,b2⟩
   have HU2:Hid (Below w1.heap.size w1 u2):=hZ (by
    rcases b2 with rfl|⟨t,rfl⟩
    ·exact uZ HU
    ·exact(uZ HU).trans ((below_bytes u _ t).mono (uZ HU).size))
   clear b2 CP
   go_wp2_with fail
   refine((uZ CF) u2 (uZ HEV u2 (uZ HU2))).mono ?_
   rintro e u3 ⟨rfl,q,os,hu3⟩
   have HU3:Hid (Below w1.heap.size w1 u3):=hZ ((uZ HU2).trans (show Below w1.heap.size u2 u3 by rw [hu3];exact Lib.below_grow _ _ (uZ HU2).size q os))
   clear hu3 CF
   have tok:True:=trivial
   go_wp2_with (first|(have _t:=tok;refine wpList_put_arr rfl 85 (.tmp 2) (.tmp 23) rfl g _ _ rfl rfl (uZ HBX u3 (uZ HU3)).1 rfl size_tok (one_tok _ _ _ _) ?_;clear tok;intro w7 M7))
   exact bodyPost_ret (ret_ctt (p:=2) (u:=3) (v:=4) (T:=85) rfl _ _ g _ _ _ rfl (uZ M7).at' Tryz.underlying85 rfl size_tok) rfl ⟨rfl,by first|exact(uZ M7).below w.heap.size w (by rw [uZ HG];exact(uZ HBX u3 (uZ HU3)).2) (by have:=uZ HG;omega)|exact(uZ M7).below g w (uZ HBX u3 (uZ HU3)).2 (Nat.le_refl _)⟩
 |«syntax»=>
  have hE:fstV (numT (c :: r))=.tuple #[.agg #[.int .i64 0,.string ⟨#[]⟩,.int .i64 0,.int .i64 0],.int .i64 0,.int .i64 162]:=by
   unfold numT
   rw [int_bad hd (fun v=>by rw [hp];simp)]
   rfl
  rw [hE]
  rw [hW] at hp CW hWl
  obtain⟨V,hV⟩:=eX (bA W)
  have CP2:Hid (∀u,Ev u→Calls Tryz.prog 138 #[.string V,.int .i64 10,.int .i64 64] u fun e u'=>∃N:Nat,e=.returned (.tuple #[.int .i64 0,.iface 154 (.pointer (some ⟨N,0,none⟩))])∧Below u.heap.size u u'):=hZ (fun u hu=>by
   rw [←hV]
   obtain⟨ev,h1,h2⟩:=hu.syn
   refine(Tryz.strconv_ParseInt_10_at64_syntax (bA W) (by omega) (by rw [hdat];exact hp) ev u h1 h2).mono ?_
   rintro e u' ⟨N,rfl,_,_,hb⟩
   exact⟨N,rfl,hb⟩)
  rw [hV] at CW
  clear hE hp hbx hV hb1 hWr hW hdat hlst hsz he hc
  go_enter Tryz.func107,Tryz.ntmps107
  go_wp2_with fail
  refine(uZ CW).mono ?_
  rintro e u ⟨rfl,b1⟩
  have HU:=hZ b1
  clear b1 CW
  go_wp2_with fail
  refine((uZ CP2) u (uZ HEV u (uZ HU))).mono ?_
  rintro e u3 ⟨N,rfl,b3⟩
  have HU3:Hid (Below w1.heap.size w1 u3):=hZ ((uZ HU).trans (b3.mono (uZ HU).size))
  clear b3 CP2
  have tok:True:=trivial
  go_wp2_with (first|(have _t:=tok;refine wpList_put_arr rfl 85 (.tmp 2) (.tmp 23) rfl g _ _ rfl rfl (uZ HBX u3 (uZ HU3)).1 rfl size_tok (one_tok _ _ _ _) ?_;clear tok;intro w7 M7))
  exact bodyPost_ret (ret_ctt (p:=2) (u:=3) (v:=4) (T:=85) rfl _ _ g _ _ _ rfl (uZ M7).at' Tryz.underlying85 rfl size_tok) rfl ⟨rfl,by first|exact(uZ M7).below w.heap.size w (by rw [uZ HG];exact(uZ HBX u3 (uZ HU3)).2) (by have:=uZ HG;omega)|exact(uZ M7).below g w (uZ HBX u3 (uZ HU3)).2 (Nat.le_refl _)⟩
 |range=>
  have hE:fstV (numT (c :: r))=.tuple #[.agg #[.int .i64 0,.string ⟨#[]⟩,.int .i64 0,.int .i64 0],.int .i64 0,.int .i64 162]:=by
   unfold numT
   rw [int_bad hd (fun v=>by rw [hp];simp)]
   rfl
  rw [hE]
  rw [hW] at hp CW hWl
  obtain⟨V,hV⟩:=eX (bA W)
  have CP2:Hid (∀u,Ev u→Calls Tryz.prog 138 #[.string V,.int .i64 10,.int .i64 64] u fun e u'=>∃N:Nat,e=.returned (.tuple #[.int .i64 (Lib.intSat 64 (bA W).data.toList),.iface 154 (.pointer (some ⟨N,0,none⟩))])∧Below u.heap.size u u'):=hZ (fun u hu=>by
   rw [←hV]
   obtain⟨ev,h1,h2⟩:=hu.rng
   refine(Tryz.strconv_ParseInt_10_at64_range (bA W) (by omega) (by rw [hdat];exact hp) ev u h1 h2).mono ?_
   rintro e u' ⟨N,rfl,_,_,hb⟩
   exact⟨N,rfl,hb⟩)
  rw [hV] at CW
  clear hE hp hbx hV hb1 hWr hW hdat hlst hsz he hc
  go_enter Tryz.func107,Tryz.ntmps107
  go_wp2_with fail
  refine(uZ CW).mono ?_
  rintro e u ⟨rfl,b1⟩
  have HU:=hZ b1
  clear b1 CW
  go_wp2_with fail
  refine((uZ CP2) u (uZ HEV u (uZ HU))).mono ?_
  rintro e u3 ⟨N,rfl,b3⟩
  have HU3:Hid (Below w1.heap.size w1 u3):=hZ ((uZ HU).trans (b3.mono (uZ HU).size))
  clear b3 CP2
  have tok:True:=trivial
  go_wp2_with (first|(have _t:=tok;refine wpList_put_arr rfl 85 (.tmp 2) (.tmp 23) rfl g _ _ rfl rfl (uZ HBX u3 (uZ HU3)).1 rfl size_tok (one_tok _ _ _ _) ?_;clear tok;intro w7 M7))
  exact bodyPost_ret (ret_ctt (p:=2) (u:=3) (v:=4) (T:=85) rfl _ _ g _ _ _ rfl (uZ M7).at' Tryz.underlying85 rfl size_tok) rfl ⟨rfl,by first|exact(uZ M7).below w.heap.size w (by rw [uZ HG];exact(uZ HBX u3 (uZ HU3)).2) (by have:=uZ HG;omega)|exact(uZ M7).below g w (uZ HBX u3 (uZ HU3)).2 (Nat.le_refl _)⟩
end Go.Proofs.YtjdpaihhhjdgmaaGreatDoor
