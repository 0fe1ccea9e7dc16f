/-
  Layer 18 (print): the walk of PrintApart; conditions: both nodes lie in memory, strconv's table is laid.
-/
import Derived.Test.YtekbmfppfjlboaaGreatDoorA20
import Derived.Test.YtekbmfppfjlboaaGreatDoorA32
import Derived.Test.YtekbmfppfjlboaaGreatDoorA36
import Derived.Test.YtekbmfppfjlboaaGreatDoorA43
import Derived.Test.YtekbmfppfjlboaaGreatDoorA48
set_option linter.unusedVariables false
set_option linter.unusedSimpArgs false
namespace Go.Proofs.YtekbmfppfjlboaaGreatDoor
open Go.RowKit
set_option linter.unusedVariables false
set_option linter.unusedSimpArgs false
theorem prog_codeA (B0:Nat) (y:Tn) (x:List Value) (w:World) (hB:B0≤w.heap.size) (hx:IsN w (fun b=>b<B0) y x) (hG0:0<B0) (hP:PowAt w):Calls Tryz.prog 7 #[.agg x.toArray] w fun e w'=>e=.returned (pgR y)∧Below w.heap.size w w':=by
 unfold pgR
 by_cases h:y.k=1∧rgB y=true
 ·rw [if_pos h]
  exact pprog_ok B0 y x w hB hx h.1 h.2 hG0 hP (Nat.le_trans (pg_len hx h.1 h.2) (by decide))
 ·rw [if_neg h]
  refine pprog_no B0 y x w hB hx ?_
  cases hc:(decide (y.k=1) && rgB y) with
  |false=>rfl
  |true=>rw [Bool.and_eq_true,decide_eq_true_iff] at hc;exact absurd hc h
theorem pgR_parts (y:Tn):∃(S:ByteArray) (E:Int),pgR y=.tuple #[.string S,.int .i64 E]∧(E == 0)=(decide (y.k=1) && rgB y)∧(E=0→S=bA (pgT y)):=by
 unfold pgR
 split
 ·rename_i h
  exact⟨_,_,rfl,by rw [decide_eq_true h.1,h.2];rfl,fun _=>rfl⟩
 ·rename_i h
  refine⟨_,_,rfl,?_,fun h=>by cases h⟩
  cases hc:(decide (y.k=1) && rgB y) with
  |false=>rfl
  |true=>rw [Bool.and_eq_true,decide_eq_true_iff] at hc;exact absurd hc h
theorem err_bool {b:Bool} {E:Int} (h:(E == 0)=b):(b=true→E=0)∧(b=false→¬E=0∧(E != 0)=true∧(E == 0)=false):=by
 refine⟨fun hb=>by rw [hb] at h;simpa using h,fun hb=>?_⟩
 rw [hb] at h
 have h2:¬E=0:=by simpa using h
 exact⟨h2,by simpa using h2,h⟩
theorem texts_tell (y z:Tn) (hy:(decide (y.k=1) && rgB y)=true) (hz:(decide (z.k=1) && rgB z)=true):((bA (pgT y)).toList == (bA (pgT z)).toList)=saB y z:=by
 rw [Bool.and_eq_true,decide_eq_true_iff] at hy hz
 have h1:=hy.2
 have h2:=hz.2
 unfold rgB at h1 h2
 simp only [Bool.and_eq_true,decide_eq_true_eq] at h1 h2
 have e:saB y z=smN y z:=by
  unfold saB
  rw [decide_eq_true h1.1.1,decide_eq_true h2.1.1]
  simp
 rw [e,bA_list,bA_list,Bool.eq_iff_iff,beq_iff_eq]
 exact pg_iff h1.1.2 h2.1.2 hy.1 hz.1
set_option maxRecDepth 100000 in
set_option maxHeartbeats 8000000 in
theorem apart_walk (y z:Tn) (x x':List Value) (B:Nat) (w:World) (hx:IsN w (fun b=>b<B) y x) (hx':IsN w (fun b=>b<B) z x') (hB:B≤w.heap.size) (hG0:0<w.heap.size) (hP:PowAt w):Calls Tryz.prog 5 #[.agg x.toArray,.agg x'.toArray] w fun e w'=>e=.returned (.bool true)∧Below w.heap.size w w':=by
 obtain⟨S1,E1,hS1,hE1,hT1⟩:=pgR_parts y
 obtain⟨S2,E2,hS2,hE2,hT2⟩:=pgR_parts z
 obtain⟨R1,hR1⟩:∃R,(decide (y.k=1) && rgB y)=R:=⟨_,rfl⟩
 obtain⟨R2,hR2⟩:∃R,(decide (z.k=1) && rgB z)=R:=⟨_,rfl⟩
 obtain⟨R3,hR3⟩:∃R,saB y z=R:=⟨_,rfl⟩
 have hTT:R1=true→R2=true→(S1.toList == S2.toList)=R3:=fun h1 h2=>by
  rw [hR1,h1,beq_iff_eq] at hE1
  rw [hR2,h2,beq_iff_eq] at hE2
  rw [hT1 hE1,hT2 hE2,texts_tell y z (hR1.trans h1) (hR2.trans h2),hR3]
 have HTT:=hide hTT
 rw [hR1] at hE1
 rw [hR2] at hE2
 have PA:Hid (∀(u:World) (xx:List Value) (C:Nat),C≤u.heap.size→IsN u (fun b=>b<C) y xx→0<C→PowAt u→Calls Tryz.prog 7 #[.agg xx.toArray] u fun e u'=>e=.returned (.tuple #[.string S1,.int .i64 E1])∧Below u.heap.size u u'):=hide (fun u xx C h1 h2 h3 h4=>by rw [←hS1];exact prog_codeA C y xx u h1 h2 h3 h4)
 have PB:Hid (∀(u:World) (xx:List Value) (C:Nat),C≤u.heap.size→IsN u (fun b=>b<C) z xx→0<C→PowAt u→Calls Tryz.prog 7 #[.agg xx.toArray] u fun e u'=>e=.returned (.tuple #[.string S2,.int .i64 E2])∧Below u.heap.size u u'):=hide (fun u xx C h1 h2 h3 h4=>by rw [←hS2];exact prog_codeA C z xx u h1 h2 h3 h4)
 have RA0:∀u,B≤u.heap.size→IsN u (fun b=>b<B) y x→Calls Tryz.prog 13 #[.agg x.toArray] u fun e u'=>e=.returned (.bool R1)∧Below u.heap.size u u':=fun u h1 h2=>by rw [←hR1];exact RightD_any B y x u h1 h2
 have RB0:∀u,B≤u.heap.size→IsN u (fun b=>b<B) z x'→Calls Tryz.prog 13 #[.agg x'.toArray] u fun e u'=>e=.returned (.bool R2)∧Below u.heap.size u u':=fun u h1 h2=>by rw [←hR2];exact RightD_any B z x' u h1 h2
 have SA0:∀u,B≤u.heap.size→IsN u (fun b=>b<B) y x→IsN u (fun b=>b<B) z x'→Calls Tryz.prog 15 #[.agg x.toArray,.agg x'.toArray] u fun e u'=>e=.returned (.bool R3)∧Below u.heap.size u u':=fun u h1 h2 h3=>by rw [←hR3];exact same_any y z x x' B u h2 h3 h1
 have TA0:∀u,B≤u.heap.size→IsN u (fun b=>b<B) y x→Calls Tryz.prog 6 #[.agg x.toArray] u fun e u'=>∃xx,e=.returned (.agg xx.toArray)∧IsN u' (fun b=>b<u'.heap.size) y xx∧Below u.heap.size u u':=fun u h1 h2=>treeOf_any y x B u h2 h1
 have TB0:∀u,B≤u.heap.size→IsN u (fun b=>b<B) z x'→Calls Tryz.prog 6 #[.agg x'.toArray] u fun e u'=>∃xx,e=.returned (.agg xx.toArray)∧IsN u' (fun b=>b<u'.heap.size) z xx∧Below u.heap.size u u':=fun u h1 h2=>treeOf_any z x' B u h2 h1
 clear hS1 hS2 hT1 hT2 hR1 hR2 hR3 hTT
 obtain⟨vk,vn,vs,al,ak,a,ll,cl,lk,ck,cc,rfl,_⟩:=hx.opn
 obtain⟨vk',vn',vs',al',ak',a',ll',cl',lk',ck',cc',rfl,_⟩:=hx'.opn
 obtain⟨k,t,v,f,ks,p⟩:=y
 obtain⟨k',t',v',f',ks',p'⟩:=z
 simp only at hx hx' RA0 RB0 SA0 TA0 TB0 ⊢
 obtain⟨n,hn⟩:∃n,ks.length=n:=⟨_,rfl⟩
 obtain⟨n',hn'⟩:∃n,ks'.length=n:=⟨_,rfl⟩
 simp only [hn,hn'] at hx hx' RA0 RB0 SA0 TA0 TB0 ⊢
 have TW:=TwoL.mk' w 28 #[.int .i64 k,.string t,.int .i64 vk,.int .i64 vn,.string vs,.slice al ll cl,.slice ak lk ck,.bool f,.slice a n cc,.int .i64 p] #[.int .i64 k',.string t',.int .i64 vk',.int .i64 vn',.string vs',.slice al' ll' cl',.slice ak' lk' ck',.bool f',.slice a' n' cc',.int .i64 p']
 obtain⟨w2,hw2⟩:∃w2,(w.alloc (.cells #[.int .i64 k,.string t,.int .i64 vk,.int .i64 vn,.string vs,.slice al ll cl,.slice ak lk ck,.bool f,.slice a n cc,.int .i64 p] 28)).alloc (.cells #[.int .i64 k',.string t',.int .i64 vk',.int .i64 vn',.string vs',.slice al' ll' cl',.slice ak' lk' ck',.bool f',.slice a' n' cc',.int .i64 p'] 28)=w2:=⟨_,rfl⟩
 rw [hw2] at TW
 obtain⟨g,hg⟩:∃g,w.heap.size=g:=⟨_,rfl⟩
 rw [hg] at TW
 have HT:=hide TW
 have HV:Hid (∀u,Below w2.heap.size w2 u→IsN u (fun b=>b<B) ⟨k,t,v,f,ks,p⟩ [.int .i64 k,.string t,.int .i64 vk,.int .i64 vn,.string vs,.slice al ll cl,.slice ak lk ck,.bool f,.slice a n cc,.int .i64 p]∧IsN u (fun b=>b<B) ⟨k',t',v',f',ks',p'⟩ [.int .i64 k',.string t',.int .i64 vk',.int .i64 vn',.string vs',.slice al' ll' cl',.slice ak' lk' ck',.bool f',.slice a' n' cc',.int .i64 p']∧B≤u.heap.size∧PowAt u∧0<u.heap.size):=
  hide (fun u hu=>by
   have h0:Below w.heap.size w u:=TW.below.trans (hu.mono (by have:=TW.size;omega))
   have h1:Below B w u:=h0.mono hB
   exact⟨hx.laterB h1,hx'.laterB h1,by have:=TW.size;have:=hu.size;omega,hP.later h0 hG0,by have:=TW.size;have:=hu.size;omega⟩)
 have HC:Hid (∀u,Below w2.heap.size w2 u→u.heap[g]?=some (.cells #[.int .i64 k,.string t,.int .i64 vk,.int .i64 vn,.string vs,.slice al ll cl,.slice ak lk ck,.bool f,.slice a n cc,.int .i64 p] 28 (0,0))∧u.heap[g+1]?=some (.cells #[.int .i64 k',.string t',.int .i64 vk',.int .i64 vn',.string vs',.slice al' ll' cl',.slice ak' lk' ck',.bool f',.slice a' n' cc',.int .i64 p'] 28 (0,0))∧Below w.heap.size w u):=hide (fun u hu=>⟨((unhide HT).later hu).1,((unhide HT).later hu).2,(unhide HT).below.trans (hu.mono (by have:=(unhide HT).size;omega))⟩)
 have TA:Hid (∀u,Below w2.heap.size w2 u→Calls Tryz.prog 6 #[.agg #[.int .i64 k,.string t,.int .i64 vk,.int .i64 vn,.string vs,.slice al ll cl,.slice ak lk ck,.bool f,.slice a n cc,.int .i64 p]] u fun e u'=>∃xx,e=.returned (.agg xx.toArray)∧IsN u' (fun b=>b<u'.heap.size) ⟨k,t,v,f,ks,p⟩ xx∧Below u.heap.size u u'):=hide (fun u hu=>TA0 u ((unhide HV) u hu).2.2.1 ((unhide HV) u hu).1)
 have TB:Hid (∀u,Below w2.heap.size w2 u→Calls Tryz.prog 6 #[.agg #[.int .i64 k',.string t',.int .i64 vk',.int .i64 vn',.string vs',.slice al' ll' cl',.slice ak' lk' ck',.bool f',.slice a' n' cc',.int .i64 p']] u fun e u'=>∃xx,e=.returned (.agg xx.toArray)∧IsN u' (fun b=>b<u'.heap.size) ⟨k',t',v',f',ks',p'⟩ xx∧Below u.heap.size u u'):=hide (fun u hu=>TB0 u ((unhide HV) u hu).2.2.1 ((unhide HV) u hu).2.1)
 have RA:Hid (∀u,Below w2.heap.size w2 u→Calls Tryz.prog 13 #[.agg #[.int .i64 k,.string t,.int .i64 vk,.int .i64 vn,.string vs,.slice al ll cl,.slice ak lk ck,.bool f,.slice a n cc,.int .i64 p]] u fun e u'=>e=.returned (.bool R1)∧Below u.heap.size u u'):=hide (fun u hu=>RA0 u ((unhide HV) u hu).2.2.1 ((unhide HV) u hu).1)
 have RB:Hid (∀u,Below w2.heap.size w2 u→Calls Tryz.prog 13 #[.agg #[.int .i64 k',.string t',.int .i64 vk',.int .i64 vn',.string vs',.slice al' ll' cl',.slice ak' lk' ck',.bool f',.slice a' n' cc',.int .i64 p']] u fun e u'=>e=.returned (.bool R2)∧Below u.heap.size u u'):=hide (fun u hu=>RB0 u ((unhide HV) u hu).2.2.1 ((unhide HV) u hu).2.1)
 have SA:Hid (∀u,Below w2.heap.size w2 u→Calls Tryz.prog 15 #[.agg #[.int .i64 k,.string t,.int .i64 vk,.int .i64 vn,.string vs,.slice al ll cl,.slice ak lk ck,.bool f,.slice a n cc,.int .i64 p],.agg #[.int .i64 k',.string t',.int .i64 vk',.int .i64 vn',.string vs',.slice al' ll' cl',.slice ak' lk' ck',.bool f',.slice a' n' cc',.int .i64 p']] u fun e u'=>e=.returned (.bool R3)∧Below u.heap.size u u'):=hide (fun u hu=>SA0 u ((unhide HV) u hu).2.2.1 ((unhide HV) u hu).1 ((unhide HV) u hu).2.1)
 have CSh:=hide (shown18 w2 ((unhide HV) w2 (Below.refl _ _)).2.2.2.2 ((unhide HV) w2 (Below.refl _ _)).2.2.2.1)
 have g1:(R1 != R1)=false:=by simp
 have g2:(R2 != R2)=false:=by simp
 have g3:(R3 == R3)=true:=by simp
 have hw2':=hide hw2
 clear TW hx hx' hn hn' hB hP hG0 RA0 RB0 SA0 TA0 TB0 hw2
 go_enter Tryz.func5,Tryz.ntmps5
 go_upto_region 1 with fail
 rw [unhide hw2']
 clear hw2'
 go_wp2_with fail
 refine(unhide CSh).mono ?_
 rintro e w3 ⟨rfl,b3⟩
 have H3:=hide b3
 clear b3 CSh
 obtain⟨q1,q2,-⟩:=unhide HC w3 (unhide H3)
 obtain⟨x0,x1,x2,x3,x4,x5,x6,x7,x8,x9⟩:=row_ten q1
 go_wp2_with fail
 refine((unhide TA) w3 (unhide H3)).mono ?_
 rintro e w31 ⟨xx,rfl,hk,bb⟩
 have hb1:=(unhide H3).trans (bb.mono (unhide H3).size)
 have CP:=hide ((unhide PA) w31 xx w31.heap.size (Nat.le_refl _) hk ((unhide HV) w31 hb1).2.2.2.2 ((unhide HV) w31 hb1).2.2.2.1)
 have H31:=hide hb1
 clear hk bb hb1 q1 q2 H3 x0 x1 x2 x3 x4 x5 x6 x7 x8 x9
 go_wp2_with fail
 refine(unhide CP).mono ?_
 rintro e w4 ⟨rfl,bb⟩
 have H4:=hide ((unhide H31).trans (bb.mono (unhide H31).size))
 clear bb CP H31
 obtain⟨q1,q2,-⟩:=unhide HC w4 (unhide H4)
 obtain⟨y0,y1,y2,y3,y4,y5,y6,y7,y8,y9⟩:=row_ten q2
 go_wp2_with fail
 refine((unhide TB) w4 (unhide H4)).mono ?_
 rintro e w41 ⟨xx',rfl,hk,bb⟩
 have hb1:=(unhide H4).trans (bb.mono (unhide H4).size)
 have CP:=hide ((unhide PB) w41 xx' w41.heap.size (Nat.le_refl _) hk ((unhide HV) w41 hb1).2.2.2.2 ((unhide HV) w41 hb1).2.2.2.1)
 have H41:=hide hb1
 clear hk bb hb1 q1 q2 H4 y0 y1 y2 y3 y4 y5 y6 y7 y8 y9
 go_wp2_with fail
 refine(unhide CP).mono ?_
 rintro e w5 ⟨rfl,bb⟩
 have H5:=hide ((unhide H41).trans (bb.mono (unhide H41).size))
 clear bb CP H41
 have HE1:=hide (err_bool hE1)
 have HE2:=hide (err_bool hE2)
 clear hE1 hE2
 cases R1 with
 |false=>
  cases R2 with
  |false=>
   obtain⟨a1,a2,a3⟩:=(unhide HE1).2 rfl
   obtain⟨b1,b2,b3⟩:=(unhide HE2).2 rfl
   clear HE1 HE2
   obtain⟨q1,q2,-⟩:=unhide HC w5 (unhide H5)
   obtain⟨x0,x1,x2,x3,x4,x5,x6,x7,x8,x9⟩:=row_ten q1
   obtain⟨y0,y1,y2,y3,y4,y5,y6,y7,y8,y9⟩:=row_ten q2
   go_wp2_with fail
   refine((unhide RA) w5 (unhide H5)).mono ?_
   rintro e w51 ⟨rfl,bb⟩
   have H51:=hide ((unhide H5).trans (bb.mono (unhide H5).size))
   clear bb q1 q2 x0 x1 x2 x3 x4 x5 x6 x7 x8 x9 y0 y1 y2 y3 y4 y5 y6 y7 y8 y9
   obtain⟨q1,q2,-⟩:=unhide HC w51 (unhide H51)
   obtain⟨x0,x1,x2,x3,x4,x5,x6,x7,x8,x9⟩:=row_ten q1
   obtain⟨y0,y1,y2,y3,y4,y5,y6,y7,y8,y9⟩:=row_ten q2
   go_wp2_with fail
   refine((unhide RB) w51 (unhide H51)).mono ?_
   rintro e w6 ⟨rfl,bb⟩
   have H6:=hide ((unhide H51).trans (bb.mono (unhide H51).size))
   clear bb q1 q2 x0 x1 x2 x3 x4 x5 x6 x7 x8 x9 y0 y1 y2 y3 y4 y5 y6 y7 y8 y9
   go_wp2_with fail
   go_ret
   exact⟨rfl,(unhide HC w6 (unhide H6)).2.2⟩
  |true=>
   obtain⟨a1,a2,a3⟩:=(unhide HE1).2 rfl
   obtain rfl:E2=0:=(unhide HE2).1 rfl
   clear HE1 HE2
   obtain⟨q1,q2,-⟩:=unhide HC w5 (unhide H5)
   obtain⟨x0,x1,x2,x3,x4,x5,x6,x7,x8,x9⟩:=row_ten q1
   obtain⟨y0,y1,y2,y3,y4,y5,y6,y7,y8,y9⟩:=row_ten q2
   go_wp2_with fail
   refine((unhide RA) w5 (unhide H5)).mono ?_
   rintro e w51 ⟨rfl,bb⟩
   have H51:=hide ((unhide H5).trans (bb.mono (unhide H5).size))
   clear bb q1 q2 x0 x1 x2 x3 x4 x5 x6 x7 x8 x9 y0 y1 y2 y3 y4 y5 y6 y7 y8 y9
   obtain⟨q1,q2,-⟩:=unhide HC w51 (unhide H51)
   obtain⟨x0,x1,x2,x3,x4,x5,x6,x7,x8,x9⟩:=row_ten q1
   obtain⟨y0,y1,y2,y3,y4,y5,y6,y7,y8,y9⟩:=row_ten q2
   go_wp2_with fail
   refine((unhide RB) w51 (unhide H51)).mono ?_
   rintro e w6 ⟨rfl,bb⟩
   have H6:=hide ((unhide H51).trans (bb.mono (unhide H51).size))
   clear bb q1 q2 x0 x1 x2 x3 x4 x5 x6 x7 x8 x9 y0 y1 y2 y3 y4 y5 y6 y7 y8 y9
   go_wp2_with fail
   go_ret
   exact⟨rfl,(unhide HC w6 (unhide H6)).2.2⟩
 |true=>
  cases R2 with
  |false=>
   obtain rfl:E1=0:=(unhide HE1).1 rfl
   obtain⟨b1,b2,b3⟩:=(unhide HE2).2 rfl
   clear HE1 HE2
   obtain⟨q1,q2,-⟩:=unhide HC w5 (unhide H5)
   obtain⟨x0,x1,x2,x3,x4,x5,x6,x7,x8,x9⟩:=row_ten q1
   obtain⟨y0,y1,y2,y3,y4,y5,y6,y7,y8,y9⟩:=row_ten q2
   go_wp2_with fail
   refine((unhide RA) w5 (unhide H5)).mono ?_
   rintro e w51 ⟨rfl,bb⟩
   have H51:=hide ((unhide H5).trans (bb.mono (unhide H5).size))
   clear bb q1 q2 x0 x1 x2 x3 x4 x5 x6 x7 x8 x9 y0 y1 y2 y3 y4 y5 y6 y7 y8 y9
   obtain⟨q1,q2,-⟩:=unhide HC w51 (unhide H51)
   obtain⟨x0,x1,x2,x3,x4,x5,x6,x7,x8,x9⟩:=row_ten q1
   obtain⟨y0,y1,y2,y3,y4,y5,y6,y7,y8,y9⟩:=row_ten q2
   go_wp2_with fail
   refine((unhide RB) w51 (unhide H51)).mono ?_
   rintro e w6 ⟨rfl,bb⟩
   have H6:=hide ((unhide H51).trans (bb.mono (unhide H51).size))
   clear bb q1 q2 x0 x1 x2 x3 x4 x5 x6 x7 x8 x9 y0 y1 y2 y3 y4 y5 y6 y7 y8 y9
   go_wp2_with fail
   go_ret
   exact⟨rfl,(unhide HC w6 (unhide H6)).2.2⟩
  |true=>
   obtain rfl:E1=0:=(unhide HE1).1 rfl
   obtain rfl:E2=0:=(unhide HE2).1 rfl
   clear HE1 HE2
   obtain⟨q1,q2,-⟩:=unhide HC w5 (unhide H5)
   obtain⟨x0,x1,x2,x3,x4,x5,x6,x7,x8,x9⟩:=row_ten q1
   obtain⟨y0,y1,y2,y3,y4,y5,y6,y7,y8,y9⟩:=row_ten q2
   go_wp2_with fail
   refine((unhide RA) w5 (unhide H5)).mono ?_
   rintro e w51 ⟨rfl,bb⟩
   have H51:=hide ((unhide H5).trans (bb.mono (unhide H5).size))
   clear bb q1 q2 x0 x1 x2 x3 x4 x5 x6 x7 x8 x9 y0 y1 y2 y3 y4 y5 y6 y7 y8 y9
   obtain⟨q1,q2,-⟩:=unhide HC w51 (unhide H51)
   obtain⟨x0,x1,x2,x3,x4,x5,x6,x7,x8,x9⟩:=row_ten q1
   obtain⟨y0,y1,y2,y3,y4,y5,y6,y7,y8,y9⟩:=row_ten q2
   go_wp2_with fail
   refine((unhide RB) w51 (unhide H51)).mono ?_
   rintro e w6 ⟨rfl,bb⟩
   have H6:=hide ((unhide H51).trans (bb.mono (unhide H51).size))
   clear bb q1 q2 x0 x1 x2 x3 x4 x5 x6 x7 x8 x9 y0 y1 y2 y3 y4 y5 y6 y7 y8 y9
   have e5:=(unhide HTT) (by simp) (by simp)
   obtain⟨q1,q2,-⟩:=unhide HC w6 (unhide H6)
   obtain⟨x0,x1,x2,x3,x4,x5,x6,x7,x8,x9⟩:=row_ten q1
   obtain⟨y0,y1,y2,y3,y4,y5,y6,y7,y8,y9⟩:=row_ten q2
   go_wp2_with fail
   refine((unhide SA) w6 (unhide H6)).mono ?_
   rintro e w7 ⟨rfl,bb⟩
   have H7:=hide ((unhide H6).trans (bb.mono (unhide H6).size))
   clear bb q1 q2 x0 x1 x2 x3 x4 x5 x6 x7 x8 x9 y0 y1 y2 y3 y4 y5 y6 y7 y8 y9
   go_wp2_with fail
   go_ret
   exact⟨rfl,(unhide HC w7 (unhide H7)).2.2⟩
end Go.Proofs.YtekbmfppfjlboaaGreatDoor
