/-
  Layer 19 (check): the scope in memory: leave; conditions: the names' sizes.
  Layer 19 (check): the ways of a scope: Clone, copied, joined; conditions: the rows' sizes.
  Layer 19 (check): what is set behind both of two ways (joined); conditions: the rows' sizes.
-/
import Derived.Test.YtjdpaihhhjdgmaaGreatDoorA03
set_option linter.unusedVariables false
set_option linter.unusedSimpArgs false
set_option maxRecDepth 100000
set_option maxHeartbeats 8000000
namespace Go.Proofs.YtjdpaihhhjdgmaaGreatDoor
open Go.RowKit
set_option linter.unusedVariables false
set_option linter.unusedSimpArgs false
theorem nodup_take {α:Type} [DecidableEq α]:∀(l:List α) (k:Nat),l.Nodup→(l.take k).Nodup:=fun l k h=>h.sublist (List.take_sublist k l)
theorem ixL_drop:∀(l:List (List UInt8)) (i k:Nat) (z:List UInt8),l.Nodup→k≤l.length→(if z∈l.drop k then none else ixL l i z)=ixL (l.take k) i z
 |[],i,k,z,_,hk=>by
  have:k=0:=by simpa using hk
  subst this
  simp [ixL]
 |x :: r,i,0,z,_,_=>by
  simp only [List.drop_zero,List.take_zero,ixL]
  split
  ·rfl
  ·rename_i hn
   simp only [List.mem_cons,not_or] at hn
   rw [if_neg hn.1]
   exact(ixL_none r (i+1) z).2 hn.2
 |x :: r,i,k+1,z,hd,hk=>by
  have ih:=ixL_drop r (i+1) k z (List.nodup_cons.1 hd).2 (by simpa using hk)
  simp only [List.drop_succ_cons,List.take_succ_cons,ixL]
  by_cases e:z=x
  ·have hn:z∉r.drop k:=fun hm=>(List.nodup_cons.1 hd).1 (by rw [←e];exact List.mem_of_mem_drop hm)
   simp [e,hn]
   intro h
   exact absurd (by rw [e];exact h) hn
  ·simp only [if_neg e]
   exact ih
theorem own_cut {w:World} {base N k:Nat} {e:TypeId} {ao:Option Addr} {cap:Nat} {xs:List Value} (h:w.ownsRow base e 1 (.slice ao N cap) N xs) (hk:k≤N):w.ownsRow base e 1 (.slice ao k cap) k (xs.take k):=by
 have hl:=h.1
 refine⟨by rw [List.length_take];omega,?_⟩
 rcases h.2 with ⟨e1,e0⟩|⟨g,cap',cur,e1,hbg,hg,hnc,hcm,hsz,hpre⟩
 ·cases e1
  have:k=0:=by omega
  subst this
  exact Or.inl ⟨rfl,rfl⟩
 ·cases e1
  refine Or.inr ⟨g,cap,cur,rfl,hbg,hg,by omega,hcm,hsz,?_⟩
  rw [←hpre,List.take_take]
  congr 1
  omega
theorem own_caps {w:World} {base N size:Nat} {e:TypeId} {ao:Option Addr} {cap:Nat} {xs:List Value} (h:w.ownsRow base e size (.slice ao N cap) N xs):N≤cap∧cap≤maxLen:=by
 rcases h.2 with ⟨e1,e0⟩|⟨g,cap',cur,e1,_,_,hnc,hcm,_⟩
 ·simp only [Value.slice.injEq] at e1
  obtain⟨_,e2,rfl⟩:=e1
  exact⟨by omega,by unfold maxLen;omega⟩
 ·cases e1
  exact⟨hnc,hcm⟩
theorem own_same {ao:Option Addr} {N k cap z:Nat} (h:(Value.slice ao k cap).ownBlock=some z):(Value.slice ao N cap).ownBlock=some z:=by
 cases ao with
 |none=>cases h
 |some A=>simpa [Value.ownBlock] using h
theorem bes_turned {w w':World} {b:Nat} (h:w.mapTurned w' b):Besk (fun z=>z=b) w w':=by
 obtain⟨es,ck,es',ck',h1,rfl⟩:=h
 exact⟨rfl,rfl,rfl,by simp [ChangeMaps.setBlock],fun k hk hn=>ChangeMaps.heap_setBlock_other h1 _ hn⟩
structure Lv (w wr:World) (q b n:Nat) (s:Sco) (k i:Nat):Prop where
 bes:Besk (fun z=>z=b) w wr
 map:Nms wr b n (fun z=>if z∈(s.vars.drop k).take i then none else ixL s.vars 0 z)
theorem leave_any {w:World} {lo q b n k:Nat} {nv sv:Value} {s:Sco} (h:ScM w lo q b n nv sv s) (hk:k≤s.vars.length) (hnd:s.vars.Nodup) (hsz:∀l∈s.vars,l.length≤maxLen):Calls Tryz.prog 47 #[.pointer (some ⟨q,0,none⟩),.int .i64 (k:Int)] w fun e w'=>e=.returned (.tuple #[])∧∃nv' sv',ScM w' lo q b n nv' sv' (leaveS s k)∧Mvd w w' q b nv sv nv' sv':=by
 obtain⟨c0,c1,c2,c3,c4⟩:=five_at h.hq
 obtain⟨ao,cap,hao⟩:=own_slice h.hnv
 subst hao
 have hcap:s.vars.length≤cap∧cap≤maxLen∧(ao=none→s.vars.length=0∧cap=0)∧∀A,ao=some A→∃g,A=⟨g,0,none⟩:=by
  rcases h.hnv.2 with ⟨e1,e0⟩|⟨g,cap',cur,e1,_,_,hnc,hcm,_⟩
  ·simp only [Value.slice.injEq] at e1
   obtain⟨rfl,e2,rfl⟩:=e1
   exact⟨by omega,by unfold maxLen;omega,fun _=>⟨e0,rfl⟩,fun A hA=>by cases hA⟩
  ·cases e1
   exact⟨hnc,hcm,(fun e=>by cases e),fun A hA=>⟨g,by cases hA;rfl⟩⟩
 have hN:(s.vars.length:Int)≤1099511627776:=by have:=h.few.1;have:=h.few.2;omega
 have hkk:(k:Int)≤(s.vars.length:Int):=by omega
 have H0:=hZ h
 have h0:=h
 clear h
 by_cases hkn:k=s.vars.length
 ·subst hkn
  by_cases hce:cap=s.vars.length
  ·subst hce
   go_enter Tryz.func47,Tryz.ntmps47
   go_wp2_with fail
   go_loopw [13] (fun d wr=>d=.int .i64 0∧wr=w) (fun _ _=>0)
   case atStart=>exact⟨by simp,rfl⟩
   case round=>
    obtain⟨rfl,rfl⟩:=hrel
    have qr:=h0.hq
    have vr:=h0.hnv
    have sr:=h0.hsv
    have mr:=h0.hm.ext (g:=ixL (s.vars.take s.vars.length) 0) (fun z=>by rw [List.take_length])
    have BR:=Besk.refl (ScP q b (.slice ao s.vars.length s.vars.length) sv) wr
    go_upto_region 5 with fail
    clear c0 c1 c2 c3 c4
    obtain⟨so,scap,rfl⟩:=own_slice sr
    have hsl:s.set.length=s.vars.length:=h0.len
    have hscap:=own_caps sr
    have hks:(s.vars.length:Int)≤(s.set.length:Int):=by omega
    have hkc:(s.vars.length:Int)≤(s.vars.length:Int):=by have:=hcap.1;omega
    have hkc2:(s.vars.length:Int)≤(scap:Int):=by have:=hscap.1;omega
    have hk0:¬(s.vars.length:Int)<0:=by omega
    obtain⟨c0,c1,c2,c3,c4⟩:=five_at qr
    have y1:=frozen_of_row wr q 1 _ _ qr
    have y2:=frozen_of_row wr q 2 _ _ qr
    have q2:(wr.setCell ⟨q,1,none⟩ (.slice ao s.vars.length s.vars.length)).heap[q]?=some (.cells #[.map (some b),.slice ao s.vars.length s.vars.length,.slice so s.set.length scap,.bool s.all,.int .i64 s.loops] 61 (0,0)):=heap_setCell_same wr q 1 _ _ _ qr
    have m2:=mr.later (heap_setCell_other wr ⟨q,1,none⟩ b (.slice ao s.vars.length s.vars.length) (map_ne mr qr))
    have v2:=vr.kept (grown_set wr ⟨q,1,none⟩ (.slice ao s.vars.length s.vars.length)) (own_neK vr qr (by rfl))
    have s2:=sr.kept (grown_set wr ⟨q,1,none⟩ (.slice ao s.vars.length s.vars.length)) (own_neK sr qr (by rfl))
    have B2:=BR.set (p:=⟨q,1,none⟩) (Or.inl (Or.inl rfl)) (.slice ao s.vars.length s.vars.length)
    have q4:((wr.setCell ⟨q,1,none⟩ (.slice ao s.vars.length s.vars.length)).setCell ⟨q,2,none⟩ (.slice so s.vars.length scap)).heap[q]?=some (.cells #[.map (some b),.slice ao s.vars.length s.vars.length,.slice so s.vars.length scap,.bool s.all,.int .i64 s.loops] 61 (0,0)):=heap_setCell_same _ q 2 _ _ _ q2
    have m4:=m2.later (heap_setCell_other _ ⟨q,2,none⟩ b (.slice so s.vars.length scap) (map_ne m2 q2))
    have v4:=own_cut (v2.kept (grown_set _ ⟨q,2,none⟩ (.slice so s.vars.length scap)) (own_neK v2 q2 (by rfl))) hk
    have s4:=own_cut (s2.kept (grown_set _ ⟨q,2,none⟩ (.slice so s.vars.length scap)) (own_neK s2 q2 (by rfl))) (by omega:s.vars.length≤s.set.length)
    have B4:=B2.set (p:=⟨q,2,none⟩) (Or.inl (Or.inl rfl)) (.slice so s.vars.length scap)
    have e1:(s.vars.take s.vars.length).length=s.vars.length:=by rw [List.length_take];omega
    have e2:(s.set.take s.vars.length).length=s.vars.length:=by rw [List.length_take];omega
    rw [←List.map_take] at v4 s4
    have SM:ScM ((wr.setCell ⟨q,1,none⟩ (.slice ao s.vars.length s.vars.length)).setCell ⟨q,2,none⟩ (.slice so s.vars.length scap)) lo q b n (.slice ao s.vars.length s.vars.length) (.slice so s.vars.length scap) (leaveS s s.vars.length):=⟨q4,m4,by unfold leaveS;simp only [e1];exact v4,by unfold leaveS;simp only [e2];exact s4,by unfold leaveS;simp only [e1,e2],⟨by have:=h0.few.1;unfold leaveS;simp only [e1];omega,h0.few.2⟩,⟨h0.hlo.1,h0.hlo.2.1,by have h2:=B4.size;have h3:=h0.hlo.2.2;omega⟩⟩
    have HE:Hid (ScM ((wr.setCell ⟨q,1,none⟩ (.slice ao s.vars.length s.vars.length)).setCell ⟨q,2,none⟩ (.slice so s.vars.length scap)) lo q b n (.slice ao s.vars.length s.vars.length) (.slice so s.vars.length scap) (leaveS s s.vars.length)∧Mvd wr ((wr.setCell ⟨q,1,none⟩ (.slice ao s.vars.length s.vars.length)).setCell ⟨q,2,none⟩ (.slice so s.vars.length scap)) q b (.slice ao s.vars.length s.vars.length) (.slice so s.set.length scap) (.slice ao s.vars.length s.vars.length) (.slice so s.vars.length scap)):=hZ ⟨SM,B4,fun z e=>Or.inl (own_same e),fun z e=>Or.inl (own_same e)⟩
    clear hsl hscap
    clear SM q4 m4 v4 s4 B4 q2 m2 v2 s2 B2 mr vr sr BR e1 e2 qr
    go_wp2_with fail
    go_end0
    exact⟨rfl,_,_,(uZ HE).1,(uZ HE).2⟩
  ·have hce2:¬(cap:Int)=(s.vars.length:Int):=by omega
   go_enter Tryz.func47,Tryz.ntmps47
   go_wp2_with fail
   go_loopw [13] (fun d wr=>d=.int .i64 0∧wr=w) (fun _ _=>0)
   case atStart=>exact⟨by simp,rfl⟩
   case round=>
    obtain⟨rfl,rfl⟩:=hrel
    have qr:=h0.hq
    have vr:=h0.hnv
    have sr:=h0.hsv
    have mr:=h0.hm.ext (g:=ixL (s.vars.take s.vars.length) 0) (fun z=>by rw [List.take_length])
    have BR:=Besk.refl (ScP q b (.slice ao s.vars.length cap) sv) wr
    go_upto_region 5 with fail
    clear c0 c1 c2 c3 c4
    obtain⟨so,scap,rfl⟩:=own_slice sr
    have hsl:s.set.length=s.vars.length:=h0.len
    have hscap:=own_caps sr
    have hks:(s.vars.length:Int)≤(s.set.length:Int):=by omega
    have hkc:(s.vars.length:Int)≤(cap:Int):=by have:=hcap.1;omega
    have hkc2:(s.vars.length:Int)≤(scap:Int):=by have:=hscap.1;omega
    have hk0:¬(s.vars.length:Int)<0:=by omega
    obtain⟨c0,c1,c2,c3,c4⟩:=five_at qr
    have y1:=frozen_of_row wr q 1 _ _ qr
    have y2:=frozen_of_row wr q 2 _ _ qr
    have q2:(wr.setCell ⟨q,1,none⟩ (.slice ao s.vars.length cap)).heap[q]?=some (.cells #[.map (some b),.slice ao s.vars.length cap,.slice so s.set.length scap,.bool s.all,.int .i64 s.loops] 61 (0,0)):=heap_setCell_same wr q 1 _ _ _ qr
    have m2:=mr.later (heap_setCell_other wr ⟨q,1,none⟩ b (.slice ao s.vars.length cap) (map_ne mr qr))
    have v2:=vr.kept (grown_set wr ⟨q,1,none⟩ (.slice ao s.vars.length cap)) (own_neK vr qr (by rfl))
    have s2:=sr.kept (grown_set wr ⟨q,1,none⟩ (.slice ao s.vars.length cap)) (own_neK sr qr (by rfl))
    have B2:=BR.set (p:=⟨q,1,none⟩) (Or.inl (Or.inl rfl)) (.slice ao s.vars.length cap)
    have q4:((wr.setCell ⟨q,1,none⟩ (.slice ao s.vars.length cap)).setCell ⟨q,2,none⟩ (.slice so s.vars.length scap)).heap[q]?=some (.cells #[.map (some b),.slice ao s.vars.length cap,.slice so s.vars.length scap,.bool s.all,.int .i64 s.loops] 61 (0,0)):=heap_setCell_same _ q 2 _ _ _ q2
    have m4:=m2.later (heap_setCell_other _ ⟨q,2,none⟩ b (.slice so s.vars.length scap) (map_ne m2 q2))
    have v4:=own_cut (v2.kept (grown_set _ ⟨q,2,none⟩ (.slice so s.vars.length scap)) (own_neK v2 q2 (by rfl))) hk
    have s4:=own_cut (s2.kept (grown_set _ ⟨q,2,none⟩ (.slice so s.vars.length scap)) (own_neK s2 q2 (by rfl))) (by omega:s.vars.length≤s.set.length)
    have B4:=B2.set (p:=⟨q,2,none⟩) (Or.inl (Or.inl rfl)) (.slice so s.vars.length scap)
    have e1:(s.vars.take s.vars.length).length=s.vars.length:=by rw [List.length_take];omega
    have e2:(s.set.take s.vars.length).length=s.vars.length:=by rw [List.length_take];omega
    rw [←List.map_take] at v4 s4
    have SM:ScM ((wr.setCell ⟨q,1,none⟩ (.slice ao s.vars.length cap)).setCell ⟨q,2,none⟩ (.slice so s.vars.length scap)) lo q b n (.slice ao s.vars.length cap) (.slice so s.vars.length scap) (leaveS s s.vars.length):=⟨q4,m4,by unfold leaveS;simp only [e1];exact v4,by unfold leaveS;simp only [e2];exact s4,by unfold leaveS;simp only [e1,e2],⟨by have:=h0.few.1;unfold leaveS;simp only [e1];omega,h0.few.2⟩,⟨h0.hlo.1,h0.hlo.2.1,by have h2:=B4.size;have h3:=h0.hlo.2.2;omega⟩⟩
    have HE:Hid (ScM ((wr.setCell ⟨q,1,none⟩ (.slice ao s.vars.length cap)).setCell ⟨q,2,none⟩ (.slice so s.vars.length scap)) lo q b n (.slice ao s.vars.length cap) (.slice so s.vars.length scap) (leaveS s s.vars.length)∧Mvd wr ((wr.setCell ⟨q,1,none⟩ (.slice ao s.vars.length cap)).setCell ⟨q,2,none⟩ (.slice so s.vars.length scap)) q b (.slice ao s.vars.length cap) (.slice so s.set.length scap) (.slice ao s.vars.length cap) (.slice so s.vars.length scap)):=hZ ⟨SM,B4,fun z e=>Or.inl (own_same e),fun z e=>Or.inl (own_same e)⟩
    clear hsl hscap
    clear SM q4 m4 v4 s4 B4 q2 m2 v2 s2 B2 mr vr sr BR e1 e2 qr
    go_wp2_with fail
    go_end0
    exact⟨rfl,_,_,(uZ HE).1,(uZ HE).2⟩
 ·obtain⟨A,rfl⟩:∃A,ao=some A:=by
   cases ao with
   |none=>have:=(hcap.2.2.1 rfl).1;omega
   |some A=>exact⟨A,rfl⟩
  obtain⟨g,rfl⟩:=hcap.2.2.2 A rfl
  have hck:¬cap=k:=by have:=hcap.1;omega
  have hck2:¬(cap:Int)=(k:Int):=by omega
  have hcap1:=hcap.1
  go_enter Tryz.func47,Tryz.ntmps47
  go_wp2_with fail
  go_loopw [13] (fun d wr=>∃i:Nat,d=.int .i64 (i:Int)∧i≤s.vars.length - k∧Hid (Lv w wr q b n s k i)) (fun d _=>(((s.vars.length - k:Nat):Int) - intOf d).toNat)
  case atStart=>exact⟨0,rfl,Nat.zero_le _,hZ ⟨Besk.refl _ _,(uZ H0).hm.ext (fun z=>by simp)⟩⟩
  case round=>
   obtain⟨i,rfl,hi,HL⟩:=hrel
   have qr:=((uZ HL).bes.block q (ltR (uZ H0).hq) (fun e=>map_ne (uZ H0).hm (uZ H0).hq e.symm)).trans (uZ H0).hq
   obtain⟨d0,d1,d2,d3,d4⟩:=five_at qr
   by_cases hii:i<s.vars.length - k
   ·obtain⟨nm,hnm⟩:∃nm,s.vars[k+i]?=some nm:=⟨_,List.getElem?_eq_getElem (by omega)⟩
    have vr:=own_bes (uZ HL).bes (uZ H0).hnv (fun z hz e=>by rcases own_nb (uZ H0).hnv (uZ H0).hm with h1|h1;rw [h1] at hz;cases hz;exact h1 (by rw [hz,e]))
    obtain⟨g2,cap2,hg2,hcell,_,_⟩:=own_get vr (j:=k+i) (u:=.string (bA nm)) (by rw [List.getElem?_map,hnm];rfl)
    cases hg2
    have hsn:(bA nm).size≤maxLen:=by have:=hsz nm (List.mem_of_getElem? hnm);simpa [bA,ByteArray.size] using this
    obtain⟨w2,hdel,m2,t2⟩:=(uZ HL).map.del hsn 40 Tryz.underlying40 0
    have hi1:(i:Int)<((s.vars.length - k:Nat):Int):=by omega
    have b2:Besk (fun z=>z=b) wr w2:=bes_turned t2
    have HL2:Hid (Lv w w2 q b n s k (i+1)):=hZ ⟨(uZ HL).bes.trans b2,m2.ext (fun z=>by
     have e3:(s.vars.drop k).take (i+1)=(s.vars.drop k).take i++[nm]:=by
      rw [List.take_add_one,List.getElem?_drop,hnm]
      rfl
     have e4:(bA nm).data.toList=nm:=by simp [bA]
     rw [e3,e4]
     by_cases e5:z=nm
     ·simp [e5]
     ·simp [e5])⟩
    go_wp2_with fail
    go_roundw
    case rel=>exact⟨i+1,by go_num,by omega,HL2⟩
    case measure=>simp [intOf];omega
   ·have hi1:¬(i:Int)<((s.vars.length - k:Nat):Int):=by omega
    have hie:i=s.vars.length - k:=by omega
    have vr:=own_bes (uZ HL).bes (uZ H0).hnv (fun z hz e=>by rcases own_nb (uZ H0).hnv (uZ H0).hm with h1|h1;rw [h1] at hz;cases hz;exact h1 (by rw [hz,e]))
    have sr:=own_bes (uZ HL).bes (uZ H0).hsv (fun z hz e=>by rcases own_nb (uZ H0).hsv (uZ H0).hm with h1|h1;rw [h1] at hz;cases hz;exact h1 (by rw [hz,e]))
    have mr:=(uZ HL).map.ext (g:=ixL (s.vars.take k) 0) (fun z=>by rw [hie,List.take_of_length_le (Nat.le_of_eq (by rw [List.length_drop]))];exact ixL_drop s.vars 0 k z hnd hk)
    have BR:Besk (ScP q b (.slice (some ⟨g,0,none⟩) s.vars.length cap) sv) w wr:=bes_on (Besk.refl _ _) (uZ HL).bes (fun z e=>Or.inr (Or.inl e))
    go_upto_region 5 with fail
    clear d0 d1 d2 d3 d4 c0 c1 c2 c3 c4 HL hi1 hii
    obtain⟨so,scap,rfl⟩:=own_slice sr
    have hsl:s.set.length=s.vars.length:=h0.len
    have hscap:=own_caps sr
    have hks:(k:Int)≤(s.set.length:Int):=by omega
    have hkc:(k:Int)≤(cap:Int):=by have:=hcap.1;omega
    have hkc2:(k:Int)≤(scap:Int):=by have:=hscap.1;omega
    have hk0:¬(k:Int)<0:=by omega
    obtain⟨c0,c1,c2,c3,c4⟩:=five_at qr
    have y1:=frozen_of_row wr q 1 _ _ qr
    have y2:=frozen_of_row wr q 2 _ _ qr
    have q2:(wr.setCell ⟨q,1,none⟩ (.slice (some ⟨g,0,none⟩) k cap)).heap[q]?=some (.cells #[.map (some b),.slice (some ⟨g,0,none⟩) k cap,.slice so s.set.length scap,.bool s.all,.int .i64 s.loops] 61 (0,0)):=heap_setCell_same wr q 1 _ _ _ qr
    have m2:=mr.later (heap_setCell_other wr ⟨q,1,none⟩ b (.slice (some ⟨g,0,none⟩) k cap) (map_ne mr qr))
    have v2:=vr.kept (grown_set wr ⟨q,1,none⟩ (.slice (some ⟨g,0,none⟩) k cap)) (own_neK vr qr (by rfl))
    have s2:=sr.kept (grown_set wr ⟨q,1,none⟩ (.slice (some ⟨g,0,none⟩) k cap)) (own_neK sr qr (by rfl))
    have B2:=BR.set (p:=⟨q,1,none⟩) (Or.inl (Or.inl rfl)) (.slice (some ⟨g,0,none⟩) k cap)
    have q4:((wr.setCell ⟨q,1,none⟩ (.slice (some ⟨g,0,none⟩) k cap)).setCell ⟨q,2,none⟩ (.slice so k scap)).heap[q]?=some (.cells #[.map (some b),.slice (some ⟨g,0,none⟩) k cap,.slice so k scap,.bool s.all,.int .i64 s.loops] 61 (0,0)):=heap_setCell_same _ q 2 _ _ _ q2
    have m4:=m2.later (heap_setCell_other _ ⟨q,2,none⟩ b (.slice so k scap) (map_ne m2 q2))
    have v4:=own_cut (v2.kept (grown_set _ ⟨q,2,none⟩ (.slice so k scap)) (own_neK v2 q2 (by rfl))) hk
    have s4:=own_cut (s2.kept (grown_set _ ⟨q,2,none⟩ (.slice so k scap)) (own_neK s2 q2 (by rfl))) (by omega:k≤s.set.length)
    have B4:=B2.set (p:=⟨q,2,none⟩) (Or.inl (Or.inl rfl)) (.slice so k scap)
    have e1:(s.vars.take k).length=k:=by rw [List.length_take];omega
    have e2:(s.set.take k).length=k:=by rw [List.length_take];omega
    rw [←List.map_take] at v4 s4
    have SM:ScM ((wr.setCell ⟨q,1,none⟩ (.slice (some ⟨g,0,none⟩) k cap)).setCell ⟨q,2,none⟩ (.slice so k scap)) lo q b n (.slice (some ⟨g,0,none⟩) k cap) (.slice so k scap) (leaveS s k):=⟨q4,m4,by unfold leaveS;simp only [e1];exact v4,by unfold leaveS;simp only [e2];exact s4,by unfold leaveS;simp only [e1,e2],⟨by have:=h0.few.1;unfold leaveS;simp only [e1];omega,h0.few.2⟩,⟨h0.hlo.1,h0.hlo.2.1,by have h2:=B4.size;have h3:=h0.hlo.2.2;omega⟩⟩
    have HE:Hid (ScM ((wr.setCell ⟨q,1,none⟩ (.slice (some ⟨g,0,none⟩) k cap)).setCell ⟨q,2,none⟩ (.slice so k scap)) lo q b n (.slice (some ⟨g,0,none⟩) k cap) (.slice so k scap) (leaveS s k)∧Mvd w ((wr.setCell ⟨q,1,none⟩ (.slice (some ⟨g,0,none⟩) k cap)).setCell ⟨q,2,none⟩ (.slice so k scap)) q b (.slice (some ⟨g,0,none⟩) s.vars.length cap) (.slice so s.set.length scap) (.slice (some ⟨g,0,none⟩) k cap) (.slice so k scap)):=hZ ⟨SM,B4,fun z e=>Or.inl (own_same e),fun z e=>Or.inl (own_same e)⟩
    clear hsl hscap
    clear SM q4 m4 v4 s4 B4 q2 m2 v2 s2 B2 mr vr sr BR e1 e2 qr
    go_wp2_with fail
    go_end0
    exact⟨rfl,_,_,(uZ HE).1,(uZ HE).2⟩
theorem size_way:(Tryz.prog.info? 59).map (·.size)=some 2:=by kernel_rfl
theorem own_base {w:World} {b1 b2 size n:Nat} {e:TypeId} {v:Value} {xs:List Value} (h:w.ownsRow b1 e size v n xs) (hb:b2≤b1):w.ownsRow b2 e size v n xs:=by
 refine⟨h.1,?_⟩
 rcases h.2 with ⟨e1,e0⟩|⟨g,cap,cur,e1,hbg,rest⟩
 ·exact Or.inl ⟨e1,e0⟩
 ·exact Or.inr ⟨g,cap,cur,e1,Nat.le_trans hb hbg,rest⟩
theorem own_cells {w:World} {base n g cap:Nat} {e:TypeId} {xs:List Value} (h:w.ownsRow base e 1 (.slice (some ⟨g,0,none⟩) n cap) n xs):∀j u,xs[j]?=some u→w.cell? ((⟨g,0,none⟩:Addr).add j)=some u:=fun j u hj=>by
 obtain⟨g',cap',e1,hc,_⟩:=own_get h hj
 cases e1
 rw [Addr.add_lit]
 simpa using hc
theorem wpl_manyC {w:World} {ops:Array Oper} {rest:List Oper} {o:Oper} {a:Act} {Q:Exit→Act→World→Prop} (hgd:o.guard=none) (sl x:Operand) (T e:TypeId) (i0:TypeInfo) (z:Value) (size bytes:Nat)
  (hu:Tryz.prog.underlying T=some (.slice e)) (hi:Tryz.prog.info? e=some i0) (hz:i0.zero=some z) (hs1:i0.size=size) (hby:i0.bytes=bytes) (hzs:z.cells.size=size) (hsz:0<size)
  (ho:o.op=.call { callee:=.builtin .append,args:=#[sl,x],argTypes:=#[T,T] })
  (base n:Nat) (v:Value) (xs:List Value) (hs:a.eval sl=v) (hown:w.ownsRow base e size v n xs) (ad:Addr) (c cc:Nat) (A:List Value) (hA:A.length=c * size) (h1:∀u∈A,u.oneCell'=true) (hnews:∀j u,A[j]?=some u→w.cell? (ad.add j)=some u)
  (hx:a.eval x=.slice (some ad) c cc) (hn:n+c≤maxLen) (hbytes:(n+c) * bytes≤140737488355328) (hbase:base≤w.heap.size)
  (h:∀v' w',Hid (w'.ownsRow base e size v' (n+c) (xs++A)∧w.grownBy w' v.ownBlock)→wpList Tryz.prog ops Q rest (a.put o.dst v') w') :
  wpList Tryz.prog ops Q (o :: rest) a w:=by
 refine wpList_plain hgd fun K hK=>?_
 obtain⟨v',w',hrun,r1,r2,_,_⟩:=run_append_own_at (P:=Tryz.prog) w base T o.type e i0 z size bytes hu hi hz hs1 hby hzs hsz v n xs hown ad c cc A hA hnews h1 hn hbytes hbase
 unfold Oper.wp
 simp only [execOp,ho,resolve,invoke,builtin,Sem.run_bind,Sem.run_pure,Result.andThen_ok,List.map_toArray,List.map_cons,List.map_nil,hs,hx,hrun]
 exact hK _ _ (h v' w' (hZ ⟨r1,r2⟩))
theorem made0C (w:World) (e:TypeId) (size:Nat):(w.alloc (.cells #[] e)).ownsRow w.heap.size e size (.slice (some ⟨w.heap.size,0,none⟩) 0 0) 0 []:=
 World.ownsRow_made (base:=w.heap.size) w #[] 0 (Nat.le_refl _) (Nat.zero_le _) (by simp)
theorem eq_nil1 (w:World):(binOp .eql 57 (.slice none 0 0) (.slice none 0 0)).run Tryz.prog w=.ok (.bool true) w:=by kernel_rfl
theorem clone_any {w:World} {lo N:Nat} {so:Option Addr} {scap:Nat} {l:List Bool} (hN:N≤1099511627776) (h:w.ownsRow lo 4 1 (.slice so N scap) N (l.map Value.bool)):Calls Tryz.prog 126 #[.slice so N scap] w fun e w'=>∃v,e=.returned v∧w'.ownsRow w.heap.size 4 1 v N (l.map Value.bool)∧Below w.heap.size w w':=by
 rcases own_form h with ⟨e1,e0⟩|⟨g,cap,cur,e1,hlg,hcap,hg⟩
 ·simp only [Value.slice.injEq] at e1
  obtain⟨rfl,e2,rfl⟩:=e1
  subst e0
  have hl:l=[]:=by have:=h.1;simpa using this
  subst hl
  go_enter Tryz.func126,Tryz.ntmps126
  have hq:=eq_nil1
  go_wp2_with fail
  go_ret
  exact⟨_,rfl,World.ownsRow_nil _ _ _ _,Below.refl _ _⟩
 ·simp only [Value.slice.injEq] at e1
  obtain⟨rfl,-,rfl⟩:=e1
  obtain⟨i0,hi,hz0,hz1,hz2⟩:=info_parts infoB1
  have HI:=hZ (And.intro hi (And.intro hz0 (And.intro hz1 hz2)))
  have B1:Below w.heap.size w (w.alloc (.cells #[] 4)):=(Below.refl _ _).alloc (Nat.le_refl _) _
  have HB1:=hZ B1
  have HM:=hZ (made0C w 4 1)
  have HC:=hZ (own_cells (own_bes (Besk.of_below (P:=fun _=>False) B1) h (fun _ _ e=>e)))
  have HX:=hZ (And.intro h.1 (show ∀u∈l.map Value.bool,u.oneCell'=true from fun u hu=>by
   obtain⟨x,_,rfl⟩:=List.mem_map.1 hu
   rfl))
  have he:∀w:World,(binOp .eql 57 (.slice (some ⟨g,0,none⟩) N scap) (.slice none 0 0)).run Tryz.prog w=.ok (.bool false) w:=fun _=>rfl
  have HN:=hZ (And.intro (show 0+N≤maxLen by unfold maxLen;omega) (show (0+N) * 1≤140737488355328 by omega))
  clear hi hz0 hz1 hz2 B1 h hg hN hcap hlg
  go_enter Tryz.func126,Tryz.ntmps126
  go_wp2_with (first|(at_builtin;refine wpl_manyC rfl (.tmp 5) (.tmp 6) 57 4 i0 (.bool false) 1 1 Tryz.underlying57 (uZ HI).1 (uZ HI).2.1 (uZ HI).2.2.1 (uZ HI).2.2.2 rfl (by decide) rfl w.heap.size 0 _ [] rfl (uZ HM) ⟨g,0,none⟩ N scap (l.map Value.bool) (uZ HX).1 (uZ HX).2 (uZ HC) rfl (uZ HN).1 (uZ HN).2 (uZ HB1).size ?_;intro v2 w2 H2))
  go_ret
  obtain⟨ho,hg⟩:=uZ H2
  refine⟨_,rfl,by simpa using ho,(uZ HB1).grown hg (by simp) (fun k hk=>?_)⟩
  cases hk
  exact Nat.le_refl _
theorem boxes2 (w:World) (c1 c2:Array Value) (T1 T2:TypeId):∃w2,(w.alloc (.cells c1 T1)).alloc (.cells c2 T2)=w2∧w2.heap[w.heap.size]?=some (.cells c1 T1 (0,0))∧w2.heap[w.heap.size+1]?=some (.cells c2 T2 (0,0))∧Below w.heap.size w w2:=by
 refine⟨_,rfl,?_,?_,((Below.refl w.heap.size w).alloc (Nat.le_refl _) _).alloc (by simp) _⟩
 ·rw [heap_alloc_old _ _ (by simp)]
  exact heap_alloc_new _ _
 ·have h:=heap_alloc_new (w.alloc (.cells c1 T1)) (.cells c2 T2)
  simpa using h
theorem copied_any {w:World} {lo N:Nat} {so:Option Addr} {scap:Nat} {l:List Bool} {x:Bool} (hN:N≤1099511627776) (h:w.ownsRow lo 4 1 (.slice so N scap) N (l.map Value.bool)):Calls Tryz.prog 90 #[.agg #[.slice so N scap,.bool x]] w fun e w'=>∃v,e=.returned (.agg #[v,.bool x])∧w'.ownsRow w.heap.size 4 1 v N (l.map Value.bool)∧Below w.heap.size w w':=by
 obtain⟨w2,hw2,n2,r2,b2⟩:=boxes2 w #[.slice so N scap,.bool x] #[.slice none 0 0,.bool false] 59 59
 have HO:=hZ h
 obtain⟨G,hG⟩:=eX (w.heap.size)
 have hGle:w.heap.size≤G:=Nat.le_of_eq hG
 rw [hG] at n2 r2
 have B2:=hZ b2
 have HF:Hid (∀u,Below w2.heap.size w2 u→u.cell? ⟨G,0,none⟩=some (.slice so N scap)∧u.cell? ⟨G,1,none⟩=some (.bool x)):=hZ fun u hu=>two_at ((hu.block G (ltR n2)).trans n2)
 go_enter Tryz.func90,Tryz.ntmps90
 go_upto_region 1 with fail
 try rw [hw2]
 try rw [hG]
 clear hw2 h b2 hG
 have HS0:Hid (Below w2.heap.size w2 w2.drew):=hZ ((Below.refl _ _).drew)
 refine till_begin (S:=fun w'=>Below w2.heap.size w2 w') 6 (by kernel_rfl) ?_
 obtain⟨W0,hW0⟩:=eX (w2.drew)
 try rw [hW0]
 rw [hW0] at HS0
 clear hW0
 refine tK 0 (v:=.pointer (some ⟨G,0,none⟩)) (some 3) rfl rfl rfl (by kernel_rfl) (fun _ _ _ h=>h) (Or.inl ⟨by rfl,fun u hu=>by obtain⟨d0,d1⟩:=uZ HF u hu;go_simp⟩) (uZ HS0) ?_
 try simp only [Act.put,sA,sB,sC]
 refine tK 1 (v:=.slice so N scap) (some 4) rfl rfl rfl (by kernel_rfl) (fun _ _ _ h=>h) (Or.inl ⟨by rfl,fun u hu=>by obtain⟨d0,d1⟩:=uZ HF u hu;go_simp⟩) (uZ HS0) ?_
 try simp only [Act.put,sA,sB,sC]
 refine tK 3 (v:=.pointer (some ⟨G,1,none⟩)) (some 6) rfl rfl rfl (by kernel_rfl) (fun _ _ _ h=>h) (Or.inl ⟨by rfl,fun u hu=>by obtain⟨d0,d1⟩:=uZ HF u hu;go_simp⟩) (uZ HS0) ?_
 try simp only [Act.put,sA,sB,sC]
 refine tK 4 (v:=.bool x) (some 7) rfl rfl rfl (by kernel_rfl) (fun _ _ _ h=>h) (Or.inl ⟨by rfl,fun u hu=>by obtain⟨d0,d1⟩:=uZ HF u hu;go_simp⟩) (uZ HS0) ?_
 try simp only [Act.put,sA,sB,sC]
 have CC:=hZ (clone_any hN (own_bes (Besk.of_below (P:=fun _=>False) ((uZ B2).trans ((uZ HS0).mono (uZ B2).size))) (uZ HO) (fun _ _ e=>e)))
 refine till_one 2 (by kernel_rfl) rfl (fun K hK=>?_)
 go_simp
 refine(uZ CC).mono ?_
 rintro e W1 ⟨v1,rfl,o1,bb⟩
 obtain⟨so1,sc1,rfl⟩:=own_slice o1
 have HS1:Hid (Below w2.heap.size w2 W1):=hZ ((uZ HS0).trans (bb.mono (uZ HS0).size))
 have O1:=hZ (own_base o1 (Nat.le_trans (uZ B2).size (uZ HS0).size))
 clear CC bb o1
 go_wp2_with fail
 refine hK.out _ _ (Or.inr (uZ HS1)) ?_
 clear hK K HS0
 try simp only [Act.put,sA,sB,sC]
 refine till_one 5 (by kernel_rfl) rfl (fun K hK=>?_)
 go_simp
 refine hK.out _ _ (Or.inr (uZ HS1)) ?_
 clear hK K
 try simp only [Act.put,sA,sB,sC]
 have r3:=((uZ HS1).block (G+1) (ltR r2)).trans r2
 obtain⟨k0,k1⟩:=two_at r3
 have y0:=frozen_of_row W1 (G+1) 0 _ _ r3
 have y1:=frozen_of_row W1 (G+1) 1 _ _ r3
 refine till_one 6 (by kernel_rfl) rfl (fun K hK=>?_)
 go_simp
 have r4:=put2 r3 (.slice so1 N sc1) (.bool x)
 have o2:=(uZ O1).kept (grown_set W1 ⟨G+1,0,none⟩ (.slice so1 N sc1)) (own_neK (uZ O1) r3 (by rfl))
 have r3b:=heap_setCell_same W1 (G+1) 0 _ 59 (.slice so1 N sc1) r3
 have o3:=o2.kept (grown_set _ ⟨G+1,1,none⟩ (.bool x)) (own_neK o2 r3b (by rfl))
 have HE:=hZ (And.intro r4 (And.intro o3 ((((uZ B2).trans ((uZ HS1).mono (uZ B2).size)).setCell (p:=⟨G+1,0,none⟩) (by show w.heap.size≤G+1;omega) (.slice so1 N sc1)).setCell (p:=⟨G+1,1,none⟩) (by show w.heap.size≤G+1;omega) (.bool x))))
 obtain⟨w9,hw9⟩:=eX ((W1.setCell ⟨G+1,0,none⟩ (.slice so1 N sc1)).setCell ⟨G+1,1,none⟩ (.bool x))
 rw [hw9] at HE ⊢
 clear hw9 k0 k1 y0 y1 r3 r4 o2 o3 r3b
 refine hK.out _ _ (Or.inl (by first|rfl|trivial)) ?_
 clear hK K
 try simp only [Act.put,sA,sB,sC]
 refine till_done (by kernel_rfl) ?_ _
 go_wp2_with fail
 exact bodyPost_ret (retF (p:=2) (T:=59) rfl _ _ _ _ _ _ rfl (uZ HE).1 Tryz.underlying59 rfl size_way) rfl ⟨_,rfl,(uZ HE).2⟩
def mixL:Nat→List Bool→List Bool→List Bool
 |0,l,_=>l
 |i+1,l,r=>(mixL i l r).set i ((mixL i l r).getD i false && r.getD i false)
theorem mixL_len:∀(i:Nat) (l r:List Bool),(mixL i l r).length=l.length
 |0,_,_=>rfl
 |i+1,l,r=>by simp only [mixL,List.length_set];exact mixL_len i l r
theorem mixL_at:∀(i:Nat) (l r:List Bool) (j:Nat),j<l.length→(mixL i l r)[j]?=if j<i then some (l.getD j false && r.getD j false) else l[j]?
 |0,l,r,j,hj=>by simp [mixL]
 |i+1,l,r,j,hj=>by
  have ih:=mixL_at i l r j hj
  have hl:=mixL_len i l r
  simp only [mixL]
  by_cases e:i=j
  ·subst e
   rw [List.getElem?_set_self (by omega),if_pos (by omega),List.getD_eq_getElem?_getD,ih,if_neg (Nat.lt_irrefl _),←List.getD_eq_getElem?_getD]
  ·rw [List.getElem?_set_ne e,ih]
   by_cases h1:j<i
   ·rw [if_pos h1,if_pos (by omega)]
   ·rw [if_neg h1,if_neg (by omega)]
theorem andL_at:∀(l r:List Bool) (j:Nat),l.length=r.length→j<l.length→(andL l r)[j]?=some (l.getD j false && r.getD j false)
 |[],_,_,_,hj=>by simp at hj
 |a :: l,[],_,hl,_=>by simp at hl
 |a :: l,b :: r,0,_,_=>by simp [andL]
 |a :: l,b :: r,j+1,hl,hj=>by
  simp only [andL,List.getElem?_cons_succ,List.getD_cons_succ]
  exact andL_at l r j (by simpa using hl) (by simpa using hj)
theorem andL_len:∀(l r:List Bool),l.length=r.length→(andL l r).length=l.length
 |[],[],_=>rfl
 |[],b :: r,h=>by simp at h
 |a :: l,[],h=>by simp at h
 |a :: l,b :: r,h=>by simp only [andL,List.length_cons];rw [andL_len l r (by simpa using h)]
theorem mixL_all (l r:List Bool) (h:l.length=r.length):mixL l.length l r=andL l r:=by
 apply List.ext_getElem?
 intro j
 by_cases hj:j<l.length
 ·rw [mixL_at _ _ _ _ hj,if_pos hj,andL_at _ _ _ h hj]
 ·rw [List.getElem?_eq_none (by rw [mixL_len];omega),List.getElem?_eq_none (by rw [andL_len _ _ h];omega)]
theorem joinS_len (l1 l2:List Bool) (x1 x2:Bool) (h:l1.length=l2.length):(joinS (l1,x1) (l2,x2)).1.length=l1.length:=by
 unfold joinS
 cases x1 <;> cases x2 <;> simp [h,andL_len]
theorem boxes3 (w:World) (c1 c2 c3:Array Value) (T:TypeId):∃w2,((w.alloc (.cells c1 T)).alloc (.cells c2 T)).alloc (.cells c3 T)=w2∧w2.heap[w.heap.size]?=some (.cells c1 T (0,0))∧w2.heap[w.heap.size+1]?=some (.cells c2 T (0,0))∧w2.heap[w.heap.size+1+1]?=some (.cells c3 T (0,0))∧Below w.heap.size w w2∧w2.heap.size=w.heap.size+1+1+1:=by
 obtain⟨w1,h1,n1,r1,b1⟩:=boxes2 w c1 c2 T T
 have z1:w1.heap.size=w.heap.size+1+1:=by rw [←h1];simp
 refine⟨_,rfl,?_,?_,?_,?_,?_⟩
 ·rw [h1,heap_alloc_old _ _ (by omega)];exact n1
 ·rw [h1,heap_alloc_old _ _ (by omega)];exact r1
 ·rw [h1,←z1];exact heap_alloc_new _ _
 ·rw [h1];exact b1.alloc (by omega) _
 ·rw [h1];simp [z1]
def JoP (w w':World) (lo N:Nat) (v1 v2 v:Value) (l:List Bool):Prop:=w'.ownsRow lo 4 1 v N (l.map Value.bool)∧Below w.heap.size w w'∧(v=v1∨v=v2∨∀k,v.ownBlock=some k→w.heap.size≤k)
structure Jo (w2 wr:World) (H N:Nat) (v:Value) (l1 l2:List Bool) (i:Nat):Prop where
 below:Below w2.heap.size w2 wr
 box:wr.heap[H]?=some (.cells #[v,.bool false] 59 (0,0))
 own:wr.ownsRow w2.heap.size 4 1 v N ((mixL i l1 l2).map Value.bool)
theorem Jo.drew {w2 wr:World} {H N:Nat} {v:Value} {l1 l2:List Bool} {i:Nat} (h:Jo w2 wr H N v l1 l2 i):Jo w2 wr.drew H N v l1 l2 i:=⟨h.below.drew,h.box,h.own⟩
theorem joined_any {w:World} {lo N:Nat} {so1 so2:Option Addr} {sc1 sc2:Nat} {l1 l2:List Bool} {x1 x2:Bool} (hN:N≤1099511627776) (hlo:lo≤w.heap.size) (h1:w.ownsRow lo 4 1 (.slice so1 N sc1) N (l1.map Value.bool)) (h2:w.ownsRow lo 4 1 (.slice so2 N sc2) N (l2.map Value.bool)):Calls Tryz.prog 91 #[.agg #[.slice so1 N sc1,.bool x1],.agg #[.slice so2 N sc2,.bool x2]] w fun e w'=>∃v,e=.returned (.agg #[v,.bool (joinS (l1,x1) (l2,x2)).2])∧JoP w w' lo N (.slice so1 N sc1) (.slice so2 N sc2) v (joinS (l1,x1) (l2,x2)).1:=by
 obtain⟨w2,hw2,n2,m2,r2,b2,z2⟩:=boxes3 w #[.slice so1 N sc1,.bool x1] #[.slice so2 N sc2,.bool x2] #[.slice none 0 0,.bool false] 59
 have HO:=hZ (And.intro h1 h2)
 have HLo:=hZ hlo
 obtain⟨G,hG⟩:=eX (w.heap.size)
 rw [hG] at n2 r2 m2
 have HGw:=hZ (Nat.le_of_eq hG)
 have B2:=hZ b2
 have HK:=hZ (And.intro n2 (And.intro m2 r2))
 obtain⟨c0,c1⟩:=two_at n2
 obtain⟨d0,d1⟩:=two_at m2
 obtain⟨k0,k1⟩:=two_at r2
 have y0:=frozen_of_row w2 (G+1+1) 0 _ _ r2
 have y1:=frozen_of_row w2 (G+1+1) 1 _ _ r2
 go_enter Tryz.func91,Tryz.ntmps91
 go_upto_region 1 with fail
 try rw [hw2]
 try rw [hG]
 clear hw2 h1 h2 b2 hG hlo n2 m2 r2 z2
 cases x1 with
 |true=>
  have HE:=hZ (And.intro (put2 (uZ HK).2.2 (.slice so2 N sc2) (.bool x2)) (((uZ B2).setCell (p:=⟨G+1+1,0,none⟩) (by have:=uZ HGw;show w.heap.size≤G+1+1;omega) (.slice so2 N sc2)).setCell (p:=⟨G+1+1,1,none⟩) (by have:=uZ HGw;show w.heap.size≤G+1+1;omega) (.bool x2)))
  go_wp2_with fail
  refine bodyPost_ret (retF (p:=4) (T:=59) rfl _ _ _ _ _ _ rfl (uZ HE).1 Tryz.underlying59 rfl size_way) rfl ⟨_,rfl,?_,(uZ HE).2,Or.inr (Or.inl rfl)⟩
  exact own_bes (Besk.of_below (P:=fun _=>False) (uZ HE).2) (uZ HO).2 (fun _ _ e=>e)
 |false=>
  cases x2 with
  |true=>
   have HE:=hZ (And.intro (put2 (uZ HK).2.2 (.slice so1 N sc1) (.bool false)) (((uZ B2).setCell (p:=⟨G+1+1,0,none⟩) (by have:=uZ HGw;show w.heap.size≤G+1+1;omega) (.slice so1 N sc1)).setCell (p:=⟨G+1+1,1,none⟩) (by have:=uZ HGw;show w.heap.size≤G+1+1;omega) (.bool false)))
   go_wp2_with fail
   refine bodyPost_ret (retF (p:=4) (T:=59) rfl _ _ _ _ _ _ rfl (uZ HE).1 Tryz.underlying59 rfl size_way) rfl ⟨_,rfl,?_,(uZ HE).2,Or.inl rfl⟩
   exact own_bes (Besk.of_below (P:=fun _=>False) (uZ HE).2) (uZ HO).1 (fun _ _ e=>e)
  |false=>
   have CC:=hZ (copied_any (x:=false) hN (own_bes (Besk.of_below (P:=fun _=>False) (uZ B2)) (uZ HO).1 (fun _ _ e=>e)))
   go_wp2_with fail
   refine(uZ CC).mono ?_
   rintro e w3 ⟨v,rfl,o3,b3⟩
   obtain⟨ao,cap,rfl⟩:=own_slice o3
   obtain⟨H,hH⟩:=eX (w3.heap.size)
   have HO3:=hZ o3
   have B3:=hZ b3
   have HHw:=hZ (Nat.le_of_eq hH)
   clear CC o3 b3 c0 c1 k0 k1 y0 y1 d0 d1
   go_upto_region 6 with fail
   obtain⟨w4,hw4⟩:=eX (w3.alloc (.cells #[.slice ao N cap,.bool false] 59))
   have b4:=alB hw4
   have n4:w4.heap[w3.heap.size]?=some (.cells #[.slice ao N cap,.bool false] 59 (0,0)):=by rw [←hw4];exact heap_alloc_new _ _
   have HJ:Hid (Jo w2 w4 H N (.slice ao N cap) l1 l2 0):=hZ ⟨(uZ B3).trans (b4.mono (uZ B3).size),by rw [←hH];exact n4,own_bes (Besk.of_below (P:=fun _=>False) b4) (uZ HO3) (fun _ _ e=>e)⟩
   try rw [hw4]
   try rw [hH]
   clear b4 n4 hw4 hH
   obtain⟨d0,d1⟩:=two_at (((uZ HJ).below.block _ (ltR (uZ HK).2.1)).trans (uZ HK).2.1)
   have HL:=hZ (And.intro (show l1.length=N by have:=(uZ HO).1.1;simpa using this) (show l2.length=N by have:=(uZ HO).2.1;simpa using this))
   go_wp2_with fail
   go_loopw [19] (fun d wr=>∃i:Nat,d=.int .i64 (i:Int)∧i≤N∧Hid (Jo w2 wr H N (.slice ao N cap) l1 l2 i)) (fun d _=>((N:Int) - intOf d).toNat)
   case atStart=>exact⟨0,rfl,Nat.zero_le _,HJ⟩
   case round=>
    obtain⟨i,rfl,hi,HI⟩:=hrel
    by_cases hii:i<N
    ·obtain⟨y,hy⟩:∃y,l2[i]?=some y:=⟨_,List.getElem?_eq_getElem (by have:=(uZ HL).2;omega)⟩
     obtain⟨x,hx⟩:∃x,(mixL i l1 l2)[i]?=some x:=⟨_,List.getElem?_eq_getElem (by have:=(uZ HL).1;rw [mixL_len];omega)⟩
     have o2:=own_bes (Besk.of_below (P:=fun _=>False) ((uZ B2).trans ((uZ HI).below.mono (uZ B2).size))) (uZ HO).2 (fun _ _ e=>e)
     obtain⟨g2,cap2,e2,q2,_,_⟩:=own_get o2 (j:=i) (u:=.bool y) (by rw [List.getElem?_map,hy];rfl)
     obtain⟨g1,cap1,e1,q1,_,hc1⟩:=own_get (uZ HI).own (j:=i) (u:=.bool x) (by rw [List.getElem?_map,hx];rfl)
     cases e2
     cases e1
     have hi1:(i:Int)<(N:Int):=by omega
     obtain⟨k0,k1⟩:=two_at (uZ HI).box
     obtain⟨cur,hcur⟩:∃cur,wr.heap[g1]?=some (.cells cur 4 (0,0)):=by
      rcases own_form (uZ HI).own with ⟨e,_⟩|⟨g',cap',cur,e,_,_,hg⟩
      ·cases e
      ·cases e
       exact⟨cur,hg⟩
     have yj:=frozen_of_row wr g1 i _ _ hcur
     have hg1:w2.heap.size≤g1:=by
      rcases own_form (uZ HI).own with ⟨e,_⟩|⟨g',cap',cur',e,hb,_,_⟩
      ·cases e
      ·cases e
       exact hb
     have hne:H≠g1:=fun e=>by
      have h:=(uZ HI).box
      rw [e,hcur] at h
      simp only [Option.some.injEq,Obj.cells.injEq] at h
      exact absurd h.2.1 (by decide)
     have HN:Hid (∀z,z=(x && y)→Jo w2 (wr.setCell ⟨g1,i,none⟩ (.bool z)) H N (.slice (some ⟨g1,0,none⟩) N cap) l1 l2 (i+1)):=hZ fun z hz=>⟨(uZ HI).below.setCell (p:=⟨g1,i,none⟩) hg1 _,(heap_setCell_other wr ⟨g1,i,none⟩ H _ hne).trans (uZ HI).box,by
      have h:=own_put (uZ HI).own i (.bool z)
      have e:mixL (i+1) l1 l2=(mixL i l1 l2).set i z:=by
       simp only [mixL]
       rw [hz,List.getD_eq_getElem?_getD,List.getD_eq_getElem?_getD,hx,hy]
       rfl
      rw [e,List.map_set]
      exact h⟩
     clear o2 hcur hne hg1
     go_upto_region 9 with fail
     cases x with
     |true=>
      go_region
      go_wp2_with fail
      go_roundw
      case rel=>exact⟨i+1,by go_num,by omega,hZ ((uZ HN) y (by simp)).drew⟩
      case measure=>simp [intOf];omega
     |false=>
      go_region
      go_wp2_with fail
      go_roundw
      case rel=>exact⟨i+1,by go_num,by omega,hZ ((uZ HN) false (by simp)).drew⟩
      case measure=>simp [intOf];omega
    ·have hi1:¬(i:Int)<(N:Int):=by omega
     have hie:i=N:=by omega
     obtain⟨k0,k1⟩:=two_at (uZ HI).box
     have r2:=((uZ HI).below.block _ (ltR (uZ HK).2.2)).trans (uZ HK).2.2
     obtain⟨j0,j1⟩:=two_at r2
     have y0:=frozen_of_row wr (G+1+1) 0 _ _ r2
     have y1:=frozen_of_row wr (G+1+1) 1 _ _ r2
     have hbb:=(uZ B2).trans ((uZ HI).below.mono (uZ B2).size)
     have hG2:w.heap.size≤G+1+1:=by have:=uZ HGw;omega
     have o5:=(uZ HI).own
     have hj:mixL i l1 l2=andL l1 l2:=by
      rw [hie,←(uZ HL).1]
      exact mixL_all l1 l2 (by rw [(uZ HL).1,(uZ HL).2])
     rw [hj] at o5
     have o6:=o5.kept (grown_set wr ⟨G+1+1,0,none⟩ (.slice ao N cap)) (own_neK o5 r2 (by rfl))
     have r3:=heap_setCell_same wr (G+1+1) 0 _ _ (.slice ao N cap) r2
     have o7:=o6.kept (grown_set _ ⟨G+1+1,1,none⟩ (.bool false)) (own_neK o6 r3 (by rfl))
     have HE:=hZ (And.intro (put2 r2 (.slice ao N cap) (.bool false)) (And.intro ((hbb.setCell (p:=⟨G+1+1,0,none⟩) hG2 (.slice ao N cap)).setCell (p:=⟨G+1+1,1,none⟩) hG2 (.bool false)) (own_base o7 (Nat.le_trans (uZ HLo) (uZ B2).size))))
     have HZ:=hZ (fun k (hk:(Value.slice ao N cap).ownBlock=some k)=>(show w.heap.size≤k from by
      rcases own_form o5 with ⟨e,_⟩|⟨g',cap',cur,e,hb,_,_⟩
      ·rw [e] at hk;cases hk
      ·rw [e] at hk
       have e3:g'=k:=by simpa [Value.ownBlock] using hk
       have:=(uZ B2).size
       omega))
     clear hie r2 r3 hbb hG2 o5 o6 o7 hj
     go_wp2_with fail
     exact bodyPost_ret (retF (p:=4) (T:=59) rfl _ _ _ _ _ _ rfl (uZ HE).1 Tryz.underlying59 rfl size_way) rfl ⟨_,rfl,(uZ HE).2.2,(uZ HE).2.1,Or.inr (Or.inr (uZ HZ))⟩
end Go.Proofs.YtjdpaihhhjdgmaaGreatDoor
