/-
  how long statements are; all statements (the document's).
  how long programs are; what Program and Expr answer.
  rows of bytes beside a box; Program of what is none (the document's).
  Conditions: where nodes are told of, they lie in memory.
-/
import Derived.Test.YtlkeaaopdnnceaaGreatDoorA40
import Derived.Test.YtlkeaaopdnnceaaGreatDoorA30
set_option linter.unusedVariables false
set_option linter.unusedSimpArgs false
set_option maxRecDepth 100000
set_option maxHeartbeats 8000000
namespace Go.Proofs.YtlkeaaopdnnceaaGreatDoor
open Go.RowKit
set_option linter.unusedVariables false
set_option linter.unusedSimpArgs false
theorem st_len (w:World) (B0 M:Nat):∀(N:Nat) (y:Tn) (x:List Value) (d:Nat),cns [y]≤N→d+cns [y]≤M→IsN w (fun b=>b<B0) y x→fmB y=true→(isStm y.k=true∨y.k=4)→(stT d y).length+100+M≤(80000+10 * M) * cns [y]
 |0,y,x,d,hN,_,_,_,_=>by rw [cns_one] at hN;omega
 |N+1,y,x,d,hN,hd,hx,hf,hs=>by
  obtain⟨h1,h2⟩:=fm_kids hf
  obtain⟨ht,hv,hk0⟩:=rw_kd h1
  obtain⟨vk,vn,vs,al,ak,a,ll,cl,lk,ck,cc,rfl,hvv,hr,-,-⟩:=hx.opn
  obtain⟨k,t,v,f,ks,p⟩:=y
  simp only at hvv hr h2 ht hk0 hs hv ⊢
  rw [cns_one] at hN hd ⊢
  simp only at hN hd ⊢
  obtain⟨K,hK⟩:∃K,80000+10 * M=K:=⟨_,rfl⟩
  rw [hK]
  have hkid:∀z∈ks,∃zz,IsN w (fun b=>b<B0) z zz:=fun z hz=>by
   obtain⟨i,hi⟩:=List.getElem?_of_mem hz
   obtain⟨b,zz,_,_,hzz,_⟩:=hr.at hi
   exact⟨zz,hzz⟩
  have hc:∀z∈ks,cns [z]≤cns ks:=fun z hz=>cns_mem ks z hz
  have hex:∀z∈ks,isEx z.k=true→(exT z).length+10≤K * cns [z]:=fun z hz he=>by
   obtain⟨zz,hzz⟩:=hkid z hz
   have e1:=ex_len w B0 _ z zz (Nat.le_refl _) hzz (h2 z hz) (by simp [isP,he])
   have e2:=Nat.mul_le_mul_right (cns [z]) (show 70000≤K by omega)
   omega
  have hst:∀z∈ks,(isStm z.k=true∨z.k=4)→∀c,c≤d+1→(stT c z).length+100+M≤K * cns [z]:=fun z hz hs c hc2=>by
   obtain⟨zz,hzz⟩:=hkid z hz
   rw [←hK]
   have:=hc z hz
   exact st_len w B0 M N z zz c (by omega) (by omega) hzz (h2 z hz) hs
  have hA:K * (1+cvs v.l+cns ks)=K+K * cvs v.l+K * cns ks:=by rw [Nat.mul_add,Nat.mul_add,Nat.mul_one]
  rw [hA]
  have htl:=tx_len ht
  have h0:(ks.map (·.k)).all isEx=true→ks.length≤1→(((exM ks)[0]?).getD []).length≤K * cns ks:=fun ha _=>by
   cases hi:ks[0]? with
   |none=>rw [exM_map,List.getElem?_map,hi];simp
   |some z=>
    rw [exM_at ks 0 z hi]
    have e1:=hex z (List.mem_of_getElem? hi) (all_ex ha z (List.mem_of_getElem? hi))
    have e2:=Nat.mul_le_mul_left K (hc z (List.mem_of_getElem? hi))
    simp only [Option.getD_some]
    omega
  have hone:ks.length=1→isEx (((ks.map (·.k))[0]?).getD 0)=true→(ks.map (·.k)).all isEx=true:=fun h1 h2=>by
   obtain⟨z,rfl⟩:=List.length_eq_one_iff.1 h1
   simpa using h2
  have hk:k=5∨k=6∨k=7∨k=8∨k=9∨k=10∨k=11∨k=12∨k=4:=by
   rcases hs with h|h
   ·have:k=5∨k=6∨k=7∨k=8∨k=9∨k=10∨k=11∨k=12:=by simpa [isStm] using h
    omega
   ·omega
  rcases hk with rfl|rfl|rfl|rfl|rfl|rfl|rfl|rfl|rfl
  ·rw [kd_le (by omega)] at hk0
   simp only [Bool.and_eq_true,decide_eq_true_eq,List.length_map] at hk0
   have:=h0 hk0.2 hk0.1
   simp only [stT,st1]
   rw [if_neg (by decide),if_pos trivial]
   split <;> simp only [List.length_cons,List.length_append,List.length_nil] <;> omega
  ·rw [kd_one (by omega)] at hk0
   simp only [Bool.and_eq_true,decide_eq_true_eq,List.length_map] at hk0
   have:=h0 (hone hk0.1 hk0.2) (by omega)
   simp only [stT,st1]
   rw [if_neg (by decide),if_neg (by decide),if_pos trivial]
   simp only [List.length_cons,List.length_append,List.length_nil]
   omega
  ·rw [kd_if] at hk0
   simp only [Bool.or_eq_true,Bool.and_eq_true,decide_eq_true_eq,List.length_map] at hk0
   simp only [stT,st1,stM_map]
   rw [if_neg (by decide),if_neg (by decide),if_neg (by decide),if_pos trivial]
   rcases hk0 with ⟨h3,h4,h5⟩|⟨⟨h3,h4,h5⟩,h6⟩
   ·obtain⟨z0,z1,rfl⟩:∃z0 z1,ks=[z0,z1]:=by
     match ks,h3 with
     |[a,b],_=>exact⟨a,b,rfl⟩
    simp only [List.map_cons,List.map_nil,List.getElem?_cons_zero,List.getElem?_cons_succ,Option.getD_some] at h4 h5
    have e0:=hex z0 (by simp) h4
    have e1:=hst z1 (by simp) (Or.inr (by simpa using h5)) (d+1) (by omega)
    have e2:K * cns [z0,z1]=K * cns [z0]+K * cns [z1]:=by rw [cns_two,Nat.mul_add]
    rw [exM_map]
    simp only [List.map_cons,List.map_nil,List.getElem?_cons_zero,List.getElem?_cons_succ,List.getElem?_nil,Option.getD_some,List.length_cons,List.length_append,List.length_nil]
    omega
   ·obtain⟨z0,z1,z2,rfl⟩:∃z0 z1 z2,ks=[z0,z1,z2]:=by
     match ks,h3 with
     |[a,b,c],_=>exact⟨a,b,c,rfl⟩
    simp only [List.map_cons,List.map_nil,List.getElem?_cons_zero,List.getElem?_cons_succ,Option.getD_some] at h4 h5 h6
    have e0:=hex z0 (by simp) h4
    have e1:=hst z1 (by simp) (Or.inr (by simpa using h5)) (d+1) (by omega)
    have e2:K * cns [z0,z1,z2]=K * cns [z0]+(K * cns [z1]+K * cns [z2]):=by rw [cns_two z0 [z1,z2],cns_two z1 [z2],Nat.mul_add,Nat.mul_add]
    have h47:isStm z2.k=true∨z2.k=4:=by
     rcases h6 with h|h
     ·exact Or.inr (by simpa using h)
     ·exact Or.inl (by rw [show z2.k=7 by simpa using h];rfl)
    have e3:=hst z2 (by simp) h47 (d+1) (by omega)
    have e4:=hst z2 (by simp) h47 d (by omega)
    rw [exM_map]
    simp only [List.map_cons,List.map_nil,List.getElem?_cons_zero,List.getElem?_cons_succ,Option.getD_some,List.length_cons,List.length_append,List.length_nil]
    split <;> omega
  ·rw [kd_wh] at hk0
   simp only [Bool.and_eq_true,decide_eq_true_eq,List.length_map] at hk0
   simp only [stT,st1,stM_map]
   rw [if_neg (by decide),if_neg (by decide),if_neg (by decide),if_neg (by decide),if_pos trivial]
   obtain⟨h3,h4,h5⟩:=hk0
   obtain⟨z0,z1,rfl⟩:∃z0 z1,ks=[z0,z1]:=by
    match ks,h3 with
    |[a,b],_=>exact⟨a,b,rfl⟩
   simp only [List.map_cons,List.map_nil,List.getElem?_cons_zero,List.getElem?_cons_succ,Option.getD_some] at h4 h5
   have e0:=hex z0 (by simp) h4
   have e1:=hst z1 (by simp) (Or.inr (by simpa using h5)) (d+1) (by omega)
   have e2:K * cns [z0,z1]=K * cns [z0]+K * cns [z1]:=by rw [cns_two,Nat.mul_add]
   rw [exM_map]
   simp only [List.map_cons,List.map_nil,List.getElem?_cons_zero,List.getElem?_cons_succ,Option.getD_some,List.length_cons,List.length_append,List.length_nil]
   omega
  ·rw [kd_le (by omega)] at hk0
   simp only [Bool.and_eq_true,decide_eq_true_eq,List.length_map] at hk0
   have:=h0 hk0.2 hk0.1
   simp only [stT,st1]
   rw [if_neg (by decide),if_neg (by decide),if_neg (by decide),if_neg (by decide),if_neg (by decide),if_pos trivial]
   split <;> simp only [List.length_cons,List.length_append,List.length_nil] <;> omega
  ·simp [stT,st1];omega
  ·simp [stT,st1];omega
  ·rw [kd_one (by omega)] at hk0
   simp only [Bool.and_eq_true,decide_eq_true_eq,List.length_map] at hk0
   have:=h0 (hone hk0.1 hk0.2) (by omega)
   simp only [stT,st1]
   rw [if_neg (by decide),if_neg (by decide),if_neg (by decide),if_neg (by decide),if_neg (by decide),if_neg (by decide),if_neg (by decide),if_neg (by decide)]
   simp only [List.length_cons,List.length_append,List.length_nil]
   omega
  ·have hst2:kdB 4 (ks.map (·.k))=(ks.map (·.k)).all isStm:=by simp [kdB]
   rw [hst2,all_k,List.all_eq_true] at hk0
   have hj:=jl_sum [] (lineT d (stT d)) K ks true (fun z hz=>by
    have e1:=hst z hz (Or.inl (hk0 z hz)) d (by omega)
    unfold lineT
    simp only [List.length_append,List.length_replicate,List.length_cons,List.length_nil]
    omega)
   rw [blk_st]
   unfold blkT
   simp only [List.length_append,List.length_replicate,List.length_cons,List.length_nil]
   omega
theorem rst_all:∀(N B0:Nat) (y:Tn) (d:Nat),cns [y]≤N→d+cns [y]≤25000→fmB y=true→(isStm y.k=true→StD B0 d y)∧(y.k=4→∀d',d=d'+1→BlD B0 d' y)
 |0,B0,y,d,hN,_,_=>by rw [cns_one] at hN;omega
 |N+1,B0,y,d,hN,hd,hf=>by
  obtain⟨h1,h2⟩:=fm_kids hf
  obtain⟨ht,hv,hk0⟩:=rw_kd h1
  have hc:∀z∈y.ks,cns [z]+1≤cns [y]:=fun z hz=>by have:=cns_mem y.ks z hz;rw [cns_one y];omega
  have htl:y.t.size≤1000:=by have:=tx_len ht;have e:y.t.data.toList.length=y.t.size:=rfl;omega
  have hK:∀z∈y.ks,(80000+10 * 26000) * cns [z]≤10000000000:=fun z hz=>by have:=hc z hz;omega
  have hkid:∀(x:List Value) (u:World),IsN u (fun b=>b<B0) y x→∀z∈y.ks,∃zz,IsN u (fun b=>b<B0) z zz:=fun x u hx z hz=>by
   obtain⟨vk,vn,vs,al,ak,a,ll,cl,lk,ck,cc,rfl,hvv,hr,-,-⟩:=hx.opn
   obtain⟨i,hi⟩:=List.getElem?_of_mem hz
   obtain⟨b,zz,_,_,hzz,_⟩:=hr.at hi
   exact⟨zz,hzz⟩
  have hex:∀(x:List Value) (u:World),IsN u (fun b=>b<B0) y x→∀z∈y.ks,isEx z.k=true→ExD B0 z∧(exT z).length≤10000000000:=fun x u hx z hz he=>by
   obtain⟨zz,hzz⟩:=hkid x u hx z hz
   have hp:isP z.k=true:=by simp [isP,he]
   have e1:=ex_len u B0 _ z zz (Nat.le_refl _) hzz (h2 z hz) hp
   have e2:=hc z hz
   exact⟨rex_all 25000 B0 z (by omega) (by omega) (h2 z hz) hp,by omega⟩
  have hln:∀(x:List Value) (u:World),IsN u (fun b=>b<B0) y x→∀z∈y.ks,(isStm z.k=true∨z.k=4)→∀c,c≤d+1→(stT c z).length≤10000000000:=fun x u hx z hz hs c hc2=>by
   obtain⟨zz,hzz⟩:=hkid x u hx z hz
   have e2:=hc z hz
   have e1:=st_len u B0 26000 _ z zz c (Nat.le_refl _) (by omega) hzz (h2 z hz) hs
   have e3:=hK z hz
   omega
  have hsub:∀z∈y.ks,∀c,c≤d+1→(isStm z.k=true→StD B0 c z)∧(z.k=4→∀d',c=d'+1→BlD B0 d' z):=fun z hz c hc2=>rst_all N B0 z c (by have:=hc z hz;omega) (by have:=hc z hz;omega) (h2 z hz)
  have ex0:∀(x:List Value) (u:World),IsN u (fun b=>b<B0) y x→isEx (((y.ks.map (·.k))[0]?).getD 0)=true→∀z,y.ks[0]?=some z→ExD B0 z∧(exT z).length≤10000000000:=fun x u hx h z hz=>hex x u hx z (List.mem_of_getElem? hz) (by rw [List.getElem?_map,hz] at h;exact h)
  have exa:∀(x:List Value) (u:World),IsN u (fun b=>b<B0) y x→(y.ks.map (·.k)).all isEx=true→∀z,y.ks[0]?=some z→ExD B0 z∧(exT z).length≤10000000000:=fun x u hx h z hz=>hex x u hx z (List.mem_of_getElem? hz) (all_ex h z (List.mem_of_getElem? hz))
  have bl1:∀(x:List Value) (u:World),IsN u (fun b=>b<B0) y x→(y.ks.map (·.k))[1]?=some 4→∀z,y.ks[1]?=some z→BlD B0 d z∧(stT (d+1) z).length≤10000000000:=fun x u hx h z hz=>by
   have hz4:z.k=4:=by rw [List.getElem?_map,hz] at h;simpa using h
   exact⟨(hsub z (List.mem_of_getElem? hz) (d+1) (Nat.le_refl _)).2 hz4 d rfl,hln x u hx z (List.mem_of_getElem? hz) (Or.inr hz4) (d+1) (Nat.le_refl _)⟩
  refine⟨fun hs=>?_,fun h4 d' hd'=>?_⟩
  ·intro x u hu hx
   have hk:y.k=5∨y.k=6∨y.k=7∨y.k=8∨y.k=9∨y.k=10∨y.k=11∨y.k=12:=by simpa [isStm] using hs
   rcases hk with hk|hk|hk|hk|hk|hk|hk|hk <;> rw [hk] at hk0
   ·rw [kd_le (by omega)] at hk0
    simp only [Bool.and_eq_true,decide_eq_true_eq,List.length_map] at hk0
    exact rst5_any d B0 y x u hu hx hk htl (exa x u hx hk0.2) hk0.1
   ·rw [kd_one (by omega)] at hk0
    simp only [Bool.and_eq_true,decide_eq_true_eq,List.length_map] at hk0
    exact rst6_any d B0 y x u hu hx hk htl (ex0 x u hx hk0.2) hk0.1
   ·rw [kd_if] at hk0
    simp only [Bool.or_eq_true,Bool.and_eq_true,decide_eq_true_eq,List.length_map] at hk0
    rcases hk0 with ⟨h3,h4,h5⟩|⟨⟨h3,h4,h5⟩,h6⟩
    ·exact rst7_any d B0 y x u hu hx hk htl (ex0 x u hx h4) (bl1 x u hx h5) h3
    ·obtain⟨z2,e2⟩:∃z,y.ks[2]?=some z:=⟨_,List.getElem?_eq_getElem (by omega)⟩
     rw [List.getElem?_map,e2] at h6
     have hm:=List.mem_of_getElem? e2
     by_cases h7:z2.k=7
     ·refine rst7i_any d B0 y x u hu hx hk htl (ex0 x u hx h4) (bl1 x u hx h5) (fun z hz=>?_) h3
      obtain rfl:=Option.some.inj (e2.symm.trans hz)
      exact⟨h7,(hsub z2 hm d (by omega)).1 (by rw [h7];rfl),hln x u hx z2 hm (Or.inl (by rw [h7];rfl)) d (by omega)⟩
     ·refine rst7b_any d B0 y x u hu hx hk htl (ex0 x u hx h4) (bl1 x u hx h5) (fun z hz=>?_) h3
      obtain rfl:=Option.some.inj (e2.symm.trans hz)
      have h44:z2.k=4:=by
       rcases h6 with h|h
       ·simpa using h
       ·exact absurd (by simpa using h) h7
      exact⟨h7,(hsub z2 hm (d+1) (Nat.le_refl _)).2 h44 d rfl,hln x u hx z2 hm (Or.inr h44) (d+1) (Nat.le_refl _)⟩
   ·rw [kd_wh] at hk0
    simp only [Bool.and_eq_true,decide_eq_true_eq,List.length_map] at hk0
    exact rst8_any d B0 y x u hu hx hk htl (ex0 x u hx hk0.2.1) (bl1 x u hx hk0.2.2) hk0.1
   ·rw [kd_le (by omega)] at hk0
    simp only [Bool.and_eq_true,decide_eq_true_eq,List.length_map] at hk0
    exact rst9_any d B0 y x u hu hx hk htl (exa x u hx hk0.2) hk0.1
   ·exact rst10_any d B0 y x u hu hx hk htl
   ·exact rst11_any d B0 y x u hu hx hk htl
   ·rw [kd_one (by omega)] at hk0
    simp only [Bool.and_eq_true,decide_eq_true_eq,List.length_map] at hk0
    exact rst12_any d B0 y x u hu hx hk htl (ex0 x u hx hk0.2) hk0.1
  ·subst hd'
   intro x u hu hx
   have hst2:kdB 4 (y.ks.map (·.k))=(y.ks.map (·.k)).all isStm:=by simp [kdB]
   rw [h4,hst2,all_k,List.all_eq_true] at hk0
   have e:stT (d'+1) y=blkT (d'+1) (stT (d'+1)) y.ks:=by
    obtain⟨k,t,v,f,ks,p⟩:=y
    simp only at h4
    subst h4
    exact blk_st _ _ _ _ _ _
   have hlen:(stT (d'+1) y).length≤10000000000:=by
    have e1:=st_len u B0 26000 _ y x (d'+1) (Nat.le_refl _) (by omega) hx hf (Or.inr h4)
    omega
   rw [e] at hlen ⊢
   exact rblock_any d' B0 (by omega) y x u hu hx (fun z hz=>(hsub z hz (d'+1) (by omega)).1 (hk0 z hz)) hlen
theorem IsN.rowOf {w:World} {B:Nat} {y:Tn} {x0 x1 x2 x3 x4 x5 x6 x7 x9:Value} {a:Option Addr} {n cc:Nat} (h:IsN w (fun b=>b<B) y [x0,x1,x2,x3,x4,x5,x6,x7,.slice a n cc,x9]):RowN w B y.ks a cc:=by
 obtain⟨vk,vn,vs,al,ak,a',ll,cl,lk,ck,cc',e,hv,hr,-,-⟩:=h.opn
 simp only [List.cons.injEq,Value.slice.injEq,and_true] at e
 obtain⟨_,_,_,_,_,_,_,_,⟨rfl,_,rfl⟩,_⟩:=e
 exact hr
theorem fn_kids {z:Tn} (hk:z.k=2) (hf:fmB z=true):0<z.ks.length∧(∀c,z.ks[z.ks.length - 1]?=some c→c.k=4):=by
 have hd:=(rw_kd (fm_kids hf).1).2.2
 rw [hk,kd_fn] at hd
 simp only [Bool.and_eq_true,decide_eq_true_eq,List.length_map] at hd
 refine⟨hd.1.1,fun c hc=>?_⟩
 have h:=hd.2
 rw [List.getElem?_map,hc] at h
 simpa using h
theorem nm_len {ks:List Tn} (h:∀z∈ks,fmB z=true):(jl [44,32] true (ks.map nmT)).length≤70000 * cns ks:=jl_sum [44,32] nmT 70000 ks true (fun z hz=>by
 have:=tx_len (rw_kd (fm_kids (h z hz)).1).1
 have e:=cns_one z
 unfold nmT
 simp only [List.length_cons,List.length_nil]
 omega)
theorem fn_len {w:World} {B0:Nat} {z:Tn} {x:List Value} (hx:IsN w (fun b=>b<B0) z x) (hk:z.k=2) (hf:fmB z=true) (hc:cns [z]≤25000):(fnT z).length+1≤500000 * cns [z]∧∀c,z.ks[z.ks.length - 1]?=some c→(stT 1 c).length≤10000000000:=by
 obtain⟨h0,h4⟩:=fn_kids hk hf
 obtain⟨h1,h2⟩:=fm_kids hf
 have htl:=tx_len (rw_kd h1).1
 obtain⟨c,hc2⟩:∃c,z.ks[z.ks.length - 1]?=some c:=⟨_,List.getElem?_eq_getElem (by omega)⟩
 obtain⟨vk,vn,vs,al,ak,a,ll,cl,lk,ck,cc,rfl,hvv,hr,-,-⟩:=hx.opn
 obtain⟨b,zz,_,_,hzz,_⟩:=hr.at hc2
 have hm:=List.mem_of_getElem? hc2
 have e1:=cns_mem z.ks c hm
 have e2:=cns_one z
 have hs:=st_len w B0 26000 _ c zz 1 (Nat.le_refl _) (by omega) hzz (h2 c hm) (Or.inr (h4 c hc2))
 have hj:=nm_len h2
 have hp:=jl_part [44,32] nmT z.ks (z.ks.length - 1)
 refine⟨?_,fun c' hc'=>?_⟩
 ·unfold fnT
  rw [hc2]
  simp only [Option.map_some,Option.getD_some,List.length_append,List.length_cons,List.length_nil]
  have:(if z.f=true then [101,120,112,111,114,116,32,102,110,32] else [102,110,32]:List UInt8).length≤10:=by split <;> decide
  omega
 ·obtain rfl:=Option.some.inj (hc2.symm.trans hc')
  omega
theorem pg_kids {y:Tn} (hk:y.k=1) (hf:fmB y=true):∀z∈y.ks,z.k=2∧fmB z=true:=by
 obtain⟨h1,h2⟩:=fm_kids hf
 have hd:=(rw_kd h1).2.2
 rw [hk,show kdB 1 (y.ks.map (·.k))=(y.ks.map (·.k)).all (fun x=>decide (x=2)) by simp [kdB],all_k,List.all_eq_true] at hd
 exact fun z hz=>⟨by simpa using hd z hz,h2 z hz⟩
theorem pg_len {w:World} {B0:Nat} {y:Tn} {x:List Value} (hx:IsN w (fun b=>b<B0) y x) (hk:y.k=1) (hr:rgB y=true):(pgT y).length≤10000000000:=by
 unfold rgB at hr
 simp only [Bool.and_eq_true,decide_eq_true_eq] at hr
 have hp:=pg_kids hk hr.1.2
 obtain⟨vk,vn,vs,al,ak,a,ll,cl,lk,ck,cc,rfl,hvv,hrr,-,-⟩:=hx.opn
 have e2:=cns_one y
 have:=jl_sum [10] fnT 500000 y.ks true (fun z hz=>by
  obtain⟨i,hi⟩:=List.getElem?_of_mem hz
  obtain⟨b,zz,_,_,hzz,_⟩:=hrr.at hi
  have e1:=cns_mem y.ks z hz
  have:=(fn_len hzz (hp z hz).1 (hp z hz).2 (by omega)).1
  simpa using this)
 unfold pgT
 omega
theorem rg_ex {w:World} {B0:Nat} {y:Tn} {x:List Value} (hx:IsN w (fun b=>b<B0) y x) (he:isEx y.k=true) (hr:rgB y=true):(exT y).length≤10000000000:=by
 unfold rgB at hr
 simp only [Bool.and_eq_true,decide_eq_true_eq] at hr
 have:=ex_len w B0 _ y x (Nat.le_refl _) hx hr.1.2 (by simp [isP,he])
 omega
def exR (y:Tn):Value:=if isEx y.k=true∧rgB y=true then .tuple #[.string (bA (exT y)),.int .i64 0] else .tuple #[.string ⟨#[]⟩,.int .i64 180]
def pgR (y:Tn):Value:=if y.k=1∧rgB y=true then .tuple #[.string (bA (pgT y)),.int .i64 0] else .tuple #[.string ⟨#[]⟩,.int .i64 180]
theorem own_ne {w:World} {base q:Nat} {v:Value} {L:List UInt8} {C:Array Value} {T:TypeId} {fz:Nat × Nat} (h:OwB w base v L) (hq:w.heap[q]?=some (.cells C T fz)) (hT:T≠5):v.ownBlock≠some q:=by
 rcases h.2 with ⟨rfl,_⟩|⟨g,cap,cur,rfl,_,hg,_⟩
 ·intro h;cases h
 ·intro h
  have e:g=q:=by simpa [Value.ownBlock] using h
  subst e
  rw [hg] at hq
  injection hq with hq
  injection hq with _ h2 _
  exact hT h2.symm
theorem grown_kept {w w':World} {base:Nat} {v:Value} {L:List UInt8} (h:OwB w base v L) (hg:w.grownBy w' v.ownBlock):∀(q:Nat) (C:Array Value) (T:TypeId) (fz:Nat × Nat),w.heap[q]?=some (.cells C T fz)→T≠5→w'.heap[q]?=some (.cells C T fz):=fun q C T fz hq hT=>
 (hg.block q (Array.getElem?_eq_some_iff.1 hq).1 (own_ne h hq hT).symm).trans hq
theorem wpl_appT {w:World} {ops:Array Oper} {rest:List Oper} {o:Oper} {a:Act} {Q:Exit→Act→World→Prop} (hgd:o.guard=none) (sl x:Operand)
  (ho:o.op=.call { callee:=.builtin .append,args:=#[sl,x],argTypes:=#[41,9] })
  (base:Nat) (v:Value) (L:List UInt8) (s:ByteArray) (hs:a.eval sl=v) (hown:OwB w base v L) (hx:a.eval x=.string s) (hn:L.length+s.size≤140737488355328) (hbase:base≤w.heap.size)
  (h:∀v' w',Hid (OwB w' base v' (L++s.data.toList)∧Below base w w'∧∀(q:Nat) (C:Array Value) (T:TypeId) (fz:Nat × Nat),w.heap[q]?=some (.cells C T fz)→T≠5→w'.heap[q]?=some (.cells C T fz))→wpList Tryz.prog ops Q rest (a.put o.dst v') w'):wpList Tryz.prog ops Q (o :: rest) a w:=by
 obtain⟨i0,hi,hz0,hz1,hz2⟩:=info_parts info5q
 refine Lib.wpList_append_own_string (P:=Tryz.prog) w hgd sl x 41 9 ho base 5 i0 Tryz.underlying41 Tryz.underlying9 hi hz0 hz1 hz2 v L.length (bc L) hs hown s hx (by unfold maxLen;omega) hn hbase ?_
 intro v' w' h1 h2 _
 refine h v' w' ⟨?_,(Below.refl _ _).grown h2 hbase (fun k e=>(hown.lt k e).1),grown_kept hown h2⟩
 unfold OwB
 rw [List.length_append,bc_app]
 exact h1
theorem wpl_byteT {w:World} {ops:Array Oper} {rest:List Oper} {o:Oper} {a:Act} {Q:Exit→Act→World→Prop} (hgd:o.guard=none) (sl x:Operand)
  (ho:o.op=.call { callee:=.builtin .append,args:=#[sl,x],argTypes:=#[41,41] })
  (base:Nat) (v:Value) (L:List UInt8) (c:UInt8) (hs:a.eval sl=v) (hown:OwB w base v L) (hx:a.eval x=.slice (some ⟨w.heap.size,0,none⟩) 1 1) (hn:L.length+1≤140737488355328) (hbase:base≤w.heap.size)
  (h:∀v' w',Hid (OwB w' base v' (L++[c])∧Below base w w'∧∀(q:Nat) (C:Array Value) (T:TypeId) (fz:Nat × Nat),w.heap[q]?=some (.cells C T fz)→T≠5→w'.heap[q]?=some (.cells C T fz))→wpList Tryz.prog ops Q rest (a.put o.dst v') w'):wpList Tryz.prog ops Q (o :: rest) a (w.alloc (.cells #[.int .u8 c.toNat] 5)):=by
 refine wpList_plain hgd fun K hK=>?_
 obtain⟨i0,hi,hz0,hz1,hz2⟩:=info_parts info5q
 have hb0:Below w.heap.size w (w.alloc (.cells #[.int .u8 c.toNat] 5)):=(Below.refl _ _).alloc (Nat.le_refl _) _
 have hnews:∀j u,([.int .u8 c.toNat]:List Value)[j]?=some u→(w.alloc (.cells #[.int .u8 c.toNat] 5)).cell? ((⟨w.heap.size,0,none⟩:Addr).add j)=some u:=fun j u hj=>World.news_of_block (heap_alloc_new w (.cells #[.int .u8 c.toNat] 5)) j u (by simpa using hj)
 obtain⟨v',w',hrun,r1,r2,_,r4⟩:=run_append_own_at (P:=Tryz.prog) (w.alloc (.cells #[.int .u8 c.toNat] 5)) base 41 o.type 5 i0 (.int .u8 0) 1 1 Tryz.underlying41 hi hz0 hz1 hz2 rfl (by omega) v L.length (bc L) (hown.later hb0) ⟨w.heap.size,0,none⟩ 1 1 [.int .u8 c.toNat] rfl hnews (by simp [Value.oneCell']) (by unfold maxLen;omega) (by omega) (Nat.le_trans hbase hb0.size)
 unfold Oper.wp
 simp only [execOp,ho,resolve,invoke,builtin,Sem.run_bind,Sem.run_pure,Result.andThen_ok,List.map_toArray,List.map_cons,List.map_nil,hs,hx,hrun]
 refine hK _ _ (h v' w' ⟨?_,(hb0.mono hbase).trans ((Below.refl _ _).grown r2 (Nat.le_trans hbase hb0.size) (fun k e=>((hown.later hb0).lt k e).1)),fun q C T fz hq hT=>grown_kept (hown.later hb0) r2 q C T fz ((hb0.block q (Array.getElem?_eq_some_iff.1 hq).1).trans hq) hT⟩)
 unfold OwB
 rw [List.length_append,bc_app]
 exact r1
theorem len_cns:∀l:List Tn,l.length≤cns l
 |[]=>by simp
 |z :: r=>by rw [cns_two,cns_one];have:=len_cns r;simp;omega
theorem rprog_no (B0:Nat) (y:Tn) (x:List Value) (w:World) (hB:B0≤w.heap.size) (hx:IsN w (fun b=>b<B0) y x) (hno:¬(y.k=1∧rgB y=true)) :
  Calls Tryz.prog 9 #[.agg x.toArray] w fun e w'=>e=.returned (.tuple #[.string ⟨#[]⟩,.int .i64 180])∧Below w.heap.size w w':=by
 have hx0:=hx
 obtain⟨vk,vn,vs,al,ak,a,ll,cl,lk,ck,cc,rfl,hvv,hr,hbk,hbp⟩:=hx.opn
 obtain⟨k,t,v,f,ks,p⟩:=y
 obtain⟨n,hn⟩:∃n,ks.length=n:=⟨_,rfl⟩
 have hnb:n≤140737488351232:=by rw [←hn];exact hr.len
 simp only at hno
 simp only [hn] at hx0 hvv hr hbk hbp ⊢
 obtain⟨w1,hw1⟩:∃w1,w.alloc (.cells #[.int .i64 k,.string t,.int .i64 vk,.int .i64 vn,.string vs,.slice al ll cl,.slice ak lk ck,.bool f,.slice a n cc,.int .i64 p] 28)=w1:=⟨_,rfl⟩
 obtain⟨G,hG⟩:∃G,w.heap.size=G:=⟨_,rfl⟩
 obtain⟨A1,X1⟩:=al1 hw1 hG
 have hBG:B0≤G:=by rw [←hG];exact hB
 have HM:Hid (NM5 B0 G w w1 ⟨k,t,v,f,ks,p⟩ [.int .i64 k,.string t,.int .i64 vk,.int .i64 vn,.string vs,.slice al ll cl,.slice ak lk ck,.bool f,.slice a n cc,.int .i64 p] ks a cc v (.agg #[.int .i64 vk,.int .i64 vn,.string vs,.slice al ll cl,.slice ak lk ck])):=hZ (fun u hu=>by
  have h2:=X1.trans (hu.mono (Nat.le_of_lt (lt_of_row A1)))
  exact⟨hx0.laterB (h2.mono hBG),hr.later (h2.mono hBG),Nat.le_trans hBG (by rw [←hG];exact h2.size),hvv.mono (h2.mono hBG),h2⟩)
 have HF:Hid (NF10 w1 G (.int .i64 k) (.string t) (.int .i64 vk) (.int .i64 vn) (.string vs) (.slice al ll cl) (.slice ak lk ck) (.bool f) (.slice a n cc) (.int .i64 p)):=hZ (fun u hu=>row_ten (Below.cellsAt hu A1))
 have HN:=hZ hn
 have HS0:Hid (Below w1.heap.size w1 w1):=hZ (Below.refl _ _)
 have HW:=hZ hw1
 have HNO:=hZ (show (decide (k=1) && rgB ⟨k,t,v,f,ks,p⟩)=false by
  cases h:(decide (k=1) && rgB ⟨k,t,v,f,ks,p⟩) with
  |false=>rfl
  |true=>rw [Bool.and_eq_true,decide_eq_true_iff] at h;exact absurd h hno)
 clear hno
 clear A1 X1 hw1 hx hx0 hr hvv hB hBG hn
 go_enter Tryz.func9,Tryz.ntmps9
 go_upto_region 1 with fail
 rw [uZ HW]
 try rw [hG]
 clear HW
 obtain⟨x0,x1,x2,x3,x4,x5,x6,x7,x8,x9⟩:=uZ HF w1 (Below.refl _ _)
 have CR:=hZ (RightD_any B0 ⟨k,t,v,f,ks,p⟩ _ w1 ((uZ HM) w1 (uZ HS0)).2.2.1 ((uZ HM) w1 (uZ HS0)).1)
 try simp only at CR
 rw [uZ HNO] at CR
 go_wp2_with fail
 refine(uZ CR).mono ?_
 rintro e w2 ⟨rfl,bb⟩
 have HS2:=hZ bb
 clear bb CR x0 x1 x2 x3 x4 x5 x6 x7 x8 x9
 go_wp2_with fail
 go_ret2
 have hbz:=((uZ HM) w2 (uZ HS2)).2.2.2.2
 exact⟨rfl,by subst hG;exact hbz⟩
end Go.Proofs.YtlkeaaopdnnceaaGreatDoor
