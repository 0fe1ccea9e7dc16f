/-
  Bytes of a row, as a text; no conditions.
  The walk of the document's Quote (layer 16); conditions: a text of at most 2^30 bytes.
  Layer 18 (print): rows of bytes; expressions with a text between (the document's); conditions: the nodes lie in memory.
  Layer 18 (print): an operand (the document's); conditions: the nodes lie in memory.
  Layer 18 (print): an expression, kind by kind (the document's); conditions: the nodes lie in memory.
  Layer 18 (print): an expression (the document's); conditions: the nodes lie in memory.
  Layer 18 (print): tabs; what stands behind a word (the document's); conditions: the nodes lie in memory.
  Layer 18 (print): a statement, kind by kind (the document's); conditions: the nodes lie in memory.
  Layer 18 (print): a block (the document's); conditions: the nodes lie in memory.
  Layer 18 (print): how long statements are; all statements (the document's); conditions: the nodes lie in memory.
  Layer 18 (print): how long programs are; what Program and Expr answer; conditions: the nodes lie in memory.
  Layer 18 (print), for PrintApart: words, quoted bytes are told by their texts, whatever stands behind; no conditions.
-/
import Derived.Test.YtekbmfppfjlboaaGreatDoorA23
import Derived.Test.YtekbmfppfjlboaaGreatDoorA06
import Derived.Test.YtekbmfppfjlboaaGreatDoorA22
import Derived.Test.YtekbmfppfjlboaaGreatDoorA36
import Derived.Test.YtekbmfppfjlboaaGreatDoorA42
import Derived.Lib.AppendStr
import Derived.Lib.SlBytesConst
set_option linter.unusedVariables false
set_option linter.unusedSimpArgs false
namespace Go.Proofs.YtekbmfppfjlboaaGreatDoor
open Go.RowKit
set_option linter.unusedVariables false
set_option linter.unusedSimpArgs false
def bc (L:List UInt8):List Value:=L.map fun b=>Value.int .u8 b.toNat
theorem jl_part (s:List UInt8) (T:Tn→List UInt8) (ks:List Tn) (i:Nat):(jl s true ((ks.take i).map T)).length≤(jl s true (ks.map T)).length:=by
 have:=jl_len s true ((ks.take i).map T) ((ks.drop i).map T)
 rw [←List.map_append,List.take_append_drop] at this
 exact this
theorem st_len (w:World) (B0 M:Nat):∀(N:Nat) (y:Tn) (x:List Value) (d:Nat),cns [y]≤N→d+cns [y]≤M→IsN w (fun b=>b<B0) y x→fmB y=true→(isStm y.k=true∨y.k=4)→(stT d y).length+100+M≤(80000+10 * M) * cns [y]
 |0,y,x,d,hN,_,_,_,_=>by rw [cns_one] at hN;omega
 |N+1,y,x,d,hN,hd,hx,hf,hs=>by
  obtain⟨h1,h2⟩:=fm_kids hf
  obtain⟨ht,hv,hk0⟩:=rw_kd h1
  obtain⟨vk,vn,vs,al,ak,a,ll,cl,lk,ck,cc,rfl,hvv,hr,-,-⟩:=hx.opn
  obtain⟨k,t,v,f,ks,p⟩:=y
  simp only at hvv hr h2 ht hk0 hs hv ⊢
  rw [cns_one] at hN hd ⊢
  simp only at hN hd ⊢
  obtain⟨K,hK⟩:∃K,80000+10 * M=K:=⟨_,rfl⟩
  rw [hK]
  have hkid:∀z∈ks,∃zz,IsN w (fun b=>b<B0) z zz:=fun z hz=>by
   obtain⟨i,hi⟩:=List.getElem?_of_mem hz
   obtain⟨b,zz,_,_,hzz,_⟩:=hr.at hi
   exact⟨zz,hzz⟩
  have hc:∀z∈ks,cns [z]≤cns ks:=fun z hz=>cns_mem ks z hz
  have hex:∀z∈ks,isEx z.k=true→(exT z).length+10≤K * cns [z]:=fun z hz he=>by
   obtain⟨zz,hzz⟩:=hkid z hz
   have e1:=ex_len w B0 _ z zz (Nat.le_refl _) hzz (h2 z hz) (by simp [isP,he])
   have e2:=Nat.mul_le_mul_right (cns [z]) (show 70000≤K by omega)
   omega
  have hst:∀z∈ks,(isStm z.k=true∨z.k=4)→∀c,c≤d+1→(stT c z).length+100+M≤K * cns [z]:=fun z hz hs c hc2=>by
   obtain⟨zz,hzz⟩:=hkid z hz
   rw [←hK]
   have:=hc z hz
   exact st_len w B0 M N z zz c (by omega) (by omega) hzz (h2 z hz) hs
  have hA:K * (1+cvs v.l+cns ks)=K+K * cvs v.l+K * cns ks:=by rw [Nat.mul_add,Nat.mul_add,Nat.mul_one]
  rw [hA]
  have htl:=tx_len ht
  have h0:(ks.map (·.k)).all isEx=true→ks.length≤1→(((exM ks)[0]?).getD []).length≤K * cns ks:=fun ha _=>by
   cases hi:ks[0]? with
   |none=>rw [exM_map,List.getElem?_map,hi];simp
   |some z=>
    rw [exM_at ks 0 z hi]
    have e1:=hex z (List.mem_of_getElem? hi) (all_ex ha z (List.mem_of_getElem? hi))
    have e2:=Nat.mul_le_mul_left K (hc z (List.mem_of_getElem? hi))
    simp only [Option.getD_some]
    omega
  have hone:ks.length=1→isEx (((ks.map (·.k))[0]?).getD 0)=true→(ks.map (·.k)).all isEx=true:=fun h1 h2=>by
   obtain⟨z,rfl⟩:=List.length_eq_one_iff.1 h1
   simpa using h2
  have hk:k=5∨k=6∨k=7∨k=8∨k=9∨k=10∨k=11∨k=12∨k=4:=by
   rcases hs with h|h
   ·have:k=5∨k=6∨k=7∨k=8∨k=9∨k=10∨k=11∨k=12:=by simpa [isStm] using h
    omega
   ·omega
  rcases hk with rfl|rfl|rfl|rfl|rfl|rfl|rfl|rfl|rfl
  ·rw [kd_le (by omega)] at hk0
   simp only [Bool.and_eq_true,decide_eq_true_eq,List.length_map] at hk0
   have:=h0 hk0.2 hk0.1
   simp only [stT,st1]
   rw [if_neg (by decide),if_pos trivial]
   split <;> simp only [List.length_cons,List.length_append,List.length_nil] <;> omega
  ·rw [kd_one (by omega)] at hk0
   simp only [Bool.and_eq_true,decide_eq_true_eq,List.length_map] at hk0
   have:=h0 (hone hk0.1 hk0.2) (by omega)
   simp only [stT,st1]
   rw [if_neg (by decide),if_neg (by decide),if_pos trivial]
   simp only [List.length_cons,List.length_append,List.length_nil]
   omega
  ·rw [kd_if] at hk0
   simp only [Bool.or_eq_true,Bool.and_eq_true,decide_eq_true_eq,List.length_map] at hk0
   simp only [stT,st1,stM_map]
   rw [if_neg (by decide),if_neg (by decide),if_neg (by decide),if_pos trivial]
   rcases hk0 with ⟨h3,h4,h5⟩|⟨⟨h3,h4,h5⟩,h6⟩
   ·obtain⟨z0,z1,rfl⟩:∃z0 z1,ks=[z0,z1]:=by
     match ks,h3 with
     |[a,b],_=>exact⟨a,b,rfl⟩
    simp only [List.map_cons,List.map_nil,List.getElem?_cons_zero,List.getElem?_cons_succ,Option.getD_some] at h4 h5
    have e0:=hex z0 (by simp) h4
    have e1:=hst z1 (by simp) (Or.inr (by simpa using h5)) (d+1) (by omega)
    have e2:K * cns [z0,z1]=K * cns [z0]+K * cns [z1]:=by rw [cns_two,Nat.mul_add]
    rw [exM_map]
    simp only [List.map_cons,List.map_nil,List.getElem?_cons_zero,List.getElem?_cons_succ,List.getElem?_nil,Option.getD_some,List.length_cons,List.length_append,List.length_nil]
    omega
   ·obtain⟨z0,z1,z2,rfl⟩:∃z0 z1 z2,ks=[z0,z1,z2]:=by
     match ks,h3 with
     |[a,b,c],_=>exact⟨a,b,c,rfl⟩
    simp only [List.map_cons,List.map_nil,List.getElem?_cons_zero,List.getElem?_cons_succ,Option.getD_some] at h4 h5 h6
    have e0:=hex z0 (by simp) h4
    have e1:=hst z1 (by simp) (Or.inr (by simpa using h5)) (d+1) (by omega)
    have e2:K * cns [z0,z1,z2]=K * cns [z0]+(K * cns [z1]+K * cns [z2]):=by rw [cns_two z0 [z1,z2],cns_two z1 [z2],Nat.mul_add,Nat.mul_add]
    have h47:isStm z2.k=true∨z2.k=4:=by
     rcases h6 with h|h
     ·exact Or.inr (by simpa using h)
     ·exact Or.inl (by rw [show z2.k=7 by simpa using h];rfl)
    have e3:=hst z2 (by simp) h47 (d+1) (by omega)
    have e4:=hst z2 (by simp) h47 d (by omega)
    rw [exM_map]
    simp only [List.map_cons,List.map_nil,List.getElem?_cons_zero,List.getElem?_cons_succ,Option.getD_some,List.length_cons,List.length_append,List.length_nil]
    split <;> omega
  ·rw [kd_wh] at hk0
   simp only [Bool.and_eq_true,decide_eq_true_eq,List.length_map] at hk0
   simp only [stT,st1,stM_map]
   rw [if_neg (by decide),if_neg (by decide),if_neg (by decide),if_neg (by decide),if_pos trivial]
   obtain⟨h3,h4,h5⟩:=hk0
   obtain⟨z0,z1,rfl⟩:∃z0 z1,ks=[z0,z1]:=by
    match ks,h3 with
    |[a,b],_=>exact⟨a,b,rfl⟩
   simp only [List.map_cons,List.map_nil,List.getElem?_cons_zero,List.getElem?_cons_succ,Option.getD_some] at h4 h5
   have e0:=hex z0 (by simp) h4
   have e1:=hst z1 (by simp) (Or.inr (by simpa using h5)) (d+1) (by omega)
   have e2:K * cns [z0,z1]=K * cns [z0]+K * cns [z1]:=by rw [cns_two,Nat.mul_add]
   rw [exM_map]
   simp only [List.map_cons,List.map_nil,List.getElem?_cons_zero,List.getElem?_cons_succ,Option.getD_some,List.length_cons,List.length_append,List.length_nil]
   omega
  ·rw [kd_le (by omega)] at hk0
   simp only [Bool.and_eq_true,decide_eq_true_eq,List.length_map] at hk0
   have:=h0 hk0.2 hk0.1
   simp only [stT,st1]
   rw [if_neg (by decide),if_neg (by decide),if_neg (by decide),if_neg (by decide),if_neg (by decide),if_pos trivial]
   split <;> simp only [List.length_cons,List.length_append,List.length_nil] <;> omega
  ·simp [stT,st1];omega
  ·simp [stT,st1];omega
  ·rw [kd_one (by omega)] at hk0
   simp only [Bool.and_eq_true,decide_eq_true_eq,List.length_map] at hk0
   have:=h0 (hone hk0.1 hk0.2) (by omega)
   simp only [stT,st1]
   rw [if_neg (by decide),if_neg (by decide),if_neg (by decide),if_neg (by decide),if_neg (by decide),if_neg (by decide),if_neg (by decide),if_neg (by decide)]
   simp only [List.length_cons,List.length_append,List.length_nil]
   omega
  ·have hst2:kdB 4 (ks.map (·.k))=(ks.map (·.k)).all isStm:=by simp [kdB]
   rw [hst2,all_k,List.all_eq_true] at hk0
   have hj:=jl_sum [] (lineT d (stT d)) K ks true (fun z hz=>by
    have e1:=hst z hz (Or.inl (hk0 z hz)) d (by omega)
    unfold lineT
    simp only [List.length_append,List.length_replicate,List.length_cons,List.length_nil]
    omega)
   rw [blk_st]
   unfold blkT
   simp only [List.length_append,List.length_replicate,List.length_cons,List.length_nil]
   omega
theorem fn_kids {z:Tn} (hk:z.k=2) (hf:fmB z=true):0<z.ks.length∧(∀c,z.ks[z.ks.length - 1]?=some c→c.k=4):=by
 have hd:=(rw_kd (fm_kids hf).1).2.2
 rw [hk,kd_fn] at hd
 simp only [Bool.and_eq_true,decide_eq_true_eq,List.length_map] at hd
 refine⟨hd.1.1,fun c hc=>?_⟩
 have h:=hd.2
 rw [List.getElem?_map,hc] at h
 simpa using h
theorem nm_len {ks:List Tn} (h:∀z∈ks,fmB z=true):(jl [44,32] true (ks.map nmT)).length≤70000 * cns ks:=jl_sum [44,32] nmT 70000 ks true (fun z hz=>by
 have:=tx_len (rw_kd (fm_kids (h z hz)).1).1
 have e:=cns_one z
 unfold nmT
 simp only [List.length_cons,List.length_nil]
 omega)
theorem fn_len {w:World} {B0:Nat} {z:Tn} {x:List Value} (hx:IsN w (fun b=>b<B0) z x) (hk:z.k=2) (hf:fmB z=true) (hc:cns [z]≤25000):(fnT z).length+1≤500000 * cns [z]∧∀c,z.ks[z.ks.length - 1]?=some c→(stT 1 c).length≤10000000000:=by
 obtain⟨h0,h4⟩:=fn_kids hk hf
 obtain⟨h1,h2⟩:=fm_kids hf
 have htl:=tx_len (rw_kd h1).1
 obtain⟨c,hc2⟩:∃c,z.ks[z.ks.length - 1]?=some c:=⟨_,List.getElem?_eq_getElem (by omega)⟩
 obtain⟨vk,vn,vs,al,ak,a,ll,cl,lk,ck,cc,rfl,hvv,hr,-,-⟩:=hx.opn
 obtain⟨b,zz,_,_,hzz,_⟩:=hr.at hc2
 have hm:=List.mem_of_getElem? hc2
 have e1:=cns_mem z.ks c hm
 have e2:=cns_one z
 have hs:=st_len w B0 26000 _ c zz 1 (Nat.le_refl _) (by omega) hzz (h2 c hm) (Or.inr (h4 c hc2))
 have hj:=nm_len h2
 have hp:=jl_part [44,32] nmT z.ks (z.ks.length - 1)
 refine⟨?_,fun c' hc'=>?_⟩
 ·unfold fnT
  rw [hc2]
  simp only [Option.map_some,Option.getD_some,List.length_append,List.length_cons,List.length_nil]
  have:(if z.f=true then [101,120,112,111,114,116,32,102,110,32] else [102,110,32]:List UInt8).length≤10:=by split <;> decide
  omega
 ·obtain rfl:=Option.some.inj (hc2.symm.trans hc')
  omega
theorem pg_kids {y:Tn} (hk:y.k=1) (hf:fmB y=true):∀z∈y.ks,z.k=2∧fmB z=true:=by
 obtain⟨h1,h2⟩:=fm_kids hf
 have hd:=(rw_kd h1).2.2
 rw [hk,show kdB 1 (y.ks.map (·.k))=(y.ks.map (·.k)).all (fun x=>decide (x=2)) by simp [kdB],all_k,List.all_eq_true] at hd
 exact fun z hz=>⟨by simpa using hd z hz,h2 z hz⟩
theorem pg_len {w:World} {B0:Nat} {y:Tn} {x:List Value} (hx:IsN w (fun b=>b<B0) y x) (hk:y.k=1) (hr:rgB y=true):(pgT y).length≤10000000000:=by
 unfold rgB at hr
 simp only [Bool.and_eq_true,decide_eq_true_eq] at hr
 have hp:=pg_kids hk hr.1.2
 obtain⟨vk,vn,vs,al,ak,a,ll,cl,lk,ck,cc,rfl,hvv,hrr,-,-⟩:=hx.opn
 have e2:=cns_one y
 have:=jl_sum [10] fnT 500000 y.ks true (fun z hz=>by
  obtain⟨i,hi⟩:=List.getElem?_of_mem hz
  obtain⟨b,zz,_,_,hzz,_⟩:=hrr.at hi
  have e1:=cns_mem y.ks z hz
  have:=(fn_len hzz (hp z hz).1 (hp z hz).2 (by omega)).1
  simpa using this)
 unfold pgT
 omega
def pgR (y:Tn):Value:=if y.k=1∧rgB y=true then .tuple #[.string (bA (pgT y)),.int .i64 0] else .tuple #[.string ⟨#[]⟩,.int .i64 180]
theorem hx_fin2:∀a b:Fin 16,hx a.val=hx b.val→a=b:=by decide +kernel
theorem hx_inj {a b:Nat} (ha:a<16) (hb:b<16) (h:hx a=hx b):a=b:=by
 have:=hx_fin2 ⟨a,ha⟩ ⟨b,hb⟩ h
 simpa using this
theorem u8_eq {a b:UInt8} (h:a.toNat=b.toNat):a=b:=UInt8.toNat.inj h
theorem qB_pre (c d:UInt8) (X Y:List UInt8) (h:qB c++X=qB d++Y):c=d∧X=Y:=by
 have hc:=c.toNat_lt
 have hd:=d.toNat_lt
 have h92:(92:UInt8).toNat=92:=rfl
 have h120:(120:UInt8).toNat=120:=rfl
 by_cases c1:c.toNat=34∨c.toNat=92
 ·rw [qB_esc c c1] at h
  by_cases d1:d.toNat=34∨d.toNat=92
  ·rw [qB_esc d d1] at h
   simp only [List.cons_append,List.nil_append,List.cons.injEq,true_and] at h
   exact h
  ·by_cases d2:32≤d.toNat∧d.toNat≤126
   ·rw [qB_own d d2.1 d2.2 (by omega) (by omega)] at h
    simp only [List.cons_append,List.nil_append,List.cons.injEq] at h
    have:=congrArg UInt8.toNat h.1
    omega
   ·rw [qB_num d (by omega)] at h
    simp only [List.cons_append,List.nil_append,List.cons.injEq,true_and] at h
    have:=congrArg UInt8.toNat h.1
    omega
 ·by_cases c2:32≤c.toNat∧c.toNat≤126
  ·rw [qB_own c c2.1 c2.2 (by omega) (by omega)] at h
   by_cases d1:d.toNat=34∨d.toNat=92
   ·rw [qB_esc d d1] at h
    simp only [List.cons_append,List.nil_append,List.cons.injEq] at h
    have:=congrArg UInt8.toNat h.1
    omega
   ·by_cases d2:32≤d.toNat∧d.toNat≤126
    ·rw [qB_own d d2.1 d2.2 (by omega) (by omega)] at h
     simp only [List.cons_append,List.nil_append,List.cons.injEq] at h
     exact h
    ·rw [qB_num d (by omega)] at h
     simp only [List.cons_append,List.nil_append,List.cons.injEq] at h
     have:=congrArg UInt8.toNat h.1
     omega
  ·rw [qB_num c (by omega)] at h
   by_cases d1:d.toNat=34∨d.toNat=92
   ·rw [qB_esc d d1] at h
    simp only [List.cons_append,List.nil_append,List.cons.injEq,true_and] at h
    have:=congrArg UInt8.toNat h.1
    omega
   ·by_cases d2:32≤d.toNat∧d.toNat≤126
    ·rw [qB_own d d2.1 d2.2 (by omega) (by omega)] at h
     simp only [List.cons_append,List.nil_append,List.cons.injEq] at h
     have:=congrArg UInt8.toNat h.1
     omega
    ·rw [qB_num d (by omega)] at h
     simp only [List.cons_append,List.nil_append,List.cons.injEq,true_and] at h
     have e1:=hx_inj (by omega) (by omega) h.1
     have e2:=hx_inj (by omega) (by omega) h.2.1
     exact⟨u8_eq (by omega),h.2.2⟩
theorem qB_head (c:UInt8) (X Y:List UInt8):qB c++X≠34 :: Y:=by
 intro h
 have h34:(34:UInt8).toNat=34:=rfl
 have h92:(92:UInt8).toNat=92:=rfl
 by_cases c1:c.toNat=34∨c.toNat=92
 ·rw [qB_esc c c1] at h
  simp only [List.cons_append,List.cons.injEq] at h
  have:=congrArg UInt8.toNat h.1
  omega
 ·by_cases c2:32≤c.toNat∧c.toNat≤126
  ·rw [qB_own c c2.1 c2.2 (by omega) (by omega)] at h
   simp only [List.cons_append,List.cons.injEq] at h
   have:=congrArg UInt8.toNat h.1
   omega
  ·rw [qB_num c (by omega)] at h
   simp only [List.cons_append,List.cons.injEq] at h
   have:=congrArg UInt8.toNat h.1
   omega
theorem flatB_inj:∀(l m r s:List UInt8),l.flatMap qB++34 :: r=m.flatMap qB++34 :: s→l=m∧r=s
 |[],[],r,s,h=>by simpa using h
 |[],d :: m,r,s,h=>by
  rw [List.flatMap_cons,List.append_assoc] at h
  exact absurd h.symm (qB_head d _ _)
 |c :: l,[],r,s,h=>by
  rw [List.flatMap_cons,List.append_assoc] at h
  exact absurd h (qB_head c _ _)
 |c :: l,d :: m,r,s,h=>by
  rw [List.flatMap_cons,List.flatMap_cons,List.append_assoc,List.append_assoc] at h
  obtain⟨rfl,h2⟩:=qB_pre c d _ _ h
  obtain⟨rfl,h3⟩:=flatB_inj l m r s h2
  exact⟨rfl,h3⟩
theorem quoB_inj {l m r s:List UInt8} (h:quoB l++r=quoB m++s):l=m∧r=s:=by
 unfold quoB at h
 simp only [List.cons_append,List.append_assoc,List.nil_append,List.cons.injEq,true_and] at h
 exact flatB_inj l m r s h
theorem span_inj (p:UInt8→Bool):∀(a b r s:List UInt8),(∀x∈a,p x=true)→(∀x∈b,p x=true)→(∀x,r.head?=some x→p x=false)→(∀x,s.head?=some x→p x=false)→a++r=b++s→a=b∧r=s
 |[],[],r,s,_,_,_,_,h=>⟨rfl,by simpa using h⟩
 |[],y :: b,r,s,_,hb,hr,_,h=>by
  have e:r=y :: (b++s):=by simpa using h
  have h1:=hr y (by rw [e];rfl)
  rw [hb y (List.mem_cons_self ..)] at h1
  cases h1
 |x :: a,[],r,s,ha,_,_,hs,h=>by
  have e:s=x :: (a++r):=by simpa using h.symm
  have h1:=hs x (by rw [e];rfl)
  rw [ha x (List.mem_cons_self ..)] at h1
  cases h1
 |x :: a,y :: b,r,s,ha,hb,hr,hs,h=>by
  simp only [List.cons_append,List.cons.injEq] at h
  obtain⟨rfl,h2⟩:=h
  obtain⟨rfl,h3⟩:=span_inj p a b r s (fun z hz=>ha z (List.mem_cons_of_mem _ hz)) (fun z hz=>hb z (List.mem_cons_of_mem _ hz)) hr hs h2
  exact⟨rfl,h3⟩
end Go.Proofs.YtekbmfppfjlboaaGreatDoor
