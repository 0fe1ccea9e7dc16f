/-
  an expression (the document's).
  tabs; what stands behind a word (the document's).
  Conditions: where nodes are told of, they lie in memory.
-/
import Derived.Test.YtlkeaaopdnnceaaGreatDoorA37
set_option linter.unusedVariables false
set_option linter.unusedSimpArgs false
set_option maxRecDepth 100000
set_option maxHeartbeats 8000000
namespace Go.Proofs.YtlkeaaopdnnceaaGreatDoor
open Go.RowKit
set_option linter.unusedVariables false
set_option linter.unusedSimpArgs false
theorem rex_all (N:Nat):∀(B0:Nat) (y:Tn),cns [y]≤N→N≤30000→fmB y=true→isP y.k=true→ExD B0 y:=by
 induction N with
 |zero=>intro B0 y hN;rw [cns_one] at hN;omega
 |succ N ih=>
  intro B0 y hN h3 hf he x u hu hx
  have hlen:=ex_len u B0 _ y x (Nat.le_refl _) hx hf he
  obtain⟨h1,h2⟩:=fm_kids hf
  obtain⟨ht,hv,hd⟩:=rw_kd h1
  have hk:y.k=13∨y.k=14∨y.k=15∨y.k=16∨y.k=17∨y.k=18∨y.k=19∨y.k=20∨y.k=21∨y.k=22:=by
   have:y.k=13∨y.k=14∨y.k=15∨y.k=16∨y.k=17∨y.k=18∨y.k=19∨y.k=21∨y.k=22∨y.k=20:=by simpa [isP,isEx,or_assoc] using he
   omega
  have hc:∀z∈y.ks,cns [z]≤N:=fun z hz=>by have:=cns_mem y.ks z hz;rw [cns_one] at hN;omega
  have hlz:∀z∈y.ks,isP z.k=true→(exT z).length≤10000000000:=fun z hz hp=>by
   obtain⟨vk,vn,vs,al,ak,a,ll,cl,lk,ck,cc,rfl,hvv,hr,-,-⟩:=hx.opn
   obtain⟨i,hi⟩:=List.getElem?_of_mem hz
   obtain⟨b,zz,rfl,_,hzz,_⟩:=hr.at hi
   have:=ex_len u B0 _ z zz (Nat.le_refl _) hzz (h2 z hz) hp
   have:=hc z hz
   omega
  have hsub:∀z∈y.ks,isP z.k=true→ExD B0 z:=fun z hz hp=>ih B0 z (hc z hz) (by omega) (h2 z hz) hp
  have hex:∀z:Tn,isEx z.k=true→isP z.k=true:=fun z h=>by simp [isP,h]
  have htl:y.t.size≤1000:=by have:=tx_len ht;have e:y.t.data.toList.length=y.t.size:=rfl;omega
  have hall:(y.ks.map (·.k)).all isEx=true→∀z∈y.ks,isP z.k=true:=fun h z hz=>hex z (all_ex h z hz)
  have hone:y.ks.length=1∧isEx (((y.ks.map (·.k))[0]?).getD 0)=true→∀z∈y.ks,isP z.k=true:=fun h z hz=>by
   obtain⟨z0,e⟩:=List.length_eq_one_iff.1 h.1
   rw [e] at hz
   obtain rfl:z=z0:=by simpa using hz
   rw [e] at h
   exact hex z (by simpa using h.2)
  have hexT:exT y=ex1 y.k y.t y.v y.ks (exM y.ks):=rfl
  have hj:(jl [44,32] true (y.ks.map exT)).length≤70000 * cns [y]∨(y.k≠15∧y.k≠18∧y.k≠19):=by
   by_cases h15:y.k=15
   ·left;rw [hexT,h15] at hlen;simp [ex1,exM_map] at hlen ⊢;omega
   ·by_cases h18:y.k=18
    ·left;rw [hexT,h18] at hlen;simp [ex1,exM_map] at hlen ⊢;omega
    ·by_cases h19:y.k=19
     ·left;rw [hexT,h19] at hlen;simp [ex1,exM_map] at hlen ⊢;omega
     ·exact Or.inr ⟨h15,h18,h19⟩
  rw [hexT]
  rcases hk with hk|hk|hk|hk|hk|hk|hk|hk|hk|hk <;> rw [hk] at hd ⊢
  ·exact rex13_any B0 y x u hu hx hk
  ·exact rex14_any B0 y x u hu hx hk
  ·rw [kd_ex (by omega)] at hd
   exact rex15_any B0 y x u hu hx hk (fun z hz=>hsub z hz (hall hd z hz)) ⟨by omega,htl⟩
  ·rw [kd_one (by omega)] at hd
   simp only [Bool.and_eq_true,decide_eq_true_eq,List.length_map] at hd
   exact rex16_any B0 y x u hu hx hk (fun z hz=>hsub z hz (hone hd z hz)) ⟨fun z hz=>hlz z hz (hone hd z hz),htl,hd.1⟩
  ·rw [kd_two (by omega)] at hd
   simp only [Bool.and_eq_true,decide_eq_true_eq,List.length_map] at hd
   exact rex17_any B0 y x u hu hx hk (fun z hz=>hsub z hz (hall hd.2 z hz)) ⟨fun z hz=>hlz z hz (hall hd.2 z hz),htl,hd.1⟩
  ·rw [kd_ex (by omega)] at hd
   exact rex18_any B0 y x u hu hx hk (fun z hz=>hsub z hz (hall hd z hz)) ⟨by omega,htl⟩
  ·have e:kdB 19 (y.ks.map (·.k))=(y.ks.map (·.k)).all (fun x=>decide (x=20)):=by simp [kdB]
   rw [e,all_k,List.all_eq_true] at hd
   exact rex19_any B0 y x u hu hx hk (fun z hz=>hsub z hz (by have:=hd z hz;simp only [decide_eq_true_eq] at this;simp [isP,this])) ⟨by omega,htl⟩
  ·rw [kd_one (by omega)] at hd
   simp only [Bool.and_eq_true,decide_eq_true_eq,List.length_map] at hd
   exact rex20_any B0 y x u hu hx hk (fun z hz=>hsub z hz (hone hd z hz)) ⟨fun z hz=>hlz z hz (hone hd z hz),htl,hd.1⟩
  ·rw [kd_two (by omega)] at hd
   simp only [Bool.and_eq_true,decide_eq_true_eq,List.length_map] at hd
   exact rex21_any B0 y x u hu hx hk (fun z hz=>hsub z hz (hall hd.2 z hz)) ⟨fun z hz=>hlz z hz (hall hd.2 z hz),htl,hd.1⟩
  ·rw [kd_one (by omega)] at hd
   simp only [Bool.and_eq_true,decide_eq_true_eq,List.length_map] at hd
   exact rex22_any B0 y x u hu hx hk (fun z hz=>hsub z hz (hone hd z hz)) ⟨fun z hz=>hlz z hz (hone hd z hz),htl,hd.1⟩
theorem OwB.byte {w:World} {base:Nat} {v:Value} {L:List UInt8} (h:OwB w base v L):QRow w base v L.length (bc L):=Or.inl h
theorem rtabs_any (n:Nat) (hn:n≤1000000) (w:World):Calls Tryz.prog 46 #[.int .i64 (n:Int)] w fun e w'=>e=.returned (.string (bA (List.replicate n 9)))∧Below w.heap.size w w':=by
 have HB:=hZ (Below.refl w.heap.size w)
 obtain⟨g,hg⟩:∃g,w.heap.size=g:=⟨_,rfl⟩
 have HG1:=hZ hg
 go_enter Tryz.func46,Tryz.ntmps46
 go_wp2_with fail
 go_loopw [3,4] (fun ov x wr=>∃(i:Nat) (rv:Value),x=.int .i64 (i:Int)∧rv=ov∧i≤n∧Hid (OwB wr g rv (List.replicate i 9))∧Hid (Below w.heap.size w wr)) (fun _ x _=>n - (intOf x).toNat)
 case atStart=>exact⟨0,_,rfl,rfl,Nat.zero_le _,hZ (by simpa using OwB.nil _ _),HB⟩
 case round=>
  obtain⟨i,rv,rfl,rfl,hi,HO,HX⟩:=hrel
  obtain⟨w8,hw8⟩:∃u,u=wr:=⟨_,rfl⟩
  subst hw8
  have hgb:g≤w8.heap.size:=by have:=(uZ HX).size;have:=uZ HG1;omega
  by_cases hlt:i<n
  ·have i1:(i:Int)<(n:Int):=by omega
   have HI1:=hZ (show i+1≤n by omega)
   have tokA:True:=trivial
   go_wp2_with (first|(have _t:=tokA;at_builtin;refine wpl_fewB rfl (.tmp 10) (.tmp 11) rfl g (List.replicate i (9:UInt8)).length 1 _ (bc (List.replicate i 9)) [.int .u8 9] rfl (by simp [Value.oneCell']) rfl (uZ HO).byte (by omega) rfl (by rw [List.length_replicate];omega) hgb ?_;intro v6 w6 H6;clear tokA))
   have HO6:=hZ (show OwB w6 g v6 (List.replicate (i+1) 9) by
    have h:=(uZ H6).1
    unfold OwB
    rw [List.replicate_succ',List.length_append,bc_app]
    exact h)
   have HX6:=hZ ((uZ HX).trans ((uZ H6).2.mono (by have:=uZ HG1;omega)))
   clear H6
   go_roundw
   case rel=>exact⟨i+1,_,by go_num,rfl,uZ HI1,HO6,HX6⟩
   case measure=>have:=uZ HI1;simp [intOf];omega
  ·have i1:¬(i:Int)<(n:Int):=by omega
   have HO2:=hZ (show OwB w8 g rv (List.replicate n 9) by have:=uZ HO;rw [show i=n by omega] at this;exact this)
   obtain⟨ao,cp,rfl,hcv⟩:=(uZ HO2).conv
   simp only [List.length_replicate] at hcv
   clear HO
   go_wp2_with fail
   go_ret
   exact⟨rfl,by first|exact uZ HX|(rw [hg];exact uZ HX)|(rw [←hg];exact uZ HX)⟩
theorem rbehind_any (s:ByteArray) (hs:s.size≤1000) (B0:Nat) (y:Tn) (x:List Value) (w:World) (hB:B0≤w.heap.size) (hx:IsN w (fun b=>b<B0) y x) (hE:∀z,y.ks[0]?=some z→ExD B0 z∧(exT z).length≤10000000000) :
  Calls Tryz.prog 82 #[.string s,.agg x.toArray] w fun e w'=>e=.returned (.string (bA (if y.ks.length=0 then [] else s.data.toList++((exM y.ks)[0]?).getD [])))∧Below w.heap.size w w':=by
 have hx0:=hx
 obtain⟨vk,vn,vs,al,ak,a,ll,cl,lk,ck,cc,rfl,hvv,hr,hbk,hbp⟩:=hx.opn
 obtain⟨k,t,v,f,ks,p⟩:=y
 obtain⟨n,hn⟩:∃n,ks.length=n:=⟨_,rfl⟩
 have hnb:n≤140737488351232:=by rw [←hn];exact hr.len
 simp only at hE
 simp only [hn] at hx0 hvv hr hbk hbp ⊢
 obtain⟨R,hR⟩:∃R,(.string (bA (if n=0 then [] else s.data.toList++((exM ks)[0]?).getD [])):Value)=R:=⟨_,rfl⟩
 rw [hR]
 have HR:=hZ hR
 obtain⟨w1,hw1⟩:∃w1,w.alloc (.cells #[.int .i64 k,.string t,.int .i64 vk,.int .i64 vn,.string vs,.slice al ll cl,.slice ak lk ck,.bool f,.slice a n cc,.int .i64 p] 28)=w1:=⟨_,rfl⟩
 obtain⟨G,hG⟩:∃G,w.heap.size=G:=⟨_,rfl⟩
 obtain⟨A1,X1⟩:=al1 hw1 hG
 have hBG:B0≤G:=by rw [←hG];exact hB
 have HM:Hid (NM5 B0 G w w1 ⟨k,t,v,f,ks,p⟩ [.int .i64 k,.string t,.int .i64 vk,.int .i64 vn,.string vs,.slice al ll cl,.slice ak lk ck,.bool f,.slice a n cc,.int .i64 p] ks a cc v (.agg #[.int .i64 vk,.int .i64 vn,.string vs,.slice al ll cl,.slice ak lk ck])):=hZ (fun u hu=>by
  have h2:=X1.trans (hu.mono (Nat.le_of_lt (lt_of_row A1)))
  exact⟨hx0.laterB (h2.mono hBG),hr.later (h2.mono hBG),Nat.le_trans hBG (by rw [←hG];exact h2.size),hvv.mono (h2.mono hBG),h2⟩)
 have HF:Hid (NF10 w1 G (.int .i64 k) (.string t) (.int .i64 vk) (.int .i64 vn) (.string vs) (.slice al ll cl) (.slice ak lk ck) (.bool f) (.slice a n cc) (.int .i64 p)):=hZ (fun u hu=>row_ten (Below.cellsAt hu A1))
 have HN:=hZ hn
 have HS0:Hid (Below w1.heap.size w1 w1):=hZ (Below.refl _ _)
 have HW:=hZ hw1
 have HE:=hZ hE
 have HR2:=hZ (show n=ks.length from hn.symm)
 clear hE
 clear A1 X1 hw1 hx hx0 hr hvv hB hBG hn hR
 go_enter Tryz.func82,Tryz.ntmps82
 go_upto_region 1 with fail
 rw [uZ HW]
 try rw [hG]
 clear HW
 obtain⟨x0,x1,x2,x3,x4,x5,x6,x7,x8,x9⟩:=uZ HF w1 (Below.refl _ _)
 by_cases h0:n=0
 ·subst h0
  have HV:=hZ (show R=.string ⟨#[]⟩ by rw [←uZ HR];simp [bA])
  clear HR
  go_wp2_with fail
  go_ret
  have hbz:=((uZ HM) w1 (uZ HS0)).2.2.2.2
  exact⟨by rw [uZ HV] <;> rfl,by subst hG;exact hbz⟩
 ·have b0:((n:Int) == 0)=false:=by simp;omega
  have p0:(0:Int)<(n:Int):=by omega
  obtain⟨z,hz⟩:∃z,ks[0]?=some z:=⟨_,List.getElem?_eq_getElem (by have:=uZ HN;omega)⟩
  have HZ:=hZ hz
  obtain⟨b,vky,vny,vsy,aly,aky,ay,lly,cly,lky,cky,ny,ccy,rfl,hcy,hby,hny,hzy,hcelly⟩:=((uZ HM) w1 (uZ HS0)).2.1.ten hz
  have e0:w1.cell? b=some (.int .i64 z.k):=hcelly 0 _ rfl
  have e1:w1.cell? ⟨b.block,b.off+1,none⟩=some (.string z.t):=hcelly 1 _ rfl
  have e2:w1.cell? ⟨b.block,b.off+2,none⟩=some (.int .i64 vky):=hcelly 2 _ rfl
  have e3:w1.cell? ⟨b.block,b.off+3,none⟩=some (.int .i64 vny):=hcelly 3 _ rfl
  have e4:w1.cell? ⟨b.block,b.off+4,none⟩=some (.string vsy):=hcelly 4 _ rfl
  have e5:w1.cell? ⟨b.block,b.off+5,none⟩=some (.slice aly lly cly):=hcelly 5 _ rfl
  have e6:w1.cell? ⟨b.block,b.off+6,none⟩=some (.slice aky lky cky):=hcelly 6 _ rfl
  have e7:w1.cell? ⟨b.block,b.off+7,none⟩=some (.bool z.f):=hcelly 7 _ rfl
  have e8:w1.cell? ⟨b.block,b.off+8,none⟩=some (.slice ay ny ccy):=hcelly 8 _ rfl
  have e9:w1.cell? ⟨b.block,b.off+9,none⟩=some (.int .i64 z.p):=hcelly 9 _ rfl
  have CS:=hZ ((uZ HE z hz).1 _ w1 ((uZ HM) w1 (uZ HS0)).2.2.1 hzy)
  have hlz:=(uZ HE z hz).2
  obtain⟨S,hS⟩:∃S,bA (exT z)=S:=⟨_,rfl⟩
  rw [hS] at CS
  have dS:S.data.toList=exT z:=by rw [←hS,bA_data]
  have sS:S.size≤10000000000:=by
   have e:S.size=(exT z).length:=by rw [←hS,bA_size]
   omega
  have hzA:¬9223372036854775807<s.size+S.size:=by omega
  obtain⟨A,eA⟩:∃z,(s++S:ByteArray)=z:=⟨_,rfl⟩
  have dA:A.data.toList=s.data.toList++exT z:=by rw [←eA,ByteArray.data_append,Array.toList_append] <;> (rw [dS])
  have sA:A.size≤s.size+S.size:=by rw [←eA,ByteArray.size_append];exact Nat.le_refl _
  have HV:=hZ (show R=.string A by
   rw [←uZ HR,if_neg h0,exM_at ks 0 z hz]
   exact congrArg Value.string (bA_eq A _ dA).symm)
  clear HR dA dS hS hz hcy hby hny hzy hcelly
  go_wp2_with fail
  refine(uZ CS).mono ?_
  rintro e w2 ⟨rfl,bb⟩
  have HS2:=hZ bb
  clear bb CS e0 e1 e2 e3 e4 e5 e6 e7 e8 e9 x0 x1 x2 x3 x4 x5 x6 x7 x8 x9
  go_wp2_with fail
  go_ret
  have hbz:=((uZ HM) w2 (uZ HS2)).2.2.2.2
  exact⟨by rw [uZ HV] <;> rfl,by subst hG;exact hbz⟩
end Go.Proofs.YtlkeaaopdnnceaaGreatDoor
