/-
  a statement, kind by kind (the document's).
  Conditions: where nodes are told of, they lie in memory.
-/
import Derived.Test.YtlkeaaopdnnceaaGreatDoorA38
set_option linter.unusedVariables false
set_option linter.unusedSimpArgs false
set_option maxRecDepth 100000
set_option maxHeartbeats 8000000
namespace Go.Proofs.YtlkeaaopdnnceaaGreatDoor
open Go.RowKit
set_option linter.unusedVariables false
set_option linter.unusedSimpArgs false
theorem st8_eq (d:Nat) (t:ByteArray) (v:Vl) (f:Bool) (ks:List Tn) (p:Int):stT d ⟨8,t,v,f,ks,p⟩=[119,104,105,108,101,32,40]++(((exM ks)[0]?).getD []++(41 :: 32 :: ((ks[1]?).map (stT (d+1))).getD [])):=by simp [stT,st1,stM_map]
theorem st7_eq2 (d:Nat) (t:ByteArray) (v:Vl) (f:Bool) (ks:List Tn) (p:Int) (h:ks[2]?=none):stT d ⟨7,t,v,f,ks,p⟩=[105,102,32,40]++(((exM ks)[0]?).getD []++(41 :: 32 :: ((ks[1]?).map (stT (d+1))).getD [])):=by simp [stT,st1,stM_map,h]
theorem st7_eq3 (d:Nat) (t:ByteArray) (v:Vl) (f:Bool) (ks:List Tn) (p:Int) (c:Tn) (h:ks[2]?=some c):stT d ⟨7,t,v,f,ks,p⟩=[105,102,32,40]++(((exM ks)[0]?).getD []++(41 :: 32 :: ((ks[1]?).map (stT (d+1))).getD []))++(32 :: 101 :: 108 :: 115 :: 101 :: 32 :: (if c.k=7 then stT d c else stT (d+1) c)):=by simp [stT,st1,stM_map,h]
def StD (B0 d:Nat) (y:Tn):Prop:=∀(x:List Value) (u:World),B0≤u.heap.size→IsN u (fun b=>b<B0) y x→Calls Tryz.prog 47 #[.agg x.toArray,.int .i64 (d:Int)] u fun e u'=>e=.returned (.string (bA (stT d y)))∧Below u.heap.size u u'
def BlD (B0 d:Nat) (y:Tn):Prop:=∀(x:List Value) (u:World),B0≤u.heap.size→IsN u (fun b=>b<B0) y x→Calls Tryz.prog 24 #[.agg x.toArray,.int .i64 (d:Int)] u fun e u'=>e=.returned (.string (bA (stT (d+1) y)))∧Below u.heap.size u u'
theorem rst5_any (d B0:Nat) (y:Tn) (x:List Value) (w:World) (hB:B0≤w.heap.size) (hx:IsN w (fun b=>b<B0) y x) (hk:y.k=5) (htz:y.t.size≤1000) (hE:∀z,y.ks[0]?=some z→ExD B0 z∧(exT z).length≤10000000000) (hn1:y.ks.length≤1) :
  Calls Tryz.prog 47 #[.agg x.toArray,.int .i64 (d:Int)] w fun e w'=>e=.returned (.string (bA (stT d y)))∧Below w.heap.size w w':=by
 have hx0:=hx
 obtain⟨vk,vn,vs,al,ak,a,ll,cl,lk,ck,cc,rfl,hvv,hr,hbk,hbp⟩:=hx.opn
 obtain⟨k,t,v,f,ks,p⟩:=y
 simp only at hk htz hE hn1
 subst hk
 obtain⟨n,hn⟩:∃n,ks.length=n:=⟨_,rfl⟩
 have hnb:n≤140737488351232:=by rw [←hn];exact hr.len
 simp only [hn] at hx0 hvv hr hbk hbp ⊢
 obtain⟨R,hR⟩:∃R,(.string (bA (stT d ⟨5,t,v,f,ks,p⟩)):Value)=R:=⟨_,rfl⟩
 rw [hR]
 have HR:=hZ hR
 obtain⟨w1,hw1⟩:∃w1,w.alloc (.cells #[.int .i64 5,.string t,.int .i64 vk,.int .i64 vn,.string vs,.slice al ll cl,.slice ak lk ck,.bool f,.slice a n cc,.int .i64 p] 28)=w1:=⟨_,rfl⟩
 obtain⟨G,hG⟩:∃G,w.heap.size=G:=⟨_,rfl⟩
 obtain⟨A1,X1⟩:=al1 hw1 hG
 have hBG:B0≤G:=by rw [←hG];exact hB
 have HM:Hid (NM5 B0 G w w1 ⟨5,t,v,f,ks,p⟩ [.int .i64 5,.string t,.int .i64 vk,.int .i64 vn,.string vs,.slice al ll cl,.slice ak lk ck,.bool f,.slice a n cc,.int .i64 p] ks a cc v (.agg #[.int .i64 vk,.int .i64 vn,.string vs,.slice al ll cl,.slice ak lk ck])):=hZ (fun u hu=>by
  have h2:=X1.trans (hu.mono (Nat.le_of_lt (lt_of_row A1)))
  exact⟨hx0.laterB (h2.mono hBG),hr.later (h2.mono hBG),Nat.le_trans hBG (by rw [←hG];exact h2.size),hvv.mono (h2.mono hBG),h2⟩)
 have HF:Hid (NF10 w1 G (.int .i64 5) (.string t) (.int .i64 vk) (.int .i64 vn) (.string vs) (.slice al ll cl) (.slice ak lk ck) (.bool f) (.slice a n cc) (.int .i64 p)):=hZ (fun u hu=>row_ten (Below.cellsAt hu A1))
 have HN:=hZ hn
 have HS0:Hid (Below w1.heap.size w1 w1):=hZ (Below.refl _ _)
 have HW:=hZ hw1
 have HE:=hZ hE
 have hn01:n=0∨n=1:=by omega
 have HN1:=hZ hn01
 clear hE hn1 hn01
 clear A1 X1 hw1 hx hx0 hr hvv hB hBG hn hR
 go_enter Tryz.func47,Tryz.ntmps47
 go_upto_region 1 with fail
 rw [uZ HW]
 try rw [hG]
 clear HW
 have CB:Hid (∀u,Below w1.heap.size w1 u→Calls Tryz.prog 82 #[.string ⟨#[32,61,32]⟩,.agg #[.int .i64 5,.string t,.int .i64 vk,.int .i64 vn,.string vs,.slice al ll cl,.slice ak lk ck,.bool f,.slice a n cc,.int .i64 p]] u fun e u'=>e=.returned (.string (bA (if n=0 then [] else [32,61,32]++((exM ks)[0]?).getD [])))∧Below u.heap.size u u'):=hZ (fun u hu=>by
  have h:=rbehind_any ⟨#[32,61,32]⟩ (by decide) B0 ⟨5,t,v,f,ks,p⟩ _ u ((uZ HM) u hu).2.2.1 ((uZ HM) u hu).1 (uZ HE)
  simp only [uZ HN] at h
  exact h)
 have lJ:((if n=0 then [] else [32,61,32]++((exM ks)[0]?).getD []):List UInt8).length≤10000001000:=by
  split
  ·simp
  ·rename_i h
   obtain⟨z,hz⟩:∃z,ks[0]?=some z:=⟨_,List.getElem?_eq_getElem (by have:=uZ HN;omega)⟩
   have:=(uZ HE z hz).2
   rw [exM_at ks 0 z hz]
   simp
   omega
 obtain⟨J,hJ⟩:∃S,bA (if n=0 then [] else [32,61,32]++((exM ks)[0]?).getD [])=S:=⟨_,rfl⟩
 rw [hJ] at CB
 have dJ:J.data.toList=(if n=0 then [] else [32,61,32]++((exM ks)[0]?).getD []):=by rw [←hJ,bA_data]
 have sJ:J.size≤10000001000:=by
  have e:J.size=((if n=0 then [] else [32,61,32]++((exM ks)[0]?).getD []):List UInt8).length:=by rw [←hJ,bA_size]
  omega
 clear hJ lJ
 have hzA:¬9223372036854775807<4+t.size:=by omega
 obtain⟨A,eA⟩:∃z,(⟨#[108,101,116,32]⟩++t:ByteArray)=z:=⟨_,rfl⟩
 have dA:A.data.toList=[108,101,116,32]++t.data.toList:=by rw [←eA,ByteArray.data_append,Array.toList_append] <;> (rfl)
 have sA:A.size≤4+t.size:=by rw [←eA,ByteArray.size_append];exact Nat.le_refl _
 have hzB:¬9223372036854775807<A.size+J.size:=by omega
 obtain⟨B,eB⟩:∃z,(A++J:ByteArray)=z:=⟨_,rfl⟩
 have dB:B.data.toList=[108,101,116,32]++t.data.toList++(if n=0 then [] else [32,61,32]++((exM ks)[0]?).getD []):=by rw [←eB,ByteArray.data_append,Array.toList_append] <;> (rw [dA,dJ])
 have sB:B.size≤A.size+J.size:=by rw [←eB,ByteArray.size_append];exact Nat.le_refl _
 have hzD:¬9223372036854775807<B.size+1:=by omega
 obtain⟨D,eD⟩:∃z,(B++⟨#[59]⟩:ByteArray)=z:=⟨_,rfl⟩
 have dD:D.data.toList=[108,101,116,32]++t.data.toList++(if n=0 then [] else [32,61,32]++((exM ks)[0]?).getD [])++[59]:=by rw [←eD,ByteArray.data_append,Array.toList_append] <;> (rw [dB] <;> rfl)
 have sD:D.size≤B.size+1:=by rw [←eD,ByteArray.size_append];exact Nat.le_refl _
 have HV:=hZ (show R=.string D by rw [←uZ HR];exact congrArg Value.string (bA_eq D _ (by
   rw [dD]
   have e:=uZ HN
   rcases uZ HN1 with h|h <;> rw [h] at e ⊢ <;> simp [stT,st1,e])).symm)
 clear HR
 clear dA dB dD dJ
 obtain⟨x0,x1,x2,x3,x4,x5,x6,x7,x8,x9⟩:=uZ HF w1 (Below.refl _ _)
 go_upto_region 3 with fail
 clear x0 x1 x2 x3 x4 x5 x6 x7 x8 x9
 have HD0:Hid (Below w1.heap.size w1 w1.drew):=hZ ((Below.refl _ _).drew)
 refine till_begin (S:=fun w'=>Below w1.heap.size w1 w') 7 (by kernel_rfl) ?_
 obtain⟨W0,hW0⟩:∃W0,w1.drew=W0:=⟨_,rfl⟩
 try rw [hW0]
 rw [hW0] at HD0
 clear hW0
 refine tK 0 (v:=.pointer (some ⟨G,1,none⟩)) (some 10) rfl rfl rfl (by kernel_rfl) (fun _ _ _ h=>h) (Or.inl ⟨by rfl,fun u hu=>by obtain⟨x0,x1,x2,x3,x4,x5,x6,x7,x8,x9⟩:=uZ HF u hu;go_simp⟩) (uZ HD0) ?_
 try simp only [Act.put,sA,sB,sC]
 refine tK 1 (v:=.string t) (some 11) rfl rfl rfl (by kernel_rfl) (fun _ _ _ h=>h) (Or.inl ⟨by rfl,fun u hu=>by obtain⟨x0,x1,x2,x3,x4,x5,x6,x7,x8,x9⟩:=uZ HF u hu;go_simp⟩) (uZ HD0) ?_
 try simp only [Act.put,sA,sB,sC]
 refine tK 2 (v:=.string A) (some 12) rfl rfl rfl (by kernel_rfl) (fun _ _ _ h=>h) (Or.inl ⟨by rfl,fun u hu=>by obtain⟨x0,x1,x2,x3,x4,x5,x6,x7,x8,x9⟩:=uZ HF u hu;go_simp⟩) (uZ HD0) ?_
 try simp only [Act.put,sA,sB,sC]
 refine tK 3 (v:=.agg #[.int .i64 5,.string t,.int .i64 vk,.int .i64 vn,.string vs,.slice al ll cl,.slice ak lk ck,.bool f,.slice a n cc,.int .i64 p]) (some 13) rfl rfl rfl (by kernel_rfl) (fun _ _ _ h=>h) (Or.inl ⟨by rfl,fun u hu=>by obtain⟨x0,x1,x2,x3,x4,x5,x6,x7,x8,x9⟩:=uZ HF u hu;go_simp⟩) (uZ HD0) ?_
 try simp only [Act.put,sA,sB,sC]
 refine till_one 4 (by kernel_rfl) rfl (fun K hK=>?_)
 go_simp
 refine((uZ CB) W0 (uZ HD0)).mono ?_
 rintro e W1 ⟨rfl,bb⟩
 have HD1:=hZ ((uZ HD0).trans (bb.mono (uZ HD0).size))
 clear bb
 go_wp2_with fail
 refine hK.out _ _ (Or.inr (uZ HD1)) ?_
 clear hK K HD0
 try simp only [Act.put,sA,sB,sC]
 refine till_one 5 (by kernel_rfl) rfl (fun K hK=>?_)
 go_simp
 refine hK.out _ _ (Or.inr (uZ HD1)) ?_
 clear hK K
 try simp only [Act.put,sA,sB,sC]
 refine till_one 6 (by kernel_rfl) rfl (fun K hK=>?_)
 go_simp
 refine hK.out _ _ (Or.inr (uZ HD1)) ?_
 clear hK K
 try simp only [Act.put,sA,sB,sC]
 refine till_one 7 (by kernel_rfl) rfl (fun K hK=>?_)
 go_simp
 refine hK.out _ _ (Or.inl (by first|rfl|trivial)) ?_
 clear hK K
 try simp only [Act.put,sA,sB,sC]
 refine till_done (by kernel_rfl) ?_ _
 go_wp2_with fail
 go_ret
 have hbz:=((uZ HM) W1 (uZ HD1)).2.2.2.2
 exact⟨by rw [uZ HV] <;> rfl,by subst hG;exact hbz⟩
theorem rst6_any (d B0:Nat) (y:Tn) (x:List Value) (w:World) (hB:B0≤w.heap.size) (hx:IsN w (fun b=>b<B0) y x) (hk:y.k=6) (htz:y.t.size≤1000) (hE:∀z,y.ks[0]?=some z→ExD B0 z∧(exT z).length≤10000000000) (hn1:y.ks.length=1) :
  Calls Tryz.prog 47 #[.agg x.toArray,.int .i64 (d:Int)] w fun e w'=>e=.returned (.string (bA (stT d y)))∧Below w.heap.size w w':=by
 have hx0:=hx
 obtain⟨vk,vn,vs,al,ak,a,ll,cl,lk,ck,cc,rfl,hvv,hr,hbk,hbp⟩:=hx.opn
 obtain⟨k,t,v,f,ks,p⟩:=y
 simp only at hk htz hE hn1
 subst hk
 obtain⟨n,hn⟩:∃n,ks.length=n:=⟨_,rfl⟩
 have hnb:n≤140737488351232:=by rw [←hn];exact hr.len
 simp only [hn] at hx0 hvv hr hbk hbp ⊢
 obtain⟨R,hR⟩:∃R,(.string (bA (stT d ⟨6,t,v,f,ks,p⟩)):Value)=R:=⟨_,rfl⟩
 rw [hR]
 have HR:=hZ hR
 obtain⟨w1,hw1⟩:∃w1,w.alloc (.cells #[.int .i64 6,.string t,.int .i64 vk,.int .i64 vn,.string vs,.slice al ll cl,.slice ak lk ck,.bool f,.slice a n cc,.int .i64 p] 28)=w1:=⟨_,rfl⟩
 obtain⟨G,hG⟩:∃G,w.heap.size=G:=⟨_,rfl⟩
 obtain⟨A1,X1⟩:=al1 hw1 hG
 have hBG:B0≤G:=by rw [←hG];exact hB
 have HM:Hid (NM5 B0 G w w1 ⟨6,t,v,f,ks,p⟩ [.int .i64 6,.string t,.int .i64 vk,.int .i64 vn,.string vs,.slice al ll cl,.slice ak lk ck,.bool f,.slice a n cc,.int .i64 p] ks a cc v (.agg #[.int .i64 vk,.int .i64 vn,.string vs,.slice al ll cl,.slice ak lk ck])):=hZ (fun u hu=>by
  have h2:=X1.trans (hu.mono (Nat.le_of_lt (lt_of_row A1)))
  exact⟨hx0.laterB (h2.mono hBG),hr.later (h2.mono hBG),Nat.le_trans hBG (by rw [←hG];exact h2.size),hvv.mono (h2.mono hBG),h2⟩)
 have HF:Hid (NF10 w1 G (.int .i64 6) (.string t) (.int .i64 vk) (.int .i64 vn) (.string vs) (.slice al ll cl) (.slice ak lk ck) (.bool f) (.slice a n cc) (.int .i64 p)):=hZ (fun u hu=>row_ten (Below.cellsAt hu A1))
 have HN:=hZ hn
 have HS0:Hid (Below w1.heap.size w1 w1):=hZ (Below.refl _ _)
 have HW:=hZ hw1
 have HE:=hZ hE
 have HNZ:=hZ (show n≠0 by omega)
 clear hE hn1
 clear A1 X1 hw1 hx hx0 hr hvv hB hBG hn hR
 go_enter Tryz.func47,Tryz.ntmps47
 go_upto_region 1 with fail
 rw [uZ HW]
 try rw [hG]
 clear HW
 have CB:Hid (∀u,Below w1.heap.size w1 u→Calls Tryz.prog 82 #[.string ⟨#[32,61,32]⟩,.agg #[.int .i64 6,.string t,.int .i64 vk,.int .i64 vn,.string vs,.slice al ll cl,.slice ak lk ck,.bool f,.slice a n cc,.int .i64 p]] u fun e u'=>e=.returned (.string (bA (if n=0 then [] else [32,61,32]++((exM ks)[0]?).getD [])))∧Below u.heap.size u u'):=hZ (fun u hu=>by
  have h:=rbehind_any ⟨#[32,61,32]⟩ (by decide) B0 ⟨6,t,v,f,ks,p⟩ _ u ((uZ HM) u hu).2.2.1 ((uZ HM) u hu).1 (uZ HE)
  simp only [uZ HN] at h
  exact h)
 have lJ:((if n=0 then [] else [32,61,32]++((exM ks)[0]?).getD []):List UInt8).length≤10000001000:=by
  split
  ·simp
  ·rename_i h
   obtain⟨z,hz⟩:∃z,ks[0]?=some z:=⟨_,List.getElem?_eq_getElem (by have:=uZ HN;omega)⟩
   have:=(uZ HE z hz).2
   rw [exM_at ks 0 z hz]
   simp
   omega
 obtain⟨J,hJ⟩:∃S,bA (if n=0 then [] else [32,61,32]++((exM ks)[0]?).getD [])=S:=⟨_,rfl⟩
 rw [hJ] at CB
 have dJ:J.data.toList=(if n=0 then [] else [32,61,32]++((exM ks)[0]?).getD []):=by rw [←hJ,bA_data]
 have sJ:J.size≤10000001000:=by
  have e:J.size=((if n=0 then [] else [32,61,32]++((exM ks)[0]?).getD []):List UInt8).length:=by rw [←hJ,bA_size]
  omega
 clear hJ lJ
 have hzB:¬9223372036854775807<t.size+J.size:=by omega
 obtain⟨B,eB⟩:∃z,(t++J:ByteArray)=z:=⟨_,rfl⟩
 have dB:B.data.toList=t.data.toList++(if n=0 then [] else [32,61,32]++((exM ks)[0]?).getD []):=by rw [←eB,ByteArray.data_append,Array.toList_append] <;> (rw [dJ])
 have sB:B.size≤t.size+J.size:=by rw [←eB,ByteArray.size_append];exact Nat.le_refl _
 have hzD:¬9223372036854775807<B.size+1:=by omega
 obtain⟨D,eD⟩:∃z,(B++⟨#[59]⟩:ByteArray)=z:=⟨_,rfl⟩
 have dD:D.data.toList=t.data.toList++(if n=0 then [] else [32,61,32]++((exM ks)[0]?).getD [])++[59]:=by rw [←eD,ByteArray.data_append,Array.toList_append] <;> (rw [dB] <;> rfl)
 have sD:D.size≤B.size+1:=by rw [←eD,ByteArray.size_append];exact Nat.le_refl _
 have HV:=hZ (show R=.string D by rw [←uZ HR];exact congrArg Value.string (bA_eq D _ (by
   rw [dD]
   have h:n≠0:=(uZ HNZ)
   rw [if_neg h]
   simp [stT,st1])).symm)
 clear HR
 clear dB dD dJ
 obtain⟨x0,x1,x2,x3,x4,x5,x6,x7,x8,x9⟩:=uZ HF w1 (Below.refl _ _)
 go_upto_region 5 with fail
 clear x0 x1 x2 x3 x4 x5 x6 x7 x8 x9
 have HD0:Hid (Below w1.heap.size w1 w1.drew):=hZ ((Below.refl _ _).drew)
 refine till_begin (S:=fun w'=>Below w1.heap.size w1 w') 6 (by kernel_rfl) ?_
 obtain⟨W0,hW0⟩:∃W0,w1.drew=W0:=⟨_,rfl⟩
 try rw [hW0]
 rw [hW0] at HD0
 clear hW0
 refine tK 0 (v:=.pointer (some ⟨G,1,none⟩)) (some 19) rfl rfl rfl (by kernel_rfl) (fun _ _ _ h=>h) (Or.inl ⟨by rfl,fun u hu=>by obtain⟨x0,x1,x2,x3,x4,x5,x6,x7,x8,x9⟩:=uZ HF u hu;go_simp⟩) (uZ HD0) ?_
 try simp only [Act.put,sA,sB,sC]
 refine tK 1 (v:=.string t) (some 20) rfl rfl rfl (by kernel_rfl) (fun _ _ _ h=>h) (Or.inl ⟨by rfl,fun u hu=>by obtain⟨x0,x1,x2,x3,x4,x5,x6,x7,x8,x9⟩:=uZ HF u hu;go_simp⟩) (uZ HD0) ?_
 try simp only [Act.put,sA,sB,sC]
 refine tK 2 (v:=.agg #[.int .i64 6,.string t,.int .i64 vk,.int .i64 vn,.string vs,.slice al ll cl,.slice ak lk ck,.bool f,.slice a n cc,.int .i64 p]) (some 21) rfl rfl rfl (by kernel_rfl) (fun _ _ _ h=>h) (Or.inl ⟨by rfl,fun u hu=>by obtain⟨x0,x1,x2,x3,x4,x5,x6,x7,x8,x9⟩:=uZ HF u hu;go_simp⟩) (uZ HD0) ?_
 try simp only [Act.put,sA,sB,sC]
 refine till_one 3 (by kernel_rfl) rfl (fun K hK=>?_)
 go_simp
 refine((uZ CB) W0 (uZ HD0)).mono ?_
 rintro e W1 ⟨rfl,bb⟩
 have HD1:=hZ ((uZ HD0).trans (bb.mono (uZ HD0).size))
 clear bb
 go_wp2_with fail
 refine hK.out _ _ (Or.inr (uZ HD1)) ?_
 clear hK K HD0
 try simp only [Act.put,sA,sB,sC]
 refine till_one 4 (by kernel_rfl) rfl (fun K hK=>?_)
 go_simp
 refine hK.out _ _ (Or.inr (uZ HD1)) ?_
 clear hK K
 try simp only [Act.put,sA,sB,sC]
 refine till_one 5 (by kernel_rfl) rfl (fun K hK=>?_)
 go_simp
 refine hK.out _ _ (Or.inr (uZ HD1)) ?_
 clear hK K
 try simp only [Act.put,sA,sB,sC]
 refine till_one 6 (by kernel_rfl) rfl (fun K hK=>?_)
 go_simp
 refine hK.out _ _ (Or.inl (by first|rfl|trivial)) ?_
 clear hK K
 try simp only [Act.put,sA,sB,sC]
 refine till_done (by kernel_rfl) ?_ _
 go_wp2_with fail
 go_ret
 have hbz:=((uZ HM) W1 (uZ HD1)).2.2.2.2
 exact⟨by rw [uZ HV] <;> rfl,by subst hG;exact hbz⟩
theorem rst9_any (d B0:Nat) (y:Tn) (x:List Value) (w:World) (hB:B0≤w.heap.size) (hx:IsN w (fun b=>b<B0) y x) (hk:y.k=9) (htz:y.t.size≤1000) (hE:∀z,y.ks[0]?=some z→ExD B0 z∧(exT z).length≤10000000000) (hn1:y.ks.length≤1) :
  Calls Tryz.prog 47 #[.agg x.toArray,.int .i64 (d:Int)] w fun e w'=>e=.returned (.string (bA (stT d y)))∧Below w.heap.size w w':=by
 have hx0:=hx
 obtain⟨vk,vn,vs,al,ak,a,ll,cl,lk,ck,cc,rfl,hvv,hr,hbk,hbp⟩:=hx.opn
 obtain⟨k,t,v,f,ks,p⟩:=y
 simp only at hk htz hE hn1
 subst hk
 obtain⟨n,hn⟩:∃n,ks.length=n:=⟨_,rfl⟩
 have hnb:n≤140737488351232:=by rw [←hn];exact hr.len
 simp only [hn] at hx0 hvv hr hbk hbp ⊢
 obtain⟨R,hR⟩:∃R,(.string (bA (stT d ⟨9,t,v,f,ks,p⟩)):Value)=R:=⟨_,rfl⟩
 rw [hR]
 have HR:=hZ hR
 obtain⟨w1,hw1⟩:∃w1,w.alloc (.cells #[.int .i64 9,.string t,.int .i64 vk,.int .i64 vn,.string vs,.slice al ll cl,.slice ak lk ck,.bool f,.slice a n cc,.int .i64 p] 28)=w1:=⟨_,rfl⟩
 obtain⟨G,hG⟩:∃G,w.heap.size=G:=⟨_,rfl⟩
 obtain⟨A1,X1⟩:=al1 hw1 hG
 have hBG:B0≤G:=by rw [←hG];exact hB
 have HM:Hid (NM5 B0 G w w1 ⟨9,t,v,f,ks,p⟩ [.int .i64 9,.string t,.int .i64 vk,.int .i64 vn,.string vs,.slice al ll cl,.slice ak lk ck,.bool f,.slice a n cc,.int .i64 p] ks a cc v (.agg #[.int .i64 vk,.int .i64 vn,.string vs,.slice al ll cl,.slice ak lk ck])):=hZ (fun u hu=>by
  have h2:=X1.trans (hu.mono (Nat.le_of_lt (lt_of_row A1)))
  exact⟨hx0.laterB (h2.mono hBG),hr.later (h2.mono hBG),Nat.le_trans hBG (by rw [←hG];exact h2.size),hvv.mono (h2.mono hBG),h2⟩)
 have HF:Hid (NF10 w1 G (.int .i64 9) (.string t) (.int .i64 vk) (.int .i64 vn) (.string vs) (.slice al ll cl) (.slice ak lk ck) (.bool f) (.slice a n cc) (.int .i64 p)):=hZ (fun u hu=>row_ten (Below.cellsAt hu A1))
 have HN:=hZ hn
 have HS0:Hid (Below w1.heap.size w1 w1):=hZ (Below.refl _ _)
 have HW:=hZ hw1
 have HE:=hZ hE
 have hn01:n=0∨n=1:=by omega
 have HN1:=hZ hn01
 clear hE hn1 hn01
 clear A1 X1 hw1 hx hx0 hr hvv hB hBG hn hR
 go_enter Tryz.func47,Tryz.ntmps47
 go_upto_region 1 with fail
 rw [uZ HW]
 try rw [hG]
 clear HW
 have CB:Hid (∀u,Below w1.heap.size w1 u→Calls Tryz.prog 82 #[.string ⟨#[32]⟩,.agg #[.int .i64 9,.string t,.int .i64 vk,.int .i64 vn,.string vs,.slice al ll cl,.slice ak lk ck,.bool f,.slice a n cc,.int .i64 p]] u fun e u'=>e=.returned (.string (bA (if n=0 then [] else [32]++((exM ks)[0]?).getD [])))∧Below u.heap.size u u'):=hZ (fun u hu=>by
  have h:=rbehind_any ⟨#[32]⟩ (by decide) B0 ⟨9,t,v,f,ks,p⟩ _ u ((uZ HM) u hu).2.2.1 ((uZ HM) u hu).1 (uZ HE)
  simp only [uZ HN] at h
  exact h)
 have lJ:((if n=0 then [] else [32]++((exM ks)[0]?).getD []):List UInt8).length≤10000001000:=by
  split
  ·simp
  ·rename_i h
   obtain⟨z,hz⟩:∃z,ks[0]?=some z:=⟨_,List.getElem?_eq_getElem (by have:=uZ HN;omega)⟩
   have:=(uZ HE z hz).2
   rw [exM_at ks 0 z hz]
   simp
   omega
 obtain⟨J,hJ⟩:∃S,bA (if n=0 then [] else [32]++((exM ks)[0]?).getD [])=S:=⟨_,rfl⟩
 rw [hJ] at CB
 have dJ:J.data.toList=(if n=0 then [] else [32]++((exM ks)[0]?).getD []):=by rw [←hJ,bA_data]
 have sJ:J.size≤10000001000:=by
  have e:J.size=((if n=0 then [] else [32]++((exM ks)[0]?).getD []):List UInt8).length:=by rw [←hJ,bA_size]
  omega
 clear hJ lJ
 have hzB:¬9223372036854775807<6+J.size:=by omega
 obtain⟨B,eB⟩:∃z,(⟨#[114,101,116,117,114,110]⟩++J:ByteArray)=z:=⟨_,rfl⟩
 have dB:B.data.toList=[114,101,116,117,114,110]++(if n=0 then [] else [32]++((exM ks)[0]?).getD []):=by rw [←eB,ByteArray.data_append,Array.toList_append] <;> (rw [dJ] <;> rfl)
 have sB:B.size≤6+J.size:=by rw [←eB,ByteArray.size_append];exact Nat.le_refl _
 have hzD:¬9223372036854775807<B.size+1:=by omega
 obtain⟨D,eD⟩:∃z,(B++⟨#[59]⟩:ByteArray)=z:=⟨_,rfl⟩
 have dD:D.data.toList=[114,101,116,117,114,110]++(if n=0 then [] else [32]++((exM ks)[0]?).getD [])++[59]:=by rw [←eD,ByteArray.data_append,Array.toList_append] <;> (rw [dB] <;> rfl)
 have sD:D.size≤B.size+1:=by rw [←eD,ByteArray.size_append];exact Nat.le_refl _
 have HV:=hZ (show R=.string D by rw [←uZ HR];exact congrArg Value.string (bA_eq D _ (by
   rw [dD]
   have e:=uZ HN
   rcases uZ HN1 with h|h <;> rw [h] at e ⊢ <;> simp [stT,st1,e])).symm)
 clear HR
 clear dB dD dJ
 obtain⟨x0,x1,x2,x3,x4,x5,x6,x7,x8,x9⟩:=uZ HF w1 (Below.refl _ _)
 have CB1:=hZ ((uZ CB) w1 (Below.refl _ _))
 go_wp2_with fail
 refine(uZ CB1).mono ?_
 rintro e w2 ⟨rfl,bb⟩
 have HS2:=hZ bb
 clear bb CB CB1 x0 x1 x2 x3 x4 x5 x6 x7 x8 x9
 go_wp2_with fail
 go_ret
 have hbz:=((uZ HM) w2 (uZ HS2)).2.2.2.2
 exact⟨by rw [uZ HV] <;> rfl,by subst hG;exact hbz⟩
theorem rst12_any (d B0:Nat) (y:Tn) (x:List Value) (w:World) (hB:B0≤w.heap.size) (hx:IsN w (fun b=>b<B0) y x) (hk:y.k=12) (htz:y.t.size≤1000) (hE:∀z,y.ks[0]?=some z→ExD B0 z∧(exT z).length≤10000000000) (hn1:y.ks.length=1) :
  Calls Tryz.prog 47 #[.agg x.toArray,.int .i64 (d:Int)] w fun e w'=>e=.returned (.string (bA (stT d y)))∧Below w.heap.size w w':=by
 have hx0:=hx
 obtain⟨vk,vn,vs,al,ak,a,ll,cl,lk,ck,cc,rfl,hvv,hr,hbk,hbp⟩:=hx.opn
 obtain⟨k,t,v,f,ks,p⟩:=y
 simp only at hk htz hE hn1
 subst hk
 obtain⟨n,hn⟩:∃n,ks.length=n:=⟨_,rfl⟩
 have hnb:n≤140737488351232:=by rw [←hn];exact hr.len
 simp only [hn] at hx0 hvv hr hbk hbp ⊢
 obtain⟨R,hR⟩:∃R,(.string (bA (stT d ⟨12,t,v,f,ks,p⟩)):Value)=R:=⟨_,rfl⟩
 rw [hR]
 have HR:=hZ hR
 obtain⟨w1,hw1⟩:∃w1,w.alloc (.cells #[.int .i64 12,.string t,.int .i64 vk,.int .i64 vn,.string vs,.slice al ll cl,.slice ak lk ck,.bool f,.slice a n cc,.int .i64 p] 28)=w1:=⟨_,rfl⟩
 obtain⟨G,hG⟩:∃G,w.heap.size=G:=⟨_,rfl⟩
 obtain⟨A1,X1⟩:=al1 hw1 hG
 have hBG:B0≤G:=by rw [←hG];exact hB
 have HM:Hid (NM5 B0 G w w1 ⟨12,t,v,f,ks,p⟩ [.int .i64 12,.string t,.int .i64 vk,.int .i64 vn,.string vs,.slice al ll cl,.slice ak lk ck,.bool f,.slice a n cc,.int .i64 p] ks a cc v (.agg #[.int .i64 vk,.int .i64 vn,.string vs,.slice al ll cl,.slice ak lk ck])):=hZ (fun u hu=>by
  have h2:=X1.trans (hu.mono (Nat.le_of_lt (lt_of_row A1)))
  exact⟨hx0.laterB (h2.mono hBG),hr.later (h2.mono hBG),Nat.le_trans hBG (by rw [←hG];exact h2.size),hvv.mono (h2.mono hBG),h2⟩)
 have HF:Hid (NF10 w1 G (.int .i64 12) (.string t) (.int .i64 vk) (.int .i64 vn) (.string vs) (.slice al ll cl) (.slice ak lk ck) (.bool f) (.slice a n cc) (.int .i64 p)):=hZ (fun u hu=>row_ten (Below.cellsAt hu A1))
 have HN:=hZ hn
 have HS0:Hid (Below w1.heap.size w1 w1):=hZ (Below.refl _ _)
 have HW:=hZ hw1
 have HE:=hZ hE
 have HNZ:=hZ (show n≠0 by omega)
 clear hE hn1
 clear A1 X1 hw1 hx hx0 hr hvv hB hBG hn hR
 go_enter Tryz.func47,Tryz.ntmps47
 go_upto_region 1 with fail
 rw [uZ HW]
 try rw [hG]
 clear HW
 have CB:Hid (∀u,Below w1.heap.size w1 u→Calls Tryz.prog 82 #[.string ⟨#[]⟩,.agg #[.int .i64 12,.string t,.int .i64 vk,.int .i64 vn,.string vs,.slice al ll cl,.slice ak lk ck,.bool f,.slice a n cc,.int .i64 p]] u fun e u'=>e=.returned (.string (bA (if n=0 then [] else ([]:List UInt8)++((exM ks)[0]?).getD [])))∧Below u.heap.size u u'):=hZ (fun u hu=>by
  have h:=rbehind_any ⟨#[]⟩ (by decide) B0 ⟨12,t,v,f,ks,p⟩ _ u ((uZ HM) u hu).2.2.1 ((uZ HM) u hu).1 (uZ HE)
  simp only [uZ HN] at h
  exact h)
 have lJ:((if n=0 then [] else ([]:List UInt8)++((exM ks)[0]?).getD []):List UInt8).length≤10000001000:=by
  split
  ·simp
  ·rename_i h
   obtain⟨z,hz⟩:∃z,ks[0]?=some z:=⟨_,List.getElem?_eq_getElem (by have:=uZ HN;omega)⟩
   have:=(uZ HE z hz).2
   rw [exM_at ks 0 z hz]
   simp
   omega
 obtain⟨J,hJ⟩:∃S,bA (if n=0 then [] else ([]:List UInt8)++((exM ks)[0]?).getD [])=S:=⟨_,rfl⟩
 rw [hJ] at CB
 have dJ:J.data.toList=(if n=0 then [] else ([]:List UInt8)++((exM ks)[0]?).getD []):=by rw [←hJ,bA_data]
 have sJ:J.size≤10000001000:=by
  have e:J.size=((if n=0 then [] else ([]:List UInt8)++((exM ks)[0]?).getD []):List UInt8).length:=by rw [←hJ,bA_size]
  omega
 clear hJ lJ
 have hzD:¬9223372036854775807<J.size+1:=by omega
 obtain⟨D,eD⟩:∃z,(J++⟨#[59]⟩:ByteArray)=z:=⟨_,rfl⟩
 have dD:D.data.toList=(if n=0 then [] else ([]:List UInt8)++((exM ks)[0]?).getD [])++[59]:=by rw [←eD,ByteArray.data_append,Array.toList_append] <;> (rw [dJ] <;> rfl)
 have sD:D.size≤J.size+1:=by rw [←eD,ByteArray.size_append];exact Nat.le_refl _
 have HV:=hZ (show R=.string D by rw [←uZ HR];exact congrArg Value.string (bA_eq D _ (by
   rw [dD]
   have h:n≠0:=(uZ HNZ)
   rw [if_neg h]
   simp [stT,st1])).symm)
 clear HR
 clear dD dJ
 obtain⟨x0,x1,x2,x3,x4,x5,x6,x7,x8,x9⟩:=uZ HF w1 (Below.refl _ _)
 have CB1:=hZ ((uZ CB) w1 (Below.refl _ _))
 go_wp2_with fail
 refine(uZ CB1).mono ?_
 rintro e w2 ⟨rfl,bb⟩
 have HS2:=hZ bb
 clear bb CB CB1 x0 x1 x2 x3 x4 x5 x6 x7 x8 x9
 go_wp2_with fail
 go_ret
 have hbz:=((uZ HM) w2 (uZ HS2)).2.2.2.2
 exact⟨by rw [uZ HV] <;> rfl,by subst hG;exact hbz⟩
theorem rst10_any (d B0:Nat) (y:Tn) (x:List Value) (w:World) (hB:B0≤w.heap.size) (hx:IsN w (fun b=>b<B0) y x) (hk:y.k=10) (htz:y.t.size≤1000) :
  Calls Tryz.prog 47 #[.agg x.toArray,.int .i64 (d:Int)] w fun e w'=>e=.returned (.string (bA (stT d y)))∧Below w.heap.size w w':=by
 have hx0:=hx
 obtain⟨vk,vn,vs,al,ak,a,ll,cl,lk,ck,cc,rfl,hvv,hr,hbk,hbp⟩:=hx.opn
 obtain⟨k,t,v,f,ks,p⟩:=y
 simp only at hk htz
 subst hk
 obtain⟨n,hn⟩:∃n,ks.length=n:=⟨_,rfl⟩
 have hnb:n≤140737488351232:=by rw [←hn];exact hr.len
 simp only [hn] at hx0 hvv hr hbk hbp ⊢
 obtain⟨R,hR⟩:∃R,(.string (bA (stT d ⟨10,t,v,f,ks,p⟩)):Value)=R:=⟨_,rfl⟩
 rw [hR]
 have HR:=hZ hR
 obtain⟨w1,hw1⟩:∃w1,w.alloc (.cells #[.int .i64 10,.string t,.int .i64 vk,.int .i64 vn,.string vs,.slice al ll cl,.slice ak lk ck,.bool f,.slice a n cc,.int .i64 p] 28)=w1:=⟨_,rfl⟩
 obtain⟨G,hG⟩:∃G,w.heap.size=G:=⟨_,rfl⟩
 obtain⟨A1,X1⟩:=al1 hw1 hG
 have hBG:B0≤G:=by rw [←hG];exact hB
 have HM:Hid (NM5 B0 G w w1 ⟨10,t,v,f,ks,p⟩ [.int .i64 10,.string t,.int .i64 vk,.int .i64 vn,.string vs,.slice al ll cl,.slice ak lk ck,.bool f,.slice a n cc,.int .i64 p] ks a cc v (.agg #[.int .i64 vk,.int .i64 vn,.string vs,.slice al ll cl,.slice ak lk ck])):=hZ (fun u hu=>by
  have h2:=X1.trans (hu.mono (Nat.le_of_lt (lt_of_row A1)))
  exact⟨hx0.laterB (h2.mono hBG),hr.later (h2.mono hBG),Nat.le_trans hBG (by rw [←hG];exact h2.size),hvv.mono (h2.mono hBG),h2⟩)
 have HF:Hid (NF10 w1 G (.int .i64 10) (.string t) (.int .i64 vk) (.int .i64 vn) (.string vs) (.slice al ll cl) (.slice ak lk ck) (.bool f) (.slice a n cc) (.int .i64 p)):=hZ (fun u hu=>row_ten (Below.cellsAt hu A1))
 have HN:=hZ hn
 have HS0:Hid (Below w1.heap.size w1 w1):=hZ (Below.refl _ _)
 have HW:=hZ hw1
 clear A1 X1 hw1 hx hx0 hr hvv hB hBG hn hR
 go_enter Tryz.func47,Tryz.ntmps47
 go_upto_region 1 with fail
 rw [uZ HW]
 try rw [hG]
 clear HW
 obtain⟨x0,x1,x2,x3,x4,x5,x6,x7,x8,x9⟩:=uZ HF w1 (Below.refl _ _)
 have HV:=hZ (show R=.string ⟨#[98,114,101,97,107,59]⟩ by rw [←uZ HR];rfl)
 clear HR
 go_wp2_with fail
 go_ret
 have hbz:=((uZ HM) w1 (uZ HS0)).2.2.2.2
 exact⟨by rw [uZ HV] <;> rfl,by subst hG;exact hbz⟩
theorem rst11_any (d B0:Nat) (y:Tn) (x:List Value) (w:World) (hB:B0≤w.heap.size) (hx:IsN w (fun b=>b<B0) y x) (hk:y.k=11) (htz:y.t.size≤1000) :
  Calls Tryz.prog 47 #[.agg x.toArray,.int .i64 (d:Int)] w fun e w'=>e=.returned (.string (bA (stT d y)))∧Below w.heap.size w w':=by
 have hx0:=hx
 obtain⟨vk,vn,vs,al,ak,a,ll,cl,lk,ck,cc,rfl,hvv,hr,hbk,hbp⟩:=hx.opn
 obtain⟨k,t,v,f,ks,p⟩:=y
 simp only at hk htz
 subst hk
 obtain⟨n,hn⟩:∃n,ks.length=n:=⟨_,rfl⟩
 have hnb:n≤140737488351232:=by rw [←hn];exact hr.len
 simp only [hn] at hx0 hvv hr hbk hbp ⊢
 obtain⟨R,hR⟩:∃R,(.string (bA (stT d ⟨11,t,v,f,ks,p⟩)):Value)=R:=⟨_,rfl⟩
 rw [hR]
 have HR:=hZ hR
 obtain⟨w1,hw1⟩:∃w1,w.alloc (.cells #[.int .i64 11,.string t,.int .i64 vk,.int .i64 vn,.string vs,.slice al ll cl,.slice ak lk ck,.bool f,.slice a n cc,.int .i64 p] 28)=w1:=⟨_,rfl⟩
 obtain⟨G,hG⟩:∃G,w.heap.size=G:=⟨_,rfl⟩
 obtain⟨A1,X1⟩:=al1 hw1 hG
 have hBG:B0≤G:=by rw [←hG];exact hB
 have HM:Hid (NM5 B0 G w w1 ⟨11,t,v,f,ks,p⟩ [.int .i64 11,.string t,.int .i64 vk,.int .i64 vn,.string vs,.slice al ll cl,.slice ak lk ck,.bool f,.slice a n cc,.int .i64 p] ks a cc v (.agg #[.int .i64 vk,.int .i64 vn,.string vs,.slice al ll cl,.slice ak lk ck])):=hZ (fun u hu=>by
  have h2:=X1.trans (hu.mono (Nat.le_of_lt (lt_of_row A1)))
  exact⟨hx0.laterB (h2.mono hBG),hr.later (h2.mono hBG),Nat.le_trans hBG (by rw [←hG];exact h2.size),hvv.mono (h2.mono hBG),h2⟩)
 have HF:Hid (NF10 w1 G (.int .i64 11) (.string t) (.int .i64 vk) (.int .i64 vn) (.string vs) (.slice al ll cl) (.slice ak lk ck) (.bool f) (.slice a n cc) (.int .i64 p)):=hZ (fun u hu=>row_ten (Below.cellsAt hu A1))
 have HN:=hZ hn
 have HS0:Hid (Below w1.heap.size w1 w1):=hZ (Below.refl _ _)
 have HW:=hZ hw1
 clear A1 X1 hw1 hx hx0 hr hvv hB hBG hn hR
 go_enter Tryz.func47,Tryz.ntmps47
 go_upto_region 1 with fail
 rw [uZ HW]
 try rw [hG]
 clear HW
 obtain⟨x0,x1,x2,x3,x4,x5,x6,x7,x8,x9⟩:=uZ HF w1 (Below.refl _ _)
 have HV:=hZ (show R=.string ⟨#[99,111,110,116,105,110,117,101,59]⟩ by rw [←uZ HR];rfl)
 clear HR
 go_wp2_with fail
 go_ret
 have hbz:=((uZ HM) w1 (uZ HS0)).2.2.2.2
 exact⟨by rw [uZ HV] <;> rfl,by subst hG;exact hbz⟩
theorem rst8_any (d B0:Nat) (y:Tn) (x:List Value) (w:World) (hB:B0≤w.heap.size) (hx:IsN w (fun b=>b<B0) y x) (hk:y.k=8) (htz:y.t.size≤1000) (hE:∀z,y.ks[0]?=some z→ExD B0 z∧(exT z).length≤10000000000) (hBl:∀z,y.ks[1]?=some z→BlD B0 d z∧(stT (d+1) z).length≤10000000000) (hn2:y.ks.length=2) :
  Calls Tryz.prog 47 #[.agg x.toArray,.int .i64 (d:Int)] w fun e w'=>e=.returned (.string (bA (stT d y)))∧Below w.heap.size w w':=by
 have hx0:=hx
 obtain⟨vk,vn,vs,al,ak,a,ll,cl,lk,ck,cc,rfl,hvv,hr,hbk,hbp⟩:=hx.opn
 obtain⟨k,t,v,f,ks,p⟩:=y
 simp only at hk htz hE hBl hn2
 subst hk
 obtain⟨n,hn⟩:∃n,ks.length=n:=⟨_,rfl⟩
 have hnb:n≤140737488351232:=by rw [←hn];exact hr.len
 simp only [hn] at hx0 hvv hr hbk hbp ⊢
 obtain⟨R,hR⟩:∃R,(.string (bA (stT d ⟨8,t,v,f,ks,p⟩)):Value)=R:=⟨_,rfl⟩
 rw [hR]
 have HR:=hZ hR
 obtain⟨b,rfl⟩:=some_of hr (by omega)
 obtain⟨w1,hw1⟩:∃w1,w.alloc (.cells #[.int .i64 8,.string t,.int .i64 vk,.int .i64 vn,.string vs,.slice al ll cl,.slice ak lk ck,.bool f,.slice (some b) n cc,.int .i64 p] 28)=w1:=⟨_,rfl⟩
 obtain⟨G,hG⟩:∃G,w.heap.size=G:=⟨_,rfl⟩
 obtain⟨A1,X1⟩:=al1 hw1 hG
 have hBG:B0≤G:=by rw [←hG];exact hB
 have HM:Hid (NM5 B0 G w w1 ⟨8,t,v,f,ks,p⟩ [.int .i64 8,.string t,.int .i64 vk,.int .i64 vn,.string vs,.slice al ll cl,.slice ak lk ck,.bool f,.slice (some b) n cc,.int .i64 p] ks (some b) cc v (.agg #[.int .i64 vk,.int .i64 vn,.string vs,.slice al ll cl,.slice ak lk ck])):=hZ (fun u hu=>by
  have h2:=X1.trans (hu.mono (Nat.le_of_lt (lt_of_row A1)))
  exact⟨hx0.laterB (h2.mono hBG),hr.later (h2.mono hBG),Nat.le_trans hBG (by rw [←hG];exact h2.size),hvv.mono (h2.mono hBG),h2⟩)
 have HF:Hid (NF10 w1 G (.int .i64 8) (.string t) (.int .i64 vk) (.int .i64 vn) (.string vs) (.slice al ll cl) (.slice ak lk ck) (.bool f) (.slice (some b) n cc) (.int .i64 p)):=hZ (fun u hu=>row_ten (Below.cellsAt hu A1))
 have HN:=hZ hn
 have HS0:Hid (Below w1.heap.size w1 w1):=hZ (Below.refl _ _)
 have HW:=hZ hw1
 have HE:=hZ hE
 have HBl:=hZ hBl
 have hnn:2≤n:=by omega
 obtain⟨z,hz⟩:∃z,ks[0]?=some z:=⟨_,List.getElem?_eq_getElem (by omega)⟩
 have Hz:=hZ hz
 obtain⟨y,hy⟩:∃z,ks[1]?=some z:=⟨_,List.getElem?_eq_getElem (by omega)⟩
 have Hy:=hZ hy
 obtain⟨b',vkp,vnp,vsp,alp,akp,ap,llp,clp,lkp,ckp,np,ccp,eb,hcp,hbp,hnp,hzp,hcellp⟩:=hr.ten hz
 obtain rfl:b=b':=Option.some.inj eb
 clear eb
 have X0p:∀u,Below w1.heap.size w1 u→Below G w u:=fun u h=>X1.trans (h.mono (Nat.le_of_lt (lt_of_row A1)))
 have HKp:Hid (∀u,Below w1.heap.size w1 u→(u.cell? (b)=some (.int .i64 z.k)∧u.cell? (⟨b.block,b.off+1,none⟩)=some (.string z.t)∧u.cell? (⟨b.block,b.off+2,none⟩)=some (.int .i64 vkp)∧u.cell? (⟨b.block,b.off+3,none⟩)=some (.int .i64 vnp)∧u.cell? (⟨b.block,b.off+4,none⟩)=some (.string vsp)∧u.cell? (⟨b.block,b.off+5,none⟩)=some (.slice alp llp clp)∧u.cell? (⟨b.block,b.off+6,none⟩)=some (.slice akp lkp ckp)∧u.cell? (⟨b.block,b.off+7,none⟩)=some (.bool z.f)∧u.cell? (⟨b.block,b.off+8,none⟩)=some (.slice ap np ccp)∧u.cell? (⟨b.block,b.off+9,none⟩)=some (.int .i64 z.p))∧IsN u (fun b=>b<B0) z [.int .i64 z.k,.string z.t,.int .i64 vkp,.int .i64 vnp,.string vsp,.slice alp llp clp,.slice akp lkp ckp,.bool z.f,.slice ap np ccp,.int .i64 z.p]):=hZ (fun u h=>by
  have hc:∀j v,([.int .i64 z.k,.string z.t,.int .i64 vkp,.int .i64 vnp,.string vsp,.slice alp llp clp,.slice akp lkp ckp,.bool z.f,.slice ap np ccp,.int .i64 z.p]:List Value)[j]?=some v→u.cell? ((b.add (0 * 10)).add j)=some v:=fun j v hj=>(World.cell?_of_block ((X0p u h).block _ (by rw [block_add,block_add];omega))).trans (hcellp j v hj)
  exact⟨⟨hc 0 _ rfl,hc 1 _ rfl,hc 2 _ rfl,hc 3 _ rfl,hc 4 _ rfl,hc 5 _ rfl,hc 6 _ rfl,hc 7 _ rfl,hc 8 _ rfl,hc 9 _ rfl⟩,hzp.laterB ((X0p u h).mono hBG)⟩)
 have hnccp:n≤cc:=by rw [←hn];exact hcp
 clear hzp hcellp X0p hbp hcp
 obtain⟨b',vkq,vnq,vsq,alq,akq,aq,llq,clq,lkq,ckq,nq,ccq,eb,hcq,hbq,hnq,hzq,hcellq⟩:=hr.ten hy
 obtain rfl:b=b':=Option.some.inj eb
 clear eb
 have X0q:∀u,Below w1.heap.size w1 u→Below G w u:=fun u h=>X1.trans (h.mono (Nat.le_of_lt (lt_of_row A1)))
 have HKq:Hid (∀u,Below w1.heap.size w1 u→(u.cell? (⟨b.block,b.off+10,none⟩)=some (.int .i64 y.k)∧u.cell? (⟨b.block,b.off+10+1,none⟩)=some (.string y.t)∧u.cell? (⟨b.block,b.off+10+2,none⟩)=some (.int .i64 vkq)∧u.cell? (⟨b.block,b.off+10+3,none⟩)=some (.int .i64 vnq)∧u.cell? (⟨b.block,b.off+10+4,none⟩)=some (.string vsq)∧u.cell? (⟨b.block,b.off+10+5,none⟩)=some (.slice alq llq clq)∧u.cell? (⟨b.block,b.off+10+6,none⟩)=some (.slice akq lkq ckq)∧u.cell? (⟨b.block,b.off+10+7,none⟩)=some (.bool y.f)∧u.cell? (⟨b.block,b.off+10+8,none⟩)=some (.slice aq nq ccq)∧u.cell? (⟨b.block,b.off+10+9,none⟩)=some (.int .i64 y.p))∧IsN u (fun b=>b<B0) y [.int .i64 y.k,.string y.t,.int .i64 vkq,.int .i64 vnq,.string vsq,.slice alq llq clq,.slice akq lkq ckq,.bool y.f,.slice aq nq ccq,.int .i64 y.p]):=hZ (fun u h=>by
  have hc:∀j v,([.int .i64 y.k,.string y.t,.int .i64 vkq,.int .i64 vnq,.string vsq,.slice alq llq clq,.slice akq lkq ckq,.bool y.f,.slice aq nq ccq,.int .i64 y.p]:List Value)[j]?=some v→u.cell? ((b.add (1 * 10)).add j)=some v:=fun j v hj=>(World.cell?_of_block ((X0q u h).block _ (by rw [block_add,block_add];omega))).trans (hcellq j v hj)
  exact⟨⟨hc 0 _ rfl,hc 1 _ rfl,hc 2 _ rfl,hc 3 _ rfl,hc 4 _ rfl,hc 5 _ rfl,hc 6 _ rfl,hc 7 _ rfl,hc 8 _ rfl,hc 9 _ rfl⟩,hzq.laterB ((X0q u h).mono hBG)⟩)
 have hnccq:n≤cc:=by rw [←hn];exact hcq
 clear hzq hcellq X0q hbq hcq
 have p00:¬n=0:=by omega
 have p0:(0:Int)<(n:Int):=by omega
 have p1:(1:Int)<(n:Int):=by omega
 clear hnn hE hBl hn2 hz hy
 clear A1 X1 hw1 hx hx0 hr hvv hB hBG hn hR
 go_enter Tryz.func47,Tryz.ntmps47
 go_upto_region 1 with fail
 rw [uZ HW]
 try rw [hG]
 clear HW
 have CS:Hid (∀u,Below w1.heap.size w1 u→Calls Tryz.prog 28 #[.agg #[.int .i64 z.k,.string z.t,.int .i64 vkp,.int .i64 vnp,.string vsp,.slice alp llp clp,.slice akp lkp ckp,.bool z.f,.slice ap np ccp,.int .i64 z.p]] u fun e u'=>e=.returned (.string (bA (exT z)))∧Below u.heap.size u u'):=hZ (fun u hu=>(uZ HE z (uZ Hz)).1 _ u ((uZ HM) u hu).2.2.1 (uZ HKp u hu).2)
 obtain⟨S,hS⟩:∃S,bA (exT z)=S:=⟨_,rfl⟩
 rw [hS] at CS
 have dS:S.data.toList=exT z:=by rw [←hS,bA_data]
 have sS:S.size≤10000000000:=by
  have e:S.size=(exT z).length:=by rw [←hS,bA_size]
  have:=(uZ HE z (uZ Hz)).2
  omega
 clear hS
 have CT:Hid (∀u,Below w1.heap.size w1 u→Calls Tryz.prog 24 #[.agg #[.int .i64 y.k,.string y.t,.int .i64 vkq,.int .i64 vnq,.string vsq,.slice alq llq clq,.slice akq lkq ckq,.bool y.f,.slice aq nq ccq,.int .i64 y.p],.int .i64 (d:Int)] u fun e u'=>e=.returned (.string (bA (stT (d+1) y)))∧Below u.heap.size u u'):=hZ (fun u hu=>(uZ HBl y (uZ Hy)).1 _ u ((uZ HM) u hu).2.2.1 (uZ HKq u hu).2)
 obtain⟨T,hT⟩:∃S,bA (stT (d+1) y)=S:=⟨_,rfl⟩
 rw [hT] at CT
 have dT:T.data.toList=stT (d+1) y:=by rw [←hT,bA_data]
 have sT:T.size≤10000000000:=by
  have e:T.size=(stT (d+1) y).length:=by rw [←hT,bA_size]
  have:=(uZ HBl y (uZ Hy)).2
  omega
 clear hT
 have hzA:¬9223372036854775807<7+S.size:=by omega
 obtain⟨A,eA⟩:∃z,(⟨#[119,104,105,108,101,32,40]⟩++S:ByteArray)=z:=⟨_,rfl⟩
 have dA:A.data.toList=[119,104,105,108,101,32,40]++exT z:=by rw [←eA,ByteArray.data_append,Array.toList_append] <;> (rw [dS] <;> rfl)
 have sA:A.size≤7+S.size:=by rw [←eA,ByteArray.size_append];exact Nat.le_refl _
 have hzB:¬9223372036854775807<A.size+2:=by omega
 obtain⟨B,eB⟩:∃z,(A++⟨#[41,32]⟩:ByteArray)=z:=⟨_,rfl⟩
 have dB:B.data.toList=[119,104,105,108,101,32,40]++exT z++[41,32]:=by rw [←eB,ByteArray.data_append,Array.toList_append] <;> (rw [dA] <;> rfl)
 have sB:B.size≤A.size+2:=by rw [←eB,ByteArray.size_append];exact Nat.le_refl _
 have hzD:¬9223372036854775807<B.size+T.size:=by omega
 obtain⟨D,eD⟩:∃z,(B++T:ByteArray)=z:=⟨_,rfl⟩
 have dD:D.data.toList=[119,104,105,108,101,32,40]++exT z++[41,32]++stT (d+1) y:=by rw [←eD,ByteArray.data_append,Array.toList_append] <;> (rw [dB,dT])
 have sD:D.size≤B.size+T.size:=by rw [←eD,ByteArray.size_append];exact Nat.le_refl _
 have HV:=hZ (show R=.string D by rw [←uZ HR];exact congrArg Value.string (bA_eq D _ (by
   rw [dD]
   rw [st8_eq,exM_at ks 0 z (uZ Hz),uZ Hy]
   simp)).symm)
 clear HR
 clear dA dB dD dS dT
 obtain⟨x0,x1,x2,x3,x4,x5,x6,x7,x8,x9⟩:=uZ HF w1 (Below.refl _ _)
 go_upto_region 15 with fail
 clear x0 x1 x2 x3 x4 x5 x6 x7 x8 x9
 have HD0:Hid (Below w1.heap.size w1 w1.drew):=hZ ((Below.refl _ _).drew)
 refine till_begin (S:=fun w'=>Below w1.heap.size w1 w') 14 (by kernel_rfl) ?_
 obtain⟨W0,hW0⟩:∃W0,w1.drew=W0:=⟨_,rfl⟩
 try rw [hW0]
 rw [hW0] at HD0
 clear hW0
 refine tK 0 (v:=.pointer (some ⟨G,8,none⟩)) (some 42) rfl rfl rfl (by kernel_rfl) (fun _ _ _ h=>h) (Or.inl ⟨by rfl,fun u hu=>by obtain⟨x0,x1,x2,x3,x4,x5,x6,x7,x8,x9⟩:=uZ HF u hu;obtain⟨z0,z1,z2,z3,z4,z5,z6,z7,z8,z9⟩:=(uZ HKp u hu).1;obtain⟨y0,y1,y2,y3,y4,y5,y6,y7,y8,y9⟩:=(uZ HKq u hu).1;go_simp⟩) (uZ HD0) ?_
 try simp only [Act.put,sA,sB,sC]
 refine tK 1 (v:=.slice (some b) n cc) (some 43) rfl rfl rfl (by kernel_rfl) (fun _ _ _ h=>h) (Or.inl ⟨by rfl,fun u hu=>by obtain⟨x0,x1,x2,x3,x4,x5,x6,x7,x8,x9⟩:=uZ HF u hu;obtain⟨z0,z1,z2,z3,z4,z5,z6,z7,z8,z9⟩:=(uZ HKp u hu).1;obtain⟨y0,y1,y2,y3,y4,y5,y6,y7,y8,y9⟩:=(uZ HKq u hu).1;go_simp⟩) (uZ HD0) ?_
 try simp only [Act.put,sA,sB,sC]
 refine tK 2 (v:=.pointer (some b)) (some 44) rfl rfl rfl (by kernel_rfl) (fun _ _ _ h=>h) (Or.inl ⟨by rfl,fun u hu=>by obtain⟨x0,x1,x2,x3,x4,x5,x6,x7,x8,x9⟩:=uZ HF u hu;obtain⟨z0,z1,z2,z3,z4,z5,z6,z7,z8,z9⟩:=(uZ HKp u hu).1;obtain⟨y0,y1,y2,y3,y4,y5,y6,y7,y8,y9⟩:=(uZ HKq u hu).1;go_simp⟩) (uZ HD0) ?_
 try simp only [Act.put,sA,sB,sC]
 refine tK 3 (v:=.agg #[.int .i64 z.k,.string z.t,.int .i64 vkp,.int .i64 vnp,.string vsp,.slice alp llp clp,.slice akp lkp ckp,.bool z.f,.slice ap np ccp,.int .i64 z.p]) (some 45) rfl rfl rfl (by kernel_rfl) (fun _ _ _ h=>h) (Or.inl ⟨by rfl,fun u hu=>by obtain⟨x0,x1,x2,x3,x4,x5,x6,x7,x8,x9⟩:=uZ HF u hu;obtain⟨z0,z1,z2,z3,z4,z5,z6,z7,z8,z9⟩:=(uZ HKp u hu).1;obtain⟨y0,y1,y2,y3,y4,y5,y6,y7,y8,y9⟩:=(uZ HKq u hu).1;go_simp⟩) (uZ HD0) ?_
 try simp only [Act.put,sA,sB,sC]
 refine tK 7 (v:=.pointer (some ⟨G,8,none⟩)) (some 49) rfl rfl rfl (by kernel_rfl) (fun _ _ _ h=>h) (Or.inl ⟨by rfl,fun u hu=>by obtain⟨x0,x1,x2,x3,x4,x5,x6,x7,x8,x9⟩:=uZ HF u hu;obtain⟨z0,z1,z2,z3,z4,z5,z6,z7,z8,z9⟩:=(uZ HKp u hu).1;obtain⟨y0,y1,y2,y3,y4,y5,y6,y7,y8,y9⟩:=(uZ HKq u hu).1;go_simp⟩) (uZ HD0) ?_
 try simp only [Act.put,sA,sB,sC]
 refine tK 8 (v:=.slice (some b) n cc) (some 50) rfl rfl rfl (by kernel_rfl) (fun _ _ _ h=>h) (Or.inl ⟨by rfl,fun u hu=>by obtain⟨x0,x1,x2,x3,x4,x5,x6,x7,x8,x9⟩:=uZ HF u hu;obtain⟨z0,z1,z2,z3,z4,z5,z6,z7,z8,z9⟩:=(uZ HKp u hu).1;obtain⟨y0,y1,y2,y3,y4,y5,y6,y7,y8,y9⟩:=(uZ HKq u hu).1;go_simp⟩) (uZ HD0) ?_
 try simp only [Act.put,sA,sB,sC]
 refine tK 9 (v:=.pointer (some ⟨b.block,b.off+10,none⟩)) (some 51) rfl rfl rfl (by kernel_rfl) (fun _ _ _ h=>h) (Or.inl ⟨by rfl,fun u hu=>by obtain⟨x0,x1,x2,x3,x4,x5,x6,x7,x8,x9⟩:=uZ HF u hu;obtain⟨z0,z1,z2,z3,z4,z5,z6,z7,z8,z9⟩:=(uZ HKp u hu).1;obtain⟨y0,y1,y2,y3,y4,y5,y6,y7,y8,y9⟩:=(uZ HKq u hu).1;go_simp⟩) (uZ HD0) ?_
 try simp only [Act.put,sA,sB,sC]
 refine tK 10 (v:=.agg #[.int .i64 y.k,.string y.t,.int .i64 vkq,.int .i64 vnq,.string vsq,.slice alq llq clq,.slice akq lkq ckq,.bool y.f,.slice aq nq ccq,.int .i64 y.p]) (some 52) rfl rfl rfl (by kernel_rfl) (fun _ _ _ h=>h) (Or.inl ⟨by rfl,fun u hu=>by obtain⟨x0,x1,x2,x3,x4,x5,x6,x7,x8,x9⟩:=uZ HF u hu;obtain⟨z0,z1,z2,z3,z4,z5,z6,z7,z8,z9⟩:=(uZ HKp u hu).1;obtain⟨y0,y1,y2,y3,y4,y5,y6,y7,y8,y9⟩:=(uZ HKq u hu).1;go_simp⟩) (uZ HD0) ?_
 try simp only [Act.put,sA,sB,sC]
 refine tK 11 (v:=.int .i64 (d:Int)) (some 53) rfl rfl rfl (by kernel_rfl) (fun _ _ _ h=>h) (Or.inl ⟨by rfl,fun u hu=>by obtain⟨x0,x1,x2,x3,x4,x5,x6,x7,x8,x9⟩:=uZ HF u hu;obtain⟨z0,z1,z2,z3,z4,z5,z6,z7,z8,z9⟩:=(uZ HKp u hu).1;obtain⟨y0,y1,y2,y3,y4,y5,y6,y7,y8,y9⟩:=(uZ HKq u hu).1;go_simp⟩) (uZ HD0) ?_
 try simp only [Act.put,sA,sB,sC]
 refine till_one 4 (by kernel_rfl) rfl (fun K hK=>?_)
 go_simp
 refine((uZ CS) W0 (uZ HD0)).mono ?_
 rintro e W1 ⟨rfl,bb⟩
 have HD1:=hZ ((uZ HD0).trans (bb.mono (uZ HD0).size))
 clear bb
 go_wp2_with fail
 refine hK.out _ _ (Or.inr (uZ HD1)) ?_
 clear hK K HD0
 try simp only [Act.put,sA,sB,sC]
 refine tK 5 (v:=.string A) (some 47) rfl rfl rfl (by kernel_rfl) (fun _ _ _ h=>h) (Or.inl ⟨by rfl,fun u hu=>by obtain⟨x0,x1,x2,x3,x4,x5,x6,x7,x8,x9⟩:=uZ HF u hu;obtain⟨z0,z1,z2,z3,z4,z5,z6,z7,z8,z9⟩:=(uZ HKp u hu).1;obtain⟨y0,y1,y2,y3,y4,y5,y6,y7,y8,y9⟩:=(uZ HKq u hu).1;go_simp⟩) (uZ HD1) ?_
 try simp only [Act.put,sA,sB,sC]
 refine tK 6 (v:=.string B) (some 48) rfl rfl rfl (by kernel_rfl) (fun _ _ _ h=>h) (Or.inl ⟨by rfl,fun u hu=>by obtain⟨x0,x1,x2,x3,x4,x5,x6,x7,x8,x9⟩:=uZ HF u hu;obtain⟨z0,z1,z2,z3,z4,z5,z6,z7,z8,z9⟩:=(uZ HKp u hu).1;obtain⟨y0,y1,y2,y3,y4,y5,y6,y7,y8,y9⟩:=(uZ HKq u hu).1;go_simp⟩) (uZ HD1) ?_
 try simp only [Act.put,sA,sB,sC]
 refine till_one 12 (by kernel_rfl) rfl (fun K hK=>?_)
 go_simp
 refine((uZ CT) W1 (uZ HD1)).mono ?_
 rintro e W2 ⟨rfl,bb⟩
 have HD2:=hZ ((uZ HD1).trans (bb.mono (uZ HD1).size))
 clear bb
 go_wp2_with fail
 refine hK.out _ _ (Or.inr (uZ HD2)) ?_
 clear hK K HD1
 try simp only [Act.put,sA,sB,sC]
 refine till_one 13 (by kernel_rfl) rfl (fun K hK=>?_)
 go_simp
 refine hK.out _ _ (Or.inr (uZ HD2)) ?_
 clear hK K
 try simp only [Act.put,sA,sB,sC]
 refine till_one 14 (by kernel_rfl) rfl (fun K hK=>?_)
 go_simp
 refine hK.out _ _ (Or.inl (by first|rfl|trivial)) ?_
 clear hK K
 try simp only [Act.put,sA,sB,sC]
 refine till_done (by kernel_rfl) ?_ _
 go_wp2_with fail
 go_ret
 have hbz:=((uZ HM) W2 (uZ HD2)).2.2.2.2
 exact⟨by rw [uZ HV] <;> rfl,by subst hG;exact hbz⟩
theorem rst7_any (d B0:Nat) (y:Tn) (x:List Value) (w:World) (hB:B0≤w.heap.size) (hx:IsN w (fun b=>b<B0) y x) (hk:y.k=7) (htz:y.t.size≤1000) (hE:∀z,y.ks[0]?=some z→ExD B0 z∧(exT z).length≤10000000000) (hBl:∀z,y.ks[1]?=some z→BlD B0 d z∧(stT (d+1) z).length≤10000000000) (hn2:y.ks.length=2) :
  Calls Tryz.prog 47 #[.agg x.toArray,.int .i64 (d:Int)] w fun e w'=>e=.returned (.string (bA (stT d y)))∧Below w.heap.size w w':=by
 have hx0:=hx
 obtain⟨vk,vn,vs,al,ak,a,ll,cl,lk,ck,cc,rfl,hvv,hr,hbk,hbp⟩:=hx.opn
 obtain⟨k,t,v,f,ks,p⟩:=y
 simp only at hk htz hE hBl hn2
 subst hk
 obtain⟨n,hn⟩:∃n,ks.length=n:=⟨_,rfl⟩
 have hnb:n≤140737488351232:=by rw [←hn];exact hr.len
 simp only [hn] at hx0 hvv hr hbk hbp ⊢
 obtain⟨R,hR⟩:∃R,(.string (bA (stT d ⟨7,t,v,f,ks,p⟩)):Value)=R:=⟨_,rfl⟩
 rw [hR]
 have HR:=hZ hR
 obtain⟨b,rfl⟩:=some_of hr (by omega)
 obtain⟨w1,hw1⟩:∃w1,w.alloc (.cells #[.int .i64 7,.string t,.int .i64 vk,.int .i64 vn,.string vs,.slice al ll cl,.slice ak lk ck,.bool f,.slice (some b) n cc,.int .i64 p] 28)=w1:=⟨_,rfl⟩
 obtain⟨G,hG⟩:∃G,w.heap.size=G:=⟨_,rfl⟩
 obtain⟨A1,X1⟩:=al1 hw1 hG
 have hBG:B0≤G:=by rw [←hG];exact hB
 have HM:Hid (NM5 B0 G w w1 ⟨7,t,v,f,ks,p⟩ [.int .i64 7,.string t,.int .i64 vk,.int .i64 vn,.string vs,.slice al ll cl,.slice ak lk ck,.bool f,.slice (some b) n cc,.int .i64 p] ks (some b) cc v (.agg #[.int .i64 vk,.int .i64 vn,.string vs,.slice al ll cl,.slice ak lk ck])):=hZ (fun u hu=>by
  have h2:=X1.trans (hu.mono (Nat.le_of_lt (lt_of_row A1)))
  exact⟨hx0.laterB (h2.mono hBG),hr.later (h2.mono hBG),Nat.le_trans hBG (by rw [←hG];exact h2.size),hvv.mono (h2.mono hBG),h2⟩)
 have HF:Hid (NF10 w1 G (.int .i64 7) (.string t) (.int .i64 vk) (.int .i64 vn) (.string vs) (.slice al ll cl) (.slice ak lk ck) (.bool f) (.slice (some b) n cc) (.int .i64 p)):=hZ (fun u hu=>row_ten (Below.cellsAt hu A1))
 have HN:=hZ hn
 have HS0:Hid (Below w1.heap.size w1 w1):=hZ (Below.refl _ _)
 have HW:=hZ hw1
 have HE:=hZ hE
 have HBl:=hZ hBl
 have hnn:2≤n:=by omega
 obtain⟨z,hz⟩:∃z,ks[0]?=some z:=⟨_,List.getElem?_eq_getElem (by omega)⟩
 have Hz:=hZ hz
 obtain⟨y,hy⟩:∃z,ks[1]?=some z:=⟨_,List.getElem?_eq_getElem (by omega)⟩
 have Hy:=hZ hy
 obtain⟨b',vkp,vnp,vsp,alp,akp,ap,llp,clp,lkp,ckp,np,ccp,eb,hcp,hbp,hnp,hzp,hcellp⟩:=hr.ten hz
 obtain rfl:b=b':=Option.some.inj eb
 clear eb
 have X0p:∀u,Below w1.heap.size w1 u→Below G w u:=fun u h=>X1.trans (h.mono (Nat.le_of_lt (lt_of_row A1)))
 have HKp:Hid (∀u,Below w1.heap.size w1 u→(u.cell? (b)=some (.int .i64 z.k)∧u.cell? (⟨b.block,b.off+1,none⟩)=some (.string z.t)∧u.cell? (⟨b.block,b.off+2,none⟩)=some (.int .i64 vkp)∧u.cell? (⟨b.block,b.off+3,none⟩)=some (.int .i64 vnp)∧u.cell? (⟨b.block,b.off+4,none⟩)=some (.string vsp)∧u.cell? (⟨b.block,b.off+5,none⟩)=some (.slice alp llp clp)∧u.cell? (⟨b.block,b.off+6,none⟩)=some (.slice akp lkp ckp)∧u.cell? (⟨b.block,b.off+7,none⟩)=some (.bool z.f)∧u.cell? (⟨b.block,b.off+8,none⟩)=some (.slice ap np ccp)∧u.cell? (⟨b.block,b.off+9,none⟩)=some (.int .i64 z.p))∧IsN u (fun b=>b<B0) z [.int .i64 z.k,.string z.t,.int .i64 vkp,.int .i64 vnp,.string vsp,.slice alp llp clp,.slice akp lkp ckp,.bool z.f,.slice ap np ccp,.int .i64 z.p]):=hZ (fun u h=>by
  have hc:∀j v,([.int .i64 z.k,.string z.t,.int .i64 vkp,.int .i64 vnp,.string vsp,.slice alp llp clp,.slice akp lkp ckp,.bool z.f,.slice ap np ccp,.int .i64 z.p]:List Value)[j]?=some v→u.cell? ((b.add (0 * 10)).add j)=some v:=fun j v hj=>(World.cell?_of_block ((X0p u h).block _ (by rw [block_add,block_add];omega))).trans (hcellp j v hj)
  exact⟨⟨hc 0 _ rfl,hc 1 _ rfl,hc 2 _ rfl,hc 3 _ rfl,hc 4 _ rfl,hc 5 _ rfl,hc 6 _ rfl,hc 7 _ rfl,hc 8 _ rfl,hc 9 _ rfl⟩,hzp.laterB ((X0p u h).mono hBG)⟩)
 have hnccp:n≤cc:=by rw [←hn];exact hcp
 clear hzp hcellp X0p hbp hcp
 obtain⟨b',vkq,vnq,vsq,alq,akq,aq,llq,clq,lkq,ckq,nq,ccq,eb,hcq,hbq,hnq,hzq,hcellq⟩:=hr.ten hy
 obtain rfl:b=b':=Option.some.inj eb
 clear eb
 have X0q:∀u,Below w1.heap.size w1 u→Below G w u:=fun u h=>X1.trans (h.mono (Nat.le_of_lt (lt_of_row A1)))
 have HKq:Hid (∀u,Below w1.heap.size w1 u→(u.cell? (⟨b.block,b.off+10,none⟩)=some (.int .i64 y.k)∧u.cell? (⟨b.block,b.off+10+1,none⟩)=some (.string y.t)∧u.cell? (⟨b.block,b.off+10+2,none⟩)=some (.int .i64 vkq)∧u.cell? (⟨b.block,b.off+10+3,none⟩)=some (.int .i64 vnq)∧u.cell? (⟨b.block,b.off+10+4,none⟩)=some (.string vsq)∧u.cell? (⟨b.block,b.off+10+5,none⟩)=some (.slice alq llq clq)∧u.cell? (⟨b.block,b.off+10+6,none⟩)=some (.slice akq lkq ckq)∧u.cell? (⟨b.block,b.off+10+7,none⟩)=some (.bool y.f)∧u.cell? (⟨b.block,b.off+10+8,none⟩)=some (.slice aq nq ccq)∧u.cell? (⟨b.block,b.off+10+9,none⟩)=some (.int .i64 y.p))∧IsN u (fun b=>b<B0) y [.int .i64 y.k,.string y.t,.int .i64 vkq,.int .i64 vnq,.string vsq,.slice alq llq clq,.slice akq lkq ckq,.bool y.f,.slice aq nq ccq,.int .i64 y.p]):=hZ (fun u h=>by
  have hc:∀j v,([.int .i64 y.k,.string y.t,.int .i64 vkq,.int .i64 vnq,.string vsq,.slice alq llq clq,.slice akq lkq ckq,.bool y.f,.slice aq nq ccq,.int .i64 y.p]:List Value)[j]?=some v→u.cell? ((b.add (1 * 10)).add j)=some v:=fun j v hj=>(World.cell?_of_block ((X0q u h).block _ (by rw [block_add,block_add];omega))).trans (hcellq j v hj)
  exact⟨⟨hc 0 _ rfl,hc 1 _ rfl,hc 2 _ rfl,hc 3 _ rfl,hc 4 _ rfl,hc 5 _ rfl,hc 6 _ rfl,hc 7 _ rfl,hc 8 _ rfl,hc 9 _ rfl⟩,hzq.laterB ((X0q u h).mono hBG)⟩)
 have hnccq:n≤cc:=by rw [←hn];exact hcq
 clear hzq hcellq X0q hbq hcq
 have p00:¬n=0:=by omega
 have p0:(0:Int)<(n:Int):=by omega
 have p1:(1:Int)<(n:Int):=by omega
 have HX2:=hZ (show ks[2]?=none from List.getElem?_eq_none (by omega))
 have hn2i:((n:Int) == 2)=true:=by simp;omega
 clear hnn hE hBl hn2 hz hy
 clear A1 X1 hw1 hx hx0 hr hvv hB hBG hn hR
 go_enter Tryz.func47,Tryz.ntmps47
 go_upto_region 1 with fail
 rw [uZ HW]
 try rw [hG]
 clear HW
 have CS:Hid (∀u,Below w1.heap.size w1 u→Calls Tryz.prog 28 #[.agg #[.int .i64 z.k,.string z.t,.int .i64 vkp,.int .i64 vnp,.string vsp,.slice alp llp clp,.slice akp lkp ckp,.bool z.f,.slice ap np ccp,.int .i64 z.p]] u fun e u'=>e=.returned (.string (bA (exT z)))∧Below u.heap.size u u'):=hZ (fun u hu=>(uZ HE z (uZ Hz)).1 _ u ((uZ HM) u hu).2.2.1 (uZ HKp u hu).2)
 obtain⟨S,hS⟩:∃S,bA (exT z)=S:=⟨_,rfl⟩
 rw [hS] at CS
 have dS:S.data.toList=exT z:=by rw [←hS,bA_data]
 have sS:S.size≤10000000000:=by
  have e:S.size=(exT z).length:=by rw [←hS,bA_size]
  have:=(uZ HE z (uZ Hz)).2
  omega
 clear hS
 have CT:Hid (∀u,Below w1.heap.size w1 u→Calls Tryz.prog 24 #[.agg #[.int .i64 y.k,.string y.t,.int .i64 vkq,.int .i64 vnq,.string vsq,.slice alq llq clq,.slice akq lkq ckq,.bool y.f,.slice aq nq ccq,.int .i64 y.p],.int .i64 (d:Int)] u fun e u'=>e=.returned (.string (bA (stT (d+1) y)))∧Below u.heap.size u u'):=hZ (fun u hu=>(uZ HBl y (uZ Hy)).1 _ u ((uZ HM) u hu).2.2.1 (uZ HKq u hu).2)
 obtain⟨T,hT⟩:∃S,bA (stT (d+1) y)=S:=⟨_,rfl⟩
 rw [hT] at CT
 have dT:T.data.toList=stT (d+1) y:=by rw [←hT,bA_data]
 have sT:T.size≤10000000000:=by
  have e:T.size=(stT (d+1) y).length:=by rw [←hT,bA_size]
  have:=(uZ HBl y (uZ Hy)).2
  omega
 clear hT
 have hzA:¬9223372036854775807<4+S.size:=by omega
 obtain⟨A,eA⟩:∃z,(⟨#[105,102,32,40]⟩++S:ByteArray)=z:=⟨_,rfl⟩
 have dA:A.data.toList=[105,102,32,40]++exT z:=by rw [←eA,ByteArray.data_append,Array.toList_append] <;> (rw [dS] <;> rfl)
 have sA:A.size≤4+S.size:=by rw [←eA,ByteArray.size_append];exact Nat.le_refl _
 have hzB:¬9223372036854775807<A.size+2:=by omega
 obtain⟨B,eB⟩:∃z,(A++⟨#[41,32]⟩:ByteArray)=z:=⟨_,rfl⟩
 have dB:B.data.toList=[105,102,32,40]++exT z++[41,32]:=by rw [←eB,ByteArray.data_append,Array.toList_append] <;> (rw [dA] <;> rfl)
 have sB:B.size≤A.size+2:=by rw [←eB,ByteArray.size_append];exact Nat.le_refl _
 have hzD:¬9223372036854775807<B.size+T.size:=by omega
 obtain⟨D,eD⟩:∃z,(B++T:ByteArray)=z:=⟨_,rfl⟩
 have dD:D.data.toList=[105,102,32,40]++exT z++[41,32]++stT (d+1) y:=by rw [←eD,ByteArray.data_append,Array.toList_append] <;> (rw [dB,dT])
 have sD:D.size≤B.size+T.size:=by rw [←eD,ByteArray.size_append];exact Nat.le_refl _
 have HV:=hZ (show R=.string D by rw [←uZ HR];exact congrArg Value.string (bA_eq D _ (by
   rw [dD]
   rw [st7_eq2 d t v f ks p (uZ HX2),exM_at ks 0 z (uZ Hz),uZ Hy]
   simp)).symm)
 clear HR
 clear dA dB dD dS dT
 obtain⟨x0,x1,x2,x3,x4,x5,x6,x7,x8,x9⟩:=uZ HF w1 (Below.refl _ _)
 go_upto_region 16 with fail
 clear x0 x1 x2 x3 x4 x5 x6 x7 x8 x9
 have HD0:Hid (Below w1.heap.size w1 w1.drew):=hZ ((Below.refl _ _).drew)
 refine till_begin (S:=fun w'=>Below w1.heap.size w1 w') 14 (by kernel_rfl) ?_
 obtain⟨W0,hW0⟩:∃W0,w1.drew=W0:=⟨_,rfl⟩
 try rw [hW0]
 rw [hW0] at HD0
 clear hW0
 refine tK 0 (v:=.pointer (some ⟨G,8,none⟩)) (some 56) rfl rfl rfl (by kernel_rfl) (fun _ _ _ h=>h) (Or.inl ⟨by rfl,fun u hu=>by obtain⟨x0,x1,x2,x3,x4,x5,x6,x7,x8,x9⟩:=uZ HF u hu;obtain⟨z0,z1,z2,z3,z4,z5,z6,z7,z8,z9⟩:=(uZ HKp u hu).1;obtain⟨y0,y1,y2,y3,y4,y5,y6,y7,y8,y9⟩:=(uZ HKq u hu).1;go_simp⟩) (uZ HD0) ?_
 try simp only [Act.put,sA,sB,sC]
 refine tK 1 (v:=.slice (some b) n cc) (some 57) rfl rfl rfl (by kernel_rfl) (fun _ _ _ h=>h) (Or.inl ⟨by rfl,fun u hu=>by obtain⟨x0,x1,x2,x3,x4,x5,x6,x7,x8,x9⟩:=uZ HF u hu;obtain⟨z0,z1,z2,z3,z4,z5,z6,z7,z8,z9⟩:=(uZ HKp u hu).1;obtain⟨y0,y1,y2,y3,y4,y5,y6,y7,y8,y9⟩:=(uZ HKq u hu).1;go_simp⟩) (uZ HD0) ?_
 try simp only [Act.put,sA,sB,sC]
 refine tK 2 (v:=.pointer (some b)) (some 58) rfl rfl rfl (by kernel_rfl) (fun _ _ _ h=>h) (Or.inl ⟨by rfl,fun u hu=>by obtain⟨x0,x1,x2,x3,x4,x5,x6,x7,x8,x9⟩:=uZ HF u hu;obtain⟨z0,z1,z2,z3,z4,z5,z6,z7,z8,z9⟩:=(uZ HKp u hu).1;obtain⟨y0,y1,y2,y3,y4,y5,y6,y7,y8,y9⟩:=(uZ HKq u hu).1;go_simp⟩) (uZ HD0) ?_
 try simp only [Act.put,sA,sB,sC]
 refine tK 3 (v:=.agg #[.int .i64 z.k,.string z.t,.int .i64 vkp,.int .i64 vnp,.string vsp,.slice alp llp clp,.slice akp lkp ckp,.bool z.f,.slice ap np ccp,.int .i64 z.p]) (some 59) rfl rfl rfl (by kernel_rfl) (fun _ _ _ h=>h) (Or.inl ⟨by rfl,fun u hu=>by obtain⟨x0,x1,x2,x3,x4,x5,x6,x7,x8,x9⟩:=uZ HF u hu;obtain⟨z0,z1,z2,z3,z4,z5,z6,z7,z8,z9⟩:=(uZ HKp u hu).1;obtain⟨y0,y1,y2,y3,y4,y5,y6,y7,y8,y9⟩:=(uZ HKq u hu).1;go_simp⟩) (uZ HD0) ?_
 try simp only [Act.put,sA,sB,sC]
 refine tK 7 (v:=.pointer (some ⟨G,8,none⟩)) (some 63) rfl rfl rfl (by kernel_rfl) (fun _ _ _ h=>h) (Or.inl ⟨by rfl,fun u hu=>by obtain⟨x0,x1,x2,x3,x4,x5,x6,x7,x8,x9⟩:=uZ HF u hu;obtain⟨z0,z1,z2,z3,z4,z5,z6,z7,z8,z9⟩:=(uZ HKp u hu).1;obtain⟨y0,y1,y2,y3,y4,y5,y6,y7,y8,y9⟩:=(uZ HKq u hu).1;go_simp⟩) (uZ HD0) ?_
 try simp only [Act.put,sA,sB,sC]
 refine tK 8 (v:=.slice (some b) n cc) (some 64) rfl rfl rfl (by kernel_rfl) (fun _ _ _ h=>h) (Or.inl ⟨by rfl,fun u hu=>by obtain⟨x0,x1,x2,x3,x4,x5,x6,x7,x8,x9⟩:=uZ HF u hu;obtain⟨z0,z1,z2,z3,z4,z5,z6,z7,z8,z9⟩:=(uZ HKp u hu).1;obtain⟨y0,y1,y2,y3,y4,y5,y6,y7,y8,y9⟩:=(uZ HKq u hu).1;go_simp⟩) (uZ HD0) ?_
 try simp only [Act.put,sA,sB,sC]
 refine tK 9 (v:=.pointer (some ⟨b.block,b.off+10,none⟩)) (some 65) rfl rfl rfl (by kernel_rfl) (fun _ _ _ h=>h) (Or.inl ⟨by rfl,fun u hu=>by obtain⟨x0,x1,x2,x3,x4,x5,x6,x7,x8,x9⟩:=uZ HF u hu;obtain⟨z0,z1,z2,z3,z4,z5,z6,z7,z8,z9⟩:=(uZ HKp u hu).1;obtain⟨y0,y1,y2,y3,y4,y5,y6,y7,y8,y9⟩:=(uZ HKq u hu).1;go_simp⟩) (uZ HD0) ?_
 try simp only [Act.put,sA,sB,sC]
 refine tK 10 (v:=.agg #[.int .i64 y.k,.string y.t,.int .i64 vkq,.int .i64 vnq,.string vsq,.slice alq llq clq,.slice akq lkq ckq,.bool y.f,.slice aq nq ccq,.int .i64 y.p]) (some 66) rfl rfl rfl (by kernel_rfl) (fun _ _ _ h=>h) (Or.inl ⟨by rfl,fun u hu=>by obtain⟨x0,x1,x2,x3,x4,x5,x6,x7,x8,x9⟩:=uZ HF u hu;obtain⟨z0,z1,z2,z3,z4,z5,z6,z7,z8,z9⟩:=(uZ HKp u hu).1;obtain⟨y0,y1,y2,y3,y4,y5,y6,y7,y8,y9⟩:=(uZ HKq u hu).1;go_simp⟩) (uZ HD0) ?_
 try simp only [Act.put,sA,sB,sC]
 refine tK 11 (v:=.int .i64 (d:Int)) (some 67) rfl rfl rfl (by kernel_rfl) (fun _ _ _ h=>h) (Or.inl ⟨by rfl,fun u hu=>by obtain⟨x0,x1,x2,x3,x4,x5,x6,x7,x8,x9⟩:=uZ HF u hu;obtain⟨z0,z1,z2,z3,z4,z5,z6,z7,z8,z9⟩:=(uZ HKp u hu).1;obtain⟨y0,y1,y2,y3,y4,y5,y6,y7,y8,y9⟩:=(uZ HKq u hu).1;go_simp⟩) (uZ HD0) ?_
 try simp only [Act.put,sA,sB,sC]
 refine till_one 4 (by kernel_rfl) rfl (fun K hK=>?_)
 go_simp
 refine((uZ CS) W0 (uZ HD0)).mono ?_
 rintro e W1 ⟨rfl,bb⟩
 have HD1:=hZ ((uZ HD0).trans (bb.mono (uZ HD0).size))
 clear bb
 go_wp2_with fail
 refine hK.out _ _ (Or.inr (uZ HD1)) ?_
 clear hK K HD0
 try simp only [Act.put,sA,sB,sC]
 refine tK 5 (v:=.string A) (some 61) rfl rfl rfl (by kernel_rfl) (fun _ _ _ h=>h) (Or.inl ⟨by rfl,fun u hu=>by obtain⟨x0,x1,x2,x3,x4,x5,x6,x7,x8,x9⟩:=uZ HF u hu;obtain⟨z0,z1,z2,z3,z4,z5,z6,z7,z8,z9⟩:=(uZ HKp u hu).1;obtain⟨y0,y1,y2,y3,y4,y5,y6,y7,y8,y9⟩:=(uZ HKq u hu).1;go_simp⟩) (uZ HD1) ?_
 try simp only [Act.put,sA,sB,sC]
 refine tK 6 (v:=.string B) (some 62) rfl rfl rfl (by kernel_rfl) (fun _ _ _ h=>h) (Or.inl ⟨by rfl,fun u hu=>by obtain⟨x0,x1,x2,x3,x4,x5,x6,x7,x8,x9⟩:=uZ HF u hu;obtain⟨z0,z1,z2,z3,z4,z5,z6,z7,z8,z9⟩:=(uZ HKp u hu).1;obtain⟨y0,y1,y2,y3,y4,y5,y6,y7,y8,y9⟩:=(uZ HKq u hu).1;go_simp⟩) (uZ HD1) ?_
 try simp only [Act.put,sA,sB,sC]
 refine till_one 12 (by kernel_rfl) rfl (fun K hK=>?_)
 go_simp
 refine((uZ CT) W1 (uZ HD1)).mono ?_
 rintro e W2 ⟨rfl,bb⟩
 have HD2:=hZ ((uZ HD1).trans (bb.mono (uZ HD1).size))
 clear bb
 go_wp2_with fail
 refine hK.out _ _ (Or.inr (uZ HD2)) ?_
 clear hK K HD1
 try simp only [Act.put,sA,sB,sC]
 refine till_one 13 (by kernel_rfl) rfl (fun K hK=>?_)
 go_simp
 refine hK.out _ _ (Or.inr (uZ HD2)) ?_
 clear hK K
 try simp only [Act.put,sA,sB,sC]
 refine till_one 14 (by kernel_rfl) rfl (fun K hK=>?_)
 go_simp
 refine hK.out _ _ (Or.inl (by first|rfl|trivial)) ?_
 clear hK K
 try simp only [Act.put,sA,sB,sC]
 refine till_done (by kernel_rfl) ?_ _
 have HD9:=HD2
 obtain⟨x0,x1,x2,x3,x4,x5,x6,x7,x8,x9⟩:=uZ HF W2 (uZ HD2)
 go_wp2_with fail
 go_ret
 have hbz:=((uZ HM) W2 (uZ HD9)).2.2.2.2
 exact⟨by rw [uZ HV] <;> rfl,by subst hG;exact hbz⟩
theorem rst7i_any (d B0:Nat) (y:Tn) (x:List Value) (w:World) (hB:B0≤w.heap.size) (hx:IsN w (fun b=>b<B0) y x) (hk:y.k=7) (htz:y.t.size≤1000) (hE:∀z,y.ks[0]?=some z→ExD B0 z∧(exT z).length≤10000000000) (hBl:∀z,y.ks[1]?=some z→BlD B0 d z∧(stT (d+1) z).length≤10000000000) (h2:∀z,y.ks[2]?=some z→z.k=7∧StD B0 d z∧(stT d z).length≤10000000000) (hn3:y.ks.length=3) :
  Calls Tryz.prog 47 #[.agg x.toArray,.int .i64 (d:Int)] w fun e w'=>e=.returned (.string (bA (stT d y)))∧Below w.heap.size w w':=by
 have hx0:=hx
 obtain⟨vk,vn,vs,al,ak,a,ll,cl,lk,ck,cc,rfl,hvv,hr,hbk,hbp⟩:=hx.opn
 obtain⟨k,t,v,f,ks,p⟩:=y
 simp only at hk htz hE hBl h2 hn3
 subst hk
 obtain⟨n,hn⟩:∃n,ks.length=n:=⟨_,rfl⟩
 have hnb:n≤140737488351232:=by rw [←hn];exact hr.len
 simp only [hn] at hx0 hvv hr hbk hbp ⊢
 obtain⟨R,hR⟩:∃R,(.string (bA (stT d ⟨7,t,v,f,ks,p⟩)):Value)=R:=⟨_,rfl⟩
 rw [hR]
 have HR:=hZ hR
 obtain⟨b,rfl⟩:=some_of hr (by omega)
 obtain⟨w1,hw1⟩:∃w1,w.alloc (.cells #[.int .i64 7,.string t,.int .i64 vk,.int .i64 vn,.string vs,.slice al ll cl,.slice ak lk ck,.bool f,.slice (some b) n cc,.int .i64 p] 28)=w1:=⟨_,rfl⟩
 obtain⟨G,hG⟩:∃G,w.heap.size=G:=⟨_,rfl⟩
 obtain⟨A1,X1⟩:=al1 hw1 hG
 have hBG:B0≤G:=by rw [←hG];exact hB
 have HM:Hid (NM5 B0 G w w1 ⟨7,t,v,f,ks,p⟩ [.int .i64 7,.string t,.int .i64 vk,.int .i64 vn,.string vs,.slice al ll cl,.slice ak lk ck,.bool f,.slice (some b) n cc,.int .i64 p] ks (some b) cc v (.agg #[.int .i64 vk,.int .i64 vn,.string vs,.slice al ll cl,.slice ak lk ck])):=hZ (fun u hu=>by
  have h2:=X1.trans (hu.mono (Nat.le_of_lt (lt_of_row A1)))
  exact⟨hx0.laterB (h2.mono hBG),hr.later (h2.mono hBG),Nat.le_trans hBG (by rw [←hG];exact h2.size),hvv.mono (h2.mono hBG),h2⟩)
 have HF:Hid (NF10 w1 G (.int .i64 7) (.string t) (.int .i64 vk) (.int .i64 vn) (.string vs) (.slice al ll cl) (.slice ak lk ck) (.bool f) (.slice (some b) n cc) (.int .i64 p)):=hZ (fun u hu=>row_ten (Below.cellsAt hu A1))
 have HN:=hZ hn
 have HS0:Hid (Below w1.heap.size w1 w1):=hZ (Below.refl _ _)
 have HW:=hZ hw1
 have HE:=hZ hE
 have HBl:=hZ hBl
 have hnn:2≤n:=by omega
 obtain⟨z,hz⟩:∃z,ks[0]?=some z:=⟨_,List.getElem?_eq_getElem (by omega)⟩
 have Hz:=hZ hz
 obtain⟨y,hy⟩:∃z,ks[1]?=some z:=⟨_,List.getElem?_eq_getElem (by omega)⟩
 have Hy:=hZ hy
 obtain⟨b',vkp,vnp,vsp,alp,akp,ap,llp,clp,lkp,ckp,np,ccp,eb,hcp,hbp,hnp,hzp,hcellp⟩:=hr.ten hz
 obtain rfl:b=b':=Option.some.inj eb
 clear eb
 have X0p:∀u,Below w1.heap.size w1 u→Below G w u:=fun u h=>X1.trans (h.mono (Nat.le_of_lt (lt_of_row A1)))
 have HKp:Hid (∀u,Below w1.heap.size w1 u→(u.cell? (b)=some (.int .i64 z.k)∧u.cell? (⟨b.block,b.off+1,none⟩)=some (.string z.t)∧u.cell? (⟨b.block,b.off+2,none⟩)=some (.int .i64 vkp)∧u.cell? (⟨b.block,b.off+3,none⟩)=some (.int .i64 vnp)∧u.cell? (⟨b.block,b.off+4,none⟩)=some (.string vsp)∧u.cell? (⟨b.block,b.off+5,none⟩)=some (.slice alp llp clp)∧u.cell? (⟨b.block,b.off+6,none⟩)=some (.slice akp lkp ckp)∧u.cell? (⟨b.block,b.off+7,none⟩)=some (.bool z.f)∧u.cell? (⟨b.block,b.off+8,none⟩)=some (.slice ap np ccp)∧u.cell? (⟨b.block,b.off+9,none⟩)=some (.int .i64 z.p))∧IsN u (fun b=>b<B0) z [.int .i64 z.k,.string z.t,.int .i64 vkp,.int .i64 vnp,.string vsp,.slice alp llp clp,.slice akp lkp ckp,.bool z.f,.slice ap np ccp,.int .i64 z.p]):=hZ (fun u h=>by
  have hc:∀j v,([.int .i64 z.k,.string z.t,.int .i64 vkp,.int .i64 vnp,.string vsp,.slice alp llp clp,.slice akp lkp ckp,.bool z.f,.slice ap np ccp,.int .i64 z.p]:List Value)[j]?=some v→u.cell? ((b.add (0 * 10)).add j)=some v:=fun j v hj=>(World.cell?_of_block ((X0p u h).block _ (by rw [block_add,block_add];omega))).trans (hcellp j v hj)
  exact⟨⟨hc 0 _ rfl,hc 1 _ rfl,hc 2 _ rfl,hc 3 _ rfl,hc 4 _ rfl,hc 5 _ rfl,hc 6 _ rfl,hc 7 _ rfl,hc 8 _ rfl,hc 9 _ rfl⟩,hzp.laterB ((X0p u h).mono hBG)⟩)
 have hnccp:n≤cc:=by rw [←hn];exact hcp
 clear hzp hcellp X0p hbp hcp
 obtain⟨b',vkq,vnq,vsq,alq,akq,aq,llq,clq,lkq,ckq,nq,ccq,eb,hcq,hbq,hnq,hzq,hcellq⟩:=hr.ten hy
 obtain rfl:b=b':=Option.some.inj eb
 clear eb
 have X0q:∀u,Below w1.heap.size w1 u→Below G w u:=fun u h=>X1.trans (h.mono (Nat.le_of_lt (lt_of_row A1)))
 have HKq:Hid (∀u,Below w1.heap.size w1 u→(u.cell? (⟨b.block,b.off+10,none⟩)=some (.int .i64 y.k)∧u.cell? (⟨b.block,b.off+10+1,none⟩)=some (.string y.t)∧u.cell? (⟨b.block,b.off+10+2,none⟩)=some (.int .i64 vkq)∧u.cell? (⟨b.block,b.off+10+3,none⟩)=some (.int .i64 vnq)∧u.cell? (⟨b.block,b.off+10+4,none⟩)=some (.string vsq)∧u.cell? (⟨b.block,b.off+10+5,none⟩)=some (.slice alq llq clq)∧u.cell? (⟨b.block,b.off+10+6,none⟩)=some (.slice akq lkq ckq)∧u.cell? (⟨b.block,b.off+10+7,none⟩)=some (.bool y.f)∧u.cell? (⟨b.block,b.off+10+8,none⟩)=some (.slice aq nq ccq)∧u.cell? (⟨b.block,b.off+10+9,none⟩)=some (.int .i64 y.p))∧IsN u (fun b=>b<B0) y [.int .i64 y.k,.string y.t,.int .i64 vkq,.int .i64 vnq,.string vsq,.slice alq llq clq,.slice akq lkq ckq,.bool y.f,.slice aq nq ccq,.int .i64 y.p]):=hZ (fun u h=>by
  have hc:∀j v,([.int .i64 y.k,.string y.t,.int .i64 vkq,.int .i64 vnq,.string vsq,.slice alq llq clq,.slice akq lkq ckq,.bool y.f,.slice aq nq ccq,.int .i64 y.p]:List Value)[j]?=some v→u.cell? ((b.add (1 * 10)).add j)=some v:=fun j v hj=>(World.cell?_of_block ((X0q u h).block _ (by rw [block_add,block_add];omega))).trans (hcellq j v hj)
  exact⟨⟨hc 0 _ rfl,hc 1 _ rfl,hc 2 _ rfl,hc 3 _ rfl,hc 4 _ rfl,hc 5 _ rfl,hc 6 _ rfl,hc 7 _ rfl,hc 8 _ rfl,hc 9 _ rfl⟩,hzq.laterB ((X0q u h).mono hBG)⟩)
 have hnccq:n≤cc:=by rw [←hn];exact hcq
 clear hzq hcellq X0q hbq hcq
 have p00:¬n=0:=by omega
 have p0:(0:Int)<(n:Int):=by omega
 have p1:(1:Int)<(n:Int):=by omega
 obtain⟨c,hc⟩:∃z,ks[2]?=some z:=⟨_,List.getElem?_eq_getElem (by omega)⟩
 have Hc:=hZ hc
 obtain⟨b',vkr,vnr,vsr,alr,akr,ar,llr,clr,lkr,ckr,nr,ccr,eb,hcr,hbr,hnr,hzr,hcellr⟩:=hr.ten hc
 obtain rfl:b=b':=Option.some.inj eb
 clear eb
 have X0r:∀u,Below w1.heap.size w1 u→Below G w u:=fun u h=>X1.trans (h.mono (Nat.le_of_lt (lt_of_row A1)))
 have HKr:Hid (∀u,Below w1.heap.size w1 u→(u.cell? (⟨b.block,b.off+20,none⟩)=some (.int .i64 c.k)∧u.cell? (⟨b.block,b.off+20+1,none⟩)=some (.string c.t)∧u.cell? (⟨b.block,b.off+20+2,none⟩)=some (.int .i64 vkr)∧u.cell? (⟨b.block,b.off+20+3,none⟩)=some (.int .i64 vnr)∧u.cell? (⟨b.block,b.off+20+4,none⟩)=some (.string vsr)∧u.cell? (⟨b.block,b.off+20+5,none⟩)=some (.slice alr llr clr)∧u.cell? (⟨b.block,b.off+20+6,none⟩)=some (.slice akr lkr ckr)∧u.cell? (⟨b.block,b.off+20+7,none⟩)=some (.bool c.f)∧u.cell? (⟨b.block,b.off+20+8,none⟩)=some (.slice ar nr ccr)∧u.cell? (⟨b.block,b.off+20+9,none⟩)=some (.int .i64 c.p))∧IsN u (fun b=>b<B0) c [.int .i64 c.k,.string c.t,.int .i64 vkr,.int .i64 vnr,.string vsr,.slice alr llr clr,.slice akr lkr ckr,.bool c.f,.slice ar nr ccr,.int .i64 c.p]):=hZ (fun u h=>by
  have hc:∀j v,([.int .i64 c.k,.string c.t,.int .i64 vkr,.int .i64 vnr,.string vsr,.slice alr llr clr,.slice akr lkr ckr,.bool c.f,.slice ar nr ccr,.int .i64 c.p]:List Value)[j]?=some v→u.cell? ((b.add (2 * 10)).add j)=some v:=fun j v hj=>(World.cell?_of_block ((X0r u h).block _ (by rw [block_add,block_add];omega))).trans (hcellr j v hj)
  exact⟨⟨hc 0 _ rfl,hc 1 _ rfl,hc 2 _ rfl,hc 3 _ rfl,hc 4 _ rfl,hc 5 _ rfl,hc 6 _ rfl,hc 7 _ rfl,hc 8 _ rfl,hc 9 _ rfl⟩,hzr.laterB ((X0r u h).mono hBG)⟩)
 have hnccr:n≤cc:=by rw [←hn];exact hcr
 clear hzr hcellr X0r hbr hcr
 have H2:=hZ (h2 c hc)
 have p2:(2:Int)<(n:Int):=by omega
 have hn2i:((n:Int) == 2)=false:=by simp;omega
 clear hnn hE hBl hn3 hz hy hc h2
 clear A1 X1 hw1 hx hx0 hr hvv hB hBG hn hR
 go_enter Tryz.func47,Tryz.ntmps47
 go_upto_region 1 with fail
 rw [uZ HW]
 try rw [hG]
 clear HW
 have CS:Hid (∀u,Below w1.heap.size w1 u→Calls Tryz.prog 28 #[.agg #[.int .i64 z.k,.string z.t,.int .i64 vkp,.int .i64 vnp,.string vsp,.slice alp llp clp,.slice akp lkp ckp,.bool z.f,.slice ap np ccp,.int .i64 z.p]] u fun e u'=>e=.returned (.string (bA (exT z)))∧Below u.heap.size u u'):=hZ (fun u hu=>(uZ HE z (uZ Hz)).1 _ u ((uZ HM) u hu).2.2.1 (uZ HKp u hu).2)
 obtain⟨S,hS⟩:∃S,bA (exT z)=S:=⟨_,rfl⟩
 rw [hS] at CS
 have dS:S.data.toList=exT z:=by rw [←hS,bA_data]
 have sS:S.size≤10000000000:=by
  have e:S.size=(exT z).length:=by rw [←hS,bA_size]
  have:=(uZ HE z (uZ Hz)).2
  omega
 clear hS
 have CT:Hid (∀u,Below w1.heap.size w1 u→Calls Tryz.prog 24 #[.agg #[.int .i64 y.k,.string y.t,.int .i64 vkq,.int .i64 vnq,.string vsq,.slice alq llq clq,.slice akq lkq ckq,.bool y.f,.slice aq nq ccq,.int .i64 y.p],.int .i64 (d:Int)] u fun e u'=>e=.returned (.string (bA (stT (d+1) y)))∧Below u.heap.size u u'):=hZ (fun u hu=>(uZ HBl y (uZ Hy)).1 _ u ((uZ HM) u hu).2.2.1 (uZ HKq u hu).2)
 obtain⟨T,hT⟩:∃S,bA (stT (d+1) y)=S:=⟨_,rfl⟩
 rw [hT] at CT
 have dT:T.data.toList=stT (d+1) y:=by rw [←hT,bA_data]
 have sT:T.size≤10000000000:=by
  have e:T.size=(stT (d+1) y).length:=by rw [←hT,bA_size]
  have:=(uZ HBl y (uZ Hy)).2
  omega
 clear hT
 have hzA:¬9223372036854775807<4+S.size:=by omega
 obtain⟨A,eA⟩:∃z,(⟨#[105,102,32,40]⟩++S:ByteArray)=z:=⟨_,rfl⟩
 have dA:A.data.toList=[105,102,32,40]++exT z:=by rw [←eA,ByteArray.data_append,Array.toList_append] <;> (rw [dS] <;> rfl)
 have sA:A.size≤4+S.size:=by rw [←eA,ByteArray.size_append];exact Nat.le_refl _
 have hzB:¬9223372036854775807<A.size+2:=by omega
 obtain⟨B,eB⟩:∃z,(A++⟨#[41,32]⟩:ByteArray)=z:=⟨_,rfl⟩
 have dB:B.data.toList=[105,102,32,40]++exT z++[41,32]:=by rw [←eB,ByteArray.data_append,Array.toList_append] <;> (rw [dA] <;> rfl)
 have sB:B.size≤A.size+2:=by rw [←eB,ByteArray.size_append];exact Nat.le_refl _
 have hzD:¬9223372036854775807<B.size+T.size:=by omega
 obtain⟨D,eD⟩:∃z,(B++T:ByteArray)=z:=⟨_,rfl⟩
 have dD:D.data.toList=[105,102,32,40]++exT z++[41,32]++stT (d+1) y:=by rw [←eD,ByteArray.data_append,Array.toList_append] <;> (rw [dB,dT])
 have sD:D.size≤B.size+T.size:=by rw [←eD,ByteArray.size_append];exact Nat.le_refl _
 have CU:Hid (∀u,Below w1.heap.size w1 u→Calls Tryz.prog 47 #[.agg #[.int .i64 c.k,.string c.t,.int .i64 vkr,.int .i64 vnr,.string vsr,.slice alr llr clr,.slice akr lkr ckr,.bool c.f,.slice ar nr ccr,.int .i64 c.p],.int .i64 (d:Int)] u fun e u'=>e=.returned (.string (bA (stT d c)))∧Below u.heap.size u u'):=hZ (fun u hu=>(uZ H2).2.1 _ u ((uZ HM) u hu).2.2.1 (uZ HKr u hu).2)
 obtain⟨U,hU⟩:∃S,bA (stT d c)=S:=⟨_,rfl⟩
 rw [hU] at CU
 have dU:U.data.toList=stT d c:=by rw [←hU,bA_data]
 have sU:U.size≤10000000000:=by
  have e:U.size=(stT d c).length:=by rw [←hU,bA_size]
  have:=(uZ H2).2.2
  omega
 clear hU
 have k7:(c.k == 7)=true:=by simp [(uZ H2).1]
 have hzE:¬9223372036854775807<D.size+6:=by omega
 obtain⟨E,eE⟩:∃z,(D++⟨#[32,101,108,115,101,32]⟩:ByteArray)=z:=⟨_,rfl⟩
 have dE:E.data.toList=[105,102,32,40]++exT z++[41,32]++stT (d+1) y++[32,101,108,115,101,32]:=by rw [←eE,ByteArray.data_append,Array.toList_append] <;> (rw [dD] <;> rfl)
 have sE:E.size≤D.size+6:=by rw [←eE,ByteArray.size_append];exact Nat.le_refl _
 have hzF:¬9223372036854775807<E.size+U.size:=by omega
 obtain⟨F,eF⟩:∃z,(E++U:ByteArray)=z:=⟨_,rfl⟩
 have dF:F.data.toList=[105,102,32,40]++exT z++[41,32]++stT (d+1) y++[32,101,108,115,101,32]++stT d c:=by rw [←eF,ByteArray.data_append,Array.toList_append] <;> (rw [dE,dU])
 have sF:F.size≤E.size+U.size:=by rw [←eF,ByteArray.size_append];exact Nat.le_refl _
 have HV:=hZ (show R=.string F by rw [←uZ HR];exact congrArg Value.string (bA_eq F _ (by
   rw [dF]
   have h7:=(uZ H2).1
   rw [st7_eq3 d t v f ks p c (uZ Hc),exM_at ks 0 z (uZ Hz),uZ Hy,if_pos h7]
   simp)).symm)
 clear HR
 clear dA dB dD dS dT dE dF dU
 obtain⟨x0,x1,x2,x3,x4,x5,x6,x7,x8,x9⟩:=uZ HF w1 (Below.refl _ _)
 go_upto_region 16 with fail
 clear x0 x1 x2 x3 x4 x5 x6 x7 x8 x9
 have HD0:Hid (Below w1.heap.size w1 w1.drew):=hZ ((Below.refl _ _).drew)
 refine till_begin (S:=fun w'=>Below w1.heap.size w1 w') 14 (by kernel_rfl) ?_
 obtain⟨W0,hW0⟩:∃W0,w1.drew=W0:=⟨_,rfl⟩
 try rw [hW0]
 rw [hW0] at HD0
 clear hW0
 refine tK 0 (v:=.pointer (some ⟨G,8,none⟩)) (some 56) rfl rfl rfl (by kernel_rfl) (fun _ _ _ h=>h) (Or.inl ⟨by rfl,fun u hu=>by obtain⟨x0,x1,x2,x3,x4,x5,x6,x7,x8,x9⟩:=uZ HF u hu;obtain⟨z0,z1,z2,z3,z4,z5,z6,z7,z8,z9⟩:=(uZ HKp u hu).1;obtain⟨y0,y1,y2,y3,y4,y5,y6,y7,y8,y9⟩:=(uZ HKq u hu).1;go_simp⟩) (uZ HD0) ?_
 try simp only [Act.put,sA,sB,sC]
 refine tK 1 (v:=.slice (some b) n cc) (some 57) rfl rfl rfl (by kernel_rfl) (fun _ _ _ h=>h) (Or.inl ⟨by rfl,fun u hu=>by obtain⟨x0,x1,x2,x3,x4,x5,x6,x7,x8,x9⟩:=uZ HF u hu;obtain⟨z0,z1,z2,z3,z4,z5,z6,z7,z8,z9⟩:=(uZ HKp u hu).1;obtain⟨y0,y1,y2,y3,y4,y5,y6,y7,y8,y9⟩:=(uZ HKq u hu).1;go_simp⟩) (uZ HD0) ?_
 try simp only [Act.put,sA,sB,sC]
 refine tK 2 (v:=.pointer (some b)) (some 58) rfl rfl rfl (by kernel_rfl) (fun _ _ _ h=>h) (Or.inl ⟨by rfl,fun u hu=>by obtain⟨x0,x1,x2,x3,x4,x5,x6,x7,x8,x9⟩:=uZ HF u hu;obtain⟨z0,z1,z2,z3,z4,z5,z6,z7,z8,z9⟩:=(uZ HKp u hu).1;obtain⟨y0,y1,y2,y3,y4,y5,y6,y7,y8,y9⟩:=(uZ HKq u hu).1;go_simp⟩) (uZ HD0) ?_
 try simp only [Act.put,sA,sB,sC]
 refine tK 3 (v:=.agg #[.int .i64 z.k,.string z.t,.int .i64 vkp,.int .i64 vnp,.string vsp,.slice alp llp clp,.slice akp lkp ckp,.bool z.f,.slice ap np ccp,.int .i64 z.p]) (some 59) rfl rfl rfl (by kernel_rfl) (fun _ _ _ h=>h) (Or.inl ⟨by rfl,fun u hu=>by obtain⟨x0,x1,x2,x3,x4,x5,x6,x7,x8,x9⟩:=uZ HF u hu;obtain⟨z0,z1,z2,z3,z4,z5,z6,z7,z8,z9⟩:=(uZ HKp u hu).1;obtain⟨y0,y1,y2,y3,y4,y5,y6,y7,y8,y9⟩:=(uZ HKq u hu).1;go_simp⟩) (uZ HD0) ?_
 try simp only [Act.put,sA,sB,sC]
 refine tK 7 (v:=.pointer (some ⟨G,8,none⟩)) (some 63) rfl rfl rfl (by kernel_rfl) (fun _ _ _ h=>h) (Or.inl ⟨by rfl,fun u hu=>by obtain⟨x0,x1,x2,x3,x4,x5,x6,x7,x8,x9⟩:=uZ HF u hu;obtain⟨z0,z1,z2,z3,z4,z5,z6,z7,z8,z9⟩:=(uZ HKp u hu).1;obtain⟨y0,y1,y2,y3,y4,y5,y6,y7,y8,y9⟩:=(uZ HKq u hu).1;go_simp⟩) (uZ HD0) ?_
 try simp only [Act.put,sA,sB,sC]
 refine tK 8 (v:=.slice (some b) n cc) (some 64) rfl rfl rfl (by kernel_rfl) (fun _ _ _ h=>h) (Or.inl ⟨by rfl,fun u hu=>by obtain⟨x0,x1,x2,x3,x4,x5,x6,x7,x8,x9⟩:=uZ HF u hu;obtain⟨z0,z1,z2,z3,z4,z5,z6,z7,z8,z9⟩:=(uZ HKp u hu).1;obtain⟨y0,y1,y2,y3,y4,y5,y6,y7,y8,y9⟩:=(uZ HKq u hu).1;go_simp⟩) (uZ HD0) ?_
 try simp only [Act.put,sA,sB,sC]
 refine tK 9 (v:=.pointer (some ⟨b.block,b.off+10,none⟩)) (some 65) rfl rfl rfl (by kernel_rfl) (fun _ _ _ h=>h) (Or.inl ⟨by rfl,fun u hu=>by obtain⟨x0,x1,x2,x3,x4,x5,x6,x7,x8,x9⟩:=uZ HF u hu;obtain⟨z0,z1,z2,z3,z4,z5,z6,z7,z8,z9⟩:=(uZ HKp u hu).1;obtain⟨y0,y1,y2,y3,y4,y5,y6,y7,y8,y9⟩:=(uZ HKq u hu).1;go_simp⟩) (uZ HD0) ?_
 try simp only [Act.put,sA,sB,sC]
 refine tK 10 (v:=.agg #[.int .i64 y.k,.string y.t,.int .i64 vkq,.int .i64 vnq,.string vsq,.slice alq llq clq,.slice akq lkq ckq,.bool y.f,.slice aq nq ccq,.int .i64 y.p]) (some 66) rfl rfl rfl (by kernel_rfl) (fun _ _ _ h=>h) (Or.inl ⟨by rfl,fun u hu=>by obtain⟨x0,x1,x2,x3,x4,x5,x6,x7,x8,x9⟩:=uZ HF u hu;obtain⟨z0,z1,z2,z3,z4,z5,z6,z7,z8,z9⟩:=(uZ HKp u hu).1;obtain⟨y0,y1,y2,y3,y4,y5,y6,y7,y8,y9⟩:=(uZ HKq u hu).1;go_simp⟩) (uZ HD0) ?_
 try simp only [Act.put,sA,sB,sC]
 refine tK 11 (v:=.int .i64 (d:Int)) (some 67) rfl rfl rfl (by kernel_rfl) (fun _ _ _ h=>h) (Or.inl ⟨by rfl,fun u hu=>by obtain⟨x0,x1,x2,x3,x4,x5,x6,x7,x8,x9⟩:=uZ HF u hu;obtain⟨z0,z1,z2,z3,z4,z5,z6,z7,z8,z9⟩:=(uZ HKp u hu).1;obtain⟨y0,y1,y2,y3,y4,y5,y6,y7,y8,y9⟩:=(uZ HKq u hu).1;go_simp⟩) (uZ HD0) ?_
 try simp only [Act.put,sA,sB,sC]
 refine till_one 4 (by kernel_rfl) rfl (fun K hK=>?_)
 go_simp
 refine((uZ CS) W0 (uZ HD0)).mono ?_
 rintro e W1 ⟨rfl,bb⟩
 have HD1:=hZ ((uZ HD0).trans (bb.mono (uZ HD0).size))
 clear bb
 go_wp2_with fail
 refine hK.out _ _ (Or.inr (uZ HD1)) ?_
 clear hK K HD0
 try simp only [Act.put,sA,sB,sC]
 refine tK 5 (v:=.string A) (some 61) rfl rfl rfl (by kernel_rfl) (fun _ _ _ h=>h) (Or.inl ⟨by rfl,fun u hu=>by obtain⟨x0,x1,x2,x3,x4,x5,x6,x7,x8,x9⟩:=uZ HF u hu;obtain⟨z0,z1,z2,z3,z4,z5,z6,z7,z8,z9⟩:=(uZ HKp u hu).1;obtain⟨y0,y1,y2,y3,y4,y5,y6,y7,y8,y9⟩:=(uZ HKq u hu).1;go_simp⟩) (uZ HD1) ?_
 try simp only [Act.put,sA,sB,sC]
 refine tK 6 (v:=.string B) (some 62) rfl rfl rfl (by kernel_rfl) (fun _ _ _ h=>h) (Or.inl ⟨by rfl,fun u hu=>by obtain⟨x0,x1,x2,x3,x4,x5,x6,x7,x8,x9⟩:=uZ HF u hu;obtain⟨z0,z1,z2,z3,z4,z5,z6,z7,z8,z9⟩:=(uZ HKp u hu).1;obtain⟨y0,y1,y2,y3,y4,y5,y6,y7,y8,y9⟩:=(uZ HKq u hu).1;go_simp⟩) (uZ HD1) ?_
 try simp only [Act.put,sA,sB,sC]
 refine till_one 12 (by kernel_rfl) rfl (fun K hK=>?_)
 go_simp
 refine((uZ CT) W1 (uZ HD1)).mono ?_
 rintro e W2 ⟨rfl,bb⟩
 have HD2:=hZ ((uZ HD1).trans (bb.mono (uZ HD1).size))
 clear bb
 go_wp2_with fail
 refine hK.out _ _ (Or.inr (uZ HD2)) ?_
 clear hK K HD1
 try simp only [Act.put,sA,sB,sC]
 refine till_one 13 (by kernel_rfl) rfl (fun K hK=>?_)
 go_simp
 refine hK.out _ _ (Or.inr (uZ HD2)) ?_
 clear hK K
 try simp only [Act.put,sA,sB,sC]
 refine till_one 14 (by kernel_rfl) rfl (fun K hK=>?_)
 go_simp
 refine hK.out _ _ (Or.inl (by first|rfl|trivial)) ?_
 clear hK K
 try simp only [Act.put,sA,sB,sC]
 refine till_done (by kernel_rfl) ?_ _
 obtain⟨x0,x1,x2,x3,x4,x5,x6,x7,x8,x9⟩:=uZ HF W2 (uZ HD2)
 obtain⟨v0,v1,v2,v3,v4,v5,v6,v7,v8,v9⟩:=(uZ HKr W2 (uZ HD2)).1
 have CU2:=hZ ((uZ CU) W2 (uZ HD2))
 go_wp2_with fail
 refine(uZ CU2).mono ?_
 rintro e W3 ⟨rfl,bb⟩
 have HD3:=hZ ((uZ HD2).trans (bb.mono (uZ HD2).size))
 clear bb CU2 CU v0 v1 v2 v3 v4 v5 v6 v7 v8 v9 x0 x1 x2 x3 x4 x5 x6 x7 x8 x9
 go_wp2_with fail
 go_ret
 have hbz:=((uZ HM) W3 (uZ HD3)).2.2.2.2
 exact⟨by rw [uZ HV] <;> rfl,by subst hG;exact hbz⟩
theorem rst7b_any (d B0:Nat) (y:Tn) (x:List Value) (w:World) (hB:B0≤w.heap.size) (hx:IsN w (fun b=>b<B0) y x) (hk:y.k=7) (htz:y.t.size≤1000) (hE:∀z,y.ks[0]?=some z→ExD B0 z∧(exT z).length≤10000000000) (hBl:∀z,y.ks[1]?=some z→BlD B0 d z∧(stT (d+1) z).length≤10000000000) (h2:∀z,y.ks[2]?=some z→z.k≠7∧BlD B0 d z∧(stT (d+1) z).length≤10000000000) (hn3:y.ks.length=3) :
  Calls Tryz.prog 47 #[.agg x.toArray,.int .i64 (d:Int)] w fun e w'=>e=.returned (.string (bA (stT d y)))∧Below w.heap.size w w':=by
 have hx0:=hx
 obtain⟨vk,vn,vs,al,ak,a,ll,cl,lk,ck,cc,rfl,hvv,hr,hbk,hbp⟩:=hx.opn
 obtain⟨k,t,v,f,ks,p⟩:=y
 simp only at hk htz hE hBl h2 hn3
 subst hk
 obtain⟨n,hn⟩:∃n,ks.length=n:=⟨_,rfl⟩
 have hnb:n≤140737488351232:=by rw [←hn];exact hr.len
 simp only [hn] at hx0 hvv hr hbk hbp ⊢
 obtain⟨R,hR⟩:∃R,(.string (bA (stT d ⟨7,t,v,f,ks,p⟩)):Value)=R:=⟨_,rfl⟩
 rw [hR]
 have HR:=hZ hR
 obtain⟨b,rfl⟩:=some_of hr (by omega)
 obtain⟨w1,hw1⟩:∃w1,w.alloc (.cells #[.int .i64 7,.string t,.int .i64 vk,.int .i64 vn,.string vs,.slice al ll cl,.slice ak lk ck,.bool f,.slice (some b) n cc,.int .i64 p] 28)=w1:=⟨_,rfl⟩
 obtain⟨G,hG⟩:∃G,w.heap.size=G:=⟨_,rfl⟩
 obtain⟨A1,X1⟩:=al1 hw1 hG
 have hBG:B0≤G:=by rw [←hG];exact hB
 have HM:Hid (NM5 B0 G w w1 ⟨7,t,v,f,ks,p⟩ [.int .i64 7,.string t,.int .i64 vk,.int .i64 vn,.string vs,.slice al ll cl,.slice ak lk ck,.bool f,.slice (some b) n cc,.int .i64 p] ks (some b) cc v (.agg #[.int .i64 vk,.int .i64 vn,.string vs,.slice al ll cl,.slice ak lk ck])):=hZ (fun u hu=>by
  have h2:=X1.trans (hu.mono (Nat.le_of_lt (lt_of_row A1)))
  exact⟨hx0.laterB (h2.mono hBG),hr.later (h2.mono hBG),Nat.le_trans hBG (by rw [←hG];exact h2.size),hvv.mono (h2.mono hBG),h2⟩)
 have HF:Hid (NF10 w1 G (.int .i64 7) (.string t) (.int .i64 vk) (.int .i64 vn) (.string vs) (.slice al ll cl) (.slice ak lk ck) (.bool f) (.slice (some b) n cc) (.int .i64 p)):=hZ (fun u hu=>row_ten (Below.cellsAt hu A1))
 have HN:=hZ hn
 have HS0:Hid (Below w1.heap.size w1 w1):=hZ (Below.refl _ _)
 have HW:=hZ hw1
 have HE:=hZ hE
 have HBl:=hZ hBl
 have hnn:2≤n:=by omega
 obtain⟨z,hz⟩:∃z,ks[0]?=some z:=⟨_,List.getElem?_eq_getElem (by omega)⟩
 have Hz:=hZ hz
 obtain⟨y,hy⟩:∃z,ks[1]?=some z:=⟨_,List.getElem?_eq_getElem (by omega)⟩
 have Hy:=hZ hy
 obtain⟨b',vkp,vnp,vsp,alp,akp,ap,llp,clp,lkp,ckp,np,ccp,eb,hcp,hbp,hnp,hzp,hcellp⟩:=hr.ten hz
 obtain rfl:b=b':=Option.some.inj eb
 clear eb
 have X0p:∀u,Below w1.heap.size w1 u→Below G w u:=fun u h=>X1.trans (h.mono (Nat.le_of_lt (lt_of_row A1)))
 have HKp:Hid (∀u,Below w1.heap.size w1 u→(u.cell? (b)=some (.int .i64 z.k)∧u.cell? (⟨b.block,b.off+1,none⟩)=some (.string z.t)∧u.cell? (⟨b.block,b.off+2,none⟩)=some (.int .i64 vkp)∧u.cell? (⟨b.block,b.off+3,none⟩)=some (.int .i64 vnp)∧u.cell? (⟨b.block,b.off+4,none⟩)=some (.string vsp)∧u.cell? (⟨b.block,b.off+5,none⟩)=some (.slice alp llp clp)∧u.cell? (⟨b.block,b.off+6,none⟩)=some (.slice akp lkp ckp)∧u.cell? (⟨b.block,b.off+7,none⟩)=some (.bool z.f)∧u.cell? (⟨b.block,b.off+8,none⟩)=some (.slice ap np ccp)∧u.cell? (⟨b.block,b.off+9,none⟩)=some (.int .i64 z.p))∧IsN u (fun b=>b<B0) z [.int .i64 z.k,.string z.t,.int .i64 vkp,.int .i64 vnp,.string vsp,.slice alp llp clp,.slice akp lkp ckp,.bool z.f,.slice ap np ccp,.int .i64 z.p]):=hZ (fun u h=>by
  have hc:∀j v,([.int .i64 z.k,.string z.t,.int .i64 vkp,.int .i64 vnp,.string vsp,.slice alp llp clp,.slice akp lkp ckp,.bool z.f,.slice ap np ccp,.int .i64 z.p]:List Value)[j]?=some v→u.cell? ((b.add (0 * 10)).add j)=some v:=fun j v hj=>(World.cell?_of_block ((X0p u h).block _ (by rw [block_add,block_add];omega))).trans (hcellp j v hj)
  exact⟨⟨hc 0 _ rfl,hc 1 _ rfl,hc 2 _ rfl,hc 3 _ rfl,hc 4 _ rfl,hc 5 _ rfl,hc 6 _ rfl,hc 7 _ rfl,hc 8 _ rfl,hc 9 _ rfl⟩,hzp.laterB ((X0p u h).mono hBG)⟩)
 have hnccp:n≤cc:=by rw [←hn];exact hcp
 clear hzp hcellp X0p hbp hcp
 obtain⟨b',vkq,vnq,vsq,alq,akq,aq,llq,clq,lkq,ckq,nq,ccq,eb,hcq,hbq,hnq,hzq,hcellq⟩:=hr.ten hy
 obtain rfl:b=b':=Option.some.inj eb
 clear eb
 have X0q:∀u,Below w1.heap.size w1 u→Below G w u:=fun u h=>X1.trans (h.mono (Nat.le_of_lt (lt_of_row A1)))
 have HKq:Hid (∀u,Below w1.heap.size w1 u→(u.cell? (⟨b.block,b.off+10,none⟩)=some (.int .i64 y.k)∧u.cell? (⟨b.block,b.off+10+1,none⟩)=some (.string y.t)∧u.cell? (⟨b.block,b.off+10+2,none⟩)=some (.int .i64 vkq)∧u.cell? (⟨b.block,b.off+10+3,none⟩)=some (.int .i64 vnq)∧u.cell? (⟨b.block,b.off+10+4,none⟩)=some (.string vsq)∧u.cell? (⟨b.block,b.off+10+5,none⟩)=some (.slice alq llq clq)∧u.cell? (⟨b.block,b.off+10+6,none⟩)=some (.slice akq lkq ckq)∧u.cell? (⟨b.block,b.off+10+7,none⟩)=some (.bool y.f)∧u.cell? (⟨b.block,b.off+10+8,none⟩)=some (.slice aq nq ccq)∧u.cell? (⟨b.block,b.off+10+9,none⟩)=some (.int .i64 y.p))∧IsN u (fun b=>b<B0) y [.int .i64 y.k,.string y.t,.int .i64 vkq,.int .i64 vnq,.string vsq,.slice alq llq clq,.slice akq lkq ckq,.bool y.f,.slice aq nq ccq,.int .i64 y.p]):=hZ (fun u h=>by
  have hc:∀j v,([.int .i64 y.k,.string y.t,.int .i64 vkq,.int .i64 vnq,.string vsq,.slice alq llq clq,.slice akq lkq ckq,.bool y.f,.slice aq nq ccq,.int .i64 y.p]:List Value)[j]?=some v→u.cell? ((b.add (1 * 10)).add j)=some v:=fun j v hj=>(World.cell?_of_block ((X0q u h).block _ (by rw [block_add,block_add];omega))).trans (hcellq j v hj)
  exact⟨⟨hc 0 _ rfl,hc 1 _ rfl,hc 2 _ rfl,hc 3 _ rfl,hc 4 _ rfl,hc 5 _ rfl,hc 6 _ rfl,hc 7 _ rfl,hc 8 _ rfl,hc 9 _ rfl⟩,hzq.laterB ((X0q u h).mono hBG)⟩)
 have hnccq:n≤cc:=by rw [←hn];exact hcq
 clear hzq hcellq X0q hbq hcq
 have p00:¬n=0:=by omega
 have p0:(0:Int)<(n:Int):=by omega
 have p1:(1:Int)<(n:Int):=by omega
 obtain⟨c,hc⟩:∃z,ks[2]?=some z:=⟨_,List.getElem?_eq_getElem (by omega)⟩
 have Hc:=hZ hc
 obtain⟨b',vkr,vnr,vsr,alr,akr,ar,llr,clr,lkr,ckr,nr,ccr,eb,hcr,hbr,hnr,hzr,hcellr⟩:=hr.ten hc
 obtain rfl:b=b':=Option.some.inj eb
 clear eb
 have X0r:∀u,Below w1.heap.size w1 u→Below G w u:=fun u h=>X1.trans (h.mono (Nat.le_of_lt (lt_of_row A1)))
 have HKr:Hid (∀u,Below w1.heap.size w1 u→(u.cell? (⟨b.block,b.off+20,none⟩)=some (.int .i64 c.k)∧u.cell? (⟨b.block,b.off+20+1,none⟩)=some (.string c.t)∧u.cell? (⟨b.block,b.off+20+2,none⟩)=some (.int .i64 vkr)∧u.cell? (⟨b.block,b.off+20+3,none⟩)=some (.int .i64 vnr)∧u.cell? (⟨b.block,b.off+20+4,none⟩)=some (.string vsr)∧u.cell? (⟨b.block,b.off+20+5,none⟩)=some (.slice alr llr clr)∧u.cell? (⟨b.block,b.off+20+6,none⟩)=some (.slice akr lkr ckr)∧u.cell? (⟨b.block,b.off+20+7,none⟩)=some (.bool c.f)∧u.cell? (⟨b.block,b.off+20+8,none⟩)=some (.slice ar nr ccr)∧u.cell? (⟨b.block,b.off+20+9,none⟩)=some (.int .i64 c.p))∧IsN u (fun b=>b<B0) c [.int .i64 c.k,.string c.t,.int .i64 vkr,.int .i64 vnr,.string vsr,.slice alr llr clr,.slice akr lkr ckr,.bool c.f,.slice ar nr ccr,.int .i64 c.p]):=hZ (fun u h=>by
  have hc:∀j v,([.int .i64 c.k,.string c.t,.int .i64 vkr,.int .i64 vnr,.string vsr,.slice alr llr clr,.slice akr lkr ckr,.bool c.f,.slice ar nr ccr,.int .i64 c.p]:List Value)[j]?=some v→u.cell? ((b.add (2 * 10)).add j)=some v:=fun j v hj=>(World.cell?_of_block ((X0r u h).block _ (by rw [block_add,block_add];omega))).trans (hcellr j v hj)
  exact⟨⟨hc 0 _ rfl,hc 1 _ rfl,hc 2 _ rfl,hc 3 _ rfl,hc 4 _ rfl,hc 5 _ rfl,hc 6 _ rfl,hc 7 _ rfl,hc 8 _ rfl,hc 9 _ rfl⟩,hzr.laterB ((X0r u h).mono hBG)⟩)
 have hnccr:n≤cc:=by rw [←hn];exact hcr
 clear hzr hcellr X0r hbr hcr
 have H2:=hZ (h2 c hc)
 have p2:(2:Int)<(n:Int):=by omega
 have hn2i:((n:Int) == 2)=false:=by simp;omega
 clear hnn hE hBl hn3 hz hy hc h2
 clear A1 X1 hw1 hx hx0 hr hvv hB hBG hn hR
 go_enter Tryz.func47,Tryz.ntmps47
 go_upto_region 1 with fail
 rw [uZ HW]
 try rw [hG]
 clear HW
 have CS:Hid (∀u,Below w1.heap.size w1 u→Calls Tryz.prog 28 #[.agg #[.int .i64 z.k,.string z.t,.int .i64 vkp,.int .i64 vnp,.string vsp,.slice alp llp clp,.slice akp lkp ckp,.bool z.f,.slice ap np ccp,.int .i64 z.p]] u fun e u'=>e=.returned (.string (bA (exT z)))∧Below u.heap.size u u'):=hZ (fun u hu=>(uZ HE z (uZ Hz)).1 _ u ((uZ HM) u hu).2.2.1 (uZ HKp u hu).2)
 obtain⟨S,hS⟩:∃S,bA (exT z)=S:=⟨_,rfl⟩
 rw [hS] at CS
 have dS:S.data.toList=exT z:=by rw [←hS,bA_data]
 have sS:S.size≤10000000000:=by
  have e:S.size=(exT z).length:=by rw [←hS,bA_size]
  have:=(uZ HE z (uZ Hz)).2
  omega
 clear hS
 have CT:Hid (∀u,Below w1.heap.size w1 u→Calls Tryz.prog 24 #[.agg #[.int .i64 y.k,.string y.t,.int .i64 vkq,.int .i64 vnq,.string vsq,.slice alq llq clq,.slice akq lkq ckq,.bool y.f,.slice aq nq ccq,.int .i64 y.p],.int .i64 (d:Int)] u fun e u'=>e=.returned (.string (bA (stT (d+1) y)))∧Below u.heap.size u u'):=hZ (fun u hu=>(uZ HBl y (uZ Hy)).1 _ u ((uZ HM) u hu).2.2.1 (uZ HKq u hu).2)
 obtain⟨T,hT⟩:∃S,bA (stT (d+1) y)=S:=⟨_,rfl⟩
 rw [hT] at CT
 have dT:T.data.toList=stT (d+1) y:=by rw [←hT,bA_data]
 have sT:T.size≤10000000000:=by
  have e:T.size=(stT (d+1) y).length:=by rw [←hT,bA_size]
  have:=(uZ HBl y (uZ Hy)).2
  omega
 clear hT
 have hzA:¬9223372036854775807<4+S.size:=by omega
 obtain⟨A,eA⟩:∃z,(⟨#[105,102,32,40]⟩++S:ByteArray)=z:=⟨_,rfl⟩
 have dA:A.data.toList=[105,102,32,40]++exT z:=by rw [←eA,ByteArray.data_append,Array.toList_append] <;> (rw [dS] <;> rfl)
 have sA:A.size≤4+S.size:=by rw [←eA,ByteArray.size_append];exact Nat.le_refl _
 have hzB:¬9223372036854775807<A.size+2:=by omega
 obtain⟨B,eB⟩:∃z,(A++⟨#[41,32]⟩:ByteArray)=z:=⟨_,rfl⟩
 have dB:B.data.toList=[105,102,32,40]++exT z++[41,32]:=by rw [←eB,ByteArray.data_append,Array.toList_append] <;> (rw [dA] <;> rfl)
 have sB:B.size≤A.size+2:=by rw [←eB,ByteArray.size_append];exact Nat.le_refl _
 have hzD:¬9223372036854775807<B.size+T.size:=by omega
 obtain⟨D,eD⟩:∃z,(B++T:ByteArray)=z:=⟨_,rfl⟩
 have dD:D.data.toList=[105,102,32,40]++exT z++[41,32]++stT (d+1) y:=by rw [←eD,ByteArray.data_append,Array.toList_append] <;> (rw [dB,dT])
 have sD:D.size≤B.size+T.size:=by rw [←eD,ByteArray.size_append];exact Nat.le_refl _
 have CU:Hid (∀u,Below w1.heap.size w1 u→Calls Tryz.prog 24 #[.agg #[.int .i64 c.k,.string c.t,.int .i64 vkr,.int .i64 vnr,.string vsr,.slice alr llr clr,.slice akr lkr ckr,.bool c.f,.slice ar nr ccr,.int .i64 c.p],.int .i64 (d:Int)] u fun e u'=>e=.returned (.string (bA (stT (d+1) c)))∧Below u.heap.size u u'):=hZ (fun u hu=>(uZ H2).2.1 _ u ((uZ HM) u hu).2.2.1 (uZ HKr u hu).2)
 obtain⟨U,hU⟩:∃S,bA (stT (d+1) c)=S:=⟨_,rfl⟩
 rw [hU] at CU
 have dU:U.data.toList=stT (d+1) c:=by rw [←hU,bA_data]
 have sU:U.size≤10000000000:=by
  have e:U.size=(stT (d+1) c).length:=by rw [←hU,bA_size]
  have:=(uZ H2).2.2
  omega
 clear hU
 have k7:(c.k == 7)=false:=by simpa using (uZ H2).1
 have hzE:¬9223372036854775807<D.size+6:=by omega
 obtain⟨E,eE⟩:∃z,(D++⟨#[32,101,108,115,101,32]⟩:ByteArray)=z:=⟨_,rfl⟩
 have dE:E.data.toList=[105,102,32,40]++exT z++[41,32]++stT (d+1) y++[32,101,108,115,101,32]:=by rw [←eE,ByteArray.data_append,Array.toList_append] <;> (rw [dD] <;> rfl)
 have sE:E.size≤D.size+6:=by rw [←eE,ByteArray.size_append];exact Nat.le_refl _
 have hzF:¬9223372036854775807<E.size+U.size:=by omega
 obtain⟨F,eF⟩:∃z,(E++U:ByteArray)=z:=⟨_,rfl⟩
 have dF:F.data.toList=[105,102,32,40]++exT z++[41,32]++stT (d+1) y++[32,101,108,115,101,32]++stT (d+1) c:=by rw [←eF,ByteArray.data_append,Array.toList_append] <;> (rw [dE,dU])
 have sF:F.size≤E.size+U.size:=by rw [←eF,ByteArray.size_append];exact Nat.le_refl _
 have HV:=hZ (show R=.string F by rw [←uZ HR];exact congrArg Value.string (bA_eq F _ (by
   rw [dF]
   have h7:=(uZ H2).1
   rw [st7_eq3 d t v f ks p c (uZ Hc),exM_at ks 0 z (uZ Hz),uZ Hy,if_neg h7]
   simp)).symm)
 clear HR
 clear dA dB dD dS dT dE dF dU
 obtain⟨x0,x1,x2,x3,x4,x5,x6,x7,x8,x9⟩:=uZ HF w1 (Below.refl _ _)
 go_upto_region 16 with fail
 clear x0 x1 x2 x3 x4 x5 x6 x7 x8 x9
 have HD0:Hid (Below w1.heap.size w1 w1.drew):=hZ ((Below.refl _ _).drew)
 refine till_begin (S:=fun w'=>Below w1.heap.size w1 w') 14 (by kernel_rfl) ?_
 obtain⟨W0,hW0⟩:∃W0,w1.drew=W0:=⟨_,rfl⟩
 try rw [hW0]
 rw [hW0] at HD0
 clear hW0
 refine tK 0 (v:=.pointer (some ⟨G,8,none⟩)) (some 56) rfl rfl rfl (by kernel_rfl) (fun _ _ _ h=>h) (Or.inl ⟨by rfl,fun u hu=>by obtain⟨x0,x1,x2,x3,x4,x5,x6,x7,x8,x9⟩:=uZ HF u hu;obtain⟨z0,z1,z2,z3,z4,z5,z6,z7,z8,z9⟩:=(uZ HKp u hu).1;obtain⟨y0,y1,y2,y3,y4,y5,y6,y7,y8,y9⟩:=(uZ HKq u hu).1;go_simp⟩) (uZ HD0) ?_
 try simp only [Act.put,sA,sB,sC]
 refine tK 1 (v:=.slice (some b) n cc) (some 57) rfl rfl rfl (by kernel_rfl) (fun _ _ _ h=>h) (Or.inl ⟨by rfl,fun u hu=>by obtain⟨x0,x1,x2,x3,x4,x5,x6,x7,x8,x9⟩:=uZ HF u hu;obtain⟨z0,z1,z2,z3,z4,z5,z6,z7,z8,z9⟩:=(uZ HKp u hu).1;obtain⟨y0,y1,y2,y3,y4,y5,y6,y7,y8,y9⟩:=(uZ HKq u hu).1;go_simp⟩) (uZ HD0) ?_
 try simp only [Act.put,sA,sB,sC]
 refine tK 2 (v:=.pointer (some b)) (some 58) rfl rfl rfl (by kernel_rfl) (fun _ _ _ h=>h) (Or.inl ⟨by rfl,fun u hu=>by obtain⟨x0,x1,x2,x3,x4,x5,x6,x7,x8,x9⟩:=uZ HF u hu;obtain⟨z0,z1,z2,z3,z4,z5,z6,z7,z8,z9⟩:=(uZ HKp u hu).1;obtain⟨y0,y1,y2,y3,y4,y5,y6,y7,y8,y9⟩:=(uZ HKq u hu).1;go_simp⟩) (uZ HD0) ?_
 try simp only [Act.put,sA,sB,sC]
 refine tK 3 (v:=.agg #[.int .i64 z.k,.string z.t,.int .i64 vkp,.int .i64 vnp,.string vsp,.slice alp llp clp,.slice akp lkp ckp,.bool z.f,.slice ap np ccp,.int .i64 z.p]) (some 59) rfl rfl rfl (by kernel_rfl) (fun _ _ _ h=>h) (Or.inl ⟨by rfl,fun u hu=>by obtain⟨x0,x1,x2,x3,x4,x5,x6,x7,x8,x9⟩:=uZ HF u hu;obtain⟨z0,z1,z2,z3,z4,z5,z6,z7,z8,z9⟩:=(uZ HKp u hu).1;obtain⟨y0,y1,y2,y3,y4,y5,y6,y7,y8,y9⟩:=(uZ HKq u hu).1;go_simp⟩) (uZ HD0) ?_
 try simp only [Act.put,sA,sB,sC]
 refine tK 7 (v:=.pointer (some ⟨G,8,none⟩)) (some 63) rfl rfl rfl (by kernel_rfl) (fun _ _ _ h=>h) (Or.inl ⟨by rfl,fun u hu=>by obtain⟨x0,x1,x2,x3,x4,x5,x6,x7,x8,x9⟩:=uZ HF u hu;obtain⟨z0,z1,z2,z3,z4,z5,z6,z7,z8,z9⟩:=(uZ HKp u hu).1;obtain⟨y0,y1,y2,y3,y4,y5,y6,y7,y8,y9⟩:=(uZ HKq u hu).1;go_simp⟩) (uZ HD0) ?_
 try simp only [Act.put,sA,sB,sC]
 refine tK 8 (v:=.slice (some b) n cc) (some 64) rfl rfl rfl (by kernel_rfl) (fun _ _ _ h=>h) (Or.inl ⟨by rfl,fun u hu=>by obtain⟨x0,x1,x2,x3,x4,x5,x6,x7,x8,x9⟩:=uZ HF u hu;obtain⟨z0,z1,z2,z3,z4,z5,z6,z7,z8,z9⟩:=(uZ HKp u hu).1;obtain⟨y0,y1,y2,y3,y4,y5,y6,y7,y8,y9⟩:=(uZ HKq u hu).1;go_simp⟩) (uZ HD0) ?_
 try simp only [Act.put,sA,sB,sC]
 refine tK 9 (v:=.pointer (some ⟨b.block,b.off+10,none⟩)) (some 65) rfl rfl rfl (by kernel_rfl) (fun _ _ _ h=>h) (Or.inl ⟨by rfl,fun u hu=>by obtain⟨x0,x1,x2,x3,x4,x5,x6,x7,x8,x9⟩:=uZ HF u hu;obtain⟨z0,z1,z2,z3,z4,z5,z6,z7,z8,z9⟩:=(uZ HKp u hu).1;obtain⟨y0,y1,y2,y3,y4,y5,y6,y7,y8,y9⟩:=(uZ HKq u hu).1;go_simp⟩) (uZ HD0) ?_
 try simp only [Act.put,sA,sB,sC]
 refine tK 10 (v:=.agg #[.int .i64 y.k,.string y.t,.int .i64 vkq,.int .i64 vnq,.string vsq,.slice alq llq clq,.slice akq lkq ckq,.bool y.f,.slice aq nq ccq,.int .i64 y.p]) (some 66) rfl rfl rfl (by kernel_rfl) (fun _ _ _ h=>h) (Or.inl ⟨by rfl,fun u hu=>by obtain⟨x0,x1,x2,x3,x4,x5,x6,x7,x8,x9⟩:=uZ HF u hu;obtain⟨z0,z1,z2,z3,z4,z5,z6,z7,z8,z9⟩:=(uZ HKp u hu).1;obtain⟨y0,y1,y2,y3,y4,y5,y6,y7,y8,y9⟩:=(uZ HKq u hu).1;go_simp⟩) (uZ HD0) ?_
 try simp only [Act.put,sA,sB,sC]
 refine tK 11 (v:=.int .i64 (d:Int)) (some 67) rfl rfl rfl (by kernel_rfl) (fun _ _ _ h=>h) (Or.inl ⟨by rfl,fun u hu=>by obtain⟨x0,x1,x2,x3,x4,x5,x6,x7,x8,x9⟩:=uZ HF u hu;obtain⟨z0,z1,z2,z3,z4,z5,z6,z7,z8,z9⟩:=(uZ HKp u hu).1;obtain⟨y0,y1,y2,y3,y4,y5,y6,y7,y8,y9⟩:=(uZ HKq u hu).1;go_simp⟩) (uZ HD0) ?_
 try simp only [Act.put,sA,sB,sC]
 refine till_one 4 (by kernel_rfl) rfl (fun K hK=>?_)
 go_simp
 refine((uZ CS) W0 (uZ HD0)).mono ?_
 rintro e W1 ⟨rfl,bb⟩
 have HD1:=hZ ((uZ HD0).trans (bb.mono (uZ HD0).size))
 clear bb
 go_wp2_with fail
 refine hK.out _ _ (Or.inr (uZ HD1)) ?_
 clear hK K HD0
 try simp only [Act.put,sA,sB,sC]
 refine tK 5 (v:=.string A) (some 61) rfl rfl rfl (by kernel_rfl) (fun _ _ _ h=>h) (Or.inl ⟨by rfl,fun u hu=>by obtain⟨x0,x1,x2,x3,x4,x5,x6,x7,x8,x9⟩:=uZ HF u hu;obtain⟨z0,z1,z2,z3,z4,z5,z6,z7,z8,z9⟩:=(uZ HKp u hu).1;obtain⟨y0,y1,y2,y3,y4,y5,y6,y7,y8,y9⟩:=(uZ HKq u hu).1;go_simp⟩) (uZ HD1) ?_
 try simp only [Act.put,sA,sB,sC]
 refine tK 6 (v:=.string B) (some 62) rfl rfl rfl (by kernel_rfl) (fun _ _ _ h=>h) (Or.inl ⟨by rfl,fun u hu=>by obtain⟨x0,x1,x2,x3,x4,x5,x6,x7,x8,x9⟩:=uZ HF u hu;obtain⟨z0,z1,z2,z3,z4,z5,z6,z7,z8,z9⟩:=(uZ HKp u hu).1;obtain⟨y0,y1,y2,y3,y4,y5,y6,y7,y8,y9⟩:=(uZ HKq u hu).1;go_simp⟩) (uZ HD1) ?_
 try simp only [Act.put,sA,sB,sC]
 refine till_one 12 (by kernel_rfl) rfl (fun K hK=>?_)
 go_simp
 refine((uZ CT) W1 (uZ HD1)).mono ?_
 rintro e W2 ⟨rfl,bb⟩
 have HD2:=hZ ((uZ HD1).trans (bb.mono (uZ HD1).size))
 clear bb
 go_wp2_with fail
 refine hK.out _ _ (Or.inr (uZ HD2)) ?_
 clear hK K HD1
 try simp only [Act.put,sA,sB,sC]
 refine till_one 13 (by kernel_rfl) rfl (fun K hK=>?_)
 go_simp
 refine hK.out _ _ (Or.inr (uZ HD2)) ?_
 clear hK K
 try simp only [Act.put,sA,sB,sC]
 refine till_one 14 (by kernel_rfl) rfl (fun K hK=>?_)
 go_simp
 refine hK.out _ _ (Or.inl (by first|rfl|trivial)) ?_
 clear hK K
 try simp only [Act.put,sA,sB,sC]
 refine till_done (by kernel_rfl) ?_ _
 obtain⟨x0,x1,x2,x3,x4,x5,x6,x7,x8,x9⟩:=uZ HF W2 (uZ HD2)
 obtain⟨v0,v1,v2,v3,v4,v5,v6,v7,v8,v9⟩:=(uZ HKr W2 (uZ HD2)).1
 have CU2:=hZ ((uZ CU) W2 (uZ HD2))
 go_wp2_with fail
 refine(uZ CU2).mono ?_
 rintro e W3 ⟨rfl,bb⟩
 have HD3:=hZ ((uZ HD2).trans (bb.mono (uZ HD2).size))
 clear bb CU2 CU v0 v1 v2 v3 v4 v5 v6 v7 v8 v9 x0 x1 x2 x3 x4 x5 x6 x7 x8 x9
 go_wp2_with fail
 go_ret
 have hbz:=((uZ HM) W3 (uZ HD3)).2.2.2.2
 exact⟨by rw [uZ HV] <;> rfl,by subst hG;exact hbz⟩
end Go.Proofs.YtlkeaaopdnnceaaGreatDoor
