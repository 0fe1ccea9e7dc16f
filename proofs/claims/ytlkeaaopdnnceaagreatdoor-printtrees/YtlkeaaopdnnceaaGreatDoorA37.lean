/-
  an expression, kind by kind (the document's).
  Conditions: where nodes are told of, they lie in memory.
-/
import Derived.Test.YtlkeaaopdnnceaaGreatDoorA36
set_option linter.unusedVariables false
set_option linter.unusedSimpArgs false
set_option maxRecDepth 100000
set_option maxHeartbeats 8000000
namespace Go.Proofs.YtlkeaaopdnnceaaGreatDoor
open Go.RowKit
set_option linter.unusedVariables false
set_option linter.unusedSimpArgs false
theorem rex13_any (B0:Nat) (y:Tn) (x:List Value) (w:World) (hB:B0≤w.heap.size) (hx:IsN w (fun b=>b<B0) y x) (hk:y.k=13) :
  Calls Tryz.prog 28 #[.agg x.toArray] w fun e w'=>e=.returned (.string (bA (ex1 13 y.t y.v y.ks (exM y.ks))))∧Below w.heap.size w w':=by
 have hx0:=hx
 obtain⟨vk,vn,vs,al,ak,a,ll,cl,lk,ck,cc,rfl,hvv,hr,hbk,hbp⟩:=hx.opn
 obtain⟨k,t,v,f,ks,p⟩:=y
 simp only at hk
 subst hk
 obtain⟨n,hn⟩:∃n,ks.length=n:=⟨_,rfl⟩
 have hnb:n≤140737488351232:=by rw [←hn];exact hr.len
 simp only [hn] at hx0 hvv hr hbk hbp ⊢
 obtain⟨R,hR⟩:∃R,(.string (bA (ex1 13 t v ks (exM ks))):Value)=R:=⟨_,rfl⟩
 rw [hR]
 have HR:=hZ hR
 obtain⟨w1,hw1⟩:∃w1,w.alloc (.cells #[.int .i64 13,.string t,.int .i64 vk,.int .i64 vn,.string vs,.slice al ll cl,.slice ak lk ck,.bool f,.slice a n cc,.int .i64 p] 28)=w1:=⟨_,rfl⟩
 obtain⟨G,hG⟩:∃G,w.heap.size=G:=⟨_,rfl⟩
 obtain⟨A1,X1⟩:=al1 hw1 hG
 have hBG:B0≤G:=by rw [←hG];exact hB
 have HM:Hid (NM5 B0 G w w1 ⟨13,t,v,f,ks,p⟩ [.int .i64 13,.string t,.int .i64 vk,.int .i64 vn,.string vs,.slice al ll cl,.slice ak lk ck,.bool f,.slice a n cc,.int .i64 p] ks a cc v (.agg #[.int .i64 vk,.int .i64 vn,.string vs,.slice al ll cl,.slice ak lk ck])):=hZ (fun u hu=>by
  have h2:=X1.trans (hu.mono (Nat.le_of_lt (lt_of_row A1)))
  exact⟨hx0.laterB (h2.mono hBG),hr.later (h2.mono hBG),Nat.le_trans hBG (by rw [←hG];exact h2.size),hvv.mono (h2.mono hBG),h2⟩)
 have HF:Hid (NF10 w1 G (.int .i64 13) (.string t) (.int .i64 vk) (.int .i64 vn) (.string vs) (.slice al ll cl) (.slice ak lk ck) (.bool f) (.slice a n cc) (.int .i64 p)):=hZ (fun u hu=>row_ten (Below.cellsAt hu A1))
 have HN:=hZ hn
 have HS0:Hid (Below w1.heap.size w1 w1):=hZ (Below.refl _ _)
 have HW:=hZ hw1
 clear A1 X1 hw1 hx hx0 hr hvv hB hBG hn hR
 go_enter Tryz.func28,Tryz.ntmps28
 go_upto_region 1 with fail
 rw [uZ HW]
 try rw [hG]
 clear HW
 obtain⟨x0,x1,x2,x3,x4,x5,x6,x7,x8,x9⟩:=uZ HF w1 (Below.refl _ _)
 have CP:=hZ (printD_any v _ B0 w1 ((uZ HM) w1 (uZ HS0)).2.2.2.1 ((uZ HM) w1 (uZ HS0)).2.2.1)
 go_wp2_with fail
 refine(uZ CP).mono ?_
 rintro e w2 ⟨t9,rfl,ht9,bb⟩
 have HS2:=hZ bb
 have HV:=hZ (show R=.string t9 by rw [←uZ HR];exact congrArg Value.string (bA_eq t9 _ (by rw [ht9];simp [ex1])).symm)
 clear bb CP ht9 HR x0 x1 x2 x3 x4 x5 x6 x7 x8 x9
 go_wp2_with fail
 go_ret
 have hbz:=((uZ HM) w2 (uZ HS2)).2.2.2.2
 exact⟨by rw [uZ HV] <;> rfl,by subst hG;exact hbz⟩
theorem rex14_any (B0:Nat) (y:Tn) (x:List Value) (w:World) (hB:B0≤w.heap.size) (hx:IsN w (fun b=>b<B0) y x) (hk:y.k=14) :
  Calls Tryz.prog 28 #[.agg x.toArray] w fun e w'=>e=.returned (.string (bA (ex1 14 y.t y.v y.ks (exM y.ks))))∧Below w.heap.size w w':=by
 have hx0:=hx
 obtain⟨vk,vn,vs,al,ak,a,ll,cl,lk,ck,cc,rfl,hvv,hr,hbk,hbp⟩:=hx.opn
 obtain⟨k,t,v,f,ks,p⟩:=y
 simp only at hk
 subst hk
 obtain⟨n,hn⟩:∃n,ks.length=n:=⟨_,rfl⟩
 have hnb:n≤140737488351232:=by rw [←hn];exact hr.len
 simp only [hn] at hx0 hvv hr hbk hbp ⊢
 obtain⟨R,hR⟩:∃R,(.string (bA (ex1 14 t v ks (exM ks))):Value)=R:=⟨_,rfl⟩
 rw [hR]
 have HR:=hZ hR
 obtain⟨w1,hw1⟩:∃w1,w.alloc (.cells #[.int .i64 14,.string t,.int .i64 vk,.int .i64 vn,.string vs,.slice al ll cl,.slice ak lk ck,.bool f,.slice a n cc,.int .i64 p] 28)=w1:=⟨_,rfl⟩
 obtain⟨G,hG⟩:∃G,w.heap.size=G:=⟨_,rfl⟩
 obtain⟨A1,X1⟩:=al1 hw1 hG
 have hBG:B0≤G:=by rw [←hG];exact hB
 have HM:Hid (NM5 B0 G w w1 ⟨14,t,v,f,ks,p⟩ [.int .i64 14,.string t,.int .i64 vk,.int .i64 vn,.string vs,.slice al ll cl,.slice ak lk ck,.bool f,.slice a n cc,.int .i64 p] ks a cc v (.agg #[.int .i64 vk,.int .i64 vn,.string vs,.slice al ll cl,.slice ak lk ck])):=hZ (fun u hu=>by
  have h2:=X1.trans (hu.mono (Nat.le_of_lt (lt_of_row A1)))
  exact⟨hx0.laterB (h2.mono hBG),hr.later (h2.mono hBG),Nat.le_trans hBG (by rw [←hG];exact h2.size),hvv.mono (h2.mono hBG),h2⟩)
 have HF:Hid (NF10 w1 G (.int .i64 14) (.string t) (.int .i64 vk) (.int .i64 vn) (.string vs) (.slice al ll cl) (.slice ak lk ck) (.bool f) (.slice a n cc) (.int .i64 p)):=hZ (fun u hu=>row_ten (Below.cellsAt hu A1))
 have HN:=hZ hn
 have HS0:Hid (Below w1.heap.size w1 w1):=hZ (Below.refl _ _)
 have HW:=hZ hw1
 clear A1 X1 hw1 hx hx0 hr hvv hB hBG hn hR
 go_enter Tryz.func28,Tryz.ntmps28
 go_upto_region 1 with fail
 rw [uZ HW]
 try rw [hG]
 clear HW
 obtain⟨x0,x1,x2,x3,x4,x5,x6,x7,x8,x9⟩:=uZ HF w1 (Below.refl _ _)
 have HV:=hZ (show R=.string t by rw [←uZ HR];exact congrArg Value.string (bA_eq t _ (by simp [ex1])).symm)
 clear HR
 go_wp2_with fail
 go_ret
 have hbz:=((uZ HM) w1 (uZ HS0)).2.2.2.2
 exact⟨by rw [uZ HV] <;> rfl,by subst hG;exact hbz⟩
theorem rex15_any (B0:Nat) (y:Tn) (x:List Value) (w:World) (hB:B0≤w.heap.size) (hx:IsN w (fun b=>b<B0) y x) (hk:y.k=15) (hE:∀z∈y.ks,ExD B0 z) (hl:(jl [44,32] true (y.ks.map exT)).length≤100000000000∧y.t.size≤1000) :
  Calls Tryz.prog 28 #[.agg x.toArray] w fun e w'=>e=.returned (.string (bA (ex1 15 y.t y.v y.ks (exM y.ks))))∧Below w.heap.size w w':=by
 have hx0:=hx
 obtain⟨vk,vn,vs,al,ak,a,ll,cl,lk,ck,cc,rfl,hvv,hr,hbk,hbp⟩:=hx.opn
 obtain⟨k,t,v,f,ks,p⟩:=y
 simp only at hk hE hl
 subst hk
 obtain⟨n,hn⟩:∃n,ks.length=n:=⟨_,rfl⟩
 have hnb:n≤140737488351232:=by rw [←hn];exact hr.len
 simp only [hn] at hx0 hvv hr hbk hbp ⊢
 obtain⟨R,hR⟩:∃R,(.string (bA (ex1 15 t v ks (exM ks))):Value)=R:=⟨_,rfl⟩
 rw [hR]
 have HR:=hZ hR
 obtain⟨w1,hw1⟩:∃w1,w.alloc (.cells #[.int .i64 15,.string t,.int .i64 vk,.int .i64 vn,.string vs,.slice al ll cl,.slice ak lk ck,.bool f,.slice a n cc,.int .i64 p] 28)=w1:=⟨_,rfl⟩
 obtain⟨G,hG⟩:∃G,w.heap.size=G:=⟨_,rfl⟩
 obtain⟨A1,X1⟩:=al1 hw1 hG
 have hBG:B0≤G:=by rw [←hG];exact hB
 have HM:Hid (NM5 B0 G w w1 ⟨15,t,v,f,ks,p⟩ [.int .i64 15,.string t,.int .i64 vk,.int .i64 vn,.string vs,.slice al ll cl,.slice ak lk ck,.bool f,.slice a n cc,.int .i64 p] ks a cc v (.agg #[.int .i64 vk,.int .i64 vn,.string vs,.slice al ll cl,.slice ak lk ck])):=hZ (fun u hu=>by
  have h2:=X1.trans (hu.mono (Nat.le_of_lt (lt_of_row A1)))
  exact⟨hx0.laterB (h2.mono hBG),hr.later (h2.mono hBG),Nat.le_trans hBG (by rw [←hG];exact h2.size),hvv.mono (h2.mono hBG),h2⟩)
 have HF:Hid (NF10 w1 G (.int .i64 15) (.string t) (.int .i64 vk) (.int .i64 vn) (.string vs) (.slice al ll cl) (.slice ak lk ck) (.bool f) (.slice a n cc) (.int .i64 p)):=hZ (fun u hu=>row_ten (Below.cellsAt hu A1))
 have HN:=hZ hn
 have HS0:Hid (Below w1.heap.size w1 w1):=hZ (Below.refl _ _)
 have HW:=hZ hw1
 have HE:=hZ hE
 have HLn:=hZ hl.1
 have htz:=hl.2
 clear hE hl
 clear A1 X1 hw1 hx hx0 hr hvv hB hBG hn hR
 go_enter Tryz.func28,Tryz.ntmps28
 go_upto_region 1 with fail
 rw [uZ HW]
 try rw [hG]
 clear HW
 have hJl:=uZ HLn
 have CJ:Hid (∀u,Below w1.heap.size w1 u→Calls Tryz.prog 53 #[.agg #[.int .i64 15,.string t,.int .i64 vk,.int .i64 vn,.string vs,.slice al ll cl,.slice ak lk ck,.bool f,.slice a n cc,.int .i64 p]] u fun e u'=>e=.returned (.string (bA (jl [44,32] true (ks.map exT))))∧Below u.heap.size u u'):=hZ (fun u hu=>join_any B0 ⟨15,t,v,f,ks,p⟩ _ u ((uZ HM) u hu).2.2.1 ((uZ HM) u hu).1 (uZ HE) (Nat.le_trans hJl (by omega)))
 obtain⟨J,hJ⟩:∃S,bA (jl [44,32] true (ks.map exT))=S:=⟨_,rfl⟩
 rw [hJ] at CJ
 have dJ:J.data.toList=jl [44,32] true (ks.map exT):=by rw [←hJ,bA_data]
 have sJ:J.size≤100000000000:=by
    have e:J.size=(jl [44,32] true (ks.map exT)).length:=by rw [←hJ,bA_size]
    omega
 clear hJ hJl
 have hzA:¬9223372036854775807<t.size+1:=by omega
 obtain⟨A,eA⟩:∃z,(t++⟨#[40]⟩:ByteArray)=z:=⟨_,rfl⟩
 have dA:A.data.toList=t.data.toList++[40]:=by rw [←eA,ByteArray.data_append,Array.toList_append] <;> (rfl)
 have sA:A.size≤t.size+1:=by rw [←eA,ByteArray.size_append];exact Nat.le_refl _
 have hzB:¬9223372036854775807<A.size+J.size:=by omega
 obtain⟨B,eB⟩:∃z,(A++J:ByteArray)=z:=⟨_,rfl⟩
 have dB:B.data.toList=t.data.toList++[40]++jl [44,32] true (ks.map exT):=by rw [←eB,ByteArray.data_append,Array.toList_append] <;> (rw [dA,dJ])
 have sB:B.size≤A.size+J.size:=by rw [←eB,ByteArray.size_append];exact Nat.le_refl _
 have hzD:¬9223372036854775807<B.size+1:=by omega
 obtain⟨D,eD⟩:∃z,(B++⟨#[41]⟩:ByteArray)=z:=⟨_,rfl⟩
 have dD:D.data.toList=t.data.toList++[40]++jl [44,32] true (ks.map exT)++[41]:=by rw [←eD,ByteArray.data_append,Array.toList_append] <;> (rw [dB] <;> rfl)
 have sD:D.size≤B.size+1:=by rw [←eD,ByteArray.size_append];exact Nat.le_refl _
 have HV:=hZ (show R=.string D by rw [←uZ HR];exact congrArg Value.string (bA_eq D _ (by rw [dD];simp [ex1,exM_map])).symm)
 clear HR
 clear dA dB dD dJ
 obtain⟨x0,x1,x2,x3,x4,x5,x6,x7,x8,x9⟩:=uZ HF w1 (Below.refl _ _)
 go_upto_region 7 with fail
 clear x0 x1 x2 x3 x4 x5 x6 x7 x8 x9
 have HD0:Hid (Below w1.heap.size w1 w1.drew):=hZ ((Below.refl _ _).drew)
 refine till_begin (S:=fun w'=>Below w1.heap.size w1 w') 7 (by kernel_rfl) ?_
 obtain⟨W0,hW0⟩:∃W0,w1.drew=W0:=⟨_,rfl⟩
 try rw [hW0]
 rw [hW0] at HD0
 clear hW0
 refine tK 0 (v:=.pointer (some ⟨G,1,none⟩)) (some 17) rfl rfl rfl (by kernel_rfl) (fun _ _ _ h=>h) (Or.inl ⟨by rfl,fun u hu=>by obtain⟨x0,x1,x2,x3,x4,x5,x6,x7,x8,x9⟩:=uZ HF u hu;go_simp⟩) (uZ HD0) ?_
 try simp only [Act.put,sA,sB,sC]
 refine tK 1 (v:=.string t) (some 18) rfl rfl rfl (by kernel_rfl) (fun _ _ _ h=>h) (Or.inl ⟨by rfl,fun u hu=>by obtain⟨x0,x1,x2,x3,x4,x5,x6,x7,x8,x9⟩:=uZ HF u hu;go_simp⟩) (uZ HD0) ?_
 try simp only [Act.put,sA,sB,sC]
 refine tK 2 (v:=.string A) (some 19) rfl rfl rfl (by kernel_rfl) (fun _ _ _ h=>h) (Or.inl ⟨by rfl,fun u hu=>by obtain⟨x0,x1,x2,x3,x4,x5,x6,x7,x8,x9⟩:=uZ HF u hu;go_simp⟩) (uZ HD0) ?_
 try simp only [Act.put,sA,sB,sC]
 refine tK 3 (v:=.agg #[.int .i64 15,.string t,.int .i64 vk,.int .i64 vn,.string vs,.slice al ll cl,.slice ak lk ck,.bool f,.slice a n cc,.int .i64 p]) (some 20) rfl rfl rfl (by kernel_rfl) (fun _ _ _ h=>h) (Or.inl ⟨by rfl,fun u hu=>by obtain⟨x0,x1,x2,x3,x4,x5,x6,x7,x8,x9⟩:=uZ HF u hu;go_simp⟩) (uZ HD0) ?_
 try simp only [Act.put,sA,sB,sC]
 refine till_one 4 (by kernel_rfl) rfl (fun K hK=>?_)
 go_simp
 refine((uZ CJ) W0 (uZ HD0)).mono ?_
 rintro e W1 ⟨rfl,bb⟩
 have HD1:=hZ ((uZ HD0).trans (bb.mono (uZ HD0).size))
 clear bb
 go_wp2_with fail
 refine hK.out _ _ (Or.inr (uZ HD1)) ?_
 clear hK K HD0
 try simp only [Act.put,sA,sB,sC]
 refine till_one 5 (by kernel_rfl) rfl (fun K hK=>?_)
 go_simp
 refine hK.out _ _ (Or.inr (uZ HD1)) ?_
 clear hK K
 try simp only [Act.put,sA,sB,sC]
 refine till_one 6 (by kernel_rfl) rfl (fun K hK=>?_)
 go_simp
 refine hK.out _ _ (Or.inr (uZ HD1)) ?_
 clear hK K
 try simp only [Act.put,sA,sB,sC]
 refine till_one 7 (by kernel_rfl) rfl (fun K hK=>?_)
 go_simp
 refine hK.out _ _ (Or.inl (by first|rfl|trivial)) ?_
 clear hK K
 try simp only [Act.put,sA,sB,sC]
 refine till_done (by kernel_rfl) ?_ _
 go_wp2_with fail
 go_ret
 have hbz:=((uZ HM) W1 (uZ HD1)).2.2.2.2
 exact⟨by rw [uZ HV] <;> rfl,by subst hG;exact hbz⟩
theorem rex18_any (B0:Nat) (y:Tn) (x:List Value) (w:World) (hB:B0≤w.heap.size) (hx:IsN w (fun b=>b<B0) y x) (hk:y.k=18) (hE:∀z∈y.ks,ExD B0 z) (hl:(jl [44,32] true (y.ks.map exT)).length≤100000000000∧y.t.size≤1000) :
  Calls Tryz.prog 28 #[.agg x.toArray] w fun e w'=>e=.returned (.string (bA (ex1 18 y.t y.v y.ks (exM y.ks))))∧Below w.heap.size w w':=by
 have hx0:=hx
 obtain⟨vk,vn,vs,al,ak,a,ll,cl,lk,ck,cc,rfl,hvv,hr,hbk,hbp⟩:=hx.opn
 obtain⟨k,t,v,f,ks,p⟩:=y
 simp only at hk hE hl
 subst hk
 obtain⟨n,hn⟩:∃n,ks.length=n:=⟨_,rfl⟩
 have hnb:n≤140737488351232:=by rw [←hn];exact hr.len
 simp only [hn] at hx0 hvv hr hbk hbp ⊢
 obtain⟨R,hR⟩:∃R,(.string (bA (ex1 18 t v ks (exM ks))):Value)=R:=⟨_,rfl⟩
 rw [hR]
 have HR:=hZ hR
 obtain⟨w1,hw1⟩:∃w1,w.alloc (.cells #[.int .i64 18,.string t,.int .i64 vk,.int .i64 vn,.string vs,.slice al ll cl,.slice ak lk ck,.bool f,.slice a n cc,.int .i64 p] 28)=w1:=⟨_,rfl⟩
 obtain⟨G,hG⟩:∃G,w.heap.size=G:=⟨_,rfl⟩
 obtain⟨A1,X1⟩:=al1 hw1 hG
 have hBG:B0≤G:=by rw [←hG];exact hB
 have HM:Hid (NM5 B0 G w w1 ⟨18,t,v,f,ks,p⟩ [.int .i64 18,.string t,.int .i64 vk,.int .i64 vn,.string vs,.slice al ll cl,.slice ak lk ck,.bool f,.slice a n cc,.int .i64 p] ks a cc v (.agg #[.int .i64 vk,.int .i64 vn,.string vs,.slice al ll cl,.slice ak lk ck])):=hZ (fun u hu=>by
  have h2:=X1.trans (hu.mono (Nat.le_of_lt (lt_of_row A1)))
  exact⟨hx0.laterB (h2.mono hBG),hr.later (h2.mono hBG),Nat.le_trans hBG (by rw [←hG];exact h2.size),hvv.mono (h2.mono hBG),h2⟩)
 have HF:Hid (NF10 w1 G (.int .i64 18) (.string t) (.int .i64 vk) (.int .i64 vn) (.string vs) (.slice al ll cl) (.slice ak lk ck) (.bool f) (.slice a n cc) (.int .i64 p)):=hZ (fun u hu=>row_ten (Below.cellsAt hu A1))
 have HN:=hZ hn
 have HS0:Hid (Below w1.heap.size w1 w1):=hZ (Below.refl _ _)
 have HW:=hZ hw1
 have HE:=hZ hE
 have HLn:=hZ hl.1
 have htz:=hl.2
 clear hE hl
 clear A1 X1 hw1 hx hx0 hr hvv hB hBG hn hR
 go_enter Tryz.func28,Tryz.ntmps28
 go_upto_region 1 with fail
 rw [uZ HW]
 try rw [hG]
 clear HW
 have hJl:=uZ HLn
 have CJ:Hid (∀u,Below w1.heap.size w1 u→Calls Tryz.prog 53 #[.agg #[.int .i64 18,.string t,.int .i64 vk,.int .i64 vn,.string vs,.slice al ll cl,.slice ak lk ck,.bool f,.slice a n cc,.int .i64 p]] u fun e u'=>e=.returned (.string (bA (jl [44,32] true (ks.map exT))))∧Below u.heap.size u u'):=hZ (fun u hu=>join_any B0 ⟨18,t,v,f,ks,p⟩ _ u ((uZ HM) u hu).2.2.1 ((uZ HM) u hu).1 (uZ HE) (Nat.le_trans hJl (by omega)))
 obtain⟨J,hJ⟩:∃S,bA (jl [44,32] true (ks.map exT))=S:=⟨_,rfl⟩
 rw [hJ] at CJ
 have dJ:J.data.toList=jl [44,32] true (ks.map exT):=by rw [←hJ,bA_data]
 have sJ:J.size≤100000000000:=by
    have e:J.size=(jl [44,32] true (ks.map exT)).length:=by rw [←hJ,bA_size]
    omega
 clear hJ hJl
 have hzA:¬9223372036854775807<1+J.size:=by omega
 obtain⟨A,eA⟩:∃z,(⟨#[91]⟩++J:ByteArray)=z:=⟨_,rfl⟩
 have dA:A.data.toList=91 :: jl [44,32] true (ks.map exT):=by rw [←eA,ByteArray.data_append,Array.toList_append] <;> (rw [dJ] <;> rfl)
 have sA:A.size≤1+J.size:=by rw [←eA,ByteArray.size_append];exact Nat.le_refl _
 have hzD:¬9223372036854775807<A.size+1:=by omega
 obtain⟨D,eD⟩:∃z,(A++⟨#[93]⟩:ByteArray)=z:=⟨_,rfl⟩
 have dD:D.data.toList=91 :: jl [44,32] true (ks.map exT)++[93]:=by rw [←eD,ByteArray.data_append,Array.toList_append] <;> (rw [dA] <;> rfl)
 have sD:D.size≤A.size+1:=by rw [←eD,ByteArray.size_append];exact Nat.le_refl _
 have HV:=hZ (show R=.string D by rw [←uZ HR];exact congrArg Value.string (bA_eq D _ (by rw [dD];simp [ex1,exM_map])).symm)
 clear HR
 clear dA dD dJ
 obtain⟨x0,x1,x2,x3,x4,x5,x6,x7,x8,x9⟩:=uZ HF w1 (Below.refl _ _)
 have CJ1:=hZ ((uZ CJ) w1 (Below.refl _ _))
 go_wp2_with fail
 refine(uZ CJ1).mono ?_
 rintro e w2 ⟨rfl,bb⟩
 have HS2:=hZ bb
 clear bb CJ CJ1 x0 x1 x2 x3 x4 x5 x6 x7 x8 x9
 go_wp2_with fail
 go_ret
 have hbz:=((uZ HM) w2 (uZ HS2)).2.2.2.2
 exact⟨by rw [uZ HV] <;> rfl,by subst hG;exact hbz⟩
theorem rex19_any (B0:Nat) (y:Tn) (x:List Value) (w:World) (hB:B0≤w.heap.size) (hx:IsN w (fun b=>b<B0) y x) (hk:y.k=19) (hE:∀z∈y.ks,ExD B0 z) (hl:(jl [44,32] true (y.ks.map exT)).length≤100000000000∧y.t.size≤1000) :
  Calls Tryz.prog 28 #[.agg x.toArray] w fun e w'=>e=.returned (.string (bA (ex1 19 y.t y.v y.ks (exM y.ks))))∧Below w.heap.size w w':=by
 have hx0:=hx
 obtain⟨vk,vn,vs,al,ak,a,ll,cl,lk,ck,cc,rfl,hvv,hr,hbk,hbp⟩:=hx.opn
 obtain⟨k,t,v,f,ks,p⟩:=y
 simp only at hk hE hl
 subst hk
 obtain⟨n,hn⟩:∃n,ks.length=n:=⟨_,rfl⟩
 have hnb:n≤140737488351232:=by rw [←hn];exact hr.len
 simp only [hn] at hx0 hvv hr hbk hbp ⊢
 obtain⟨R,hR⟩:∃R,(.string (bA (ex1 19 t v ks (exM ks))):Value)=R:=⟨_,rfl⟩
 rw [hR]
 have HR:=hZ hR
 obtain⟨w1,hw1⟩:∃w1,w.alloc (.cells #[.int .i64 19,.string t,.int .i64 vk,.int .i64 vn,.string vs,.slice al ll cl,.slice ak lk ck,.bool f,.slice a n cc,.int .i64 p] 28)=w1:=⟨_,rfl⟩
 obtain⟨G,hG⟩:∃G,w.heap.size=G:=⟨_,rfl⟩
 obtain⟨A1,X1⟩:=al1 hw1 hG
 have hBG:B0≤G:=by rw [←hG];exact hB
 have HM:Hid (NM5 B0 G w w1 ⟨19,t,v,f,ks,p⟩ [.int .i64 19,.string t,.int .i64 vk,.int .i64 vn,.string vs,.slice al ll cl,.slice ak lk ck,.bool f,.slice a n cc,.int .i64 p] ks a cc v (.agg #[.int .i64 vk,.int .i64 vn,.string vs,.slice al ll cl,.slice ak lk ck])):=hZ (fun u hu=>by
  have h2:=X1.trans (hu.mono (Nat.le_of_lt (lt_of_row A1)))
  exact⟨hx0.laterB (h2.mono hBG),hr.later (h2.mono hBG),Nat.le_trans hBG (by rw [←hG];exact h2.size),hvv.mono (h2.mono hBG),h2⟩)
 have HF:Hid (NF10 w1 G (.int .i64 19) (.string t) (.int .i64 vk) (.int .i64 vn) (.string vs) (.slice al ll cl) (.slice ak lk ck) (.bool f) (.slice a n cc) (.int .i64 p)):=hZ (fun u hu=>row_ten (Below.cellsAt hu A1))
 have HN:=hZ hn
 have HS0:Hid (Below w1.heap.size w1 w1):=hZ (Below.refl _ _)
 have HW:=hZ hw1
 have HE:=hZ hE
 have HLn:=hZ hl.1
 have htz:=hl.2
 clear hE hl
 clear A1 X1 hw1 hx hx0 hr hvv hB hBG hn hR
 go_enter Tryz.func28,Tryz.ntmps28
 go_upto_region 1 with fail
 rw [uZ HW]
 try rw [hG]
 clear HW
 have hJl:=uZ HLn
 have CJ:Hid (∀u,Below w1.heap.size w1 u→Calls Tryz.prog 53 #[.agg #[.int .i64 19,.string t,.int .i64 vk,.int .i64 vn,.string vs,.slice al ll cl,.slice ak lk ck,.bool f,.slice a n cc,.int .i64 p]] u fun e u'=>e=.returned (.string (bA (jl [44,32] true (ks.map exT))))∧Below u.heap.size u u'):=hZ (fun u hu=>join_any B0 ⟨19,t,v,f,ks,p⟩ _ u ((uZ HM) u hu).2.2.1 ((uZ HM) u hu).1 (uZ HE) (Nat.le_trans hJl (by omega)))
 obtain⟨J,hJ⟩:∃S,bA (jl [44,32] true (ks.map exT))=S:=⟨_,rfl⟩
 rw [hJ] at CJ
 have dJ:J.data.toList=jl [44,32] true (ks.map exT):=by rw [←hJ,bA_data]
 have sJ:J.size≤100000000000:=by
    have e:J.size=(jl [44,32] true (ks.map exT)).length:=by rw [←hJ,bA_size]
    omega
 clear hJ hJl
 have hzA:¬9223372036854775807<1+J.size:=by omega
 obtain⟨A,eA⟩:∃z,(⟨#[123]⟩++J:ByteArray)=z:=⟨_,rfl⟩
 have dA:A.data.toList=123 :: jl [44,32] true (ks.map exT):=by rw [←eA,ByteArray.data_append,Array.toList_append] <;> (rw [dJ] <;> rfl)
 have sA:A.size≤1+J.size:=by rw [←eA,ByteArray.size_append];exact Nat.le_refl _
 have hzD:¬9223372036854775807<A.size+1:=by omega
 obtain⟨D,eD⟩:∃z,(A++⟨#[125]⟩:ByteArray)=z:=⟨_,rfl⟩
 have dD:D.data.toList=123 :: jl [44,32] true (ks.map exT)++[125]:=by rw [←eD,ByteArray.data_append,Array.toList_append] <;> (rw [dA] <;> rfl)
 have sD:D.size≤A.size+1:=by rw [←eD,ByteArray.size_append];exact Nat.le_refl _
 have HV:=hZ (show R=.string D by rw [←uZ HR];exact congrArg Value.string (bA_eq D _ (by rw [dD];simp [ex1,exM_map])).symm)
 clear HR
 clear dA dD dJ
 obtain⟨x0,x1,x2,x3,x4,x5,x6,x7,x8,x9⟩:=uZ HF w1 (Below.refl _ _)
 have CJ1:=hZ ((uZ CJ) w1 (Below.refl _ _))
 go_wp2_with fail
 refine(uZ CJ1).mono ?_
 rintro e w2 ⟨rfl,bb⟩
 have HS2:=hZ bb
 clear bb CJ CJ1 x0 x1 x2 x3 x4 x5 x6 x7 x8 x9
 go_wp2_with fail
 go_ret
 have hbz:=((uZ HM) w2 (uZ HS2)).2.2.2.2
 exact⟨by rw [uZ HV] <;> rfl,by subst hG;exact hbz⟩
theorem rex16_any (B0:Nat) (y:Tn) (x:List Value) (w:World) (hB:B0≤w.heap.size) (hx:IsN w (fun b=>b<B0) y x) (hk:y.k=16) (hE:∀z∈y.ks,ExD B0 z) (hl:(∀z∈y.ks,(exT z).length≤10000000000)∧y.t.size≤1000∧y.ks.length=1) :
  Calls Tryz.prog 28 #[.agg x.toArray] w fun e w'=>e=.returned (.string (bA (ex1 16 y.t y.v y.ks (exM y.ks))))∧Below w.heap.size w w':=by
 have hx0:=hx
 obtain⟨vk,vn,vs,al,ak,a,ll,cl,lk,ck,cc,rfl,hvv,hr,hbk,hbp⟩:=hx.opn
 obtain⟨k,t,v,f,ks,p⟩:=y
 simp only at hk hE hl
 subst hk
 obtain⟨n,hn⟩:∃n,ks.length=n:=⟨_,rfl⟩
 have hnb:n≤140737488351232:=by rw [←hn];exact hr.len
 simp only [hn] at hx0 hvv hr hbk hbp ⊢
 obtain⟨R,hR⟩:∃R,(.string (bA (ex1 16 t v ks (exM ks))):Value)=R:=⟨_,rfl⟩
 rw [hR]
 have HR:=hZ hR
 obtain⟨b,rfl⟩:=some_of hr (by omega)
 obtain⟨w1,hw1⟩:∃w1,w.alloc (.cells #[.int .i64 16,.string t,.int .i64 vk,.int .i64 vn,.string vs,.slice al ll cl,.slice ak lk ck,.bool f,.slice (some b) n cc,.int .i64 p] 28)=w1:=⟨_,rfl⟩
 obtain⟨G,hG⟩:∃G,w.heap.size=G:=⟨_,rfl⟩
 obtain⟨A1,X1⟩:=al1 hw1 hG
 have hBG:B0≤G:=by rw [←hG];exact hB
 have HM:Hid (NM5 B0 G w w1 ⟨16,t,v,f,ks,p⟩ [.int .i64 16,.string t,.int .i64 vk,.int .i64 vn,.string vs,.slice al ll cl,.slice ak lk ck,.bool f,.slice (some b) n cc,.int .i64 p] ks (some b) cc v (.agg #[.int .i64 vk,.int .i64 vn,.string vs,.slice al ll cl,.slice ak lk ck])):=hZ (fun u hu=>by
  have h2:=X1.trans (hu.mono (Nat.le_of_lt (lt_of_row A1)))
  exact⟨hx0.laterB (h2.mono hBG),hr.later (h2.mono hBG),Nat.le_trans hBG (by rw [←hG];exact h2.size),hvv.mono (h2.mono hBG),h2⟩)
 have HF:Hid (NF10 w1 G (.int .i64 16) (.string t) (.int .i64 vk) (.int .i64 vn) (.string vs) (.slice al ll cl) (.slice ak lk ck) (.bool f) (.slice (some b) n cc) (.int .i64 p)):=hZ (fun u hu=>row_ten (Below.cellsAt hu A1))
 have HN:=hZ hn
 have HS0:Hid (Below w1.heap.size w1 w1):=hZ (Below.refl _ _)
 have HW:=hZ hw1
 have HE:=hZ hE
 have HLn:=hZ hl.1
 have htz:=hl.2.1
 have hnn:n=1:=by rw [←hn];exact hl.2.2
 obtain⟨z,hz⟩:∃z,ks[0]?=some z:=⟨_,List.getElem?_eq_getElem (by omega)⟩
 have Hz:=hZ hz
 have p0:(0:Int)<(n:Int):=by omega
 have p00:¬n=0:=by omega
 clear hnn hE hl hz
 clear A1 X1 hw1 hx hx0 hr hvv hB hBG hn hR
 go_enter Tryz.func28,Tryz.ntmps28
 go_upto_region 1 with fail
 rw [uZ HW]
 try rw [hG]
 clear HW
 have CS:Hid (∀u,Below w1.heap.size w1 u→Calls Tryz.prog 56 #[.agg #[.int .i64 16,.string t,.int .i64 vk,.int .i64 vn,.string vs,.slice al ll cl,.slice ak lk ck,.bool f,.slice (some b) n cc,.int .i64 p],.int .i64 0] u fun e u'=>e=.returned (.string (bA (opX 16 t ks (exM ks) 0)))∧Below u.heap.size u u'):=hZ (fun u hu=>rpart_any 0 z B0 ⟨16,t,v,f,ks,p⟩ _ u ((uZ HM) u hu).2.2.1 ((uZ HM) u hu).1 (uZ Hz) ((uZ HE) _ (List.mem_of_getElem? (uZ Hz))) (Nat.le_trans ((uZ HLn) _ (List.mem_of_getElem? (uZ Hz))) (by omega)))
 obtain⟨S,hS⟩:∃S,bA (opX 16 t ks (exM ks) 0)=S:=⟨_,rfl⟩
 rw [hS] at CS
 have dS:S.data.toList=opX 16 t ks (exM ks) 0:=by rw [←hS,bA_data]
 have sS:S.size≤10000000002:=by
    have e:S.size=(opX 16 t ks (exM ks) 0).length:=by rw [←hS,bA_size]
    have e2:=opX_len 16 t ks 0
    rw [exM_at ks 0 z (uZ Hz)] at e2
    have e3:=(uZ HLn) _ (List.mem_of_getElem? (uZ Hz))
    simp only [Option.getD_some] at e2
    omega
 clear hS
 have hzA:¬9223372036854775807<t.size+S.size:=by omega
 obtain⟨A,eA⟩:∃z,(t++S:ByteArray)=z:=⟨_,rfl⟩
 have dA:A.data.toList=t.data.toList++opX 16 t ks (exM ks) 0:=by rw [←eA,ByteArray.data_append,Array.toList_append] <;> (rw [dS])
 have sA:A.size≤t.size+S.size:=by rw [←eA,ByteArray.size_append];exact Nat.le_refl _
 have HV:=hZ (show R=.string A by rw [←uZ HR];exact congrArg Value.string (bA_eq A _ (by rw [dA];simp [ex1])).symm)
 clear HR
 clear dA dS
 obtain⟨x0,x1,x2,x3,x4,x5,x6,x7,x8,x9⟩:=uZ HF w1 (Below.refl _ _)
 go_upto_region 18 with fail
 clear x0 x1 x2 x3 x4 x5 x6 x7 x8 x9
 have HD0:Hid (Below w1.heap.size w1 w1.drew):=hZ ((Below.refl _ _).drew)
 refine till_begin (S:=fun w'=>Below w1.heap.size w1 w') 5 (by kernel_rfl) ?_
 obtain⟨W0,hW0⟩:∃W0,w1.drew=W0:=⟨_,rfl⟩
 try rw [hW0]
 rw [hW0] at HD0
 clear hW0
 refine tK 0 (v:=.pointer (some ⟨G,1,none⟩)) (some 63) rfl rfl rfl (by kernel_rfl) (fun _ _ _ h=>h) (Or.inl ⟨by rfl,fun u hu=>by obtain⟨x0,x1,x2,x3,x4,x5,x6,x7,x8,x9⟩:=uZ HF u hu;go_simp⟩) (uZ HD0) ?_
 try simp only [Act.put,sA,sB,sC]
 refine tK 1 (v:=.string t) (some 64) rfl rfl rfl (by kernel_rfl) (fun _ _ _ h=>h) (Or.inl ⟨by rfl,fun u hu=>by obtain⟨x0,x1,x2,x3,x4,x5,x6,x7,x8,x9⟩:=uZ HF u hu;go_simp⟩) (uZ HD0) ?_
 try simp only [Act.put,sA,sB,sC]
 refine tK 2 (v:=.agg #[.int .i64 16,.string t,.int .i64 vk,.int .i64 vn,.string vs,.slice al ll cl,.slice ak lk ck,.bool f,.slice (some b) n cc,.int .i64 p]) (some 65) rfl rfl rfl (by kernel_rfl) (fun _ _ _ h=>h) (Or.inl ⟨by rfl,fun u hu=>by obtain⟨x0,x1,x2,x3,x4,x5,x6,x7,x8,x9⟩:=uZ HF u hu;go_simp⟩) (uZ HD0) ?_
 try simp only [Act.put,sA,sB,sC]
 refine till_one 3 (by kernel_rfl) rfl (fun K hK=>?_)
 go_simp
 refine((uZ CS) W0 (uZ HD0)).mono ?_
 rintro e W1 ⟨rfl,bb⟩
 have HD1:=hZ ((uZ HD0).trans (bb.mono (uZ HD0).size))
 clear bb
 go_wp2_with fail
 refine hK.out _ _ (Or.inr (uZ HD1)) ?_
 clear hK K HD0
 try simp only [Act.put,sA,sB,sC]
 refine till_one 4 (by kernel_rfl) rfl (fun K hK=>?_)
 go_simp
 refine hK.out _ _ (Or.inr (uZ HD1)) ?_
 clear hK K
 try simp only [Act.put,sA,sB,sC]
 refine till_one 5 (by kernel_rfl) rfl (fun K hK=>?_)
 go_simp
 refine hK.out _ _ (Or.inl (by first|rfl|trivial)) ?_
 clear hK K
 try simp only [Act.put,sA,sB,sC]
 refine till_done (by kernel_rfl) ?_ _
 go_wp2_with fail
 go_ret
 have hbz:=((uZ HM) W1 (uZ HD1)).2.2.2.2
 exact⟨by rw [uZ HV] <;> rfl,by subst hG;exact hbz⟩
theorem rex22_any (B0:Nat) (y:Tn) (x:List Value) (w:World) (hB:B0≤w.heap.size) (hx:IsN w (fun b=>b<B0) y x) (hk:y.k=22) (hE:∀z∈y.ks,ExD B0 z) (hl:(∀z∈y.ks,(exT z).length≤10000000000)∧y.t.size≤1000∧y.ks.length=1) :
  Calls Tryz.prog 28 #[.agg x.toArray] w fun e w'=>e=.returned (.string (bA (ex1 22 y.t y.v y.ks (exM y.ks))))∧Below w.heap.size w w':=by
 have hx0:=hx
 obtain⟨vk,vn,vs,al,ak,a,ll,cl,lk,ck,cc,rfl,hvv,hr,hbk,hbp⟩:=hx.opn
 obtain⟨k,t,v,f,ks,p⟩:=y
 simp only at hk hE hl
 subst hk
 obtain⟨n,hn⟩:∃n,ks.length=n:=⟨_,rfl⟩
 have hnb:n≤140737488351232:=by rw [←hn];exact hr.len
 simp only [hn] at hx0 hvv hr hbk hbp ⊢
 obtain⟨R,hR⟩:∃R,(.string (bA (ex1 22 t v ks (exM ks))):Value)=R:=⟨_,rfl⟩
 rw [hR]
 have HR:=hZ hR
 obtain⟨b,rfl⟩:=some_of hr (by omega)
 obtain⟨w1,hw1⟩:∃w1,w.alloc (.cells #[.int .i64 22,.string t,.int .i64 vk,.int .i64 vn,.string vs,.slice al ll cl,.slice ak lk ck,.bool f,.slice (some b) n cc,.int .i64 p] 28)=w1:=⟨_,rfl⟩
 obtain⟨G,hG⟩:∃G,w.heap.size=G:=⟨_,rfl⟩
 obtain⟨A1,X1⟩:=al1 hw1 hG
 have hBG:B0≤G:=by rw [←hG];exact hB
 have HM:Hid (NM5 B0 G w w1 ⟨22,t,v,f,ks,p⟩ [.int .i64 22,.string t,.int .i64 vk,.int .i64 vn,.string vs,.slice al ll cl,.slice ak lk ck,.bool f,.slice (some b) n cc,.int .i64 p] ks (some b) cc v (.agg #[.int .i64 vk,.int .i64 vn,.string vs,.slice al ll cl,.slice ak lk ck])):=hZ (fun u hu=>by
  have h2:=X1.trans (hu.mono (Nat.le_of_lt (lt_of_row A1)))
  exact⟨hx0.laterB (h2.mono hBG),hr.later (h2.mono hBG),Nat.le_trans hBG (by rw [←hG];exact h2.size),hvv.mono (h2.mono hBG),h2⟩)
 have HF:Hid (NF10 w1 G (.int .i64 22) (.string t) (.int .i64 vk) (.int .i64 vn) (.string vs) (.slice al ll cl) (.slice ak lk ck) (.bool f) (.slice (some b) n cc) (.int .i64 p)):=hZ (fun u hu=>row_ten (Below.cellsAt hu A1))
 have HN:=hZ hn
 have HS0:Hid (Below w1.heap.size w1 w1):=hZ (Below.refl _ _)
 have HW:=hZ hw1
 have HE:=hZ hE
 have HLn:=hZ hl.1
 have htz:=hl.2.1
 have hnn:n=1:=by rw [←hn];exact hl.2.2
 obtain⟨z,hz⟩:∃z,ks[0]?=some z:=⟨_,List.getElem?_eq_getElem (by omega)⟩
 have Hz:=hZ hz
 have p0:(0:Int)<(n:Int):=by omega
 have p00:¬n=0:=by omega
 clear hnn hE hl hz
 clear A1 X1 hw1 hx hx0 hr hvv hB hBG hn hR
 go_enter Tryz.func28,Tryz.ntmps28
 go_upto_region 1 with fail
 rw [uZ HW]
 try rw [hG]
 clear HW
 have CS:Hid (∀u,Below w1.heap.size w1 u→Calls Tryz.prog 56 #[.agg #[.int .i64 22,.string t,.int .i64 vk,.int .i64 vn,.string vs,.slice al ll cl,.slice ak lk ck,.bool f,.slice (some b) n cc,.int .i64 p],.int .i64 0] u fun e u'=>e=.returned (.string (bA (opX 22 t ks (exM ks) 0)))∧Below u.heap.size u u'):=hZ (fun u hu=>rpart_any 0 z B0 ⟨22,t,v,f,ks,p⟩ _ u ((uZ HM) u hu).2.2.1 ((uZ HM) u hu).1 (uZ Hz) ((uZ HE) _ (List.mem_of_getElem? (uZ Hz))) (Nat.le_trans ((uZ HLn) _ (List.mem_of_getElem? (uZ Hz))) (by omega)))
 obtain⟨S,hS⟩:∃S,bA (opX 22 t ks (exM ks) 0)=S:=⟨_,rfl⟩
 rw [hS] at CS
 have dS:S.data.toList=opX 22 t ks (exM ks) 0:=by rw [←hS,bA_data]
 have sS:S.size≤10000000002:=by
    have e:S.size=(opX 22 t ks (exM ks) 0).length:=by rw [←hS,bA_size]
    have e2:=opX_len 22 t ks 0
    rw [exM_at ks 0 z (uZ Hz)] at e2
    have e3:=(uZ HLn) _ (List.mem_of_getElem? (uZ Hz))
    simp only [Option.getD_some] at e2
    omega
 clear hS
 have hzA:¬9223372036854775807<S.size+1:=by omega
 obtain⟨A,eA⟩:∃z,(S++⟨#[46]⟩:ByteArray)=z:=⟨_,rfl⟩
 have dA:A.data.toList=opX 22 t ks (exM ks) 0++[46]:=by rw [←eA,ByteArray.data_append,Array.toList_append] <;> (rw [dS] <;> rfl)
 have sA:A.size≤S.size+1:=by rw [←eA,ByteArray.size_append];exact Nat.le_refl _
 have hzD:¬9223372036854775807<A.size+t.size:=by omega
 obtain⟨D,eD⟩:∃z,(A++t:ByteArray)=z:=⟨_,rfl⟩
 have dD:D.data.toList=opX 22 t ks (exM ks) 0++[46]++t.data.toList:=by rw [←eD,ByteArray.data_append,Array.toList_append] <;> (rw [dA])
 have sD:D.size≤A.size+t.size:=by rw [←eD,ByteArray.size_append];exact Nat.le_refl _
 have HV:=hZ (show R=.string D by rw [←uZ HR];exact congrArg Value.string (bA_eq D _ (by rw [dD];simp [ex1])).symm)
 clear HR
 clear dA dS dD
 obtain⟨x0,x1,x2,x3,x4,x5,x6,x7,x8,x9⟩:=uZ HF w1 (Below.refl _ _)
 go_upto_region 22 with fail
 clear x0 x1 x2 x3 x4 x5 x6 x7 x8 x9
 have HD0:Hid (Below w1.heap.size w1 w1.drew):=hZ ((Below.refl _ _).drew)
 refine till_begin (S:=fun w'=>Below w1.heap.size w1 w') 6 (by kernel_rfl) ?_
 obtain⟨W0,hW0⟩:∃W0,w1.drew=W0:=⟨_,rfl⟩
 try rw [hW0]
 rw [hW0] at HD0
 clear hW0
 refine tK 0 (v:=.agg #[.int .i64 22,.string t,.int .i64 vk,.int .i64 vn,.string vs,.slice al ll cl,.slice ak lk ck,.bool f,.slice (some b) n cc,.int .i64 p]) (some 82) rfl rfl rfl (by kernel_rfl) (fun _ _ _ h=>h) (Or.inl ⟨by rfl,fun u hu=>by obtain⟨x0,x1,x2,x3,x4,x5,x6,x7,x8,x9⟩:=uZ HF u hu;go_simp⟩) (uZ HD0) ?_
 try simp only [Act.put,sA,sB,sC]
 refine tK 3 (v:=.pointer (some ⟨G,1,none⟩)) (some 85) rfl rfl rfl (by kernel_rfl) (fun _ _ _ h=>h) (Or.inl ⟨by rfl,fun u hu=>by obtain⟨x0,x1,x2,x3,x4,x5,x6,x7,x8,x9⟩:=uZ HF u hu;go_simp⟩) (uZ HD0) ?_
 try simp only [Act.put,sA,sB,sC]
 refine tK 4 (v:=.string t) (some 86) rfl rfl rfl (by kernel_rfl) (fun _ _ _ h=>h) (Or.inl ⟨by rfl,fun u hu=>by obtain⟨x0,x1,x2,x3,x4,x5,x6,x7,x8,x9⟩:=uZ HF u hu;go_simp⟩) (uZ HD0) ?_
 try simp only [Act.put,sA,sB,sC]
 refine till_one 1 (by kernel_rfl) rfl (fun K hK=>?_)
 go_simp
 refine((uZ CS) W0 (uZ HD0)).mono ?_
 rintro e W1 ⟨rfl,bb⟩
 have HD1:=hZ ((uZ HD0).trans (bb.mono (uZ HD0).size))
 clear bb
 go_wp2_with fail
 refine hK.out _ _ (Or.inr (uZ HD1)) ?_
 clear hK K HD0
 try simp only [Act.put,sA,sB,sC]
 refine till_one 2 (by kernel_rfl) rfl (fun K hK=>?_)
 go_simp
 refine hK.out _ _ (Or.inr (uZ HD1)) ?_
 clear hK K
 try simp only [Act.put,sA,sB,sC]
 refine till_one 5 (by kernel_rfl) rfl (fun K hK=>?_)
 go_simp
 refine hK.out _ _ (Or.inr (uZ HD1)) ?_
 clear hK K
 try simp only [Act.put,sA,sB,sC]
 refine till_one 6 (by kernel_rfl) rfl (fun K hK=>?_)
 go_simp
 refine hK.out _ _ (Or.inl (by first|rfl|trivial)) ?_
 clear hK K
 try simp only [Act.put,sA,sB,sC]
 refine till_done (by kernel_rfl) ?_ _
 go_wp2_with fail
 go_ret
 have hbz:=((uZ HM) W1 (uZ HD1)).2.2.2.2
 exact⟨by rw [uZ HV] <;> rfl,by subst hG;exact hbz⟩
theorem rex17_any (B0:Nat) (y:Tn) (x:List Value) (w:World) (hB:B0≤w.heap.size) (hx:IsN w (fun b=>b<B0) y x) (hk:y.k=17) (hE:∀z∈y.ks,ExD B0 z) (hl:(∀z∈y.ks,(exT z).length≤10000000000)∧y.t.size≤1000∧y.ks.length=2) :
  Calls Tryz.prog 28 #[.agg x.toArray] w fun e w'=>e=.returned (.string (bA (ex1 17 y.t y.v y.ks (exM y.ks))))∧Below w.heap.size w w':=by
 have hx0:=hx
 obtain⟨vk,vn,vs,al,ak,a,ll,cl,lk,ck,cc,rfl,hvv,hr,hbk,hbp⟩:=hx.opn
 obtain⟨k,t,v,f,ks,p⟩:=y
 simp only at hk hE hl
 subst hk
 obtain⟨n,hn⟩:∃n,ks.length=n:=⟨_,rfl⟩
 have hnb:n≤140737488351232:=by rw [←hn];exact hr.len
 simp only [hn] at hx0 hvv hr hbk hbp ⊢
 obtain⟨R,hR⟩:∃R,(.string (bA (ex1 17 t v ks (exM ks))):Value)=R:=⟨_,rfl⟩
 rw [hR]
 have HR:=hZ hR
 obtain⟨b,rfl⟩:=some_of hr (by omega)
 obtain⟨w1,hw1⟩:∃w1,w.alloc (.cells #[.int .i64 17,.string t,.int .i64 vk,.int .i64 vn,.string vs,.slice al ll cl,.slice ak lk ck,.bool f,.slice (some b) n cc,.int .i64 p] 28)=w1:=⟨_,rfl⟩
 obtain⟨G,hG⟩:∃G,w.heap.size=G:=⟨_,rfl⟩
 obtain⟨A1,X1⟩:=al1 hw1 hG
 have hBG:B0≤G:=by rw [←hG];exact hB
 have HM:Hid (NM5 B0 G w w1 ⟨17,t,v,f,ks,p⟩ [.int .i64 17,.string t,.int .i64 vk,.int .i64 vn,.string vs,.slice al ll cl,.slice ak lk ck,.bool f,.slice (some b) n cc,.int .i64 p] ks (some b) cc v (.agg #[.int .i64 vk,.int .i64 vn,.string vs,.slice al ll cl,.slice ak lk ck])):=hZ (fun u hu=>by
  have h2:=X1.trans (hu.mono (Nat.le_of_lt (lt_of_row A1)))
  exact⟨hx0.laterB (h2.mono hBG),hr.later (h2.mono hBG),Nat.le_trans hBG (by rw [←hG];exact h2.size),hvv.mono (h2.mono hBG),h2⟩)
 have HF:Hid (NF10 w1 G (.int .i64 17) (.string t) (.int .i64 vk) (.int .i64 vn) (.string vs) (.slice al ll cl) (.slice ak lk ck) (.bool f) (.slice (some b) n cc) (.int .i64 p)):=hZ (fun u hu=>row_ten (Below.cellsAt hu A1))
 have HN:=hZ hn
 have HS0:Hid (Below w1.heap.size w1 w1):=hZ (Below.refl _ _)
 have HW:=hZ hw1
 have HE:=hZ hE
 have HLn:=hZ hl.1
 have htz:=hl.2.1
 have hnn:n=2:=by rw [←hn];exact hl.2.2
 obtain⟨z,hz⟩:∃z,ks[0]?=some z:=⟨_,List.getElem?_eq_getElem (by omega)⟩
 have Hz:=hZ hz
 obtain⟨y,hy⟩:∃z,ks[1]?=some z:=⟨_,List.getElem?_eq_getElem (by omega)⟩
 have Hy:=hZ hy
 have p0:(0:Int)<(n:Int):=by omega
 have p00:¬n=0:=by omega
 have p1:(1:Int)<(n:Int):=by omega
 clear hnn hE hl hz hy
 clear A1 X1 hw1 hx hx0 hr hvv hB hBG hn hR
 go_enter Tryz.func28,Tryz.ntmps28
 go_upto_region 1 with fail
 rw [uZ HW]
 try rw [hG]
 clear HW
 have CS:Hid (∀u,Below w1.heap.size w1 u→Calls Tryz.prog 56 #[.agg #[.int .i64 17,.string t,.int .i64 vk,.int .i64 vn,.string vs,.slice al ll cl,.slice ak lk ck,.bool f,.slice (some b) n cc,.int .i64 p],.int .i64 0] u fun e u'=>e=.returned (.string (bA (opX 17 t ks (exM ks) 0)))∧Below u.heap.size u u'):=hZ (fun u hu=>rpart_any 0 z B0 ⟨17,t,v,f,ks,p⟩ _ u ((uZ HM) u hu).2.2.1 ((uZ HM) u hu).1 (uZ Hz) ((uZ HE) _ (List.mem_of_getElem? (uZ Hz))) (Nat.le_trans ((uZ HLn) _ (List.mem_of_getElem? (uZ Hz))) (by omega)))
 obtain⟨S,hS⟩:∃S,bA (opX 17 t ks (exM ks) 0)=S:=⟨_,rfl⟩
 rw [hS] at CS
 have dS:S.data.toList=opX 17 t ks (exM ks) 0:=by rw [←hS,bA_data]
 have sS:S.size≤10000000002:=by
    have e:S.size=(opX 17 t ks (exM ks) 0).length:=by rw [←hS,bA_size]
    have e2:=opX_len 17 t ks 0
    rw [exM_at ks 0 z (uZ Hz)] at e2
    have e3:=(uZ HLn) _ (List.mem_of_getElem? (uZ Hz))
    simp only [Option.getD_some] at e2
    omega
 clear hS
 have CT:Hid (∀u,Below w1.heap.size w1 u→Calls Tryz.prog 56 #[.agg #[.int .i64 17,.string t,.int .i64 vk,.int .i64 vn,.string vs,.slice al ll cl,.slice ak lk ck,.bool f,.slice (some b) n cc,.int .i64 p],.int .i64 1] u fun e u'=>e=.returned (.string (bA (opX 17 t ks (exM ks) 1)))∧Below u.heap.size u u'):=hZ (fun u hu=>rpart_any 1 y B0 ⟨17,t,v,f,ks,p⟩ _ u ((uZ HM) u hu).2.2.1 ((uZ HM) u hu).1 (uZ Hy) ((uZ HE) _ (List.mem_of_getElem? (uZ Hy))) (Nat.le_trans ((uZ HLn) _ (List.mem_of_getElem? (uZ Hy))) (by omega)))
 obtain⟨T,hT⟩:∃S,bA (opX 17 t ks (exM ks) 1)=S:=⟨_,rfl⟩
 rw [hT] at CT
 have dT:T.data.toList=opX 17 t ks (exM ks) 1:=by rw [←hT,bA_data]
 have sT:T.size≤10000000002:=by
    have e:T.size=(opX 17 t ks (exM ks) 1).length:=by rw [←hT,bA_size]
    have e2:=opX_len 17 t ks 1
    rw [exM_at ks 1 y (uZ Hy)] at e2
    have e3:=(uZ HLn) _ (List.mem_of_getElem? (uZ Hy))
    simp only [Option.getD_some] at e2
    omega
 clear hT
 have hzA:¬9223372036854775807<S.size+1:=by omega
 obtain⟨A,eA⟩:∃z,(S++⟨#[32]⟩:ByteArray)=z:=⟨_,rfl⟩
 have dA:A.data.toList=opX 17 t ks (exM ks) 0++[32]:=by rw [←eA,ByteArray.data_append,Array.toList_append] <;> (rw [dS] <;> rfl)
 have sA:A.size≤S.size+1:=by rw [←eA,ByteArray.size_append];exact Nat.le_refl _
 have hzB:¬9223372036854775807<A.size+t.size:=by omega
 obtain⟨B,eB⟩:∃z,(A++t:ByteArray)=z:=⟨_,rfl⟩
 have dB:B.data.toList=opX 17 t ks (exM ks) 0++[32]++t.data.toList:=by rw [←eB,ByteArray.data_append,Array.toList_append] <;> (rw [dA])
 have sB:B.size≤A.size+t.size:=by rw [←eB,ByteArray.size_append];exact Nat.le_refl _
 have hzD:¬9223372036854775807<B.size+1:=by omega
 obtain⟨D,eD⟩:∃z,(B++⟨#[32]⟩:ByteArray)=z:=⟨_,rfl⟩
 have dD:D.data.toList=opX 17 t ks (exM ks) 0++[32]++t.data.toList++[32]:=by rw [←eD,ByteArray.data_append,Array.toList_append] <;> (rw [dB] <;> rfl)
 have sD:D.size≤B.size+1:=by rw [←eD,ByteArray.size_append];exact Nat.le_refl _
 have hzF:¬9223372036854775807<D.size+T.size:=by omega
 obtain⟨F,eF⟩:∃z,(D++T:ByteArray)=z:=⟨_,rfl⟩
 have dF:F.data.toList=opX 17 t ks (exM ks) 0++[32]++t.data.toList++[32]++opX 17 t ks (exM ks) 1:=by rw [←eF,ByteArray.data_append,Array.toList_append] <;> (rw [dD,dT])
 have sF:F.size≤D.size+T.size:=by rw [←eF,ByteArray.size_append];exact Nat.le_refl _
 have HV:=hZ (show R=.string F by rw [←uZ HR];exact congrArg Value.string (bA_eq F _ (by rw [dF];simp [ex1])).symm)
 clear HR
 clear dA dB dD dF dS dT
 obtain⟨x0,x1,x2,x3,x4,x5,x6,x7,x8,x9⟩:=uZ HF w1 (Below.refl _ _)
 go_upto_region 23 with fail
 clear x0 x1 x2 x3 x4 x5 x6 x7 x8 x9
 have HD0:Hid (Below w1.heap.size w1 w1.drew):=hZ ((Below.refl _ _).drew)
 refine till_begin (S:=fun w'=>Below w1.heap.size w1 w') 10 (by kernel_rfl) ?_
 obtain⟨W0,hW0⟩:∃W0,w1.drew=W0:=⟨_,rfl⟩
 try rw [hW0]
 rw [hW0] at HD0
 clear hW0
 refine tK 0 (v:=.agg #[.int .i64 17,.string t,.int .i64 vk,.int .i64 vn,.string vs,.slice al ll cl,.slice ak lk ck,.bool f,.slice (some b) n cc,.int .i64 p]) (some 88) rfl rfl rfl (by kernel_rfl) (fun _ _ _ h=>h) (Or.inl ⟨by rfl,fun u hu=>by obtain⟨x0,x1,x2,x3,x4,x5,x6,x7,x8,x9⟩:=uZ HF u hu;go_simp⟩) (uZ HD0) ?_
 try simp only [Act.put,sA,sB,sC]
 refine tK 3 (v:=.pointer (some ⟨G,1,none⟩)) (some 91) rfl rfl rfl (by kernel_rfl) (fun _ _ _ h=>h) (Or.inl ⟨by rfl,fun u hu=>by obtain⟨x0,x1,x2,x3,x4,x5,x6,x7,x8,x9⟩:=uZ HF u hu;go_simp⟩) (uZ HD0) ?_
 try simp only [Act.put,sA,sB,sC]
 refine tK 4 (v:=.string t) (some 92) rfl rfl rfl (by kernel_rfl) (fun _ _ _ h=>h) (Or.inl ⟨by rfl,fun u hu=>by obtain⟨x0,x1,x2,x3,x4,x5,x6,x7,x8,x9⟩:=uZ HF u hu;go_simp⟩) (uZ HD0) ?_
 try simp only [Act.put,sA,sB,sC]
 refine tK 7 (v:=.agg #[.int .i64 17,.string t,.int .i64 vk,.int .i64 vn,.string vs,.slice al ll cl,.slice ak lk ck,.bool f,.slice (some b) n cc,.int .i64 p]) (some 95) rfl rfl rfl (by kernel_rfl) (fun _ _ _ h=>h) (Or.inl ⟨by rfl,fun u hu=>by obtain⟨x0,x1,x2,x3,x4,x5,x6,x7,x8,x9⟩:=uZ HF u hu;go_simp⟩) (uZ HD0) ?_
 try simp only [Act.put,sA,sB,sC]
 refine till_one 1 (by kernel_rfl) rfl (fun K hK=>?_)
 go_simp
 refine((uZ CS) W0 (uZ HD0)).mono ?_
 rintro e W1 ⟨rfl,bb⟩
 have HD1:=hZ ((uZ HD0).trans (bb.mono (uZ HD0).size))
 clear bb
 go_wp2_with fail
 refine hK.out _ _ (Or.inr (uZ HD1)) ?_
 clear hK K HD0
 try simp only [Act.put,sA,sB,sC]
 refine tK 2 (v:=.string A) (some 90) rfl rfl rfl (by kernel_rfl) (fun _ _ _ h=>h) (Or.inl ⟨by rfl,fun u hu=>by obtain⟨x0,x1,x2,x3,x4,x5,x6,x7,x8,x9⟩:=uZ HF u hu;go_simp⟩) (uZ HD1) ?_
 try simp only [Act.put,sA,sB,sC]
 refine tK 5 (v:=.string B) (some 93) rfl rfl rfl (by kernel_rfl) (fun _ _ _ h=>h) (Or.inl ⟨by rfl,fun u hu=>by obtain⟨x0,x1,x2,x3,x4,x5,x6,x7,x8,x9⟩:=uZ HF u hu;go_simp⟩) (uZ HD1) ?_
 try simp only [Act.put,sA,sB,sC]
 refine tK 6 (v:=.string D) (some 94) rfl rfl rfl (by kernel_rfl) (fun _ _ _ h=>h) (Or.inl ⟨by rfl,fun u hu=>by obtain⟨x0,x1,x2,x3,x4,x5,x6,x7,x8,x9⟩:=uZ HF u hu;go_simp⟩) (uZ HD1) ?_
 try simp only [Act.put,sA,sB,sC]
 refine till_one 8 (by kernel_rfl) rfl (fun K hK=>?_)
 go_simp
 refine((uZ CT) W1 (uZ HD1)).mono ?_
 rintro e W2 ⟨rfl,bb⟩
 have HD2:=hZ ((uZ HD1).trans (bb.mono (uZ HD1).size))
 clear bb
 go_wp2_with fail
 refine hK.out _ _ (Or.inr (uZ HD2)) ?_
 clear hK K HD1
 try simp only [Act.put,sA,sB,sC]
 refine till_one 9 (by kernel_rfl) rfl (fun K hK=>?_)
 go_simp
 refine hK.out _ _ (Or.inr (uZ HD2)) ?_
 clear hK K
 try simp only [Act.put,sA,sB,sC]
 refine till_one 10 (by kernel_rfl) rfl (fun K hK=>?_)
 go_simp
 refine hK.out _ _ (Or.inl (by first|rfl|trivial)) ?_
 clear hK K
 try simp only [Act.put,sA,sB,sC]
 refine till_done (by kernel_rfl) ?_ _
 go_wp2_with fail
 go_ret
 have hbz:=((uZ HM) W2 (uZ HD2)).2.2.2.2
 exact⟨by rw [uZ HV] <;> rfl,by subst hG;exact hbz⟩
theorem rex21_any (B0:Nat) (y:Tn) (x:List Value) (w:World) (hB:B0≤w.heap.size) (hx:IsN w (fun b=>b<B0) y x) (hk:y.k=21) (hE:∀z∈y.ks,ExD B0 z) (hl:(∀z∈y.ks,(exT z).length≤10000000000)∧y.t.size≤1000∧y.ks.length=2) :
  Calls Tryz.prog 28 #[.agg x.toArray] w fun e w'=>e=.returned (.string (bA (ex1 21 y.t y.v y.ks (exM y.ks))))∧Below w.heap.size w w':=by
 have hx0:=hx
 obtain⟨vk,vn,vs,al,ak,a,ll,cl,lk,ck,cc,rfl,hvv,hr,hbk,hbp⟩:=hx.opn
 obtain⟨k,t,v,f,ks,p⟩:=y
 simp only at hk hE hl
 subst hk
 obtain⟨n,hn⟩:∃n,ks.length=n:=⟨_,rfl⟩
 have hnb:n≤140737488351232:=by rw [←hn];exact hr.len
 simp only [hn] at hx0 hvv hr hbk hbp ⊢
 obtain⟨R,hR⟩:∃R,(.string (bA (ex1 21 t v ks (exM ks))):Value)=R:=⟨_,rfl⟩
 rw [hR]
 have HR:=hZ hR
 obtain⟨b,rfl⟩:=some_of hr (by omega)
 obtain⟨w1,hw1⟩:∃w1,w.alloc (.cells #[.int .i64 21,.string t,.int .i64 vk,.int .i64 vn,.string vs,.slice al ll cl,.slice ak lk ck,.bool f,.slice (some b) n cc,.int .i64 p] 28)=w1:=⟨_,rfl⟩
 obtain⟨G,hG⟩:∃G,w.heap.size=G:=⟨_,rfl⟩
 obtain⟨A1,X1⟩:=al1 hw1 hG
 have hBG:B0≤G:=by rw [←hG];exact hB
 have HM:Hid (NM5 B0 G w w1 ⟨21,t,v,f,ks,p⟩ [.int .i64 21,.string t,.int .i64 vk,.int .i64 vn,.string vs,.slice al ll cl,.slice ak lk ck,.bool f,.slice (some b) n cc,.int .i64 p] ks (some b) cc v (.agg #[.int .i64 vk,.int .i64 vn,.string vs,.slice al ll cl,.slice ak lk ck])):=hZ (fun u hu=>by
  have h2:=X1.trans (hu.mono (Nat.le_of_lt (lt_of_row A1)))
  exact⟨hx0.laterB (h2.mono hBG),hr.later (h2.mono hBG),Nat.le_trans hBG (by rw [←hG];exact h2.size),hvv.mono (h2.mono hBG),h2⟩)
 have HF:Hid (NF10 w1 G (.int .i64 21) (.string t) (.int .i64 vk) (.int .i64 vn) (.string vs) (.slice al ll cl) (.slice ak lk ck) (.bool f) (.slice (some b) n cc) (.int .i64 p)):=hZ (fun u hu=>row_ten (Below.cellsAt hu A1))
 have HN:=hZ hn
 have HS0:Hid (Below w1.heap.size w1 w1):=hZ (Below.refl _ _)
 have HW:=hZ hw1
 have HE:=hZ hE
 have HLn:=hZ hl.1
 have htz:=hl.2.1
 have hnn:n=2:=by rw [←hn];exact hl.2.2
 obtain⟨z,hz⟩:∃z,ks[0]?=some z:=⟨_,List.getElem?_eq_getElem (by omega)⟩
 have Hz:=hZ hz
 obtain⟨y,hy⟩:∃z,ks[1]?=some z:=⟨_,List.getElem?_eq_getElem (by omega)⟩
 have Hy:=hZ hy
 obtain⟨b',vkq,vnq,vsq,alq,akq,aq,llq,clq,lkq,ckq,nq,ccq,eb,hcq,hbq,hnq,hzq,hcellq⟩:=hr.ten hy
 obtain rfl:b=b':=Option.some.inj eb
 clear eb
 have X0q:∀u,Below w1.heap.size w1 u→Below G w u:=fun u h=>X1.trans (h.mono (Nat.le_of_lt (lt_of_row A1)))
 have HKq:Hid (∀u,Below w1.heap.size w1 u→(u.cell? (⟨b.block,b.off+10,none⟩)=some (.int .i64 y.k)∧u.cell? (⟨b.block,b.off+10+1,none⟩)=some (.string y.t)∧u.cell? (⟨b.block,b.off+10+2,none⟩)=some (.int .i64 vkq)∧u.cell? (⟨b.block,b.off+10+3,none⟩)=some (.int .i64 vnq)∧u.cell? (⟨b.block,b.off+10+4,none⟩)=some (.string vsq)∧u.cell? (⟨b.block,b.off+10+5,none⟩)=some (.slice alq llq clq)∧u.cell? (⟨b.block,b.off+10+6,none⟩)=some (.slice akq lkq ckq)∧u.cell? (⟨b.block,b.off+10+7,none⟩)=some (.bool y.f)∧u.cell? (⟨b.block,b.off+10+8,none⟩)=some (.slice aq nq ccq)∧u.cell? (⟨b.block,b.off+10+9,none⟩)=some (.int .i64 y.p))∧IsN u (fun b=>b<B0) y [.int .i64 y.k,.string y.t,.int .i64 vkq,.int .i64 vnq,.string vsq,.slice alq llq clq,.slice akq lkq ckq,.bool y.f,.slice aq nq ccq,.int .i64 y.p]):=hZ (fun u h=>by
  have hc:∀j v,([.int .i64 y.k,.string y.t,.int .i64 vkq,.int .i64 vnq,.string vsq,.slice alq llq clq,.slice akq lkq ckq,.bool y.f,.slice aq nq ccq,.int .i64 y.p]:List Value)[j]?=some v→u.cell? ((b.add (1 * 10)).add j)=some v:=fun j v hj=>(World.cell?_of_block ((X0q u h).block _ (by rw [block_add,block_add];omega))).trans (hcellq j v hj)
  exact⟨⟨hc 0 _ rfl,hc 1 _ rfl,hc 2 _ rfl,hc 3 _ rfl,hc 4 _ rfl,hc 5 _ rfl,hc 6 _ rfl,hc 7 _ rfl,hc 8 _ rfl,hc 9 _ rfl⟩,hzq.laterB ((X0q u h).mono hBG)⟩)
 have hnccq:n≤cc:=by rw [←hn];exact hcq
 clear hzq hcellq X0q hbq hcq
 have p0:(0:Int)<(n:Int):=by omega
 have p00:¬n=0:=by omega
 have p1:(1:Int)<(n:Int):=by omega
 clear hnn hE hl hz hy
 clear A1 X1 hw1 hx hx0 hr hvv hB hBG hn hR
 go_enter Tryz.func28,Tryz.ntmps28
 go_upto_region 1 with fail
 rw [uZ HW]
 try rw [hG]
 clear HW
 have CS:Hid (∀u,Below w1.heap.size w1 u→Calls Tryz.prog 56 #[.agg #[.int .i64 21,.string t,.int .i64 vk,.int .i64 vn,.string vs,.slice al ll cl,.slice ak lk ck,.bool f,.slice (some b) n cc,.int .i64 p],.int .i64 0] u fun e u'=>e=.returned (.string (bA (opX 21 t ks (exM ks) 0)))∧Below u.heap.size u u'):=hZ (fun u hu=>rpart_any 0 z B0 ⟨21,t,v,f,ks,p⟩ _ u ((uZ HM) u hu).2.2.1 ((uZ HM) u hu).1 (uZ Hz) ((uZ HE) _ (List.mem_of_getElem? (uZ Hz))) (Nat.le_trans ((uZ HLn) _ (List.mem_of_getElem? (uZ Hz))) (by omega)))
 obtain⟨S,hS⟩:∃S,bA (opX 21 t ks (exM ks) 0)=S:=⟨_,rfl⟩
 rw [hS] at CS
 have dS:S.data.toList=opX 21 t ks (exM ks) 0:=by rw [←hS,bA_data]
 have sS:S.size≤10000000002:=by
    have e:S.size=(opX 21 t ks (exM ks) 0).length:=by rw [←hS,bA_size]
    have e2:=opX_len 21 t ks 0
    rw [exM_at ks 0 z (uZ Hz)] at e2
    have e3:=(uZ HLn) _ (List.mem_of_getElem? (uZ Hz))
    simp only [Option.getD_some] at e2
    omega
 clear hS
 have CT:Hid (∀u,Below w1.heap.size w1 u→Calls Tryz.prog 28 #[.agg #[.int .i64 y.k,.string y.t,.int .i64 vkq,.int .i64 vnq,.string vsq,.slice alq llq clq,.slice akq lkq ckq,.bool y.f,.slice aq nq ccq,.int .i64 y.p]] u fun e u'=>e=.returned (.string (bA (exT y)))∧Below u.heap.size u u'):=hZ (fun u hu=>(uZ HE) y (List.mem_of_getElem? (uZ Hy)) _ u ((uZ HM) u hu).2.2.1 (uZ HKq u hu).2)
 obtain⟨T,hT⟩:∃S,bA (exT y)=S:=⟨_,rfl⟩
 rw [hT] at CT
 have dT:T.data.toList=exT y:=by rw [←hT,bA_data]
 have sT:T.size≤10000000000:=by
    have e:T.size=(exT y).length:=by rw [←hT,bA_size]
    have e3:=(uZ HLn) _ (List.mem_of_getElem? (uZ Hy))
    omega
 clear hT
 have hzA:¬9223372036854775807<S.size+1:=by omega
 obtain⟨A,eA⟩:∃z,(S++⟨#[91]⟩:ByteArray)=z:=⟨_,rfl⟩
 have dA:A.data.toList=opX 21 t ks (exM ks) 0++[91]:=by rw [←eA,ByteArray.data_append,Array.toList_append] <;> (rw [dS] <;> rfl)
 have sA:A.size≤S.size+1:=by rw [←eA,ByteArray.size_append];exact Nat.le_refl _
 have hzB:¬9223372036854775807<A.size+T.size:=by omega
 obtain⟨B,eB⟩:∃z,(A++T:ByteArray)=z:=⟨_,rfl⟩
 have dB:B.data.toList=opX 21 t ks (exM ks) 0++[91]++exT y:=by rw [←eB,ByteArray.data_append,Array.toList_append] <;> (rw [dA,dT])
 have sB:B.size≤A.size+T.size:=by rw [←eB,ByteArray.size_append];exact Nat.le_refl _
 have hzD:¬9223372036854775807<B.size+1:=by omega
 obtain⟨D,eD⟩:∃z,(B++⟨#[93]⟩:ByteArray)=z:=⟨_,rfl⟩
 have dD:D.data.toList=opX 21 t ks (exM ks) 0++[91]++exT y++[93]:=by rw [←eD,ByteArray.data_append,Array.toList_append] <;> (rw [dB] <;> rfl)
 have sD:D.size≤B.size+1:=by rw [←eD,ByteArray.size_append];exact Nat.le_refl _
 have HV:=hZ (show R=.string D by rw [←uZ HR];exact congrArg Value.string (bA_eq D _ (by rw [dD];simp [ex1,exM_at ks 1 y (uZ Hy)])).symm)
 clear HR
 clear dA dB dD dS dT
 obtain⟨x0,x1,x2,x3,x4,x5,x6,x7,x8,x9⟩:=uZ HF w1 (Below.refl _ _)
 go_upto_region 20 with fail
 clear x0 x1 x2 x3 x4 x5 x6 x7 x8 x9
 have HD0:Hid (Below w1.heap.size w1 w1.drew):=hZ ((Below.refl _ _).drew)
 refine till_begin (S:=fun w'=>Below w1.heap.size w1 w') 10 (by kernel_rfl) ?_
 obtain⟨W0,hW0⟩:∃W0,w1.drew=W0:=⟨_,rfl⟩
 try rw [hW0]
 rw [hW0] at HD0
 clear hW0
 refine tK 0 (v:=.agg #[.int .i64 21,.string t,.int .i64 vk,.int .i64 vn,.string vs,.slice al ll cl,.slice ak lk ck,.bool f,.slice (some b) n cc,.int .i64 p]) (some 70) rfl rfl rfl (by kernel_rfl) (fun _ _ _ h=>h) (Or.inl ⟨by rfl,fun u hu=>by obtain⟨x0,x1,x2,x3,x4,x5,x6,x7,x8,x9⟩:=uZ HF u hu;obtain⟨y0,y1,y2,y3,y4,y5,y6,y7,y8,y9⟩:=(uZ HKq u hu).1;go_simp⟩) (uZ HD0) ?_
 try simp only [Act.put,sA,sB,sC]
 refine tK 3 (v:=.pointer (some ⟨G,8,none⟩)) (some 73) rfl rfl rfl (by kernel_rfl) (fun _ _ _ h=>h) (Or.inl ⟨by rfl,fun u hu=>by obtain⟨x0,x1,x2,x3,x4,x5,x6,x7,x8,x9⟩:=uZ HF u hu;obtain⟨y0,y1,y2,y3,y4,y5,y6,y7,y8,y9⟩:=(uZ HKq u hu).1;go_simp⟩) (uZ HD0) ?_
 try simp only [Act.put,sA,sB,sC]
 refine tK 4 (v:=.slice (some b) n cc) (some 74) rfl rfl rfl (by kernel_rfl) (fun _ _ _ h=>h) (Or.inl ⟨by rfl,fun u hu=>by obtain⟨x0,x1,x2,x3,x4,x5,x6,x7,x8,x9⟩:=uZ HF u hu;obtain⟨y0,y1,y2,y3,y4,y5,y6,y7,y8,y9⟩:=(uZ HKq u hu).1;go_simp⟩) (uZ HD0) ?_
 try simp only [Act.put,sA,sB,sC]
 refine tK 5 (v:=.pointer (some ⟨b.block,b.off+10,none⟩)) (some 75) rfl rfl rfl (by kernel_rfl) (fun _ _ _ h=>h) (Or.inl ⟨by rfl,fun u hu=>by obtain⟨x0,x1,x2,x3,x4,x5,x6,x7,x8,x9⟩:=uZ HF u hu;obtain⟨y0,y1,y2,y3,y4,y5,y6,y7,y8,y9⟩:=(uZ HKq u hu).1;go_simp⟩) (uZ HD0) ?_
 try simp only [Act.put,sA,sB,sC]
 refine tK 6 (v:=.agg #[.int .i64 y.k,.string y.t,.int .i64 vkq,.int .i64 vnq,.string vsq,.slice alq llq clq,.slice akq lkq ckq,.bool y.f,.slice aq nq ccq,.int .i64 y.p]) (some 76) rfl rfl rfl (by kernel_rfl) (fun _ _ _ h=>h) (Or.inl ⟨by rfl,fun u hu=>by obtain⟨x0,x1,x2,x3,x4,x5,x6,x7,x8,x9⟩:=uZ HF u hu;obtain⟨y0,y1,y2,y3,y4,y5,y6,y7,y8,y9⟩:=(uZ HKq u hu).1;go_simp⟩) (uZ HD0) ?_
 try simp only [Act.put,sA,sB,sC]
 refine till_one 1 (by kernel_rfl) rfl (fun K hK=>?_)
 go_simp
 refine((uZ CS) W0 (uZ HD0)).mono ?_
 rintro e W1 ⟨rfl,bb⟩
 have HD1:=hZ ((uZ HD0).trans (bb.mono (uZ HD0).size))
 clear bb
 go_wp2_with fail
 refine hK.out _ _ (Or.inr (uZ HD1)) ?_
 clear hK K HD0
 try simp only [Act.put,sA,sB,sC]
 refine tK 2 (v:=.string A) (some 72) rfl rfl rfl (by kernel_rfl) (fun _ _ _ h=>h) (Or.inl ⟨by rfl,fun u hu=>by obtain⟨x0,x1,x2,x3,x4,x5,x6,x7,x8,x9⟩:=uZ HF u hu;obtain⟨y0,y1,y2,y3,y4,y5,y6,y7,y8,y9⟩:=(uZ HKq u hu).1;go_simp⟩) (uZ HD1) ?_
 try simp only [Act.put,sA,sB,sC]
 refine till_one 7 (by kernel_rfl) rfl (fun K hK=>?_)
 go_simp
 refine((uZ CT) W1 (uZ HD1)).mono ?_
 rintro e W2 ⟨rfl,bb⟩
 have HD2:=hZ ((uZ HD1).trans (bb.mono (uZ HD1).size))
 clear bb
 go_wp2_with fail
 refine hK.out _ _ (Or.inr (uZ HD2)) ?_
 clear hK K HD1
 try simp only [Act.put,sA,sB,sC]
 refine till_one 8 (by kernel_rfl) rfl (fun K hK=>?_)
 go_simp
 refine hK.out _ _ (Or.inr (uZ HD2)) ?_
 clear hK K
 try simp only [Act.put,sA,sB,sC]
 refine till_one 9 (by kernel_rfl) rfl (fun K hK=>?_)
 go_simp
 refine hK.out _ _ (Or.inr (uZ HD2)) ?_
 clear hK K
 try simp only [Act.put,sA,sB,sC]
 refine till_one 10 (by kernel_rfl) rfl (fun K hK=>?_)
 go_simp
 refine hK.out _ _ (Or.inl (by first|rfl|trivial)) ?_
 clear hK K
 try simp only [Act.put,sA,sB,sC]
 refine till_done (by kernel_rfl) ?_ _
 go_wp2_with fail
 go_ret
 have hbz:=((uZ HM) W2 (uZ HD2)).2.2.2.2
 exact⟨by rw [uZ HV] <;> rfl,by subst hG;exact hbz⟩
theorem rex20_any (B0:Nat) (y:Tn) (x:List Value) (w:World) (hB:B0≤w.heap.size) (hx:IsN w (fun b=>b<B0) y x) (hk:y.k=20) (hE:∀z∈y.ks,ExD B0 z) (hl:(∀z∈y.ks,(exT z).length≤10000000000)∧y.t.size≤1000∧y.ks.length=1) :
  Calls Tryz.prog 28 #[.agg x.toArray] w fun e w'=>e=.returned (.string (bA (ex1 20 y.t y.v y.ks (exM y.ks))))∧Below w.heap.size w w':=by
 have hx0:=hx
 obtain⟨vk,vn,vs,al,ak,a,ll,cl,lk,ck,cc,rfl,hvv,hr,hbk,hbp⟩:=hx.opn
 obtain⟨k,t,v,f,ks,p⟩:=y
 simp only at hk hE hl
 subst hk
 obtain⟨n,hn⟩:∃n,ks.length=n:=⟨_,rfl⟩
 have hnb:n≤140737488351232:=by rw [←hn];exact hr.len
 simp only [hn] at hx0 hvv hr hbk hbp ⊢
 obtain⟨R,hR⟩:∃R,(.string (bA (ex1 20 t v ks (exM ks))):Value)=R:=⟨_,rfl⟩
 rw [hR]
 have HR:=hZ hR
 obtain⟨b,rfl⟩:=some_of hr (by omega)
 obtain⟨w1,hw1⟩:∃w1,w.alloc (.cells #[.int .i64 20,.string t,.int .i64 vk,.int .i64 vn,.string vs,.slice al ll cl,.slice ak lk ck,.bool f,.slice (some b) n cc,.int .i64 p] 28)=w1:=⟨_,rfl⟩
 obtain⟨G,hG⟩:∃G,w.heap.size=G:=⟨_,rfl⟩
 obtain⟨A1,X1⟩:=al1 hw1 hG
 have hBG:B0≤G:=by rw [←hG];exact hB
 have HM:Hid (NM5 B0 G w w1 ⟨20,t,v,f,ks,p⟩ [.int .i64 20,.string t,.int .i64 vk,.int .i64 vn,.string vs,.slice al ll cl,.slice ak lk ck,.bool f,.slice (some b) n cc,.int .i64 p] ks (some b) cc v (.agg #[.int .i64 vk,.int .i64 vn,.string vs,.slice al ll cl,.slice ak lk ck])):=hZ (fun u hu=>by
  have h2:=X1.trans (hu.mono (Nat.le_of_lt (lt_of_row A1)))
  exact⟨hx0.laterB (h2.mono hBG),hr.later (h2.mono hBG),Nat.le_trans hBG (by rw [←hG];exact h2.size),hvv.mono (h2.mono hBG),h2⟩)
 have HF:Hid (NF10 w1 G (.int .i64 20) (.string t) (.int .i64 vk) (.int .i64 vn) (.string vs) (.slice al ll cl) (.slice ak lk ck) (.bool f) (.slice (some b) n cc) (.int .i64 p)):=hZ (fun u hu=>row_ten (Below.cellsAt hu A1))
 have HN:=hZ hn
 have HS0:Hid (Below w1.heap.size w1 w1):=hZ (Below.refl _ _)
 have HW:=hZ hw1
 have HE:=hZ hE
 have HLn:=hZ hl.1
 have htz:=hl.2.1
 have hnn:n=1:=by rw [←hn];exact hl.2.2
 obtain⟨y,hy⟩:∃z,ks[0]?=some z:=⟨_,List.getElem?_eq_getElem (by omega)⟩
 have Hy:=hZ hy
 obtain⟨b',vkq,vnq,vsq,alq,akq,aq,llq,clq,lkq,ckq,nq,ccq,eb,hcq,hbq,hnq,hzq,hcellq⟩:=hr.ten hy
 obtain rfl:b=b':=Option.some.inj eb
 clear eb
 have X0q:∀u,Below w1.heap.size w1 u→Below G w u:=fun u h=>X1.trans (h.mono (Nat.le_of_lt (lt_of_row A1)))
 have HKq:Hid (∀u,Below w1.heap.size w1 u→(u.cell? (b)=some (.int .i64 y.k)∧u.cell? (⟨b.block,b.off+1,none⟩)=some (.string y.t)∧u.cell? (⟨b.block,b.off+2,none⟩)=some (.int .i64 vkq)∧u.cell? (⟨b.block,b.off+3,none⟩)=some (.int .i64 vnq)∧u.cell? (⟨b.block,b.off+4,none⟩)=some (.string vsq)∧u.cell? (⟨b.block,b.off+5,none⟩)=some (.slice alq llq clq)∧u.cell? (⟨b.block,b.off+6,none⟩)=some (.slice akq lkq ckq)∧u.cell? (⟨b.block,b.off+7,none⟩)=some (.bool y.f)∧u.cell? (⟨b.block,b.off+8,none⟩)=some (.slice aq nq ccq)∧u.cell? (⟨b.block,b.off+9,none⟩)=some (.int .i64 y.p))∧IsN u (fun b=>b<B0) y [.int .i64 y.k,.string y.t,.int .i64 vkq,.int .i64 vnq,.string vsq,.slice alq llq clq,.slice akq lkq ckq,.bool y.f,.slice aq nq ccq,.int .i64 y.p]):=hZ (fun u h=>by
  have hc:∀j v,([.int .i64 y.k,.string y.t,.int .i64 vkq,.int .i64 vnq,.string vsq,.slice alq llq clq,.slice akq lkq ckq,.bool y.f,.slice aq nq ccq,.int .i64 y.p]:List Value)[j]?=some v→u.cell? ((b.add (0 * 10)).add j)=some v:=fun j v hj=>(World.cell?_of_block ((X0q u h).block _ (by rw [block_add,block_add];omega))).trans (hcellq j v hj)
  exact⟨⟨hc 0 _ rfl,hc 1 _ rfl,hc 2 _ rfl,hc 3 _ rfl,hc 4 _ rfl,hc 5 _ rfl,hc 6 _ rfl,hc 7 _ rfl,hc 8 _ rfl,hc 9 _ rfl⟩,hzq.laterB ((X0q u h).mono hBG)⟩)
 have hnccq:n≤cc:=by rw [←hn];exact hcq
 clear hzq hcellq X0q hbq hcq
 have p0:(0:Int)<(n:Int):=by omega
 have p00:¬n=0:=by omega
 clear hnn hE hl hy
 clear A1 X1 hw1 hx hx0 hr hvv hB hBG hn hR
 go_enter Tryz.func28,Tryz.ntmps28
 go_upto_region 1 with fail
 rw [uZ HW]
 try rw [hG]
 clear HW
 obtain⟨x0,x1,x2,x3,x4,x5,x6,x7,x8,x9⟩:=uZ HF w1 (Below.refl _ _)
 have CT:Hid (∀u,Below w1.heap.size w1 u→Calls Tryz.prog 28 #[.agg #[.int .i64 y.k,.string y.t,.int .i64 vkq,.int .i64 vnq,.string vsq,.slice alq llq clq,.slice akq lkq ckq,.bool y.f,.slice aq nq ccq,.int .i64 y.p]] u fun e u'=>e=.returned (.string (bA (exT y)))∧Below u.heap.size u u'):=hZ (fun u hu=>(uZ HE) y (List.mem_of_getElem? (uZ Hy)) _ u ((uZ HM) u hu).2.2.1 (uZ HKq u hu).2)
 obtain⟨T,hT⟩:∃S,bA (exT y)=S:=⟨_,rfl⟩
 rw [hT] at CT
 have dT:T.data.toList=exT y:=by rw [←hT,bA_data]
 have sT:T.size≤10000000000:=by
    have e:T.size=(exT y).length:=by rw [←hT,bA_size]
    have e3:=(uZ HLn) _ (List.mem_of_getElem? (uZ Hy))
    omega
 clear hT
 have CN:=hZ (isNameD_any t w1)
 obtain⟨q,hq⟩:∃q,nameL t.data.toList=q:=⟨_,rfl⟩
 rw [hq] at CN
 have HQ:=hZ hq
 clear hq
 go_wp2_with fail
 refine(uZ CN).mono ?_
 rintro e w2 ⟨rfl,bb⟩
 have HS2:=hZ bb
 clear bb CN x0 x1 x2 x3 x4 x5 x6 x7 x8 x9
 cases q with
 |true=>
  have hzA:¬9223372036854775807<t.size+2:=by omega
  obtain⟨A,eA⟩:∃z,(t++⟨#[58,32]⟩:ByteArray)=z:=⟨_,rfl⟩
  have dA:A.data.toList=t.data.toList++[58,32]:=by rw [←eA,ByteArray.data_append,Array.toList_append] <;> (rfl)
  have sA:A.size≤t.size+2:=by rw [←eA,ByteArray.size_append];exact Nat.le_refl _
  have hzB:¬9223372036854775807<A.size+T.size:=by omega
  obtain⟨B,eB⟩:∃z,(A++T:ByteArray)=z:=⟨_,rfl⟩
  have dB:B.data.toList=t.data.toList++[58,32]++exT y:=by rw [←eB,ByteArray.data_append,Array.toList_append] <;> (rw [dA,dT])
  have sB:B.size≤A.size+T.size:=by rw [←eB,ByteArray.size_append];exact Nat.le_refl _
  have HV:=hZ (show R=.string B by rw [←uZ HR];exact congrArg Value.string (bA_eq B _ (by rw [dB];unfold ex1;rw [if_neg (by decide),if_neg (by decide),if_neg (by decide),if_neg (by decide),if_neg (by decide),if_neg (by decide),if_neg (by decide),if_neg (by decide),if_pos rfl,uZ HQ,exM_at ks 0 y (uZ Hy)];simp)).symm)
  clear HR
  clear dA dB dT
  go_upto_region 15 with fail
  have HD0:Hid (Below w2.heap.size w2 w2.drew):=hZ ((Below.refl _ _).drew)
  refine till_begin (S:=fun w'=>Below w2.heap.size w2 w') 9 (by kernel_rfl) ?_
  obtain⟨W0,hW0⟩:∃W0,w2.drew=W0:=⟨_,rfl⟩
  try rw [hW0]
  rw [hW0] at HD0
  clear hW0
  refine tK 0 (v:=.pointer (some ⟨G,1,none⟩)) (some 42) rfl rfl rfl (by kernel_rfl) (fun _ _ _ h=>h) (Or.inl ⟨by rfl,fun u hu=>by obtain⟨x0,x1,x2,x3,x4,x5,x6,x7,x8,x9⟩:=uZ HF u ((uZ HS2).trans (Below.mono hu (uZ HS2).size));obtain⟨y0,y1,y2,y3,y4,y5,y6,y7,y8,y9⟩:=(uZ HKq u ((uZ HS2).trans (Below.mono hu (uZ HS2).size))).1;go_simp⟩) (uZ HD0) ?_
  try simp only [Act.put,sA,sB,sC]
  refine tK 1 (v:=.string t) (some 43) rfl rfl rfl (by kernel_rfl) (fun _ _ _ h=>h) (Or.inl ⟨by rfl,fun u hu=>by obtain⟨x0,x1,x2,x3,x4,x5,x6,x7,x8,x9⟩:=uZ HF u ((uZ HS2).trans (Below.mono hu (uZ HS2).size));obtain⟨y0,y1,y2,y3,y4,y5,y6,y7,y8,y9⟩:=(uZ HKq u ((uZ HS2).trans (Below.mono hu (uZ HS2).size))).1;go_simp⟩) (uZ HD0) ?_
  try simp only [Act.put,sA,sB,sC]
  refine tK 2 (v:=.string A) (some 44) rfl rfl rfl (by kernel_rfl) (fun _ _ _ h=>h) (Or.inl ⟨by rfl,fun u hu=>by obtain⟨x0,x1,x2,x3,x4,x5,x6,x7,x8,x9⟩:=uZ HF u ((uZ HS2).trans (Below.mono hu (uZ HS2).size));obtain⟨y0,y1,y2,y3,y4,y5,y6,y7,y8,y9⟩:=(uZ HKq u ((uZ HS2).trans (Below.mono hu (uZ HS2).size))).1;go_simp⟩) (uZ HD0) ?_
  try simp only [Act.put,sA,sB,sC]
  refine tK 3 (v:=.pointer (some ⟨G,8,none⟩)) (some 45) rfl rfl rfl (by kernel_rfl) (fun _ _ _ h=>h) (Or.inl ⟨by rfl,fun u hu=>by obtain⟨x0,x1,x2,x3,x4,x5,x6,x7,x8,x9⟩:=uZ HF u ((uZ HS2).trans (Below.mono hu (uZ HS2).size));obtain⟨y0,y1,y2,y3,y4,y5,y6,y7,y8,y9⟩:=(uZ HKq u ((uZ HS2).trans (Below.mono hu (uZ HS2).size))).1;go_simp⟩) (uZ HD0) ?_
  try simp only [Act.put,sA,sB,sC]
  refine tK 4 (v:=.slice (some b) n cc) (some 46) rfl rfl rfl (by kernel_rfl) (fun _ _ _ h=>h) (Or.inl ⟨by rfl,fun u hu=>by obtain⟨x0,x1,x2,x3,x4,x5,x6,x7,x8,x9⟩:=uZ HF u ((uZ HS2).trans (Below.mono hu (uZ HS2).size));obtain⟨y0,y1,y2,y3,y4,y5,y6,y7,y8,y9⟩:=(uZ HKq u ((uZ HS2).trans (Below.mono hu (uZ HS2).size))).1;go_simp⟩) (uZ HD0) ?_
  try simp only [Act.put,sA,sB,sC]
  refine tK 5 (v:=.pointer (some b)) (some 47) rfl rfl rfl (by kernel_rfl) (fun _ _ _ h=>h) (Or.inl ⟨by rfl,fun u hu=>by obtain⟨x0,x1,x2,x3,x4,x5,x6,x7,x8,x9⟩:=uZ HF u ((uZ HS2).trans (Below.mono hu (uZ HS2).size));obtain⟨y0,y1,y2,y3,y4,y5,y6,y7,y8,y9⟩:=(uZ HKq u ((uZ HS2).trans (Below.mono hu (uZ HS2).size))).1;go_simp⟩) (uZ HD0) ?_
  try simp only [Act.put,sA,sB,sC]
  refine tK 6 (v:=.agg #[.int .i64 y.k,.string y.t,.int .i64 vkq,.int .i64 vnq,.string vsq,.slice alq llq clq,.slice akq lkq ckq,.bool y.f,.slice aq nq ccq,.int .i64 y.p]) (some 48) rfl rfl rfl (by kernel_rfl) (fun _ _ _ h=>h) (Or.inl ⟨by rfl,fun u hu=>by obtain⟨x0,x1,x2,x3,x4,x5,x6,x7,x8,x9⟩:=uZ HF u ((uZ HS2).trans (Below.mono hu (uZ HS2).size));obtain⟨y0,y1,y2,y3,y4,y5,y6,y7,y8,y9⟩:=(uZ HKq u ((uZ HS2).trans (Below.mono hu (uZ HS2).size))).1;go_simp⟩) (uZ HD0) ?_
  try simp only [Act.put,sA,sB,sC]
  refine till_one 7 (by kernel_rfl) rfl (fun K hK=>?_)
  go_simp
  refine((uZ CT) W0 ((uZ HS2).trans (Below.mono (uZ HD0) (uZ HS2).size))).mono ?_
  rintro e W1 ⟨rfl,bb⟩
  have HD1:=hZ ((uZ HD0).trans (bb.mono (uZ HD0).size))
  clear bb
  go_wp2_with fail
  refine hK.out _ _ (Or.inr (uZ HD1)) ?_
  clear hK K HD0
  try simp only [Act.put,sA,sB,sC]
  refine till_one 8 (by kernel_rfl) rfl (fun K hK=>?_)
  go_simp
  refine hK.out _ _ (Or.inr (uZ HD1)) ?_
  clear hK K
  try simp only [Act.put,sA,sB,sC]
  refine till_one 9 (by kernel_rfl) rfl (fun K hK=>?_)
  go_simp
  refine hK.out _ _ (Or.inl (by first|rfl|trivial)) ?_
  clear hK K
  try simp only [Act.put,sA,sB,sC]
  refine till_done (by kernel_rfl) ?_ _
  have HD9:=hZ ((uZ HS2).trans ((uZ HD1).mono (uZ HS2).size))
  go_wp2_with fail
  go_ret
  have hbz:=((uZ HM) W1 (uZ HD9)).2.2.2.2
  exact⟨by rw [uZ HV] <;> rfl,by subst hG;exact hbz⟩
 |false=>
  have CQ:Hid (∀u:World,Calls Tryz.prog 55 #[.string t] u fun e u'=>e=.returned (.string (bA (quoB t.data.toList)))∧Below u.heap.size u u'):=hZ (fun u=>quoteD_any t (by omega) u)
  obtain⟨S,hS⟩:∃S,bA (quoB t.data.toList)=S:=⟨_,rfl⟩
  rw [hS] at CQ
  have dS:S.data.toList=quoB t.data.toList:=by rw [←hS,bA_data]
  have sS:S.size≤10000:=by
     have e:S.size=(quoB t.data.toList).length:=by rw [←hS,bA_size]
     have e2:=quoB_len t.data.toList
     have e3:t.data.toList.length=t.size:=rfl
     omega
  clear hS
  have hzA:¬9223372036854775807<S.size+2:=by omega
  obtain⟨A,eA⟩:∃z,(S++⟨#[58,32]⟩:ByteArray)=z:=⟨_,rfl⟩
  have dA:A.data.toList=quoB t.data.toList++[58,32]:=by rw [←eA,ByteArray.data_append,Array.toList_append] <;> (rw [dS] <;> rfl)
  have sA:A.size≤S.size+2:=by rw [←eA,ByteArray.size_append];exact Nat.le_refl _
  have hzB:¬9223372036854775807<A.size+T.size:=by omega
  obtain⟨B,eB⟩:∃z,(A++T:ByteArray)=z:=⟨_,rfl⟩
  have dB:B.data.toList=quoB t.data.toList++[58,32]++exT y:=by rw [←eB,ByteArray.data_append,Array.toList_append] <;> (rw [dA,dT])
  have sB:B.size≤A.size+T.size:=by rw [←eB,ByteArray.size_append];exact Nat.le_refl _
  have HV:=hZ (show R=.string B by rw [←uZ HR];exact congrArg Value.string (bA_eq B _ (by rw [dB];unfold ex1;rw [if_neg (by decide),if_neg (by decide),if_neg (by decide),if_neg (by decide),if_neg (by decide),if_neg (by decide),if_neg (by decide),if_neg (by decide),if_pos rfl,uZ HQ,exM_at ks 0 y (uZ Hy)];simp)).symm)
  clear HR
  clear dA dB dT dS
  go_upto_region 16 with fail
  have HD0:Hid (Below w2.heap.size w2 w2.drew):=hZ ((Below.refl _ _).drew)
  refine till_begin (S:=fun w'=>Below w2.heap.size w2 w') 10 (by kernel_rfl) ?_
  obtain⟨W0,hW0⟩:∃W0,w2.drew=W0:=⟨_,rfl⟩
  try rw [hW0]
  rw [hW0] at HD0
  clear hW0
  refine tK 0 (v:=.pointer (some ⟨G,1,none⟩)) (some 51) rfl rfl rfl (by kernel_rfl) (fun _ _ _ h=>h) (Or.inl ⟨by rfl,fun u hu=>by obtain⟨x0,x1,x2,x3,x4,x5,x6,x7,x8,x9⟩:=uZ HF u ((uZ HS2).trans (Below.mono hu (uZ HS2).size));obtain⟨y0,y1,y2,y3,y4,y5,y6,y7,y8,y9⟩:=(uZ HKq u ((uZ HS2).trans (Below.mono hu (uZ HS2).size))).1;go_simp⟩) (uZ HD0) ?_
  try simp only [Act.put,sA,sB,sC]
  refine tK 1 (v:=.string t) (some 52) rfl rfl rfl (by kernel_rfl) (fun _ _ _ h=>h) (Or.inl ⟨by rfl,fun u hu=>by obtain⟨x0,x1,x2,x3,x4,x5,x6,x7,x8,x9⟩:=uZ HF u ((uZ HS2).trans (Below.mono hu (uZ HS2).size));obtain⟨y0,y1,y2,y3,y4,y5,y6,y7,y8,y9⟩:=(uZ HKq u ((uZ HS2).trans (Below.mono hu (uZ HS2).size))).1;go_simp⟩) (uZ HD0) ?_
  try simp only [Act.put,sA,sB,sC]
  refine tK 4 (v:=.pointer (some ⟨G,8,none⟩)) (some 55) rfl rfl rfl (by kernel_rfl) (fun _ _ _ h=>h) (Or.inl ⟨by rfl,fun u hu=>by obtain⟨x0,x1,x2,x3,x4,x5,x6,x7,x8,x9⟩:=uZ HF u ((uZ HS2).trans (Below.mono hu (uZ HS2).size));obtain⟨y0,y1,y2,y3,y4,y5,y6,y7,y8,y9⟩:=(uZ HKq u ((uZ HS2).trans (Below.mono hu (uZ HS2).size))).1;go_simp⟩) (uZ HD0) ?_
  try simp only [Act.put,sA,sB,sC]
  refine tK 5 (v:=.slice (some b) n cc) (some 56) rfl rfl rfl (by kernel_rfl) (fun _ _ _ h=>h) (Or.inl ⟨by rfl,fun u hu=>by obtain⟨x0,x1,x2,x3,x4,x5,x6,x7,x8,x9⟩:=uZ HF u ((uZ HS2).trans (Below.mono hu (uZ HS2).size));obtain⟨y0,y1,y2,y3,y4,y5,y6,y7,y8,y9⟩:=(uZ HKq u ((uZ HS2).trans (Below.mono hu (uZ HS2).size))).1;go_simp⟩) (uZ HD0) ?_
  try simp only [Act.put,sA,sB,sC]
  refine tK 6 (v:=.pointer (some b)) (some 57) rfl rfl rfl (by kernel_rfl) (fun _ _ _ h=>h) (Or.inl ⟨by rfl,fun u hu=>by obtain⟨x0,x1,x2,x3,x4,x5,x6,x7,x8,x9⟩:=uZ HF u ((uZ HS2).trans (Below.mono hu (uZ HS2).size));obtain⟨y0,y1,y2,y3,y4,y5,y6,y7,y8,y9⟩:=(uZ HKq u ((uZ HS2).trans (Below.mono hu (uZ HS2).size))).1;go_simp⟩) (uZ HD0) ?_
  try simp only [Act.put,sA,sB,sC]
  refine tK 7 (v:=.agg #[.int .i64 y.k,.string y.t,.int .i64 vkq,.int .i64 vnq,.string vsq,.slice alq llq clq,.slice akq lkq ckq,.bool y.f,.slice aq nq ccq,.int .i64 y.p]) (some 58) rfl rfl rfl (by kernel_rfl) (fun _ _ _ h=>h) (Or.inl ⟨by rfl,fun u hu=>by obtain⟨x0,x1,x2,x3,x4,x5,x6,x7,x8,x9⟩:=uZ HF u ((uZ HS2).trans (Below.mono hu (uZ HS2).size));obtain⟨y0,y1,y2,y3,y4,y5,y6,y7,y8,y9⟩:=(uZ HKq u ((uZ HS2).trans (Below.mono hu (uZ HS2).size))).1;go_simp⟩) (uZ HD0) ?_
  try simp only [Act.put,sA,sB,sC]
  refine till_one 2 (by kernel_rfl) rfl (fun K hK=>?_)
  go_simp
  refine((uZ CQ) W0).mono ?_
  rintro e W1 ⟨rfl,bb⟩
  have HD1:=hZ ((uZ HD0).trans (bb.mono (uZ HD0).size))
  clear bb
  go_wp2_with fail
  refine hK.out _ _ (Or.inr (uZ HD1)) ?_
  clear hK K HD0
  try simp only [Act.put,sA,sB,sC]
  refine tK 3 (v:=.string A) (some 54) rfl rfl rfl (by kernel_rfl) (fun _ _ _ h=>h) (Or.inl ⟨by rfl,fun u hu=>by obtain⟨x0,x1,x2,x3,x4,x5,x6,x7,x8,x9⟩:=uZ HF u ((uZ HS2).trans (Below.mono hu (uZ HS2).size));obtain⟨y0,y1,y2,y3,y4,y5,y6,y7,y8,y9⟩:=(uZ HKq u ((uZ HS2).trans (Below.mono hu (uZ HS2).size))).1;go_simp⟩) (uZ HD1) ?_
  try simp only [Act.put,sA,sB,sC]
  refine till_one 8 (by kernel_rfl) rfl (fun K hK=>?_)
  go_simp
  refine((uZ CT) W1 ((uZ HS2).trans (Below.mono (uZ HD1) (uZ HS2).size))).mono ?_
  rintro e W2 ⟨rfl,bb⟩
  have HD2:=hZ ((uZ HD1).trans (bb.mono (uZ HD1).size))
  clear bb
  go_wp2_with fail
  refine hK.out _ _ (Or.inr (uZ HD2)) ?_
  clear hK K HD1
  try simp only [Act.put,sA,sB,sC]
  refine till_one 9 (by kernel_rfl) rfl (fun K hK=>?_)
  go_simp
  refine hK.out _ _ (Or.inr (uZ HD2)) ?_
  clear hK K
  try simp only [Act.put,sA,sB,sC]
  refine till_one 10 (by kernel_rfl) rfl (fun K hK=>?_)
  go_simp
  refine hK.out _ _ (Or.inl (by first|rfl|trivial)) ?_
  clear hK K
  try simp only [Act.put,sA,sB,sC]
  refine till_done (by kernel_rfl) ?_ _
  have HD9:=hZ ((uZ HS2).trans ((uZ HD2).mono (uZ HS2).size))
  go_wp2_with fail
  go_ret
  have hbz:=((uZ HM) W2 (uZ HD9)).2.2.2.2
  exact⟨by rw [uZ HV] <;> rfl,by subst hG;exact hbz⟩
end Go.Proofs.YtlkeaaopdnnceaaGreatDoor
