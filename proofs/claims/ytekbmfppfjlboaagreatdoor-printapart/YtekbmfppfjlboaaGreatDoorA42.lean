/-
  Layer 18 (print): how long the texts of formed trees are; conditions: the nodes lie in memory.
  Layer 18 (print): a program is written; conditions besides: the table of strconv; conditions: the nodes lie in memory.
-/
import Derived.Test.YtekbmfppfjlboaaGreatDoorA40
import Derived.Test.YtekbmfppfjlboaaGreatDoorA41
import Derived.Test.YtekbmfppfjlboaaGreatDoorA32
import Derived.Test.YtekbmfppfjlboaaGreatDoorShl
set_option linter.unusedVariables false
set_option linter.unusedSimpArgs false
namespace Go.Proofs.YtekbmfppfjlboaaGreatDoor
open Go.RowKit
set_option linter.unusedVariables false
set_option linter.unusedSimpArgs false
theorem cns_two (z:Tn) (r:List Tn):cns (z :: r)=cns [z]+cns r:=by
 obtain⟨k,t,v,f,ks,p⟩:=z
 simp only [cns]
 omega
theorem lit_len {w:World} {B:Nat} {v:Vl} {x:Value} (hv:IsV w B v x) (h:vlB 13 v=true):(prt v).length≤66000:=by
 unfold prt
 by_cases hr:rightB v=true
 ·rw [if_pos hr]
  obtain⟨h1,h2⟩:=right_ok hr
  obtain⟨k,n,s,l,ks,al,ak,cl,ck,rfl,rfl⟩:=hv.shape
  have hbd:(-9223372036854775808≤n∧n≤9223372036854775807):=by
   obtain⟨_,_,_,_,_,V,hf,_⟩:=IsP.at hv
   exact hf.bn
  simp only [wt] at h2
  unfold vlB at h
  rw [if_pos rfl] at h
  simp only [txt,oneT]
  by_cases k0:k=0
  ·rw [if_pos k0];decide
  rw [if_neg k0]
  by_cases k1:k=1
  ·rw [if_pos k1];split <;> decide
  rw [if_neg k1]
  by_cases k2:k=2
  ·rw [if_pos k2];have:=itoa_len n hbd.1 hbd.2;omega
  rw [if_neg k2]
  by_cases k3:k=3
  ·rw [if_pos k3];have:=quoteU_len s;omega
  ·exfalso
   simp [k0,k1,k2,k3] at h
 ·rw [if_neg hr]
  exact Nat.zero_le _
theorem tx_len {k:Int} {t:ByteArray} (h:txB k t=true):t.data.toList.length≤32:=by
 have e:t.toList=t.data.toList:=ByteArray.toList_eq t
 unfold txB at h
 split at h
 ·unfold nameL at h
  simp only [Bool.and_eq_true,decide_eq_true_eq] at h
  omega
 ·split at h
  ·rw [e] at h
   simp only [Bool.or_eq_true,decide_eq_true_eq] at h
   rcases h with h|h <;> rw [h] <;> decide
  ·split at h
   ·rw [e] at h
    have hb:0<bnS t.data.toList:=by simpa using h
    unfold bnS at hb
    split at hb
    ·rename_i q;rw [q];decide
    ·split at hb
     ·rename_i q;rw [q];decide
     ·split at hb
      ·rename_i q;rcases q with q|q|q|q|q|q <;> rw [q] <;> decide
      ·split at hb
       ·rename_i q;rcases q with q|q <;> rw [q] <;> decide
       ·split at hb
        ·rename_i q;rcases q with q|q|q <;> rw [q] <;> decide
        ·omega
   ·split at h
    ·have:t.size≤32:=by simpa using h
     exact this
    ·rw [e] at h
     have:t.data.toList=[]:=by simpa using h
     rw [this];decide
theorem jl_sum (s:List UInt8) (T:Tn→List UInt8) (M:Nat):∀(ks:List Tn) (b:Bool),(∀z∈ks,(T z).length+s.length≤M * cns [z])→(jl s b (ks.map T)).length≤M * cns ks
 |[],b,_=>by simp [jl]
 |z :: r,b,h=>by
  have h1:=h z (List.mem_cons_self ..)
  have h2:=jl_sum s T M r false (fun y hy=>h y (List.mem_cons_of_mem _ hy))
  rw [cns_two,Nat.mul_add,List.map_cons]
  simp only [jl,List.length_append]
  split
  ·omega
  ·rw [List.length_append];omega
theorem opX_len (k:Int) (t:ByteArray) (ks:List Tn) (i:Nat):(opX k t ks (exM ks) i).length≤2+(((exM ks)[i]?).getD []).length:=by
 unfold opX
 split <;> (try split) <;> simp [List.length_append] <;> omega
theorem ex_at_len {ks:List Tn} {M:Nat} (h:∀z∈ks,(exT z).length+10≤M * cns [z]) (i:Nat):(((exM ks)[i]?).getD []).length≤M * cns ks:=by
 rw [exM_map]
 cases hi:ks[i]? with
 |none=>rw [List.getElem?_map,hi];simp
 |some z=>
  rw [List.getElem?_map,hi]
  have h1:=h z (List.mem_of_getElem? hi)
  have h2:=cns_mem ks z (List.mem_of_getElem? hi)
  have h3:=Nat.mul_le_mul_left M h2
  show (exT z).length≤_
  omega
theorem quoB_len (l:List UInt8):(quoB l).length≤2+4 * l.length:=by
 unfold quoB
 have:=flatB_len l
 rw [List.length_append,List.length_cons,List.length_singleton]
 omega
def isP (k:Int):Bool:=isEx k ||decide (k=20)
theorem ex_len (w:World) (B0:Nat):∀(N:Nat) (y:Tn) (x:List Value),cns [y]≤N→IsN w (fun b=>b<B0) y x→fmB y=true→isP y.k=true→(exT y).length+10≤70000 * cns [y]
 |0,y,x,hN,_,_,_=>by rw [cns_one] at hN;omega
 |N+1,y,x,hN,hx,hf,he=>by
  obtain⟨h1,h2⟩:=fm_kids hf
  obtain⟨ht,hv,hd⟩:=rw_kd h1
  obtain⟨vk,vn,vs,al,ak,a,ll,cl,lk,ck,cc,rfl,hvv,hr,-,-⟩:=hx.opn
  obtain⟨k,t,v,f,ks,p⟩:=y
  simp only at hvv hr h2 ht hd he hv ⊢
  rw [cns_one] at hN ⊢
  simp only at hN ⊢
  have hsub:∀z∈ks,isP z.k=true→(exT z).length+10≤70000 * cns [z]:=fun z hz hz2=>by
   obtain⟨i,hi⟩:=List.getElem?_of_mem hz
   obtain⟨b,zz,rfl,_,hzz,_⟩:=hr.at hi
   exact ex_len w B0 N z zz (by have:=cns_mem ks z hz;omega) hzz (h2 z hz) hz2
  have hk:k=13∨k=14∨k=15∨k=16∨k=17∨k=18∨k=19∨k=20∨k=21∨k=22:=by
   have:k=13∨k=14∨k=15∨k=16∨k=17∨k=18∨k=19∨k=21∨k=22∨k=20:=by simpa [isP,isEx,or_assoc] using he
   omega
  have htl:=tx_len ht
  have hex:∀z:Tn,isEx z.k=true→isP z.k=true:=fun z h=>by simp [isP,h]
  have hall:(ks.map (·.k)).all isEx=true→∀z∈ks,(exT z).length+10≤70000 * cns [z]:=fun h z hz=>hsub z hz (hex z (all_ex h z hz))
  have hone:ks.length=1∧isEx (((ks.map (·.k))[0]?).getD 0)=true→∀z∈ks,(exT z).length+10≤70000 * cns [z]:=fun h z hz=>by
   obtain⟨z0,rfl⟩:=List.length_eq_one_iff.1 h.1
   obtain rfl:z=z0:=by simpa using hz
   exact hsub z hz (hex z (by simpa using h.2))
  have hjl:(∀z∈ks,(exT z).length+10≤70000 * cns [z])→(jl [44,32] true (exM ks)).length≤70000 * cns ks:=fun h=>by
   rw [exM_map]
   exact jl_sum [44,32] exT 70000 ks true (fun z hz=>by have:=h z hz;simp;omega)
  have htwo:ks.length=2→(∀z∈ks,(exT z).length+10≤70000 * cns [z])→(((exM ks)[0]?).getD []).length+(((exM ks)[1]?).getD []).length+20≤70000 * cns ks:=fun h2 h=>by
   obtain⟨z0,z1,rfl⟩:∃z0 z1,ks=[z0,z1]:=by
    match ks,h2 with
    |[a,b],_=>exact⟨a,b,rfl⟩
   rw [exM_map,cns_two]
   have e1:=h z0 (by simp)
   have e2:=h z1 (by simp)
   simp only [List.map_cons,List.map_nil,List.getElem?_cons_zero,List.getElem?_cons_succ,Option.getD_some]
   omega
  have o0:=opX_len k t ks 0
  have o1:=opX_len k t ks 1
  have hA:∀(c:Nat),70000 * (1+c+cns ks)=70000+70000 * c+70000 * cns ks:=fun c=>by rw [Nat.mul_add,Nat.mul_add]
  rw [hA]
  rcases hk with rfl|rfl|rfl|rfl|rfl|rfl|rfl|rfl|rfl|rfl
  ·have:=lit_len hvv hv
   simp only [exT,ex1,if_true]
   omega
  ·simp [exT,ex1]
   simp at htl
   omega
  ·rw [kd_ex (by omega)] at hd
   have:=hjl (hall hd)
   simp [exT,ex1]
   simp at htl
   omega
  ·rw [kd_one (by omega)] at hd
   simp only [Bool.and_eq_true,decide_eq_true_eq,List.length_map] at hd
   have:=ex_at_len (hone hd) 0
   simp [exT,ex1]
   simp at htl
   omega
  ·rw [kd_two (by omega)] at hd
   simp only [Bool.and_eq_true,decide_eq_true_eq,List.length_map] at hd
   have:=htwo hd.1 (hall hd.2)
   simp [exT,ex1]
   simp at htl
   omega
  ·rw [kd_ex (by omega)] at hd
   have:=hjl (hall hd)
   simp [exT,ex1]
   omega
  ·have e:kdB 19 (ks.map (·.k))=(ks.map (·.k)).all (fun x=>decide (x=20)):=by simp [kdB]
   rw [e,all_k,List.all_eq_true] at hd
   have:=hjl (fun z hz=>hsub z hz (by have:=hd z hz;simp only [decide_eq_true_eq] at this;simp [isP,this]))
   simp [exT,ex1]
   omega
  ·rw [kd_one (by omega)] at hd
   simp only [Bool.and_eq_true,decide_eq_true_eq,List.length_map] at hd
   have:=ex_at_len (hone hd) 0
   have hq:=quoB_len t.data.toList
   simp only [exT,ex1]
   rw [if_neg (by decide),if_neg (by decide),if_neg (by decide),if_neg (by decide),if_neg (by decide),if_neg (by decide),if_neg (by decide),if_neg (by decide),if_pos trivial]
   rw [List.length_append,List.length_cons,List.length_cons]
   split <;> omega
  ·rw [kd_two (by omega)] at hd
   simp only [Bool.and_eq_true,decide_eq_true_eq,List.length_map] at hd
   have:=htwo hd.1 (hall hd.2)
   simp [exT,ex1]
   omega
  ·rw [kd_one (by omega)] at hd
   simp only [Bool.and_eq_true,decide_eq_true_eq,List.length_map] at hd
   have:=ex_at_len (hone hd) 0
   simp [exT,ex1]
   simp at htl
   omega
theorem TbC_all:TbC:=fun c w hc=>by
 have h:=Tryz.strings_Repeat ⟨#[9]⟩ c w (by omega) (by show 1 * c≤_;omega)
 refine h.mono ?_
 rintro e w2 ⟨rfl,b⟩
 refine⟨_,rfl,?_,b⟩
 have:∀n,Lib.repeatL ([9]:List UInt8) n=List.replicate n 9:=by
  intro n
  induction n with
  |zero=>rfl
  |succ n ih=>rw [List.replicate_succ,←ih];rfl
 show (Lib.repeatL [9] c).toArray.toList=_
 rw [List.toList_toArray,this]
def FnC (B0:Nat) (y:Tn):Prop:=∀(x:List Value) (u:World),B0≤u.heap.size→0<B0→PowAt u→IsN u (fun b=>b<B0) y x→Calls Tryz.prog 37 #[.agg x.toArray] u fun e u'=>∃t,e=.returned t∧Txt B0 u' t (fnT y)∧Below u.heap.size u u'
theorem put_fn {B0:Nat} {w:World} {ks:List Tn} (hG0:0<B0) (hE:∀y∈ks,FnC B0 y) (hP:PowAt w):Put B0 w (.func (.func 37) #[] #[]) ks fnT:=
 ⟨_,_,rfl,call_function,fun u y x hk hu hy hx=>hE y hy x u hu hG0 (hP.kp hk hG0) hx⟩
theorem fn_all (B0:Nat) (y:Tn) (hk:y.k=2) (hf:fmB y=true) (hc:cns [y]≤100000):FnC B0 y:=by
 intro x u hu hG0 hP hx
 obtain⟨h1,h2⟩:=fm_kids hf
 obtain⟨ht,hv,hd⟩:=rw_kd h1
 rw [hk,kd_fn] at hd
 simp only [Bool.and_eq_true,decide_eq_true_eq,List.length_map] at hd
 obtain⟨⟨hd1,hd2⟩,hd3⟩:=hd
 refine function_any B0 y x u hu hx hG0 hP ?_ (by omega) (fun z hz=>?_)
 ·have:=tx_len ht
  have e:y.t.data.toList.length=y.t.size:=rfl
  omega
 ·have hm:=List.mem_of_getElem? hz
  have hz4:z.k=4:=by rw [List.getElem?_map,hz] at hd3;simpa using hd3
  have hcz:=cns_mem y.ks z hm
  rw [cns_one] at hc
  exact((st_all TbC_all _ B0 z 1 (Nat.le_refl _) (by omega) (by omega) (h2 z hm)).2.1 hz4)
set_option maxRecDepth 100000 in
set_option maxHeartbeats 2000000 in
theorem program_text (B0:Nat) (y:Tn) (x:List Value) (w:World) (hB:B0≤w.heap.size) (hx:IsN w (fun b=>b<B0) y x) (hG0:0<B0) (hP:PowAt w) (hF:∀z∈y.ks,FnC B0 z) :
  Calls Tryz.prog 20 #[.agg x.toArray] w fun e w'=>∃t',e=.returned t'∧Txt B0 w' t' (pgT y)∧Below w.heap.size w w':=by
 have hx0:=hx
 obtain⟨vk,vn,vs,al,ak,a,ll,cl,lk,ck,cc,rfl,hvv,hr,hbk,hbp⟩:=hx.opn
 obtain⟨k,t,v,f,ks,p⟩:=y
 obtain⟨n,hn⟩:∃n,ks.length=n:=⟨_,rfl⟩
 have hnb:n≤140737488351232:=by rw [←hn];exact hr.len
 simp only at hF
 simp only [hn] at hx0 hvv hr hbk hbp ⊢
 obtain⟨w1,hw1⟩:∃w1,w.alloc (.cells #[.int .i64 k,.string t,.int .i64 vk,.int .i64 vn,.string vs,.slice al ll cl,.slice ak lk ck,.bool f,.slice a n cc,.int .i64 p] 28)=w1:=⟨_,rfl⟩
 obtain⟨G,hG⟩:∃G,w.heap.size=G:=⟨_,rfl⟩
 have A1:w1.heap[G]?=some (.cells #[.int .i64 k,.string t,.int .i64 vk,.int .i64 vn,.string vs,.slice al ll cl,.slice ak lk ck,.bool f,.slice a n cc,.int .i64 p] 28 (0,0)):=by rw [←hw1,←hG];exact heap_alloc_new _ _
 have X1:Below G w w1:=by rw [←hw1,←hG];exact(Below.refl _ _).alloc (Nat.le_refl _) _
 have hBG:B0≤G:=by rw [←hG];exact hB
 have HM:Hid (∀u,Below w1.heap.size w1 u→IsN u (fun b=>b<B0) ⟨k,t,v,f,ks,p⟩ [.int .i64 k,.string t,.int .i64 vk,.int .i64 vn,.string vs,.slice al ll cl,.slice ak lk ck,.bool f,.slice a n cc,.int .i64 p]∧RowN u B0 ks a cc∧B0≤u.heap.size∧IsV u B0 v (.agg #[.int .i64 vk,.int .i64 vn,.string vs,.slice al ll cl,.slice ak lk ck])∧Below G w u):=hide (fun u hu=>by
  have h2:=X1.trans (hu.mono (Nat.le_of_lt (lt_of_row A1)))
  exact⟨hx0.laterB (h2.mono hBG),hr.later (h2.mono hBG),Nat.le_trans hBG (by rw [←hG];exact h2.size),hvv.mono (h2.mono hBG),h2⟩)
 have HF:Hid (∀u,Below w1.heap.size w1 u→u.cell? ⟨G,0,none⟩=some (.int .i64 k)∧u.cell? ⟨G,1,none⟩=some (.string t)∧u.cell? ⟨G,2,none⟩=some (.int .i64 vk)∧u.cell? ⟨G,3,none⟩=some (.int .i64 vn)∧u.cell? ⟨G,4,none⟩=some (.string vs)∧u.cell? ⟨G,5,none⟩=some (.slice al ll cl)∧u.cell? ⟨G,6,none⟩=some (.slice ak lk ck)∧u.cell? ⟨G,7,none⟩=some (.bool f)∧u.cell? ⟨G,8,none⟩=some (.slice a n cc)∧u.cell? ⟨G,9,none⟩=some (.int .i64 p)):=hide (fun u hu=>row_ten (Below.cellsAt hu A1))
 have HN:=hide hn
 have HS0:Hid (Below w1.heap.size w1 w1):=hide (Below.refl _ _)
 have HW:=hide hw1
 have HPW:Hid (∀u,Below w1.heap.size w1 u→PowAt u):=hide (fun u hu=>hP.later (X1.trans (hu.mono (Nat.le_of_lt (lt_of_row A1)))) (by omega))
 have HFn:=hide hF
 have HG0:=hide hG0
 obtain⟨Z,hZ⟩:∃Z,pgT ⟨k,t,v,f,ks,p⟩=Z:=⟨_,rfl⟩
 rw [hZ]
 have HZ:Hid (Z=jl [10] true (ks.map fnT)):=hide hZ.symm
 clear hZ hP hG0 hF
 clear A1 X1 hw1 hx hx0 hr hvv hB hBG hn
 go_enter Tryz.func20,Tryz.ntmps20
 go_upto_region 1 with fail
 rw [unhide HW]
 try rw [hG]
 clear HW
 obtain⟨x0,x1,x2,x3,x4,x5,x6,x7,x8,x9⟩:=unhide HF w1 (Below.refl _ _)
 have CL:=hide (listed_any B0 a n cc ⟨#[10]⟩ (.func (.func 37) #[] #[]) ks fnT w1 ((unhide HM) w1 (unhide HS0)).2.2.1 ((unhide HM) w1 (unhide HS0)).2.1 (unhide HN) (put_fn (unhide HG0) (unhide HFn) ((unhide HPW) w1 (unhide HS0))))
 go_wp2_with fail
 refine(unhide CL).mono ?_
 rintro e w3 ⟨t2,rfl,h,bb⟩
 have h0:=h
 obtain⟨F2,p2,rfl,-,-⟩:=h0
 have HX3:=hide ((unhide HS0).trans (bb.mono (unhide HS0).size))
 have HTp:=hide h
 clear bb h CL x0 x1 x2 x3 x4 x5 x6 x7 x8 x9
 go_wp2_with fail
 go_ret
 have hbz:=((unhide HM) w3 (unhide HX3)).2.2.2.2
 exact⟨_,rfl,by rw [unhide HZ];exact unhide HTp,by first|exact hbz|(rw [hG];exact hbz)⟩
set_option maxRecDepth 100000 in
set_option maxHeartbeats 2000000 in
theorem pprog_ok (B0:Nat) (y:Tn) (x:List Value) (w:World) (hB:B0≤w.heap.size) (hx:IsN w (fun b=>b<B0) y x) (hk:y.k=1) (hr:rgB y=true) (hG0:0<B0) (hP:PowAt w) (hl:(pgT y).length≤140737488355328) :
  Calls Tryz.prog 7 #[.agg x.toArray] w fun e w'=>e=.returned (.tuple #[.string (bA (pgT y)),.int .i64 0])∧Below w.heap.size w w':=by
 have hx0:=hx
 have hr0:=hr
 clear hr
 obtain⟨vk,vn,vs,al,ak,a,ll,cl,lk,ck,cc,rfl,hvv,hr,hbk,hbp⟩:=hx.opn
 obtain⟨k,t,v,f,ks,p⟩:=y
 simp only at hk
 have hrg:=hr0
 clear hr0
 subst hk
 obtain⟨n,hn⟩:∃n,ks.length=n:=⟨_,rfl⟩
 have hnb:n≤140737488351232:=by rw [←hn];exact hr.len
 simp only [hn] at hx0 hvv hr hbk hbp ⊢
 obtain⟨w1,hw1⟩:∃w1,w.alloc (.cells #[.int .i64 1,.string t,.int .i64 vk,.int .i64 vn,.string vs,.slice al ll cl,.slice ak lk ck,.bool f,.slice a n cc,.int .i64 p] 28)=w1:=⟨_,rfl⟩
 obtain⟨G,hG⟩:∃G,w.heap.size=G:=⟨_,rfl⟩
 have A1:w1.heap[G]?=some (.cells #[.int .i64 1,.string t,.int .i64 vk,.int .i64 vn,.string vs,.slice al ll cl,.slice ak lk ck,.bool f,.slice a n cc,.int .i64 p] 28 (0,0)):=by rw [←hw1,←hG];exact heap_alloc_new _ _
 have X1:Below G w w1:=by rw [←hw1,←hG];exact(Below.refl _ _).alloc (Nat.le_refl _) _
 have hBG:B0≤G:=by rw [←hG];exact hB
 have HM:Hid (∀u,Below w1.heap.size w1 u→IsN u (fun b=>b<B0) ⟨1,t,v,f,ks,p⟩ [.int .i64 1,.string t,.int .i64 vk,.int .i64 vn,.string vs,.slice al ll cl,.slice ak lk ck,.bool f,.slice a n cc,.int .i64 p]∧RowN u B0 ks a cc∧B0≤u.heap.size∧IsV u B0 v (.agg #[.int .i64 vk,.int .i64 vn,.string vs,.slice al ll cl,.slice ak lk ck])∧Below G w u):=hide (fun u hu=>by
  have h2:=X1.trans (hu.mono (Nat.le_of_lt (lt_of_row A1)))
  exact⟨hx0.laterB (h2.mono hBG),hr.later (h2.mono hBG),Nat.le_trans hBG (by rw [←hG];exact h2.size),hvv.mono (h2.mono hBG),h2⟩)
 have HF:Hid (∀u,Below w1.heap.size w1 u→u.cell? ⟨G,0,none⟩=some (.int .i64 1)∧u.cell? ⟨G,1,none⟩=some (.string t)∧u.cell? ⟨G,2,none⟩=some (.int .i64 vk)∧u.cell? ⟨G,3,none⟩=some (.int .i64 vn)∧u.cell? ⟨G,4,none⟩=some (.string vs)∧u.cell? ⟨G,5,none⟩=some (.slice al ll cl)∧u.cell? ⟨G,6,none⟩=some (.slice ak lk ck)∧u.cell? ⟨G,7,none⟩=some (.bool f)∧u.cell? ⟨G,8,none⟩=some (.slice a n cc)∧u.cell? ⟨G,9,none⟩=some (.int .i64 p)):=hide (fun u hu=>row_ten (Below.cellsAt hu A1))
 have HN:=hide hn
 have HS0:Hid (Below w1.heap.size w1 w1):=hide (Below.refl _ _)
 have HW:=hide hw1
 have HPW:Hid (∀u,Below w1.heap.size w1 u→PowAt u):=hide (fun u hu=>hP.later (X1.trans (hu.mono (Nat.le_of_lt (lt_of_row A1)))) (by omega))
 have HG0:=hide hG0
 have hF:∀z∈ks,FnC B0 z:=by
  unfold rgB at hrg
  simp only [Bool.and_eq_true,decide_eq_true_eq] at hrg
  obtain⟨h1,h2⟩:=fm_kids hrg.1.2
  have hd:=(rw_kd h1).2.2
  simp only at hd h2
  rw [show kdB 1 (ks.map (·.k))=(ks.map (·.k)).all (fun x=>decide (x=2)) by simp [kdB],all_k,List.all_eq_true] at hd
  intro z hz
  have hc:=hrg.1.1
  rw [cns_one] at hc
  simp only at hc
  have:=cns_mem ks z hz
  exact fn_all B0 z (by simpa using hd z hz) (h2 z hz) (by omega)
 have HFn:=hide hF
 have HRG:=hide hrg
 obtain⟨Z,hZ⟩:∃Z,pgT ⟨1,t,v,f,ks,p⟩=Z:=⟨_,rfl⟩
 rw [hZ] at hl ⊢
 have HZ:=hide hZ
 have HLn:=hide hl
 clear hZ hP hG0 hF hrg hl
 clear A1 X1 hw1 hx hx0 hr hvv hB hBG hn
 go_enter Tryz.func7,Tryz.ntmps7
 go_upto_region 1 with fail
 rw [unhide HW]
 try rw [hG]
 clear HW
 obtain⟨x0,x1,x2,x3,x4,x5,x6,x7,x8,x9⟩:=unhide HF w1 (Below.refl _ _)
 have CR:=hide (Right_any B0 ⟨1,t,v,f,ks,p⟩ _ w1 ((unhide HM) w1 (unhide HS0)).2.2.1 ((unhide HM) w1 (unhide HS0)).1)
 try simp only at CR
 simp only [unhide HRG,decide_true,Bool.and_self] at CR
 go_wp2_with fail
 refine(unhide CR).mono ?_
 rintro e w2 ⟨rfl,bb⟩
 have HS2:=hide bb
 clear bb CR x0 x1 x2 x3 x4 x5 x6 x7 x8 x9
 obtain⟨x0,x1,x2,x3,x4,x5,x6,x7,x8,x9⟩:=unhide HF w2 (unhide HS2)
 have CL:=hide (program_text B0 ⟨1,t,v,f,ks,p⟩ _ w2 ((unhide HM) w2 (unhide HS2)).2.2.1 ((unhide HM) w2 (unhide HS2)).1 (unhide HG0) ((unhide HPW) w2 (unhide HS2)) (unhide HFn))
 rw [unhide HZ] at CL
 go_wp2_with fail
 refine(unhide CL).mono ?_
 rintro e w3 ⟨t2,rfl,h,bb⟩
 have h0:=h
 obtain⟨F2,p2,rfl,-,-⟩:=h0
 have HX3:=hide ((unhide HS2).trans (bb.mono (unhide HS2).size))
 have CW:=hide (written_any B0 _ Z w3 ((unhide HM) w3 (unhide HX3)).2.2.1 h (unhide HLn))
 clear bb h CL x0 x1 x2 x3 x4 x5 x6 x7 x8 x9
 go_wp2_with fail
 refine(unhide CW).mono ?_
 rintro e w4 ⟨rfl,bb⟩
 have HX4:=hide ((unhide HX3).trans (bb.mono (unhide HX3).size))
 clear bb CW
 go_wp2_with fail
 go_ret2
 have hbz:=((unhide HM) w4 (unhide HX4)).2.2.2.2
 exact⟨rfl,by first|exact hbz|(rw [hG];exact hbz)⟩
end Go.Proofs.YtekbmfppfjlboaaGreatDoor
