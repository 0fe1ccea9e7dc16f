/-
  Layer 18 (print): an expression is written; conditions: the nodes lie in memory.
  Layer 18 (print): Expr; Program of what is none; conditions: the nodes lie in memory, the table of strconv.
  Layer 18 (print): the walk of the law's shown; conditions: the table of strconv.
-/
import Derived.Test.YtekbmfppfjlboaaGreatDoorA28
import Derived.Test.YtekbmfppfjlboaaGreatDoorA29
import Derived.Test.YtekbmfppfjlboaaGreatDoorA30
import Derived.Test.YtekbmfppfjlboaaGreatDoorA31
set_option linter.unusedVariables false
set_option linter.unusedSimpArgs false
namespace Go.Proofs.YtekbmfppfjlboaaGreatDoor
open Go.RowKit
set_option linter.unusedVariables false
set_option linter.unusedSimpArgs false
def ExAt (N:Nat):Prop:=∀(B0:Nat) (y:Tn),cns [y]≤N→fmB y=true→isEx y.k=true→ExC B0 y
theorem fm_kids {y:Tn} (h:fmB y=true):rwB y=true∧∀z∈y.ks,fmB z=true:=by
 unfold fmB at h
 rw [Bool.and_eq_true,fmL_all,List.all_eq_true] at h
 exact h
theorem rw_kd {y:Tn} (h:rwB y=true):txB y.k y.t=true∧vlB y.k y.v=true∧kdB y.k (y.ks.map (·.k))=true:=by
 unfold rwB at h
 simp only [Bool.and_eq_true] at h
 exact⟨h.1.1.1,h.1.2,h.2⟩
theorem all_ex {ks:List Tn} (h:(ks.map (·.k)).all isEx=true):∀z∈ks,isEx z.k=true:=by
 rw [all_k,List.all_eq_true] at h
 exact h
theorem some_of {w:World} {B0:Nat} {ks:List Tn} {a:Option Addr} {cc:Nat} (h:RowN w B0 ks a cc) (hl:0<ks.length):∃b,a=some b:=by
 obtain⟨b,_,rfl,_⟩:=h.at (i:=0) (y:=ks[0]) (List.getElem?_eq_getElem hl)
 exact⟨b,rfl⟩
theorem pair_c {N:Nat} (ih:ExAt N) (B0:Nat) (y:Tn) (hN:cns [y]≤N+1) (hf:fmB y=true) (hk:y.k=20):PrC B0 y:=by
 intro x u hu hG0 hP hx
 obtain⟨h1,h2⟩:=fm_kids hf
 obtain⟨ht,hv,hd⟩:=rw_kd h1
 obtain⟨vk,vn,vs,al,ak,a,ll,cl,lk,ck,cc,rfl,hvv,hr,-,-⟩:=hx.opn
 obtain⟨k,t,v,f,ks,p⟩:=y
 simp only at hk hvv hr h2 ht hd ⊢
 subst hk
 rw [kd_one (by omega)] at hd
 simp only [Bool.and_eq_true,decide_eq_true_eq,List.length_map] at hd
 obtain⟨b,rfl⟩:=some_of hr (by omega)
 have hsz:t.size≤32:=by simpa [txB] using ht
 refine pair_node B0 v ks vk vn p t vs al ak ll cl lk ck _ cc f b u hu hr rfl hG0 hP (fun z hz=>ih B0 z ?_ (h2 z hz) ?_) hd.1 hsz
 ·have e1:=cns_mem ks z hz
  rw [cns_one] at hN
  simp only at hN
  omega
 ·obtain⟨z0,rfl⟩:=List.length_eq_one_iff.1 hd.1
  obtain rfl:z=z0:=by simpa using hz
  simpa using hd.2
theorem expr_step (N:Nat) (ih:ExAt N) (ih2:∀M,M<N→ExAt M):ExAt (N+1):=by
 intro B0 y hN hf he x u hu hG0 hP hx
 obtain⟨h1,h2⟩:=fm_kids hf
 obtain⟨ht,hv,hd⟩:=rw_kd h1
 obtain⟨vk,vn,vs,al,ak,a,ll,cl,lk,ck,cc,rfl,hvv,hr,-,-⟩:=hx.opn
 obtain⟨k,t,v,f,ks,p⟩:=y
 simp only at hvv hr h2 ht hd he ⊢
 rw [cns_one] at hN
 simp only at hN
 have hsub:∀z∈ks,isEx z.k=true→ExC B0 z:=fun z hz hz2=>ih B0 z (by have:=cns_mem ks z hz;omega) (h2 z hz) hz2
 have hnm:k=14∨k=15∨k=22→t.size≤140737488351232:=fun h=>by
  have:nameL t.data.toList=true:=by rcases h with rfl|rfl|rfl <;> simpa [txB] using ht
  unfold nameL at this
  simp only [Bool.and_eq_true,decide_eq_true_eq] at this
  have e:t.data.toList.length=t.size:=rfl
  omega
 have ht17:k=17→t.size≤140737488351232:=fun h=>by
  subst h
  have hb:0<bnS t.toList:=by simpa [txB] using ht
  have:t.toList.length≤2:=by
   unfold bnS at hb
   split at hb
   ·rename_i e;rw [e];decide
   ·split at hb
    ·rename_i e;rw [e];decide
    ·split at hb
     ·rename_i e;rcases e with e|e|e|e|e|e <;> rw [e] <;> decide
     ·split at hb
      ·rename_i e;rcases e with e|e <;> rw [e] <;> decide
      ·split at hb
       ·rename_i e;rcases e with e|e|e <;> rw [e] <;> decide
       ·omega
  rw [ByteArray.toList_eq] at this
  have e:t.data.toList.length=t.size:=rfl
  omega
 have hk:k=13∨k=14∨k=15∨k=16∨k=17∨k=18∨k=19∨k=21∨k=22:=by simpa [isEx] using he
 rcases hk with rfl|rfl|rfl|rfl|rfl|rfl|rfl|rfl|rfl
 ·exact ex13_any B0 v ks vk vn p t vs al ak a ll cl lk ck _ cc f u hu hr rfl hG0 hP hvv
 ·exact ex14_any B0 v ks vk vn p t vs al ak a ll cl lk ck _ cc f u hu hr rfl hG0 hP
 ·rw [kd_ex (by omega)] at hd
  exact ex15_any B0 v ks vk vn p t vs al ak a ll cl lk ck _ cc f u hu hr rfl hG0 hP (fun z hz=>hsub z hz (all_ex hd z hz))
 ·rw [kd_one (by omega)] at hd
  simp only [Bool.and_eq_true,decide_eq_true_eq,List.length_map] at hd
  obtain⟨b,rfl⟩:=some_of hr (by omega)
  refine ex16_any B0 v ks vk vn p t vs al ak ll cl lk ck _ cc f b u hu hr rfl hG0 hP (fun z hz=>hsub z hz ?_) hd.1
  obtain⟨z0,rfl⟩:=List.length_eq_one_iff.1 hd.1
  obtain rfl:z=z0:=by simpa using hz
  simpa using hd.2
 ·rw [kd_two (by omega)] at hd
  simp only [Bool.and_eq_true,decide_eq_true_eq,List.length_map] at hd
  obtain⟨b,rfl⟩:=some_of hr (by omega)
  exact ex17_any B0 v ks vk vn p t vs al ak ll cl lk ck _ cc f b u hu hr rfl hG0 hP (fun z hz=>hsub z hz (all_ex hd.2 z hz)) hd.1 (ht17 rfl)
 ·rw [kd_ex (by omega)] at hd
  exact ex18_any B0 v ks vk vn p t vs al ak a ll cl lk ck _ cc f u hu hr rfl hG0 hP (fun z hz=>hsub z hz (all_ex hd z hz))
 ·have hd2:∀z∈ks,z.k=20:=by
   have e:kdB 19 (ks.map (·.k))=(ks.map (·.k)).all (fun x=>decide (x=20)):=by simp [kdB]
   rw [e,all_k,List.all_eq_true] at hd
   intro z hz
   simpa using hd z hz
  exact ex19_any B0 v ks vk vn p t vs al ak a ll cl lk ck _ cc f u hu hr rfl hG0 hP (fun z hz=>by
   have e1:=cns_mem ks z hz
   have e2:1≤N:=by rw [cns_one] at e1;omega
   obtain⟨M,rfl⟩:∃M,N=M+1:=⟨N - 1,by omega⟩
   exact pair_c (ih2 M (by omega)) B0 z (by omega) (h2 z hz) (hd2 z hz))
 ·rw [kd_two (by omega)] at hd
  simp only [Bool.and_eq_true,decide_eq_true_eq,List.length_map] at hd
  obtain⟨b,rfl⟩:=some_of hr (by omega)
  exact ex21_any B0 v ks vk vn p t vs al ak ll cl lk ck _ cc f b u hu hr rfl hG0 hP (fun z hz=>hsub z hz (all_ex hd.2 z hz)) hd.1
 ·rw [kd_one (by omega)] at hd
  simp only [Bool.and_eq_true,decide_eq_true_eq,List.length_map] at hd
  obtain⟨b,rfl⟩:=some_of hr (by omega)
  refine ex22_any B0 v ks vk vn p t vs al ak ll cl lk ck _ cc f b u hu hr rfl hG0 hP (fun z hz=>hsub z hz ?_) hd.1 (hnm (by omega))
  obtain⟨z0,rfl⟩:=List.length_eq_one_iff.1 hd.1
  obtain rfl:z=z0:=by simpa using hz
  simpa using hd.2
theorem expr_all (N:Nat):ExAt N:=by
 induction N using Nat.strongRecOn with
 |ind N ih=>
  cases N with
  |zero=>intro B0 y hN;rw [cns_one] at hN;omega
  |succ N=>exact expr_step N (ih N (by omega)) (fun M hM=>ih M (by omega))
set_option maxRecDepth 100000 in
set_option maxHeartbeats 2000000 in
theorem pexpr_ok (B0:Nat) (y:Tn) (x:List Value) (w:World) (hB:B0≤w.heap.size) (hx:IsN w (fun b=>b<B0) y x) (he:isEx y.k=true) (hr:rgB y=true) (hG0:0<B0) (hP:PowAt w) (hl:(exT y).length≤140737488355328):Calls Tryz.prog 8 #[.agg x.toArray] w fun e w'=>e=.returned (.tuple #[.string (bA (exT y)),.int .i64 0])∧Below w.heap.size w w':=by
 have hx0:=hx
 obtain⟨vk,vn,vs,al,ak,a,ll,cl,lk,ck,cc,rfl,_⟩:=hx.shape
 obtain⟨k,t,v,f,ks,p⟩:=y
 obtain⟨n,hn⟩:∃n,ks.length=n:=⟨_,rfl⟩
 simp only [hn] at hx0 ⊢
 obtain⟨w1,hw1⟩:∃w1,w.alloc (.cells #[.int .i64 k,.string t,.int .i64 vk,.int .i64 vn,.string vs,.slice al ll cl,.slice ak lk ck,.bool f,.slice a n cc,.int .i64 p] 28)=w1:=⟨_,rfl⟩
 obtain⟨G,hG⟩:∃G,w.heap.size=G:=⟨_,rfl⟩
 have A1:w1.heap[G]?=some (.cells #[.int .i64 k,.string t,.int .i64 vk,.int .i64 vn,.string vs,.slice al ll cl,.slice ak lk ck,.bool f,.slice a n cc,.int .i64 p] 28 (0,0)):=by rw [←hw1,←hG];exact heap_alloc_new _ _
 have X1:Below G w w1:=by rw [←hw1,←hG];exact(Below.refl _ _).alloc (Nat.le_refl _) _
 have hBG:B0≤G:=by rw [←hG];exact hB
 have HM:Hid (∀u,Below G w u→IsN u (fun b=>b<B0) ⟨k,t,v,f,ks,p⟩ [.int .i64 k,.string t,.int .i64 vk,.int .i64 vn,.string vs,.slice al ll cl,.slice ak lk ck,.bool f,.slice a n cc,.int .i64 p]∧B0≤u.heap.size∧PowAt u):=hide (fun u b=>⟨hx0.laterB (b.mono hBG),Nat.le_trans hB b.size ,hP.later b (by omega)⟩)
 have HA:=hide A1
 have HX:=hide X1
 have HW:=hide hw1
 have hGs:Hid (G≤w1.heap.size):=hide (Nat.le_of_lt (lt_of_row A1))
 have HR:=hide (And.intro he (And.intro hr hG0))
 obtain⟨L,hL⟩:∃L,exT ⟨k,t,v,f,ks,p⟩=L:=⟨_,rfl⟩
 rw [hL] at hl ⊢
 have HL:=hide (And.intro hL hl)
 have hf0:fmB ⟨k,t,v,f,ks,p⟩=true:=by unfold rgB at hr;simp only [Bool.and_eq_true] at hr;exact hr.1.2
 have HF0:=hide hf0
 clear hf0 hL hl he hr hG0 hP
 clear A1 X1 hw1 hx hx0 hn hB
 go_enter Tryz.func8,Tryz.ntmps8
 go_upto_region 1 with fail
 rw [unhide HW]
 try rw [hG]
 clear HW
 obtain⟨x0,x1,x2,x3,x4,x5,x6,x7,x8,x9⟩:=row_ten (unhide HA)
 have CC:=hide (isExpr_any k vk vn p t vs al ak a ll cl lk ck n cc f w1)
 have he:isEx k=true:=(unhide HR).1
 rw [he] at CC
 clear he
 go_wp2_with fail
 refine(unhide CC).mono ?_
 rintro e w2 ⟨rfl,b⟩
 have HA2:=hide (Below.cellsAt b (unhide HA))
 have HX2:=hide ((unhide HX).trans (b.mono (unhide hGs)))
 have hGs2:=hide (Nat.le_trans (unhide hGs) b.size)
 clear b CC x0 x1 x2 x3 x4 x5 x6 x7 x8 x9 HA HX hGs
 have HA:=HA2
 have HX:=HX2
 have hGs:=hGs2
 clear HA2 HX2 hGs2
 obtain⟨x0,x1,x2,x3,x4,x5,x6,x7,x8,x9⟩:=row_ten (unhide HA)
 have CC:=hide (right_node B0 ⟨k,t,v,f,ks,p⟩ _ w2 ((unhide HM) w2 (unhide HX)).2.1 ((unhide HM) w2 (unhide HX)).1)
 have hr:rgB ⟨k,t,v,f,ks,p⟩=true:=(unhide HR).2.1
 rw [hr] at CC
 clear hr
 go_wp2_with fail
 refine(unhide CC).mono ?_
 rintro e w3 ⟨rfl,b⟩
 have HA2:=hide (Below.cellsAt b (unhide HA))
 have HX2:=hide ((unhide HX).trans (b.mono (unhide hGs)))
 have hGs2:=hide (Nat.le_trans (unhide hGs) b.size)
 clear b CC x0 x1 x2 x3 x4 x5 x6 x7 x8 x9 HA HX hGs
 have HA:=HA2
 have HX:=HX2
 have hGs:=hGs2
 clear HA2 HX2 hGs2
 obtain⟨x0,x1,x2,x3,x4,x5,x6,x7,x8,x9⟩:=row_ten (unhide HA)
 have CC:=hide (expr_all _ B0 ⟨k,t,v,f,ks,p⟩ (Nat.le_refl _) (unhide HF0) (unhide HR).1 _ w3 ((unhide HM) w3 (unhide HX)).2.1 (unhide HR).2.2 ((unhide HM) w3 (unhide HX)).2.2 ((unhide HM) w3 (unhide HX)).1)
 rw [(unhide HL).1] at CC
 go_wp2_with fail
 refine(unhide CC).mono ?_
 rintro e w4 ⟨t4,rfl,h4,b⟩
 have HT4:=hide h4
 have HB4:=hide ((unhide HM) w3 (unhide HX)).2.1
 obtain⟨F4,p4,rfl,-,-⟩:=h4
 have hs34:=b.size
 have HA2:=hide (Below.cellsAt b (unhide HA))
 have HX2:=hide ((unhide HX).trans (b.mono (unhide hGs)))
 have hGs2:=hide (Nat.le_trans (unhide hGs) b.size)
 clear b CC x0 x1 x2 x3 x4 x5 x6 x7 x8 x9 HA HX hGs
 have HA:=HA2
 have HX:=HX2
 have hGs:=hGs2
 clear HA2 HX2 hGs2
 obtain⟨x0,x1,x2,x3,x4,x5,x6,x7,x8,x9⟩:=row_ten (unhide HA)
 have CW:=hide (written_any B0 _ L w4 (Nat.le_trans (unhide HB4) hs34) (unhide HT4) (unhide HL).2)
 clear hs34 x0 x1 x2 x3 x4 x5 x6 x7 x8 x9
 go_wp2_with fail
 refine(unhide CW).mono ?_
 rintro e w5 ⟨rfl,b⟩
 have HX5:=hide ((unhide HX).trans (b.mono (unhide hGs)))
 clear b CW
 go_wp2_with fail
 go_ret2
 exact⟨rfl,by first|exact unhide HX5|(rw [hG];exact unhide HX5)⟩
set_option maxRecDepth 100000 in
set_option maxHeartbeats 2000000 in
theorem pprog_no (B0:Nat) (y:Tn) (x:List Value) (w:World) (hB:B0≤w.heap.size) (hx:IsN w (fun b=>b<B0) y x) (hr:(decide (y.k=1) && rgB y)=false):Calls Tryz.prog 7 #[.agg x.toArray] w fun e w'=>e=.returned (.tuple #[.string ⟨#[]⟩,.int .i64 180])∧Below w.heap.size w w':=by
 have hx0:=hx
 obtain⟨vk,vn,vs,al,ak,a,ll,cl,lk,ck,cc,rfl,_⟩:=hx.shape
 obtain⟨k,t,v,f,ks,p⟩:=y
 obtain⟨n,hn⟩:∃n,ks.length=n:=⟨_,rfl⟩
 simp only [hn] at hx0 ⊢
 obtain⟨w1,hw1⟩:∃w1,w.alloc (.cells #[.int .i64 k,.string t,.int .i64 vk,.int .i64 vn,.string vs,.slice al ll cl,.slice ak lk ck,.bool f,.slice a n cc,.int .i64 p] 28)=w1:=⟨_,rfl⟩
 obtain⟨G,hG⟩:∃G,w.heap.size=G:=⟨_,rfl⟩
 have A1:w1.heap[G]?=some (.cells #[.int .i64 k,.string t,.int .i64 vk,.int .i64 vn,.string vs,.slice al ll cl,.slice ak lk ck,.bool f,.slice a n cc,.int .i64 p] 28 (0,0)):=by rw [←hw1,←hG];exact heap_alloc_new _ _
 have X1:Below G w w1:=by rw [←hw1,←hG];exact(Below.refl _ _).alloc (Nat.le_refl _) _
 have hBG:B0≤G:=by rw [←hG];exact hB
 have HM:Hid (∀u,Below G w u→IsN u (fun b=>b<B0) ⟨k,t,v,f,ks,p⟩ [.int .i64 k,.string t,.int .i64 vk,.int .i64 vn,.string vs,.slice al ll cl,.slice ak lk ck,.bool f,.slice a n cc,.int .i64 p]∧B0≤u.heap.size):=hide (fun u b=>⟨hx0.laterB (b.mono hBG),Nat.le_trans hB b.size ⟩)
 have HA:=hide A1
 have HX:=hide X1
 have HW:=hide hw1
 have hGs:Hid (G≤w1.heap.size):=hide (Nat.le_of_lt (lt_of_row A1))
 have HR:=hide hr
 clear hr
 clear A1 X1 hw1 hx hx0 hn hB
 go_enter Tryz.func7,Tryz.ntmps7
 go_upto_region 1 with fail
 rw [unhide HW]
 try rw [hG]
 clear HW
 obtain⟨x0,x1,x2,x3,x4,x5,x6,x7,x8,x9⟩:=row_ten (unhide HA)
 have CC:=hide (Right_any B0 ⟨k,t,v,f,ks,p⟩ _ w1 ((unhide HM) w1 (unhide HX)).2 ((unhide HM) w1 (unhide HX)).1)
 have hr:(decide (k=1) && rgB ⟨k,t,v,f,ks,p⟩)=false:=(unhide HR)
 simp only at CC
 rw [hr] at CC
 clear hr
 go_wp2_with fail
 refine(unhide CC).mono ?_
 rintro e w2 ⟨rfl,b⟩
 have HA2:=hide (Below.cellsAt b (unhide HA))
 have HX2:=hide ((unhide HX).trans (b.mono (unhide hGs)))
 have hGs2:=hide (Nat.le_trans (unhide hGs) b.size)
 clear b CC x0 x1 x2 x3 x4 x5 x6 x7 x8 x9 HA HX hGs
 have HA:=HA2
 have HX:=HX2
 have hGs:=hGs2
 clear HA2 HX2 hGs2
 obtain⟨x0,x1,x2,x3,x4,x5,x6,x7,x8,x9⟩:=row_ten (unhide HA)
 go_wp2_with fail
 go_ret2
 exact⟨rfl,by first|exact unhide HX|(rw [hG];exact unhide HX)⟩
theorem flatP (w:World) (P:Nat→Prop) (k n:Int) (bk:0≤k∧k≤5) (bn:0≤n∧n≤9223372036854775807):IsP w P (.mk k n ⟨#[]⟩ [] []) (.agg #[.int .i64 k,.int .i64 n,.string ⟨#[]⟩,.slice none 0 0,.slice none 0 0]):=
 IsP.of (V:=fun _=>[]) ⟨by omega,by omega,(show (0:Nat)≤140737488351232 by omega),fun _=>⟨rfl,rfl⟩,fun _=>⟨rfl,rfl⟩,Nat.le_refl _,Nat.le_refl _,Nat.zero_le _,Nat.zero_le _,Nat.zero_le _,fun a ha=>(by cases ha),fun i hi=>(by cases hi),fun a ha=>(by cases ha),fun t ht=>(by cases ht)⟩ (fun i y hy=>by simp at hy)
theorem add_at (g o j:Nat):(⟨g,o,none⟩:Addr).add j=⟨g,o+j,none⟩:=by unfold Addr.add;split <;> simp_all
theorem isN_row {w:World} {P:Nat→Prop} {k vk vn p:Int} {t:ByteArray} {f:Bool} {ks:List Tn} {C:Nat→List Value} {g n:Nat} (bk:0≤k∧k≤30) (bp:p=0) (bt:t.size≤2048) (bv:0≤vk∧vk≤5) (bn:0≤vn∧vn≤9223372036854775807) (hn:ks.length=n) (hn9:n≤100) (hg:P g)
  (hc:∀i j v,i<n→(C i)[j]?=some v→w.cell? ⟨g,i * 10+j,none⟩=some v) (hl:∀i,i<n→(C i).length=10) (hk:∀i y,ks[i]?=some y→IsN w P y (C i)) :
  IsN w P ⟨k,t,.mk vk vn ⟨#[]⟩ [] [],f,ks,p⟩ [.int .i64 k,.string t,.int .i64 vk,.int .i64 vn,.string ⟨#[]⟩,.slice none 0 0,.slice none 0 0,.bool f,.slice (some ⟨g,0,none⟩) n n,.int .i64 p]:=by
 refine⟨[.int .i64 vk,.int .i64 vn,.string ⟨#[]⟩,.slice none 0 0,.slice none 0 0],some ⟨g,0,none⟩,n,C,by simp only [hn];rfl,rfl,flatP w P vk vn bv bn,⟨?_,?_,?_,?_,?_,?_,?_,?_⟩,(IsNs_iff w P _ _).2 hk⟩
 ·simp only;omega
 ·simp only;omega
 ·simp only;omega
 ·intro e;cases e
 ·simp only;omega
 ·simp only;omega
 ·intro x hx i hi
  obtain rfl:=Option.some.inj hx
  refine⟨by first|exact hg|(rw [block_add];exact hg),fun j v hj=>?_⟩
  rw [add_at,add_at,Nat.zero_add]
  exact hc i j v (by simp only at hi;omega) hj
 ·intro i hi
  exact hl i (by simp only at hi;omega)
theorem isN_leaf {w:World} {P:Nat→Prop} {k vk vn p:Int} {t:ByteArray} {f:Bool} (bk:0≤k∧k≤30) (bp:p=0) (bt:t.size≤2048) (bv:0≤vk∧vk≤5) (bn:0≤vn∧vn≤9223372036854775807) :
  IsN w P ⟨k,t,.mk vk vn ⟨#[]⟩ [] [],f,[],p⟩ [.int .i64 k,.string t,.int .i64 vk,.int .i64 vn,.string ⟨#[]⟩,.slice none 0 0,.slice none 0 0,.bool f,.slice none 0 0,.int .i64 p]:=
 ⟨[.int .i64 vk,.int .i64 vn,.string ⟨#[]⟩,.slice none 0 0,.slice none 0 0],none,0,fun _=>[],rfl,rfl,flatP w P vk vn bv bn,⟨by simp only;omega,by simp only;omega,by simp only;omega,fun _=>⟨rfl,rfl⟩,by simp,by simp,fun x hx=>(by cases hx),fun i hi=>(by simp at hi)⟩,by simp [IsNs]⟩
def tnA:Tn:=⟨14,⟨#[97]⟩,.mk 0 0 ⟨#[]⟩ [] [],false,[],0⟩
def tnB:Tn:=⟨13,⟨#[]⟩,.mk 2 1 ⟨#[]⟩ [] [],false,[],0⟩
def tnP:Tn:=⟨17,⟨#[43]⟩,.mk 0 0 ⟨#[]⟩ [] [],false,[tnA,tnB],0⟩
def tnU:Tn:=⟨16,⟨#[45]⟩,.mk 0 0 ⟨#[]⟩ [] [],false,[tnP],0⟩
def tn0:Tn:=⟨1,⟨#[]⟩,.mk 0 0 ⟨#[]⟩ [] [],false,[],0⟩
theorem r_one:rightB (.mk 2 1 ⟨#[]⟩ [] [])=true:=by
 have e0:(⟨#[]⟩:ByteArray).size=0:=rfl
 simp [rightB,okB,formB,formM,risingFrom,okL,wt,keysW,wtL,e0]
theorem d_one:Lib.itoa 1=[49]:=by decide +kernel
theorem p_one:prt (.mk 2 1 ⟨#[]⟩ [] [])=[49]:=by
 simp [prt,r_one,txt,oneT,d_one]
theorem l1:(⟨#[97]⟩:ByteArray).toList=[97]:=by rw [ByteArray.toList_eq]
theorem l2:(⟨#[]⟩:ByteArray).toList=[]:=by rw [ByteArray.toList_eq]
theorem l3:(⟨#[43]⟩:ByteArray).toList=[43]:=by rw [ByteArray.toList_eq]
theorem l4:(⟨#[45]⟩:ByteArray).toList=[45]:=by rw [ByteArray.toList_eq]
theorem n_a:nameL [97]=true:=by decide +kernel
theorem exU:exT tnU=[45,40,97,32,43,32,49,41]:=by
 simp [exT,exM,ex1,opX,brk,tnU,tnP,tnA,tnB,l1,l2,l3,l4,bnS,p_one]
theorem rgU:rgB tnU=true:=by
 simp [rgB,fmB,fmL,rwB,dpN,dpL,cns,cvs,arnd,opn,brk,tnU,tnP,tnA,tnB,l1,l2,l3,l4,bnS,txB,flB,vlB,kdB,isEx,r_one,n_a]
theorem rg0:rgB tn0=true:=by
 simp [rgB,fmB,fmL,rwB,dpN,dpL,cns,cvs,arnd,opn,brk,tn0,l2,bnS,txB,flB,vlB,kdB,isEx]
set_option maxRecDepth 100000 in
set_option maxHeartbeats 4000000 in
theorem shown18 (w:World) (hG0:0<w.heap.size) (hP:PowAt w):Calls Tryz.prog 14 #[] w fun e w'=>e=.returned (.bool true)∧Below w.heap.size w w':=by
 obtain⟨g,hg⟩:∃g,w.heap.size=g:=⟨_,rfl⟩
 obtain⟨w1,hw1⟩:∃w1,w.alloc (.cells #[.int .i64 14,.string ⟨#[97]⟩,.int .i64 0,.int .i64 0,.string ⟨#[]⟩,.slice none 0 0,.slice none 0 0,.bool false,.slice none 0 0,.int .i64 0,.int .i64 13,.string ⟨#[]⟩,.int .i64 2,.int .i64 1,.string ⟨#[]⟩,.slice none 0 0,.slice none 0 0,.bool false,.slice none 0 0,.int .i64 0] 28)=w1:=⟨_,rfl⟩
 have z1:w1.heap.size=g+1:=by rw [←hw1];simp [hg]
 obtain⟨w2,hw2⟩:∃w2,w1.alloc (.cells #[.int .i64 17,.string ⟨#[43]⟩,.int .i64 0,.int .i64 0,.string ⟨#[]⟩,.slice none 0 0,.slice none 0 0,.bool false,.slice (some ⟨g,0,none⟩) 2 2,.int .i64 0] 28)=w2:=⟨_,rfl⟩
 have z2:w2.heap.size=g+1+1:=by rw [←hw2];simp [z1]
 obtain⟨w3,hw3⟩:∃w3,w2.alloc (.cells #[.int .i64 16,.string ⟨#[45]⟩,.int .i64 0,.int .i64 0,.string ⟨#[]⟩,.slice none 0 0,.slice none 0 0,.bool false,.slice (some ⟨g+1,0,none⟩) 1 1,.int .i64 0] 28)=w3:=⟨_,rfl⟩
 have z3:w3.heap.size=g+1+1+1:=by rw [←hw3];simp [z2]
 have b1:Below w.heap.size w w1:=by rw [←hw1];exact(Below.refl _ _).alloc (Nat.le_refl _) _
 have b2:Below w1.heap.size w1 w2:=by rw [←hw2];exact(Below.refl _ _).alloc (Nat.le_refl _) _
 have b3:Below w2.heap.size w2 w3:=by rw [←hw3];exact(Below.refl _ _).alloc (Nat.le_refl _) _
 have r1:w1.heap[g]?=some (.cells #[.int .i64 14,.string ⟨#[97]⟩,.int .i64 0,.int .i64 0,.string ⟨#[]⟩,.slice none 0 0,.slice none 0 0,.bool false,.slice none 0 0,.int .i64 0,.int .i64 13,.string ⟨#[]⟩,.int .i64 2,.int .i64 1,.string ⟨#[]⟩,.slice none 0 0,.slice none 0 0,.bool false,.slice none 0 0,.int .i64 0] 28 (0,0)):=by rw [←hw1,←hg];exact heap_alloc_new _ _
 have r2:w2.heap[g+1]?=some (.cells #[.int .i64 17,.string ⟨#[43]⟩,.int .i64 0,.int .i64 0,.string ⟨#[]⟩,.slice none 0 0,.slice none 0 0,.bool false,.slice (some ⟨g,0,none⟩) 2 2,.int .i64 0] 28 (0,0)):=by rw [←hw2,←z1];exact heap_alloc_new _ _
 have r3:w3.heap[g+1+1]?=some (.cells #[.int .i64 16,.string ⟨#[45]⟩,.int .i64 0,.int .i64 0,.string ⟨#[]⟩,.slice none 0 0,.slice none 0 0,.bool false,.slice (some ⟨g+1,0,none⟩) 1 1,.int .i64 0] 28 (0,0)):=by rw [←hw3,←z2];exact heap_alloc_new _ _
 have q1:=Below.cellsAt b3 (Below.cellsAt b2 r1)
 have q2:=Below.cellsAt b3 r2
 have bw:Below w.heap.size w w3:=(b1.trans (b2.mono (by omega))).trans (b3.mono (by omega))
 have hA:IsN w3 (fun b=>b<w3.heap.size) tnA [.int .i64 14,.string ⟨#[97]⟩,.int .i64 0,.int .i64 0,.string ⟨#[]⟩,.slice none 0 0,.slice none 0 0,.bool false,.slice none 0 0,.int .i64 0]:=isN_leaf (by omega) rfl (by decide) (by omega) (by omega)
 have hB:IsN w3 (fun b=>b<w3.heap.size) tnB [.int .i64 13,.string ⟨#[]⟩,.int .i64 2,.int .i64 1,.string ⟨#[]⟩,.slice none 0 0,.slice none 0 0,.bool false,.slice none 0 0,.int .i64 0]:=isN_leaf (by omega) rfl (by decide) (by omega) (by omega)
 have hPn:IsN w3 (fun b=>b<w3.heap.size) tnP [.int .i64 17,.string ⟨#[43]⟩,.int .i64 0,.int .i64 0,.string ⟨#[]⟩,.slice none 0 0,.slice none 0 0,.bool false,.slice (some ⟨g,0,none⟩) 2 2,.int .i64 0]:=by
  refine isN_row (C:=fun i=>if i=0 then [.int .i64 14,.string ⟨#[97]⟩,.int .i64 0,.int .i64 0,.string ⟨#[]⟩,.slice none 0 0,.slice none 0 0,.bool false,.slice none 0 0,.int .i64 0] else [.int .i64 13,.string ⟨#[]⟩,.int .i64 2,.int .i64 1,.string ⟨#[]⟩,.slice none 0 0,.slice none 0 0,.bool false,.slice none 0 0,.int .i64 0]) (by omega) rfl (by decide) (by omega) (by omega) rfl (by omega) (by omega) (fun i j v hi hj=>?_) (fun i hi=>by split <;> rfl) (fun i y hy=>?_)
  ·have hj10:j<10:=by
    have:=(List.getElem?_eq_some_iff.1 hj).1
    split at this <;> simpa using this
   rw [cell_of_row w3 g (i * 10+j) ([.int .i64 14,.string ⟨#[97]⟩,.int .i64 0,.int .i64 0,.string ⟨#[]⟩,.slice none 0 0,.slice none 0 0,.bool false,.slice none 0 0,.int .i64 0]++[.int .i64 13,.string ⟨#[]⟩,.int .i64 2,.int .i64 1,.string ⟨#[]⟩,.slice none 0 0,.slice none 0 0,.bool false,.slice none 0 0,.int .i64 0]:List Value).toArray _ (0,0) q1,List.getElem?_toArray]
   rcases i with _|_|i
   ·rw [List.getElem?_append_left (by simpa using hj10)];simpa using hj
   ·rw [List.getElem?_append_right (by simp)]
    simpa using hj
   ·omega
  ·rcases i with _|_|i
   ·simp at hy;subst hy;exact hA
   ·simp at hy;subst hy;exact hB
   ·simp at hy
 have hU:IsN w3 (fun b=>b<w3.heap.size) tnU [.int .i64 16,.string ⟨#[45]⟩,.int .i64 0,.int .i64 0,.string ⟨#[]⟩,.slice none 0 0,.slice none 0 0,.bool false,.slice (some ⟨g+1,0,none⟩) 1 1,.int .i64 0]:=by
  refine isN_row (C:=fun _=>[.int .i64 17,.string ⟨#[43]⟩,.int .i64 0,.int .i64 0,.string ⟨#[]⟩,.slice none 0 0,.slice none 0 0,.bool false,.slice (some ⟨g,0,none⟩) 2 2,.int .i64 0]) (by omega) rfl (by decide) (by omega) (by omega) rfl (by omega) (by omega) (fun i j v hi hj=>?_) (fun i hi=>rfl) (fun i y hy=>?_)
  ·obtain rfl:i=0:=by omega
   rw [cell_of_row w3 (g+1) (0 * 10+j) ([.int .i64 17,.string ⟨#[43]⟩,.int .i64 0,.int .i64 0,.string ⟨#[]⟩,.slice none 0 0,.slice none 0 0,.bool false,.slice (some ⟨g,0,none⟩) 2 2,.int .i64 0]:List Value).toArray _ (0,0) q2,List.getElem?_toArray]
   simpa using hj
  ·rcases i with _|i
   ·simp at hy;subst hy;exact hPn
   ·simp at hy
 have hP3:=hP.later bw hG0
 have CE:=hide (pexpr_ok w3.heap.size tnU [.int .i64 16,.string ⟨#[45]⟩,.int .i64 0,.int .i64 0,.string ⟨#[]⟩,.slice none 0 0,.slice none 0 0,.bool false,.slice (some ⟨g+1,0,none⟩) 1 1,.int .i64 0] w3 (Nat.le_refl _) hU (by decide) rgU (by omega) hP3 (by rw [exU];decide))
 rw [exU] at CE
 have HU:Hid (∀u,Below w3.heap.size w3 u→IsN u (fun b=>b<w3.heap.size) tnU [.int .i64 16,.string ⟨#[45]⟩,.int .i64 0,.int .i64 0,.string ⟨#[]⟩,.slice none 0 0,.slice none 0 0,.bool false,.slice (some ⟨g+1,0,none⟩) 1 1,.int .i64 0]):=hide (fun u h=>hU.laterB h)
 have HR:=hide r3
 have HW:=hide (And.intro hw1 (And.intro hw2 hw3))
 have HX:=hide bw
 have HZ:=hide (And.intro z1 (And.intro z2 z3))
 obtain⟨x0,x1,x2,x3,x4,x5,x6,x7,x8,x9⟩:=row_ten r3
 clear hw1 hw2 hw3 b1 b2 b3 r1 r2 r3 q1 q2 bw hA hB hPn hU hP3 hP hG0 z1 z2 z3
 go_enter Tryz.func14,Tryz.ntmps14
 go_upto_region 2 with fail
 rw [(unhide HW).1,(unhide HW).2.1,(unhide HW).2.2]
 clear HW
 go_wp2_with fail
 refine(unhide CE).mono ?_
 rintro e w4 ⟨rfl,b4⟩
 have H4:=hide b4
 have hr1:(decide (tnU.k=1) && rgB tnU)=false:=rfl
 have CP:=hide (pprog_no w3.heap.size tnU [.int .i64 16,.string ⟨#[45]⟩,.int .i64 0,.int .i64 0,.string ⟨#[]⟩,.slice none 0 0,.slice none 0 0,.bool false,.slice (some ⟨g+1,0,none⟩) 1 1,.int .i64 0] w4 b4.size ((unhide HU) w4 b4) hr1)
 clear b4 CE x0 x1 x2 x3 x4 x5 x6 x7 x8 x9 hr1
 obtain⟨x0,x1,x2,x3,x4,x5,x6,x7,x8,x9⟩:=row_ten (Below.cellsAt (unhide H4) (unhide HR))
 go_wp2_with fail
 refine(unhide CP).mono ?_
 rintro e w5 ⟨rfl,b5⟩
 have H5:=hide ((unhide H4).trans (b5.mono (unhide H4).size))
 clear b5 CP x0 x1 x2 x3 x4 x5 x6 x7 x8 x9
 have CR:=hide (Right_any w5.heap.size tn0 [.int .i64 1,.string ⟨#[]⟩,.int .i64 0,.int .i64 0,.string ⟨#[]⟩,.slice none 0 0,.slice none 0 0,.bool false,.slice none 0 0,.int .i64 0] w5 (Nat.le_refl _) (isN_leaf (by omega) rfl (by decide) (by omega) (by omega)))
 have hr0:(decide (tn0.k=1) && rgB tn0)=true:=by rw [rg0];rfl
 rw [hr0] at CR
 have hcmp:((bA [45,40,97,32,43,32,49,41]).toList == [45,40,97,32,43,32,49,41])=true:=by rw [bA_list];rfl
 clear hr0
 go_wp2_with fail
 refine(unhide CR).mono ?_
 rintro e w6 ⟨rfl,b6⟩
 have H6:=hide ((unhide H5).trans (b6.mono (unhide H5).size))
 clear b6 CR
 go_wp2_with fail
 go_ret
 have XX:Below w.heap.size w w6:=(unhide HX).trans ((unhide H6).mono (unhide HX).size)
 exact⟨rfl,by first|exact XX|(rw [←hg];exact XX)⟩
end Go.Proofs.YtekbmfppfjlboaaGreatDoor
