/-
  the walk of PrintTrees.
  Conditions: where nodes are told of, they lie in memory.
-/
import Derived.Test.YtlkeaaopdnnceaaGreatDoorA42
import Derived.Test.YtlkeaaopdnnceaaGreatDoorA43
import Derived.Test.YtlkeaaopdnnceaaGreatDoorA44
import Derived.Test.YtlkeaaopdnnceaaGreatDoorA48
set_option linter.unusedVariables false
set_option linter.unusedSimpArgs false
set_option maxRecDepth 100000
set_option maxHeartbeats 8000000
namespace Go.Proofs.YtlkeaaopdnnceaaGreatDoor
open Go.RowKit
set_option linter.unusedVariables false
set_option linter.unusedSimpArgs false
theorem Till.firstN {P:Program} {ops:Array Oper} {Q:Exit→Act→World→Prop} {md:Region.Mode} {S:World→Prop} {z:Nat} {i:Nat} {oi:Oper} {v:Value} (hi:ops[i]?=some oi) (hz:ops[z]?=Option.none)
  (hsel:∀(j:Nat) (o:Oper) cs b,ops[j]?=some o→o.op≠.select cs b) (hQ:∀c a w,Q (.panic c) (a.put oi.dst v) w→Q (.panic c) a w) :
  ∀(f:Nat) (listed:Array Bool) (a:Act) (w:World),
   (∀j oj,ops[j]?=some oj→j≠i→listed.getD j true=false→(∀e∈oj.after,Region.binds md e=true→e.on≠i)→oi.apart ops oj=true) →
   i∈Region.ready md ops listed→YieldsIf P ops S oi v a→S w →
   Till P md ops Q S z f (listed.setIfInBounds i true) (a.put oi.dst v) w→Till P md ops Q S z (f+1) listed a w:=by
 intro f
 induction f with
 |zero=>
  intro listed a w _ hr hy hS H
  refine⟨fun h=>(by rw [h] at hr;cases hr),fun j hj=>?_⟩
  by_cases e:j=i
  ·rw [e]
   exact hy.wpOp hi hS ⟨Or.inr hS,H⟩
  ·exact absurd (ready_mono hj e) (by rw [H.1];simp)
 |succ f ih=>
  intro listed a w hfree hr hy hS H
  refine⟨fun h=>(by rw [h] at hr;cases hr),fun j hj=>?_⟩
  by_cases e:j=i
  ·rw [e]
   exact hy.wpOp hi hS ⟨Or.inr hS,H⟩
  ·obtain⟨hun,oj,hoj,hall⟩:=mem_ready.1 hj
   have hi0:=(mem_ready.1 hr).1
   have hnot:∀x∈oj.after,Region.binds md x=true→x.on≠i:=fun x hx hb he=>by
    have h1:=hall x hx hb
    rw [he] at h1
    rcases Nat.lt_or_ge i listed.size with hl|hl
    ·simp [hl] at hi0 h1
     rw [hi0] at h1
     cases h1
    ·simp [Array.getElem?_eq_none hl] at h1
   have hjz:j≠z:=fun he=>by
    rw [he,hz] at hoj
    cases hoj
   have h2:=wpOp_putIf hoj (hfree j oj hoj e hun hnot) (fun cs b=>hsel i oi cs b hi) (fun cs b=>hsel j oj cs b hoj) hQ hy (H.2 j (ready_mono hj e))
   refine wpOp_mono (fun a' w' h3=>?_) h2
   obtain⟨hy',hS',hT⟩:=h3
   have hSw:S w':=hS'.resolve_left hjz
   refine⟨Or.inr hSw,ih (listed.setIfInBounds j true) a' w' (fun k ok hk hki hu hno=>hfree k ok hk hki ?_ hno) (ready_mono hr (Ne.symm e)) hy' hSw ?_⟩
   ·by_cases hjk:j=k
    ·rw [←hjk];exact hun
    ·rw [getD_set_ne true hjk] at hu;exact hu
   ·rw [Array.setIfInBounds_comm _ _ e]
    exact hT
theorem till_takeN {P:Program} {ops:Array Oper} {Q:Exit→Act→World→Prop} {md:Region.Mode} {S:World→Prop} {z:Nat} {f:Nat} {listed:Array Bool} {a:Act} {w:World} (i:Nat) {oi:Oper} {v:Value} (d:Option Tmp) (hi:ops[i]?=some oi) (hd:oi.dst=d) (hz:ops[z]?=Option.none)
  (hs:Region.noSelect ops=true) (hf:Region.free md ops listed i=true) (hr:(Region.ready md ops listed).contains i=true)
  (hQ:∀c a w,Q (.panic c) (a.put d v) w→Q (.panic c) a w) (hy:YieldsIf P ops S oi v a) (hS:S w)
  (h:Till P md ops Q S z f (listed.setIfInBounds i true) (a.put d v) w):Till P md ops Q S z (f+1) listed a w:=by
 subst hd
 exact Till.firstN hi hz (Region.noSelect_spec hs) hQ f listed a w (Region.free_spec hi hf) (by simpa using hr) hy hS h
theorem pgR_form (y:Tn):∃(S:ByteArray) (E:Int),pgR y=.tuple #[.string S,.int .i64 E]:=by
 unfold pgR
 split
 ·exact⟨_,_,rfl⟩
 ·exact⟨_,_,rfl⟩
theorem exR_form (y:Tn):∃(S:ByteArray) (E:Int),exR y=.tuple #[.string S,.int .i64 E]:=by
 unfold exR
 split
 ·exact⟨_,_,rfl⟩
 ·exact⟨_,_,rfl⟩
theorem prog_code (B0:Nat) (y:Tn) (x:List Value) (w:World) (hB:B0≤w.heap.size) (hx:IsN w (fun b=>b<B0) y x) (hG0:0<B0) (hP:PowAt w):Calls Tryz.prog 7 #[.agg x.toArray] w fun e w'=>e=.returned (pgR y)∧Below w.heap.size w w':=by
 unfold pgR
 by_cases h:y.k=1∧rgB y=true
 ·rw [if_pos h]
  exact pprog_ok B0 y x w hB hx h.1 h.2 hG0 hP (Nat.le_trans (pg_len hx h.1 h.2) (by decide))
 ·rw [if_neg h]
  refine pprog_no B0 y x w hB hx ?_
  cases hc:(decide (y.k=1) && rgB y) with
  |false=>rfl
  |true=>rw [Bool.and_eq_true,decide_eq_true_iff] at hc;exact absurd hc h
theorem prog_doc (B0:Nat) (y:Tn) (x:List Value) (w:World) (hB:B0≤w.heap.size) (hx:IsN w (fun b=>b<B0) y x):Calls Tryz.prog 9 #[.agg x.toArray] w fun e w'=>e=.returned (pgR y)∧Below w.heap.size w w':=by
 unfold pgR
 by_cases h:y.k=1∧rgB y=true
 ·rw [if_pos h]
  exact rprog_ok B0 y x w hB hx h.1 h.2
 ·rw [if_neg h]
  exact rprog_no B0 y x w hB hx h
theorem expr_code (B0:Nat) (y:Tn) (x:List Value) (w:World) (hB:B0≤w.heap.size) (hx:IsN w (fun b=>b<B0) y x) (hG0:0<B0) (hP:PowAt w):Calls Tryz.prog 8 #[.agg x.toArray] w fun e w'=>e=.returned (exR y)∧Below w.heap.size w w':=by
 unfold exR
 by_cases h:isEx y.k=true∧rgB y=true
 ·rw [if_pos h]
  exact pexpr_ok B0 y x w hB hx h.1 h.2 hG0 hP (Nat.le_trans (rg_ex hx h.1 h.2) (by decide))
 ·rw [if_neg h]
  exact pexpr_no B0 y x w hB hx h
theorem trees_walk (ns:List Tn) (al:Option Addr) (n cl:Nat) (w:World) (hr:RowN w w.heap.size ns al cl) (hn:ns.length=n) (hG0:0<w.heap.size) (hP:PowAt w) :
  Calls Tryz.prog 3 #[.slice al n cl] w fun e w'=>e=.returned (.bool true)∧Below w.heap.size w w':=by
 have hnb:n≤140737488351232:=by rw [←hn];exact hr.len
 have hncc:n≤cl:=by obtain⟨C,hf,_⟩:=hr;rw [←hn];exact hf.ll
 obtain⟨B,hB⟩:∃B,w.heap.size=B:=⟨_,rfl⟩
 rw [hB] at hr hG0
 have HRow:Hid (∀u,Below w.heap.size w u→RowN u B ns al cl∧PowAt u∧B≤u.heap.size):=hZ (fun u hu=>⟨hr.later (by rw [←hB];exact hu),hP.later hu (by omega),by rw [←hB];exact hu.size⟩)
 have HN:=hZ hn
 have HG0:=hZ hG0
 have HS0:=hZ (Below.refl w.heap.size w)
 have HBB:=hZ hB
 clear hr hn hG0 hP hB
 go_enter Tryz.func3,Tryz.ntmps3
 go_wp2_with fail
 go_loopw [3] (fun x w9=>∃(i:Nat),x=.int .i64 (i:Int)∧i≤n∧Hid (Below w.heap.size w w9)) (fun x _=>n - (intOf x).toNat)
 case atStart=>exact⟨0,rfl,Nat.zero_le _,HS0⟩
 case round=>
  obtain⟨i,rfl,hi,HX⟩:=hrel
  obtain⟨w8,hw8⟩:∃u,u=wr:=⟨_,rfl⟩
  subst hw8
  by_cases hlt:i<n
  ·have i1:(i:Int)<(n:Int):=by omega
   have i0:(0:Int)≤(i:Int):=by omega
   have HI1:=hZ (show i+1≤n by omega)
   obtain⟨y,hy⟩:∃y,ns[i]?=some y:=⟨_,List.getElem?_eq_getElem (by have:=uZ HN;omega)⟩
   obtain⟨b,vky,vny,vsy,aly,aky,ay,lly,cly,lky,cky,ny,ccy,rfl,hcy,hby,hny,hzy,hcelly⟩:=((uZ HRow) w8 (uZ HX)).1.ten hy
   have hB8:=((uZ HRow) w8 (uZ HX)).2.2
   have HK:Hid (∀u,Below w8.heap.size w8 u→(u.cell? (b.add (i * 10))=some (.int .i64 y.k)∧u.cell? (⟨(b.add (i * 10)).block,(b.add (i * 10)).off+1,none⟩)=some (.string y.t)∧u.cell? (⟨(b.add (i * 10)).block,(b.add (i * 10)).off+2,none⟩)=some (.int .i64 vky)∧u.cell? (⟨(b.add (i * 10)).block,(b.add (i * 10)).off+3,none⟩)=some (.int .i64 vny)∧u.cell? (⟨(b.add (i * 10)).block,(b.add (i * 10)).off+4,none⟩)=some (.string vsy)∧u.cell? (⟨(b.add (i * 10)).block,(b.add (i * 10)).off+5,none⟩)=some (.slice aly lly cly)∧u.cell? (⟨(b.add (i * 10)).block,(b.add (i * 10)).off+6,none⟩)=some (.slice aky lky cky)∧u.cell? (⟨(b.add (i * 10)).block,(b.add (i * 10)).off+7,none⟩)=some (.bool y.f)∧u.cell? (⟨(b.add (i * 10)).block,(b.add (i * 10)).off+8,none⟩)=some (.slice ay ny ccy)∧u.cell? (⟨(b.add (i * 10)).block,(b.add (i * 10)).off+9,none⟩)=some (.int .i64 y.p))∧IsN u (fun b=>b<B) y [.int .i64 y.k,.string y.t,.int .i64 vky,.int .i64 vny,.string vsy,.slice aly lly cly,.slice aky lky cky,.bool y.f,.slice ay ny ccy,.int .i64 y.p]):=hZ (fun u h=>by
    have hc:∀j v,([.int .i64 y.k,.string y.t,.int .i64 vky,.int .i64 vny,.string vsy,.slice aly lly cly,.slice aky lky cky,.bool y.f,.slice ay ny ccy,.int .i64 y.p]:List Value)[j]?=some v→u.cell? ((b.add (i * 10)).add j)=some v:=fun j v hj=>(World.cell?_of_block (h.block _ (by rw [block_add,block_add];omega))).trans (hcelly j v hj)
    exact⟨⟨hc 0 _ rfl,hc 1 _ rfl,hc 2 _ rfl,hc 3 _ rfl,hc 4 _ rfl,hc 5 _ rfl,hc 6 _ rfl,hc 7 _ rfl,hc 8 _ rfl,hc 9 _ rfl⟩,hzy.laterB (h.mono hB8)⟩)
   have CT:=hZ (treeOf_any y _ B w8 hzy hB8)
   have HB8:=hZ hB8
   clear hy hcy hby hny hzy hcelly hB8
   obtain⟨⟨e0,e1,e2,e3,e4,e5,e6,e7,e8,e9⟩,_⟩:=uZ HK w8 (Below.refl _ _)
   go_wp2_with fail
   refine(uZ CT).mono ?_
   rintro e w3 ⟨x5,rfl,hk5,b5⟩
   obtain⟨vk5,vn5,vs5,al5,ak5,a5,ll5,cl5,lk5,ck5,cc5,hx5,_⟩:=hk5.shape
   obtain⟨n5,hn5⟩:∃m,y.ks.length=m:=⟨_,rfl⟩
   rw [hn5] at hx5
   subst hx5
   have HX3:=hZ b5
   have HK5:=hZ hk5
   clear b5 hk5 hn5 CT e0 e1 e2 e3 e4 e5 e6 e7 e8 e9
   go_upto_region 5 with fail
   obtain⟨wq,hwq⟩:∃wq,w3.alloc (.cells #[.int .i64 y.k,.string y.t,.int .i64 vk5,.int .i64 vn5,.string vs5,.slice al5 ll5 cl5,.slice ak5 lk5 ck5,.bool y.f,.slice a5 n5 cc5,.int .i64 y.p] 28)=wq:=⟨_,rfl⟩
   try rw [hwq]
   obtain⟨q,hq⟩:∃q,w3.heap.size=q:=⟨_,rfl⟩
   try rw [hq]
   have hAq:wq.heap[q]?=some (.cells #[.int .i64 y.k,.string y.t,.int .i64 vk5,.int .i64 vn5,.string vs5,.slice al5 ll5 cl5,.slice ak5 lk5 ck5,.bool y.f,.slice a5 n5 cc5,.int .i64 y.p] 28 (0,0)):=by rw [←hwq,←hq];exact heap_alloc_new _ _
   have hbq:Below w3.heap.size w3 wq:=by rw [←hwq];exact(Below.refl _ _).alloc (Nat.le_refl _) _
   have HQ:Hid (∀u,Below wq.heap.size wq u→(u.cell? ⟨q,0,none⟩=some (.int .i64 y.k)∧u.cell? ⟨q,1,none⟩=some (.string y.t)∧u.cell? ⟨q,2,none⟩=some (.int .i64 vk5)∧u.cell? ⟨q,3,none⟩=some (.int .i64 vn5)∧u.cell? ⟨q,4,none⟩=some (.string vs5)∧u.cell? ⟨q,5,none⟩=some (.slice al5 ll5 cl5)∧u.cell? ⟨q,6,none⟩=some (.slice ak5 lk5 ck5)∧u.cell? ⟨q,7,none⟩=some (.bool y.f)∧u.cell? ⟨q,8,none⟩=some (.slice a5 n5 cc5)∧u.cell? ⟨q,9,none⟩=some (.int .i64 y.p))∧IsN u (fun b=>b<q) y [.int .i64 y.k,.string y.t,.int .i64 vk5,.int .i64 vn5,.string vs5,.slice al5 ll5 cl5,.slice ak5 lk5 ck5,.bool y.f,.slice a5 n5 cc5,.int .i64 y.p]∧q≤u.heap.size∧Below w8.heap.size w8 u∧Below w.heap.size w u):=hZ (fun u hu=>by
    have h3:Below w3.heap.size w3 u:=hbq.trans (hu.mono hbq.size)
    have h8:Below w8.heap.size w8 u:=(uZ HX3).trans (h3.mono (uZ HX3).size)
    have hz:IsN w3 (fun b=>b<q) y [.int .i64 y.k,.string y.t,.int .i64 vk5,.int .i64 vn5,.string vs5,.slice al5 ll5 cl5,.slice ak5 lk5 ck5,.bool y.f,.slice a5 n5 cc5,.int .i64 y.p]:=by have h:=uZ HK5;rw [hq] at h;exact h
    exact⟨row_ten (Below.cellsAt hu hAq),hz.laterB (by rw [←hq];exact h3),by rw [←hq];exact h3.size,h8,(uZ HX).trans (h8.mono (uZ HX).size)⟩)
   have hBq:B≤q:=by have h1:=(uZ HX3).size;have:=uZ HB8;omega
   have HBq:=hZ (And.intro hBq (show 0<q by have:=uZ HG0;omega))
   have HXq:=hZ (Below.refl wq.heap.size wq)
   clear hwq hq hAq hbq hBq HK5 HX3
   obtain⟨S1,E1,hSE1⟩:=pgR_form y
   obtain⟨S2,E2,hSE2⟩:=exR_form y
   have HSE:=hZ (And.intro hSE1 hSE2)
   clear hSE1 hSE2
   obtain⟨⟨f0,f1,f2,f3,f4,f5,f6,f7,f8,f9⟩,_⟩:=uZ HQ wq (uZ HXq)
   have CC:=hZ (prog_code q y _ wq ((uZ HQ) wq (uZ HXq)).2.2.1 ((uZ HQ) wq (uZ HXq)).2.1 (uZ HBq).2 ((uZ HRow) wq ((uZ HQ) wq (uZ HXq)).2.2.2.2).2.1)
   rw [(uZ HSE).1] at CC
   go_wp2_with fail
   refine(uZ CC).mono ?_
   rintro e w21 ⟨rfl,bb⟩
   have HX21:=hZ ((uZ HXq).trans (bb.mono (uZ HXq).size))
   clear bb CC f0 f1 f2 f3 f4 f5 f6 f7 f8 f9
   obtain⟨⟨f0,f1,f2,f3,f4,f5,f6,f7,f8,f9⟩,_⟩:=uZ HQ w21 (uZ HX21)
   have CC:=hZ (expr_code q y _ w21 ((uZ HQ) w21 (uZ HX21)).2.2.1 ((uZ HQ) w21 (uZ HX21)).2.1 (uZ HBq).2 ((uZ HRow) w21 ((uZ HQ) w21 (uZ HX21)).2.2.2.2).2.1)
   rw [(uZ HSE).2] at CC
   go_wp2_with fail
   refine(uZ CC).mono ?_
   rintro e w22 ⟨rfl,bb⟩
   have HX22:=hZ ((uZ HX21).trans (bb.mono (uZ HX21).size))
   clear bb CC f0 f1 f2 f3 f4 f5 f6 f7 f8 f9
   obtain⟨⟨e0,e1,e2,e3,e4,e5,e6,e7,e8,e9⟩,_⟩:=uZ HK w22 ((uZ HQ) w22 (uZ HX22)).2.2.2.1
   have CC:=hZ (prog_doc B y _ w22 (Nat.le_trans (uZ HBq).1 ((uZ HQ) w22 (uZ HX22)).2.2.1) (uZ HK w22 ((uZ HQ) w22 (uZ HX22)).2.2.2.1).2)
   rw [(uZ HSE).1] at CC
   go_wp2_with fail
   refine(uZ CC).mono ?_
   rintro e w23 ⟨rfl,bb⟩
   have HX23:=hZ ((uZ HX22).trans (bb.mono (uZ HX22).size))
   clear bb CC e0 e1 e2 e3 e4 e5 e6 e7 e8 e9
   obtain⟨⟨e0,e1,e2,e3,e4,e5,e6,e7,e8,e9⟩,_⟩:=uZ HK w23 ((uZ HQ) w23 (uZ HX23)).2.2.2.1
   have CC:=hZ (rexpr_any B y _ w23 (Nat.le_trans (uZ HBq).1 ((uZ HQ) w23 (uZ HX23)).2.2.1) (uZ HK w23 ((uZ HQ) w23 (uZ HX23)).2.2.2.1).2)
   rw [(uZ HSE).2] at CC
   go_wp2_with fail
   refine(uZ CC).mono ?_
   rintro e w24 ⟨rfl,bb⟩
   have HX24:=hZ ((uZ HX23).trans (bb.mono (uZ HX23).size))
   clear bb CC e0 e1 e2 e3 e4 e5 e6 e7 e8 e9
   go_upto_region 9 with fail
   have HD0:Hid (Below w24.heap.size w24 w24.drew):=hZ ((Below.refl _ _).drew)
   refine till_begin (S:=fun w'=>Below w24.heap.size w24 w') 6 (by kernel_rfl) ?_
   obtain⟨W0,hW0⟩:∃W0,w24.drew=W0:=⟨_,rfl⟩
   try rw [hW0]
   rw [hW0] at HD0
   clear hW0
   refine tK 0 (v:=.agg #[.int .i64 y.k,.string y.t,.int .i64 vk5,.int .i64 vn5,.string vs5,.slice al5 ll5 cl5,.slice ak5 lk5 ck5,.bool y.f,.slice a5 n5 cc5,.int .i64 y.p]) (some 51) rfl rfl rfl (by kernel_rfl) (fun _ _ _ h=>h) (Or.inl ⟨by rfl,fun u hu=>by obtain⟨⟨f0,f1,f2,f3,f4,f5,f6,f7,f8,f9⟩,_⟩:=uZ HQ u ((uZ HX24).trans (Below.mono hu (uZ HX24).size));obtain⟨⟨e0,e1,e2,e3,e4,e5,e6,e7,e8,e9⟩,_⟩:=uZ HK u ((uZ HQ) u ((uZ HX24).trans (Below.mono hu (uZ HX24).size))).2.2.2.1;go_simp⟩) (uZ HD0) ?_
   try simp only [Act.put,sA,sB,sC]
   refine tK 1 (v:=.slice (some b) n cl) (some 52) rfl rfl rfl (by kernel_rfl) (fun _ _ _ h=>h) (Or.inl ⟨by rfl,fun u hu=>by obtain⟨⟨f0,f1,f2,f3,f4,f5,f6,f7,f8,f9⟩,_⟩:=uZ HQ u ((uZ HX24).trans (Below.mono hu (uZ HX24).size));obtain⟨⟨e0,e1,e2,e3,e4,e5,e6,e7,e8,e9⟩,_⟩:=uZ HK u ((uZ HQ) u ((uZ HX24).trans (Below.mono hu (uZ HX24).size))).2.2.2.1;go_simp⟩) (uZ HD0) ?_
   try simp only [Act.put,sA,sB,sC]
   refine tK 2 (v:=.int .i64 (i:Int)) (some 53) rfl rfl rfl (by kernel_rfl) (fun _ _ _ h=>h) (Or.inl ⟨by rfl,fun u hu=>by obtain⟨⟨f0,f1,f2,f3,f4,f5,f6,f7,f8,f9⟩,_⟩:=uZ HQ u ((uZ HX24).trans (Below.mono hu (uZ HX24).size));obtain⟨⟨e0,e1,e2,e3,e4,e5,e6,e7,e8,e9⟩,_⟩:=uZ HK u ((uZ HQ) u ((uZ HX24).trans (Below.mono hu (uZ HX24).size))).2.2.2.1;go_simp⟩) (uZ HD0) ?_
   try simp only [Act.put,sA,sB,sC]
   refine tK 3 (v:=.pointer (some (b.add (i * 10)))) (some 54) rfl rfl rfl (by kernel_rfl) (fun _ _ _ h=>h) (Or.inl ⟨by rfl,fun u hu=>by obtain⟨⟨f0,f1,f2,f3,f4,f5,f6,f7,f8,f9⟩,_⟩:=uZ HQ u ((uZ HX24).trans (Below.mono hu (uZ HX24).size));obtain⟨⟨e0,e1,e2,e3,e4,e5,e6,e7,e8,e9⟩,_⟩:=uZ HK u ((uZ HQ) u ((uZ HX24).trans (Below.mono hu (uZ HX24).size))).2.2.2.1;go_simp⟩) (uZ HD0) ?_
   try simp only [Act.put,sA,sB,sC]
   refine tK 4 (v:=.agg #[.int .i64 y.k,.string y.t,.int .i64 vky,.int .i64 vny,.string vsy,.slice aly lly cly,.slice aky lky cky,.bool y.f,.slice ay ny ccy,.int .i64 y.p]) (some 55) rfl rfl rfl (by kernel_rfl) (fun _ _ _ h=>h) (Or.inl ⟨by rfl,fun u hu=>by obtain⟨⟨f0,f1,f2,f3,f4,f5,f6,f7,f8,f9⟩,_⟩:=uZ HQ u ((uZ HX24).trans (Below.mono hu (uZ HX24).size));obtain⟨⟨e0,e1,e2,e3,e4,e5,e6,e7,e8,e9⟩,_⟩:=uZ HK u ((uZ HQ) u ((uZ HX24).trans (Below.mono hu (uZ HX24).size))).2.2.2.1;go_simp⟩) (uZ HD0) ?_
   try simp only [Act.put,sA,sB,sC]
   refine till_one 5 (by kernel_rfl) rfl (fun K hK=>?_)
   go_simp
   refine(still_any y _ _ q W0 ((uZ HQ) W0 ((uZ HX24).trans (Below.mono (uZ HD0) (uZ HX24).size))).2.1 ((uZ HK W0 ((uZ HQ) W0 ((uZ HX24).trans (Below.mono (uZ HD0) (uZ HX24).size))).2.2.2.1).2.to (fun _ _=>rfl) (fun _ hb=>Nat.lt_of_lt_of_le hb (uZ HBq).1)) ((uZ HQ) W0 ((uZ HX24).trans (Below.mono (uZ HD0) (uZ HX24).size))).2.2.1).mono ?_
   rintro e W1 ⟨rfl,bb⟩
   have HD1:=hZ ((uZ HD0).trans (bb.mono (uZ HD0).size))
   clear bb
   go_wp2_with fail
   refine hK.out _ _ (Or.inr (uZ HD1)) ?_
   clear hK K HD0
   try simp only [Act.put,sA,sB,sC]
   refine till_one 6 (by kernel_rfl) rfl (fun K hK=>?_)
   go_simp
   refine hK.out _ _ (Or.inl (by first|rfl|trivial)) ?_
   clear hK K
   try simp only [Act.put,sA,sB,sC]
   refine till_done (by kernel_rfl) ?_ _
   have HX25:=hZ ((uZ HX24).trans ((uZ HD1).mono (uZ HX24).size))
   clear HD1 HX24
   obtain⟨w25,hw25⟩:∃u,u=W1:=⟨_,rfl⟩
   subst hw25
   obtain⟨RR,hRR⟩:∃r,(decide (y.k=1) && rgB y)=r:=⟨_,rfl⟩
   have HRR:=hZ hRR
   clear hRR
   have g1:(RR != RR)=false:=by simp
   have g2:(S1.toList == S1.toList)=true:=by simp
   have g3:(E1 != E1)=false:=by simp
   have g4:(S2.toList == S2.toList)=true:=by simp
   have g5:(E2 != E2)=false:=by simp
   go_upto_region 10 with fail
   have HD0:Hid (Below w25.heap.size w25 w25.drew):=hZ ((Below.refl _ _).drew)
   refine till_begin (S:=fun w'=>Below w25.heap.size w25 w') 99 (by kernel_rfl) ?_
   obtain⟨W0,hW0⟩:∃W0,w25.drew=W0:=⟨_,rfl⟩
   try rw [hW0]
   rw [hW0] at HD0
   clear hW0
   refine till_takeN 0 (v:=.agg #[.int .i64 y.k,.string y.t,.int .i64 vk5,.int .i64 vn5,.string vs5,.slice al5 ll5 cl5,.slice ak5 lk5 ck5,.bool y.f,.slice a5 n5 cc5,.int .i64 y.p]) (some 57) rfl rfl rfl (by kernel_rfl) (by kernel_rfl) (by kernel_rfl) (fun _ _ _ h=>h) (Or.inl ⟨by rfl,fun u hu=>by obtain⟨⟨f0,f1,f2,f3,f4,f5,f6,f7,f8,f9⟩,_⟩:=uZ HQ u ((uZ HX25).trans (Below.mono hu (uZ HX25).size));obtain⟨⟨e0,e1,e2,e3,e4,e5,e6,e7,e8,e9⟩,_⟩:=uZ HK u ((uZ HQ) u ((uZ HX25).trans (Below.mono hu (uZ HX25).size))).2.2.2.1;go_simp⟩) (uZ HD0) ?_
   try simp only [Act.put,sA,sB,sC]
   refine till_takeN 2 (v:=.slice (some b) n cl) (some 59) rfl rfl rfl (by kernel_rfl) (by kernel_rfl) (by kernel_rfl) (fun _ _ _ h=>h) (Or.inl ⟨by rfl,fun u hu=>by obtain⟨⟨f0,f1,f2,f3,f4,f5,f6,f7,f8,f9⟩,_⟩:=uZ HQ u ((uZ HX25).trans (Below.mono hu (uZ HX25).size));obtain⟨⟨e0,e1,e2,e3,e4,e5,e6,e7,e8,e9⟩,_⟩:=uZ HK u ((uZ HQ) u ((uZ HX25).trans (Below.mono hu (uZ HX25).size))).2.2.2.1;go_simp⟩) (uZ HD0) ?_
   try simp only [Act.put,sA,sB,sC]
   refine till_takeN 3 (v:=.int .i64 (i:Int)) (some 60) rfl rfl rfl (by kernel_rfl) (by kernel_rfl) (by kernel_rfl) (fun _ _ _ h=>h) (Or.inl ⟨by rfl,fun u hu=>by obtain⟨⟨f0,f1,f2,f3,f4,f5,f6,f7,f8,f9⟩,_⟩:=uZ HQ u ((uZ HX25).trans (Below.mono hu (uZ HX25).size));obtain⟨⟨e0,e1,e2,e3,e4,e5,e6,e7,e8,e9⟩,_⟩:=uZ HK u ((uZ HQ) u ((uZ HX25).trans (Below.mono hu (uZ HX25).size))).2.2.2.1;go_simp⟩) (uZ HD0) ?_
   try simp only [Act.put,sA,sB,sC]
   refine till_takeN 4 (v:=.pointer (some (b.add (i * 10)))) (some 61) rfl rfl rfl (by kernel_rfl) (by kernel_rfl) (by kernel_rfl) (fun _ _ _ h=>h) (Or.inl ⟨by rfl,fun u hu=>by obtain⟨⟨f0,f1,f2,f3,f4,f5,f6,f7,f8,f9⟩,_⟩:=uZ HQ u ((uZ HX25).trans (Below.mono hu (uZ HX25).size));obtain⟨⟨e0,e1,e2,e3,e4,e5,e6,e7,e8,e9⟩,_⟩:=uZ HK u ((uZ HQ) u ((uZ HX25).trans (Below.mono hu (uZ HX25).size))).2.2.2.1;go_simp⟩) (uZ HD0) ?_
   try simp only [Act.put,sA,sB,sC]
   refine till_takeN 5 (v:=.agg #[.int .i64 y.k,.string y.t,.int .i64 vky,.int .i64 vny,.string vsy,.slice aly lly cly,.slice aky lky cky,.bool y.f,.slice ay ny ccy,.int .i64 y.p]) (some 62) rfl rfl rfl (by kernel_rfl) (by kernel_rfl) (by kernel_rfl) (fun _ _ _ h=>h) (Or.inl ⟨by rfl,fun u hu=>by obtain⟨⟨f0,f1,f2,f3,f4,f5,f6,f7,f8,f9⟩,_⟩:=uZ HQ u ((uZ HX25).trans (Below.mono hu (uZ HX25).size));obtain⟨⟨e0,e1,e2,e3,e4,e5,e6,e7,e8,e9⟩,_⟩:=uZ HK u ((uZ HQ) u ((uZ HX25).trans (Below.mono hu (uZ HX25).size))).2.2.2.1;go_simp⟩) (uZ HD0) ?_
   try simp only [Act.put,sA,sB,sC]
   refine till_one 1 (by kernel_rfl) rfl (fun K hK=>?_)
   go_simp
   have CC:=Right_any q y _ W0 ((uZ HQ) W0 ((uZ HX25).trans (Below.mono (uZ HD0) (uZ HX25).size))).2.2.1 ((uZ HQ) W0 ((uZ HX25).trans (Below.mono (uZ HD0) (uZ HX25).size))).2.1
   rw [uZ HRR] at CC
   refine CC.mono ?_
   clear CC
   rintro e W1 ⟨rfl,bb⟩
   have HD1:=hZ ((uZ HD0).trans (bb.mono (uZ HD0).size))
   clear bb
   go_wp2_with fail
   refine hK.out _ _ (Or.inr (uZ HD1)) ?_
   clear hK K HD0
   try simp only [Act.put,sA,sB,sC]
   refine till_one 6 (by kernel_rfl) rfl (fun K hK=>?_)
   go_simp
   have CC:=RightD_any B y _ W1 (Nat.le_trans (uZ HBq).1 ((uZ HQ) W1 ((uZ HX25).trans (Below.mono (uZ HD1) (uZ HX25).size))).2.2.1) (uZ HK W1 ((uZ HQ) W1 ((uZ HX25).trans (Below.mono (uZ HD1) (uZ HX25).size))).2.2.2.1).2
   rw [uZ HRR] at CC
   refine CC.mono ?_
   clear CC
   rintro e W2 ⟨rfl,bb⟩
   have HD2:=hZ ((uZ HD1).trans (bb.mono (uZ HD1).size))
   clear bb
   go_wp2_with fail
   refine hK.out _ _ (Or.inr (uZ HD2)) ?_
   clear hK K HD1
   try simp only [Act.put,sA,sB,sC]
   refine till_one 7 (by kernel_rfl) rfl (fun K hK=>?_)
   go_simp
   refine hK.out _ _ (Or.inr (uZ HD2)) ?_
   clear hK K
   try simp only [Act.put,sA,sB,sC]
   refine till_one 8 (by kernel_rfl) rfl (fun K hK=>?_)
   go_simp
   refine hK.out _ _ (Or.inr (uZ HD2)) ?_
   clear hK K
   try simp only [Act.put,sA,sB,sC]
   refine till_takeN 9 (v:=.string S1) (some 66) rfl rfl rfl (by kernel_rfl) (by kernel_rfl) (by kernel_rfl) (fun _ _ _ h=>h) (Or.inl ⟨by rfl,fun u hu=>by obtain⟨⟨f0,f1,f2,f3,f4,f5,f6,f7,f8,f9⟩,_⟩:=uZ HQ u ((uZ HX25).trans (Below.mono hu (uZ HX25).size));obtain⟨⟨e0,e1,e2,e3,e4,e5,e6,e7,e8,e9⟩,_⟩:=uZ HK u ((uZ HQ) u ((uZ HX25).trans (Below.mono hu (uZ HX25).size))).2.2.2.1;go_simp⟩) (uZ HD2) ?_
   try simp only [Act.put,sA,sB,sC]
   refine till_one 10 (by kernel_rfl) rfl (fun K hK=>?_)
   go_simp
   refine hK.out _ _ (Or.inr (uZ HD2)) ?_
   clear hK K
   try simp only [Act.put,sA,sB,sC]
   refine till_one 11 (by kernel_rfl) rfl (fun K hK=>?_)
   go_simp
   refine hK.out _ _ (Or.inr (uZ HD2)) ?_
   clear hK K
   try simp only [Act.put,sA,sB,sC]
   refine till_one 12 (by kernel_rfl) rfl (fun K hK=>?_)
   go_simp
   refine hK.out _ _ (Or.inr (uZ HD2)) ?_
   clear hK K
   try simp only [Act.put,sA,sB,sC]
   refine till_one 13 (by kernel_rfl) rfl (fun K hK=>?_)
   go_simp
   refine hK.out _ _ (Or.inr (uZ HD2)) ?_
   clear hK K
   try simp only [Act.put,sA,sB,sC]
   refine till_takeN 14 (v:=.int .i64 E1) (some 71) rfl rfl rfl (by kernel_rfl) (by kernel_rfl) (by kernel_rfl) (fun _ _ _ h=>h) (Or.inl ⟨by rfl,fun u hu=>by obtain⟨⟨f0,f1,f2,f3,f4,f5,f6,f7,f8,f9⟩,_⟩:=uZ HQ u ((uZ HX25).trans (Below.mono hu (uZ HX25).size));obtain⟨⟨e0,e1,e2,e3,e4,e5,e6,e7,e8,e9⟩,_⟩:=uZ HK u ((uZ HQ) u ((uZ HX25).trans (Below.mono hu (uZ HX25).size))).2.2.2.1;go_simp⟩) (uZ HD2) ?_
   try simp only [Act.put,sA,sB,sC]
   refine till_one 15 (by kernel_rfl) rfl (fun K hK=>?_)
   go_simp
   refine hK.out _ _ (Or.inr (uZ HD2)) ?_
   clear hK K
   try simp only [Act.put,sA,sB,sC]
   refine till_one 16 (by kernel_rfl) rfl (fun K hK=>?_)
   go_simp
   refine hK.out _ _ (Or.inr (uZ HD2)) ?_
   clear hK K
   try simp only [Act.put,sA,sB,sC]
   refine till_one 17 (by kernel_rfl) rfl (fun K hK=>?_)
   go_simp
   refine hK.out _ _ (Or.inr (uZ HD2)) ?_
   clear hK K
   try simp only [Act.put,sA,sB,sC]
   refine till_one 18 (by kernel_rfl) rfl (fun K hK=>?_)
   go_simp
   refine hK.out _ _ (Or.inr (uZ HD2)) ?_
   clear hK K
   try simp only [Act.put,sA,sB,sC]
   refine till_takeN 19 (v:=.string S2) (some 76) rfl rfl rfl (by kernel_rfl) (by kernel_rfl) (by kernel_rfl) (fun _ _ _ h=>h) (Or.inl ⟨by rfl,fun u hu=>by obtain⟨⟨f0,f1,f2,f3,f4,f5,f6,f7,f8,f9⟩,_⟩:=uZ HQ u ((uZ HX25).trans (Below.mono hu (uZ HX25).size));obtain⟨⟨e0,e1,e2,e3,e4,e5,e6,e7,e8,e9⟩,_⟩:=uZ HK u ((uZ HQ) u ((uZ HX25).trans (Below.mono hu (uZ HX25).size))).2.2.2.1;go_simp⟩) (uZ HD2) ?_
   try simp only [Act.put,sA,sB,sC]
   refine till_one 20 (by kernel_rfl) rfl (fun K hK=>?_)
   go_simp
   refine hK.out _ _ (Or.inr (uZ HD2)) ?_
   clear hK K
   try simp only [Act.put,sA,sB,sC]
   refine till_one 21 (by kernel_rfl) rfl (fun K hK=>?_)
   go_simp
   refine hK.out _ _ (Or.inr (uZ HD2)) ?_
   clear hK K
   try simp only [Act.put,sA,sB,sC]
   refine till_one 22 (by kernel_rfl) rfl (fun K hK=>?_)
   go_simp
   refine hK.out _ _ (Or.inr (uZ HD2)) ?_
   clear hK K
   try simp only [Act.put,sA,sB,sC]
   refine till_one 23 (by kernel_rfl) rfl (fun K hK=>?_)
   go_simp
   refine hK.out _ _ (Or.inr (uZ HD2)) ?_
   clear hK K
   try simp only [Act.put,sA,sB,sC]
   refine till_takeN 24 (v:=.int .i64 E2) (some 81) rfl rfl rfl (by kernel_rfl) (by kernel_rfl) (by kernel_rfl) (fun _ _ _ h=>h) (Or.inl ⟨by rfl,fun u hu=>by obtain⟨⟨f0,f1,f2,f3,f4,f5,f6,f7,f8,f9⟩,_⟩:=uZ HQ u ((uZ HX25).trans (Below.mono hu (uZ HX25).size));obtain⟨⟨e0,e1,e2,e3,e4,e5,e6,e7,e8,e9⟩,_⟩:=uZ HK u ((uZ HQ) u ((uZ HX25).trans (Below.mono hu (uZ HX25).size))).2.2.2.1;go_simp⟩) (uZ HD2) ?_
   try simp only [Act.put,sA,sB,sC]
   refine till_one 25 (by kernel_rfl) rfl (fun K hK=>?_)
   go_simp
   refine hK.out _ _ (Or.inr (uZ HD2)) ?_
   clear hK K
   try simp only [Act.put,sA,sB,sC]
   refine till_one 26 (by kernel_rfl) rfl (fun K hK=>?_)
   go_simp
   refine hK.out _ _ (Or.inr (uZ HD2)) ?_
   clear hK K
   try simp only [Act.put,sA,sB,sC]
   refine till_one 27 (by kernel_rfl) rfl (fun K hK=>?_)
   go_simp
   refine hK.out _ _ (Or.inr (uZ HD2)) ?_
   clear hK K
   try simp only [Act.put,sA,sB,sC]
   refine till_one 28 (by kernel_rfl) rfl (fun K hK=>?_)
   go_simp
   refine hK.out _ _ (Or.inr (uZ HD2)) ?_
   clear hK K
   try simp only [Act.put,sA,sB,sC]
   refine till_one 29 (by kernel_rfl) rfl (fun K hK=>?_)
   go_simp
   refine hK.out _ _ (Or.inr (uZ HD2)) ?_
   clear hK K
   try simp only [Act.put,sA,sB,sC]
   refine till_one 30 (by kernel_rfl) rfl (fun K hK=>?_)
   go_simp
   refine hK.out _ _ (Or.inr (uZ HD2)) ?_
   clear hK K
   try simp only [Act.put,sA,sB,sC]
   refine till_one 31 (by kernel_rfl) rfl (fun K hK=>?_)
   go_simp
   refine hK.out _ _ (Or.inr (uZ HD2)) ?_
   clear hK K
   try simp only [Act.put,sA,sB,sC]
   refine till_done (by kernel_rfl) ?_ _
   have HX26:=hZ ((uZ HQ) W2 ((uZ HX25).trans ((uZ HD2).mono (uZ HX25).size))).2.2.2.2
   go_wp2_with fail
   go_roundw
   case rel=>exact⟨i+1,by go_num,uZ HI1,HX26⟩
   case measure=>have:=uZ HI1;simp [intOf];omega
  ·have i1:¬(i:Int)<(n:Int):=by omega
   have CS:=hZ (shown18 w8 (by have:=((uZ HRow) w8 (uZ HX)).2.2;have:=uZ HG0;omega) ((uZ HRow) w8 (uZ HX)).2.1)
   go_wp2_with fail
   refine(uZ CS).mono ?_
   rintro e w5 ⟨rfl,bb⟩
   have HX5:=hZ ((uZ HX).trans (bb.mono (uZ HX).size))
   clear bb CS
   go_wp2_with fail
   go_ret
   exact⟨rfl,uZ HX5⟩
end Go.Proofs.YtlkeaaopdnnceaaGreatDoor
