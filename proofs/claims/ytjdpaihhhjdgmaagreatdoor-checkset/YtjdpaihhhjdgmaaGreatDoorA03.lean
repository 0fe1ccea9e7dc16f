/-
  Layer 19 (check): the scope in memory: declare; conditions: the names' sizes.
-/
import Derived.Test.YtjdpaihhhjdgmaaGreatDoorA02
set_option linter.unusedVariables false
set_option linter.unusedSimpArgs false
set_option maxRecDepth 100000
set_option maxHeartbeats 8000000
namespace Go.Proofs.YtjdpaihhhjdgmaaGreatDoor
open Go.RowKit
set_option linter.unusedVariables false
set_option linter.unusedSimpArgs false
theorem infoS1:(Tryz.prog.info? 9).map (fun i=>(i.zero,i.size,i.bytes))=some (some (.string ⟨#[]⟩),1,16):=by kernel_rfl
theorem infoB1:(Tryz.prog.info? 4).map (fun i=>(i.zero,i.size,i.bytes))=some (some (.bool false),1,1):=by kernel_rfl
theorem own_nb {w:World} {base size n nn b:Nat} {e:TypeId} {v:Value} {xs:List Value} {f:List UInt8→Option Int} (h:w.ownsRow base e size v n xs) (hm:Nms w b nn f):v.ownBlock=none∨v.ownBlock≠some b:=by
 rcases own_form h with ⟨rfl,_⟩|⟨g,cap,cur,rfl,_,_,hg⟩
 ·exact Or.inl rfl
 ·refine Or.inr (fun e2=>?_)
  have e3:g=b:=by simpa [Value.ownBlock] using e2
  subst e3
  exact map_ne hm hg rfl
theorem own_two {w:World} {b1 b2 s1 s2 n1 n2:Nat} {e1 e2:TypeId} {v1 v2:Value} {x1 x2:List Value} (h1:w.ownsRow b1 e1 s1 v1 n1 x1) (h2:w.ownsRow b2 e2 s2 v2 n2 x2) (hn:(e1 == e2)=false) (z:Nat) (hz:v1.ownBlock=some z) (e:v2.ownBlock=some z):False:=by
 rcases own_form h2 with ⟨rfl,_⟩|⟨g,cap,cur,rfl,_,_,hg⟩
 ·cases e
 ·have e3:g=z:=by simpa [Value.ownBlock] using e
  subst e3
  rcases own_neK h1 hg hn with h|h
  ·rw [h] at hz;cases hz
  ·exact h hz
theorem own_two2 {w:World} {b1 b2 s1 s2 n1 n2:Nat} {e1 e2:TypeId} {v1 v2:Value} {x1 x2:List Value} (h1:w.ownsRow b1 e1 s1 v1 n1 x1) (h2:w.ownsRow b2 e2 s2 v2 n2 x2) (hn:(e1 == e2)=false):v1.ownBlock=none∨v1.ownBlock≠v2.ownBlock:=by
 cases hz:v1.ownBlock with
 |none=>exact Or.inl rfl
 |some z=>exact Or.inr (fun e=>own_two h1 h2 hn z hz e.symm)
theorem own_neq {w:World} {base size n q:Nat} {e T:TypeId} {v:Value} {xs:List Value} {c:Array Value} (h:w.ownsRow base e size v n xs) (hq:w.heap[q]?=some (.cells c T (0,0))) (hn:(e == T)=false):some q≠v.ownBlock:=fun e2=>by
 rcases own_neK h hq hn with h1|h1
 ·rw [h1] at e2;cases e2
 ·exact h1 e2.symm
theorem own_nbq {w:World} {base size n nn b:Nat} {e:TypeId} {v:Value} {xs:List Value} {f:List UInt8→Option Int} (h:w.ownsRow base e size v n xs) (hm:Nms w b nn f):some b≠v.ownBlock:=fun e2=>by
 rcases own_nb h hm with h1|h1
 ·rw [h1] at e2;cases e2
 ·exact h1 e2.symm
theorem own_bes {w w':World} {P:Nat→Prop} {base size n:Nat} {e:TypeId} {v:Value} {xs:List Value} (hb:Besk P w w') (h:w.ownsRow base e size v n xs) (hn:∀z,v.ownBlock=some z→¬P z):w'.ownsRow base e size v n xs:=by
 refine⟨h.1,?_⟩
 rcases h.2 with ⟨e1,e0⟩|⟨g,cap,cur,e1,hbg,hg,rest⟩
 ·exact Or.inl ⟨e1,e0⟩
 ·exact Or.inr ⟨g,cap,cur,e1,hbg,(hb.block g (ltR hg) (hn g (by rw [e1];rfl))).trans hg,rest⟩
theorem bes_on {P R:Nat→Prop} {w w1 w2:World} (h:Besk P w w1) (h':Besk R w1 w2) (hr:∀k,R k→P k):Besk P w w2:=
 h.trans ⟨h'.os,h'.tape,h'.output,h'.size,fun k hk hn=>h'.block k hk (fun hp=>hn (hr k hp))⟩
theorem bA_of (t:ByteArray):bA t.data.toList=t:=by
 cases t
 simp [bA]
theorem wpl_oneC {w:World} {ops:Array Oper} {rest:List Oper} {o:Oper} {a:Act} {Q:Exit→Act→World→Prop} (hgd:o.guard=none) (sl x:Operand) (T e:TypeId) (i0:TypeInfo) (z:Value) (size bytes:Nat)
  (hu:Tryz.prog.underlying T=some (.slice e)) (hi:Tryz.prog.info? e=some i0) (hz:i0.zero=some z) (hs1:i0.size=size) (hby:i0.bytes=bytes) (hzs:z.cells.size=size) (hsz:0<size)
  (ho:o.op=.call { callee:=.builtin .append,args:=#[sl,x],argTypes:=#[T,T] })
  (base n:Nat) (v:Value) (xs:List Value) (A:List Value) (hA:A.length=size) (h1:∀u∈A,u.oneCell'=true) (hs:a.eval sl=v) (hown:w.ownsRow base e size v n xs)
  (hx:a.eval x=.slice (some ⟨w.heap.size,0,none⟩) 1 1) (hn:n+1≤maxLen) (hbytes:(n+1) * bytes≤140737488355328) (hbase:base≤w.heap.size)
  (h:∀v' w',Hid (w'.ownsRow base e size v' (n+1) (xs++A)∧w.grownBy w' v.ownBlock∧∀b,v'.ownBlock=some b→v.ownBlock=some b∨w.heap.size≤b)→wpList Tryz.prog ops Q rest (a.put o.dst v') w') :
  wpList Tryz.prog ops Q (o :: rest) a (w.alloc (.cells A.toArray e)):=by
 refine wpList_plain hgd fun K hK=>?_
 have hnew:=heap_alloc_new w (.cells A.toArray e)
 have hz1:(w.alloc (.cells A.toArray e)).heap.size=w.heap.size+1:=by simp
 obtain⟨v',w',hrun,r1,r2,_,r4⟩:=run_append_own_at (P:=Tryz.prog) (w.alloc (.cells A.toArray e)) base T o.type e i0 z size bytes hu hi hz hs1 hby hzs hsz v n xs (hown.alloc _) ⟨w.heap.size,0,none⟩ 1 1 A (by omega) (fun j u hj=>World.news_of_block hnew j u (by simpa using hj)) h1 hn hbytes (by omega)
 unfold Oper.wp
 simp only [execOp,ho,resolve,invoke,builtin,Sem.run_bind,Sem.run_pure,Result.andThen_ok,List.map_toArray,List.map_cons,List.map_nil,hs,hx,hrun]
 refine hK _ _ (h v' w' ⟨r1,⟨r2.os,r2.tape,r2.output,by have:=r2.size;omega,fun k hk hne=>(r2.block k (by omega) hne).trans (heap_alloc_old w _ hk)⟩,fun b hb'=>?_⟩)
 rcases r4 with e'|e'
 ·exact Or.inl (by rw [←e'];exact hb')
 ·rw [hb'] at e'
  exact Or.inr (by rw [Option.some.inj e',hz1];omega)
theorem own_slice {w:World} {base size n:Nat} {e:TypeId} {v:Value} {xs:List Value} (h:w.ownsRow base e size v n xs):∃ao cap,v=.slice ao n cap:=by
 rcases own_form h with ⟨rfl,rfl⟩|⟨g,cap,cur,rfl,_,_,_⟩
 ·exact⟨_,_,rfl⟩
 ·exact⟨_,_,rfl⟩
theorem step_oneC {w:World} {ops:Array Oper} {o:Oper} {a:Act} {K:Act→World→Prop} {Q':Exit→Act→World→Prop} {E:Prop} (hgd:o.guard=none) (sl x:Operand) (t e:TypeId) (i:TypeInfo) (z:Value) (size bytes:Nat)
  (ho:o.op=.call { callee:=.builtin .append,args:=#[sl,x],argTypes:=#[t,t] }) (ht:Tryz.prog.underlying t=some (.slice e)) (hi:Tryz.prog.info? e=some i) (hz:i.zero=some z) (hsize:i.size=size) (hby:i.bytes=bytes) (hzs:z.cells.size=size) (hsz:0<size)
  (base n:Nat) (v:Value) (xs:List Value) (hs:a.eval sl=v) (hown:w.ownsRow base e size v n xs) (ad:Addr) (cc:Nat) (news:List Value) (hx:a.eval x=.slice (some ad) 1 cc) (hl:news.length=size) (hnews:∀j u,news[j]?=some u→w.cell? (ad.add j)=some u) (h1:∀u∈news,u.oneCell'=true) (hn:n+1≤maxLen) (hb8:(n+1) * bytes≤140737488355328) (hbase:base≤w.heap.size)
  (h:∀v' w',Hid (w'.ownsRow base e size v' (n+1) (xs++news)∧w.grownBy w' v.ownBlock∧∀b,v'.ownBlock=some b→v.ownBlock=some b∨w.heap.size≤b)→K (a.put o.dst v') w') :
  if Region.wanted o (yielded ops a.tmps)=true then Oper.wp Tryz.prog o a w K Q' else E:=by
 have hw:Region.wanted o (yielded ops a.tmps)=true:=by simp [Region.wanted,hgd]
 rw [if_pos hw]
 obtain⟨v',w',hrun,r1,r2,_,r4⟩:=run_append_own_at (P:=Tryz.prog) w base t o.type e i z size bytes ht hi hz hsize hby hzs hsz v n xs hown ad 1 cc news (by omega) hnews h1 hn hb8 hbase
 unfold Oper.wp
 simp only [execOp,ho,resolve,invoke,builtin,Sem.run_bind,Sem.run_pure,Result.andThen_ok,List.map_toArray,List.map_cons,List.map_nil,hs,hx,hrun]
 refine h v' w' (hZ ⟨r1,r2,fun b hb'=>?_⟩)
 rcases r4 with e'|e'
 ·exact Or.inl (by rw [←e'];exact hb')
 ·rw [hb'] at e'
  exact Or.inr (by rw [Option.some.inj e'];exact Nat.le_refl _)
def DclP (w w':World) (lo q b n:Nat) (nv sv:Value) (s:Sco):Prop:=∃nv' sv' n',ScM w' lo q b n' nv' sv' s∧Mvd w w' q b nv sv nv' sv'∧n'≤n+1
theorem declare_any {k vk vn p:Int} {t vs:ByteArray} {al ak a:Option Addr} {ll cl lk ck m cc:Nat} {f:Bool} {w:World} {lo q b n:Nat} {nv sv:Value} {s:Sco} {x:Bool} (ht:t.size≤maxLen) (hfew:s.vars.length<1099511627776∧n<1099511627776) (h:ScM w lo q b n nv sv s):Calls Tryz.prog 44 #[.pointer (some ⟨q,0,none⟩),.agg #[.int .i64 k,.string t,.int .i64 vk,.int .i64 vn,.string vs,.slice al ll cl,.slice ak lk ck,.bool f,.slice a m cc,.int .i64 p],.bool x] w fun e w'=>e=.returned (.agg #[.int .i64 (dclS s t.data.toList p x).1.1,.int .i64 (dclS s t.data.toList p x).1.2])∧DclP w w' lo q b n nv sv (dclS s t.data.toList p x).2:=by
 have hqw:=ltR h.hq
 have h0:=h
 obtain⟨w2,hw2,n2,r2,b2⟩:=bxs k vk vn p t vs al ak a ll cl lk ck m cc f w
 have H2:=hZ (h.below b2)
 obtain⟨G,hG⟩:=eX (w.heap.size)
 rw [hG] at n2 r2
 have HG2:=hZ (And.intro hG b2)
 obtain⟨R,hR⟩:=eX (dclS s t.data.toList p x)
 rw [hR]
 go_enter Tryz.func44,Tryz.ntmps44
 go_upto_region 1 with fail
 try rw [hw2]
 try rw [hG]
 clear hw2 h b2 hG
 obtain⟨c0,c1,c2,c3,c4⟩:=five_at (uZ H2).hq
 obtain⟨m0,m1,m2,m3,m4,m5,m6,m7,m8,m9⟩:=ten_at n2
 have ha:∀z,(Instr.lookup 40 (.map (some b)) (.string t) true).run Tryz.prog (w2.drewN z)=.ok (.tuple #[.int .i64 ((ixL s.vars 0 t.data.toList).getD 0),.bool (ixL s.vars 0 t.data.toList).isSome]) (w2.drewN z):=fun z=>((uZ H2).hm.later (w':=w2.drewN z) rfl).ask ht _ Tryz.underlying40
 cases ho:ixL s.vars 0 t.data.toList with
 |some i=>
  rw [ho] at ha
  obtain rfl:R=((p,191),s):=by rw [←hR];unfold dclS;rw [if_pos];exact Classical.byContradiction fun hn=>by rw [(ixL_none s.vars 0 _).2 hn] at ho;cases ho
  have HS:=hZ h0
  go_quiet (fail)
  obtain⟨w4,hw4⟩:=eX (w2.drewN nq)
  have b4:Below w2.heap.size w2 w4:=by rw [←hw4];exact bdrew (Below.refl _ _) nq
  rw [hw4]
  have H4:=hZ ((uZ H2).below b4)
  have n4:=(b4.block _ (ltR n2)).trans n2
  have r4:=(b4.block _ (ltR r2)).trans r2
  have HG4:=hZ (And.intro (uZ HG2).1 ((uZ HG2).2.trans (b4.mono (uZ HG2).2.size)))
  clear hw4 b4 ha H2 n2 r2 HG2 c0 c1 c2 c3 c4 m0 m1 m2 m3 m4 m5 m6 m7 m8 m9
  obtain⟨c0,c1,c2,c3,c4⟩:=five_at (uZ H4).hq
  obtain⟨m0,m1,m2,m3,m4,m5,m6,m7,m8,m9⟩:=ten_at n4
  have C:=hZ (wrg k vk vn p t vs al ak a ll cl lk ck m cc f 191 w4)
  go_wp2_with fail
  refine(uZ C).mono ?_
  rintro e w8 ⟨rfl,b8⟩
  have r8:=(b8.block _ (ltR r4)).trans r4
  obtain⟨k0,k1⟩:=two_at r8
  have y0:=frozen_of_row w8 (G+1) 0 _ _ r8
  have y1:=frozen_of_row w8 (G+1) 1 _ _ r8
  have HE:=hZ (And.intro (put2 r8 (.int .i64 p) (.int .i64 191)) (((((uZ HG4).2.trans (b8.mono (uZ HG4).2.size)).setCell (p:=⟨G+1,0,none⟩) (by rw [(uZ HG4).1];exact Nat.le_succ _) (.int .i64 p))).setCell (p:=⟨G+1,1,none⟩) (by rw [(uZ HG4).1];exact Nat.le_succ _) (.int .i64 191)))
  clear b8 r8 C m0 m1 m2 m3 m4 m5 m6 m7 m8 m9 c0 c1 c2 c3 c4
  go_wp2_with fail
  exact rtF (p:=6) rfl rfl (uZ HE).1 rfl ⟨rfl,nv,sv,n,(uZ HS).below (uZ HE).2,Mvd.of_below q b nv sv (uZ HE).2,Nat.le_succ _⟩
 |none=>
  rw [ho] at ha
  have hnt:=(ixL_none s.vars 0 _).1 ho
  obtain rfl:R=((0,0),{ s with vars:=s.vars++[t.data.toList],set:=s.set++[x] }):=by rw [←hR];unfold dclS;rw [if_neg hnt]
  clear hR
  go_quiet (fail)
  obtain⟨w4,hw4⟩:=eX (w2.drewN nq)
  have b4:Below w2.heap.size w2 w4:=by rw [←hw4];exact bdrew (Below.refl _ _) nq
  rw [hw4]
  have H4:=hZ ((uZ H2).below b4)
  have n4:=(b4.block _ (ltR n2)).trans n2
  have r4:=(b4.block _ (ltR r2)).trans r2
  have HG4:=hZ (And.intro (uZ HG2).1 ((uZ HG2).2.trans (b4.mono (uZ HG2).2.size)))
  clear hw4 b4 ha H2 n2 r2 HG2 c0 c1 c2 c3 c4 m0 m1 m2 m3 m4 m5 m6 m7 m8 m9
  obtain⟨c0,c1,c2,c3,c4⟩:=five_at (uZ H4).hq
  obtain⟨m0,m1,m2,m3,m4,m5,m6,m7,m8,m9⟩:=ten_at n4
  obtain⟨ao,ncap,rfl⟩:=own_slice (uZ H4).hnv
  have hlo4:=(uZ H4).hlo.2.2
  go_upto_region 4 with fail
  have HF:Hid (∀u,Below w4.heap.size w4 u→(u.cell? ⟨q,0,none⟩=some (.map (some b))∧u.cell? ⟨q,1,none⟩=some (.slice ao s.vars.length ncap)∧u.cell? ⟨q,2,none⟩=some (sv)∧u.cell? ⟨q,3,none⟩=some (.bool s.all)∧u.cell? ⟨q,4,none⟩=some (.int .i64 s.loops))∧u.cell? ⟨G,0,none⟩=some (.int .i64 k)∧u.cell? ⟨G,1,none⟩=some (.string t)∧u.cell? ⟨G,2,none⟩=some (.int .i64 vk)∧u.cell? ⟨G,3,none⟩=some (.int .i64 vn)∧u.cell? ⟨G,4,none⟩=some (.string vs)∧u.cell? ⟨G,5,none⟩=some (.slice al ll cl)∧u.cell? ⟨G,6,none⟩=some (.slice ak lk ck)∧u.cell? ⟨G,7,none⟩=some (.bool f)∧u.cell? ⟨G,8,none⟩=some (.slice a m cc)∧u.cell? ⟨G,9,none⟩=some (.int .i64 p)):=hZ (fun u hu=>⟨five_at ((uZ H4).below hu).hq,ten_at ((hu.block G (ltR n4)).trans n4)⟩)
  have HS0:Hid (Below w4.heap.size w4 w4.drew):=hZ ((Below.refl _ _).drew)
  refine till_begin (S:=fun w'=>Below w4.heap.size w4 w') 11 (by kernel_rfl) ?_
  obtain⟨W0,hW0⟩:=eX (w4.drew)
  try rw [hW0]
  rw [hW0] at HS0
  clear hW0
  refine tK 0 (v:=.pointer (some ⟨q,0,none⟩)) (some 22) rfl rfl rfl (by kernel_rfl) (fun _ _ _ h=>h) (Or.inl ⟨by rfl,fun u hu=>by obtain⟨⟨c0,c1,c2,c3,c4⟩,m0,m1,m2,m3,m4,m5,m6,m7,m8,m9⟩:=uZ HF u hu;go_simp⟩) (uZ HS0) ?_
  try simp only [Act.put,sA,sB,sC]
  refine tK 1 (v:=.pointer (some ⟨q,0,none⟩)) (some 23) rfl rfl rfl (by kernel_rfl) (fun _ _ _ h=>h) (Or.inl ⟨by rfl,fun u hu=>by obtain⟨⟨c0,c1,c2,c3,c4⟩,m0,m1,m2,m3,m4,m5,m6,m7,m8,m9⟩:=uZ HF u hu;go_simp⟩) (uZ HS0) ?_
  try simp only [Act.put,sA,sB,sC]
  refine tK 2 (v:=.pointer (some ⟨q,0,none⟩)) (some 24) rfl rfl rfl (by kernel_rfl) (fun _ _ _ h=>h) (Or.inl ⟨by rfl,fun u hu=>by obtain⟨⟨c0,c1,c2,c3,c4⟩,m0,m1,m2,m3,m4,m5,m6,m7,m8,m9⟩:=uZ HF u hu;go_simp⟩) (uZ HS0) ?_
  try simp only [Act.put,sA,sB,sC]
  refine tK 3 (v:=.map (some b)) (some 25) rfl rfl rfl (by kernel_rfl) (fun _ _ _ h=>h) (Or.inl ⟨by rfl,fun u hu=>by obtain⟨⟨c0,c1,c2,c3,c4⟩,m0,m1,m2,m3,m4,m5,m6,m7,m8,m9⟩:=uZ HF u hu;go_simp⟩) (uZ HS0) ?_
  try simp only [Act.put,sA,sB,sC]
  refine tK 4 (v:=.pointer (some ⟨G,1,none⟩)) (some 26) rfl rfl rfl (by kernel_rfl) (fun _ _ _ h=>h) (Or.inl ⟨by rfl,fun u hu=>by obtain⟨⟨c0,c1,c2,c3,c4⟩,m0,m1,m2,m3,m4,m5,m6,m7,m8,m9⟩:=uZ HF u hu;go_simp⟩) (uZ HS0) ?_
  try simp only [Act.put,sA,sB,sC]
  refine tK 5 (v:=.string t) (some 27) rfl rfl rfl (by kernel_rfl) (fun _ _ _ h=>h) (Or.inl ⟨by rfl,fun u hu=>by obtain⟨⟨c0,c1,c2,c3,c4⟩,m0,m1,m2,m3,m4,m5,m6,m7,m8,m9⟩:=uZ HF u hu;go_simp⟩) (uZ HS0) ?_
  try simp only [Act.put,sA,sB,sC]
  refine tK 6 (v:=.pointer (some ⟨q,0,none⟩)) (some 28) rfl rfl rfl (by kernel_rfl) (fun _ _ _ h=>h) (Or.inl ⟨by rfl,fun u hu=>by obtain⟨⟨c0,c1,c2,c3,c4⟩,m0,m1,m2,m3,m4,m5,m6,m7,m8,m9⟩:=uZ HF u hu;go_simp⟩) (uZ HS0) ?_
  try simp only [Act.put,sA,sB,sC]
  refine tK 7 (v:=.pointer (some ⟨q,0,none⟩)) (some 29) rfl rfl rfl (by kernel_rfl) (fun _ _ _ h=>h) (Or.inl ⟨by rfl,fun u hu=>by obtain⟨⟨c0,c1,c2,c3,c4⟩,m0,m1,m2,m3,m4,m5,m6,m7,m8,m9⟩:=uZ HF u hu;go_simp⟩) (uZ HS0) ?_
  try simp only [Act.put,sA,sB,sC]
  refine tK 8 (v:=.pointer (some ⟨q,1,none⟩)) (some 30) rfl rfl rfl (by kernel_rfl) (fun _ _ _ h=>h) (Or.inl ⟨by rfl,fun u hu=>by obtain⟨⟨c0,c1,c2,c3,c4⟩,m0,m1,m2,m3,m4,m5,m6,m7,m8,m9⟩:=uZ HF u hu;go_simp⟩) (uZ HS0) ?_
  try simp only [Act.put,sA,sB,sC]
  refine tK 9 (v:=.slice ao s.vars.length ncap) (some 31) rfl rfl rfl (by kernel_rfl) (fun _ _ _ h=>h) (Or.inl ⟨by rfl,fun u hu=>by obtain⟨⟨c0,c1,c2,c3,c4⟩,m0,m1,m2,m3,m4,m5,m6,m7,m8,m9⟩:=uZ HF u hu;go_simp⟩) (uZ HS0) ?_
  try simp only [Act.put,sA,sB,sC]
  refine tK 10 (v:=.int .i64 (s.vars.length:Int)) (some 32) rfl rfl rfl (by kernel_rfl) (fun _ _ _ h=>h) (Or.inl ⟨by rfl,fun u hu=>by obtain⟨⟨c0,c1,c2,c3,c4⟩,m0,m1,m2,m3,m4,m5,m6,m7,m8,m9⟩:=uZ HF u hu;go_simp⟩) (uZ HS0) ?_
  try simp only [Act.put,sA,sB,sC]
  have S4:=hZ ((uZ H4).below (uZ HS0))
  obtain⟨w5,hput,hm5,hg5⟩:=(uZ S4).hm.put ht (x:=(s.vars.length:Int)) ⟨by omega,by have:=hfew.1;omega⟩ (by have:=hfew.2;unfold maxLen;omega) _ Tryz.underlying40
  refine till_one 11 (by kernel_rfl) rfl (fun K hK=>?_)
  go_simp
  have hbG:b≠G:=map_ne (uZ S4).hm (((uZ HS0).block _ (ltR n4)).trans n4)
  have hbR:b≠G+1:=map_ne (uZ S4).hm (((uZ HS0).block _ (ltR r4)).trans r4)
  have n5:=(hg5.block G (Nat.lt_of_lt_of_le (ltR n4) (uZ HS0).size) (fun e=>hbG (Option.some.inj e).symm)).trans (((uZ HS0).block _ (ltR n4)).trans n4)
  have r5:=(hg5.block (G+1) (Nat.lt_of_lt_of_le (ltR r4) (uZ HS0).size) (fun e=>hbR (Option.some.inj e).symm)).trans (((uZ HS0).block _ (ltR r4)).trans r4)
  have q5:=(hg5.block q (ltR (uZ S4).hq) (fun e=>map_ne (uZ S4).hm (uZ S4).hq (Option.some.inj e).symm)).trans (uZ S4).hq
  have v5:=(uZ S4).hnv.kept hg5 (own_nb (uZ S4).hnv (uZ S4).hm)
  have s5:=(uZ S4).hsv.kept hg5 (own_nb (uZ S4).hsv (uZ S4).hm)
  have M5:=hZ (And.intro hm5 ((Besk.of_below (P:=ScP q b (.slice ao s.vars.length ncap) sv) ((uZ HG4).2.trans ((uZ HS0).mono (uZ HG4).2.size))).grown hg5 (fun k e=>Or.inl (Or.inr (Or.inl (Option.some.inj e).symm)))))
  have z5:w.heap.size≤w5.heap.size:=Nat.le_trans (Nat.le_trans (uZ HG4).2.size (uZ HS0).size) hg5.size
  refine hK.out _ _ (Or.inl (by first|rfl|trivial)) ?_
  clear hK K hput hm5 hg5 n4 r4 HS0 S4 HF
  try simp only [Act.put,sA,sB,sC]
  refine till_done (by kernel_rfl) ?_ _
  go_upto_region 5 with fail
  have hlo5:lo≤w5.heap.size:=Nat.le_trans h0.hlo.2.2 z5
  have q5n:∀z,(.slice ao s.vars.length ncap:Value).ownBlock=some z→q≠z:=fun z e e2=>by
   rcases own_neK v5 q5 (by rfl) with h1|h1
   ·rw [h1] at e;cases e
   ·exact h1 (by rw [e,e2])
  have n5n:∀z,(.slice ao s.vars.length ncap:Value).ownBlock=some z→G≠z:=fun z e e2=>by
   rcases own_neK v5 n5 (by rfl) with h1|h1
   ·rw [h1] at e;cases e
   ·exact h1 (by rw [e,e2])
  have r5n:∀z,(.slice ao s.vars.length ncap:Value).ownBlock=some z→G+1≠z:=fun z e e2=>by
   rcases own_neK v5 r5 (by rfl) with h1|h1
   ·rw [h1] at e;cases e
   ·exact h1 (by rw [e,e2])
  have b5n:∀z,(.slice ao s.vars.length ncap:Value).ownBlock=some z→b≠z:=fun z e e2=>by
   rcases own_nb v5 (uZ M5).1 with h1|h1
   ·rw [h1] at e;cases e
   ·exact h1 (by rw [e,e2])
  have HF5:Hid (∀u,Besk (fun z=>(.slice ao s.vars.length ncap:Value).ownBlock=some z) w5 u→(u.cell? ⟨q,0,none⟩=some (.map (some b))∧u.cell? ⟨q,1,none⟩=some (.slice ao s.vars.length ncap)∧u.cell? ⟨q,2,none⟩=some (sv)∧u.cell? ⟨q,3,none⟩=some (.bool s.all)∧u.cell? ⟨q,4,none⟩=some (.int .i64 s.loops))∧u.cell? ⟨G,0,none⟩=some (.int .i64 k)∧u.cell? ⟨G,1,none⟩=some (.string t)∧u.cell? ⟨G,2,none⟩=some (.int .i64 vk)∧u.cell? ⟨G,3,none⟩=some (.int .i64 vn)∧u.cell? ⟨G,4,none⟩=some (.string vs)∧u.cell? ⟨G,5,none⟩=some (.slice al ll cl)∧u.cell? ⟨G,6,none⟩=some (.slice ak lk ck)∧u.cell? ⟨G,7,none⟩=some (.bool f)∧u.cell? ⟨G,8,none⟩=some (.slice a m cc)∧u.cell? ⟨G,9,none⟩=some (.int .i64 p)):=hZ (fun u hu=>⟨five_at ((hu.block q (ltR q5) (fun e=>q5n q e rfl)).trans q5),ten_at ((hu.block G (ltR n5) (fun e=>n5n G e rfl)).trans n5)⟩)
  have HS0:Hid (Besk (fun z=>(.slice ao s.vars.length ncap:Value).ownBlock=some z) w5 w5.drew):=hZ (Besk.of_below (Below.refl _ _).drew)
  refine till_begin (S:=fun w'=>Besk (fun z=>(.slice ao s.vars.length ncap:Value).ownBlock=some z) w5 w') 11 (by kernel_rfl) ?_
  obtain⟨W0,hW0⟩:=eX (w5.drew)
  try rw [hW0]
  rw [hW0] at HS0
  have V0:Hid (W0.ownsRow lo 9 1 (.slice ao s.vars.length ncap) s.vars.length (s.vars.map fun l=>.string (bA l))):=hZ (by rw [←hW0];exact v5)
  clear hW0
  refine tK 0 (v:=.pointer (some ⟨q,0,none⟩)) (some 33) rfl rfl rfl (by kernel_rfl) (fun _ _ _ h=>h) (Or.inl ⟨by rfl,fun u hu=>by obtain⟨⟨c0,c1,c2,c3,c4⟩,m0,m1,m2,m3,m4,m5,m6,m7,m8,m9⟩:=uZ HF5 u hu;go_simp⟩) (uZ HS0) ?_
  try simp only [Act.put,sA,sB,sC]
  refine tK 1 (v:=.pointer (some ⟨q,0,none⟩)) (some 34) rfl rfl rfl (by kernel_rfl) (fun _ _ _ h=>h) (Or.inl ⟨by rfl,fun u hu=>by obtain⟨⟨c0,c1,c2,c3,c4⟩,m0,m1,m2,m3,m4,m5,m6,m7,m8,m9⟩:=uZ HF5 u hu;go_simp⟩) (uZ HS0) ?_
  try simp only [Act.put,sA,sB,sC]
  refine tK 2 (v:=.pointer (some ⟨q,0,none⟩)) (some 35) rfl rfl rfl (by kernel_rfl) (fun _ _ _ h=>h) (Or.inl ⟨by rfl,fun u hu=>by obtain⟨⟨c0,c1,c2,c3,c4⟩,m0,m1,m2,m3,m4,m5,m6,m7,m8,m9⟩:=uZ HF5 u hu;go_simp⟩) (uZ HS0) ?_
  try simp only [Act.put,sA,sB,sC]
  refine tK 3 (v:=.pointer (some ⟨q,1,none⟩)) (some 36) rfl rfl rfl (by kernel_rfl) (fun _ _ _ h=>h) (Or.inl ⟨by rfl,fun u hu=>by obtain⟨⟨c0,c1,c2,c3,c4⟩,m0,m1,m2,m3,m4,m5,m6,m7,m8,m9⟩:=uZ HF5 u hu;go_simp⟩) (uZ HS0) ?_
  try simp only [Act.put,sA,sB,sC]
  refine tK 4 (v:=.slice ao s.vars.length ncap) (some 37) rfl rfl rfl (by kernel_rfl) (fun _ _ _ h=>h) (Or.inl ⟨by rfl,fun u hu=>by obtain⟨⟨c0,c1,c2,c3,c4⟩,m0,m1,m2,m3,m4,m5,m6,m7,m8,m9⟩:=uZ HF5 u hu;go_simp⟩) (uZ HS0) ?_
  try simp only [Act.put,sA,sB,sC]
  refine tK 5 (v:=.pointer (some ⟨G,1,none⟩)) (some 38) rfl rfl rfl (by kernel_rfl) (fun _ _ _ h=>h) (Or.inl ⟨by rfl,fun u hu=>by obtain⟨⟨c0,c1,c2,c3,c4⟩,m0,m1,m2,m3,m4,m5,m6,m7,m8,m9⟩:=uZ HF5 u hu;go_simp⟩) (uZ HS0) ?_
  try simp only [Act.put,sA,sB,sC]
  refine tK 6 (v:=.string t) (some 39) rfl rfl rfl (by kernel_rfl) (fun _ _ _ h=>h) (Or.inl ⟨by rfl,fun u hu=>by obtain⟨⟨c0,c1,c2,c3,c4⟩,m0,m1,m2,m3,m4,m5,m6,m7,m8,m9⟩:=uZ HF5 u hu;go_simp⟩) (uZ HS0) ?_
  try simp only [Act.put,sA,sB,sC]
  refine till_one 7 (by kernel_rfl) rfl (fun K hK=>?_)
  go_simp
  obtain⟨B,hB⟩:=eX (W0.heap.size)
  obtain⟨W1,hW1⟩:=eX (W0.alloc (.cells #[.string t] 9))
  have at1:W1.heap[B]?=some (.cells #[.string t] 9 (0,0)):=alN hW1 hB
  have b01:=alB hW1
  have HS1:Hid (Besk (fun z=>(.slice ao s.vars.length ncap:Value).ownBlock=some z) w5 W1):=hZ ((uZ HS0).trans (Besk.of_below b01))
  have v6:=(uZ V0).kept (row:=none) ⟨b01.os,b01.tape,b01.output,b01.size,fun k hk _=>b01.block k hk⟩ (Classical.em _)
  rw [hW1]
  rw [hB]
  refine hK.out _ _ (Or.inr (uZ HS1)) ?_
  clear hK K hW1 hB b01
  try simp only [Act.put,sA,sB,sC]
  obtain⟨iv,hiv,hz0,hz1,hz2⟩:=info_parts infoS1
  refine till_one 8 (by kernel_rfl) rfl (fun K hK=>?_)
  refine step_oneC (by rfl) _ _ 23 9 iv _ 1 16 (by rfl) Tryz.underlying23 hiv hz0 hz1 hz2 rfl (by decide) lo s.vars.length (.slice ao s.vars.length ncap) _ (by rfl) v6 ⟨B,0,none⟩ 1 [.string t] (by rfl) rfl (fun j u hu=>World.news_of_block at1 j u hu) (by simp [Value.oneCell']) (by have:=hfew.1;unfold maxLen;omega) (by have:=hfew.1;omega) (Nat.le_trans hlo5 (uZ HS1).size) ?_
  intro nv2 W2 HA
  have HS2:Hid (Besk (fun z=>(.slice ao s.vars.length ncap:Value).ownBlock=some z) w5 W2):=hZ ((uZ HS1).grown (uZ HA).2.1 (fun k e=>Or.inl e))
  refine hK.out _ _ (Or.inr (uZ HS2)) ?_
  clear hK K at1
  try simp only [Act.put,sA,sB,sC]
  refine till_one 9 (by kernel_rfl) rfl (fun K hK=>?_)
  go_simp
  refine hK.out _ _ (Or.inr (uZ HS2)) ?_
  clear hK K
  try simp only [Act.put,sA,sB,sC]
  refine till_one 10 (by kernel_rfl) rfl (fun K hK=>?_)
  go_simp
  refine hK.out _ _ (Or.inr (uZ HS2)) ?_
  clear hK K
  try simp only [Act.put,sA,sB,sC]
  obtain⟨ao2,cap2,rfl⟩:=own_slice (uZ HA).1
  have q6:=((uZ HS2).block q (ltR q5) (fun e=>q5n q e rfl)).trans q5
  have n6:=((uZ HS2).block G (ltR n5) (fun e=>n5n G e rfl)).trans n5
  have r6:=((uZ HS2).block (G+1) (ltR r5) (fun e=>r5n (G+1) e rfl)).trans r5
  have m6:=(uZ M5).1.later ((uZ HS2).block b (uZ M5).1.lt (fun e=>b5n b e rfl))
  have s6:=own_bes (uZ HS2) s5 (fun z hz e=>own_two s5 v5 (by rfl) z hz e)
  have HMv:Hid (Besk (ScP q b (.slice ao s.vars.length ncap) sv) w W2):=hZ (bes_on (uZ M5).2 (uZ HS2) (fun k e=>Or.inr (Or.inr (Or.inl e))))
  obtain⟨c0,c1,c2,c3,c4⟩:=five_at q6
  have y1:=frozen_of_row W2 q 1 _ _ q6
  refine till_one 11 (by kernel_rfl) rfl (fun K hK=>?_)
  go_simp
  have q8:(W2.setCell ⟨q,1,none⟩ (.slice ao2 (s.vars.length+1) cap2)).heap[q]?=some (.cells #[.map (some b),.slice ao2 (s.vars.length+1) cap2,sv,.bool s.all,.int .i64 s.loops] 61 (0,0)):=heap_setCell_same W2 q 1 _ _ _ q6
  have hqG:q<G:=by rw [←(uZ HG4).1];exact hqw
  have n8:=(heap_setCell_other W2 ⟨q,1,none⟩ G (.slice ao2 (s.vars.length+1) cap2) (by show G≠q;omega)).trans n6
  have r8:=(heap_setCell_other W2 ⟨q,1,none⟩ (G+1) (.slice ao2 (s.vars.length+1) cap2) (by show G+1≠q;omega)).trans r6
  have m8:=m6.later (heap_setCell_other W2 ⟨q,1,none⟩ b (.slice ao2 (s.vars.length+1) cap2) (map_ne m6 q6))
  have v8:=(uZ HA).1.kept (grown_set W2 ⟨q,1,none⟩ (.slice ao2 (s.vars.length+1) cap2)) (own_neK (uZ HA).1 q6 (by rfl))
  have s8:=s6.kept (grown_set W2 ⟨q,1,none⟩ (.slice ao2 (s.vars.length+1) cap2)) (own_neK s6 q6 (by rfl))
  have HMv8:=hZ ((uZ HMv).set (p:=⟨q,1,none⟩) (Or.inl (Or.inl rfl)) (.slice ao2 (s.vars.length+1) cap2))
  have HOn:=hZ (uZ HA).2.2
  have hz12:=(uZ HS2).size
  obtain⟨w6,hw6⟩:=eX (W2.setCell ⟨q,1,none⟩ (.slice ao2 (s.vars.length+1) cap2))
  rw [hw6] at q8 n8 r8 m8 v8 s8 HMv8 ⊢
  have hw6z:w.heap.size≤w6.heap.size:=(uZ HMv8).size
  have hW1z:w.heap.size≤W1.heap.size:=Nat.le_trans z5 (uZ HS1).size
  clear hw6 c0 c1 c2 c3 c4 y1 q6 n6 r6 m6 s6 HA HMv
  refine hK.out _ _ (Or.inl (by first|rfl|trivial)) ?_
  clear hK K q5 n5 r5 v5 s5 M5 HF5 q5n n5n r5n b5n
  try simp only [Act.put,sA,sB,sC]
  refine till_done (by kernel_rfl) ?_ _
  obtain⟨c0,c1,c2,c3,c4⟩:=five_at q8
  obtain⟨iv,hiv,hz0,hz1,hz2⟩:=info_parts infoB1
  have tok:True:=trivial
  go_upto_region 7 with (at_builtin;have _t:=tok;refine wpl_oneC rfl (.tmp 49) (.tmp 51) 57 4 iv _ 1 1 Tryz.underlying57 hiv hz0 hz1 hz2 rfl (by decide) rfl lo s.set.length sv (s.set.map Value.bool) [.bool x] rfl (by simp [Value.oneCell']) rfl s8 rfl (by rw [h0.len];have:=hfew.1;unfold maxLen;omega) (by rw [h0.len];have:=hfew.1;omega) (Nat.le_trans h0.hlo.2.2 hw6z) ?_;clear tok;intro sv2 w7 HA2;obtain⟨ao3,cap3,rfl⟩:=own_slice (uZ HA2).1;have q9:=((uZ HA2).2.1.block q (ltR q8) (own_neq s8 q8 (by rfl))).trans q8;clear c0 c1 c2 c3 c4;obtain⟨c0,c1,c2,c3,c4⟩:=five_at q9;have y2:=frozen_of_row w7 q 2 _ _ q9)
  have n9:=((uZ HA2).2.1.block G (ltR n8) (own_neq s8 n8 (by rfl))).trans n8
  have r9a:=((uZ HA2).2.1.block (G+1) (ltR r8) (own_neq s8 r8 (by rfl))).trans r8
  have q10:(w7.setCell ⟨q,2,none⟩ (.slice ao3 (s.set.length+1) cap3)).heap[q]?=some (.cells #[.map (some b),.slice ao2 (s.vars.length+1) cap2,.slice ao3 (s.set.length+1) cap3,.bool s.all,.int .i64 s.loops] 61 (0,0)):=heap_setCell_same w7 q 2 _ _ _ q9
  have m9:=m8.later ((uZ HA2).2.1.block b m8.lt (own_nbq s8 m8))
  have v9:=v8.kept (uZ HA2).2.1 (own_two2 v8 s8 (by rfl))
  have S9:Hid (ScM (w7.setCell ⟨q,2,none⟩ (.slice ao3 (s.set.length+1) cap3)) lo q b (n+1) (.slice ao2 (s.vars.length+1) cap2) (.slice ao3 (s.set.length+1) cap3) { s with vars:=s.vars++[t.data.toList],set:=s.set++[x] }):=hZ ⟨q10,(m9.later (heap_setCell_other w7 ⟨q,2,none⟩ b (.slice ao3 (s.set.length+1) cap3) (map_ne m9 q9))).ext (fun z=>by rw [ixL_app _ _ _ _ hnt,Nat.zero_add]),by have h1:=v9.kept (grown_set w7 ⟨q,2,none⟩ (.slice ao3 (s.set.length+1) cap3)) (own_neK v9 q9 (by rfl));rw [List.map_append,List.length_append];simpa [bA_of] using h1,by have h1:=(uZ HA2).1.kept (grown_set w7 ⟨q,2,none⟩ (.slice ao3 (s.set.length+1) cap3)) (own_neK (uZ HA2).1 q9 (by rfl));rw [List.map_append,List.length_append];exact h1,by simp [h0.len],⟨by simp;have:=h0.few.1;omega,by have:=hfew.2;omega⟩,⟨h0.hlo.1,h0.hlo.2.1,by have h2:=(uZ HA2).2.1.size;have h3:=h0.hlo.2.2;simp;omega⟩⟩
  have HGe:=hZ (And.intro (uZ HG4).1 hqG)
  have r9:=(heap_setCell_other w7 ⟨q,2,none⟩ (G+1) (.slice ao3 (s.set.length+1) cap3) (by show G+1≠q;omega)).trans r9a
  have HB:Hid (Mvd w (w7.setCell ⟨q,2,none⟩ (.slice ao3 (s.set.length+1) cap3)) q b (.slice ao s.vars.length ncap) sv (.slice ao2 (s.vars.length+1) cap2) (.slice ao3 (s.set.length+1) cap3)):=hZ ⟨((uZ HMv8).grown (uZ HA2).2.1 (fun k e=>Or.inl (Or.inr (Or.inr (Or.inr e))))).set (p:=⟨q,2,none⟩) (Or.inl (Or.inl rfl)) _,fun k e=>by rcases (uZ HOn) k e with h1|h1;exact Or.inl h1;exact Or.inr (Nat.le_trans hW1z h1),fun k e=>by rcases (uZ HA2).2.2 k e with h1|h1;exact Or.inl h1;exact Or.inr (Nat.le_trans hw6z h1)⟩
  obtain⟨w9,hw9⟩:=eX (w7.setCell ⟨q,2,none⟩ (.slice ao3 (s.set.length+1) cap3))
  rw [hw9] at S9 r9 HB
  try rw [hw9]
  clear hw9 c0 c1 c2 c3 c4 y2 q9 q10 n9 r9a m9 v9 HA2 q8 n8 r8 m8 v8 s8 HMv8 HOn
  obtain⟨k0,k1⟩:=two_at r9
  have y0:=frozen_of_row w9 (G+1) 0 _ _ r9
  have y1:=frozen_of_row w9 (G+1) 1 _ _ r9
  have b9:=((Below.refl (G+1) w9).setCell (p:=⟨G+1,0,none⟩) (Nat.le_refl _) (.int .i64 0)).setCell (p:=⟨G+1,1,none⟩) (Nat.le_refl _) (.int .i64 0)
  have HE:=hZ (And.intro (put2 r9 (.int .i64 0) (.int .i64 0)) (scm_fin (uZ S9) (uZ HB) (uZ HGe) r9 (.int .i64 0) (.int .i64 0)))
  clear b9
  go_wp2_with fail
  exact rtF (p:=6) rfl rfl (uZ HE).1 rfl ⟨rfl,_,_,_,(uZ HE).2.1,(uZ HE).2.2,Nat.le_refl _⟩
end Go.Proofs.YtjdpaihhhjdgmaaGreatDoor
