/-
  Layer 19 (check): the Pairs of a Fields, one behind the other, over a look that changes a scope; conditions: the nodes lie in memory, how many names there are.
  Layer 19 (check): what the looks of one body share in memory; conditions: the nodes lie in memory, how many names there are.
  Layer 19 (check): a Block (nodes$2); conditions: the nodes lie in memory, how many names there are.
  Layer 19 (check): a Let (nodes$2); conditions: the nodes lie in memory, how many names there are.
  Layer 19 (check): a Set (nodes$2); conditions: the nodes lie in memory, how many names there are.
-/
import Derived.Test.YtjdpaihhhjdgmaaGreatDoorA10
import Derived.Test.YtjdpaihhhjdgmaaGreatDoorA14
set_option linter.unusedVariables false
set_option linter.unusedSimpArgs false
set_option maxRecDepth 100000
set_option maxHeartbeats 8000000
namespace Go.Proofs.YtjdpaihhhjdgmaaGreatDoor
open Go.RowKit
set_option linter.unusedVariables false
set_option linter.unusedSimpArgs false
theorem ifc {α:Type} {P Q:Prop} [Decidable P] [Decidable Q] {a b:α} (h:P↔Q):(if P then a else b)=if Q then a else b:=by
 by_cases hp:P
 ·rw [if_pos hp,if_pos (h.1 hp)]
 ·rw [if_neg hp,if_neg (fun q=>hp (h.2 q))]
def prO (g:Tn→Sco→Ft × Sco) (y:Tn) (s:Sco):Ft × Sco:=match y.ks with
 |[]=>((0,0),s)
 |z :: _=>g z s
def nmL (ns:List Tn):List (List UInt8):=ns.map fun y=>y.t.data.toList
def rP (g:Tn→Sco→Ft × Sco) (had:List (List UInt8)) (ns:List Tn) (s:Sco) (i:Nat):Ft:=match ns[i]? with
 |some y=>if y.t.data.toList∈had++nmL (ns.take i) then (y.p,191) else rL (prO g) ns s i
 |none=>(0,0)
theorem rP_cons (g:Tn→Sco→Ft × Sco) (had:List (List UInt8)) (y:Tn) (r:List Tn) (s:Sco) (j:Nat):rP g had (y :: r) s (j+1)=rP g (y.t.data.toList :: had) r (prO g y s).2 j:=by
 unfold rP
 simp only [List.getElem?_cons_succ]
 cases r[j]? with
 |none=>rfl
 |some z=>
  simp only [List.take_succ_cons,nmL,List.map_cons]
  rw [rL_cons]
  refine ifc ?_
  simp only [List.mem_append,List.mem_cons]
  constructor
  ·rintro (h|h|h)
   ·exact Or.inl (Or.inr h)
   ·exact Or.inl (Or.inl h)
   ·exact Or.inr h
  ·rintro ((h|h)|h)
   ·exact Or.inr (Or.inl h)
   ·exact Or.inl h
   ·exact Or.inr (Or.inr h)
theorem rP_zero (g:Tn→Sco→Ft × Sco) (had:List (List UInt8)) (y:Tn) (r:List Tn) (s:Sco):rP g had (y :: r) s 0=if y.t.data.toList∈had then (y.p,191) else (prO g y s).1:=by
 unfold rP
 simp only [List.getElem?_cons_zero,List.take_zero,nmL,List.map_nil,List.append_nil]
 rfl
theorem prL_step (g:Tn→Sco→Ft × Sco) (had:List (List UInt8)) (y:Tn) (r:List Tn) (s:Sco) (h:y.t.data.toList∉had):prL g had (y :: r) s=thnS (prO g y s) (prL g (y.t.data.toList :: had) r):=by
 simp only [prL,if_neg h,prO]
 cases y.ks with
 |nil=>rfl
 |cons z q=>rfl
theorem pr_all (g:Tn→Sco→Ft × Sco):∀(ns:List Tn) (had:List (List UInt8)) (s:Sco),(∀j,j<ns.length→(rP g had ns s j).2=0)→prL g had ns s=((0,0),stL (prO g) ns s ns.length)
 |[],_,_,_=>rfl
 |y :: r,had,s,h=>by
  have h0:=h 0 (by simp)
  rw [rP_zero] at h0
  have hn:y.t.data.toList∉had:=fun e=>by
   rw [if_pos e] at h0
   exact absurd h0 (by show ¬(191:Int)=0;decide)
  rw [if_neg hn] at h0
  have ih:=pr_all g r (y.t.data.toList :: had) (prO g y s).2 (fun j hj=>by rw [←rP_cons];exact h (j+1) (by simpa using hj))
  rw [prL_step g had y r s hn]
  unfold thnS
  rw [if_pos h0,ih]
  rfl
theorem pr_at (g:Tn→Sco→Ft × Sco):∀(ns:List Tn) (had:List (List UInt8)) (s:Sco) (i:Nat) (y:Tn),ns[i]?=some y→(∀j,j<i→(rP g had ns s j).2=0)→(rP g had ns s i).2≠0→prL g had ns s=(rP g had ns s i,if y.t.data.toList∈had++nmL (ns.take i) then stL (prO g) ns s i else stL (prO g) ns s (i+1))
 |[],_,_,_,_,h,_,_=>by simp at h
 |y :: r,had,s,0,z,hz,_,h=>by
  simp only [List.getElem?_cons_zero,Option.some.injEq] at hz
  subst hz
  rw [rP_zero] at h ⊢
  simp only [List.take_zero,nmL,List.map_nil,List.append_nil]
  by_cases e:y.t.data.toList∈had
  ·rw [if_pos e,if_pos e]
   simp only [prL,if_pos e]
   rfl
  ·rw [if_neg e] at h
   rw [if_neg e,if_neg e,prL_step g had y r s e]
   unfold thnS
   rw [if_neg h]
   cases r <;> rfl
 |y :: r,had,s,i+1,z,hz,h,h1=>by
  have h0:=h 0 (by omega)
  rw [rP_zero] at h0
  have hn:y.t.data.toList∉had:=fun e=>by
   rw [if_pos e] at h0
   exact absurd h0 (by show ¬(191:Int)=0;decide)
  rw [if_neg hn] at h0
  rw [rP_cons] at h1 ⊢
  have ih:=pr_at g r (y.t.data.toList :: had) (prO g y s).2 i z (by simpa using hz) (fun j hj=>by rw [←rP_cons];exact h (j+1) (by omega)) h1
  rw [prL_step g had y r s hn]
  unfold thnS
  rw [if_pos h0,ih]
  refine congrArg (Prod.mk _) ?_
  refine ifc ?_
  simp only [List.take_succ_cons,nmL,List.map_cons,List.mem_append,List.mem_cons]
  constructor
  ·rintro ((h|h)|h)
   ·exact Or.inr (Or.inl h)
   ·exact Or.inl h
   ·exact Or.inr (Or.inr h)
  ·rintro (h|h|h)
   ·exact Or.inl (Or.inr h)
   ·exact Or.inl (Or.inl h)
   ·exact Or.inr h
def mP (mz:Tn→Nat) (y:Tn):Nat:=match y.ks with
 |[]=>0
 |z :: _=>mz z
theorem fp_keep {B:Nat} {u u':World} (hb:Besk (Fp B u) u u') {k:Nat} {c:Array Value} {T:TypeId} (hk:u.heap[k]?=some (.cells c T (0,0))) (hT:T≠42):u'.heap[k]?=some (.cells c T (0,0)):=
 (hb.block k (ltR hk) (fun hp=>by
  obtain⟨_,c',fz,e⟩:=hp
  rw [hk] at e
  injection e with e
  injection e with _ e2 _
  exact hT e2)).trans hk
theorem fp_nms {B:Nat} {u u':World} (hb:Besk (Fp B u) u u') {z zn:Nat} {g:List UInt8→Option Int} (hz:Nms u z zn g):Nms u' z zn g:=
 hz.later (hb.block z hz.lt (fun hp=>by
  obtain⟨_,c',fz,e⟩:=hp
  obtain⟨es,ck,e2⟩:=hz.isMap
  rw [e] at e2
  cases e2))
theorem fp_mono {B B':Nat} {u u':World} (hb:Besk (Fp B u) u u') (h:B'≤B):Besk (Fp B' u) u u':=⟨hb.os,hb.tape,hb.output,hb.size,fun k hk hn=>hb.block k hk (fun hp=>hn ⟨Nat.le_trans h hp.1,hp.2⟩)⟩
structure PrI (w1 wA:World) (lo q b B0 hb hc nc n:Nat) (nvA svA:Value) (F:FuncId) (Bd cap:Array Value) (mz:Tn→Nat) (g:Tn→Sco→Ft × Sco) (ns:List Tn) (s:Sco) (i:Nat) (u:World):Prop where
 ok:∀j,j<i→(rP g [] ns s j).2=0
 sc:∃nv' sv' n',ScM u lo q b n' nv' sv' (stL (prO g) ns s i)∧Mvd wA u q b nvA svA nv' sv'∧n'≤n+smM (mP mz) (ns.take i)
 hd:∃hn',hn'≤i∧Nms u hb hn' (fun x=>if x∈nmL (ns.take i) then some 1 else none)
 cc:u.heap[hc]?=some (.cells #[.map (some hb)] 40 (0,0))
 cn:u.heap[nc]?=some (.cells #[.func (.func F) Bd cap] 45 (0,0))
 sz:w1.heap.size≤u.heap.size
theorem pairs_any {w0 wA w1:World} {lo q b B0:Nat} {nv0 sv0 nvA svA:Value} {mz:Tn→Nat} {ok:Tn→Sco→Prop} {g:Tn→Sco→Ft × Sco} {F:FuncId} {Bd cap:Array Value} {n hb hc nc cc m:Nat} {a:Option Addr} {s:Sco} {ns:List Tn}
  (hL:LookS w0 lo q b B0 nv0 sv0 mz ok g F Bd cap) (hf:∀(x:Array Value) (u:World),Sem.run Tryz.prog (callFunc F x) u=.ok (.enter F x) u) (hm0:Mvd w0 wA q b nv0 sv0 nvA svA) (h:ScM wA lo q b n nvA svA s) (hr:RowN wA B0 ns a cc) (hn0:ns.length=m) (hk:n+smM (mP mz) ns≤1099511627776) (hB:B0≤lo)
  (h1:Below wA.heap.size wA w1) (hH:Nms w1 hb 0 (fun _=>none)) (hbA:wA.heap.size≤hb) (hcc:w1.heap[hc]?=some (.cells #[.map (some hb)] 40 (0,0))) (hcn:w1.heap[nc]?=some (.cells #[.func (.func F) Bd cap] 45 (0,0))) (hl:ns.length<1099511627776)
  (hkid:∀y∈ns,1≤y.ks.length∧y.t.size≤maxLen) (hok:∀(i:Nat) (y z:Tn),ns[i]?=some y→y.ks[0]?=some z→(∀j,j<i→(rP g [] ns s j).2=0)→ok z (stL (prO g) ns s i)) :
  Calls Tryz.prog 13 #[.slice a m cc,.func (.func 93) #[] #[.pointer (some ⟨hc,0,none⟩),.pointer (some ⟨nc,0,none⟩)]] w1 fun e w'=>e=.returned (fltV (prL g [] ns s).1)∧MvP wA w' lo q b n (smM (mP mz) ns) nvA svA (prL g [] ns s).2:=by
 have hbb:hb≠b:=fun e=>by have:=h.hm.lt;omega
 have hlA:lo≤wA.heap.size:=h.hlo.2.2
 have hBA:B0≤wA.heap.size:=Nat.le_trans hB hlA
 have hB1:Below B0 wA w1:=h1.mono hBA
 have hbe:∀i u,PrI w1 wA lo q b B0 hb hc nc n nvA svA F Bd cap mz g ns s i u→Below B0 w1 u:=fun i u hI=>by
  obtain⟨nv',sv',n',hs',hm',_⟩:=hI.sc
  have hA:=(Mvd.low h hm').mono hB
  exact⟨hA.os.trans hB1.os.symm,hA.tape.trans hB1.tape.symm,hA.output.trans hB1.output.symm,hI.sz,fun k hk=>(hA.block k hk).trans (hB1.block k hk).symm⟩
 have hgen:=first_gen B0 a m cc ns 93 #[] #[.pointer (some ⟨hc,0,none⟩),.pointer (some ⟨nc,0,none⟩)] (rP g [] ns s)
  (PrI w1 wA lo q b B0 hb hc nc n nvA svA F Bd cap mz g ns s)
  (fun f u=>f=(prL g [] ns s).1∧MvP wA u lo q b n (smM (mP mz) ns) nvA svA (prL g [] ns s).2)
  w1 (fun x u=>rfl) (hr.later hB1) hn0
  ⟨fun j hj=>absurd hj (Nat.not_lt_zero _),⟨nvA,svA,n,by rw [stL_zero];exact h.below h1,Mvd.of_below q b nvA svA h1,by omega⟩,⟨0,Nat.le_refl _,hH.ext (fun x=>by simp [nmL])⟩,hcc,hcn,Nat.le_refl _⟩
  hbe (Nat.le_trans hBA h1.size)
  (fun i u u' hI hb'=>by
   obtain⟨nv',sv',n',hs',hm',hn'⟩:=hI.sc
   obtain⟨hn2,hle,hN⟩:=hI.hd
   exact⟨hI.ok,⟨nv',sv',n',hs'.fp hb',hm'.fp (fp_mono hb' h1.size),hn'⟩,⟨hn2,hle,fp_nms hb' hN⟩,fp_keep hb' hI.cc (by decide),fp_keep hb' hI.cn (by decide),Nat.le_trans hI.sz hb'.size⟩)
  (fun f u u' hJ hb'=>by
   obtain⟨e,nv',sv',n',hs',hm',hn'⟩:=hJ
   exact⟨e,nv',sv',n',hs'.fp hb',hm'.fp (fp_mono hb' h1.size),hn'⟩)
  (fun i y u x hy hI hBu hx=>by
   obtain⟨nv',sv',n',hs',hm',hn'⟩:=hI.sc
   obtain⟨hn2,hle,hN⟩:=hI.hd
   have hil:i<ns.length:=(List.getElem?_eq_some_iff.1 hy).1
   have ht:=smM_take (mP mz) ns i y hy
   have hle2:=smM_le (mP mz) ns (i+1)
   have hyk:=hkid y (List.mem_of_getElem? hy)
   obtain⟨vk,vn,vs,al,ak,ya,ll,cl,lk,ck,yc,rfl,_,hrow,_,_⟩:=hx.opn
   obtain⟨z,hz⟩:∃z,y.ks[0]?=some z:=⟨_,List.getElem?_eq_getElem hyk.1⟩
   obtain⟨b1,_,rfl,_⟩:=hrow.at hz
   have hprO:prO g y (stL (prO g) ns s i)=g z (stL (prO g) ns s i):=by
    unfold prO
    cases hq:y.ks with
    |nil=>rw [hq] at hz;simp at hz
    |cons z' r=>rw [hq] at hz;simp only [List.getElem?_cons_zero,Option.some.injEq] at hz;subst hz;rfl
   have hmP:mP mz y=mz z:=by
    unfold mP
    cases hq:y.ks with
    |nil=>rw [hq] at hz;simp at hz
    |cons z' r=>rw [hq] at hz;simp only [List.getElem?_cons_zero,Option.some.injEq] at hz;subst hz;rfl
   have hrL:rL (prO g) ns s i=(g z (stL (prO g) ns s i)).1:=by unfold rL;rw [hy];dsimp only;rw [hprO]
   by_cases hd:y.t.data.toList∈nmL (ns.take i)
   ·have hrP:rP g [] ns s i=(y.p,191):=by unfold rP;rw [hy];dsimp only;rw [List.nil_append,if_pos hd]
    rw [hrP]
    refine(pair_dup (w0:=w0) (B0:=B0) (nv0:=nv0) (sv0:=sv0) (mz:=mz) (ok:=ok) (g:=g) (f':=fun x=>if x∈nmL (ns.take i) then some 1 else none) hyk.2 hm' hs' hI.cc hI.cn hN (if_pos hd) (by omega) hbb hbA).mono ?_
    rintro e u' ⟨he,hkf,hS,hM,hsz⟩
    refine⟨he,hkf,fun h0=>absurd h0 (by show ¬(191:Int)=0;decide),fun _=>?_⟩
    have hat:=pr_at g ns [] s i y hy hI.ok (by rw [hrP];show ¬(191:Int)=0;decide)
    rw [List.nil_append,if_pos hd,hrP] at hat
    rw [hat]
    exact⟨rfl,nv',sv',n',hS,hM,by have:=smM_le (mP mz) ns i;omega⟩
   ·have hrP:rP g [] ns s i=(g z (stL (prO g) ns s i)).1:=by unfold rP;rw [hy];dsimp only;rw [List.nil_append,if_neg hd,hrL]
    rw [hrP]
    refine(pair_new (f':=fun x=>if x∈nmL (ns.take i) then some 1 else none) hyk.2 hm' hs' hI.cc hI.cn hN (if_neg hd) (by omega) hbb hbA hL hf hrow rfl hz hm0 (by omega) hB hlA (hok i y z hy hz hI.ok)).mono ?_
    rintro e u' ⟨he,hkf,nv2,sv2,n2,hS,hM,hn3,hN2,hsz⟩
    have hst:stL (prO g) ns s (i+1)=(g z (stL (prO g) ns s i)).2:=by rw [stL_succ (prO g) ns s i y hy,hprO]
    refine⟨he,hkf,fun h0=>⟨fun j hj=>?_,⟨nv2,sv2,n2,by rw [hst];exact hS,hM,by omega⟩,⟨hn2+1,by omega,hN2.ext (fun x=>?_)⟩,hkf hc _ _ (by decide) (by decide) (by decide) hI.cc,hkf nc _ _ (by decide) (by decide) (by decide) hI.cn,Nat.le_trans hI.sz hsz⟩,fun h0=>?_⟩
    ·rcases Nat.lt_succ_iff_lt_or_eq.1 hj with hj|rfl
     ·exact hI.ok j hj
     ·rw [hrP]
      exact h0
    ·have htk:ns.take (i+1)=ns.take i++[y]:=by rw [List.take_add_one,hy];rfl
     simp only [htk,nmL,List.map_append,List.map_cons,List.map_nil,List.mem_append,List.mem_singleton]
     by_cases e1:x=y.t.data.toList
     ·simp [e1]
     ·simp [e1]
    ·have hat:=pr_at g ns [] s i y hy hI.ok (by rw [hrP];exact h0)
     rw [List.nil_append,if_neg hd,hrP,hst] at hat
     rw [hat]
     exact⟨rfl,nv2,sv2,n2,hS,hM,by omega⟩)
 refine hgen.mono ?_
 rintro e w' ⟨he,k1,k2⟩
 by_cases h0:(fF (rP g [] ns s) m 0).2=0
 ·have hI:=k1 h0
  obtain⟨nv',sv',n',hs',hm',hn'⟩:=hI.sc
  have hall:=pr_all g ns [] s (fun j hj=>hI.ok j (by omega))
  rw [hall]
  rw [←hn0] at hs' hn'
  rw [List.take_length] at hn'
  refine⟨?_,nv',sv',n',hs',hm',hn'⟩
  rw [he,fF_all (rP g [] ns s) m 0 (fun j _ hj=>hI.ok j (by omega))]
 ·obtain⟨h3,h4⟩:=k2 h0
  exact⟨by rw [he,h3],h4⟩
def ndCap (xs xk xn xt:Nat):Array Value:=#[.pointer (some ⟨xs,0,none⟩),.pointer (some ⟨xk,0,none⟩),.pointer (some ⟨xn,0,none⟩),.pointer (some ⟨xt,0,none⟩)]
structure Cp (w:World) (q tb tn xs xk xn xt:Nat) (tk:List UInt8→Option Int):Prop where
 hs:w.heap[xs]?=some (.cells #[.pointer (some ⟨q,0,none⟩)] 56 (0,0))
 hk:w.heap[xk]?=some (.cells #[.func (.func 45) #[] #[.pointer (some ⟨xn,0,none⟩)]] 44 (0,0))
 hn:w.heap[xn]?=some (.cells #[.func (.func 46) #[] (ndCap xs xk xn xt)] 45 (0,0))
 ht:w.heap[xt]?=some (.cells #[.map (some tb)] 40 (0,0))
 hm:Nms w tb tn tk
 tab:Tab w
theorem Cp.below {w w':World} {q tb tn xs xk xn xt:Nat} {tk:List UInt8→Option Int} (h:Cp w q tb tn xs xk xn xt tk) (hb:Below w.heap.size w w'):Cp w' q tb tn xs xk xn xt tk where
 hs:=(hb.block _ (ltR h.hs)).trans h.hs
 hk:=(hb.block _ (ltR h.hk)).trans h.hk
 hn:=(hb.block _ (ltR h.hn)).trans h.hn
 ht:=(hb.block _ (ltR h.ht)).trans h.ht
 hm:=h.hm.later (hb.block _ h.hm.lt)
 tab:=h.tab.below hb
theorem Cp.mvd {w w':World} {q tb tn xs xk xn xt lo b n:Nat} {tk:List UInt8→Option Int} {nv sv nv' sv':Value} {s:Sco} (h:Cp w q tb tn xs xk xn xt tk) (hS:ScM w lo q b n nv sv s) (hm:Mvd w w' q b nv sv nv' sv') (hn:tb≠b) (hg:0<lo):Cp w' q tb tn xs xk xn xt tk where
 hs:=keepF_of_mvd hS hm _ _ _ (by decide) (by decide) (by decide) h.hs
 hk:=keepF_of_mvd hS hm _ _ _ (by decide) (by decide) (by decide) h.hk
 hn:=keepF_of_mvd hS hm _ _ _ (by decide) (by decide) (by decide) h.hn
 ht:=keepF_of_mvd hS hm _ _ _ (by decide) (by decide) (by decide) h.ht
 hm:=mvd_nms hS hm h.hm hn
 tab:=h.tab.later (Mvd.low hS hm) hg hm.bes.size
theorem one_at {w:World} {q:Nat} {a:Value} {T:TypeId} (h:w.heap[q]?=some (.cells #[a] T (0,0))):w.cell? ⟨q,0,none⟩=some a:=by
 rw [cell_of_row w q 0 _ _ (0,0) h]
 rfl
theorem nd4_any {w0:World} {lo q b B0:Nat} {nv0 sv0:Value} {mz:Tn→Nat} {ok:Tn→Sco→Prop} {g:Tn→Sco→Ft × Sco} {tb tn xs xk xn xt:Nat} {tk:List UInt8→Option Int} (hL:LookS w0 lo q b B0 nv0 sv0 mz ok g 46 #[] (ndCap xs xk xn xt))
  {vk vn p:Int} {t vs:ByteArray} {al ak a:Option Addr} {ll cl lk ck m cc:Nat} {f:Bool} {ns:List Tn} {w:World} {nv sv:Value} {n:Nat} {s:Sco} (hC:Cp w q tb tn xs xk xn xt tk) (hr:RowN w B0 ns a cc) (hn:ns.length=m) (hm:Mvd w0 w q b nv0 sv0 nv sv) (h:ScM w lo q b n nv sv s) (hB:B0≤lo) (hk:n+smM mz ns≤1099511627776) (hkv:s.vars.length≤(ckL g ns s).2.vars.length) (hnd:(ckL g ns s).2.vars.Nodup) (hsz:∀l∈(ckL g ns s).2.vars,l.length≤maxLen) (hok:∀(i:Nat) (y:Tn),ns[i]?=some y→(∀j,j<i→(rL g ns s j).2=0)→ok y (stL g ns s i)) :
  Calls Tryz.prog 46 #[.agg #[.int .i64 4,.string t,.int .i64 vk,.int .i64 vn,.string vs,.slice al ll cl,.slice ak lk ck,.bool f,.slice a m cc,.int .i64 p],.pointer (some ⟨xs,0,none⟩),.pointer (some ⟨xk,0,none⟩),.pointer (some ⟨xn,0,none⟩),.pointer (some ⟨xt,0,none⟩)] w fun e w'=>e=.returned (fltV ((((ckL g ns s).1,leaveS (ckL g ns s).2 s.vars.length):Ft × Sco)).1)∧MvP w w' lo q b n (smM mz ns) nv sv ((((ckL g ns s).1,leaveS (ckL g ns s).2 s.vars.length):Ft × Sco)).2:=by
 obtain⟨⟨⟨f1,f2⟩,s1⟩,hR⟩:∃R,ckL g ns s=R:=⟨_,rfl⟩
 rw [hR] at hkv hnd hsz ⊢
 have HRR:=hZ hR
 clear hR
 dsimp only at hkv hnd hsz ⊢
 have hqw:=ltR h.hq
 obtain⟨w2,hw2,n2,r2,b2⟩:=bxs 4 vk vn p t vs al ak a ll cl lk ck m cc f w
 obtain⟨G,hG⟩:=eX (w.heap.size)
 have hBw:=Nat.le_trans hB h.hlo.2.2
 have HRW:=hZ (hr.later (b2.mono hBw))
 have HC2:=hZ (hC.below b2)
 have HM0:=hZ (hm.trans (Mvd.of_below q b nv sv b2))
 have HMw:=hZ (Mvd.of_below q b nv sv b2)
 rw [hG] at n2 r2
 have H2:=hZ (h.below b2)
 have HG2:=hZ (And.intro hG b2)
 have HGe:=hZ (And.intro hG (by rw [←hG];exact hqw:q<G))
 have HN:=hZ (And.intro n2 r2)
 have HL:=hZ hL
 have HLEN:=hZ hn
 have HF1:Hid (∀(x:Array Value) (u:World),Sem.run Tryz.prog (callFunc 45 x) u=.ok (.enter 45 x) u):=hZ (fun x u=>rfl)
 go_enter Tryz.func46,Tryz.ntmps46
 go_upto_region 1 with fail
 try rw [hw2]
 try rw [hG]
 clear hw2 h b2 hG hL hr hn hm hC
 obtain⟨m0,m1,m2,m3,m4,m5,m6,m7,m8,m9⟩:=ten_at n2
 have x0:=one_at (uZ HC2).hs
 have x1:=one_at (uZ HC2).hk
 have x2:=one_at (uZ HC2).hn
 have x3:=one_at (uZ HC2).ht
 clear n2 r2
 go_upto_region 3 with fail
 have hL0:=uZ HL
 have CP:=hZ (kids_any hL0 (fun x u=>rfl) (k:=4) (vk:=vk) (vn:=vn) (p:=p) (t:=t) (vs:=vs) (al:=al) (ak:=ak) (ll:=ll) (cl:=cl) (lk:=lk) (ck:=ck) (f:=f) ((uZ HC2).hn) (uZ HRW) (uZ HLEN) (uZ HM0) (uZ H2) hk hB hok)
 rw [uZ HRR] at CP
 obtain⟨c0,c1,c2,c3,c4⟩:=five_at (uZ H2).hq
 obtain⟨ao,ncap,hnv⟩:=own_slice (uZ H2).hnv
 rw [hnv] at c1
 clear hL0
 go_wp2_with (rw [uZ HF1])
 refine(uZ CP).mono ?_
 rintro e w3 ⟨rfl,nv1,sv1,n1,S3,M3,hn1⟩
 have r3:=keepF_of_mvd (uZ H2) M3 (G+1) _ _ (by decide) (by decide) (by decide) (uZ HN).2
 have x3:=one_at (keepF_of_mvd (uZ H2) M3 xs _ _ (by decide) (by decide) (by decide) (uZ HC2).hs)
 have HS3:=hZ S3
 have HM3:=hZ M3
 have HR3:=hZ r3
 have HX3:=hZ x3
 have HN1:=hZ hn1
 clear CP S3 M3 r3 x3 hn1 m0 m1 m2 m3 m4 m5 m6 m7 m8 m9 x0 x1 x2 c0 c1 c2 c3 c4
 unfold fltV
 obtain⟨g3,hg3⟩:=eX (w3.heap.size)
 go_upto_region 5 with fail
 obtain⟨w4,hw4⟩:=eX (w3.alloc (.cells #[.int .i64 f1,.int .i64 f2] 42))
 have b4:=alB hw4
 have n4:w4.heap[g3]?=some (.cells #[.int .i64 f1,.int .i64 f2] 42 (0,0)):=alN hw4 hg3
 have x4:w4.cell? ⟨xs,0,none⟩=some (.pointer (some ⟨q,0,none⟩)):=cell_kept b4 (uZ HX3)
 have HS4:=hZ ((uZ HS3).below b4)
 have HM4:=hZ ((uZ HM3).trans (Mvd.of_below q b nv1 sv1 b4))
 have r4:=(b4.block (G+1) (ltR (uZ HR3))).trans (uZ HR3)
 have HN4:=hZ (And.intro n4 r4)
 have CL:=hZ (leave_any (uZ HS4) hkv hnd hsz)
 try rw [hw4]
 try rw [hg3]
 clear hw4 hg3 b4 n4 r4 HS3 HM3 HR3 HX3
 go_wp2_with fail
 refine(uZ CL).mono ?_
 rintro e w5 ⟨rfl,nv2,sv2,S5,M5⟩
 have r5:=keepF_of_mvd (uZ HS4) M5 (G+1) _ _ (by decide) (by decide) (by decide) (uZ HN4).2
 have n5:=keepF_of_mvd (uZ HS4) M5 g3 _ _ (by decide) (by decide) (by decide) (uZ HN4).1
 obtain⟨j0,j1⟩:=two_at n5
 obtain⟨k0,k1⟩:=two_at r5
 have y0:=frozen_of_row w5 (G+1) 0 _ _ r5
 have y1:=frozen_of_row w5 (G+1) 1 _ _ r5
 have HE:=hZ (And.intro (put2 r5 (.int .i64 f1) (.int .i64 f2)) (scm_fin S5 ((uZ HMw).trans ((uZ HM4).trans M5)) (uZ HGe) r5 (.int .i64 f1) (.int .i64 f2)))
 clear CL S5 M5 r5 n5 x4
 go_wp2_with fail
 exact rtF (p:=6) rfl rfl (uZ HE).1 rfl ⟨rfl,_,_,_,(uZ HE).2.1,(uZ HE).2.2,uZ HN1⟩
theorem dcl_zero (s:Sco) (t:List UInt8) (p:Int) (b:Bool):(dclS s t p b).1.2=0→(dclS s t p b).1=(0,0):=by
 unfold dclS
 split
 ·intro h
  exact absurd h (by show ¬(191:Int)=0;decide)
 ·intro _
  rfl
theorem nd5_any {w0:World} {lo q b B0:Nat} {nv0 sv0:Value} {mz:Tn→Nat} {ok:Tn→Sco→Prop} {g:Tn→Sco→Ft × Sco} {tb tn xs xk xn xt:Nat} {tk:List UInt8→Option Int} (hL:LookS w0 lo q b B0 nv0 sv0 mz ok g 46 #[] (ndCap xs xk xn xt))
  {vk vn p:Int} {t vs:ByteArray} {al ak a:Option Addr} {ll cl lk ck m cc:Nat} {f:Bool} {ns:List Tn} {w:World} {nv sv:Value} {n:Nat} {s:Sco} (hC:Cp w q tb tn xs xk xn xt tk) (hr:RowN w B0 ns a cc) (hn:ns.length=m) (hm:Mvd w0 w q b nv0 sv0 nv sv) (h:ScM w lo q b n nv sv s) (hB:B0≤lo) (ht:t.size≤maxLen) (hk:n+(smM mz ns+1)≤1099511627776) (hok:∀(i:Nat) (y:Tn),ns[i]?=some y→(∀j,j<i→(rL g ns s j).2=0)→ok y (stL g ns s i)) :
  Calls Tryz.prog 46 #[.agg #[.int .i64 5,.string t,.int .i64 vk,.int .i64 vn,.string vs,.slice al ll cl,.slice ak lk ck,.bool f,.slice a m cc,.int .i64 p],.pointer (some ⟨xs,0,none⟩),.pointer (some ⟨xk,0,none⟩),.pointer (some ⟨xn,0,none⟩),.pointer (some ⟨xt,0,none⟩)] w fun e w'=>e=.returned (fltV (thnS (ckL g ns s) (fun s=>dclS s t.data.toList p (decide (0<m)))).1)∧MvP w w' lo q b n (smM mz ns+1) nv sv (thnS (ckL g ns s) (fun s=>dclS s t.data.toList p (decide (0<m)))).2:=by
 obtain⟨⟨⟨f1,f2⟩,s1⟩,hR⟩:∃R,thnS (ckL g ns s) (fun s=>dclS s t.data.toList p (decide (0<m)))=R:=⟨_,rfl⟩
 rw [hR]
 have HRR:=hZ hR
 clear hR
 have hqw:=ltR h.hq
 obtain⟨w2,hw2,n2,r2,b2⟩:=bxs 5 vk vn p t vs al ak a ll cl lk ck m cc f w
 obtain⟨G,hG⟩:=eX (w.heap.size)
 have hBw:=Nat.le_trans hB h.hlo.2.2
 have HRW:=hZ (hr.later (b2.mono hBw))
 have HC2:=hZ (hC.below b2)
 have HM0:=hZ (hm.trans (Mvd.of_below q b nv sv b2))
 have HMw:=hZ (Mvd.of_below q b nv sv b2)
 rw [hG] at n2 r2
 have H2:=hZ (h.below b2)
 have HG2:=hZ (And.intro hG b2)
 have HGe:=hZ (And.intro hG (by rw [←hG];exact hqw:q<G))
 have HN:=hZ (And.intro n2 r2)
 have HL:=hZ hL
 have HLEN:=hZ hn
 go_enter Tryz.func46,Tryz.ntmps46
 go_upto_region 1 with fail
 try rw [hw2]
 try rw [hG]
 clear hw2 h b2 hG hL hr hn hm hC
 obtain⟨m0,m1,m2,m3,m4,m5,m6,m7,m8,m9⟩:=ten_at n2
 have x0:=one_at (uZ HC2).hs
 have x1:=one_at (uZ HC2).hk
 have x2:=one_at (uZ HC2).hn
 have x3:=one_at (uZ HC2).ht
 clear n2 r2
 go_upto_region 8 with fail
 go_wp2_with fail
 obtain⟨w3,hw3⟩:=eX (w2.alloc (.cells #[.func (.func 45) #[] #[.pointer (some ⟨xn,0,none⟩)],.func (.func 49) #[.pointer (some ⟨q,0,none⟩)] #[]] 45))
 obtain⟨gb,hgb⟩:=eX (w2.heap.size)
 have b3:=alB hw3
 have g3:w3.heap[gb]?=some (.cells #[.func (.func 45) #[] #[.pointer (some ⟨xn,0,none⟩)],.func (.func 49) #[.pointer (some ⟨q,0,none⟩)] #[]] 45 (0,0)):=alN hw3 hgb
 try rw [hw3]
 try rw [hgb]
 clear hw3 hgb m0 m1 m2 m3 m4 m5 m6 m7 m8 m9 x0 x1 x2 x3
 have hL0:=uZ HL
 have hBw2:B0≤w2.heap.size:=Nat.le_trans hB (uZ H2).hlo.2.2
 have CP:=row_two (k:=5) (vk:=vk) (vn:=vn) (p:=p) (t:=t) (vs:=vs) (al:=al) (ak:=ak) (a:=a) (ll:=ll) (cl:=cl) (lk:=lk) (ck:=ck) (m:=m) (cc:=cc) (f:=f) (F1:=45) (Bd1:=#[]) (cap1:=#[.pointer (some ⟨xn,0,none⟩)]) (F2:=49) (Bd2:=#[.pointer (some ⟨q,0,none⟩)]) (cap2:=#[]) (a1:=ckL g ns s) (h2:=fun s=>dclS s t.data.toList p (decide (0<m))) (m1:=smM mz ns) (m2:=1) (fun x u=>rfl) (fun x u=>rfl) (dcl_zero _ _ _ _) (Nat.le_refl 2) g3 ((uZ H2).below b3)
  (fun u hu hS=>kids_any hL0 (fun x u=>rfl) (k:=5) (f:=f) (((uZ HC2).below ((b3.trans (hu.mono b3.size)))).hn) ((uZ HRW).later ((b3.trans (hu.mono b3.size)).mono hBw2)) (uZ HLEN) ((uZ HM0).trans (Mvd.of_below q b nv sv (b3.trans (hu.mono b3.size)))) hS (by omega) hB hok)
  (fun h0 u nv' sv' n' hn' hM hS=>(let_any (f:=f) ht ⟨by have:=hS.few.1;omega,by omega⟩ hS).mono (fun e u' h=>⟨h.1,h.2⟩))
 rw [uZ HRR] at CP
 refine CP.mono ?_
 rintro e w4 ⟨rfl,nv1,sv1,n1,S4,M4',hn1⟩
 have M4:=(Mvd.of_below q b nv sv b3).trans M4'
 clear CP M4' b3 g3 hL0
 have r4:=keepF_of_mvd (uZ H2) M4 (G+1) _ _ (by decide) (by decide) (by decide) (uZ HN).2
 obtain⟨k0,k1⟩:=two_at r4
 have y0:=frozen_of_row w4 (G+1) 0 _ _ r4
 have y1:=frozen_of_row w4 (G+1) 1 _ _ r4
 have HE:=hZ (And.intro (put2 r4 (.int .i64 f1) (.int .i64 f2)) (scm_fin S4 ((uZ HMw).trans M4) (uZ HGe) r4 (.int .i64 f1) (.int .i64 f2)))
 have HN1:=hZ hn1
 clear S4 M4 r4 hn1
 unfold fltV
 go_wp2_with fail
 exact rtF (p:=6) rfl rfl (uZ HE).1 rfl ⟨rfl,_,_,_,(uZ HE).2.1,(uZ HE).2.2,uZ HN1⟩
theorem asg_zero (s:Sco) (t:List UInt8) (p:Int):(asgS s t p).1.2=0→(asgS s t p).1=(0,0):=by
 unfold asgS
 split
 ·intro h
  exact absurd h (by show ¬(192:Int)=0;decide)
 ·intro _
  rfl
theorem nd6_any {w0:World} {lo q b B0:Nat} {nv0 sv0:Value} {mz:Tn→Nat} {ok:Tn→Sco→Prop} {g:Tn→Sco→Ft × Sco} {tb tn xs xk xn xt:Nat} {tk:List UInt8→Option Int} (hL:LookS w0 lo q b B0 nv0 sv0 mz ok g 46 #[] (ndCap xs xk xn xt))
  {vk vn p:Int} {t vs:ByteArray} {al ak a:Option Addr} {ll cl lk ck m cc:Nat} {f:Bool} {ns:List Tn} {w:World} {nv sv:Value} {n:Nat} {s:Sco} (hC:Cp w q tb tn xs xk xn xt tk) (hr:RowN w B0 ns a cc) (hn:ns.length=m) (hm:Mvd w0 w q b nv0 sv0 nv sv) (h:ScM w lo q b n nv sv s) (hB:B0≤lo) (ht:t.size≤maxLen) (hk:n+(smM mz ns+0)≤1099511627776) (hok:∀(i:Nat) (y:Tn),ns[i]?=some y→(∀j,j<i→(rL g ns s j).2=0)→ok y (stL g ns s i)) :
  Calls Tryz.prog 46 #[.agg #[.int .i64 6,.string t,.int .i64 vk,.int .i64 vn,.string vs,.slice al ll cl,.slice ak lk ck,.bool f,.slice a m cc,.int .i64 p],.pointer (some ⟨xs,0,none⟩),.pointer (some ⟨xk,0,none⟩),.pointer (some ⟨xn,0,none⟩),.pointer (some ⟨xt,0,none⟩)] w fun e w'=>e=.returned (fltV (thnS (ckL g ns s) (fun s=>asgS s t.data.toList p)).1)∧MvP w w' lo q b n (smM mz ns+0) nv sv (thnS (ckL g ns s) (fun s=>asgS s t.data.toList p)).2:=by
 obtain⟨⟨⟨f1,f2⟩,s1⟩,hR⟩:∃R,thnS (ckL g ns s) (fun s=>asgS s t.data.toList p)=R:=⟨_,rfl⟩
 rw [hR]
 have HRR:=hZ hR
 clear hR
 have hqw:=ltR h.hq
 obtain⟨w2,hw2,n2,r2,b2⟩:=bxs 6 vk vn p t vs al ak a ll cl lk ck m cc f w
 obtain⟨G,hG⟩:=eX (w.heap.size)
 have hBw:=Nat.le_trans hB h.hlo.2.2
 have HRW:=hZ (hr.later (b2.mono hBw))
 have HC2:=hZ (hC.below b2)
 have HM0:=hZ (hm.trans (Mvd.of_below q b nv sv b2))
 have HMw:=hZ (Mvd.of_below q b nv sv b2)
 rw [hG] at n2 r2
 have H2:=hZ (h.below b2)
 have HG2:=hZ (And.intro hG b2)
 have HGe:=hZ (And.intro hG (by rw [←hG];exact hqw:q<G))
 have HN:=hZ (And.intro n2 r2)
 have HL:=hZ hL
 have HLEN:=hZ hn
 go_enter Tryz.func46,Tryz.ntmps46
 go_upto_region 1 with fail
 try rw [hw2]
 try rw [hG]
 clear hw2 h b2 hG hL hr hn hm hC
 obtain⟨m0,m1,m2,m3,m4,m5,m6,m7,m8,m9⟩:=ten_at n2
 have x0:=one_at (uZ HC2).hs
 have x1:=one_at (uZ HC2).hk
 have x2:=one_at (uZ HC2).hn
 have x3:=one_at (uZ HC2).ht
 clear n2 r2
 go_upto_region 10 with fail
 go_wp2_with fail
 obtain⟨w3,hw3⟩:=eX (w2.alloc (.cells #[.func (.func 45) #[] #[.pointer (some ⟨xn,0,none⟩)],.func (.func 50) #[.pointer (some ⟨q,0,none⟩)] #[]] 45))
 obtain⟨gb,hgb⟩:=eX (w2.heap.size)
 have b3:=alB hw3
 have g3:w3.heap[gb]?=some (.cells #[.func (.func 45) #[] #[.pointer (some ⟨xn,0,none⟩)],.func (.func 50) #[.pointer (some ⟨q,0,none⟩)] #[]] 45 (0,0)):=alN hw3 hgb
 try rw [hw3]
 try rw [hgb]
 clear hw3 hgb m0 m1 m2 m3 m4 m5 m6 m7 m8 m9 x0 x1 x2 x3
 have hL0:=uZ HL
 have hBw2:B0≤w2.heap.size:=Nat.le_trans hB (uZ H2).hlo.2.2
 have CP:=row_two (k:=6) (vk:=vk) (vn:=vn) (p:=p) (t:=t) (vs:=vs) (al:=al) (ak:=ak) (a:=a) (ll:=ll) (cl:=cl) (lk:=lk) (ck:=ck) (m:=m) (cc:=cc) (f:=f) (F1:=45) (Bd1:=#[]) (cap1:=#[.pointer (some ⟨xn,0,none⟩)]) (F2:=50) (Bd2:=#[.pointer (some ⟨q,0,none⟩)]) (cap2:=#[]) (a1:=ckL g ns s) (h2:=fun s=>asgS s t.data.toList p) (m1:=smM mz ns) (m2:=0) (fun x u=>rfl) (fun x u=>rfl) (asg_zero _ _ _) (Nat.le_refl 2) g3 ((uZ H2).below b3)
  (fun u hu hS=>kids_any hL0 (fun x u=>rfl) (k:=6) (f:=f) (((uZ HC2).below ((b3.trans (hu.mono b3.size)))).hn) ((uZ HRW).later ((b3.trans (hu.mono b3.size)).mono hBw2)) (uZ HLEN) ((uZ HM0).trans (Mvd.of_below q b nv sv (b3.trans (hu.mono b3.size)))) hS (by omega) hB hok)
  (fun h0 u nv' sv' n' hn' hM hS=>(assign_any (f:=f) ht hS).mono (fun e u' h=>⟨h.1,MvP.of_own h.2.1 h.2.2⟩))
 rw [uZ HRR] at CP
 refine CP.mono ?_
 rintro e w4 ⟨rfl,nv1,sv1,n1,S4,M4',hn1⟩
 have M4:=(Mvd.of_below q b nv sv b3).trans M4'
 clear CP M4' b3 g3 hL0
 have r4:=keepF_of_mvd (uZ H2) M4 (G+1) _ _ (by decide) (by decide) (by decide) (uZ HN).2
 obtain⟨k0,k1⟩:=two_at r4
 have y0:=frozen_of_row w4 (G+1) 0 _ _ r4
 have y1:=frozen_of_row w4 (G+1) 1 _ _ r4
 have HE:=hZ (And.intro (put2 r4 (.int .i64 f1) (.int .i64 f2)) (scm_fin S4 ((uZ HMw).trans M4) (uZ HGe) r4 (.int .i64 f1) (.int .i64 f2)))
 have HN1:=hZ hn1
 clear S4 M4 r4 hn1
 unfold fltV
 go_wp2_with fail
 exact rtF (p:=6) rfl rfl (uZ HE).1 rfl ⟨rfl,_,_,_,(uZ HE).2.1,(uZ HE).2.2,uZ HN1⟩
end Go.Proofs.YtjdpaihhhjdgmaaGreatDoor
