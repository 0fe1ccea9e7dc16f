/-
  Layer 18 (print): the walk of the law's tree: a tree in new memory; conditions: at most 40000 parts, the nodes lie in memory.
-/
import Derived.Test.YtekbmfppfjlboaaGreatDoorA18
import Derived.Test.YtekbmfppfjlboaaGreatDoorA11
import Derived.Deep.Cut
import Derived.Laws.ResultCell
set_option linter.unusedVariables false
set_option linter.unusedSimpArgs false
namespace Go.Proofs.YtekbmfppfjlboaaGreatDoor
open Go.RowKit
set_option linter.unusedVariables false
set_option linter.unusedSimpArgs false
theorem ret_n1 {P:Program} {fn:Func} {p:Tmp} {T:TypeId} (h:fn.results=#[.cell p T]) (tmps:Array Value) (w:World) (g:Nat) (c:Array Value) (d:TypeDesc) (t:TypeId)
  (hp:tmps.getD p undef=.pointer (some ⟨g,0,none⟩)) (hb:w.heap[g]?=some (.cells c t (0,0))) (hu:P.underlying T=some d) (hd:(match d with|.struct _|.array _ _=>true|_=>false)=true) (hi:(P.info? T).map (·.size)=some c.size) :
  (results fn tmps).run P w=.ok (.agg c) w:=by
 have hl:=run_loadVar_row (P:=P) w g t T c (0,0) _ hb hu hd hi
 have hp':tmps[p]?.getD undef=.pointer (some ⟨g,0,none⟩):=by simpa using hp
 simp [results,h,hp',asAddr,hl]
theorem size_nd:(Tryz.prog.info? 28).map (·.size)=some 10:=by kernel_rfl
theorem infoNd18:(Tryz.prog.info? 28).map (fun i=>(i.zero,i.size,i.bytes))=some (some (.agg #[.int .i64 0,.string ⟨#[]⟩,.int .i64 0,.int .i64 0,.string ⟨#[]⟩,.slice none 0 0,.slice none 0 0,.bool false,.slice none 0 0,.int .i64 0]),10,144):=by kernel_rfl
theorem info_nd18:∃i,Tryz.prog.info? 28=some i∧i.zero=some (.agg #[.int .i64 0,.string ⟨#[]⟩,.int .i64 0,.int .i64 0,.string ⟨#[]⟩,.slice none 0 0,.slice none 0 0,.bool false,.slice none 0 0,.int .i64 0])∧i.size=10∧i.bytes=144:=by
 have h:=infoNd18
 cases hi:Tryz.prog.info? 28 with
 |none=>rw [hi] at h;cases h
 |some i=>
  rw [hi] at h
  simp only [Option.map_some,Option.some.injEq,Prod.mk.injEq] at h
  exact⟨i,rfl,h.1,h.2.1,h.2.2⟩
theorem set_ten {w:World} {g:Nat} {y0 y1 y2 y3 y4 y5 y6 y7 y8 y9:Value} {T:TypeId} (h:w.heap[g]?=some (.cells #[y0,y1,y2,y3,y4,y5,y6,y7,y8,y9] T (0,0))) (v0 v1 v2 v3 v4 v5 v6 v7 v8 v9:Value):((((((((((w.setCell ⟨g,0,none⟩ (v0)).setCell ⟨g,1,none⟩ (v1)).setCell ⟨g,2,none⟩ (v2)).setCell ⟨g,3,none⟩ (v3)).setCell ⟨g,4,none⟩ (v4)).setCell ⟨g,5,none⟩ (v5)).setCell ⟨g,6,none⟩ (v6)).setCell ⟨g,7,none⟩ (v7)).setCell ⟨g,8,none⟩ (v8)).setCell ⟨g,9,none⟩ (v9)).heap[g]?=some (.cells #[v0,v1,v2,v3,v4,v5,v6,v7,v8,v9] T (0,0)):=by
 have e:∀(u:World) (c:Array Value) (j:Nat) (x:Value),u.heap[g]?=some (.cells c T (0,0))→(u.setCell ⟨g,j,none⟩ x).heap[g]?=some (.cells (c.set! j x) T (0,0)):=fun u c j x hu=>by rw [heap_setCell_same u g j _ _ _ hu];rfl
 have a0:=e _ _ 0 v0 h
 simp only [Array.set!_eq_setIfInBounds,List.setIfInBounds_toArray,List.set_cons_zero,List.set_cons_succ] at a0
 have a1:=e _ _ 1 v1 a0
 simp only [Array.set!_eq_setIfInBounds,List.setIfInBounds_toArray,List.set_cons_zero,List.set_cons_succ] at a1
 have a2:=e _ _ 2 v2 a1
 simp only [Array.set!_eq_setIfInBounds,List.setIfInBounds_toArray,List.set_cons_zero,List.set_cons_succ] at a2
 have a3:=e _ _ 3 v3 a2
 simp only [Array.set!_eq_setIfInBounds,List.setIfInBounds_toArray,List.set_cons_zero,List.set_cons_succ] at a3
 have a4:=e _ _ 4 v4 a3
 simp only [Array.set!_eq_setIfInBounds,List.setIfInBounds_toArray,List.set_cons_zero,List.set_cons_succ] at a4
 have a5:=e _ _ 5 v5 a4
 simp only [Array.set!_eq_setIfInBounds,List.setIfInBounds_toArray,List.set_cons_zero,List.set_cons_succ] at a5
 have a6:=e _ _ 6 v6 a5
 simp only [Array.set!_eq_setIfInBounds,List.setIfInBounds_toArray,List.set_cons_zero,List.set_cons_succ] at a6
 have a7:=e _ _ 7 v7 a6
 simp only [Array.set!_eq_setIfInBounds,List.setIfInBounds_toArray,List.set_cons_zero,List.set_cons_succ] at a7
 have a8:=e _ _ 8 v8 a7
 simp only [Array.set!_eq_setIfInBounds,List.setIfInBounds_toArray,List.set_cons_zero,List.set_cons_succ] at a8
 have a9:=e _ _ 9 v9 a8
 simp only [Array.set!_eq_setIfInBounds,List.setIfInBounds_toArray,List.set_cons_zero,List.set_cons_succ] at a9
 exact a9
theorem set_ten_other {w:World} {g b:Nat} (hb:b≠g) (v0 v1 v2 v3 v4 v5 v6 v7 v8 v9:Value):((((((((((w.setCell ⟨g,0,none⟩ (v0)).setCell ⟨g,1,none⟩ (v1)).setCell ⟨g,2,none⟩ (v2)).setCell ⟨g,3,none⟩ (v3)).setCell ⟨g,4,none⟩ (v4)).setCell ⟨g,5,none⟩ (v5)).setCell ⟨g,6,none⟩ (v6)).setCell ⟨g,7,none⟩ (v7)).setCell ⟨g,8,none⟩ (v8)).setCell ⟨g,9,none⟩ (v9)).heap[b]?=w.heap[b]?:=by
 rw [heap_setCell_other _ _ _ _ (by simpa using hb),heap_setCell_other _ _ _ _ (by simpa using hb),heap_setCell_other _ _ _ _ (by simpa using hb),heap_setCell_other _ _ _ _ (by simpa using hb),heap_setCell_other _ _ _ _ (by simpa using hb),heap_setCell_other _ _ _ _ (by simpa using hb),heap_setCell_other _ _ _ _ (by simpa using hb),heap_setCell_other _ _ _ _ (by simpa using hb),heap_setCell_other _ _ _ _ (by simpa using hb),heap_setCell_other _ _ _ _ (by simpa using hb)]
theorem set_ten_below {w0 w:World} {B g:Nat} (h:Below B w0 w) (hg:B≤g) (v0 v1 v2 v3 v4 v5 v6 v7 v8 v9:Value):Below B w0 ((((((((((w.setCell ⟨g,0,none⟩ (v0)).setCell ⟨g,1,none⟩ (v1)).setCell ⟨g,2,none⟩ (v2)).setCell ⟨g,3,none⟩ (v3)).setCell ⟨g,4,none⟩ (v4)).setCell ⟨g,5,none⟩ (v5)).setCell ⟨g,6,none⟩ (v6)).setCell ⟨g,7,none⟩ (v7)).setCell ⟨g,8,none⟩ (v8)).setCell ⟨g,9,none⟩ (v9)):=
 (((((((((h.setCell (p:=⟨g,0,none⟩) (by exact hg) v0).setCell (p:=⟨g,1,none⟩) (by exact hg) v1).setCell (p:=⟨g,2,none⟩) (by exact hg) v2).setCell (p:=⟨g,3,none⟩) (by exact hg) v3).setCell (p:=⟨g,4,none⟩) (by exact hg) v4).setCell (p:=⟨g,5,none⟩) (by exact hg) v5).setCell (p:=⟨g,6,none⟩) (by exact hg) v6).setCell (p:=⟨g,7,none⟩) (by exact hg) v7).setCell (p:=⟨g,8,none⟩) (by exact hg) v8).setCell (p:=⟨g,9,none⟩) (by exact hg) v9
theorem set_ten_size {w:World} {g:Nat} (v0 v1 v2 v3 v4 v5 v6 v7 v8 v9:Value):((((((((((w.setCell ⟨g,0,none⟩ (v0)).setCell ⟨g,1,none⟩ (v1)).setCell ⟨g,2,none⟩ (v2)).setCell ⟨g,3,none⟩ (v3)).setCell ⟨g,4,none⟩ (v4)).setCell ⟨g,5,none⟩ (v5)).setCell ⟨g,6,none⟩ (v6)).setCell ⟨g,7,none⟩ (v7)).setCell ⟨g,8,none⟩ (v8)).setCell ⟨g,9,none⟩ (v9)).heap.size=w.heap.size:=by simp
theorem Tw.begin {w u:World} {B G H:Nat} {NB:Array Value} {k vk vn p:Int} {t vs:ByteArray} {al ak:Option Addr} {ll cl lk ck:Nat} {f:Bool} {v:Vl} {ks:List Tn} (below:Below G w u) (bg:B≤G) (nb:u.heap[G]?=some (.cells NB 28 (0,0))) (zb:u.heap[G+1]?=some (.cells #[.int .i64 0,.string ⟨#[]⟩,.int .i64 0,.int .i64 0,.string ⟨#[]⟩,.slice none 0 0,.slice none 0 0,.bool false,.slice none 0 0,.int .i64 0] 28 (0,0))) (gh:G+2≤H) (hz:u.heap[H]?=some (.cells #[.int .i64 0,.string ⟨#[]⟩,.int .i64 0,.int .i64 0,.string ⟨#[]⟩,.slice none 0 0,.slice none 0 0,.bool false,.slice none 0 0,.int .i64 0] 28 (0,0)))
  (hv:IsP u (fun b=>b<B∨(G+2≤b∧b<u.heap.size∧b≠H)) v (.agg #[.int .i64 vk,.int .i64 vn,.string vs,.slice al ll cl,.slice ak lk ck])):Tw w ((((((((((u.setCell ⟨H,0,none⟩ (.int .i64 k)).setCell ⟨H,1,none⟩ (.string t)).setCell ⟨H,2,none⟩ (.int .i64 vk)).setCell ⟨H,3,none⟩ (.int .i64 vn)).setCell ⟨H,4,none⟩ (.string vs)).setCell ⟨H,5,none⟩ (.slice al ll cl)).setCell ⟨H,6,none⟩ (.slice ak lk ck)).setCell ⟨H,7,none⟩ (.bool f)).setCell ⟨H,8,none⟩ (.slice none 0 0)).setCell ⟨H,9,none⟩ (.int .i64 p)) B G H NB k vk vn p t vs al ak ll cl lk ck f v (.slice none 0 0) 0 ks (fun _=>[]):=by
 refine⟨set_ten_below below (by omega) _ _ _ _ _ _ _ _ _ _,bg,?_,?_,gh,set_ten hz _ _ _ _ _ _ _ _ _ _,hv.to (fun b hb=>set_ten_other (by rcases hb with h|h <;> omega) _ _ _ _ _ _ _ _ _ _) (fun b hb=>hb.imp id (fun ⟨x,y,z⟩=>⟨x,by rw [set_ten_size];exact y,z,by simp [Value.ownBlock]⟩)),World.ownsRow_nil _ _ _ _,fun j z hj=>by omega⟩
 ·rw [set_ten_other (by omega)];exact nb
 ·rw [set_ten_other (by omega)];exact zb
def TreAt (N:Nat):Prop:=∀(y:Tn) (x:List Value) (B:Nat) (w:World),cns [y]≤N→cns [y]≤40000→IsN w (fun b=>b<B) y x→B≤w.heap.size →
  Calls Tryz.prog 18 #[.agg x.toArray] w fun e w'=>∃x',e=.returned (.agg x'.toArray)∧IsN w' (fun b=>b<B∨(w.heap.size≤b∧b<w'.heap.size)) y x'∧Below w.heap.size w w'
set_option maxRecDepth 100000 in
set_option maxHeartbeats 8000000 in
theorem tre_step (N:Nat) (ih:TreAt N):TreAt (N+1):=by
 intro y x B w hN h40 hx hB
 obtain⟨vk,vn,vs,al,ak,a,ll,cl,lk,ck,cc,rfl,hv,hr,hbk,hbp⟩:=hx.opn
 have hbt:y.t.size≤140737488351232:=by obtain⟨c,a,cc,C,_,_,_,hf,_⟩:=hx;exact hf.bt
 obtain⟨k,t,v,f,ks,p⟩:=y
 obtain⟨kd,nn,ss,l,vks⟩:=v
 obtain⟨e1,e2,e3,-⟩:=IsP.at hv
 simp only at e1 e2 e3 hv hr hbk hbp hbt ⊢
 subst e1 e2 e3
 obtain⟨n,hn⟩:∃n,ks.length=n:=⟨_,rfl⟩
 simp only [hn]
 have hsub:∀z∈ks,cns [z]≤N∧cns [z]≤40000:=fun z hz=>by
  have h1:=cns_mem ks z hz
  have h2:cns [⟨k,t,⟨vk,vn,vs,l,vks⟩,f,ks,p⟩]=1+cvs l+cns ks:=cns_one _
  omega
 have hnb:n≤140737488351232:=by rw [←hn];exact hr.len
 have hn4:n≤40000:=by
  have h2:cns [⟨k,t,⟨vk,vn,vs,l,vks⟩,f,ks,p⟩]=1+cvs l+cns ks:=cns_one _
  have h3:∀q:List Tn,q.length≤cns q:=fun q=>by
   induction q with
   |nil=>simp
   |cons a r ih2=>obtain⟨k,t,v,f,ks,p⟩:=a;simp only [List.length_cons,cns];omega
  have:=h3 ks
  omega
 obtain⟨w1,hw1⟩:∃w1,w.alloc (.cells #[.int .i64 k,.string t,.int .i64 vk,.int .i64 vn,.string vs,.slice al ll cl,.slice ak lk ck,.bool f,.slice a n cc,.int .i64 p] 28)=w1:=⟨_,rfl⟩
 obtain⟨w2,hw2⟩:∃w2,w1.alloc (.cells #[.int .i64 0,.string ⟨#[]⟩,.int .i64 0,.int .i64 0,.string ⟨#[]⟩,.slice none 0 0,.slice none 0 0,.bool false,.slice none 0 0,.int .i64 0] 28)=w2:=⟨_,rfl⟩
 obtain⟨G,hG⟩:∃G,w.heap.size=G:=⟨_,rfl⟩
 have z1:w1.heap.size=G+1:=by rw [←hw1];simp [hG]
 have z2:w2.heap.size=G+2:=by rw [←hw2];simp [z1]
 have b1:Below w.heap.size w w1:=by rw [←hw1];exact(Below.refl _ _).alloc (Nat.le_refl _) _
 have b2:Below w1.heap.size w1 w2:=by rw [←hw2];exact(Below.refl _ _).alloc (Nat.le_refl _) _
 have A2:w2.heap[G]?=some (.cells #[.int .i64 k,.string t,.int .i64 vk,.int .i64 vn,.string vs,.slice al ll cl,.slice ak lk ck,.bool f,.slice a n cc,.int .i64 p] 28 (0,0)):=Below.cellsAt b2 (by rw [←hw1,←hG];exact heap_alloc_new _ _)
 have Z2:w2.heap[G+1]?=some (.cells #[.int .i64 0,.string ⟨#[]⟩,.int .i64 0,.int .i64 0,.string ⟨#[]⟩,.slice none 0 0,.slice none 0 0,.bool false,.slice none 0 0,.int .i64 0] 28 (0,0)):=by rw [←hw2,←z1];exact heap_alloc_new _ _
 have X2:Below G w w2:=by rw [←hG];exact b1.trans (b2.mono (by omega))
 have hBG:B≤G:=by rw [←hG];exact hB
 have HF:Hid (∀u,Below w2.heap.size w2 u→u.cell? ⟨G,0,none⟩=some (.int .i64 k)∧u.cell? ⟨G,1,none⟩=some (.string t)∧u.cell? ⟨G,2,none⟩=some (.int .i64 vk)∧u.cell? ⟨G,3,none⟩=some (.int .i64 vn)∧u.cell? ⟨G,4,none⟩=some (.string vs)∧u.cell? ⟨G,5,none⟩=some (.slice al ll cl)∧u.cell? ⟨G,6,none⟩=some (.slice ak lk ck)∧u.cell? ⟨G,7,none⟩=some (.bool f)∧u.cell? ⟨G,8,none⟩=some (.slice a n cc)∧u.cell? ⟨G,9,none⟩=some (.int .i64 p)):=hide (fun u hu=>row_ten (Below.cellsAt hu A2))
 have HA:=hide (And.intro A2 (And.intro Z2 (And.intro X2 (And.intro hBG z2))))
 have HV:Hid (∀u,Below w2.heap.size w2 u→IsV u B (.mk vk vn vs l vks) (.agg #[.int .i64 vk,.int .i64 vn,.string vs,.slice al ll cl,.slice ak lk ck])∧RowN u B ks a cc∧B≤u.heap.size):=hide (fun u hu=>by
  have h1:Below G w u:=X2.trans (hu.mono (by omega))
  exact⟨hv.mono (h1.mono hBG),hr.later (h1.mono hBG),by have:=hu.size;omega⟩)
 have CC:Hid (∀u,Below w2.heap.size w2 u→Calls Tryz.prog 34 #[.agg #[.int .i64 vk,.int .i64 vn,.string vs,.slice al ll cl,.slice ak lk ck]] u fun e u'=>∃(al' ak':Option Addr) (ll' cl' lk' ck':Nat),e=.returned (.agg #[.int .i64 vk,.int .i64 vn,.string vs,.slice al' ll' cl',.slice ak' lk' ck'])∧Below u.heap.size u u'∧IsP u' (fun b=>b<B∨(u.heap.size≤b∧b<u'.heap.size)) (.mk vk vn vs l vks) (.agg #[.int .i64 vk,.int .i64 vn,.string vs,.slice al' ll' cl',.slice ak' lk' ck'])):=hide (fun u hu=>by
  have h0:=(unhide HV) u hu
  refine(copied_two _ _ B u h0.1 h0.2.2).mono (fun e u' h=>?_)
  obtain⟨x',rfl,hx',hb',h1,h2⟩:=h
  obtain⟨_,_,_,_,_,al',ak',cl',ck',hm,hx2⟩:=hx'.shape
  cases hm
  refine⟨al',ak',_,cl',_,ck',by rw [hx2],hb',?_⟩
  rw [←hx2]
  cases hf:fewB (.mk vk vn vs l vks) with
  |true=>exact(h1 hf).1.weak (fun b hb=>Or.inr hb)
  |false=>
   rw [h2 hf]
   exact(h0.1.mono (hb'.mono h0.2.2)).weak (fun b hb=>Or.inl hb))
 have HS:=hide (And.intro hn (And.intro hsub (And.intro hbk (And.intro hbp hbt))))
 have HRN:=hide hr
 have HW:=hide (And.intro hw1 hw2)
 have HGE:=hide hG
 clear hw1 hw2 z1 z2 b1 b2 A2 Z2 X2 hBG hB hr hv hx hn hsub hbk hbp hbt hN h40
 go_enter Tryz.func18,Tryz.ntmps18
 go_upto_region 1 with fail
 rw [(unhide HW).1,(unhide HW).2]
 try rw [hG]
 clear HW
 go_cut [3] from 5 to 16 (fun r wx=>∃(H:Nat) (al' ak':Option Addr) (ll' cl' lk' ck':Nat),r=.pointer (some ⟨H,0,none⟩)∧Hid (Tw w wx B G H (#[.int .i64 k,.string t,.int .i64 vk,.int .i64 vn,.string vs,.slice al ll cl,.slice ak lk ck,.bool f,.slice a n cc,.int .i64 p]) k vk vn p t vs al' ak' ll' cl' lk' ck' f (.mk vk vn vs l vks) (.slice none 0 0) 0 ks (fun _=>[])))
 case first=>
  have HS0:Hid (Below w2.heap.size w2 w2.drew):=hide ((Below.refl _ _).drew)
  refine till_begin (S:=fun w'=>Below w2.heap.size w2 w') 13 (by kernel_rfl) ?_
  obtain⟨W0,hW0⟩:∃W0,w2.drew=W0:=⟨_,rfl⟩
  try rw [hW0]
  rw [hW0] at HS0
  clear hW0
  refine till_take 0 (v:=.pointer (some ⟨G,0,none⟩)) (some 5) rfl rfl rfl (by kernel_rfl) (by kernel_rfl) (by kernel_rfl) (by kernel_rfl) (fun _ _ _ h=>h) (Or.inl ⟨by rfl,fun u hu=>by obtain⟨x0,x1,x2,x3,x4,x5,x6,x7,x8,x9⟩:=unhide HF u hu;go_simp⟩) (unhide HS0) ?_
  try simp only [Act.put,List.setIfInBounds_toArray,List.set_cons_zero,List.set_cons_succ]
  refine till_take 1 (v:=.int .i64 k) (some 6) rfl rfl rfl (by kernel_rfl) (by kernel_rfl) (by kernel_rfl) (by kernel_rfl) (fun _ _ _ h=>h) (Or.inl ⟨by rfl,fun u hu=>by obtain⟨x0,x1,x2,x3,x4,x5,x6,x7,x8,x9⟩:=unhide HF u hu;go_simp⟩) (unhide HS0) ?_
  try simp only [Act.put,List.setIfInBounds_toArray,List.set_cons_zero,List.set_cons_succ]
  refine till_take 2 (v:=.pointer (some ⟨G,1,none⟩)) (some 7) rfl rfl rfl (by kernel_rfl) (by kernel_rfl) (by kernel_rfl) (by kernel_rfl) (fun _ _ _ h=>h) (Or.inl ⟨by rfl,fun u hu=>by obtain⟨x0,x1,x2,x3,x4,x5,x6,x7,x8,x9⟩:=unhide HF u hu;go_simp⟩) (unhide HS0) ?_
  try simp only [Act.put,List.setIfInBounds_toArray,List.set_cons_zero,List.set_cons_succ]
  refine till_take 3 (v:=.string t) (some 8) rfl rfl rfl (by kernel_rfl) (by kernel_rfl) (by kernel_rfl) (by kernel_rfl) (fun _ _ _ h=>h) (Or.inl ⟨by rfl,fun u hu=>by obtain⟨x0,x1,x2,x3,x4,x5,x6,x7,x8,x9⟩:=unhide HF u hu;go_simp⟩) (unhide HS0) ?_
  try simp only [Act.put,List.setIfInBounds_toArray,List.set_cons_zero,List.set_cons_succ]
  refine till_take 4 (v:=.pointer (some ⟨G,2,none⟩)) (some 9) rfl rfl rfl (by kernel_rfl) (by kernel_rfl) (by kernel_rfl) (by kernel_rfl) (fun _ _ _ h=>h) (Or.inl ⟨by rfl,fun u hu=>by obtain⟨x0,x1,x2,x3,x4,x5,x6,x7,x8,x9⟩:=unhide HF u hu;go_simp⟩) (unhide HS0) ?_
  try simp only [Act.put,List.setIfInBounds_toArray,List.set_cons_zero,List.set_cons_succ]
  refine till_take 5 (v:=.agg #[.int .i64 vk,.int .i64 vn,.string vs,.slice al ll cl,.slice ak lk ck]) (some 10) rfl rfl rfl (by kernel_rfl) (by kernel_rfl) (by kernel_rfl) (by kernel_rfl) (fun _ _ _ h=>h) (Or.inl ⟨by rfl,fun u hu=>by obtain⟨x0,x1,x2,x3,x4,x5,x6,x7,x8,x9⟩:=unhide HF u hu;go_simp⟩) (unhide HS0) ?_
  try simp only [Act.put,List.setIfInBounds_toArray,List.set_cons_zero,List.set_cons_succ]
  refine till_take 7 (v:=.pointer (some ⟨G,7,none⟩)) (some 12) rfl rfl rfl (by kernel_rfl) (by kernel_rfl) (by kernel_rfl) (by kernel_rfl) (fun _ _ _ h=>h) (Or.inl ⟨by rfl,fun u hu=>by obtain⟨x0,x1,x2,x3,x4,x5,x6,x7,x8,x9⟩:=unhide HF u hu;go_simp⟩) (unhide HS0) ?_
  try simp only [Act.put,List.setIfInBounds_toArray,List.set_cons_zero,List.set_cons_succ]
  refine till_take 8 (v:=.bool f) (some 13) rfl rfl rfl (by kernel_rfl) (by kernel_rfl) (by kernel_rfl) (by kernel_rfl) (fun _ _ _ h=>h) (Or.inl ⟨by rfl,fun u hu=>by obtain⟨x0,x1,x2,x3,x4,x5,x6,x7,x8,x9⟩:=unhide HF u hu;go_simp⟩) (unhide HS0) ?_
  try simp only [Act.put,List.setIfInBounds_toArray,List.set_cons_zero,List.set_cons_succ]
  refine till_take 9 (v:=.pointer (some ⟨G,9,none⟩)) (some 14) rfl rfl rfl (by kernel_rfl) (by kernel_rfl) (by kernel_rfl) (by kernel_rfl) (fun _ _ _ h=>h) (Or.inl ⟨by rfl,fun u hu=>by obtain⟨x0,x1,x2,x3,x4,x5,x6,x7,x8,x9⟩:=unhide HF u hu;go_simp⟩) (unhide HS0) ?_
  try simp only [Act.put,List.setIfInBounds_toArray,List.set_cons_zero,List.set_cons_succ]
  refine till_take 10 (v:=.int .i64 p) (some 15) rfl rfl rfl (by kernel_rfl) (by kernel_rfl) (by kernel_rfl) (by kernel_rfl) (fun _ _ _ h=>h) (Or.inl ⟨by rfl,fun u hu=>by obtain⟨x0,x1,x2,x3,x4,x5,x6,x7,x8,x9⟩:=unhide HF u hu;go_simp⟩) (unhide HS0) ?_
  try simp only [Act.put,List.setIfInBounds_toArray,List.set_cons_zero,List.set_cons_succ]
  refine till_two 6 12 (by kernel_rfl) rfl rfl (fun K hK=>?_) (fun K hK=>?_)
  ·go_simp
   refine((unhide CC) W0 (unhide HS0)).mono ?_
   rintro e W1 ⟨al',ak',ll',cl',lk',ck',rfl,bb,hvv⟩
   have HVV:=hide hvv
   have HS1:=hide ((unhide HS0).trans (bb.mono (unhide HS0).size))
   have HBB:=hide bb
   clear bb hvv
   go_wp2_with fail
   refine hK.out _ _ (Or.inr (unhide HS1)) ?_
   clear hK K
   try simp only [Act.put,List.setIfInBounds_toArray,List.set_cons_zero,List.set_cons_succ]
   refine till_take 11 (v:=.agg #[.int .i64 k,.string t,.int .i64 vk,.int .i64 vn,.string vs,.slice al' ll' cl',.slice ak' lk' ck',.bool f,.slice none 0 0,.int .i64 p]) (some 16) rfl rfl rfl (by kernel_rfl) (by kernel_rfl) (by kernel_rfl) (by kernel_rfl) (fun _ _ _ h=>h) (Or.inl ⟨by rfl,fun u hu=>by go_simp⟩) (unhide HS1) ?_
   try simp only [Act.put,List.setIfInBounds_toArray,List.set_cons_zero,List.set_cons_succ]
   refine till_one 12 (by kernel_rfl) rfl (fun K hK=>?_)
   obtain⟨H,hH⟩:∃H,W1.heap.size=H:=⟨_,rfl⟩
   obtain⟨W2,hW2⟩:∃W,W1.alloc (.cells #[.int .i64 0,.string ⟨#[]⟩,.int .i64 0,.int .i64 0,.string ⟨#[]⟩,.slice none 0 0,.slice none 0 0,.bool false,.slice none 0 0,.int .i64 0] 28)=W:=⟨_,rfl⟩
   have bb:Below W1.heap.size W1 W2:=by rw [←hW2];exact(Below.refl _ _).alloc (Nat.le_refl _) _
   have ZH2:Hid (W2.heap[H]?=some (.cells #[.int .i64 0,.string ⟨#[]⟩,.int .i64 0,.int .i64 0,.string ⟨#[]⟩,.slice none 0 0,.slice none 0 0,.bool false,.slice none 0 0,.int .i64 0] 28 (0,0))):=hide (by rw [←hW2,←hH];exact heap_alloc_new _ _)
   have HS2:=hide ((unhide HS1).trans (bb.mono (unhide HS1).size))
   have HAB:=hide bb
   have HHE:=hide hH
   have HSZ:Hid (W2.heap.size=H+1):=hide (by rw [←hW2];simp [hH])
   clear bb
   go_simp
   try rw [hW2]
   try rw [hH]
   refine hK.out _ _ (Or.inr (unhide HS2)) ?_
   clear hK K hW2 hH
   try simp only [Act.put,List.setIfInBounds_toArray,List.set_cons_zero,List.set_cons_succ]
   have ZH:=hide (show W2.heap[H]?=some (.cells #[.int .i64 0,.string ⟨#[]⟩,.int .i64 0,.int .i64 0,.string ⟨#[]⟩,.slice none 0 0,.slice none 0 0,.bool false,.slice none 0 0,.int .i64 0] 28 (0,0)) from unhide ZH2)
   obtain⟨r0,r1,r2,r3,r4,r5,r6,r7,r8,r9⟩:=row_ten (unhide ZH)
   have f0:=frozen_of_row W2 H 0 _ _ (unhide ZH)
   have f1:=frozen_of_row W2 H 1 _ _ (unhide ZH)
   have f2:=frozen_of_row W2 H 2 _ _ (unhide ZH)
   have f3:=frozen_of_row W2 H 3 _ _ (unhide ZH)
   have f4:=frozen_of_row W2 H 4 _ _ (unhide ZH)
   have f5:=frozen_of_row W2 H 5 _ _ (unhide ZH)
   have f6:=frozen_of_row W2 H 6 _ _ (unhide ZH)
   have f7:=frozen_of_row W2 H 7 _ _ (unhide ZH)
   have f8:=frozen_of_row W2 H 8 _ _ (unhide ZH)
   have f9:=frozen_of_row W2 H 9 _ _ (unhide ZH)
   refine till_one 13 (by kernel_rfl) rfl (fun K hK=>?_)
   go_simp
   refine hK.out _ _ (Or.inl (by first|rfl|trivial)) ?_
   clear hK K
   try simp only [Act.put,List.setIfInBounds_toArray,List.set_cons_zero,List.set_cons_succ]
   refine till_done (by kernel_rfl) ?_ _
   go_wp2_with fail
   go_meet
   refine⟨H,al',ak',ll',cl',lk',ck',rfl,hide ?_⟩
   have c0:=unhide HA
   have c5:=c0.2.2.2.2
   exact Tw.begin (c0.2.2.1.trans ((unhide HS2).mono (by omega))) c0.2.2.2.1 (Below.cellsAt (unhide HS2) c0.1) (Below.cellsAt (unhide HS2) c0.2.1) (by have:=(unhide HS1).size;have:=unhide HHE;omega) (unhide ZH) ((unhide HVV).to (fun b hb=>(unhide HAB).block b (hb.elim (fun h=>by have:=(unhide HS1).size;omega) (fun h=>h.2))) (fun b hb=>hb.imp id (fun ⟨q1,q2⟩=>⟨by have:=(unhide HS0).size;omega,by have:=unhide HSZ;have:=unhide HHE;omega,by have:=unhide HHE;omega⟩)))
  ·obtain⟨H,hH⟩:∃H,W0.heap.size=H:=⟨_,rfl⟩
   obtain⟨W1,hW1⟩:∃W,W0.alloc (.cells #[.int .i64 0,.string ⟨#[]⟩,.int .i64 0,.int .i64 0,.string ⟨#[]⟩,.slice none 0 0,.slice none 0 0,.bool false,.slice none 0 0,.int .i64 0] 28)=W:=⟨_,rfl⟩
   have bb:Below W0.heap.size W0 W1:=by rw [←hW1];exact(Below.refl _ _).alloc (Nat.le_refl _) _
   have ZH1:Hid (W1.heap[H]?=some (.cells #[.int .i64 0,.string ⟨#[]⟩,.int .i64 0,.int .i64 0,.string ⟨#[]⟩,.slice none 0 0,.slice none 0 0,.bool false,.slice none 0 0,.int .i64 0] 28 (0,0))):=hide (by rw [←hW1,←hH];exact heap_alloc_new _ _)
   have HS1:=hide ((unhide HS0).trans (bb.mono (unhide HS0).size))
   have HAB:=hide bb
   have HHE:=hide hH
   have HSZ:Hid (W1.heap.size=H+1):=hide (by rw [←hW1];simp [hH])
   clear bb
   go_simp
   try rw [hW1]
   try rw [hH]
   refine hK.out _ _ (Or.inr (unhide HS1)) ?_
   clear hK K hW1 hH
   try simp only [Act.put,List.setIfInBounds_toArray,List.set_cons_zero,List.set_cons_succ]
   refine till_one 6 (by kernel_rfl) rfl (fun K hK=>?_)
   go_simp
   refine((unhide CC) W1 (unhide HS1)).mono ?_
   rintro e W2 ⟨al',ak',ll',cl',lk',ck',rfl,bb,hvv⟩
   have HVV:=hide hvv
   have HS2:=hide ((unhide HS1).trans (bb.mono (unhide HS1).size))
   have HBB:=hide bb
   clear bb hvv
   go_wp2_with fail
   refine hK.out _ _ (Or.inr (unhide HS2)) ?_
   clear hK K
   try simp only [Act.put,List.setIfInBounds_toArray,List.set_cons_zero,List.set_cons_succ]
   refine till_take 11 (v:=.agg #[.int .i64 k,.string t,.int .i64 vk,.int .i64 vn,.string vs,.slice al' ll' cl',.slice ak' lk' ck',.bool f,.slice none 0 0,.int .i64 p]) (some 16) rfl rfl rfl (by kernel_rfl) (by kernel_rfl) (by kernel_rfl) (by kernel_rfl) (fun _ _ _ h=>h) (Or.inl ⟨by rfl,fun u hu=>by go_simp⟩) (unhide HS2) ?_
   try simp only [Act.put,List.setIfInBounds_toArray,List.set_cons_zero,List.set_cons_succ]
   have ZH:=hide (show W2.heap[H]?=some (.cells #[.int .i64 0,.string ⟨#[]⟩,.int .i64 0,.int .i64 0,.string ⟨#[]⟩,.slice none 0 0,.slice none 0 0,.bool false,.slice none 0 0,.int .i64 0] 28 (0,0)) from Below.cellsAt (unhide HBB) (unhide ZH1))
   obtain⟨r0,r1,r2,r3,r4,r5,r6,r7,r8,r9⟩:=row_ten (unhide ZH)
   have f0:=frozen_of_row W2 H 0 _ _ (unhide ZH)
   have f1:=frozen_of_row W2 H 1 _ _ (unhide ZH)
   have f2:=frozen_of_row W2 H 2 _ _ (unhide ZH)
   have f3:=frozen_of_row W2 H 3 _ _ (unhide ZH)
   have f4:=frozen_of_row W2 H 4 _ _ (unhide ZH)
   have f5:=frozen_of_row W2 H 5 _ _ (unhide ZH)
   have f6:=frozen_of_row W2 H 6 _ _ (unhide ZH)
   have f7:=frozen_of_row W2 H 7 _ _ (unhide ZH)
   have f8:=frozen_of_row W2 H 8 _ _ (unhide ZH)
   have f9:=frozen_of_row W2 H 9 _ _ (unhide ZH)
   refine till_one 13 (by kernel_rfl) rfl (fun K hK=>?_)
   go_simp
   refine hK.out _ _ (Or.inl (by first|rfl|trivial)) ?_
   clear hK K
   try simp only [Act.put,List.setIfInBounds_toArray,List.set_cons_zero,List.set_cons_succ]
   refine till_done (by kernel_rfl) ?_ _
   go_wp2_with fail
   go_meet
   refine⟨H,al',ak',ll',cl',lk',ck',rfl,hide ?_⟩
   have c0:=unhide HA
   have c5:=c0.2.2.2.2
   exact Tw.begin (c0.2.2.1.trans ((unhide HS2).mono (by omega))) c0.2.2.2.1 (Below.cellsAt (unhide HS2) c0.1) (Below.cellsAt (unhide HS2) c0.2.1) (by have:=(unhide HS0).size;have:=unhide HHE;omega) (unhide ZH) ((unhide HVV).weak (fun b hb=>hb.imp id (fun ⟨q1,q2⟩=>⟨by have:=(unhide HS1).size;omega,q2,by have:=unhide HSZ;omega⟩)))
 case rest=>
  obtain⟨H,al',ak',ll',cl',lk',ck',rfl,HT⟩:=hcut
  have HL0:=hide (unhide HT).lt
  obtain⟨x0,x1,x2,x3,x4,x5,x6,x7,x8,x9⟩:=row_ten (unhide HT).nb
  obtain⟨h0,h1,h2,h3,h4,h5,h6,h7,h8,h9⟩:=row_ten (unhide HT).hb
  go_upto_if 20 with fail
  go_cut [] from 5 to 26 (fun wx=>∃sv:Value,Hid (Tw w wx B G H (#[.int .i64 k,.string t,.int .i64 vk,.int .i64 vn,.string vs,.slice al ll cl,.slice ak lk ck,.bool f,.slice a n cc,.int .i64 p]) k vk vn p t vs al' ak' ll' cl' lk' ck' f (.mk vk vn vs l vks) sv 0 ks (fun _=>[])))
  case first=>
   by_cases hn0:n=0
   ·subst hn0
    go_wp2_with fail
    go_meet
    exact⟨_,HT⟩
   ·have l0:(0:Int)<(n:Int):=by omega
    have l0':0<n:=by omega
    obtain⟨i1,hi,hz0,hz1,hz2⟩:=info_nd18
    have f8:wc.frozen? ⟨H,8,none⟩=false:=frozen_of_row wc H 8 _ _ (unhide HT).hb
    have m3:IntKind.i64.wrap ((n:Int)+2)=(n:Int)+2:=by rw [IntKind.wrap_i64];omega
    have hHl:=(unhide HT).lt
    obtain⟨w4,hrun,hown4,hgrow4⟩:=run_make_own (P:=Tryz.prog) wc (H+1) 22 28 i1 (.agg #[.int .i64 0,.string ⟨#[]⟩,.int .i64 0,.int .i64 0,.string ⟨#[]⟩,.slice none 0 0,.slice none 0 0,.bool false,.slice none 0 0,.int .i64 0]) 10 Tryz.underlying22 hi hz0 hz1 .i64 .i64 (n+2) (by rw [hz2];omega) (by unfold maxLen;omega) hHl
    rw [show (((n+2:Nat)):Int)=(n:Int)+2 by omega] at hrun
    have p2:w4.cell? ⟨H,8,none⟩=some (.slice none 0 0):=(hgrow4.cell_far ⟨H,8,none⟩ (by show H<_;omega) (by simp)).trans h8
    have p3:w4.frozen? ⟨H,8,none⟩=false:=(hgrow4.frozen_far ⟨H,8,none⟩ (by show H<_;omega) (by simp)).trans f8
    obtain⟨q,hq⟩:∃q,wc.heap.size=q:=⟨_,rfl⟩
    rw [hq] at hrun hown4
    have HG4:=hide (And.intro hgrow4 (And.intro hown4 hq))
    clear hgrow4 hown4 hq hi hz0 hz1 hz2
    go_wp2_with fail
    go_meet
    obtain⟨hgrow4,hown4,hq⟩:=unhide HG4
    exact⟨_,hide (Tw.row (sv:=.slice none 0 0) (i:=0) (unhide HT) hgrow4 hown4 hq.symm)⟩
  case rest=>
   obtain⟨sv0,HT2⟩:=hcut
   clear x0 x1 x2 x3 x4 x5 x6 x7 x8 x9 h0 h1 h2 h3 h4 h5 h6 h7 h8 h9 HT
   go_wp2_with fail
   go_loopw [4] (fun x wr=>∃(i:Nat) (sv:Value) (C:Nat→List Value),i≤n∧x=.int .i64 i∧Hid (Tw w wr B G H (#[.int .i64 k,.string t,.int .i64 vk,.int .i64 vn,.string vs,.slice al ll cl,.slice ak lk ck,.bool f,.slice a n cc,.int .i64 p]) k vk vn p t vs al' ak' ll' cl' lk' ck' f (.mk vk vn vs l vks) sv i ks C)) (fun x _=>n - (intOf x).toNat)
   case atStart=>exact⟨0,_,_,Nat.zero_le _,rfl,HT2⟩
   case round=>
    clear HT2
    obtain⟨i,sv,C,hi,rfl,HR⟩:=hrel
    obtain⟨wq,hwq⟩:∃wq,wq=wr:=⟨_,rfl⟩
    subst hwq
    obtain⟨x0,x1,x2,x3,x4,x5,x6,x7,x8,x9⟩:=row_ten (unhide HR).nb
    obtain⟨h0,h1,h2,h3,h4,h5,h6,h7,h8,h9⟩:=row_ten (unhide HR).hb
    by_cases hlt:i<n
    ·have i1:(i:Int)<(n:Int):=by omega
     have i0:(0:Int)≤(i:Int):=by omega
     have hHl:=(unhide HR).lt
     obtain⟨c0A,c0Z,c0X,hBG,hz2⟩:=unhide HA
     obtain⟨z,hz⟩:∃z,ks[i]?=some z:=⟨_,List.getElem?_eq_getElem (by have:=(unhide HS).1;omega)⟩
     have hrq:RowN wq B ks a cc:=(unhide HRN).later ((unhide HR).below.mono hBG)
     obtain⟨b,vky,vny,vsy,aly,aky,ay,lly,cly,lky,cky,ny,ccy,rfl,hcy,hby,hny,hzy,hcelly⟩:=hrq.ten hz
     have hBq:B≤wq.heap.size:=by have q1:=(unhide HR).bg;have q2:=(unhide HR).lt;have q3:=(unhide HR).gh;omega
     have hsubz:=(unhide HS).2.1 z (List.mem_of_getElem? hz)
     have hblt:b.block<wq.heap.size:=by omega
     have HF2:Hid (∀u,Below wq.heap.size wq u→u.cell? ⟨H,8,none⟩=some sv∧u.cell? ⟨G,8,none⟩=some (.slice (some b) n cc)∧u.cell? (b.add (i * 10))=some (.int .i64 z.k)∧u.cell? ⟨(b.add (i * 10)).block,(b.add (i * 10)).off+1,none⟩=some (.string z.t)∧u.cell? ⟨(b.add (i * 10)).block,(b.add (i * 10)).off+2,none⟩=some (.int .i64 vky)∧u.cell? ⟨(b.add (i * 10)).block,(b.add (i * 10)).off+3,none⟩=some (.int .i64 vny)∧u.cell? ⟨(b.add (i * 10)).block,(b.add (i * 10)).off+4,none⟩=some (.string vsy)∧u.cell? ⟨(b.add (i * 10)).block,(b.add (i * 10)).off+5,none⟩=some (.slice aly lly cly)∧u.cell? ⟨(b.add (i * 10)).block,(b.add (i * 10)).off+6,none⟩=some (.slice aky lky cky)∧u.cell? ⟨(b.add (i * 10)).block,(b.add (i * 10)).off+7,none⟩=some (.bool z.f)∧u.cell? ⟨(b.add (i * 10)).block,(b.add (i * 10)).off+8,none⟩=some (.slice ay ny ccy)∧u.cell? ⟨(b.add (i * 10)).block,(b.add (i * 10)).off+9,none⟩=some (.int .i64 z.p)):=hide (fun u hu=>by
      have hc:∀j v,([.int .i64 z.k,.string z.t,.int .i64 vky,.int .i64 vny,.string vsy,.slice aly lly cly,.slice aky lky cky,.bool z.f,.slice ay ny ccy,.int .i64 z.p]:List Value)[j]?=some v→u.cell? ((b.add (i * 10)).add j)=some v:=fun j v hj=>(World.cell?_of_block (hu.block _ (by rw [block_add,block_add];exact hblt))).trans (hcelly j v hj)
      exact⟨(row_ten (Below.cellsAt hu (unhide HR).hb)).2.2.2.2.2.2.2.2.1,(row_ten (Below.cellsAt hu (unhide HR).nb)).2.2.2.2.2.2.2.2.1,hc 0 _ rfl,hc 1 _ rfl,hc 2 _ rfl,hc 3 _ rfl,hc 4 _ rfl,hc 5 _ rfl,hc 6 _ rfl,hc 7 _ rfl,hc 8 _ rfl,hc 9 _ rfl⟩)
     have CR:Hid (∀u,Below wq.heap.size wq u→Calls Tryz.prog 18 #[.agg #[.int .i64 z.k,.string z.t,.int .i64 vky,.int .i64 vny,.string vsy,.slice aly lly cly,.slice aky lky cky,.bool z.f,.slice ay ny ccy,.int .i64 z.p]] u fun e u'=>∃x',e=.returned (.agg x'.toArray)∧IsN u' (fun b=>b<B∨(u.heap.size≤b∧b<u'.heap.size)) z x'∧Below u.heap.size u u'):=hide (fun u hu=>ih z _ B u hsubz.1 hsubz.2 (hzy.laterB (hu.mono hBq)) (Nat.le_trans hBq hu.size))
     have HBB0:=hide hby
     have HSV:=hide (fun q (e:sv.ownBlock=some q)=>(unhide HR).blk e)
     have HZ:=hide hz
     have HHQ:=hide hHl
     clear c0A c0Z c0X hrq hcy hby hny hzy hcelly hsubz hz hblt hHl hz2 hBG x0 x1 x2 x3 x4 x5 x6 x7 x9 h0 h1 h2 h3 h4 h5 h6 h7 h8 h9
     go_upto_region 7 with fail
     clear x8
     have HB0:Hid (Below wq.heap.size wq wq.drew):=hide ((Below.refl _ _).drew)
     have HS0:=hide ((unhide HF2) _ (unhide HB0))
     refine till_begin (S:=fun w'=>w'.cell? ⟨H,8,none⟩=some sv∧w'.cell? ⟨G,8,none⟩=some (.slice (some b) n cc)∧w'.cell? (b.add (i * 10))=some (.int .i64 z.k)∧w'.cell? ⟨(b.add (i * 10)).block,(b.add (i * 10)).off+1,none⟩=some (.string z.t)∧w'.cell? ⟨(b.add (i * 10)).block,(b.add (i * 10)).off+2,none⟩=some (.int .i64 vky)∧w'.cell? ⟨(b.add (i * 10)).block,(b.add (i * 10)).off+3,none⟩=some (.int .i64 vny)∧w'.cell? ⟨(b.add (i * 10)).block,(b.add (i * 10)).off+4,none⟩=some (.string vsy)∧w'.cell? ⟨(b.add (i * 10)).block,(b.add (i * 10)).off+5,none⟩=some (.slice aly lly cly)∧w'.cell? ⟨(b.add (i * 10)).block,(b.add (i * 10)).off+6,none⟩=some (.slice aky lky cky)∧w'.cell? ⟨(b.add (i * 10)).block,(b.add (i * 10)).off+7,none⟩=some (.bool z.f)∧w'.cell? ⟨(b.add (i * 10)).block,(b.add (i * 10)).off+8,none⟩=some (.slice ay ny ccy)∧w'.cell? ⟨(b.add (i * 10)).block,(b.add (i * 10)).off+9,none⟩=some (.int .i64 z.p)) 11 (by kernel_rfl) ?_
     obtain⟨W0,hW0⟩:∃W0,wq.drew=W0:=⟨_,rfl⟩
     try rw [hW0]
     rw [hW0] at HS0 HB0
     clear hW0
     refine till_take 0 (v:=.pointer (some ⟨H,8,none⟩)) (some 34) rfl rfl rfl (by kernel_rfl) (by kernel_rfl) (by kernel_rfl) (by kernel_rfl) (fun _ _ _ h=>h) (Or.inl ⟨by rfl,fun u hu=>by obtain⟨s8,t8,y0,y1,y2,y3,y4,y5,y6,y7,y8,y9⟩:=hu;go_simp⟩) (unhide HS0) ?_
     try simp only [Act.put,List.setIfInBounds_toArray,List.set_cons_zero,List.set_cons_succ]
     refine till_take 1 (v:=sv) (some 35) rfl rfl rfl (by kernel_rfl) (by kernel_rfl) (by kernel_rfl) (by kernel_rfl) (fun _ _ _ h=>h) (Or.inl ⟨by rfl,fun u hu=>by obtain⟨s8,t8,y0,y1,y2,y3,y4,y5,y6,y7,y8,y9⟩:=hu;go_simp⟩) (unhide HS0) ?_
     try simp only [Act.put,List.setIfInBounds_toArray,List.set_cons_zero,List.set_cons_succ]
     refine till_take 2 (v:=.pointer (some ⟨G,8,none⟩)) (some 36) rfl rfl rfl (by kernel_rfl) (by kernel_rfl) (by kernel_rfl) (by kernel_rfl) (fun _ _ _ h=>h) (Or.inl ⟨by rfl,fun u hu=>by obtain⟨s8,t8,y0,y1,y2,y3,y4,y5,y6,y7,y8,y9⟩:=hu;go_simp⟩) (unhide HS0) ?_
     try simp only [Act.put,List.setIfInBounds_toArray,List.set_cons_zero,List.set_cons_succ]
     refine till_take 3 (v:=.slice (some b) n cc) (some 37) rfl rfl rfl (by kernel_rfl) (by kernel_rfl) (by kernel_rfl) (by kernel_rfl) (fun _ _ _ h=>h) (Or.inl ⟨by rfl,fun u hu=>by obtain⟨s8,t8,y0,y1,y2,y3,y4,y5,y6,y7,y8,y9⟩:=hu;go_simp⟩) (unhide HS0) ?_
     try simp only [Act.put,List.setIfInBounds_toArray,List.set_cons_zero,List.set_cons_succ]
     refine till_take 4 (v:=.int .i64 (i:Int)) (some 38) rfl rfl rfl (by kernel_rfl) (by kernel_rfl) (by kernel_rfl) (by kernel_rfl) (fun _ _ _ h=>h) (Or.inl ⟨by rfl,fun u hu=>by obtain⟨s8,t8,y0,y1,y2,y3,y4,y5,y6,y7,y8,y9⟩:=hu;go_simp⟩) (unhide HS0) ?_
     try simp only [Act.put,List.setIfInBounds_toArray,List.set_cons_zero,List.set_cons_succ]
     refine till_take 5 (v:=.pointer (some (b.add (i * 10)))) (some 39) rfl rfl rfl (by kernel_rfl) (by kernel_rfl) (by kernel_rfl) (by kernel_rfl) (fun _ _ _ h=>h) (Or.inl ⟨by rfl,fun u hu=>by obtain⟨s8,t8,y0,y1,y2,y3,y4,y5,y6,y7,y8,y9⟩:=hu;go_simp⟩) (unhide HS0) ?_
     try simp only [Act.put,List.setIfInBounds_toArray,List.set_cons_zero,List.set_cons_succ]
     refine till_take 6 (v:=.agg #[.int .i64 z.k,.string z.t,.int .i64 vky,.int .i64 vny,.string vsy,.slice aly lly cly,.slice aky lky cky,.bool z.f,.slice ay ny ccy,.int .i64 z.p]) (some 40) rfl rfl rfl (by kernel_rfl) (by kernel_rfl) (by kernel_rfl) (by kernel_rfl) (fun _ _ _ h=>h) (Or.inl ⟨by rfl,fun u hu=>by obtain⟨s8,t8,y0,y1,y2,y3,y4,y5,y6,y7,y8,y9⟩:=hu;go_simp⟩) (unhide HS0) ?_
     try simp only [Act.put,List.setIfInBounds_toArray,List.set_cons_zero,List.set_cons_succ]
     refine till_one 7 (by kernel_rfl) rfl (fun K hK=>?_)
     go_simp
     refine((unhide CR) W0 (unhide HB0)).mono ?_
     rintro e W1 ⟨x5,rfl,hk5,b5⟩
     obtain⟨vk5,vn5,vs5,al5,ak5,a5,ll5,cl5,lk5,ck5,cc5,hx5,_⟩:=hk5.shape
     obtain⟨n5,hn5⟩:∃m,z.ks.length=m:=⟨_,rfl⟩
     rw [hn5] at hx5
     subst hx5
     have HB1:=hide ((unhide HB0).trans (b5.mono (unhide HB0).size))
     have HS1:=hide ((unhide HF2) _ (unhide HB1))
     have HK5:=hide hk5
     have HX5:=hide b5
     clear b5 hk5 hn5
     go_wp2_with fail
     refine hK.out _ _ (Or.inr (unhide HS1)) ?_
     clear hK K HS0
     try simp only [Act.put,List.setIfInBounds_toArray,List.set_cons_zero,List.set_cons_succ]
     refine till_one 8 (by kernel_rfl) rfl (fun K hK=>?_)
     go_simp
     obtain⟨W2,hW2⟩:∃W,W1.alloc (.cells #[.int .i64 z.k,.string z.t,.int .i64 vk5,.int .i64 vn5,.string vs5,.slice al5 ll5 cl5,.slice ak5 lk5 ck5,.bool z.f,.slice a5 n5 cc5,.int .i64 z.p] 28)=W:=⟨_,rfl⟩
     obtain⟨q5,hq5⟩:∃q,W1.heap.size=q:=⟨_,rfl⟩
     have at6:W2.heap[q5]?=some (.cells #[.int .i64 z.k,.string z.t,.int .i64 vk5,.int .i64 vn5,.string vs5,.slice al5 ll5 cl5,.slice ak5 lk5 ck5,.bool z.f,.slice a5 n5 cc5,.int .i64 z.p] 28 (0,0)):=by rw [←hW2,←hq5];exact heap_alloc_new _ _
     have b6:Below W1.heap.size W1 W2:=by rw [←hW2];exact(Below.refl _ _).alloc (Nat.le_refl _) _
     have HB2:=hide ((unhide HB1).trans (b6.mono (unhide HB1).size))
     have HS2:=hide ((unhide HF2) _ (unhide HB2))
     have HX6:=hide b6
     have HA6:=hide at6
     clear b6 at6
     try rw [hW2]
     try rw [hq5]
     refine hK.out _ _ (Or.inr (unhide HS2)) ?_
     clear hK K HS1 hW2 hq5
     try simp only [Act.put,List.setIfInBounds_toArray,List.set_cons_zero,List.set_cons_succ]
     refine till_one 9 (by kernel_rfl) rfl (fun K hK=>?_)
     obtain⟨iv,hiv,hz0,hz1,hz2⟩:=info_nd18
     have R2:=((unhide HR).later (unhide HB2))
     refine step_append_lies _ (by rfl) _ _ 22 (by rfl) (H+1) 28 iv (.agg #[.int .i64 0,.string ⟨#[]⟩,.int .i64 0,.int .i64 0,.string ⟨#[]⟩,.slice none 0 0,.slice none 0 0,.bool false,.slice none 0 0,.int .i64 0]) 10 144 Tryz.underlying22 hiv hz0 hz1 hz2 rfl (by omega) sv i (flat C i) (by rfl) R2.own ⟨q5,0,none⟩ 1 1 [.int .i64 z.k,.string z.t,.int .i64 vk5,.int .i64 vn5,.string vs5,.slice al5 ll5 cl5,.slice ak5 lk5 ck5,.bool z.f,.slice a5 n5 cc5,.int .i64 z.p] (by rfl) (by rfl) (World.news_of_block (unhide HA6)) (by simp [Value.oneCell']) (by omega) (by unfold maxLen;omega) (by omega) R2.lt _ rfl ?_
     intro g7 cap7 W3 hown7 hgrow7 hat7 hlt7
     change K (Act.put _ (some 43) _) W3
     have HI1:Hid (i+1≤n):=hide (by omega)
     have HR8:=hide ((unhide HR).push (unhide HZ) ((unhide HB0).trans ((unhide HX5).mono (unhide HB0).size)) ((unhide HK5).to (fun _ _=>rfl) (fun q hq=>hq.imp id (fun ⟨q1,q2⟩=>⟨Nat.le_trans (unhide HB0).size q1,q2⟩))) rfl (unhide HX6) hgrow7 hown7 hat7)
     have near:∀q,q≤H→some q≠sv.ownBlock:=fun q hq e=>by have:=((unhide HSV) q e.symm).1;omega
     have hH2:=R2.lt
     have hgh2:=R2.gh
     have s8:W3.cell? ⟨H,8,none⟩=some sv:=(hgrow7.cell_far ⟨H,8,none⟩ (by show H<_;omega) (near _ (Nat.le_refl _))).trans (unhide HS2).1
     have f8:W3.frozen? ⟨H,8,none⟩=false:=(hgrow7.frozen_far ⟨H,8,none⟩ (by show H<_;omega) (near _ (Nat.le_refl _))).trans (frozen_of_row W2 H 8 _ _ R2.hb)
     have bb:b.block<B:=unhide HBB0
     have kp7:∀(q:Addr) (x:Value),q.block≤H→W2.cell? q=some x→W3.cell? q=some x:=fun q x hq hx=>(hgrow7.cell_far q (World.block_lt_of_cell? _ _ (by rw [hx])) (near _ hq)).trans hx
     have hbl:(b.add (i * 10)).block≤H:=by rw [block_add];have:=R2.bg;omega
     have HS3:=hide ((And.intro s8 (And.intro (kp7 _ _ (by show G≤H;omega) (unhide HS2).2.1) (And.intro (kp7 _ _ (by exact hbl) (unhide HS2).2.2.1) (And.intro (kp7 _ _ (by exact hbl) (unhide HS2).2.2.2.1) (And.intro (kp7 _ _ (by exact hbl) (unhide HS2).2.2.2.2.1) (And.intro (kp7 _ _ (by exact hbl) (unhide HS2).2.2.2.2.2.1) (And.intro (kp7 _ _ (by exact hbl) (unhide HS2).2.2.2.2.2.2.1) (And.intro (kp7 _ _ (by exact hbl) (unhide HS2).2.2.2.2.2.2.2.1) (And.intro (kp7 _ _ (by exact hbl) (unhide HS2).2.2.2.2.2.2.2.2.1) (And.intro (kp7 _ _ (by exact hbl) (unhide HS2).2.2.2.2.2.2.2.2.2.1) (And.intro (kp7 _ _ (by exact hbl) (unhide HS2).2.2.2.2.2.2.2.2.2.2.1) (kp7 _ _ (by exact hbl) (unhide HS2).2.2.2.2.2.2.2.2.2.2.2)))))))))))))
     clear hiv hz0 hz1 hz2 near kp7 hbl hown7 hgrow7 hat7 hlt7 R2
     refine hK.out _ _ (Or.inr (unhide HS3)) ?_
     clear hK K HS2
     try simp only [Act.put,List.setIfInBounds_toArray,List.set_cons_zero,List.set_cons_succ]
     refine till_take 10 (v:=.pointer (some ⟨H,8,none⟩)) (some 44) rfl rfl rfl (by kernel_rfl) (by kernel_rfl) (by kernel_rfl) (by kernel_rfl) (fun _ _ _ h=>h) (Or.inl ⟨by rfl,fun u hu=>by obtain⟨s8,t8,y0,y1,y2,y3,y4,y5,y6,y7,y8,y9⟩:=hu;go_simp⟩) (unhide HS3) ?_
     try simp only [Act.put,List.setIfInBounds_toArray,List.set_cons_zero,List.set_cons_succ]
     refine till_one 11 (by kernel_rfl) rfl (fun K hK=>?_)
     obtain⟨s9,_⟩:=unhide HS3
     go_simp
     refine hK.out _ _ (Or.inl (by first|rfl|trivial)) ?_
     clear hK K
     try simp only [Act.put,List.setIfInBounds_toArray,List.set_cons_zero,List.set_cons_succ]
     refine till_done (by kernel_rfl) ?_ _
     go_wp2_with fail
     go_roundw
     case rel=>exact⟨i+1,_,_,unhide HI1,by go_num,HR8⟩
     case measure=>have:=unhide HI1;simp [intOf];omega
    ·have i1:¬(i:Int)<(n:Int):=by omega
     have hin:i=n:=by omega
     subst hin
     have HRZ:=hide (unhide HR).zb
     have hsv:∃(a:Option Addr) (cap:Nat),sv=.slice a i cap:=by
      rcases (unhide HR).own.2 with ⟨e,h0⟩|⟨g,cap,cur,e,_⟩
      ·exact⟨none,0,by rw [e,h0]⟩
      ·exact⟨_,cap,e⟩
     obtain⟨sa,scap,rfl⟩:=hsv
     obtain⟨z0,z1,z2,z3,z4,z5,z6,z7,z8,z9⟩:=row_ten (unhide HRZ)
     have f0:=frozen_of_row wq (G+1) 0 _ _ (unhide HRZ)
     have f1:=frozen_of_row wq (G+1) 1 _ _ (unhide HRZ)
     have f2:=frozen_of_row wq (G+1) 2 _ _ (unhide HRZ)
     have f3:=frozen_of_row wq (G+1) 3 _ _ (unhide HRZ)
     have f4:=frozen_of_row wq (G+1) 4 _ _ (unhide HRZ)
     have f5:=frozen_of_row wq (G+1) 5 _ _ (unhide HRZ)
     have f6:=frozen_of_row wq (G+1) 6 _ _ (unhide HRZ)
     have f7:=frozen_of_row wq (G+1) 7 _ _ (unhide HRZ)
     have f8:=frozen_of_row wq (G+1) 8 _ _ (unhide HRZ)
     have f9:=frozen_of_row wq (G+1) 9 _ _ (unhide HRZ)
     go_wp2_with fail
     refine bodyPost_ret (ret_n1 rfl _ _ (G+1) #[.int .i64 k,.string t,.int .i64 vk,.int .i64 vn,.string vs,.slice al' ll' cl',.slice ak' lk' ck',.bool f,.slice sa i scap,.int .i64 p] _ _ rfl (set_ten (unhide HRZ) (.int .i64 k) (.string t) (.int .i64 vk) (.int .i64 vn) (.string vs) (.slice al' ll' cl') (.slice ak' lk' ck') (.bool f) (.slice sa i scap) (.int .i64 p)) Tryz.underlying28 rfl size_nd) rfl ?_
     have hm:=(unhide HR).made (i:=0) (sv:=.slice none 0 0) (unhide HS).1 hG (unhide HS).2.2.1 (unhide HS).2.2.2.1 (unhide HS).2.2.2.2 (by omega)
     have hgh:=(unhide HR).gh
     have hbg:=(unhide HR).bg
     refine⟨[.int .i64 k,.string t,.int .i64 vk,.int .i64 vn,.string vs,.slice al' ll' cl',.slice ak' lk' ck',.bool f,.slice sa i scap,.int .i64 p],rfl,IsN.to (fun q hq=>set_ten_other (by rcases hq with h|h <;> omega) (.int .i64 k) (.string t) (.int .i64 vk) (.int .i64 vn) (.string vs) (.slice al' ll' cl') (.slice ak' lk' ck') (.bool f) (.slice sa i scap) (.int .i64 p)) (fun q hq=>hq.imp id (fun ⟨q1,q2,_⟩=>⟨by omega,by rw [set_ten_size];exact q2⟩)) hm,?_⟩
     have hx:=set_ten_below (unhide HR).below (g:=G+1) (by omega) (.int .i64 k) (.string t) (.int .i64 vk) (.int .i64 vn) (.string vs) (.slice al' ll' cl') (.slice ak' lk' ck') (.bool f) (.slice sa i scap) (.int .i64 p)
     first|exact hx|(rw [hG];exact hx)
end Go.Proofs.YtekbmfppfjlboaaGreatDoor
