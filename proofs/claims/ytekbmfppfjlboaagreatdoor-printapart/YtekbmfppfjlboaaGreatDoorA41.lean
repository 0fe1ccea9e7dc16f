/-
  Layer 18 (print): a function is written; conditions: the nodes lie in memory.
-/
import Derived.Test.YtekbmfppfjlboaaGreatDoorA40
set_option linter.unusedVariables false
set_option linter.unusedSimpArgs false
namespace Go.Proofs.YtekbmfppfjlboaaGreatDoor
open Go.RowKit
set_option linter.unusedVariables false
set_option linter.unusedSimpArgs false
theorem txs5 {B0:Nat} {w:World} {q:Nat} {t1 t2 t3 t4 t5:Value} {L1 L2 L3 L4 L5:List UInt8} (hq:w.heap[q]?=some (.cells #[t1,t2,t3,t4,t5] 39 (0,0))) (h1:Txt B0 w t1 L1) (h2:Txt B0 w t2 L2) (h3:Txt B0 w t3 L3) (h4:Txt B0 w t4 L4) (h5:Txt B0 w t5 L5):Txs B0 w q [L1,L2,L3,L4,L5]:=
 ⟨_,hq,fun i L hi=>by
  rcases i with _|_|_|_|_|i
  ·simp at hi;subst hi;exact⟨t1,rfl,h1⟩
  ·simp at hi;subst hi;exact⟨t2,rfl,h2⟩
  ·simp at hi;subst hi;exact⟨t3,rfl,h3⟩
  ·simp at hi;subst hi;exact⟨t4,rfl,h4⟩
  ·simp at hi;subst hi;exact⟨t5,rfl,h5⟩
  ·simp at hi⟩
theorem call_name (x:Array Value) (u:World):Sem.run Tryz.prog (callFunc 43 x) u=.ok (.enter 43 x) u:=by kernel_rfl
theorem call_function (x:Array Value) (u:World):Sem.run Tryz.prog (callFunc 37 x) u=.ok (.enter 37 x) u:=by kernel_rfl
def nmT (z:Tn):List UInt8:=z.t.data.toList
theorem put_name {B0:Nat} {w:World} {ks:List Tn}:Put B0 w (.func (.func 43) #[] #[]) ks nmT:=
 ⟨_,_,rfl,call_name,fun u y x hk hu hy hx=>by
  obtain⟨vk,vn,vs,al,ak,a,ll,cl,lk,ck,cc,rfl,_⟩:=hx.opn
  exact name_any B0 y.k vk vn y.p y.t vs al ak a ll cl lk ck y.ks.length cc y.f u⟩
def fnT (y:Tn):List UInt8:=(if y.f=true then [101,120,112,111,114,116,32,102,110,32] else [102,110,32])++(y.t.data.toList++(40 :: (jl [44,32] true ((y.ks.take (y.ks.length - 1)).map nmT)++(41 :: 32 :: (((y.ks[y.ks.length - 1]?).map (stT 1)).getD []++[10])))))
def pgT (y:Tn):List UInt8:=jl [10] true (y.ks.map fnT)
set_option maxRecDepth 100000 in
set_option maxHeartbeats 4000000 in
theorem function_any (B0:Nat) (y:Tn) (x:List Value) (w:World) (hB:B0≤w.heap.size) (hx:IsN w (fun b=>b<B0) y x) (hG0:0<B0) (hP:PowAt w) (htz:y.t.size≤1000) (hn0:0<y.ks.length) (hBl:∀z,y.ks[y.ks.length - 1]?=some z→BlC B0 1 (stT 1) z) :
  Calls Tryz.prog 37 #[.agg x.toArray] w fun e w'=>∃t',e=.returned t'∧Txt B0 w' t' (fnT y)∧Below w.heap.size w w':=by
 have hx0:=hx
 obtain⟨vk,vn,vs,al,ak,a,ll,cl,lk,ck,cc,rfl,hvv,hr,hbk,hbp⟩:=hx.opn
 obtain⟨k,t,v,f,ks,p⟩:=y
 obtain⟨n,hn⟩:∃n,ks.length=n:=⟨_,rfl⟩
 have hnb:n≤140737488351232:=by rw [←hn];exact hr.len
 simp only at htz hn0 hBl
 simp only [hn] at hx0 hvv hr hbk hbp ⊢
 have hbs:=some_of hr (by omega)
 obtain⟨b,rfl⟩:=hbs
 obtain⟨w1,hw1⟩:∃w1,w.alloc (.cells #[.int .i64 k,.string t,.int .i64 vk,.int .i64 vn,.string vs,.slice al ll cl,.slice ak lk ck,.bool f,.slice (some b) n cc,.int .i64 p] 28)=w1:=⟨_,rfl⟩
 obtain⟨G,hG⟩:∃G,w.heap.size=G:=⟨_,rfl⟩
 have A1:w1.heap[G]?=some (.cells #[.int .i64 k,.string t,.int .i64 vk,.int .i64 vn,.string vs,.slice al ll cl,.slice ak lk ck,.bool f,.slice (some b) n cc,.int .i64 p] 28 (0,0)):=by rw [←hw1,←hG];exact heap_alloc_new _ _
 have X1:Below G w w1:=by rw [←hw1,←hG];exact(Below.refl _ _).alloc (Nat.le_refl _) _
 have hBG:B0≤G:=by rw [←hG];exact hB
 have HM:Hid (∀u,Below w1.heap.size w1 u→IsN u (fun b=>b<B0) ⟨k,t,v,f,ks,p⟩ [.int .i64 k,.string t,.int .i64 vk,.int .i64 vn,.string vs,.slice al ll cl,.slice ak lk ck,.bool f,.slice (some b) n cc,.int .i64 p]∧RowN u B0 ks (some b) cc∧B0≤u.heap.size∧IsV u B0 v (.agg #[.int .i64 vk,.int .i64 vn,.string vs,.slice al ll cl,.slice ak lk ck])∧Below G w u):=hide (fun u hu=>by
  have h2:=X1.trans (hu.mono (Nat.le_of_lt (lt_of_row A1)))
  exact⟨hx0.laterB (h2.mono hBG),hr.later (h2.mono hBG),Nat.le_trans hBG (by rw [←hG];exact h2.size),hvv.mono (h2.mono hBG),h2⟩)
 have HF:Hid (∀u,Below w1.heap.size w1 u→u.cell? ⟨G,0,none⟩=some (.int .i64 k)∧u.cell? ⟨G,1,none⟩=some (.string t)∧u.cell? ⟨G,2,none⟩=some (.int .i64 vk)∧u.cell? ⟨G,3,none⟩=some (.int .i64 vn)∧u.cell? ⟨G,4,none⟩=some (.string vs)∧u.cell? ⟨G,5,none⟩=some (.slice al ll cl)∧u.cell? ⟨G,6,none⟩=some (.slice ak lk ck)∧u.cell? ⟨G,7,none⟩=some (.bool f)∧u.cell? ⟨G,8,none⟩=some (.slice (some b) n cc)∧u.cell? ⟨G,9,none⟩=some (.int .i64 p)):=hide (fun u hu=>row_ten (Below.cellsAt hu A1))
 have HN:=hide hn
 have HS0:Hid (Below w1.heap.size w1 w1):=hide (Below.refl _ _)
 have HW:=hide hw1
 have HPW:Hid (∀u,Below w1.heap.size w1 u→PowAt u):=hide (fun u hu=>hP.later (X1.trans (hu.mono (Nat.le_of_lt (lt_of_row A1)))) (by omega))
 obtain⟨m,hm⟩:∃m,n=m+1:=⟨n - 1,by omega⟩
 have q2:(n:Int) - 1=(m:Int):=by omega
 have q3:m≤cc:=by obtain⟨C,hf,_⟩:=hr;have:=hf.ll;omega
 have q4:(m:Int)≤(cc:Int):=by omega
 have q5:(m:Int)<(n:Int):=by omega
 have q6:(0:Int)≤(m:Int):=by omega
 have q7:IntKind.i64.wrap (m:Int)=(m:Int):=by rw [IntKind.wrap_i64];omega
 have hnm:ks.length - 1=m:=by omega
 obtain⟨z,hz⟩:∃z,ks[m]?=some z:=⟨_,List.getElem?_eq_getElem (by omega)⟩
 have hBz:=hBl z (by rw [hnm];exact hz)
 have hmt:(ks.take m).length=m:=by rw [List.length_take];omega
 obtain⟨b',vky,vny,vsy,aly,aky,ay,lly,cly,lky,cky,ny,ccy,eb,hcy,hby,hny,hzy,hcelly⟩:=hr.ten hz
 obtain rfl:b=b':=Option.some.inj eb
 clear eb
 have X0y:∀u,Below w1.heap.size w1 u→Below G w u:=fun u h=>X1.trans (h.mono (Nat.le_of_lt (lt_of_row A1)))
 have HK:Hid (∀u,Below w1.heap.size w1 u→(u.cell? (b.add (m * 10))=some (.int .i64 z.k)∧u.cell? (⟨(b.add (m * 10)).block,(b.add (m * 10)).off+1,none⟩)=some (.string z.t)∧u.cell? (⟨(b.add (m * 10)).block,(b.add (m * 10)).off+2,none⟩)=some (.int .i64 vky)∧u.cell? (⟨(b.add (m * 10)).block,(b.add (m * 10)).off+3,none⟩)=some (.int .i64 vny)∧u.cell? (⟨(b.add (m * 10)).block,(b.add (m * 10)).off+4,none⟩)=some (.string vsy)∧u.cell? (⟨(b.add (m * 10)).block,(b.add (m * 10)).off+5,none⟩)=some (.slice aly lly cly)∧u.cell? (⟨(b.add (m * 10)).block,(b.add (m * 10)).off+6,none⟩)=some (.slice aky lky cky)∧u.cell? (⟨(b.add (m * 10)).block,(b.add (m * 10)).off+7,none⟩)=some (.bool z.f)∧u.cell? (⟨(b.add (m * 10)).block,(b.add (m * 10)).off+8,none⟩)=some (.slice ay ny ccy)∧u.cell? (⟨(b.add (m * 10)).block,(b.add (m * 10)).off+9,none⟩)=some (.int .i64 z.p))∧IsN u (fun b=>b<B0) z [.int .i64 z.k,.string z.t,.int .i64 vky,.int .i64 vny,.string vsy,.slice aly lly cly,.slice aky lky cky,.bool z.f,.slice ay ny ccy,.int .i64 z.p]):=hide (fun u h=>by
  have hc:∀j v,([.int .i64 z.k,.string z.t,.int .i64 vky,.int .i64 vny,.string vsy,.slice aly lly cly,.slice aky lky cky,.bool z.f,.slice ay ny ccy,.int .i64 z.p]:List Value)[j]?=some v→u.cell? ((b.add (m * 10)).add j)=some v:=fun j v hj=>(World.cell?_of_block ((X0y u h).block _ (by rw [block_add,block_add];omega))).trans (hcelly j v hj)
  exact⟨⟨hc 0 _ rfl,hc 1 _ rfl,hc 2 _ rfl,hc 3 _ rfl,hc 4 _ rfl,hc 5 _ rfl,hc 6 _ rfl,hc 7 _ rfl,hc 8 _ rfl,hc 9 _ rfl⟩,hzy.laterB ((X0y u h).mono hBG)⟩)
 have hnccy:n≤cc:=by rw [←hn];exact hcy
 clear hzy hcelly X0y hby hcy
 have HBz:=hide hBz
 have HG0:=hide hG0
 have HMT:=hide hmt
 obtain⟨Z,hZ⟩:∃Z,fnT ⟨k,t,v,f,ks,p⟩=Z:=⟨_,rfl⟩
 rw [hZ]
 have HZ:Hid (Z=(if f=true then [101,120,112,111,114,116,32,102,110,32] else [102,110,32])++(t.data.toList++(40 :: (jl [44,32] true ((ks.take m).map nmT)++(41 :: 32 :: (stT 1 z++[10])))))):=hide (by rw [←hZ];unfold fnT;simp only [hnm,hz];rfl)
 clear hZ hz hnm hm hBz hBl hmt hP hG0
 clear A1 X1 hw1 hx hx0 hr hvv hB hBG hn
 go_enter Tryz.func37,Tryz.ntmps37
 go_upto_region 1 with fail
 rw [unhide HW]
 try rw [hG]
 clear HW
 cases f with
 |true=>
  have hzA:¬9223372036854775807<10+t.size:=by omega
  obtain⟨A,eA⟩:∃z,(⟨#[101,120,112,111,114,116,32,102,110,32]⟩++t:ByteArray)=z:=⟨_,rfl⟩
  have dA:A.data.toList=[101,120,112,111,114,116,32,102,110,32]++t.data.toList:=by rw [←eA,ByteArray.data_append,Array.toList_append] <;> rfl
  have sA:A.size≤10+t.size:=by rw [←eA,ByteArray.size_append];exact Nat.le_refl _
  have hzB:¬9223372036854775807<A.size+1:=by omega
  obtain⟨B,eB⟩:∃z,(A++⟨#[40]⟩:ByteArray)=z:=⟨_,rfl⟩
  have dB:B.data.toList=[101,120,112,111,114,116,32,102,110,32]++t.data.toList++[40]:=by rw [←eB,ByteArray.data_append,Array.toList_append,dA] <;> rfl
  have HDB:=hide dB
  clear dA dB
  obtain⟨x0,x1,x2,x3,x4,x5,x6,x7,x8,x9⟩:=unhide HF w1 (Below.refl _ _)
  have CL:=hide (listed_any B0 (some b) m cc ⟨#[44,32]⟩ (.func (.func 43) #[] #[]) (ks.take m) nmT w1 ((unhide HM) w1 (unhide HS0)).2.2.1 (((unhide HM) w1 (unhide HS0)).2.1.take m) (unhide HMT) put_name)
  go_wp2_with fail
  refine(unhide CL).mono ?_
  rintro e w3 ⟨t2,rfl,h,bb⟩
  have h0:=h
  obtain⟨F2,p2,rfl,-,-⟩:=h0
  have HX3:=hide ((unhide HS0).trans (bb.mono (unhide HS0).size))
  have HTp:=hide h
  have HB3:=hide (show B0≤w3.heap.size from ((unhide HM) w3 (unhide HX3)).2.2.1)
  clear bb h CL x0 x1 x2 x3 x4 x5 x6 x7 x8 x9
  go_upto_region 6 with fail
  have HS0:Hid (Below w3.heap.size w3 w3.drew):=hide ((Below.refl _ _).drew)
  refine till_begin (S:=fun w'=>Below w3.heap.size w3 w') 17 (by kernel_rfl) ?_
  obtain⟨W0,hW0⟩:∃W0,w3.drew=W0:=⟨_,rfl⟩
  try rw [hW0]
  rw [hW0] at HS0
  clear hW0
  have HT2_0:=hide ((unhide HTp).later (Kp.below (unhide HS0) (unhide HB3)))
  clear HTp
  refine till_take 0 (v:=.string ⟨#[101,120,112,111,114,116,32,102,110,32]⟩) (some 17) rfl rfl rfl (by kernel_rfl) (by kernel_rfl) (by kernel_rfl) (by kernel_rfl) (fun _ _ _ h=>h) (Or.inl ⟨by rfl,fun u hu=>by obtain⟨x0,x1,x2,x3,x4,x5,x6,x7,x8,x9⟩:=unhide HF u ((unhide HX3).trans (Below.mono hu (unhide HX3).size));obtain⟨y0,y1,y2,y3,y4,y5,y6,y7,y8,y9⟩:=(unhide HK u ((unhide HX3).trans (Below.mono hu (unhide HX3).size))).1;go_simp⟩) (unhide HS0) ?_
  try simp only [Act.put,List.setIfInBounds_toArray,List.set_cons_zero,List.set_cons_succ]
  refine till_take 1 (v:=.pointer (some ⟨G,1,none⟩)) (some 18) rfl rfl rfl (by kernel_rfl) (by kernel_rfl) (by kernel_rfl) (by kernel_rfl) (fun _ _ _ h=>h) (Or.inl ⟨by rfl,fun u hu=>by obtain⟨x0,x1,x2,x3,x4,x5,x6,x7,x8,x9⟩:=unhide HF u ((unhide HX3).trans (Below.mono hu (unhide HX3).size));obtain⟨y0,y1,y2,y3,y4,y5,y6,y7,y8,y9⟩:=(unhide HK u ((unhide HX3).trans (Below.mono hu (unhide HX3).size))).1;go_simp⟩) (unhide HS0) ?_
  try simp only [Act.put,List.setIfInBounds_toArray,List.set_cons_zero,List.set_cons_succ]
  refine till_take 2 (v:=.string t) (some 19) rfl rfl rfl (by kernel_rfl) (by kernel_rfl) (by kernel_rfl) (by kernel_rfl) (fun _ _ _ h=>h) (Or.inl ⟨by rfl,fun u hu=>by obtain⟨x0,x1,x2,x3,x4,x5,x6,x7,x8,x9⟩:=unhide HF u ((unhide HX3).trans (Below.mono hu (unhide HX3).size));obtain⟨y0,y1,y2,y3,y4,y5,y6,y7,y8,y9⟩:=(unhide HK u ((unhide HX3).trans (Below.mono hu (unhide HX3).size))).1;go_simp⟩) (unhide HS0) ?_
  try simp only [Act.put,List.setIfInBounds_toArray,List.set_cons_zero,List.set_cons_succ]
  refine till_take 3 (v:=.string A) (some 20) rfl rfl rfl (by kernel_rfl) (by kernel_rfl) (by kernel_rfl) (by kernel_rfl) (fun _ _ _ h=>h) (Or.inl ⟨by rfl,fun u hu=>by obtain⟨x0,x1,x2,x3,x4,x5,x6,x7,x8,x9⟩:=unhide HF u ((unhide HX3).trans (Below.mono hu (unhide HX3).size));obtain⟨y0,y1,y2,y3,y4,y5,y6,y7,y8,y9⟩:=(unhide HK u ((unhide HX3).trans (Below.mono hu (unhide HX3).size))).1;go_simp⟩) (unhide HS0) ?_
  try simp only [Act.put,List.setIfInBounds_toArray,List.set_cons_zero,List.set_cons_succ]
  refine till_take 4 (v:=.string B) (some 21) rfl rfl rfl (by kernel_rfl) (by kernel_rfl) (by kernel_rfl) (by kernel_rfl) (fun _ _ _ h=>h) (Or.inl ⟨by rfl,fun u hu=>by obtain⟨x0,x1,x2,x3,x4,x5,x6,x7,x8,x9⟩:=unhide HF u ((unhide HX3).trans (Below.mono hu (unhide HX3).size));obtain⟨y0,y1,y2,y3,y4,y5,y6,y7,y8,y9⟩:=(unhide HK u ((unhide HX3).trans (Below.mono hu (unhide HX3).size))).1;go_simp⟩) (unhide HS0) ?_
  try simp only [Act.put,List.setIfInBounds_toArray,List.set_cons_zero,List.set_cons_succ]
  refine till_take 6 (v:=.func (.func F2) #[] p2) (some 23) rfl rfl rfl (by kernel_rfl) (by kernel_rfl) (by kernel_rfl) (by kernel_rfl) (fun _ _ _ h=>h) (Or.inl ⟨by rfl,fun u hu=>by obtain⟨x0,x1,x2,x3,x4,x5,x6,x7,x8,x9⟩:=unhide HF u ((unhide HX3).trans (Below.mono hu (unhide HX3).size));obtain⟨y0,y1,y2,y3,y4,y5,y6,y7,y8,y9⟩:=(unhide HK u ((unhide HX3).trans (Below.mono hu (unhide HX3).size))).1;go_simp⟩) (unhide HS0) ?_
  try simp only [Act.put,List.setIfInBounds_toArray,List.set_cons_zero,List.set_cons_succ]
  refine till_take 8 (v:=.pointer (some ⟨G,8,none⟩)) (some 25) rfl rfl rfl (by kernel_rfl) (by kernel_rfl) (by kernel_rfl) (by kernel_rfl) (fun _ _ _ h=>h) (Or.inl ⟨by rfl,fun u hu=>by obtain⟨x0,x1,x2,x3,x4,x5,x6,x7,x8,x9⟩:=unhide HF u ((unhide HX3).trans (Below.mono hu (unhide HX3).size));obtain⟨y0,y1,y2,y3,y4,y5,y6,y7,y8,y9⟩:=(unhide HK u ((unhide HX3).trans (Below.mono hu (unhide HX3).size))).1;go_simp⟩) (unhide HS0) ?_
  try simp only [Act.put,List.setIfInBounds_toArray,List.set_cons_zero,List.set_cons_succ]
  refine till_take 9 (v:=.slice (some b) n cc) (some 26) rfl rfl rfl (by kernel_rfl) (by kernel_rfl) (by kernel_rfl) (by kernel_rfl) (fun _ _ _ h=>h) (Or.inl ⟨by rfl,fun u hu=>by obtain⟨x0,x1,x2,x3,x4,x5,x6,x7,x8,x9⟩:=unhide HF u ((unhide HX3).trans (Below.mono hu (unhide HX3).size));obtain⟨y0,y1,y2,y3,y4,y5,y6,y7,y8,y9⟩:=(unhide HK u ((unhide HX3).trans (Below.mono hu (unhide HX3).size))).1;go_simp⟩) (unhide HS0) ?_
  try simp only [Act.put,List.setIfInBounds_toArray,List.set_cons_zero,List.set_cons_succ]
  refine till_take 10 (v:=.int .i64 (m:Int)) (some 27) rfl rfl rfl (by kernel_rfl) (by kernel_rfl) (by kernel_rfl) (by kernel_rfl) (fun _ _ _ h=>h) (Or.inl ⟨by rfl,fun u hu=>by obtain⟨x0,x1,x2,x3,x4,x5,x6,x7,x8,x9⟩:=unhide HF u ((unhide HX3).trans (Below.mono hu (unhide HX3).size));obtain⟨y0,y1,y2,y3,y4,y5,y6,y7,y8,y9⟩:=(unhide HK u ((unhide HX3).trans (Below.mono hu (unhide HX3).size))).1;go_simp⟩) (unhide HS0) ?_
  try simp only [Act.put,List.setIfInBounds_toArray,List.set_cons_zero,List.set_cons_succ]
  refine till_take 11 (v:=.pointer (some (b.add (m * 10)))) (some 28) rfl rfl rfl (by kernel_rfl) (by kernel_rfl) (by kernel_rfl) (by kernel_rfl) (fun _ _ _ h=>h) (Or.inl ⟨by rfl,fun u hu=>by obtain⟨x0,x1,x2,x3,x4,x5,x6,x7,x8,x9⟩:=unhide HF u ((unhide HX3).trans (Below.mono hu (unhide HX3).size));obtain⟨y0,y1,y2,y3,y4,y5,y6,y7,y8,y9⟩:=(unhide HK u ((unhide HX3).trans (Below.mono hu (unhide HX3).size))).1;go_simp⟩) (unhide HS0) ?_
  try simp only [Act.put,List.setIfInBounds_toArray,List.set_cons_zero,List.set_cons_succ]
  refine till_take 12 (v:=.agg #[.int .i64 z.k,.string z.t,.int .i64 vky,.int .i64 vny,.string vsy,.slice aly lly cly,.slice aky lky cky,.bool z.f,.slice ay ny ccy,.int .i64 z.p]) (some 29) rfl rfl rfl (by kernel_rfl) (by kernel_rfl) (by kernel_rfl) (by kernel_rfl) (fun _ _ _ h=>h) (Or.inl ⟨by rfl,fun u hu=>by obtain⟨x0,x1,x2,x3,x4,x5,x6,x7,x8,x9⟩:=unhide HF u ((unhide HX3).trans (Below.mono hu (unhide HX3).size));obtain⟨y0,y1,y2,y3,y4,y5,y6,y7,y8,y9⟩:=(unhide HK u ((unhide HX3).trans (Below.mono hu (unhide HX3).size))).1;go_simp⟩) (unhide HS0) ?_
  try simp only [Act.put,List.setIfInBounds_toArray,List.set_cons_zero,List.set_cons_succ]
  refine till_one 5 (by kernel_rfl) rfl (fun K hK=>?_)
  go_simp
  refine(txw_any B0 B W0).mono ?_
  rintro e W1 ⟨t1,rfl,h,bb⟩
  have h0:=h
  obtain⟨F1,p1,rfl,-,-⟩:=h0
  have HT1_1:=hide h
  have HS1:=hide ((unhide HS0).trans (bb.mono (unhide HS0).size))
  have HT2_1:=hide ((unhide HT2_0).later (Kp.below bb (Nat.le_trans (unhide HB3) (unhide HS0).size)))
  clear bb h HT2_0
  go_wp2_with fail
  refine hK.out _ _ (Or.inr (unhide HS1)) ?_
  clear hK K HS0
  try simp only [Act.put,List.setIfInBounds_toArray,List.set_cons_zero,List.set_cons_succ]
  refine till_one 7 (by kernel_rfl) rfl (fun K hK=>?_)
  go_simp
  refine(txw_any B0 ⟨#[41,32]⟩ W1).mono ?_
  rintro e W2 ⟨t3,rfl,h,bb⟩
  have h0:=h
  obtain⟨F3,p3,rfl,-,-⟩:=h0
  have HT3_2:=hide h
  have HS2:=hide ((unhide HS1).trans (bb.mono (unhide HS1).size))
  have HT2_2:=hide ((unhide HT2_1).later (Kp.below bb (Nat.le_trans (unhide HB3) (unhide HS1).size)))
  have HT1_2:=hide ((unhide HT1_1).later (Kp.below bb (Nat.le_trans (unhide HB3) (unhide HS1).size)))
  clear bb h HT2_1 HT1_1
  go_wp2_with fail
  refine hK.out _ _ (Or.inr (unhide HS2)) ?_
  clear hK K HS1
  try simp only [Act.put,List.setIfInBounds_toArray,List.set_cons_zero,List.set_cons_succ]
  refine till_one 13 (by kernel_rfl) rfl (fun K hK=>?_)
  go_simp
  refine((unhide HBz) _ W2 (Nat.le_trans (unhide HB3) (unhide HS2).size) (unhide HG0) ((unhide HPW) W2 ((unhide HX3).trans (Below.mono (unhide HS2) (unhide HX3).size))) (unhide HK W2 ((unhide HX3).trans (Below.mono (unhide HS2) (unhide HX3).size))).2).mono ?_
  rintro e W3 ⟨t4,rfl,h,bb⟩
  have h0:=h
  obtain⟨F4,p4,rfl,-,-⟩:=h0
  have HT4_3:=hide h
  have HS3:=hide ((unhide HS2).trans (bb.mono (unhide HS2).size))
  have HT2_3:=hide ((unhide HT2_2).later (Kp.below bb (Nat.le_trans (unhide HB3) (unhide HS2).size)))
  have HT1_3:=hide ((unhide HT1_2).later (Kp.below bb (Nat.le_trans (unhide HB3) (unhide HS2).size)))
  have HT3_3:=hide ((unhide HT3_2).later (Kp.below bb (Nat.le_trans (unhide HB3) (unhide HS2).size)))
  clear bb h HT2_2 HT1_2 HT3_2
  go_wp2_with fail
  refine hK.out _ _ (Or.inr (unhide HS3)) ?_
  clear hK K HS2
  try simp only [Act.put,List.setIfInBounds_toArray,List.set_cons_zero,List.set_cons_succ]
  refine till_one 14 (by kernel_rfl) rfl (fun K hK=>?_)
  go_simp
  refine(txw_any B0 ⟨#[10]⟩ W3).mono ?_
  rintro e W4 ⟨t5,rfl,h,bb⟩
  have h0:=h
  obtain⟨F5,p5,rfl,-,-⟩:=h0
  have HT5_4:=hide h
  have HS4:=hide ((unhide HS3).trans (bb.mono (unhide HS3).size))
  have HT2_4:=hide ((unhide HT2_3).later (Kp.below bb (Nat.le_trans (unhide HB3) (unhide HS3).size)))
  have HT1_4:=hide ((unhide HT1_3).later (Kp.below bb (Nat.le_trans (unhide HB3) (unhide HS3).size)))
  have HT3_4:=hide ((unhide HT3_3).later (Kp.below bb (Nat.le_trans (unhide HB3) (unhide HS3).size)))
  have HT4_4:=hide ((unhide HT4_3).later (Kp.below bb (Nat.le_trans (unhide HB3) (unhide HS3).size)))
  clear bb h HT2_3 HT1_3 HT3_3 HT4_3
  go_wp2_with fail
  refine hK.out _ _ (Or.inr (unhide HS4)) ?_
  clear hK K HS3
  try simp only [Act.put,List.setIfInBounds_toArray,List.set_cons_zero,List.set_cons_succ]
  obtain⟨W5,hW5⟩:∃W,W4.alloc (.cells #[.func (.func F1) #[] p1,.func (.func F2) #[] p2,.func (.func F3) #[] p3,.func (.func F4) #[] p4,.func (.func F5) #[] p5] 39)=W:=⟨_,rfl⟩
  obtain⟨q,hq⟩:∃q,W4.heap.size=q:=⟨_,rfl⟩
  have bb:Below W4.heap.size W4 W5:=by rw [←hW5];exact(Below.refl _ _).alloc (Nat.le_refl _) _
  have HX5:=hide (show Txs B0 W5 q _ from txs5 (by rw [←hW5,←hq];exact heap_alloc_new _ _) ((unhide HT1_4).later (Kp.below bb (Nat.le_trans (unhide HB3) (unhide HS4).size))) ((unhide HT2_4).later (Kp.below bb (Nat.le_trans (unhide HB3) (unhide HS4).size))) ((unhide HT3_4).later (Kp.below bb (Nat.le_trans (unhide HB3) (unhide HS4).size))) ((unhide HT4_4).later (Kp.below bb (Nat.le_trans (unhide HB3) (unhide HS4).size))) ((unhide HT5_4).later (Kp.below bb (Nat.le_trans (unhide HB3) (unhide HS4).size))))
  have HS5:=hide ((unhide HS4).trans (bb.mono (unhide HS4).size))
  clear bb HT2_4 HT1_4 HT3_4 HT4_4 HT5_4
  refine till_one 15 (by kernel_rfl) rfl (fun K hK=>?_)
  go_simp
  try rw [hW5]
  try rw [hq]
  refine hK.out _ _ (Or.inr (unhide HS5)) ?_
  clear hK K HS4 hW5 hq
  try simp only [Act.put,List.setIfInBounds_toArray,List.set_cons_zero,List.set_cons_succ]
  refine till_one 16 (by kernel_rfl) rfl (fun K hK=>?_)
  go_simp
  refine(row_any B0 q 5 5 _ W5 (Nat.le_trans (unhide HB3) (unhide HS5).size) (unhide HX5) rfl (by decide)).mono ?_
  rintro e W6 ⟨tr,rfl,h,bb⟩
  have h0:=h
  obtain⟨Fr,pr,rfl,-,-⟩:=h0
  have HT:=hide h
  have HS6:=hide ((unhide HS5).trans (bb.mono (unhide HS5).size))
  clear bb h HX5
  go_wp2_with fail
  refine hK.out _ _ (Or.inr (unhide HS6)) ?_
  clear hK K HS5
  try simp only [Act.put,List.setIfInBounds_toArray,List.set_cons_zero,List.set_cons_succ]
  refine till_one 17 (by kernel_rfl) rfl (fun K hK=>?_)
  go_simp
  refine hK.out _ _ (Or.inl (by first|rfl|trivial)) ?_
  clear hK K
  try simp only [Act.put,List.setIfInBounds_toArray,List.set_cons_zero,List.set_cons_succ]
  refine till_done (by kernel_rfl) ?_ _
  go_wp2_with fail
  go_ret
  refine⟨_,rfl,?_,?_⟩
  ·have h1:=unhide HT
   have e:Z=([B.data.toList,jl [44,32] true ((ks.take m).map nmT),[41,32],stT 1 z,[10]]:List (List UInt8)).flatten:=by rw [unhide HZ,unhide HDB];simp
   rw [e]
   exact h1
  ·have:=((unhide HM) _ ((unhide HX3).trans ((unhide HS6).mono (unhide HX3).size))).2.2.2.2
   first|exact this|(rw [hG];exact this)
 |false=>
  have hzA:¬9223372036854775807<3+t.size:=by omega
  obtain⟨A,eA⟩:∃z,(⟨#[102,110,32]⟩++t:ByteArray)=z:=⟨_,rfl⟩
  have dA:A.data.toList=[102,110,32]++t.data.toList:=by rw [←eA,ByteArray.data_append,Array.toList_append] <;> rfl
  have sA:A.size≤3+t.size:=by rw [←eA,ByteArray.size_append];exact Nat.le_refl _
  have hzB:¬9223372036854775807<A.size+1:=by omega
  obtain⟨B,eB⟩:∃z,(A++⟨#[40]⟩:ByteArray)=z:=⟨_,rfl⟩
  have dB:B.data.toList=[102,110,32]++t.data.toList++[40]:=by rw [←eB,ByteArray.data_append,Array.toList_append,dA] <;> rfl
  have HDB:=hide dB
  clear dA dB
  obtain⟨x0,x1,x2,x3,x4,x5,x6,x7,x8,x9⟩:=unhide HF w1 (Below.refl _ _)
  have CL:=hide (listed_any B0 (some b) m cc ⟨#[44,32]⟩ (.func (.func 43) #[] #[]) (ks.take m) nmT w1 ((unhide HM) w1 (unhide HS0)).2.2.1 (((unhide HM) w1 (unhide HS0)).2.1.take m) (unhide HMT) put_name)
  go_wp2_with fail
  refine(unhide CL).mono ?_
  rintro e w3 ⟨t2,rfl,h,bb⟩
  have h0:=h
  obtain⟨F2,p2,rfl,-,-⟩:=h0
  have HX3:=hide ((unhide HS0).trans (bb.mono (unhide HS0).size))
  have HTp:=hide h
  have HB3:=hide (show B0≤w3.heap.size from ((unhide HM) w3 (unhide HX3)).2.2.1)
  clear bb h CL x0 x1 x2 x3 x4 x5 x6 x7 x8 x9
  go_upto_region 6 with fail
  have HS0:Hid (Below w3.heap.size w3 w3.drew):=hide ((Below.refl _ _).drew)
  refine till_begin (S:=fun w'=>Below w3.heap.size w3 w') 17 (by kernel_rfl) ?_
  obtain⟨W0,hW0⟩:∃W0,w3.drew=W0:=⟨_,rfl⟩
  try rw [hW0]
  rw [hW0] at HS0
  clear hW0
  have HT2_0:=hide ((unhide HTp).later (Kp.below (unhide HS0) (unhide HB3)))
  clear HTp
  refine till_take 0 (v:=.string ⟨#[102,110,32]⟩) (some 17) rfl rfl rfl (by kernel_rfl) (by kernel_rfl) (by kernel_rfl) (by kernel_rfl) (fun _ _ _ h=>h) (Or.inl ⟨by rfl,fun u hu=>by obtain⟨x0,x1,x2,x3,x4,x5,x6,x7,x8,x9⟩:=unhide HF u ((unhide HX3).trans (Below.mono hu (unhide HX3).size));obtain⟨y0,y1,y2,y3,y4,y5,y6,y7,y8,y9⟩:=(unhide HK u ((unhide HX3).trans (Below.mono hu (unhide HX3).size))).1;go_simp⟩) (unhide HS0) ?_
  try simp only [Act.put,List.setIfInBounds_toArray,List.set_cons_zero,List.set_cons_succ]
  refine till_take 1 (v:=.pointer (some ⟨G,1,none⟩)) (some 18) rfl rfl rfl (by kernel_rfl) (by kernel_rfl) (by kernel_rfl) (by kernel_rfl) (fun _ _ _ h=>h) (Or.inl ⟨by rfl,fun u hu=>by obtain⟨x0,x1,x2,x3,x4,x5,x6,x7,x8,x9⟩:=unhide HF u ((unhide HX3).trans (Below.mono hu (unhide HX3).size));obtain⟨y0,y1,y2,y3,y4,y5,y6,y7,y8,y9⟩:=(unhide HK u ((unhide HX3).trans (Below.mono hu (unhide HX3).size))).1;go_simp⟩) (unhide HS0) ?_
  try simp only [Act.put,List.setIfInBounds_toArray,List.set_cons_zero,List.set_cons_succ]
  refine till_take 2 (v:=.string t) (some 19) rfl rfl rfl (by kernel_rfl) (by kernel_rfl) (by kernel_rfl) (by kernel_rfl) (fun _ _ _ h=>h) (Or.inl ⟨by rfl,fun u hu=>by obtain⟨x0,x1,x2,x3,x4,x5,x6,x7,x8,x9⟩:=unhide HF u ((unhide HX3).trans (Below.mono hu (unhide HX3).size));obtain⟨y0,y1,y2,y3,y4,y5,y6,y7,y8,y9⟩:=(unhide HK u ((unhide HX3).trans (Below.mono hu (unhide HX3).size))).1;go_simp⟩) (unhide HS0) ?_
  try simp only [Act.put,List.setIfInBounds_toArray,List.set_cons_zero,List.set_cons_succ]
  refine till_take 3 (v:=.string A) (some 20) rfl rfl rfl (by kernel_rfl) (by kernel_rfl) (by kernel_rfl) (by kernel_rfl) (fun _ _ _ h=>h) (Or.inl ⟨by rfl,fun u hu=>by obtain⟨x0,x1,x2,x3,x4,x5,x6,x7,x8,x9⟩:=unhide HF u ((unhide HX3).trans (Below.mono hu (unhide HX3).size));obtain⟨y0,y1,y2,y3,y4,y5,y6,y7,y8,y9⟩:=(unhide HK u ((unhide HX3).trans (Below.mono hu (unhide HX3).size))).1;go_simp⟩) (unhide HS0) ?_
  try simp only [Act.put,List.setIfInBounds_toArray,List.set_cons_zero,List.set_cons_succ]
  refine till_take 4 (v:=.string B) (some 21) rfl rfl rfl (by kernel_rfl) (by kernel_rfl) (by kernel_rfl) (by kernel_rfl) (fun _ _ _ h=>h) (Or.inl ⟨by rfl,fun u hu=>by obtain⟨x0,x1,x2,x3,x4,x5,x6,x7,x8,x9⟩:=unhide HF u ((unhide HX3).trans (Below.mono hu (unhide HX3).size));obtain⟨y0,y1,y2,y3,y4,y5,y6,y7,y8,y9⟩:=(unhide HK u ((unhide HX3).trans (Below.mono hu (unhide HX3).size))).1;go_simp⟩) (unhide HS0) ?_
  try simp only [Act.put,List.setIfInBounds_toArray,List.set_cons_zero,List.set_cons_succ]
  refine till_take 6 (v:=.func (.func F2) #[] p2) (some 23) rfl rfl rfl (by kernel_rfl) (by kernel_rfl) (by kernel_rfl) (by kernel_rfl) (fun _ _ _ h=>h) (Or.inl ⟨by rfl,fun u hu=>by obtain⟨x0,x1,x2,x3,x4,x5,x6,x7,x8,x9⟩:=unhide HF u ((unhide HX3).trans (Below.mono hu (unhide HX3).size));obtain⟨y0,y1,y2,y3,y4,y5,y6,y7,y8,y9⟩:=(unhide HK u ((unhide HX3).trans (Below.mono hu (unhide HX3).size))).1;go_simp⟩) (unhide HS0) ?_
  try simp only [Act.put,List.setIfInBounds_toArray,List.set_cons_zero,List.set_cons_succ]
  refine till_take 8 (v:=.pointer (some ⟨G,8,none⟩)) (some 25) rfl rfl rfl (by kernel_rfl) (by kernel_rfl) (by kernel_rfl) (by kernel_rfl) (fun _ _ _ h=>h) (Or.inl ⟨by rfl,fun u hu=>by obtain⟨x0,x1,x2,x3,x4,x5,x6,x7,x8,x9⟩:=unhide HF u ((unhide HX3).trans (Below.mono hu (unhide HX3).size));obtain⟨y0,y1,y2,y3,y4,y5,y6,y7,y8,y9⟩:=(unhide HK u ((unhide HX3).trans (Below.mono hu (unhide HX3).size))).1;go_simp⟩) (unhide HS0) ?_
  try simp only [Act.put,List.setIfInBounds_toArray,List.set_cons_zero,List.set_cons_succ]
  refine till_take 9 (v:=.slice (some b) n cc) (some 26) rfl rfl rfl (by kernel_rfl) (by kernel_rfl) (by kernel_rfl) (by kernel_rfl) (fun _ _ _ h=>h) (Or.inl ⟨by rfl,fun u hu=>by obtain⟨x0,x1,x2,x3,x4,x5,x6,x7,x8,x9⟩:=unhide HF u ((unhide HX3).trans (Below.mono hu (unhide HX3).size));obtain⟨y0,y1,y2,y3,y4,y5,y6,y7,y8,y9⟩:=(unhide HK u ((unhide HX3).trans (Below.mono hu (unhide HX3).size))).1;go_simp⟩) (unhide HS0) ?_
  try simp only [Act.put,List.setIfInBounds_toArray,List.set_cons_zero,List.set_cons_succ]
  refine till_take 10 (v:=.int .i64 (m:Int)) (some 27) rfl rfl rfl (by kernel_rfl) (by kernel_rfl) (by kernel_rfl) (by kernel_rfl) (fun _ _ _ h=>h) (Or.inl ⟨by rfl,fun u hu=>by obtain⟨x0,x1,x2,x3,x4,x5,x6,x7,x8,x9⟩:=unhide HF u ((unhide HX3).trans (Below.mono hu (unhide HX3).size));obtain⟨y0,y1,y2,y3,y4,y5,y6,y7,y8,y9⟩:=(unhide HK u ((unhide HX3).trans (Below.mono hu (unhide HX3).size))).1;go_simp⟩) (unhide HS0) ?_
  try simp only [Act.put,List.setIfInBounds_toArray,List.set_cons_zero,List.set_cons_succ]
  refine till_take 11 (v:=.pointer (some (b.add (m * 10)))) (some 28) rfl rfl rfl (by kernel_rfl) (by kernel_rfl) (by kernel_rfl) (by kernel_rfl) (fun _ _ _ h=>h) (Or.inl ⟨by rfl,fun u hu=>by obtain⟨x0,x1,x2,x3,x4,x5,x6,x7,x8,x9⟩:=unhide HF u ((unhide HX3).trans (Below.mono hu (unhide HX3).size));obtain⟨y0,y1,y2,y3,y4,y5,y6,y7,y8,y9⟩:=(unhide HK u ((unhide HX3).trans (Below.mono hu (unhide HX3).size))).1;go_simp⟩) (unhide HS0) ?_
  try simp only [Act.put,List.setIfInBounds_toArray,List.set_cons_zero,List.set_cons_succ]
  refine till_take 12 (v:=.agg #[.int .i64 z.k,.string z.t,.int .i64 vky,.int .i64 vny,.string vsy,.slice aly lly cly,.slice aky lky cky,.bool z.f,.slice ay ny ccy,.int .i64 z.p]) (some 29) rfl rfl rfl (by kernel_rfl) (by kernel_rfl) (by kernel_rfl) (by kernel_rfl) (fun _ _ _ h=>h) (Or.inl ⟨by rfl,fun u hu=>by obtain⟨x0,x1,x2,x3,x4,x5,x6,x7,x8,x9⟩:=unhide HF u ((unhide HX3).trans (Below.mono hu (unhide HX3).size));obtain⟨y0,y1,y2,y3,y4,y5,y6,y7,y8,y9⟩:=(unhide HK u ((unhide HX3).trans (Below.mono hu (unhide HX3).size))).1;go_simp⟩) (unhide HS0) ?_
  try simp only [Act.put,List.setIfInBounds_toArray,List.set_cons_zero,List.set_cons_succ]
  refine till_one 5 (by kernel_rfl) rfl (fun K hK=>?_)
  go_simp
  refine(txw_any B0 B W0).mono ?_
  rintro e W1 ⟨t1,rfl,h,bb⟩
  have h0:=h
  obtain⟨F1,p1,rfl,-,-⟩:=h0
  have HT1_1:=hide h
  have HS1:=hide ((unhide HS0).trans (bb.mono (unhide HS0).size))
  have HT2_1:=hide ((unhide HT2_0).later (Kp.below bb (Nat.le_trans (unhide HB3) (unhide HS0).size)))
  clear bb h HT2_0
  go_wp2_with fail
  refine hK.out _ _ (Or.inr (unhide HS1)) ?_
  clear hK K HS0
  try simp only [Act.put,List.setIfInBounds_toArray,List.set_cons_zero,List.set_cons_succ]
  refine till_one 7 (by kernel_rfl) rfl (fun K hK=>?_)
  go_simp
  refine(txw_any B0 ⟨#[41,32]⟩ W1).mono ?_
  rintro e W2 ⟨t3,rfl,h,bb⟩
  have h0:=h
  obtain⟨F3,p3,rfl,-,-⟩:=h0
  have HT3_2:=hide h
  have HS2:=hide ((unhide HS1).trans (bb.mono (unhide HS1).size))
  have HT2_2:=hide ((unhide HT2_1).later (Kp.below bb (Nat.le_trans (unhide HB3) (unhide HS1).size)))
  have HT1_2:=hide ((unhide HT1_1).later (Kp.below bb (Nat.le_trans (unhide HB3) (unhide HS1).size)))
  clear bb h HT2_1 HT1_1
  go_wp2_with fail
  refine hK.out _ _ (Or.inr (unhide HS2)) ?_
  clear hK K HS1
  try simp only [Act.put,List.setIfInBounds_toArray,List.set_cons_zero,List.set_cons_succ]
  refine till_one 13 (by kernel_rfl) rfl (fun K hK=>?_)
  go_simp
  refine((unhide HBz) _ W2 (Nat.le_trans (unhide HB3) (unhide HS2).size) (unhide HG0) ((unhide HPW) W2 ((unhide HX3).trans (Below.mono (unhide HS2) (unhide HX3).size))) (unhide HK W2 ((unhide HX3).trans (Below.mono (unhide HS2) (unhide HX3).size))).2).mono ?_
  rintro e W3 ⟨t4,rfl,h,bb⟩
  have h0:=h
  obtain⟨F4,p4,rfl,-,-⟩:=h0
  have HT4_3:=hide h
  have HS3:=hide ((unhide HS2).trans (bb.mono (unhide HS2).size))
  have HT2_3:=hide ((unhide HT2_2).later (Kp.below bb (Nat.le_trans (unhide HB3) (unhide HS2).size)))
  have HT1_3:=hide ((unhide HT1_2).later (Kp.below bb (Nat.le_trans (unhide HB3) (unhide HS2).size)))
  have HT3_3:=hide ((unhide HT3_2).later (Kp.below bb (Nat.le_trans (unhide HB3) (unhide HS2).size)))
  clear bb h HT2_2 HT1_2 HT3_2
  go_wp2_with fail
  refine hK.out _ _ (Or.inr (unhide HS3)) ?_
  clear hK K HS2
  try simp only [Act.put,List.setIfInBounds_toArray,List.set_cons_zero,List.set_cons_succ]
  refine till_one 14 (by kernel_rfl) rfl (fun K hK=>?_)
  go_simp
  refine(txw_any B0 ⟨#[10]⟩ W3).mono ?_
  rintro e W4 ⟨t5,rfl,h,bb⟩
  have h0:=h
  obtain⟨F5,p5,rfl,-,-⟩:=h0
  have HT5_4:=hide h
  have HS4:=hide ((unhide HS3).trans (bb.mono (unhide HS3).size))
  have HT2_4:=hide ((unhide HT2_3).later (Kp.below bb (Nat.le_trans (unhide HB3) (unhide HS3).size)))
  have HT1_4:=hide ((unhide HT1_3).later (Kp.below bb (Nat.le_trans (unhide HB3) (unhide HS3).size)))
  have HT3_4:=hide ((unhide HT3_3).later (Kp.below bb (Nat.le_trans (unhide HB3) (unhide HS3).size)))
  have HT4_4:=hide ((unhide HT4_3).later (Kp.below bb (Nat.le_trans (unhide HB3) (unhide HS3).size)))
  clear bb h HT2_3 HT1_3 HT3_3 HT4_3
  go_wp2_with fail
  refine hK.out _ _ (Or.inr (unhide HS4)) ?_
  clear hK K HS3
  try simp only [Act.put,List.setIfInBounds_toArray,List.set_cons_zero,List.set_cons_succ]
  obtain⟨W5,hW5⟩:∃W,W4.alloc (.cells #[.func (.func F1) #[] p1,.func (.func F2) #[] p2,.func (.func F3) #[] p3,.func (.func F4) #[] p4,.func (.func F5) #[] p5] 39)=W:=⟨_,rfl⟩
  obtain⟨q,hq⟩:∃q,W4.heap.size=q:=⟨_,rfl⟩
  have bb:Below W4.heap.size W4 W5:=by rw [←hW5];exact(Below.refl _ _).alloc (Nat.le_refl _) _
  have HX5:=hide (show Txs B0 W5 q _ from txs5 (by rw [←hW5,←hq];exact heap_alloc_new _ _) ((unhide HT1_4).later (Kp.below bb (Nat.le_trans (unhide HB3) (unhide HS4).size))) ((unhide HT2_4).later (Kp.below bb (Nat.le_trans (unhide HB3) (unhide HS4).size))) ((unhide HT3_4).later (Kp.below bb (Nat.le_trans (unhide HB3) (unhide HS4).size))) ((unhide HT4_4).later (Kp.below bb (Nat.le_trans (unhide HB3) (unhide HS4).size))) ((unhide HT5_4).later (Kp.below bb (Nat.le_trans (unhide HB3) (unhide HS4).size))))
  have HS5:=hide ((unhide HS4).trans (bb.mono (unhide HS4).size))
  clear bb HT2_4 HT1_4 HT3_4 HT4_4 HT5_4
  refine till_one 15 (by kernel_rfl) rfl (fun K hK=>?_)
  go_simp
  try rw [hW5]
  try rw [hq]
  refine hK.out _ _ (Or.inr (unhide HS5)) ?_
  clear hK K HS4 hW5 hq
  try simp only [Act.put,List.setIfInBounds_toArray,List.set_cons_zero,List.set_cons_succ]
  refine till_one 16 (by kernel_rfl) rfl (fun K hK=>?_)
  go_simp
  refine(row_any B0 q 5 5 _ W5 (Nat.le_trans (unhide HB3) (unhide HS5).size) (unhide HX5) rfl (by decide)).mono ?_
  rintro e W6 ⟨tr,rfl,h,bb⟩
  have h0:=h
  obtain⟨Fr,pr,rfl,-,-⟩:=h0
  have HT:=hide h
  have HS6:=hide ((unhide HS5).trans (bb.mono (unhide HS5).size))
  clear bb h HX5
  go_wp2_with fail
  refine hK.out _ _ (Or.inr (unhide HS6)) ?_
  clear hK K HS5
  try simp only [Act.put,List.setIfInBounds_toArray,List.set_cons_zero,List.set_cons_succ]
  refine till_one 17 (by kernel_rfl) rfl (fun K hK=>?_)
  go_simp
  refine hK.out _ _ (Or.inl (by first|rfl|trivial)) ?_
  clear hK K
  try simp only [Act.put,List.setIfInBounds_toArray,List.set_cons_zero,List.set_cons_succ]
  refine till_done (by kernel_rfl) ?_ _
  go_wp2_with fail
  go_ret
  refine⟨_,rfl,?_,?_⟩
  ·have h1:=unhide HT
   have e:Z=([B.data.toList,jl [44,32] true ((ks.take m).map nmT),[41,32],stT 1 z,[10]]:List (List UInt8)).flatten:=by rw [unhide HZ,unhide HDB];simp
   rw [e]
   exact h1
  ·have:=((unhide HM) _ ((unhide HX3).trans ((unhide HS6).mono (unhide HX3).size))).2.2.2.2
   first|exact this|(rw [hG];exact this)
end Go.Proofs.YtekbmfppfjlboaaGreatDoor
