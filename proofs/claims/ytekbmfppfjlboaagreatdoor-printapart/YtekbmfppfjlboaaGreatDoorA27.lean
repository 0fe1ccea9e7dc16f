/-
  The walks of the document's Right, Weight, deep, Depth; no conditions but the form's own reach.
  The walk of the document's Print; conditions: the form's own reach.
  The walk of value's Print; conditions: the table of strconv as the program's text lays it.
  Layer 18 (print): an expression's one form, as a function of the tree; texts that are laid in a row; no conditions.
  Layer 18 (print): one of a node's kids, in brackets if it needs them there; conditions: the nodes lie in memory.
-/
import Derived.Test.YtekbmfppfjlboaaGreatDoorA26
import Derived.Test.YtekbmfppfjlboaaGreatDoorA23
import Derived.Test.YtekbmfppfjlboaaGreatDoorA25
import Derived.Test.YtekbmfppfjlboaaGreatDoorA08
import Derived.Test.YtekbmfppfjlboaaGreatDoorA22
set_option linter.unusedVariables false
set_option linter.unusedSimpArgs false
namespace Go.Proofs.YtekbmfppfjlboaaGreatDoor
open Go.RowKit
theorem weigh_any:∀b,WeighAt b
 |0=>weigh_zero
 |b+1=>weigh_step b (weigh_any b)
theorem wgh_right (v:Vl):(wgh 8 v 0≤2048↔rightB v=true)∧(rightB v=true→wgh 8 v 0=wt v)∧(rightB v=false→wgh 8 v 0=2049):=by
 have h0:rightB v=(okB 8 v && decide (0+wt v≤2048)):=by unfold rightB;rw [Nat.zero_add]
 have h1:rightB v=true→wgh 8 v 0=wt v:=by
  intro h
  rw [h0] at h
  unfold wgh
  rw [if_pos h,Nat.zero_add]
 have h2:rightB v=false→wgh 8 v 0=2049:=by
  intro h
  rw [h0] at h
  unfold wgh
  rw [if_neg (by rw [h];simp)]
 refine⟨⟨fun h=>?_,fun h=>?_⟩,h1,h2⟩
 ·cases hr:rightB v with
  |true=>rfl
  |false=>rw [h2 hr] at h;omega
 ·rw [h1 h]
  unfold rightB at h
  rw [Bool.and_eq_true,decide_eq_true_eq] at h
  exact h.2
set_option maxRecDepth 100000 in
set_option maxHeartbeats 400000 in
theorem right_ref (v:Vl) (x:Value) (B:Nat) (w:World) (hv:IsV w B v x) (hBs:B≤w.heap.size) :
  Calls Tryz.prog 85 #[x] w fun e w'=>e=.returned (.bool (rightB v))∧Below w.heap.size w w':=by
 obtain⟨k',n',s',l',ks',al',ak',cl',ck',hy',hx⟩:=hv.shape
 obtain⟨ll,hll⟩:∃ll,l'.length=ll:=⟨_,rfl⟩
 obtain⟨m,hm⟩:∃m,ks'.length=m:=⟨_,rfl⟩
 rw [hll,hm] at hx
 subst hx
 obtain⟨w1,hw1⟩:∃w1,w.alloc (.cells #[.int .i64 k',.int .i64 n',.string s',.slice al' ll cl',.slice ak' m ck'] 26)=w1:=⟨_,rfl⟩
 have BX:=Box.mk' w (.int .i64 k') (.int .i64 n') (.string s') (.slice al' ll cl') (.slice ak' m ck')
 rw [hw1] at BX
 obtain⟨c0,c1,c2,c3,c4⟩:=row_cell BX.row
 have z1:=BX.size
 have HB:=hide BX.below
 have CW:=hide (weigh_any 8 v _ 0 0 B w1 (by omega) (hv.mono (BX.below.mono hBs)) (by omega) (by omega))
 have HR:Hid (decide ((wgh 8 v 0:Int)≤2048)=rightB v):=hide (by
  cases hr:rightB v with
  |true=>exact decide_eq_true (by have:=(wgh_right v).1.2 hr;omega)
  |false=>exact decide_eq_false (by rw [(wgh_right v).2.2 hr];omega))
 obtain⟨W,hW⟩:∃W,wgh 8 v 0=W:=⟨_,rfl⟩
 rw [hW] at CW HR
 clear BX hv hy' hW
 go_enter Tryz.func85,Tryz.ntmps85
 go_wp2_with fail
 refine(unhide CW).mono ?_
 rintro e w2 ⟨rfl,b2⟩
 have B2:=hide b2
 clear b2 CW
 go_wp2_with fail
 go_ret
 exact⟨by rw [←unhide HR];rfl,(unhide HB).trans ((unhide B2).mono (by omega))⟩
set_option linter.unusedVariables false
set_option linter.unusedSimpArgs false
def prt (v:Vl):List UInt8:=if rightB v=true then txt v else []
theorem right_ok {v:Vl} (h:rightB v=true):okB 8 v=true∧wt v≤2048:=by
 unfold rightB at h
 rw [Bool.and_eq_true,decide_eq_true_eq] at h
 exact h
set_option maxRecDepth 100000 in
set_option maxHeartbeats 1000000 in
theorem print_any (v:Vl) (x:Value) (B:Nat) (w:World) (hv:IsV w B v x) (hBs:B≤w.heap.size) (hG:0<B) (hP:PowAt w) :
  Calls Tryz.prog 41 #[x] w fun e w'=>∃t:ByteArray,e=.returned (.string t)∧t.data.toList=prt v∧Below w.heap.size w w':=by
 obtain⟨k,n,s,l,ks,al,ak,cl,ck,hvv,rfl⟩:=hv.shape
 clear hvv
 obtain⟨m,hm⟩:∃m,ks.length=m:=⟨_,rfl⟩
 obtain⟨ln,hln⟩:∃ln,l.length=ln:=⟨_,rfl⟩
 rw [hm,hln] at hv
 rw [hm,hln]
 obtain⟨g,hg⟩:∃g,w.heap.size=g:=⟨_,rfl⟩
 have BX:=Box.mk' w (.int .i64 k) (.int .i64 n) (.string s) (.slice al ln cl) (.slice ak m ck)
 obtain⟨w1,hw1⟩:∃w1,w.alloc (.cells #[.int .i64 k,.int .i64 n,.string s,.slice al ln cl,.slice ak m ck] 26)=w1:=⟨_,rfl⟩
 rw [hw1] at BX
 have at0:=BX.row
 rw [hg] at at0
 have HB:Hid (Below g w w1):=hide (by rw [←hg];exact BX.below)
 have zb:g<w1.heap.size:=by have:=BX.size;omega
 have HT:Hid (∀u,Below w1.heap.size w1 u→u.heap[g]?=some (.cells #[.int .i64 k,.int .i64 n,.string s,.slice al ln cl,.slice ak m ck] 26 (0,0))∧IsV u B v (.agg #[.int .i64 k,.int .i64 n,.string s,.slice al ln cl,.slice ak m ck])∧B≤u.heap.size∧Below g w u∧PowAt u∧g<u.heap.size):=hide (fun u hu=>by
  have h1:Below g w u:=(unhide HB).trans (hu.mono (by omega))
  have h2:=(hu.block g zb).trans at0
  exact⟨h2,hv.mono (h1.mono (by omega)),by have:=h1.size;omega,h1,hP.later (h1.mono (by omega:B≤g)) hG,(Array.getElem?_eq_some_iff.1 h2).1⟩)
 have CR:=hide (right_code v _ B w1 (unhide HT w1 (Below.refl _ _)).2.1 (unhide HT w1 (Below.refl _ _)).2.2.1)
 obtain⟨c0,c1,c2,c3,c4⟩:=row_cell at0
 have HGG:=hide hG
 clear BX hv hm hln at0 hP
 cases hR:rightB v with
 |false=>
  have HP:Hid (prt v=[]):=hide (by unfold prt;rw [if_neg (by rw [hR];simp)])
  rw [hR] at CR
  clear hR
  go_enter Tryz.func41,Tryz.ntmps41
  go_wp2_with fail
  refine(unhide CR).mono ?_
  rintro e u ⟨rfl,bu⟩
  have HF:=hide (unhide HT u bu).2.2.2.1
  clear bu CR
  go_wp2_with fail
  go_ret
  exact⟨_,rfl,by rw [unhide HP],by first|exact unhide HF|(rw [hg];exact unhide HF)⟩
 |true=>
  have HP:Hid (prt v=txt v∧okB 8 v=true∧wt v≤2048):=hide ⟨by unfold prt;rw [if_pos hR],(right_ok hR).1,(right_ok hR).2⟩
  rw [hR] at CR
  clear hR
  go_enter Tryz.func41,Tryz.ntmps41
  go_wp2_with fail
  refine(unhide CR).mono ?_
  rintro e u ⟨rfl,bu⟩
  have HU:=hide bu
  clear bu CR c0 c1 c2 c3 c4
  obtain⟨B1,hB1⟩:∃B1,u.heap.size=B1:=⟨_,rfl⟩
  obtain⟨u1,hu1⟩:∃u1,u.alloc (.cells #[.pointer none,.slice none 0 0] 50)=u1:=⟨_,rfl⟩
  have hbu:Below B1 u u1:=by rw [←hu1,←hB1];exact(Below.refl _ _).alloc (Nat.le_refl _) _
  have F1:Bd u1 B1 B1 []:=by
   have h:=Lib.IsBuilderF.of (Lib.fresh_isBuilder 50 5 u)
   rw [hu1,hB1] at h
   exact h
  obtain⟨hbx,hV,hBw,hb1,hPw,hgw⟩:=unhide HT u (unhide HU)
  have hbx1:=(hbu.block g (by omega)).trans hbx
  obtain⟨c0,c1,c2,c3,c4⟩:=row_cell hbx1
  have hV1:IsV u1 B1 v _:=(hV.lift (by omega:B≤B1)).mono hbu
  have CW:=hide (write_any 8 v _ B1 B1 [] u1 (unhide HP).2.1 (unhide HP).2.2 hV1 (by have:=hbu.size;omega) (by have:=unhide HGG;omega) (hPw.later hbu (by have:=unhide HGG;omega)) F1 (by have:=(unhide HP).2.2;show 0+_≤_;omega))
  have hg1:g<u1.heap.size:=(Array.getElem?_eq_some_iff.1 hbx1).1
  have HZ:Hid (B1≤u1.heap.size):=hide (by have:=hbu.size;omega)
  have HF:Hid (∀u',Below B1 u1 u'→Below g w u'):=hide (fun u' h'=>hb1.trans ((hbu.trans h').mono (by omega)))
  have HBU:=hide hbu
  clear hV1 hV hPw hbx hbx1 hb1 F1 hbu
  go_wp2_with fail
  refine(unhide CW).mono ?_
  rintro e u2 ⟨rfl,_,k2⟩
  have CS:=hide (Tryz.Builder_String_any_k B1 B1 (txt v) u2 (by simpa using k2.bd) (k2.size (unhide HZ)))
  have HK:=hide k2.below
  clear k2 CW c0 c1 c2 c3 c4
  go_wp2_with fail
  refine(unhide CS).mono ?_
  rintro e u3 ⟨rfl,_,b3,_⟩
  have HF3:=hide (unhide HF u3 ((unhide HK).trans b3))
  clear b3 CS
  go_wp2_with fail
  go_ret
  exact⟨_,rfl,by rw [(unhide HP).1],by first|exact unhide HF3|(rw [hg];exact unhide HF3)⟩
def opX (k:Int) (t:ByteArray) (ks:List Tn) (es:List (List UInt8)) (i:Nat):List UInt8:=
 if (match ks[i]? with|some y=>brk k t y.k y.t i|none=>false)=true then 40 :: ((es[i]?).getD []++[41]) else (es[i]?).getD []
def ex1 (k:Int) (t:ByteArray) (v:Vl) (ks:List Tn) (es:List (List UInt8)):List UInt8:=
 if k=13 then prt v
 else if k=15 then t.data.toList++40 :: (jl [44,32] true es++[41])
 else if k=18 then 91 :: (jl [44,32] true es++[93])
 else if k=19 then 123 :: (jl [44,32] true es++[125])
 else if k=16 then t.data.toList++opX k t ks es 0
 else if k=17 then opX k t ks es 0++32 :: (t.data.toList++32 :: opX k t ks es 1)
 else if k=21 then opX k t ks es 0++91 :: ((es[1]?).getD []++[93])
 else if k=22 then opX k t ks es 0++46 :: t.data.toList
 else if k=20 then (if nameL t.data.toList=true then t.data.toList else quoB t.data.toList)++58 :: 32 :: (es[0]?).getD []
 else t.data.toList
def exM:List Tn→List (List UInt8)
 |[]=>[]
 |.mk k t v _ ks _ :: r=>ex1 k t v ks (exM ks) :: exM r
def exT (y:Tn):List UInt8:=ex1 y.k y.t y.v y.ks (exM y.ks)
theorem exM_map:∀l:List Tn,exM l=l.map exT
 |[]=>by simp only [exM];rfl
 |.mk k t v f ks p :: r=>by simp only [exM,List.map_cons,exM_map r];rfl
theorem exM_at (l:List Tn) (i:Nat) (y:Tn) (h:l[i]?=some y):(exM l)[i]?=some (exT y):=by rw [exM_map,List.getElem?_map,h];rfl
theorem txs2 {B0:Nat} {w:World} {q:Nat} {t1 t2:Value} {L1 L2:List UInt8} (hq:w.heap[q]?=some (.cells #[t1,t2] 39 (0,0))) (h1:Txt B0 w t1 L1) (h2:Txt B0 w t2 L2):Txs B0 w q [L1,L2]:=
 ⟨_,hq,fun i L hi=>by
  rcases i with _|_|i
  ·simp at hi;subst hi;exact⟨t1,rfl,h1⟩
  ·simp at hi;subst hi;exact⟨t2,rfl,h2⟩
  ·simp at hi⟩
theorem txs3 {B0:Nat} {w:World} {q:Nat} {t1 t2 t3:Value} {L1 L2 L3:List UInt8} (hq:w.heap[q]?=some (.cells #[t1,t2,t3] 39 (0,0))) (h1:Txt B0 w t1 L1) (h2:Txt B0 w t2 L2) (h3:Txt B0 w t3 L3):Txs B0 w q [L1,L2,L3]:=
 ⟨_,hq,fun i L hi=>by
  rcases i with _|_|_|i
  ·simp at hi;subst hi;exact⟨t1,rfl,h1⟩
  ·simp at hi;subst hi;exact⟨t2,rfl,h2⟩
  ·simp at hi;subst hi;exact⟨t3,rfl,h3⟩
  ·simp at hi⟩
theorem txs4 {B0:Nat} {w:World} {q:Nat} {t1 t2 t3 t4:Value} {L1 L2 L3 L4:List UInt8} (hq:w.heap[q]?=some (.cells #[t1,t2,t3,t4] 39 (0,0))) (h1:Txt B0 w t1 L1) (h2:Txt B0 w t2 L2) (h3:Txt B0 w t3 L3) (h4:Txt B0 w t4 L4):Txs B0 w q [L1,L2,L3,L4]:=
 ⟨_,hq,fun i L hi=>by
  rcases i with _|_|_|_|i
  ·simp at hi;subst hi;exact⟨t1,rfl,h1⟩
  ·simp at hi;subst hi;exact⟨t2,rfl,h2⟩
  ·simp at hi;subst hi;exact⟨t3,rfl,h3⟩
  ·simp at hi;subst hi;exact⟨t4,rfl,h4⟩
  ·simp at hi⟩
def ExC (B0:Nat) (y:Tn):Prop:=∀(x:List Value) (u:World),B0≤u.heap.size→0<B0→PowAt u→IsN u (fun b=>b<B0) y x→Calls Tryz.prog 23 #[.agg x.toArray] u fun e u'=>∃t,e=.returned t∧Txt B0 u' t (exT y)∧Below u.heap.size u u'
theorem PowAt.kp {w u:World} {B0:Nat} (h:PowAt w) (k:Kp B0 w u) (hB:0<B0):PowAt u:=h.later k.bel hB
theorem opX_at (k:Int) (t:ByteArray) (ks:List Tn) (i:Nat) (y:Tn) (h:ks[i]?=some y):opX k t ks (exM ks) i=if brk k t y.k y.t i=true then 40 :: (exT y++[41]) else exT y:=by
 unfold opX
 rw [h,exM_at ks i y h]
 rfl
set_option maxRecDepth 100000 in
set_option maxHeartbeats 4000000 in
theorem operand_any (B0:Nat) (ks:List Tn) (k vk vn p:Int) (t vs:ByteArray) (al ak:Option Addr) (ll cl lk ck n cc:Nat) (f:Bool) (b:Addr) (i:Nat) (w:World) (hB:B0≤w.heap.size) (hr:RowN w B0 ks (some b) cc) (hn:ks.length=n) (hi:i<n) (hG0:0<B0) (hP:PowAt w) (hE:∀y∈ks,ExC B0 y) :
  Calls Tryz.prog 45 #[.agg #[.int .i64 k,.string t,.int .i64 vk,.int .i64 vn,.string vs,.slice al ll cl,.slice ak lk ck,.bool f,.slice (some b) n cc,.int .i64 p],.int .i64 (i:Int)] w fun e w'=>∃t',e=.returned t'∧Txt B0 w' t' (opX k t ks (exM ks) i)∧Below w.heap.size w w':=by
 obtain⟨y,hy⟩:∃y,ks[i]?=some y:=⟨_,List.getElem?_eq_getElem (by omega)⟩
 rw [opX_at k t ks i y hy]
 have hEy:=hE y (List.mem_of_getElem? hy)
 obtain⟨b',vky,vny,vsy,aly,aky,ay,lly,cly,lky,cky,ny,ccy,eb,hcy,hby,hny,hzy,hcelly⟩:=hr.ten hy
 obtain rfl:b=b':=Option.some.inj eb
 have hncc:n≤cc:=by rw [←hn];exact hcy
 have hnb:n≤140737488351232:=by rw [←hn];exact hr.len
 obtain⟨ky,hky⟩:∃z,y.k=z:=⟨_,rfl⟩
 obtain⟨ty,hty⟩:∃z,y.t=z:=⟨_,rfl⟩
 obtain⟨fy,hfy⟩:∃z,y.f=z:=⟨_,rfl⟩
 obtain⟨py,hpy⟩:∃z,y.p=z:=⟨_,rfl⟩
 rw [hky,hty] at hzy hcelly ⊢
 rw [hfy,hpy] at hzy hcelly
 obtain⟨w1,hw1⟩:∃w1,w.alloc (.cells #[.int .i64 k,.string t,.int .i64 vk,.int .i64 vn,.string vs,.slice al ll cl,.slice ak lk ck,.bool f,.slice (some b) n cc,.int .i64 p] 28)=w1:=⟨_,rfl⟩
 obtain⟨G,hG⟩:∃G,w.heap.size=G:=⟨_,rfl⟩
 have A1:w1.heap[G]?=some (.cells #[.int .i64 k,.string t,.int .i64 vk,.int .i64 vn,.string vs,.slice al ll cl,.slice ak lk ck,.bool f,.slice (some b) n cc,.int .i64 p] 28 (0,0)):=by rw [←hw1,←hG];exact heap_alloc_new _ _
 have X1:Below G w w1:=by rw [←hw1,←hG];exact(Below.refl _ _).alloc (Nat.le_refl _) _
 have hBG:B0≤G:=by rw [←hG];exact hB
 have HM:Hid (∀u,Below G w u→IsN u (fun b=>b<B0) y [.int .i64 ky,.string ty,.int .i64 vky,.int .i64 vny,.string vsy,.slice aly lly cly,.slice aky lky cky,.bool fy,.slice ay ny ccy,.int .i64 py]∧PowAt u∧∀j v,([.int .i64 ky,.string ty,.int .i64 vky,.int .i64 vny,.string vsy,.slice aly lly cly,.slice aky lky cky,.bool fy,.slice ay ny ccy,.int .i64 py]:List Value)[j]?=some v→u.cell? ((b.add (i * 10)).add j)=some v):=hide (fun u h=>⟨hzy.laterB (h.mono hBG),hP.later h (by omega),fun j v hj=>(World.cell?_of_block (h.block _ (by rw [block_add,block_add];omega))).trans (hcelly j v hj)⟩)
 have CB:=hide (bracketed_any k vk vn p t vs al ak ll cl lk ck n cc f b ky vky vny py ty vsy aly aky ay lly cly lky cky ny ccy fy i w1 hi hncc hnb ((unhide HM) w1 X1).2.2)
 obtain⟨Q,hQ⟩:∃Q,brk k t ky ty i=Q:=⟨_,rfl⟩
 rw [hQ] at CB ⊢
 obtain⟨Z,hZ⟩:∃Z,exT y=Z:=⟨_,rfl⟩
 rw [hZ]
 have CE:Hid (∀u,Below G w u→B0≤u.heap.size→Calls Tryz.prog 23 #[.agg #[.int .i64 ky,.string ty,.int .i64 vky,.int .i64 vny,.string vsy,.slice aly lly cly,.slice aky lky cky,.bool fy,.slice ay ny ccy,.int .i64 py]] u fun e u'=>∃t,e=.returned t∧Txt B0 u' t Z∧Below u.heap.size u u'):=hide (fun u h1 h2=>by rw [←hZ];exact hEy _ u h2 hG0 ((unhide HM) u h1).2.1 ((unhide HM) u h1).1)
 have i2:(i:Int)<(n:Int):=by omega
 have HA:=hide A1
 have HX:=hide X1
 have HW:=hide hw1
 have HBG:=hide hBG
 clear A1 X1 hw1 hBG hB hr hn hG0 hP hE hEy hy hcy hby hny hzy hcelly hncc hnb hky hty hfy hpy hQ hZ eb
 go_enter Tryz.func45,Tryz.ntmps45
 go_upto_region 1 with fail
 rw [unhide HW]
 try rw [hG]
 clear HW
 obtain⟨x0,x1,x2,x3,x4,x5,x6,x7,x8,x9⟩:=row_ten (unhide HA)
 go_wp2_with fail
 refine(unhide CB).mono ?_
 rintro e w2 ⟨rfl,b2⟩
 have HA2:=hide (Below.cellsAt b2 (unhide HA))
 have HX2:=hide ((unhide HX).trans (b2.mono (Nat.le_of_lt (lt_of_row (unhide HA)))))
 have HB:=hide (show B0≤w2.heap.size from Nat.le_trans (unhide HBG) (by rw [←hG];exact(unhide HX2).size))
 have HGs:=hide (show G≤w2.heap.size from by rw [←hG];exact(unhide HX2).size)
 clear b2 CB x0 x1 x2 x3 x4 x5 x6 x7 x8 x9 HA HX
 have HF:Hid (∀u,Below w2.heap.size w2 u→u.cell? ⟨G,8,none⟩=some (.slice (some b) n cc)∧u.cell? (b.add (i * 10))=some (.int .i64 ky)∧u.cell? ⟨(b.add (i * 10)).block,(b.add (i * 10)).off+1,none⟩=some (.string ty)∧u.cell? ⟨(b.add (i * 10)).block,(b.add (i * 10)).off+2,none⟩=some (.int .i64 vky)∧u.cell? ⟨(b.add (i * 10)).block,(b.add (i * 10)).off+3,none⟩=some (.int .i64 vny)∧u.cell? ⟨(b.add (i * 10)).block,(b.add (i * 10)).off+4,none⟩=some (.string vsy)∧u.cell? ⟨(b.add (i * 10)).block,(b.add (i * 10)).off+5,none⟩=some (.slice aly lly cly)∧u.cell? ⟨(b.add (i * 10)).block,(b.add (i * 10)).off+6,none⟩=some (.slice aky lky cky)∧u.cell? ⟨(b.add (i * 10)).block,(b.add (i * 10)).off+7,none⟩=some (.bool fy)∧u.cell? ⟨(b.add (i * 10)).block,(b.add (i * 10)).off+8,none⟩=some (.slice ay ny ccy)∧u.cell? ⟨(b.add (i * 10)).block,(b.add (i * 10)).off+9,none⟩=some (.int .i64 py)):=hide (fun u hu=>⟨(row_ten (Below.cellsAt hu (unhide HA2))).2.2.2.2.2.2.2.2.1,((unhide HM) u ((unhide HX2).trans (hu.mono (unhide HGs)))).2.2 0 _ rfl,((unhide HM) u ((unhide HX2).trans (hu.mono (unhide HGs)))).2.2 1 _ rfl,((unhide HM) u ((unhide HX2).trans (hu.mono (unhide HGs)))).2.2 2 _ rfl,((unhide HM) u ((unhide HX2).trans (hu.mono (unhide HGs)))).2.2 3 _ rfl,((unhide HM) u ((unhide HX2).trans (hu.mono (unhide HGs)))).2.2 4 _ rfl,((unhide HM) u ((unhide HX2).trans (hu.mono (unhide HGs)))).2.2 5 _ rfl,((unhide HM) u ((unhide HX2).trans (hu.mono (unhide HGs)))).2.2 6 _ rfl,((unhide HM) u ((unhide HX2).trans (hu.mono (unhide HGs)))).2.2 7 _ rfl,((unhide HM) u ((unhide HX2).trans (hu.mono (unhide HGs)))).2.2 8 _ rfl,((unhide HM) u ((unhide HX2).trans (hu.mono (unhide HGs)))).2.2 9 _ rfl⟩)
 cases Q with
 |true=>
  go_upto_region 2 with fail
  have HS0:Hid (Below w2.heap.size w2 w2.drew):=hide ((Below.refl _ _).drew)
  refine till_begin (S:=fun w'=>Below w2.heap.size w2 w') 10 (by kernel_rfl) ?_
  obtain⟨W0,hW0⟩:∃W0,w2.drew=W0:=⟨_,rfl⟩
  try rw [hW0]
  rw [hW0] at HS0
  clear hW0
  refine till_take 1 (v:=.pointer (some ⟨G,8,none⟩)) (some 9) rfl rfl rfl (by kernel_rfl) (by kernel_rfl) (by kernel_rfl) (by kernel_rfl) (fun _ _ _ h=>h) (Or.inl ⟨by rfl,fun u hu=>by obtain⟨x8,y0,y1,y2,y3,y4,y5,y6,y7,y8,y9⟩:=unhide HF u hu;go_simp⟩) (unhide HS0) ?_
  try simp only [Act.put,List.setIfInBounds_toArray,List.set_cons_zero,List.set_cons_succ]
  refine till_take 2 (v:=.slice (some b) n cc) (some 10) rfl rfl rfl (by kernel_rfl) (by kernel_rfl) (by kernel_rfl) (by kernel_rfl) (fun _ _ _ h=>h) (Or.inl ⟨by rfl,fun u hu=>by obtain⟨x8,y0,y1,y2,y3,y4,y5,y6,y7,y8,y9⟩:=unhide HF u hu;go_simp⟩) (unhide HS0) ?_
  try simp only [Act.put,List.setIfInBounds_toArray,List.set_cons_zero,List.set_cons_succ]
  refine till_take 3 (v:=.int .i64 (i:Int)) (some 11) rfl rfl rfl (by kernel_rfl) (by kernel_rfl) (by kernel_rfl) (by kernel_rfl) (fun _ _ _ h=>h) (Or.inl ⟨by rfl,fun u hu=>by obtain⟨x8,y0,y1,y2,y3,y4,y5,y6,y7,y8,y9⟩:=unhide HF u hu;go_simp⟩) (unhide HS0) ?_
  try simp only [Act.put,List.setIfInBounds_toArray,List.set_cons_zero,List.set_cons_succ]
  refine till_take 4 (v:=.pointer (some (b.add (i * 10)))) (some 12) rfl rfl rfl (by kernel_rfl) (by kernel_rfl) (by kernel_rfl) (by kernel_rfl) (fun _ _ _ h=>h) (Or.inl ⟨by rfl,fun u hu=>by obtain⟨x8,y0,y1,y2,y3,y4,y5,y6,y7,y8,y9⟩:=unhide HF u hu;go_simp⟩) (unhide HS0) ?_
  try simp only [Act.put,List.setIfInBounds_toArray,List.set_cons_zero,List.set_cons_succ]
  refine till_take 5 (v:=.agg #[.int .i64 ky,.string ty,.int .i64 vky,.int .i64 vny,.string vsy,.slice aly lly cly,.slice aky lky cky,.bool fy,.slice ay ny ccy,.int .i64 py]) (some 13) rfl rfl rfl (by kernel_rfl) (by kernel_rfl) (by kernel_rfl) (by kernel_rfl) (fun _ _ _ h=>h) (Or.inl ⟨by rfl,fun u hu=>by obtain⟨x8,y0,y1,y2,y3,y4,y5,y6,y7,y8,y9⟩:=unhide HF u hu;go_simp⟩) (unhide HS0) ?_
  try simp only [Act.put,List.setIfInBounds_toArray,List.set_cons_zero,List.set_cons_succ]
  refine till_one 0 (by kernel_rfl) rfl (fun K hK=>?_)
  go_simp
  refine(txw_any B0 ⟨#[40]⟩ W0).mono ?_
  rintro e W1 ⟨t1,rfl,h,bb⟩
  have h0:=h
  obtain⟨F1,p1,rfl,-,-⟩:=h0
  have HT1_1:=hide h
  have HS1:=hide ((unhide HS0).trans (bb.mono (unhide HS0).size))
  clear bb h
  go_wp2_with fail
  refine hK.out _ _ (Or.inr (unhide HS1)) ?_
  clear hK K HS0
  try simp only [Act.put,List.setIfInBounds_toArray,List.set_cons_zero,List.set_cons_succ]
  refine till_one 6 (by kernel_rfl) rfl (fun K hK=>?_)
  go_simp
  refine((unhide CE) W1 ((unhide HX2).trans ((unhide HS1).mono (unhide HGs))) (Nat.le_trans (unhide HB) (unhide HS1).size)).mono ?_
  rintro e W2 ⟨t2,rfl,h,bb⟩
  have h0:=h
  obtain⟨F2,p2,rfl,-,-⟩:=h0
  have HT2_2:=hide h
  have HS2:=hide ((unhide HS1).trans (bb.mono (unhide HS1).size))
  have HT1_2:=hide ((unhide HT1_1).later (Kp.below bb (Nat.le_trans (unhide HB) (unhide HS1).size)))
  clear bb h HT1_1
  go_wp2_with fail
  refine hK.out _ _ (Or.inr (unhide HS2)) ?_
  clear hK K HS1
  try simp only [Act.put,List.setIfInBounds_toArray,List.set_cons_zero,List.set_cons_succ]
  refine till_one 7 (by kernel_rfl) rfl (fun K hK=>?_)
  go_simp
  refine(txw_any B0 ⟨#[41]⟩ W2).mono ?_
  rintro e W3 ⟨t3,rfl,h,bb⟩
  have h0:=h
  obtain⟨F3,p3,rfl,-,-⟩:=h0
  have HT3_3:=hide h
  have HS3:=hide ((unhide HS2).trans (bb.mono (unhide HS2).size))
  have HT1_3:=hide ((unhide HT1_2).later (Kp.below bb (Nat.le_trans (unhide HB) (unhide HS2).size)))
  have HT2_3:=hide ((unhide HT2_2).later (Kp.below bb (Nat.le_trans (unhide HB) (unhide HS2).size)))
  clear bb h HT1_2 HT2_2
  go_wp2_with fail
  refine hK.out _ _ (Or.inr (unhide HS3)) ?_
  clear hK K HS2
  try simp only [Act.put,List.setIfInBounds_toArray,List.set_cons_zero,List.set_cons_succ]
  obtain⟨W4,hW4⟩:∃W,W3.alloc (.cells #[.func (.func F1) #[] p1,.func (.func F2) #[] p2,.func (.func F3) #[] p3] 39)=W:=⟨_,rfl⟩
  obtain⟨q,hq⟩:∃q,W3.heap.size=q:=⟨_,rfl⟩
  have bb:Below W3.heap.size W3 W4:=by rw [←hW4];exact(Below.refl _ _).alloc (Nat.le_refl _) _
  have HX4:=hide (show Txs B0 W4 q _ from txs3 (by rw [←hW4,←hq];exact heap_alloc_new _ _) ((unhide HT1_3).later (Kp.below bb (Nat.le_trans (unhide HB) (unhide HS3).size))) ((unhide HT2_3).later (Kp.below bb (Nat.le_trans (unhide HB) (unhide HS3).size))) ((unhide HT3_3).later (Kp.below bb (Nat.le_trans (unhide HB) (unhide HS3).size))))
  have HS4:=hide ((unhide HS3).trans (bb.mono (unhide HS3).size))
  clear bb HT1_3 HT2_3 HT3_3
  refine till_one 8 (by kernel_rfl) rfl (fun K hK=>?_)
  go_simp
  try rw [hW4]
  try rw [hq]
  refine hK.out _ _ (Or.inr (unhide HS4)) ?_
  clear hK K HS3 hW4 hq
  try simp only [Act.put,List.setIfInBounds_toArray,List.set_cons_zero,List.set_cons_succ]
  refine till_one 9 (by kernel_rfl) rfl (fun K hK=>?_)
  go_simp
  refine(row_any B0 q 3 3 _ W4 (Nat.le_trans (unhide HB) (unhide HS4).size) (unhide HX4) rfl (by decide)).mono ?_
  rintro e W5 ⟨tr,rfl,h,bb⟩
  have h0:=h
  obtain⟨Fr,pr,rfl,-,-⟩:=h0
  have HT:=hide h
  have HS5:=hide ((unhide HS4).trans (bb.mono (unhide HS4).size))
  clear bb h HX4
  go_wp2_with fail
  refine hK.out _ _ (Or.inr (unhide HS5)) ?_
  clear hK K HS4
  try simp only [Act.put,List.setIfInBounds_toArray,List.set_cons_zero,List.set_cons_succ]
  refine till_one 10 (by kernel_rfl) rfl (fun K hK=>?_)
  go_simp
  refine hK.out _ _ (Or.inl (by first|rfl|trivial)) ?_
  clear hK K
  try simp only [Act.put,List.setIfInBounds_toArray,List.set_cons_zero,List.set_cons_succ]
  refine till_done (by kernel_rfl) ?_ _
  go_wp2_with fail
  go_ret
  refine⟨_,rfl,?_,?_⟩
  ·have:=unhide HT
   simpa using this
  ·have:=(unhide HX2).trans ((unhide HS5).mono (unhide HGs))
   first|exact this|(rw [hG];exact this)
 |false=>
  obtain⟨x8,y0,y1,y2,y3,y4,y5,y6,y7,y8,y9⟩:=unhide HF w2 (Below.refl _ _)
  have C2:=hide ((unhide CE) w2 (unhide HX2) (unhide HB))
  go_wp2_with fail
  refine(unhide C2).mono ?_
  rintro e w3 ⟨t3,rfl,h3,b3⟩
  have H3:=hide (And.intro h3 ((unhide HX2).trans (b3.mono (unhide HGs))))
  obtain⟨F3,p3,rfl,-,-⟩:=h3
  clear b3 C2 x8 y0 y1 y2 y3 y4 y5 y6 y7 y8 y9
  go_wp2_with fail
  go_ret
  exact⟨_,rfl,by first|exact(unhide H3).1|(rw [if_neg (by simp)];exact(unhide H3).1),by first|exact(unhide H3).2|(rw [hG];exact(unhide H3).2)⟩
end Go.Proofs.YtekbmfppfjlboaaGreatDoor
