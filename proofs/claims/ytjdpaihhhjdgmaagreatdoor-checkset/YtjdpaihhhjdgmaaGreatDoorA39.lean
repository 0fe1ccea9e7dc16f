/-
  Layer 17 (parse): a row of nodes grows; fields of a token in a drawn region; no conditions.
  Layer 17 (parse): blocks; conditions: the reader's state.
  Layer 17 (parse): the state while a function without a box for its result runs; no conditions.
-/
import Derived.Test.YtjdpaihhhjdgmaaGreatDoorA33
import Derived.Test.YtjdpaihhhjdgmaaGreatDoorA38
import Derived.Deep.AppendLies
import Derived.Deep.LoopGhost
set_option linter.unusedVariables false
set_option linter.unusedSimpArgs false
set_option maxRecDepth 100000
set_option maxHeartbeats 8000000
namespace Go.Proofs.YtjdpaihhhjdgmaaGreatDoor
open Go.RowKit
set_option linter.unusedVariables false
set_option linter.unusedSimpArgs false
theorem infoNd:(Tryz.prog.info? 28).map (fun i=>(i.zero,i.size,i.bytes))=some (some (.agg #[.int .i64 0,.string ⟨#[]⟩,.int .i64 0,.int .i64 0,.string ⟨#[]⟩,.slice none 0 0,.slice none 0 0,.bool false,.slice none 0 0,.int .i64 0]),10,144):=by kernel_rfl
theorem info_nd:∃i,Tryz.prog.info? 28=some i∧i.zero=some (.agg #[.int .i64 0,.string ⟨#[]⟩,.int .i64 0,.int .i64 0,.string ⟨#[]⟩,.slice none 0 0,.slice none 0 0,.bool false,.slice none 0 0,.int .i64 0])∧i.size=10∧i.bytes=144:=by
 obtain⟨i,hi,he⟩:=Option.map_eq_some_iff.1 infoNd
 injection he with h1 h2
 injection h2 with h2 h3
 exact⟨i,hi,h1,h2,h3⟩
theorem Kr.push {lo lo2:Nat} {u u':World} {ks ns:List Nd} {v:Value} {C C2:List Value} {S S2:List Nat} {g cap m:Nat} (h:Kr lo u ks v C S) (h2:NdOk lo2 u ns C2 S2) (hll:lo≤lo2) (hS:∀b∈S,b<lo2) (hv:∀b,v.ownBlock=some b→b<lo2)
  (ho:u'.ownsRow lo 28 10 (.slice (some ⟨g,0,none⟩) m cap) m (C++C2)) (hm:(ks++ns).length=m) (hg:u.grownBy u' v.ownBlock) (hat:v.ownBlock=some g∨g=u.heap.size):Kr lo u' (ks++ns) (.slice (some ⟨g,0,none⟩) m cap) (C++C2) (S++S2):=by
 have k1:NdOk lo u' ks C S:=h.ok.to (fun b _ hb hm=>hg.block b hb (fun e=>h.apart b e.symm hm)) hg.size
 have k2:NdOk lo2 u' ns C2 S2:=h2.to (fun b hb1 hb _=>hg.block b hb (fun e=>by have:=hv b e.symm;omega)) hg.size
 refine⟨by rw [hm];exact ho,k1.app hS k2 hll,fun b hb hmem=>?_⟩
 have hbg:b=g:=by
  have:g=b:=by simpa [Value.ownBlock] using hb
  exact this.symm
 subst hbg
 rcases hat with hat|hat
 ·rcases List.mem_append.1 hmem with hx|hx
  ·exact h.apart b hat hx
  ·have:=hv b hat
   have:=(h2.rg b hx).1
   omega
 ·rcases List.mem_append.1 hmem with hx|hx
  ·have:=(h.ok.rg b hx).2
   omega
  ·have:=(h2.rg b hx).2
   omega
theorem Kr.vlt {lo q:Nat} {w:World} {ks:List Nd} {v:Value} {C:List Value} {S:List Nat} (h:Kr lo w ks v C S) (hq:w.heap.size=q):(∀b,v.ownBlock=some b→b<q)∧∀b∈S,b<q:=
 ⟨fun b hb=>by rw [←hq];exact(h.own.lt b hb).2,fun b hb=>by rw [←hq];exact(h.ok.rg b hb).2⟩
theorem PJ_fuel {f j x d:Nat} {acc:List Nd} {l:List Tk} {r:Rs (List Nd)} (h:PJ f j x acc l d=some r):∃g,f=g+1:=by
 cases f with
 |zero=>cases h
 |succ g=>exact⟨g,rfl⟩
theorem step_tk3 {ops:Array Oper} {o:Oper} {a:Act} {w:World} {K:Act→World→Prop} {Q:Exit→Act→World→Prop} {E:Prop} (hgd:o.guard=none) (x:Operand) (ho:o.op=.field 85 x 3) (y0 y1 y2 y3:Value) (hx:a.eval x=.agg #[y0,y1,y2,y3]) (h:K (a.put o.dst y3) w) :
  if Region.wanted o (yielded ops a.tmps)=true then Oper.wp Tryz.prog o a w K Q else E:=by
 have hw:Region.wanted o (yielded ops a.tmps)=true:=by simp [Region.wanted,hgd]
 rw [if_pos hw]
 have hr:=run_tk3 y0 y1 y2 y3 w
 unfold Oper.wp
 simp [execOp,ho,hx,hr,Result.andThen]
 exact h
theorem step_tk1 {ops:Array Oper} {o:Oper} {a:Act} {w:World} {K:Act→World→Prop} {Q:Exit→Act→World→Prop} {E:Prop} (hgd:o.guard=none) (x:Operand) (ho:o.op=.field 85 x 1) (y0 y1 y2 y3:Value) (hx:a.eval x=.agg #[y0,y1,y2,y3]) (h:K (a.put o.dst y1) w) :
  if Region.wanted o (yielded ops a.tmps)=true then Oper.wp Tryz.prog o a w K Q else E:=by
 have hw:Region.wanted o (yielded ops a.tmps)=true:=by simp [Region.wanted,hgd]
 rw [if_pos hw]
 have hr:=run_tk1 y0 y1 y2 y3 w
 unfold Oper.wp
 simp [execOp,ho,hx,hr,Result.andThen]
 exact h
theorem Rd.two {w w':World} {c:Cx} {l:List Tk} {d:Nat} (h:Rd w c l d) (hg:w'.heap[c.g]?=w.heap[c.g]?) (ht:w'.heap[c.tb]?=w.heap[c.tb]?) (hs:w.heap.size≤w'.heap.size):Rd w' c l d:=by
 refine⟨hg.trans h.box,h.suf,h.ne,fun i t hti=>?_,h.apart,h.cap,h.len,h.low,h.fin⟩
 obtain⟨b,e,h1,h2,h3,h4,h5⟩:=h.row i t hti
 injection e with e0
 injection e0 with e0
 subst e0
 exact⟨c.tb,rfl,Nat.lt_of_lt_of_le h1 hs,(World.cell?_of_block ht).trans h2,(World.cell?_of_block ht).trans h3,(World.cell?_of_block ht).trans h4,(World.cell?_of_block ht).trans h5⟩
theorem St.below2 {w:World} {c:Cx} {T:TypeId} {z:Array Value} {u u':World} {l:List Tk} {d B:Nat} (h:St w c T z u l d) (b:Below B u u') (hB:w.heap.size<B):St w c T z u' l d:=
 ⟨h.rd.two (b.block _ (by have:=h.g1;omega)) (b.block _ (by have:=h.t1;omega)) b.size,⟨b.os.trans h.bs.os,b.tape.trans h.bs.tape,b.output.trans h.bs.output,Nat.le_trans h.bs.size b.size,fun k hk hn=>(b.block k (by omega)).trans (h.bs.block k hk hn)⟩,(b.block _ hB).trans h.bx,h.g1,h.t1⟩
theorem ndC_one (k:Nat) (t:List UInt8) (vk vn:Nat) (vs:List UInt8) (f:Bool) (n:Nat) (ak:Option Addr) (ck p:Nat):∀u∈ndC k t vk vn vs f n ak ck p,u.oneCell'=true:=by
 intro u hu
 simp only [ndC,List.mem_cons,List.not_mem_nil,or_false] at hu
 rcases hu with rfl|rfl|rfl|rfl|rfl|rfl|rfl|rfl|rfl|rfl <;> rfl
theorem block_step {c:Cx} {l:List Tk} {d:Nat} {w:World} {r:Rs (List Nd)} {f:Nat} (ihs:∀{f1:Nat},f1≤f→∀{c:Cx} {l:List Tk} {d:Nat} {w:World} {r:Rs (List Nd)},PJ f1 9 0 [] l d=some r→Rd w c l d→Calls Tryz.prog 113 #[.pointer (some ⟨c.g,0,none⟩)] w fun e w'=>NdP c w d r e w') (hJ:PJ (f+1) 10 0 [] l d=some r) (h:Rd w c l d) :
  Calls Tryz.prog 80 #[.pointer (some ⟨c.g,0,none⟩)] w fun e w'=>NdP c w d r e w':=by
 have S1:=hZ (St.start h 28 #[.int .i64 0,.string ⟨#[]⟩,.int .i64 0,.int .i64 0,.string ⟨#[]⟩,.slice none 0 0,.slice none 0 0,.bool false,.slice none 0 0,.int .i64 0])
 obtain⟨w1,hw1⟩:=eX (w.alloc (.cells #[.int .i64 0,.string ⟨#[]⟩,.int .i64 0,.int .i64 0,.string ⟨#[]⟩,.slice none 0 0,.slice none 0 0,.bool false,.slice none 0 0,.int .i64 0] 28))
 rw [hw1] at S1
 obtain⟨G,hG⟩:=eX (w.heap.size)
 have hgw:c.g<w.heap.size:=h.cells.2.2.2.2.2
 clear h
 go_enter Tryz.func80,Tryz.ntmps80
 have HJ0:=hZ (show jBlock (PJ f) l d=some r from hJ)
 clear hJ
 have HJ1:=hZ ((by have:=uZ HJ0;unfold jBlock at this;exact this))
 clear HJ0
 by_cases hb:isS [123] l=true
 ·have hq:isS [123] l=true:=by simpa using hb
  have hlw:=(uZ S1).rd.low
  by_cases hd:d<24
  ·have HJ2:=hZ (thn_en hq hd (uZ HJ1))
   clear HJ1
   have CC:=hZ (ent_ok (uZ S1).rd [123] hq hd)
   go_wp2_with fail
   refine(uZ CC).mono ?_
   rintro e w2 ⟨rfl,r2,b⟩
   have S2:=hZ ((uZ S1).go b r2)
   clear b r2 CC S1
   go_upto_region 2 with (first|(refine wpl_tk3 rfl _ rfl _ _ _ _ rfl ?_)|(refine wpl_tk1 rfl _ rfl _ _ _ _ rfl ?_)|(refine wpl_tk0 rfl _ rfl _ _ _ _ rfl ?_))
   obtain⟨w3,hw⟩:=eX (w2.alloc (.cells #[.int .i64 4,.string ⟨#[]⟩,.int .i64 0,.int .i64 0,.string ⟨#[]⟩,.slice none 0 0,.slice none 0 0,.bool false,.slice none 0 0,.int .i64 ((hdT l).p:Int)] 28))
   have b:=alB hw
   obtain⟨Q,hQ⟩:=eX (w2.heap.size)
   have HBQ_3:Hid (w3.heap[Q]?=some (.cells #[.int .i64 4,.string ⟨#[]⟩,.int .i64 0,.int .i64 0,.string ⟨#[]⟩,.slice none 0 0,.slice none 0 0,.bool false,.slice none 0 0,.int .i64 ((hdT l).p:Int)] 28 (0,0))):=hZ (by rw [←hw,←hQ];exact heap_alloc_new _ _)
   have S3:=hZ ((uZ S2).below b)
   have ltQ:w.heap.size<Q:=by rw [←hQ];exact(uZ S2).lt
   rw [hw]
   try rw [hQ]
   clear hw hQ b S2
   obtain⟨Y,hY,hth⟩:=bnd_some (uZ HJ2)
   have HJ3:=hZ (hth)
   clear HJ2
   clear hth
   have HKa_3:Hid (Kr (Q+1) w3 [] (.slice none 0 0) [] []):=hZ (Kr.nil (Array.getElem?_eq_some_iff.1 (uZ HBQ_3)).1)
   have HY:=hZ hY
   clear hY
   have hlt:=((uZ S3).rd).head
   have hln:=((uZ S3).rd).len
   have hnl:l.tail.length≤10000:=by have:=hlt.2.2;omega
   clear hlt hln
   go_wp2_with fail
   go_loopg [] f (fun gk wr=>∃(acc:List Nd) (la:List Tk) (na:Nat) (ak:Option Addr) (ck:Nat) (C:List Value) (Sa:List Nat),Hid (gk≤f∧PJ gk 11 0 acc la (d+1)=some Y∧acc.length=na∧na+la.length≤10000)∧Hid (St w c 28 #[.int .i64 0,.string ⟨#[]⟩,.int .i64 0,.int .i64 0,.string ⟨#[]⟩,.slice none 0 0,.slice none 0 0,.bool false,.slice none 0 0,.int .i64 0] wr la (d+1)∧wr.heap[Q]?=some (.cells #[.int .i64 4,.string ⟨#[]⟩,.int .i64 0,.int .i64 0,.string ⟨#[]⟩,.slice none 0 0,.slice none 0 0,.bool false,.slice ak na ck,.int .i64 ((hdT l).p:Int)] 28 (0,0))∧Kr (Q+1) wr acc (.slice ak na ck) C Sa))
   case atStart=>exact⟨[],l.tail,0,none,0,[],[],hZ ⟨Nat.le_refl _,uZ HY,rfl,by omega⟩,hZ ⟨uZ S3,uZ HBQ_3,uZ HKa_3⟩⟩
   case round=>
    clear HY HKa_3 S3 HBQ_3
    obtain⟨acc,la,na,ak,ck,Ca,Sa,HA,HI⟩:=hrel
    obtain⟨w50,hw50⟩:∃zz,zz=wr:=⟨_,rfl⟩
    subst hw50
    have S50:=hZ (uZ HI).1
    have HBQ_50:=hZ (uZ HI).2.1
    have HKa_50:=hZ (uZ HI).2.2
    obtain⟨g1,hg1⟩:=PJ_fuel (uZ HA).2.1
    subst hg1
    have HJ60:=hZ (show jBlL (PJ g1) acc la (d+1)=some Y from (uZ HA).2.1)
    have hlna:=(uZ HA).2.2.1
    have hbna:=(uZ HA).2.2.2
    have hgf:=(uZ HA).1
    clear HI HA
    have HJ61:=hZ ((by have:=uZ HJ60;unfold jBlL at this;exact this))
    clear HJ60
    by_cases hb:isS [125] la=true
    ·have hq:isS [125] la=true:=by simpa using hb
     have CC:=hZ ((by have:=seesSign_any (uZ S50).rd [125];rw [hq] at this;exact this))
     go_wp2_with fail
     refine(uZ CC).mono ?_
     rintro e w51 ⟨rfl,b⟩
     have S51:=hZ ((uZ S50).below b)
     have HBQ_51:=bx_be HBQ_50 b
     have HKa_51:=hZ ((uZ HKa_50).beside (Beside.of_below (gr:=c.g) b) (by omega))
     clear b CC S50 HBQ_50 HKa_50
     have HJ62:=hZ ((by have:=(uZ HJ61);rw [if_pos hq] at this;exact this))
     clear HJ61
     have HY2:=hZ (okN_some (uZ HJ62))
     have HJ90:=hZ (by have:=uZ HJ3;rw [uZ HY2] at this;exact this)
     by_cases hb:isS [125] la=true
     ·have hq:isS [125] la=true:=by simpa using hb
      have HJ91:=hZ (thn_sg hq (uZ HJ90))
      clear HJ90
      have CC:=hZ (leave_ok (uZ S51).rd [125] hq)
      go_wp2_with fail
      refine(uZ CC).mono ?_
      rintro e w52 ⟨rfl,r2,b⟩
      have S52:=hZ ((uZ S51).go b r2)
      have HBQ_52:=bx_go HBQ_51 b (by omega)
      have HKa_52:=hZ ((uZ HKa_51).beside b (by omega))
      clear b r2 CC S51 HBQ_51 HKa_51
      have hr1:=okN_some (uZ HJ91)
      have hnn:=(uZ HKa_52).node' hlna 4 [] 0 0 [] false (hdT l).p
      have HR:=hZ (hr1)
      have BX:=(uZ S52).bx
      rw [hG] at BX
      obtain⟨g0,g1,g2,g3,g4,g5,g6,g7,g8,g9⟩:=row_cell10 BX
      obtain⟨z0,z1,z2,z3,z4,z5,z6,z7,z8,z9⟩:=frozen10 BX
      clear BX
      obtain⟨Qc0,Qc1,Qc2,Qc3,Qc4,Qc5,Qc6,Qc7,Qc8,Qc9⟩:=row_cell10 (uZ HBQ_52)
      have FF:=hZ (St.done (uZ S52) (hnn.low (by omega)) rfl hG)
      go_wp2_with fail
      refine rtN (p:=2) rfl rfl (uZ FF).1 rfl rfl ?_
      rw [uZ HR]
      exact(uZ FF).2
     ·have hq:isS [125] la=false:=by simpa using hb
      have CC:=hZ (leave_bad (uZ S51).rd [125] hq)
      have HR:=hZ (thn_sgb hq (uZ HJ90))
      go_wp2_with fail
      refine(uZ CC).mono ?_
      rintro e wx ⟨rfl,b⟩
      have HX:=hZ ((uZ S51).bad b)
      clear b CC
      unfold fltP
      go_wp2_with fail
      exact⟨rfl,by rw [uZ HR];exact⟨rfl,uZ HX⟩⟩
    ·have hq:isS [125] la=false:=by simpa using hb
     have CC:=hZ ((by have:=seesSign_any (uZ S50).rd [125];rw [hq] at this;exact this))
     go_wp2_with fail
     refine(uZ CC).mono ?_
     rintro e w51 ⟨rfl,b⟩
     have S51:=hZ ((uZ S50).below b)
     have HBQ_51:=bx_be HBQ_50 b
     have HKa_51:=hZ ((uZ HKa_50).beside (Beside.of_below (gr:=c.g) b) (by omega))
     clear b CC S50 HBQ_50 HKa_50
     have HJ62:=hZ ((by have:=(uZ HJ61);rw [if_neg (by rw [hq];decide)] at this;exact this))
     clear HJ61
     go_upto_region 3 with fail
     obtain⟨-,-,-,-,-,-,-,-,Qc8,-⟩:=row_cell10 (uZ HBQ_51)
     have HS0:Hid (w51.drew.cell? ⟨Q,8,none⟩=some (.slice ak na ck)):=hZ (Qc8)
     refine till_begin (S:=fun w'=>w'.cell? ⟨Q,8,none⟩=some (.slice ak na ck)) 7 (by kernel_rfl) ?_
     obtain⟨w52,hWD⟩:=eX (w51.drew)
     have bD:Below w51.heap.size w51 w52:=by rw [←hWD];exact(Below.refl _ _).drew
     rw [hWD] at HS0
     rw [hWD]
     have S52:=hZ ((uZ S51).below bD)
     have HBQ_52:=bx_be HBQ_51 bD
     have HKa_52:=hZ ((uZ HKa_51).beside (Beside.of_below (gr:=c.g) bD) (by omega))
     clear hWD bD S51 HBQ_51 HKa_51
     clear Qc8
     refine tK 0 (v:=.pointer (some ⟨Q,8,none⟩)) (some 11) rfl rfl rfl (by kernel_rfl) (fun _ _ _ h=>h) (Or.inl ⟨by rfl,fun u hu=>by obtain b0:=hu;go_simp⟩) (uZ HS0) ?_
     try simp only [Act.put,sA,sB,sC]
     refine tK 1 (v:=.slice ak na ck) (some 12) rfl rfl rfl (by kernel_rfl) (fun _ _ _ h=>h) (Or.inl ⟨by rfl,fun u hu=>by obtain b0:=hu;go_simp⟩) (uZ HS0) ?_
     try simp only [Act.put,sA,sB,sC]
     refine tK 2 (v:=.pointer (some ⟨c.g,0,none⟩)) (some 13) rfl rfl rfl (by kernel_rfl) (fun _ _ _ h=>h) (Or.inl ⟨by rfl,fun u hu=>by obtain b0:=hu;go_simp⟩) (uZ HS0) ?_
     try simp only [Act.put,sA,sB,sC]
     obtain⟨yx,hy,hth⟩:=bnd_some (uZ HJ62)
     have HJ63:=hZ (hth)
     clear HJ62
     clear hth
     have CR:=hZ (ihs (f1:=g1) (by omega) hy (uZ S52).rd)
     have HYX:=hZ hy
     clear hy
     rcases yx with ⟨ea,ep⟩|⟨nsx,lx⟩
     ·have HR:=hZ ((by have hy:=thn_err (uZ HJ63);have ho:=uZ HJ3;rw [hy] at ho;exact thn_err ho))
      refine till_one 3 (by kernel_rfl) rfl (fun K hK=>?_)
      go_simp
      refine(uZ CR).mono ?_
      rintro e wx ⟨rfl,b⟩
      have HX:=hZ ((uZ S52).bad b)
      clear b CR
      unfold fltP
      go_wp2_with fail
      exact⟨rfl,by rw [uZ HR];exact⟨rfl,uZ HX⟩⟩
     ·have HJ64:=hZ (thn_ok (uZ HJ63))
      clear HJ63
      refine till_one 3 (by kernel_rfl) rfl (fun K hK=>?_)
      go_simp
      refine(uZ CR).mono ?_
      rintro e w53 ⟨kx,tx,vkx,vnx,vsx,fx,nx,akx,ckx,px,Zx,rfl,hlx,hn,r2,b⟩
      have S53:=hZ ((uZ S52).go b r2)
      have HBQ_53:=bx_go HBQ_52 b (by omega)
      have HKa_53:=hZ ((uZ HKa_52).beside b (by omega))
      obtain⟨lox,hlo⟩:=eX (w52.heap.size)
      have ltlox:w.heap.size<lox:=by rw [←hlo];exact(uZ S52).lt
      have lqQ_x:Q<lox:=by rw [←hlo];exact(Array.getElem?_eq_some_iff.1 (uZ HBQ_52)).1
      have HWa_x:=hZ ((uZ HKa_52).vlt hlo)
      have lea_x:=(uZ HKa_52).ok.le
      rw [hlo] at lea_x
      rw [hlo] at hn
      have HNx_53:=hZ hn
      clear hlo b r2 hn CR S52 HBQ_52 HKa_52
      clear HS0
      have HS0:Hid (w53.cell? ⟨Q,8,none⟩=some (.slice ak na ck)):=hZ (by exact(row_cell10 (uZ HBQ_53)).2.2.2.2.2.2.2.2.1)
      go_wp2_with fail
      refine hK.out _ _ (Or.inr (uZ HS0)) ?_
      clear hK K
      try simp only [Act.put,sA,sB,sC]
      obtain⟨w54,hwr⟩:=eX (w53.alloc (.cells #[.int .i64 (kx:Int),.string (bA tx),.int .i64 (vkx:Int),.int .i64 (vnx:Int),.string (bA vsx),.slice none 0 0,.slice none 0 0,.bool fx,.slice akx nx ckx,.int .i64 (px:Int)] 28))
      have b:=alB hwr
      obtain⟨hx,hhx⟩:=eX (w53.heap.size)
      have at4:Hid (w54.heap[hx]?=some (.cells #[.int .i64 (kx:Int),.string (bA tx),.int .i64 (vkx:Int),.int .i64 (vnx:Int),.string (bA vsx),.slice none 0 0,.slice none 0 0,.bool fx,.slice akx nx ckx,.int .i64 (px:Int)] 28 (0,0))):=hZ (by rw [←hwr,←hhx];exact heap_alloc_new _ _)
      have S54:=hZ ((uZ S53).below b)
      have HBQ_54:=bx_be HBQ_53 b
      have HKa_54:=hZ ((uZ HKa_53).beside (Beside.of_below (gr:=c.g) b) (by omega))
      have HNx_54:=hZ ((uZ HNx_53).beside (Beside.of_below (gr:=c.g) b) (by omega))
      clear b S53 HBQ_53 HKa_53 HNx_53
      refine till_one 4 (by kernel_rfl) rfl (fun K hK=>?_)
      go_simp
      try rw [hwr]
      try rw [hhx]
      clear HS0
      have HS0:Hid (w54.cell? ⟨Q,8,none⟩=some (.slice ak na ck)):=hZ (by exact(row_cell10 (uZ HBQ_54)).2.2.2.2.2.2.2.2.1)
      refine hK.out _ _ (Or.inr (uZ HS0)) ?_
      clear hK K hwr hhx
      try simp only [Act.put,sA,sB,sC]
      obtain⟨ind,hi0,hi1,hi2,hi3⟩:=info_nd
      have hkl:=(uZ HKa_54).own
      rw [hlna] at hkl
      have HKL:=hZ hkl
      clear hkl
      refine till_one 5 (by kernel_rfl) rfl (fun K hK=>?_)
      refine step_append_lies _ (by rfl) _ _ 26 (by rfl) (Q+1) 28 ind _ 10 144 Tryz.underlying26 hi0 hi1 hi2 hi3 rfl (by omega) (.slice ak na ck) (na) _ (by rfl) (uZ HKL) ⟨hx,0,none⟩ 1 1 [.int .i64 (kx:Int),.string (bA tx),.int .i64 (vkx:Int),.int .i64 (vnx:Int),.string (bA vsx),.slice none 0 0,.slice none 0 0,.bool fx,.slice akx nx ckx,.int .i64 (px:Int)] (by rfl) (by rfl) (World.news_of_block (uZ at4)) (ndC_one _ _ _ _ _ _ _ _ _ _) (by omega) (by unfold maxLen;have:=hbna;omega) (by have:=hbna;omega) (uZ HKa_54).ok.le _ rfl ?_
      intro g5 cap5 w55 hown5 hgrow5 hat5 hlt5
      change K (Act.put _ (some 16) _) w55
      clear hi0 hi1 hi2 hi3 HKL ind at4
      have hne:∀x,x<(Q+1)→some x≠(.slice ak na ck:Value).ownBlock:=fun x hx e=>by have:=((uZ HKa_54).own.lt x e.symm).1;omega
      have bb:Below (Q+1) w54 w55:=(Below.refl _ _).grown hgrow5 (uZ HKa_54).ok.le (fun x hx=>((uZ HKa_54).own.lt x hx).1)
      have S55:=hZ ((uZ S54).below2 bb (by omega))
      have HBQ_55:Hid (w55.heap[Q]?=some (.cells #[.int .i64 4,.string ⟨#[]⟩,.int .i64 0,.int .i64 0,.string ⟨#[]⟩,.slice none 0 0,.slice none 0 0,.bool false,.slice ak na ck,.int .i64 ((hdT l).p:Int)] 28 (0,0))):=hZ ((bb.block Q (by omega)).trans (uZ HBQ_54))
      have HKn_55:=hZ (Kr.push (uZ HKa_54) (uZ HNx_54) (by omega) (uZ HWa_x).2 (uZ HWa_x).1 hown5 (by rw [List.length_append,hlx,hlna]) hgrow5 hat5)
      clear bb hne hown5 hgrow5 hat5 hlt5 HS0 S54 HBQ_54 HKa_54 HNx_54
      have HS0:Hid (w55.cell? ⟨Q,8,none⟩=some (.slice ak na ck)):=hZ (by exact(row_cell10 (uZ HBQ_55)).2.2.2.2.2.2.2.2.1)
      refine hK.out _ _ (Or.inr (uZ HS0)) ?_
      clear hK K
      try simp only [Act.put,sA,sB,sC]
      refine tK 6 (v:=.pointer (some ⟨Q,8,none⟩)) (some 17) rfl rfl rfl (by kernel_rfl) (fun _ _ _ h=>h) (Or.inl ⟨by rfl,fun u hu=>by obtain b0:=hu;go_simp⟩) (uZ HS0) ?_
      try simp only [Act.put,sA,sB,sC]
      obtain⟨-,-,-,-,-,-,-,-,g8,-⟩:=row_cell10 (uZ HBQ_55)
      have z8:=frozen_of_row w55 Q 8 _ _ (uZ HBQ_55)
      refine till_one 7 (by kernel_rfl) rfl (fun K hK=>?_)
      go_simp
      refine hK.out _ _ (Or.inl (by first|rfl|trivial)) ?_
      clear hK K HS0 g8 z8
      try simp only [Act.put,sA,sB,sC]
      refine till_done (by kernel_rfl) ?_ _
      obtain⟨w56,hw⟩:=eX (w55.setCell ⟨Q,8,none⟩ (.slice (some ⟨g5,0,none⟩) (na+1) cap5))
      have HBQ_56:Hid (w56.heap[Q]?=some (.cells #[.int .i64 4,.string ⟨#[]⟩,.int .i64 0,.int .i64 0,.string ⟨#[]⟩,.slice none 0 0,.slice none 0 0,.bool false,.slice (some ⟨g5,0,none⟩) (na+1) cap5,.int .i64 ((hdT l).p:Int)] 28 (0,0))):=hZ (by rw [←hw,heap_setCell_same w55 Q 8 _ _ _ (uZ HBQ_55)];rfl)
      have S56:Hid (St w c 28 #[.int .i64 0,.string ⟨#[]⟩,.int .i64 0,.int .i64 0,.string ⟨#[]⟩,.slice none 0 0,.slice none 0 0,.bool false,.slice none 0 0,.int .i64 0] w56 lx (d+1)):=hZ (by rw [←hw];exact(uZ S55).own Q 8 _ ltQ)
      have HKn_56:=hZ ((uZ HKn_55).but (q:=Q) (w':=w56) (fun b _ hb=>by rw [←hw];exact heap_setCell_other _ _ _ _ hb) (by rw [←hw];simp) (by omega))
      rw [hw]
      clear hw S55 HBQ_55 HKn_55
      have hpl:=PJ_len g1 9 0 [] la (d+1) nsx lx ⟨by decide,by omega⟩ (uZ HYX)
      simp only [twoJ,List.length_nil,reduceIte,Nat.reduceEqDiff] at hpl
      go_wp2_with fail
      go_roundg g1
      case measure=>omega
      case rel=>exact⟨acc++nsx,lx,na+1,some ⟨g5,0,none⟩,cap5,_,_,hZ ⟨by omega,(uZ HJ64),by rw [List.length_append,hlx,hlna],by omega⟩,hZ ⟨uZ S56,uZ HBQ_56,uZ HKn_56⟩⟩
  ·have CC:=hZ (ent_deep (uZ S1).rd [123] hq (show d=24 by omega))
   have HR:=hZ (thn_end hq (show d=24 by omega) (uZ HJ1))
   go_wp2_with fail
   refine(uZ CC).mono ?_
   rintro e wx ⟨rfl,b⟩
   have HX:=hZ ((uZ S1).bad b)
   clear b CC
   unfold fltP
   go_wp2_with fail
   exact⟨rfl,by rw [uZ HR];exact⟨rfl,uZ HX⟩⟩
 ·have hq:isS [123] l=false:=by simpa using hb
  have CC:=hZ (ent_bad (uZ S1).rd [123] hq)
  have HR:=hZ (thn_enb hq (uZ HJ1))
  go_wp2_with fail
  refine(uZ CC).mono ?_
  rintro e wx ⟨rfl,b⟩
  have HX:=hZ ((uZ S1).bad b)
  clear b CC
  unfold fltP
  go_wp2_with fail
  exact⟨rfl,by rw [uZ HR];exact⟨rfl,uZ HX⟩⟩
structure St0 (w:World) (c:Cx) (u:World) (l:List Tk) (d:Nat):Prop where
 rd:Rd u c l d
 bs:Beside c.g w u
 g1:c.g<w.heap.size
 t1:c.tb<w.heap.size
theorem St0.start {w w1:World} {c:Cx} {l:List Tk} {d:Nat} (e:w=w1) (h:Rd w1 c l d):St0 w c w1 l d:=by
 subst e
 exact⟨h,Beside.refl _ _,h.cells.2.2.2.2.2,h.tok.1⟩
theorem St0.lt {w:World} {c:Cx} {u:World} {l:List Tk} {d:Nat} (h:St0 w c u l d):w.heap.size≤u.heap.size:=h.bs.size
theorem St0.go {w:World} {c:Cx} {u u':World} {l l':List Tk} {d d':Nat} (h:St0 w c u l d) (b:Beside c.g u u') (r:Rd u' c l' d'):St0 w c u' l' d':=⟨r,h.bs.trans b,h.g1,h.t1⟩
theorem St0.below {w:World} {c:Cx} {u u':World} {l:List Tk} {d:Nat} (h:St0 w c u l d) (b:Below u.heap.size u u'):St0 w c u' l d:=h.go (Beside.of_below b) (h.rd.below b)
theorem St0.bad {w:World} {c:Cx} {u u':World} {l:List Tk} {d:Nat} (h:St0 w c u l d) (b:Beside c.g u u'):Beside c.g w u':=h.bs.trans b
theorem St0.below2 {w:World} {c:Cx} {u u':World} {l:List Tk} {d B:Nat} (h:St0 w c u l d) (b:Below B u u') (hB:w.heap.size≤B):St0 w c u' l d:=
 ⟨h.rd.two (b.block _ (by have:=h.g1;omega)) (b.block _ (by have:=h.t1;omega)) b.size,⟨b.os.trans h.bs.os,b.tape.trans h.bs.tape,b.output.trans h.bs.output,Nat.le_trans h.bs.size b.size,fun k hk hn=>(b.block k (by omega)).trans (h.bs.block k hk hn)⟩,h.g1,h.t1⟩
theorem wpl_appN {w:World} {ops:Array Oper} {rest:List Oper} {o:Oper} {a:Act} {Q:Exit→Act→World→Prop} (hgd:o.guard=none) (s x:Operand) (ho:o.op=.call { callee:=.builtin .append,args:=#[s,x],argTypes:=#[26,26] })
  (base:Nat) (v:Value) (n:Nat) (xs:List Value) (hs:a.eval s=v) (hown:w.ownsRow base 28 10 v n xs) (q:Nat) (cs:Array Value) (hx:a.eval x=.slice (some ⟨q,0,none⟩) 1 1) (hq:w.heap[q]?=some (.cells cs 28 (0,0))) (hl:cs.toList.length=1 * 10) (h1:∀u∈cs.toList,u.oneCell'=true)
  (hn:n+1≤20000) (hbase:base≤w.heap.size)
  (h:∀g cap w',Hid (w'.ownsRow base 28 10 (.slice (some ⟨g,0,none⟩) (n+1) cap) (n+1) (xs++cs.toList)∧w.grownBy w' v.ownBlock∧(v.ownBlock=some g∨g=w.heap.size))→wpList Tryz.prog ops Q rest (a.put o.dst (.slice (some ⟨g,0,none⟩) (n+1) cap)) w'):wpList Tryz.prog ops Q (o :: rest) a w:=by
 obtain⟨ind,hi0,hi1,hi2,hi3⟩:=info_nd
 refine wpList_step fun K hK=>?_
 exact step_append_lies w hgd s x 26 ho base 28 ind _ 10 144 Tryz.underlying26 hi0 hi1 hi2 hi3 rfl (by omega) v n xs hs hown ⟨q,0,none⟩ 1 1 cs.toList hx hl (World.news_of_block hq) h1 (by omega) (by unfold maxLen;omega) (by omega) hbase _ rfl (fun g cap w' a b c _=>hK _ _ (h g cap w' (hZ ⟨a,b,c⟩)))
theorem NdOk.retext {lo:Nat} {w:World} {ns:List Nd} {k:Nat} {t:List UInt8} {vk vn:Nat} {vs:List UInt8} {f:Bool} {n:Nat} {ak:Option Addr} {ck p:Nat} {S:List Nat} (h:NdOk lo w ns (ndC k t vk vn vs f n ak ck p) S) (hl:ns.length=1) (t2:List UInt8) (p2:Nat) :
  NdOk lo w (ns.map fun m=>⟨m.k,t2,m.vk,m.vn,m.vs,m.f,m.ks,p2⟩) (ndC k t2 vk vn vs f n ak ck p2) S:=by
 obtain⟨⟨k',t',vk',vn',vs',f',ks',p'⟩,rfl⟩:=List.length_eq_one_iff.1 hl
 have hn:=h.nl
 simp only [IsNL] at hn
 obtain⟨ak1,ck1,C',R,S1,S2,hC,hS,ho,h1,h2,h3⟩:=hn
 subst h2 h3
 simp only [ndC,List.append_nil,List.cons.injEq,Value.int.injEq,Value.string.injEq,Value.slice.injEq,Value.bool.injEq,true_and,and_true] at hC
 obtain⟨e1,e2,e3,e4,e5,e6,⟨e7,e8,e9⟩,e10⟩:=hC
 refine⟨?_,h.nd,h.rg,h.le⟩
 simp only [List.map_cons,List.map_nil,IsNL]
 exact⟨ak1,ck1,C',[],S1,[],by simp only [ndC,List.append_nil];rw [e1,e3,e4,e5,e6,e7,e8,e9],hS,ho,h1,rfl,rfl⟩
end Go.Proofs.YtjdpaihhhjdgmaaGreatDoor
