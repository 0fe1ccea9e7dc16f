/-
  A region that draws its order and closes with a store over a cell that it has read: the read may be taken first, since the store waits for it; no conditions.
  Layer 19 (check): the scope in memory, what changes it: end, assign, declare; conditions: the names' sizes.
-/
import Derived.Test.YtjdpaihhhjdgmaaGreatDoorA00
import Derived.Deep.RegionHeld3
import Derived.Test.YtjdpaihhhjdgmaaGreatDoorA01
import Derived.Deep.AppendLies
import Derived.Laws.Tables
set_option linter.unusedVariables false
set_option linter.unusedSimpArgs false
set_option maxRecDepth 100000
set_option maxHeartbeats 8000000
namespace Go.Proofs.YtjdpaihhhjdgmaaGreatDoor
open Go.RowKit
section
variable {P : Program} {ops : Array Oper} {Q : Exit → Act → World → Prop} {md : Region.Mode} {S : World → Prop} {z : Nat}
def Till (P:Program) (md:Region.Mode) (ops:Array Oper) (Q:Exit→Act→World→Prop) (S:World→Prop) (z:Nat):Nat→Array Bool→Act→World→Prop
 |0,listed,a,w=>Region.ready md ops listed=[]∧Q .normal a w
 |f+1,listed,a,w=>(Region.ready md ops listed=[]→Q .normal a w)∧∀i∈Region.ready md ops listed,wpOp P ops Q i (fun a' w'=>(i=z∨S w')∧Till P md ops Q S z f (listed.setIfInBounds i true) a' w') a w
theorem Till.any:∀(f:Nat) (listed:Array Bool) (a:Act) (w:World),Till P md ops Q S z f listed a w→wpAny P md ops Q f listed a w
 |0,_,_,_,h=>h
 |f+1,_,_,_,h=>⟨h.1,fun i hi=>wpOp_mono (fun a' w' h'=>Till.any f _ a' w' h'.2) (h.2 i hi)⟩
theorem Till.first {i:Nat} {oi oz:Oper} {v:Value} (hi:ops[i]?=some oi) (hz:ops[z]?=some oz) (hwait:∃e∈oz.after,Region.binds md e=true∧e.on=i)
  (hsel:∀(j:Nat) (o:Oper) cs b,ops[j]?=some o→o.op≠.select cs b) (hQ:∀c a w,Q (.panic c) (a.put oi.dst v) w→Q (.panic c) a w) :
  ∀(f:Nat) (listed:Array Bool) (a:Act) (w:World),
   (∀j oj,ops[j]?=some oj→j≠i→listed.getD j true=false→(∀e∈oj.after,Region.binds md e=true→e.on≠i)→oi.apart ops oj=true) →
   i∈Region.ready md ops listed→YieldsIf P ops S oi v a→S w →
   Till P md ops Q S z f (listed.setIfInBounds i true) (a.put oi.dst v) w→Till P md ops Q S z (f+1) listed a w:=by
 intro f
 induction f with
 |zero=>
  intro listed a w _ hr hy hS H
  refine⟨fun h=>(by rw [h] at hr;cases hr),fun j hj=>?_⟩
  by_cases e:j=i
  ·rw [e]
   exact hy.wpOp hi hS ⟨Or.inr hS,H⟩
  ·exact absurd (ready_mono hj e) (by rw [H.1];simp)
 |succ f ih=>
  intro listed a w hfree hr hy hS H
  refine⟨fun h=>(by rw [h] at hr;cases hr),fun j hj=>?_⟩
  by_cases e:j=i
  ·rw [e]
   exact hy.wpOp hi hS ⟨Or.inr hS,H⟩
  ·obtain⟨hun,oj,hoj,hall⟩:=mem_ready.1 hj
   have hi0:=(mem_ready.1 hr).1
   -- nobody who may come up now waits for number i
   have hnot:∀x∈oj.after,Region.binds md x=true→x.on≠i:=fun x hx hb he=>by
    have h1:=hall x hx hb
    rw [he] at h1
    rcases Nat.lt_or_ge i listed.size with hl|hl
    ·simp [hl] at hi0 h1
     rw [hi0] at h1
     cases h1
    ·simp [Array.getElem?_eq_none hl] at h1
   have hjz:j≠z:=fun he=>by
    obtain⟨x,hx,hb,hon⟩:=hwait
    rw [he] at hoj
    rw [hoj] at hz
    cases hz
    exact hnot x hx hb hon
   have h2:=wpOp_putIf hoj (hfree j oj hoj e hun hnot) (fun cs b=>hsel i oi cs b hi) (fun cs b=>hsel j oj cs b hoj) hQ hy (H.2 j (ready_mono hj e))
   refine wpOp_mono (fun a' w' h3=>?_) h2
   obtain⟨hy',hS',hT⟩:=h3
   have hSw:S w':=hS'.resolve_left hjz
   refine⟨Or.inr hSw,ih (listed.setIfInBounds j true) a' w' (fun k ok hk hki hu hno=>hfree k ok hk hki ?_ hno) (ready_mono hr (Ne.symm e)) hy' hSw ?_⟩
   ·by_cases hjk:j=k
    ·rw [←hjk];exact hun
    ·rw [getD_set_ne true hjk] at hu;exact hu
   ·rw [Array.setIfInBounds_comm _ _ e]
    exact hT
theorem till_take {f:Nat} {listed:Array Bool} {a:Act} {w:World} (i:Nat) {oi oz:Oper} {v:Value} (d:Option Tmp) (hi:ops[i]?=some oi) (hd:oi.dst=d) (hz:ops[z]?=some oz) (hwait:(oz.after.any fun e=>Region.binds md e && e.on == i)=true)
  (hs:Region.noSelect ops=true) (hf:Region.free md ops listed i=true) (hr:(Region.ready md ops listed).contains i=true)
  (hQ:∀c a w,Q (.panic c) (a.put d v) w→Q (.panic c) a w) (hy:YieldsIf P ops S oi v a) (hS:S w)
  (h:Till P md ops Q S z f (listed.setIfInBounds i true) (a.put d v) w):Till P md ops Q S z (f+1) listed a w:=by
 subst hd
 refine Till.first hi hz ?_ (Region.noSelect_spec hs) hQ f listed a w (Region.free_spec hi hf) (by simpa using hr) hy hS h
 rw [Array.any_eq_true] at hwait
 obtain⟨k,hk,hx⟩:=hwait
 rw [Bool.and_eq_true,beq_iff_eq] at hx
 exact⟨_,Array.getElem_mem hk,hx.1,hx.2⟩
theorem tK {f:Nat} {listed:Array Bool} {a:Act} {w:World} (i:Nat) {oi oz:Oper} {v:Value} (d:Option Tmp) (hi:ops[i]?=some oi) (hd:oi.dst=d) (hz:ops[z]?=some oz) (hc:((oz.after.any fun e=>Region.binds md e && e.on==i) && (Region.noSelect ops && (Region.free md ops listed i && (Region.ready md ops listed).contains i)))=true)
 (hQ:∀ c a w,Q (.panic c) (a.put d v) w→Q (.panic c) a w) (hy:YieldsIf P ops S oi v a) (hS:S w)
 (h:Till P md ops Q S z f (listed.setIfInBounds i true) (a.put d v) w):Till P md ops Q S z (f+1) listed a w:=by
 simp only [Bool.and_eq_true] at hc
 exact till_take i d hi hd hz hc.1 hc.2.1 hc.2.2.1 hc.2.2.2 hQ hy hS h
theorem till_one {f:Nat} {listed:Array Bool} {a:Act} {w:World} (i:Nat) {o:Oper} (hr:Region.ready md ops listed=[i]) (ho:ops[i]?=some o)
  (h:∀K':Act→World→Prop,Shut (∀a w,(i=z∨S w)→Till P md ops Q S z f (listed.setIfInBounds i true) a w→K' a w)→if Region.wanted o (yielded ops a.tmps)=true then Oper.wp P o a w K' Q else K' (a.put o.dst undef) w) :
  Till P md ops Q S z (f+1) listed a w:=by
 refine⟨fun e=>(by rw [e] at hr;cases hr),fun j hj=>?_⟩
 rw [hr,List.mem_singleton] at hj
 subst hj
 exact wpOp_step ho (fun K' hK=>h K' (fun a w hS hT=>hK a w ⟨hS,hT⟩))
theorem till_two {f:Nat} {listed:Array Bool} {a:Act} {w:World} (i j:Nat) {oi oj:Oper} (hr:Region.ready md ops listed=[i,j]) (hi:ops[i]?=some oi) (hj:ops[j]?=some oj)
  (h1:∀K':Act→World→Prop,Shut (∀a w,(i=z∨S w)→Till P md ops Q S z f (listed.setIfInBounds i true) a w→K' a w)→if Region.wanted oi (yielded ops a.tmps)=true then Oper.wp P oi a w K' Q else K' (a.put oi.dst undef) w)
  (h2:∀K':Act→World→Prop,Shut (∀a w,(j=z∨S w)→Till P md ops Q S z f (listed.setIfInBounds j true) a w→K' a w)→if Region.wanted oj (yielded ops a.tmps)=true then Oper.wp P oj a w K' Q else K' (a.put oj.dst undef) w) :
  Till P md ops Q S z (f+1) listed a w:=by
 refine⟨fun e=>(by rw [e] at hr;cases hr),fun k hk=>?_⟩
 rw [hr,List.mem_cons,List.mem_singleton] at hk
 rcases hk with e|e
 ·rw [e]
  exact wpOp_step hi (fun K' hK=>h1 K' (fun a w hS hT=>hK a w ⟨hS,hT⟩))
 ·rw [e]
  exact wpOp_step hj (fun K' hK=>h2 K' (fun a w hS hT=>hK a w ⟨hS,hT⟩))
theorem till_done {listed:Array Bool} {a:Act} {w:World} (hr:Region.ready md ops listed=[]) (h:Q .normal a w):∀f,Till P md ops Q S z f listed a w
 |0=>⟨hr,h⟩
 |_+1=>⟨fun _=>h,by rw [hr];simp⟩
theorem till_begin {id:Nat} {a:Act} {w:World} (z:Nat) (hm:P.follows .mixedOrders=true) (h:Till P .any ops Q S z ops.size (Array.replicate ops.size false) a w.drew):(Code.region id ops true).wp P Q a w:=
 wp_region_any hm (Till.any _ _ _ _ h)
end
set_option linter.unusedVariables false
set_option linter.unusedSimpArgs false
structure Besk (P:Nat→Prop) (w w':World):Prop where
 os:w'.os=w.os
 tape:w'.tape=w.tape
 output:w'.output=w.output
 size:w.heap.size≤w'.heap.size
 block:∀k,k<w.heap.size→¬P k→w'.heap[k]?=w.heap[k]?
theorem Besk.of_below {P:Nat→Prop} {w w':World} (h:Below w.heap.size w w'):Besk P w w':=⟨h.os,h.tape,h.output,h.size,fun k hk _=>h.block k hk⟩
theorem Besk.refl (P:Nat→Prop) (w:World):Besk P w w:=Besk.of_below (Below.refl _ _)
theorem Besk.trans {P:Nat→Prop} {w w1 w2:World} (h:Besk P w w1) (h':Besk P w1 w2):Besk P w w2:=
 ⟨h'.os.trans h.os,h'.tape.trans h.tape,h'.output.trans h.output,Nat.le_trans h.size h'.size,fun k hk hn=>(h'.block k (Nat.lt_of_lt_of_le hk h.size) hn).trans (h.block k hk hn)⟩
theorem Besk.set {P:Nat→Prop} {w w':World} {p:Addr} (h:Besk P w w') (hp:P p.block∨w.heap.size≤p.block) (v:Value):Besk P w (w'.setCell p v):=by
 have B:=(Below.refl 0 w').setCell (p:=p) (Nat.zero_le _) v
 refine⟨B.os.trans h.os,B.tape.trans h.tape,B.output.trans h.output,Nat.le_trans h.size B.size,fun k hk hn=>(heap_setCell_other w' p k v (fun e=>?_)).trans (h.block k hk hn)⟩
 subst e
 rcases hp with hp|hp
 ·exact hn hp
 ·omega
theorem Besk.grown {P:Nat→Prop} {w w1 w2:World} {r:Option Nat} (h:Besk P w w1) (hg:w1.grownBy w2 r) (hr:∀k,r=some k→P k∨w.heap.size≤k):Besk P w w2:=
 ⟨hg.os.trans h.os,hg.tape.trans h.tape,hg.output.trans h.output,Nat.le_trans h.size hg.size,fun k hk hn=>(hg.block k (Nat.lt_of_lt_of_le hk h.size) (fun e=>by
  rcases hr k e.symm with hp|hp
  ·exact hn hp
  ·omega)).trans (h.block k hk hn)⟩
theorem Besk.low {P:Nat→Prop} {w w':World} {B:Nat} (h:Besk P w w') (hP:∀k,P k→B≤k) (hB:B≤w.heap.size):Below B w w':=
 ⟨h.os,h.tape,h.output,h.size,fun k hk=>h.block k (by omega) (fun hp=>by have:=hP k hp;omega)⟩
def ScP (q b:Nat) (nv sv:Value) (k:Nat):Prop:=k=q∨k=b∨nv.ownBlock=some k∨sv.ownBlock=some k
structure Mvd (w w':World) (q b:Nat) (nv sv nv' sv':Value):Prop where
 bes:Besk (ScP q b nv sv) w w'
 on:∀k,nv'.ownBlock=some k→nv.ownBlock=some k∨w.heap.size≤k
 os:∀k,sv'.ownBlock=some k→sv.ownBlock=some k∨w.heap.size≤k
theorem Mvd.of_below {w w':World} (q b:Nat) (nv sv:Value) (h:Below w.heap.size w w'):Mvd w w' q b nv sv nv sv:=⟨Besk.of_below h,fun _ h=>Or.inl h,fun _ h=>Or.inl h⟩
theorem Mvd.trans {w w1 w2:World} {q b:Nat} {nv sv nv1 sv1 nv2 sv2:Value} (h:Mvd w w1 q b nv sv nv1 sv1) (h':Mvd w1 w2 q b nv1 sv1 nv2 sv2):Mvd w w2 q b nv sv nv2 sv2 where
 bes:=⟨h'.bes.os.trans h.bes.os,h'.bes.tape.trans h.bes.tape,h'.bes.output.trans h.bes.output,Nat.le_trans h.bes.size h'.bes.size,fun k hk hn=>(h'.bes.block k (Nat.lt_of_lt_of_le hk h.bes.size) (fun hp=>by
  rcases hp with hp|hp|hp|hp
  ·exact hn (Or.inl hp)
  ·exact hn (Or.inr (Or.inl hp))
  ·rcases h.on k hp with hp|hp
   ·exact hn (Or.inr (Or.inr (Or.inl hp)))
   ·omega
  ·rcases h.os k hp with hp|hp
   ·exact hn (Or.inr (Or.inr (Or.inr hp)))
   ·omega)).trans (h.bes.block k hk hn)⟩
 on:=fun k hk=>by
  rcases h'.on k hk with hp|hp
  ·exact h.on k hp
  ·exact Or.inr (Nat.le_trans h.bes.size hp)
 os:=fun k hk=>by
  rcases h'.os k hk with hp|hp
  ·exact h.os k hp
  ·exact Or.inr (Nat.le_trans h.bes.size hp)
theorem own_form {w:World} {base size n:Nat} {e:TypeId} {v:Value} {xs:List Value} (h:w.ownsRow base e size v n xs):(v=.slice none 0 0∧n=0)∨∃g cap cur,v=.slice (some ⟨g,0,none⟩) n cap∧base≤g∧n≤cap∧w.heap[g]?=some (.cells cur e (0,0)):=by
 rcases h.2 with ⟨e1,e0⟩|⟨g,cap,cur,e1,hbg,hg,hnc,hcm,hsz,hpre⟩
 ·exact Or.inl ⟨e1,e0⟩
 ·exact Or.inr ⟨g,cap,cur,e1,hbg,hnc,hg⟩
theorem own_put {w:World} {base n g cap:Nat} {e:TypeId} {xs:List Value} (h:w.ownsRow base e 1 (.slice (some ⟨g,0,none⟩) n cap) n xs) (j:Nat) (u:Value):(w.setCell ⟨g,j,none⟩ u).ownsRow base e 1 (.slice (some ⟨g,0,none⟩) n cap) n (xs.set j u):=by
 refine⟨by rw [List.length_set];exact h.1,?_⟩
 rcases h.2 with ⟨e1,e0⟩|⟨g',cap',cur,e1,hbg,hg,hnc,hcm,hsz,hpre⟩
 ·cases e1
 ·cases e1
  refine Or.inr ⟨g,cap,cur.setIfInBounds j u,rfl,hbg,heap_setCell_same w g j cur e u hg,hnc,hcm,by rw [Array.size_setIfInBounds];exact hsz,?_⟩
  rw [←hpre,Array.toList_setIfInBounds,List.take_set]
theorem grown_set (w:World) (p:Addr) (v:Value):w.grownBy (w.setCell p v) (some p.block):=by
 have B:=(Below.refl 0 w).setCell (p:=p) (Nat.zero_le _) v
 exact⟨B.os,B.tape,B.output,B.size,fun k hk hn=>heap_setCell_other w p k v (fun e=>hn (by rw [e]))⟩
theorem own_neK {w:World} {base size n q:Nat} {e T:TypeId} {v:Value} {xs:List Value} {c:Array Value} (h:w.ownsRow base e size v n xs) (hq:w.heap[q]?=some (.cells c T (0,0))) (hn:(e == T)=false):v.ownBlock=none∨v.ownBlock≠some q:=by
 rcases own_form h with ⟨rfl,_⟩|⟨g,cap,cur,rfl,_,_,hg⟩
 ·exact Or.inl rfl
 ·refine Or.inr (fun e2=>?_)
  have e3:g=q:=by simpa [Value.ownBlock] using e2
  subst e3
  rw [hg] at hq
  simp only [Option.some.injEq,Obj.cells.injEq] at hq
  rw [hq.2.1] at hn
  simp at hn
theorem map_ne {w:World} {b n q:Nat} {f:List UInt8→Option Int} {c:Array Value} {T:TypeId} (h:Nms w b n f) (hq:w.heap[q]?=some (.cells c T (0,0))):b≠q:=fun e=>by
 obtain⟨es,ck,h1⟩:=h.isMap
 rw [e,hq] at h1
 cases h1
theorem scm_fin {w w1:World} {lo q b nn G:Nat} {nv sv nv1 sv1:Value} {s:Sco} (h:ScM w1 lo q b nn nv1 sv1 s) (hm:Mvd w w1 q b nv sv nv1 sv1) (hg:w.heap.size=G∧q<G) {z0 z1:Value} (hr:w1.heap[G+1]?=some (.cells #[z0,z1] 42 (0,0))) (y0 y1:Value):ScM ((w1.setCell ⟨G+1,0,none⟩ y0).setCell ⟨G+1,1,none⟩ y1) lo q b nn nv1 sv1 s∧Mvd w ((w1.setCell ⟨G+1,0,none⟩ y0).setCell ⟨G+1,1,none⟩ y1) q b nv sv nv1 sv1:=by
 obtain⟨hG,hq⟩:=hg
 have step:∀(u:World) (k:Nat) (y a0 a1:Value),ScM u lo q b nn nv1 sv1 s→u.heap[G+1]?=some (.cells #[a0,a1] 42 (0,0))→ScM (u.setCell ⟨G+1,k,none⟩ y) lo q b nn nv1 sv1 s:=fun u k y a0 a1 hu hru=>
  ⟨(heap_setCell_other u ⟨G+1,k,none⟩ q y (by show q≠G+1;omega)).trans hu.hq,hu.hm.later (heap_setCell_other u ⟨G+1,k,none⟩ b y (map_ne hu.hm hru)),hu.hnv.kept (grown_set u ⟨G+1,k,none⟩ y) (own_neK hu.hnv hru (by rfl)),hu.hsv.kept (grown_set u ⟨G+1,k,none⟩ y) (own_neK hu.hsv hru (by rfl)),hu.len,hu.few,⟨hu.hlo.1,hu.hlo.2.1,by simpa using hu.hlo.2.2⟩⟩
 have r1:=heap_setCell_same w1 (G+1) 0 _ 42 y0 hr
 refine⟨step _ 1 y1 y0 z1 (step _ 0 y0 z0 z1 h hr) r1,⟨(hm.bes.set (p:=⟨G+1,0,none⟩) (Or.inr (by show w.heap.size≤G+1;omega)) y0).set (p:=⟨G+1,1,none⟩) (Or.inr (by show w.heap.size≤G+1;omega)) y1,hm.on,hm.os⟩⟩
theorem ScM.setA {w:World} {lo q b n:Nat} {nv sv:Value} {s:Sco} (h:ScM w lo q b n nv sv s):ScM (w.setCell ⟨q,3,none⟩ (.bool true)) lo q b n nv sv (endS s) where
 hq:=heap_setCell_same w q 3 _ _ _ h.hq
 hm:=h.hm.later (heap_setCell_other w ⟨q,3,none⟩ b _ (map_ne h.hm h.hq))
 hnv:=h.hnv.kept (grown_set w ⟨q,3,none⟩ _) (own_neK h.hnv h.hq (by rfl))
 hsv:=h.hsv.kept (grown_set w ⟨q,3,none⟩ _) (own_neK h.hsv h.hq (by rfl))
 len:=h.len
 few:=h.few
 hlo:=⟨h.hlo.1,h.hlo.2.1,by simpa using h.hlo.2.2⟩
theorem ScM.setS {w:World} {lo q b n g cap:Nat} {nv:Value} {s:Sco} {N:Nat} (h:ScM w lo q b n nv (.slice (some ⟨g,0,none⟩) N cap) s) {j:Nat} (hj:j<s.set.length):ScM (w.setCell ⟨g,j,none⟩ (.bool true)) lo q b n nv (.slice (some ⟨g,0,none⟩) N cap) { s with set:=s.set.set j true }:=by
 have hN:s.set.length=N∧∃cur,w.heap[g]?=some (.cells cur 4 (0,0)):=by
  rcases own_form h.hsv with ⟨e,_⟩|⟨g',cap',cur,e,_,_,hg⟩
  ·cases e
  ·cases e
   exact⟨rfl,cur,hg⟩
 obtain⟨rfl,cur,hg⟩:=hN
 have hqg:q≠g:=fun e=>by
  have h1:=h.hq
  rw [e,hg] at h1
  simp only [Option.some.injEq,Obj.cells.injEq] at h1
  exact absurd h1.2.1 (by decide)
 refine⟨(heap_setCell_other w ⟨g,j,none⟩ q _ hqg).trans h.hq,h.hm.later (heap_setCell_other w ⟨g,j,none⟩ b _ (map_ne h.hm hg)),h.hnv.kept (grown_set w ⟨g,j,none⟩ _) (own_neK h.hnv hg (by rfl)),?_,by simpa using h.len,h.few,⟨h.hlo.1,h.hlo.2.1,by simpa using h.hlo.2.2⟩⟩
 have h1:=own_put h.hsv j (.bool true)
 rw [←List.map_set] at h1
 simpa using h1
theorem end_any {k vk vn p:Int} {t vs:ByteArray} {al ak a:Option Addr} {ll cl lk ck m cc:Nat} {f:Bool} {w:World} {lo q b n:Nat} {nv sv:Value} {s:Sco} (h:ScM w lo q b n nv sv s):Calls Tryz.prog 53 #[.pointer (some ⟨q,0,none⟩),.agg #[.int .i64 k,.string t,.int .i64 vk,.int .i64 vn,.string vs,.slice al ll cl,.slice ak lk ck,.bool f,.slice a m cc,.int .i64 p]] w fun e w'=>e=.returned (.agg #[.int .i64 0,.int .i64 0])∧ScM w' lo q b n nv sv (endS s)∧Mvd w w' q b nv sv nv sv:=by
 have hqw:=ltR h.hq
 obtain⟨w2,hw2,n2,r2,b2⟩:=bxs k vk vn p t vs al ak a ll cl lk ck m cc f w
 have H2:=hZ (h.below b2)
 obtain⟨G,hG⟩:=eX (w.heap.size)
 rw [hG] at n2 r2
 have HG2:=hZ (And.intro hG b2)
 obtain⟨R,hR⟩:=eX (endS s)
 rw [hR]
 go_enter Tryz.func53,Tryz.ntmps53
 go_upto_region 1 with fail
 try rw [hw2]
 try rw [hG]
 clear hw2 h b2 hG
 obtain⟨c0,c1,c2,c3,c4⟩:=five_at (uZ H2).hq
 obtain⟨m0,m1,m2,m3,m4,m5,m6,m7,m8,m9⟩:=ten_at n2
 have y3:=frozen_of_row w2 q 3 _ _ (uZ H2).hq
 go_upto_region 2 with fail
 have S9:=hZ ((uZ H2).setA)
 have hqG:q<G:=by rw [←(uZ HG2).1];exact hqw
 have HGe:=hZ (And.intro (uZ HG2).1 hqG)
 have r9:=(heap_setCell_other w2 ⟨q,3,none⟩ (G+1) (.bool true) (by show G+1≠q;omega)).trans r2
 have HB:=hZ (Mvd.mk (nv':=nv) (sv':=sv) ((Besk.of_below (P:=ScP q b nv sv) (uZ HG2).2).set (p:=⟨q,3,none⟩) (Or.inl (Or.inl rfl)) (.bool true)) (fun _ h=>Or.inl h) (fun _ h=>Or.inl h))
 obtain⟨w9,hw9⟩:=eX (w2.setCell ⟨q,3,none⟩ (.bool true))
 rw [hw9] at S9 r9 HB
 try rw [hw9]
 clear hw9 c0 c1 c2 c3 c4 y3 hqG
 obtain⟨k0,k1⟩:=two_at r9
 have y0:=frozen_of_row w9 (G+1) 0 _ _ r9
 have y1:=frozen_of_row w9 (G+1) 1 _ _ r9
 have b9:=((Below.refl (G+1) w9).setCell (p:=⟨G+1,0,none⟩) (Nat.le_refl _) (.int .i64 0)).setCell (p:=⟨G+1,1,none⟩) (Nat.le_refl _) (.int .i64 0)
 have HE:=hZ (And.intro (put2 r9 (.int .i64 0) (.int .i64 0)) (scm_fin (uZ S9) (uZ HB) (uZ HGe) r9 (.int .i64 0) (.int .i64 0)))
 clear b9
 go_wp2_with fail
 exact rtF (p:=4) rfl rfl (uZ HE).1 rfl ⟨rfl,by rw [←hR];exact(uZ HE).2.1,(uZ HE).2.2⟩
theorem assign_any {k vk vn p:Int} {t vs:ByteArray} {al ak a:Option Addr} {ll cl lk ck m cc:Nat} {f:Bool} {w:World} {lo q b n:Nat} {nv sv:Value} {s:Sco} (ht:t.size≤maxLen) (h:ScM w lo q b n nv sv s):Calls Tryz.prog 50 #[.pointer (some ⟨q,0,none⟩),.agg #[.int .i64 k,.string t,.int .i64 vk,.int .i64 vn,.string vs,.slice al ll cl,.slice ak lk ck,.bool f,.slice a m cc,.int .i64 p]] w fun e w'=>e=.returned (.agg #[.int .i64 (asgS s t.data.toList p).1.1,.int .i64 (asgS s t.data.toList p).1.2])∧ScM w' lo q b n nv sv (asgS s t.data.toList p).2∧Mvd w w' q b nv sv nv sv:=by
 have hqw:=ltR h.hq
 have h0:=h
 obtain⟨w2,hw2,n2,r2,b2⟩:=bxs k vk vn p t vs al ak a ll cl lk ck m cc f w
 have H2:=hZ (h.below b2)
 obtain⟨G,hG⟩:=eX (w.heap.size)
 rw [hG] at n2 r2
 have HG2:=hZ (And.intro hG b2)
 obtain⟨R,hR⟩:=eX (asgS s t.data.toList p)
 rw [hR]
 go_enter Tryz.func50,Tryz.ntmps50
 go_upto_region 1 with fail
 try rw [hw2]
 try rw [hG]
 clear hw2 h b2 hG
 obtain⟨c0,c1,c2,c3,c4⟩:=five_at (uZ H2).hq
 obtain⟨m0,m1,m2,m3,m4,m5,m6,m7,m8,m9⟩:=ten_at n2
 have ha:∀z,(Instr.lookup 40 (.map (some b)) (.string t) true).run Tryz.prog (w2.drewN z)=.ok (.tuple #[.int .i64 ((ixL s.vars 0 t.data.toList).getD 0),.bool (ixL s.vars 0 t.data.toList).isSome]) (w2.drewN z):=fun z=>((uZ H2).hm.later (w':=w2.drewN z) rfl).ask ht _ Tryz.underlying40
 cases ho:ixL s.vars 0 t.data.toList with
 |none=>
  rw [ho] at ha
  obtain rfl:R=((p,192),s):=by rw [←hR];unfold asgS;rw [ho]
  have HS:=hZ h0
  go_quiet (fail)
  obtain⟨w4,hw4⟩:=eX (w2.drewN nq)
  have b4:Below w2.heap.size w2 w4:=by rw [←hw4];exact bdrew (Below.refl _ _) nq
  rw [hw4]
  have H4:=hZ ((uZ H2).below b4)
  have n4:=(b4.block _ (ltR n2)).trans n2
  have r4:=(b4.block _ (ltR r2)).trans r2
  have HG4:=hZ (And.intro (uZ HG2).1 ((uZ HG2).2.trans (b4.mono (uZ HG2).2.size)))
  clear hw4 b4 ha H2 n2 r2 HG2 c0 c1 c2 c3 c4 m0 m1 m2 m3 m4 m5 m6 m7 m8 m9
  obtain⟨c0,c1,c2,c3,c4⟩:=five_at (uZ H4).hq
  obtain⟨m0,m1,m2,m3,m4,m5,m6,m7,m8,m9⟩:=ten_at n4
  have C:=hZ (wrg k vk vn p t vs al ak a ll cl lk ck m cc f 192 w4)
  go_wp2_with fail
  refine(uZ C).mono ?_
  rintro e w8 ⟨rfl,b8⟩
  have r8:=(b8.block _ (ltR r4)).trans r4
  obtain⟨k0,k1⟩:=two_at r8
  have y0:=frozen_of_row w8 (G+1) 0 _ _ r8
  have y1:=frozen_of_row w8 (G+1) 1 _ _ r8
  have HE:=hZ (And.intro (put2 r8 (.int .i64 p) (.int .i64 192)) (((((uZ HG4).2.trans (b8.mono (uZ HG4).2.size)).setCell (p:=⟨G+1,0,none⟩) (by rw [(uZ HG4).1];exact Nat.le_succ _) (.int .i64 p))).setCell (p:=⟨G+1,1,none⟩) (by rw [(uZ HG4).1];exact Nat.le_succ _) (.int .i64 192)))
  clear b8 r8 C m0 m1 m2 m3 m4 m5 m6 m7 m8 m9 c0 c1 c2 c3 c4
  go_wp2_with fail
  exact rtF (p:=4) rfl rfl (uZ HE).1 rfl ⟨rfl,(uZ HS).below (uZ HE).2,Mvd.of_below q b nv sv (uZ HE).2⟩
 |some i=>
  rw [ho] at ha
  obtain⟨j,rfl,hj⟩:=ixL_bound _ _ _ _ ho
  have hjl:j<s.set.length:=by rw [(uZ H2).len];exact(List.getElem?_eq_some_iff.1 hj).1
  rw [Nat.zero_add] at ho ha
  obtain⟨x,hx⟩:∃x,s.set[j]?=some x:=⟨_,List.getElem?_eq_getElem hjl⟩
  obtain rfl:R=((0,0),{ s with set:=s.set.set j true }):=by rw [←hR];unfold asgS;rw [ho];simp
  clear hR ho
  go_quiet (fail)
  obtain⟨w4,hw4⟩:=eX (w2.drewN nq)
  have b4:Below w2.heap.size w2 w4:=by rw [←hw4];exact bdrew (Below.refl _ _) nq
  rw [hw4]
  have H4:=hZ ((uZ H2).below b4)
  have n4:=(b4.block _ (ltR n2)).trans n2
  have r4:=(b4.block _ (ltR r2)).trans r2
  have HG4:=hZ (And.intro (uZ HG2).1 ((uZ HG2).2.trans (b4.mono (uZ HG2).2.size)))
  clear hw4 b4 ha H2 n2 r2 HG2 c0 c1 c2 c3 c4 m0 m1 m2 m3 m4 m5 m6 m7 m8 m9
  obtain⟨c0,c1,c2,c3,c4⟩:=five_at (uZ H4).hq
  obtain⟨m0,m1,m2,m3,m4,m5,m6,m7,m8,m9⟩:=ten_at n4
  obtain⟨sg,scp,hsv,hsc,hsn,hsm⟩:=own_get (uZ H4).hsv (j:=j) (u:=.bool x) (by rw [List.getElem?_map,hx];rfl)
  subst hsv
  obtain⟨cur,hcur⟩:∃cur,w4.heap[sg]?=some (.cells cur 4 (0,0)):=by
   rcases own_form (uZ H4).hsv with ⟨e,_⟩|⟨g',cap',cur,e,_,_,hg⟩
   ·cases e
   ·cases e
    exact⟨cur,hg⟩
  have yj:=frozen_of_row w4 sg j _ _ hcur
  go_upto_region 5 with fail
  have S9:=hZ ((uZ H4).setS hjl)
  have hqG:q<G:=by rw [←(uZ HG4).1];exact hqw
  have HGe:=hZ (And.intro (uZ HG4).1 hqG)
  have hgr:G+1≠sg:=fun e=>by
   rw [e,hcur] at r4
   simp only [Option.some.injEq,Obj.cells.injEq] at r4
   exact absurd r4.2.1 (by decide)
  have r9:=(heap_setCell_other w4 ⟨sg,j,none⟩ (G+1) (.bool true) hgr).trans r4
  have HB:=hZ (Mvd.mk (nv':=nv) (sv':=.slice (some ⟨sg,0,none⟩) s.set.length scp) ((Besk.of_below (P:=ScP q b nv (.slice (some ⟨sg,0,none⟩) s.set.length scp)) (uZ HG4).2).set (p:=⟨sg,j,none⟩) (Or.inl (Or.inr (Or.inr (Or.inr rfl)))) (.bool true)) (fun _ h=>Or.inl h) (fun _ h=>Or.inl h))
  obtain⟨w9,hw9⟩:=eX (w4.setCell ⟨sg,j,none⟩ (.bool true))
  rw [hw9] at S9 r9 HB
  try rw [hw9]
  clear hw9 c0 c1 c2 c3 c4 yj hqG hsc hcur
  obtain⟨k0,k1⟩:=two_at r9
  have y0:=frozen_of_row w9 (G+1) 0 _ _ r9
  have y1:=frozen_of_row w9 (G+1) 1 _ _ r9
  have b9:=((Below.refl (G+1) w9).setCell (p:=⟨G+1,0,none⟩) (Nat.le_refl _) (.int .i64 0)).setCell (p:=⟨G+1,1,none⟩) (Nat.le_refl _) (.int .i64 0)
  have HE:=hZ (And.intro (put2 r9 (.int .i64 0) (.int .i64 0)) (scm_fin (uZ S9) (uZ HB) (uZ HGe) r9 (.int .i64 0) (.int .i64 0)))
  clear b9
  go_wp2_with fail
  exact rtF (p:=4) rfl rfl (uZ HE).1 rfl ⟨rfl,(uZ HE).2.1,(uZ HE).2.2⟩
end Go.Proofs.YtjdpaihhhjdgmaaGreatDoor
