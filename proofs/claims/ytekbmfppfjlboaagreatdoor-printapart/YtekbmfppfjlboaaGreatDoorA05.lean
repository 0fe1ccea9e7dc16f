/-
  Layer 18 (print): what is made of each node, with a word between, is a text: print.listed; conditions: the nodes lie in memory.
  Layer 18 (print): listed, name and written; conditions: the nodes lie in memory.
  Layer 18 (print): names, and how much a sign binds; no conditions.
  Tokens, as functions of lists of bytes; no conditions.
-/
import Derived.Test.YtekbmfppfjlboaaGreatDoorA04
import Derived.Deep.Cut
import Derived.WalkKit
set_option linter.unusedVariables false
set_option linter.unusedSimpArgs false
namespace Go.Proofs.YtekbmfppfjlboaaGreatDoor
open Go.RowKit
set_option linter.unusedVariables false
set_option linter.unusedSimpArgs false
theorem Bd.later {w w':World} {B b:Nat} {l:List UInt8} (h:Bd w B b l) (hb:Below w.heap.size w w'):Bd w' B b l:=by
 have one:∀p,Lib.BuilderAtF 50 5 B b p (Lib.byteCells l) w→Lib.BuilderAtF 50 5 B b p (Lib.byteCells l) w':=fun p hp=>by
  obtain⟨hB,v,hbk,hown,hne⟩:=hp
  refine⟨hB,v,(hb.block b (Array.getElem?_eq_some_iff.1 hbk).1).trans hbk,⟨hown.1,?_⟩,hne⟩
  rcases hown.2 with hn|⟨g,cap,cur,fz,hv,hbg,hg,rest⟩
  ·exact .inl hn
  ·exact .inr ⟨g,cap,cur,fz,hv,hbg,(hb.block g (Array.getElem?_eq_some_iff.1 hg).1).trans hg,rest⟩
 exact h.elim (fun x=>.inl (one _ x)) (fun x=>.inr (one _ x))
theorem Wr.more {w w' u:World} {B b:Nat} {l:List UInt8} (h:Wr B b l w w') (hb:Below w'.heap.size w' u) (hB:B≤w'.heap.size):Wr B b l w u:=
 ⟨h.bd.later hb,h.below.trans (hb.mono hB),fun k o hk hn ho=>by
  have h1:=h.kept k o hk hn ho
  rw [hb.block k (Array.getElem?_eq_some_iff.1 h1).1]
  exact h1⟩
set_option maxRecDepth 100000 in
set_option maxHeartbeats 2000000 in
theorem listedC_any (B0 G:Nat) (a:Option Addr) (n cc:Nat) (s:ByteArray) (pv:Value) (ns:List Tn) (T:Tn→List UInt8) (u:World) (B b:Nat) (l:List UInt8) (hG0:u.heap[G]?=some (.cells #[.slice a n cc] 22 (0,0))) (hG1:u.heap[G+1]?=some (.cells #[.string s] 9 (0,0))) (hG2:u.heap[G+2]?=some (.cells #[pv] 40 (0,0)))
  (hr:RowN u B0 ns a cc) (hn:ns.length=n) (hp:Put B0 u pv ns T) (hB0:B0≤B) (hb:Bd u B b l) (hB:B≤u.heap.size) (hn9:n≤140737488351232) (hl:l.length+(jl s.data.toList true (ns.map T)).length≤140737488355328) :
  Calls Tryz.prog 67 #[.pointer (some ⟨b,0,none⟩),.pointer (some ⟨G,0,none⟩),.pointer (some ⟨G+1,0,none⟩),.pointer (some ⟨G+2,0,none⟩)] u fun e u'=>e=.returned (.tuple #[])∧Wr B b (l++jl s.data.toList true (ns.map T)) u u':=by
 have HG:=hide (And.intro hG0 (And.intro hG1 hG2))
 have HR:=hide (And.intro hr hp)
 have HB:=hide hb
 have HL:=hide (And.intro hn (And.intro hB0 (And.intro hB hl)))
 have c0:=one_box hG0
 clear hG0 hG1 hG2 hr hn hp hb hl hB0 hB
 go_enter Tryz.func67,Tryz.ntmps67
 go_wp2_with fail
 clear c0
 go_loopw [9] (fun x wr=>∃(i:Nat),x=.int .i64 (i:Int)∧i≤n∧Hid (Wr B b (l++jl s.data.toList true ((ns.take i).map T)) u wr)) (fun x _=>n - (intOf x).toNat)
 case atStart=>exact⟨0,rfl,Nat.zero_le _,hide (by simpa [jl] using Wr.start (unhide HB))⟩
 case round=>
  obtain⟨i,rfl,hin,HW⟩:=hrel
  obtain⟨wq,hwq⟩:∃wq,wq=wr:=⟨_,rfl⟩
  subst hwq
  obtain⟨hn,hB0,hB,hl⟩:=unhide HL
  by_cases hi:i<n
  ·have i2:(i:Int)<(n:Int):=by omega
   obtain⟨y,hy⟩:∃y,ns[i]?=some y:=⟨_,List.getElem?_eq_getElem (by omega)⟩
   have kq:=Kp.wr (unhide HB) hB0 (unhide HW)
   have hyn:y∈ns:=List.mem_of_getElem? hy
   obtain⟨ya0,z,rfl,hcc,hz,hcell⟩:=((unhide HR).1.later kq.bel).at hy
   have hBq:B≤wq.heap.size:=Nat.le_trans hB (unhide HW).below.size
   have htk:(ns.take (i+1)).map T=(ns.take i).map T++[T y]:=by rw [List.take_add_one,hy,List.map_append];rfl
   have hjl:jl s.data.toList true ((ns.take (i+1)).map T)=jl s.data.toList true ((ns.take i).map T)++(if i=0 then T y else s.data.toList++T y):=by
    rw [htk,jl_app]
    by_cases h0:i=0
    ·subst h0;simp
    ·rw [if_neg (by
      rw [Bool.and_eq_true]
      rintro ⟨_,he⟩
      rw [List.isEmpty_iff,List.map_eq_nil_iff,List.take_eq_nil_iff] at he
      rcases he with he|he
      ·exact h0 he
      ·rw [he] at hn;simp at hn;omega),if_neg h0]
   have hlen:l.length+(jl s.data.toList true ((ns.take (i+1)).map T)).length≤140737488355328:=by
    have h1:=jl_len s.data.toList true ((ns.take (i+1)).map T) ((ns.drop (i+1)).map T)
    rw [←List.map_append,List.take_append_drop] at h1
    omega
   rw [hjl,List.length_append] at hlen
   obtain⟨X,hX⟩:∃X,jl s.data.toList true ((ns.take i).map T)=X:=⟨_,rfl⟩
   rw [hX] at hjl hlen HW
   obtain⟨vk,vn,vs,al,ak,ya,ll,cl,lk,ck,yc,hzs,_⟩:=hz.shape
   obtain⟨F,cap,hpv,hpf,hput⟩:=(unhide HR).2
   have HP:=hide (And.intro hpf (And.intro hput hyn))
   have HZ:=hide hz
   subst hpv
   have k0:=one_box (kq.cells (unhide HG).1 (by decide) (by decide))
   have HQ:=hide kq
   subst hzs
   obtain⟨yk,yt,yv,yf,yks,yp⟩:=y
   obtain⟨yn,hyl⟩:∃m,yks.length=m:=⟨_,rfl⟩
   simp only [hyl] at hcell HZ
   have e0:wq.cell? (ya0.add (i * 10))=some (.int .i64 yk):=hcell 0 _ rfl
   have e1:wq.cell? ⟨(ya0.add (i * 10)).block,(ya0.add (i * 10)).off+1,none⟩=some (.string yt):=hcell 1 _ rfl
   have e2:wq.cell? ⟨(ya0.add (i * 10)).block,(ya0.add (i * 10)).off+2,none⟩=some (.int .i64 vk):=hcell 2 _ rfl
   have e3:wq.cell? ⟨(ya0.add (i * 10)).block,(ya0.add (i * 10)).off+3,none⟩=some (.int .i64 vn):=hcell 3 _ rfl
   have e4:wq.cell? ⟨(ya0.add (i * 10)).block,(ya0.add (i * 10)).off+4,none⟩=some (.string vs):=hcell 4 _ rfl
   have e5:wq.cell? ⟨(ya0.add (i * 10)).block,(ya0.add (i * 10)).off+5,none⟩=some (.slice al ll cl):=hcell 5 _ rfl
   have e6:wq.cell? ⟨(ya0.add (i * 10)).block,(ya0.add (i * 10)).off+6,none⟩=some (.slice ak lk ck):=hcell 6 _ rfl
   have e7:wq.cell? ⟨(ya0.add (i * 10)).block,(ya0.add (i * 10)).off+7,none⟩=some (.bool yf):=hcell 7 _ rfl
   have e8:wq.cell? ⟨(ya0.add (i * 10)).block,(ya0.add (i * 10)).off+8,none⟩=some (.slice ya yn yc):=hcell 8 _ rfl
   have e9:wq.cell? ⟨(ya0.add (i * 10)).block,(ya0.add (i * 10)).off+9,none⟩=some (.int .i64 yp):=hcell 9 _ rfl
   obtain⟨w1,hw1⟩:∃w1,wq.alloc (.cells #[.int .i64 yk,.string yt,.int .i64 vk,.int .i64 vn,.string vs,.slice al ll cl,.slice ak lk ck,.bool yf,.slice ya yn yc,.int .i64 yp] 28)=w1:=⟨_,rfl⟩
   obtain⟨g1,hg1⟩:∃g,wq.heap.size=g:=⟨_,rfl⟩
   have A1:w1.heap[g1]?=some (.cells #[.int .i64 yk,.string yt,.int .i64 vk,.int .i64 vn,.string vs,.slice al ll cl,.slice ak lk ck,.bool yf,.slice ya yn yc,.int .i64 yp] 28 (0,0)):=by rw [←hw1,←hg1];exact heap_alloc_new _ _
   have b1:Below wq.heap.size wq w1:=by rw [←hw1];exact(Below.refl _ _).alloc (Nat.le_refl _) _
   have W1:=(unhide HW).more b1 hBq
   have hB1:B≤w1.heap.size:=Nat.le_trans hBq b1.size
   have K1:=hide (kq.trans (Kp.below b1 (Nat.le_trans hB0 hBq)))
   have HW1:=hide (And.intro W1 (And.intro A1 hB1))
   have HE:=hide hjl
   have HN:=hide hlen
   have HWW:=hide hw1
   clear hy kq hyn hcc hz hcell htk hjl hlen hX hpf hput hyl A1 b1 W1 hn hl hw1 HW
   go_upto_region 3 with fail
   rw [unhide HWW]
   try rw [hg1]
   clear HWW e0 e1 e2 e3 e4 e5 e6 e7 e8 e9 k0
   have HF:=hide (unhide HP).1
   have FI:Hid (∀(w2:World) (Y:List UInt8),Wr B b (l++(X++Y)) u w2→Calls Tryz.prog F (#[.agg #[.int .i64 yk,.string yt,.int .i64 vk,.int .i64 vn,.string vs,.slice al ll cl,.slice ak lk ck,.bool yf,.slice ya yn yc,.int .i64 yp]]++cap) w2 fun e u'=>∃(F2:FuncId) (cap2:Array Value),e=.returned (.func (.func F2) #[] cap2)∧Hid (∀(x:Array Value) (u:World),Sem.run Tryz.prog (callFunc F2 x) u=.ok (.enter F2 x) u)∧Hid (l.length+(X.length+(Y.length+(T ⟨yk,yt,yv,yf,yks,yp⟩).length))≤140737488355328→Calls Tryz.prog F2 (#[.pointer (some ⟨b,0,none⟩)]++cap2) u' fun e u2=>e=.returned (.tuple #[])∧Wr B b (l++(X++(Y++T ⟨yk,yt,yv,yf,yks,yp⟩))) u u2)):=hide (fun w2 Y h2=>by
    have k2:=Kp.wr (unhide HB) hB0 h2
    have hB2:B≤w2.heap.size:=Nat.le_trans hB h2.below.size
    have hz2:=IsN.to (Q:=fun b=>b<B0) (w':=w2) (fun c hc=>(k2.bel.block c hc).trans ((unhide HQ).bel.block c hc).symm) (fun _ h=>h) (unhide HZ)
    refine((unhide HP).2.1 w2 _ _ k2 (Nat.le_trans hB0 hB2) (unhide HP).2.2 hz2).mono (fun e u' h=>?_)
    obtain⟨t,rfl,⟨F2,cap2,rfl,hf2,hc2⟩,b3⟩:=h
    refine⟨F2,cap2,rfl,hide hf2,hide (fun hlen=>?_)⟩
    have W3:=h2.more b3 hB2
    refine(hc2 u' B b (l++(X++Y)) (Kp.refl _ _) hB0 W3.bd (Nat.le_trans hB2 b3.size) (by rw [List.length_append,List.length_append];omega)).mono (fun e u2 h=>⟨h.1,?_⟩)
    have:=W3.then h.2
    rw [List.append_assoc,List.append_assoc] at this
    exact this)
   have HC2:Hid (∀w2,Kp B0 u w2→w2.cell? ⟨G+2,0,none⟩=some (.func (.func F) #[] cap)):=hide (fun w2 k=>one_box (k.cells (unhide HG).2.2 (by decide) (by decide)))
   have c1:=one_box ((unhide K1).cells (unhide HG).2.1 (by decide) (by decide))
   by_cases h0:i=0
   ·subst h0
    have c2:=(unhide HC2) w1 (unhide K1)
    obtain⟨x0,x1,x2,x3,x4,x5,x6,x7,x8,x9⟩:=row_ten (unhide HW1).2.1
    have CP:=hide ((unhide FI) w1 [] (by simpa using (unhide HW1).1))
    have HY:=hide (show l.length+(X.length+(([]:List UInt8).length+(T ⟨yk,yt,yv,yf,yks,yp⟩).length))≤140737488355328 by have:=unhide HN;simp only [if_true] at this;simpa using this)
    have HO:=hide (show jl s.data.toList true ((ns.take (0+1)).map T)=X++([]++T ⟨yk,yt,yv,yf,yks,yp⟩) by have:=unhide HE;simp only [if_true] at this;simpa using this)
    clear HN HE FI HC2 K1 HW1 HQ HZ HP
    go_wp2_with (rw [unhide HF])
    refine(unhide CP).mono ?_
    rintro e w3 ⟨F2,cap2,rfl,hf2,hc2⟩
    have HF2:=hf2
    have CQ:=hide ((unhide hc2) (unhide HY))
    clear hf2 hc2 CP x0 x1 x2 x3 x4 x5 x6 x7 x8 x9 c2
    go_wp2_with (rw [unhide HF2])
    refine(unhide CQ).mono ?_
    rintro e w4 ⟨rfl,k4⟩
    have H4:=hide (show Wr B b (l++jl s.data.toList true ((ns.take (0+1)).map T)) u w4 by rw [unhide HO];exact k4)
    clear k4 CQ HY HO
    go_wp2_with fail
    go_roundw
    case rel=>exact⟨0+1,by go_num,by omega,H4⟩
    case measure=>simp [intOf];omega
   ·have h1:(0:Int)<(i:Int):=by omega
    have CW:=hide (wstr_any B b (l++X) s w1 (unhide HW1).1.bd (by have:=unhide HN;rw [if_neg h0,List.length_append] at this;rw [List.length_append];simp at this ⊢;omega) (unhide HW1).2.2)
    have HY:=hide (show l.length+(X.length+(s.data.toList.length+(T ⟨yk,yt,yv,yf,yks,yp⟩).length))≤140737488355328 by have:=unhide HN;rw [if_neg h0,List.length_append] at this;exact this)
    have HO:=hide (show jl s.data.toList true ((ns.take (i+1)).map T)=X++(s.data.toList++T ⟨yk,yt,yv,yf,yks,yp⟩) by have:=unhide HE;rw [if_neg h0] at this;exact this)
    have A9:=hide (unhide HW1).2.1
    clear HN HE
    go_wp2_with fail
    refine(unhide CW).mono ?_
    rintro e w2 ⟨rfl,k2⟩
    have W2:Wr B b (l++(X++s.data.toList)) u w2:=by have:=(unhide HW1).1.then k2;rw [List.append_assoc] at this;exact this
    have c2:=(unhide HC2) w2 (Kp.wr (unhide HB) hB0 W2)
    have A2:=(Kp.wr (unhide HW1).1.bd hB0 k2).cells (unhide A9) (by decide) (by decide)
    obtain⟨x0,x1,x2,x3,x4,x5,x6,x7,x8,x9⟩:=row_ten A2
    have CP:=hide ((unhide FI) w2 _ W2)
    clear k2 W2 A2 A9 CW FI HC2 K1 HW1 HQ HZ HP c1
    go_wp2_with (rw [unhide HF])
    refine(unhide CP).mono ?_
    rintro e w3 ⟨F2,cap2,rfl,hf2,hc2⟩
    have HF2:=hf2
    have CQ:=hide ((unhide hc2) (unhide HY))
    clear hf2 hc2 CP x0 x1 x2 x3 x4 x5 x6 x7 x8 x9 c2
    go_wp2_with (rw [unhide HF2])
    refine(unhide CQ).mono ?_
    rintro e w4 ⟨rfl,k4⟩
    have H4:=hide (show Wr B b (l++jl s.data.toList true ((ns.take (i+1)).map T)) u w4 by rw [unhide HO];exact k4)
    clear k4 CQ HY HO
    go_wp2_with fail
    go_roundw
    case rel=>exact⟨i+1,by go_num,by omega,H4⟩
    case measure=>simp [intOf];omega
  ·have i2:¬(i:Int)<(n:Int):=by omega
   have hin2:i=n:=by omega
   have H2:=hide (show Wr B b (l++jl s.data.toList true (ns.map T)) u wq by have h:=unhide HW;rw [hin2,←hn,List.take_length] at h;exact h)
   clear hn hl hB hB0
   go_wp2_with fail
   go_end0
   exact⟨rfl,unhide H2⟩
theorem RowN.len {w:World} {B0:Nat} {ns:List Tn} {a:Option Addr} {cc:Nat} (h:RowN w B0 ns a cc):ns.length≤140737488351232:=by
 obtain⟨C,h1,_⟩:=h
 exact h1.bl
set_option maxRecDepth 100000 in
set_option maxHeartbeats 1000000 in
theorem listed_any (B0:Nat) (a:Option Addr) (n cc:Nat) (s:ByteArray) (pv:Value) (ns:List Tn) (T:Tn→List UInt8) (w:World) (hB1:B0≤w.heap.size) (hr:RowN w B0 ns a cc) (hn:ns.length=n) (hp:Put B0 w pv ns T) :
  Calls Tryz.prog 36 #[.slice a n cc,.string s,pv] w fun e w'=>∃t,e=.returned t∧Txt B0 w' t (jl s.data.toList true (ns.map T))∧Below w.heap.size w w':=by
 have hp0:=hp
 obtain⟨F,cap,rfl,_,_⟩:=hp0
 obtain⟨G,hG⟩:∃G,w.heap.size=G:=⟨_,rfl⟩
 obtain⟨w1,hw1⟩:∃w1,w.alloc (.cells #[.slice a n cc] 22)=w1:=⟨_,rfl⟩
 have A1:w1.heap[G]?=some (.cells #[.slice a n cc] 22 (0,0)):=by rw [←hw1,←hG];exact heap_alloc_new _ _
 have B1:Below w.heap.size w w1:=by rw [←hw1];exact(Below.refl _ _).alloc (Nat.le_refl _) _
 have s1:w1.heap.size=G+1:=by rw [←hw1,←hG];simp
 obtain⟨w2,hw2⟩:∃w2,w1.alloc (.cells #[.string s] 9)=w2:=⟨_,rfl⟩
 have A2:w2.heap[G+1]?=some (.cells #[.string s] 9 (0,0)):=by rw [←hw2,←s1];exact heap_alloc_new _ _
 have B2:Below w1.heap.size w1 w2:=by rw [←hw2];exact(Below.refl _ _).alloc (Nat.le_refl _) _
 have s2:w2.heap.size=G+2:=by rw [←hw2];simp [s1]
 obtain⟨w3,hw3⟩:∃w3,w2.alloc (.cells #[.func (.func F) #[] cap] 40)=w3:=⟨_,rfl⟩
 have A3:w3.heap[G+2]?=some (.cells #[.func (.func F) #[] cap] 40 (0,0)):=by rw [←hw3,←s2];exact heap_alloc_new _ _
 have B3:Below w2.heap.size w2 w3:=by rw [←hw3];exact(Below.refl _ _).alloc (Nat.le_refl _) _
 have b3:Below w.heap.size w w3:=(B1.trans (B2.mono B1.size)).trans (B3.mono (Nat.le_trans B1.size B2.size))
 have C1:=(B3.block G (by omega)).trans ((B2.block G (by omega)).trans A1)
 have C2:=(B3.block (G+1) (by omega)).trans A2
 have T1:Txt B0 w3 (.func (.func 67) #[] #[.pointer (some ⟨G,0,none⟩),.pointer (some ⟨G+1,0,none⟩),.pointer (some ⟨G+2,0,none⟩)]) (jl s.data.toList true (ns.map T)):=by
  refine⟨_,_,rfl,call_listed,fun u B b l hk hB0 hb hB hl=>?_⟩
  have k:=(Kp.below b3 hB1).trans hk
  exact listedC_any B0 G a n cc s _ ns T u B b l (hk.cells C1 (by decide) (by decide)) (hk.cells C2 (by decide) (by decide)) (hk.cells A3 (by decide) (by decide)) (hr.later k.bel) hn (hp.later k) hB0 hb hB (by rw [←hn];exact hr.len) hl
 have HT:=hide (And.intro T1 b3)
 have HW:=hide (And.intro hw1 (And.intro hw2 hw3))
 have HS:=hide (And.intro s1 s2)
 clear A1 A2 A3 B1 B2 B3 C1 C2 T1 b3 hw1 hw2 hw3 hr hp hn hB1 s1 s2
 go_enter Tryz.func36,Tryz.ntmps36
 go_wp2_with fail
 go_ret
 rw [(unhide HW).1,(unhide HW).2.1,(unhide HW).2.2]
 try rw [hG]
 refine⟨_,rfl,?_,by first|exact(unhide HT).2|(rw [←hG];exact(unhide HT).2)⟩
 have:=(unhide HT).1
 first|exact this|(simp only [(unhide HS).1,(unhide HS).2];exact this)
set_option maxRecDepth 100000 in
set_option maxHeartbeats 1000000 in
theorem written_any (B0:Nat) (t:Value) (L:List UInt8) (w:World) (hB1:B0≤w.heap.size) (h:Txt B0 w t L) (hl:L.length≤140737488355328) :
  Calls Tryz.prog 19 #[t] w fun e w'=>e=.returned (.string ⟨L.toArray⟩)∧Below w.heap.size w w':=by
 obtain⟨F,cap,rfl,hf,hc⟩:=h
 obtain⟨G,hG⟩:∃G,w.heap.size=G:=⟨_,rfl⟩
 obtain⟨w1,hw1⟩:∃w1,w.alloc (.cells #[.pointer none,.slice none 0 0] 50)=w1:=⟨_,rfl⟩
 have A1:w1.heap[G]?=some (.cells #[.pointer none,.slice none 0 0] 50 (0,0)):=by rw [←hw1,←hG];exact heap_alloc_new _ _
 have B1:Below w.heap.size w w1:=by rw [←hw1];exact(Below.refl _ _).alloc (Nat.le_refl _) _
 have D1:Bd w1 G G []:=.inl ⟨Nat.le_refl _,_,A1,⟨by simp [Lib.byteCells],.inl ⟨rfl,rfl⟩⟩,by simp [Value.ownBlock]⟩
 have hG1:G≤w1.heap.size:=by rw [←hG];exact B1.size
 have CC:=hide (hc w1 G G [] (Kp.below B1 hB1) (by omega) D1 hG1 (by simpa using hl))
 have HF:=hide hf
 have HB:=hide (And.intro B1 hG1)
 have HW:=hide hw1
 clear hc hf A1 B1 D1 hw1 hl hG1
 go_enter Tryz.func19,Tryz.ntmps19
 go_upto_region 2 with fail
 rw [unhide HW]
 try rw [hG]
 go_wp2_with (rw [unhide HF])
 refine(unhide CC).mono ?_
 rintro e w2 ⟨rfl,k2⟩
 have CS:=hide (Tryz.Builder_String_any_k G G L w2 (by simpa using k2.bd) (Nat.le_trans (unhide HB).2 k2.below.size))
 have B2:=hide ((unhide HB).1.trans (by rw [hG];exact k2.below))
 clear k2 CC
 go_wp2_with fail
 refine(unhide CS).mono ?_
 rintro e w3 ⟨rfl,_,b3,_⟩
 have H3:=hide ((unhide B2).trans (by rw [hG];exact b3))
 clear b3 CS B2
 go_wp2_with fail
 go_ret
 exact⟨rfl,unhide H3⟩
def bnS (t:List UInt8):Nat:=
 if t=[124,124] then 1 else if t=[38,38] then 2 else
 if t=[61,61]∨t=[33,61]∨t=[60]∨t=[60,61]∨t=[62]∨t=[62,61] then 3 else
 if t=[43]∨t=[45] then 4 else if t=[42]∨t=[47]∨t=[37] then 5 else 0
set_option maxRecDepth 100000 in
set_option maxHeartbeats 1000000 in
theorem name_any (B0:Nat) (k vk vn p:Int) (t vs:ByteArray) (al ak a:Option Addr) (ll cl lk ck n cc:Nat) (f:Bool) (w:World):Calls Tryz.prog 43 #[.agg #[.int .i64 k,.string t,.int .i64 vk,.int .i64 vn,.string vs,.slice al ll cl,.slice ak lk ck,.bool f,.slice a n cc,.int .i64 p]] w fun e w'=>∃t',e=.returned t'∧Txt B0 w' t' t.data.toList∧Below w.heap.size w w':=by
 obtain⟨w1,hw1⟩:∃w1,w.alloc (.cells #[.int .i64 k,.string t,.int .i64 vk,.int .i64 vn,.string vs,.slice al ll cl,.slice ak lk ck,.bool f,.slice a n cc,.int .i64 p] 28)=w1:=⟨_,rfl⟩
 obtain⟨G,hG⟩:∃G,w.heap.size=G:=⟨_,rfl⟩
 have A1:w1.heap[G]?=some (.cells #[.int .i64 k,.string t,.int .i64 vk,.int .i64 vn,.string vs,.slice al ll cl,.slice ak lk ck,.bool f,.slice a n cc,.int .i64 p] 28 (0,0)):=by rw [←hw1,←hG];exact heap_alloc_new _ _
 have HB:=hide (show Below w.heap.size w w1 by rw [←hw1];exact(Below.refl _ _).alloc (Nat.le_refl _) _)
 obtain⟨_,c1,_,_,_,_,_,_,_,_⟩:=row_ten A1
 have CW:=hide (txw_any B0 t w1)
 have HW:=hide hw1
 clear A1 hw1
 go_enter Tryz.func43,Tryz.ntmps43
 go_upto_region 1 with fail
 rw [unhide HW]
 try rw [hG]
 clear HW
 go_wp2_with fail
 refine(unhide CW).mono ?_
 rintro e w2 ⟨t',rfl,h2,b2⟩
 have H2:=hide (And.intro h2 ((unhide HB).trans (b2.mono (unhide HB).size)))
 obtain⟨F,cap,rfl,_,_⟩:=h2
 clear b2 CW
 go_wp2_with fail
 go_ret
 exact⟨_,rfl,(unhide H2).1,(unhide H2).2⟩
set_option maxRecDepth 100000 in
set_option maxHeartbeats 2000000 in
theorem binds_any (k vk vn p:Int) (t vs:ByteArray) (al ak a:Option Addr) (ll cl lk ck n cc:Nat) (f:Bool) (w:World):Calls Tryz.prog 101 #[.agg #[.int .i64 k,.string t,.int .i64 vk,.int .i64 vn,.string vs,.slice al ll cl,.slice ak lk ck,.bool f,.slice a n cc,.int .i64 p]] w fun e w'=>e=.returned (.int .i64 (bnS t.toList:Int))∧Below w.heap.size w w':=by
 obtain⟨w1,hw1⟩:∃w1,w.alloc (.cells #[.int .i64 k,.string t,.int .i64 vk,.int .i64 vn,.string vs,.slice al ll cl,.slice ak lk ck,.bool f,.slice a n cc,.int .i64 p] 28)=w1:=⟨_,rfl⟩
 obtain⟨G,hG⟩:∃G,w.heap.size=G:=⟨_,rfl⟩
 have A1:w1.heap[G]?=some (.cells #[.int .i64 k,.string t,.int .i64 vk,.int .i64 vn,.string vs,.slice al ll cl,.slice ak lk ck,.bool f,.slice a n cc,.int .i64 p] 28 (0,0)):=by rw [←hw1,←hG];exact heap_alloc_new _ _
 have HX:=hide (show Below w.heap.size w w1 by rw [←hw1];exact(Below.refl _ _).alloc (Nat.le_refl _) _)
 obtain⟨_,c1,_,_,_,_,_,_,_,_⟩:=row_ten A1
 have HW:=hide hw1
 clear A1 hw1
 go_enter Tryz.func101,Tryz.ntmps101
 go_upto_region 1 with fail
 rw [unhide HW]
 try rw [hG]
 clear HW
 by_cases ht:t.toList=[124,124]
 ·have HV:=hide (show bnS t.toList=1 by rw [ht];rfl)
  go_wp2_with fail
  go_ret
  exact⟨by rw [unhide HV];rfl,unhide HX⟩
 ·have m0:¬t.toList=[124,124]:=ht
  have n0:(t.toList == [124,124])=false:=beq_eq_false_iff_ne.2 ht
  clear ht
  by_cases ht:t.toList=[38,38]
  ·have HV:=hide (show bnS t.toList=2 by rw [ht];rfl)
   clear m0
   go_wp2_with fail
   go_ret
   exact⟨by rw [unhide HV];rfl,unhide HX⟩
  ·have m1:¬t.toList=[38,38]:=ht
   have n1:(t.toList == [38,38])=false:=beq_eq_false_iff_ne.2 ht
   clear ht
   by_cases ht:t.toList=[61,61]
   ·have HV:=hide (show bnS t.toList=3 by rw [ht];rfl)
    clear m0 m1
    go_wp2_with fail
    go_ret
    exact⟨by rw [unhide HV];rfl,unhide HX⟩
   ·have m2:¬t.toList=[61,61]:=ht
    have n2:(t.toList == [61,61])=false:=beq_eq_false_iff_ne.2 ht
    clear ht
    by_cases ht:t.toList=[33,61]
    ·have HV:=hide (show bnS t.toList=3 by rw [ht];rfl)
     clear m0 m1 m2
     go_wp2_with fail
     go_ret
     exact⟨by rw [unhide HV];rfl,unhide HX⟩
    ·have m3:¬t.toList=[33,61]:=ht
     have n3:(t.toList == [33,61])=false:=beq_eq_false_iff_ne.2 ht
     clear ht
     by_cases ht:t.toList=[60]
     ·have HV:=hide (show bnS t.toList=3 by rw [ht];rfl)
      clear m0 m1 m2 m3
      go_wp2_with fail
      go_ret
      exact⟨by rw [unhide HV];rfl,unhide HX⟩
     ·have m4:¬t.toList=[60]:=ht
      have n4:(t.toList == [60])=false:=beq_eq_false_iff_ne.2 ht
      clear ht
      by_cases ht:t.toList=[60,61]
      ·have HV:=hide (show bnS t.toList=3 by rw [ht];rfl)
       clear m0 m1 m2 m3 m4
       go_wp2_with fail
       go_ret
       exact⟨by rw [unhide HV];rfl,unhide HX⟩
      ·have m5:¬t.toList=[60,61]:=ht
       have n5:(t.toList == [60,61])=false:=beq_eq_false_iff_ne.2 ht
       clear ht
       by_cases ht:t.toList=[62]
       ·have HV:=hide (show bnS t.toList=3 by rw [ht];rfl)
        clear m0 m1 m2 m3 m4 m5
        go_wp2_with fail
        go_ret
        exact⟨by rw [unhide HV];rfl,unhide HX⟩
       ·have m6:¬t.toList=[62]:=ht
        have n6:(t.toList == [62])=false:=beq_eq_false_iff_ne.2 ht
        clear ht
        by_cases ht:t.toList=[62,61]
        ·have HV:=hide (show bnS t.toList=3 by rw [ht];rfl)
         clear m0 m1 m2 m3 m4 m5 m6
         go_wp2_with fail
         go_ret
         exact⟨by rw [unhide HV];rfl,unhide HX⟩
        ·have m7:¬t.toList=[62,61]:=ht
         have n7:(t.toList == [62,61])=false:=beq_eq_false_iff_ne.2 ht
         clear ht
         by_cases ht:t.toList=[43]
         ·have HV:=hide (show bnS t.toList=4 by rw [ht];rfl)
          clear m0 m1 m2 m3 m4 m5 m6 m7
          go_wp2_with fail
          go_ret
          exact⟨by rw [unhide HV];rfl,unhide HX⟩
         ·have m8:¬t.toList=[43]:=ht
          have n8:(t.toList == [43])=false:=beq_eq_false_iff_ne.2 ht
          clear ht
          by_cases ht:t.toList=[45]
          ·have HV:=hide (show bnS t.toList=4 by rw [ht];rfl)
           clear m0 m1 m2 m3 m4 m5 m6 m7 m8
           go_wp2_with fail
           go_ret
           exact⟨by rw [unhide HV];rfl,unhide HX⟩
          ·have m9:¬t.toList=[45]:=ht
           have n9:(t.toList == [45])=false:=beq_eq_false_iff_ne.2 ht
           clear ht
           by_cases ht:t.toList=[42]
           ·have HV:=hide (show bnS t.toList=5 by rw [ht];rfl)
            clear m0 m1 m2 m3 m4 m5 m6 m7 m8 m9
            go_wp2_with fail
            go_ret
            exact⟨by rw [unhide HV];rfl,unhide HX⟩
           ·have m10:¬t.toList=[42]:=ht
            have n10:(t.toList == [42])=false:=beq_eq_false_iff_ne.2 ht
            clear ht
            by_cases ht:t.toList=[47]
            ·have HV:=hide (show bnS t.toList=5 by rw [ht];rfl)
             clear m0 m1 m2 m3 m4 m5 m6 m7 m8 m9 m10
             go_wp2_with fail
             go_ret
             exact⟨by rw [unhide HV];rfl,unhide HX⟩
            ·have m11:¬t.toList=[47]:=ht
             have n11:(t.toList == [47])=false:=beq_eq_false_iff_ne.2 ht
             clear ht
             by_cases ht:t.toList=[37]
             ·have HV:=hide (show bnS t.toList=5 by rw [ht];rfl)
              clear m0 m1 m2 m3 m4 m5 m6 m7 m8 m9 m10 m11
              go_wp2_with fail
              go_ret
              exact⟨by rw [unhide HV];rfl,unhide HX⟩
             ·have m12:¬t.toList=[37]:=ht
              have n12:(t.toList == [37])=false:=beq_eq_false_iff_ne.2 ht
              clear ht
              have HV:=hide (show bnS t.toList=0 by unfold bnS;simp only [m0,m1,m2,m3,m4,m5,m6,m7,m8,m9,m10,m11,m12,or_self,if_false,reduceIte])
              clear m0 m1 m2 m3 m4 m5 m6 m7 m8 m9 m10 m11 m12
              go_wp2_with fail
              go_ret
              exact⟨by rw [unhide HV];rfl,unhide HX⟩
def lxDig (c:UInt8):Bool:=decide (48≤c.toNat∧c.toNat≤57)
def lxLet (c:UInt8):Bool:=decide (97≤c.toNat∧c.toNat≤122∨65≤c.toNat∧c.toNat≤90∨c.toNat=95)
def lxW (c:UInt8):Bool:=lxLet c ||lxDig c
def keyL:List (List UInt8):=[[102,110],[101,120,112,111,114,116],[108,101,116],[105,102],[101,108,115,101],[119,104,105,108,101],[114,101,116,117,114,110],[98,114,101,97,107],[99,111,110,116,105,110,117,101],[116,114,117,101],[102,97,108,115,101],[117,110,105,116]]
def keyB (w:List UInt8):Bool:=keyL.contains w
end Go.Proofs.YtekbmfppfjlboaaGreatDoor
