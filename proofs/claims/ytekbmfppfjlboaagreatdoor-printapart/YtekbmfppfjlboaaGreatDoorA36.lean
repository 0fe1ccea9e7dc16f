/-
  Layer 18 (print): is a tree right (the document's); conditions: the nodes lie in memory.
-/
import Derived.Test.YtekbmfppfjlboaaGreatDoorA35
import Derived.Test.YtekbmfppfjlboaaGreatDoorA32
set_option linter.unusedVariables false
set_option linter.unusedSimpArgs false
namespace Go.Proofs.YtekbmfppfjlboaaGreatDoor
open Go.RowKit
set_option linter.unusedVariables false
set_option linter.unusedSimpArgs false
theorem kd_out {k:Int} (h:¬(1≤k∧k≤22)) (l:List Int):kdB k l=false:=by
 unfold kdB
 simp only [show ¬k=1 by omega,show ¬k=2 by omega,show ¬k=4 by omega,show ¬k=7 by omega,show ¬k=8 by omega,show ¬(k=5∨k=9) by omega,show ¬(k=6∨k=12∨k=16∨k=22∨k=20) by omega,show ¬(k=17∨k=21) by omega,show ¬(k=15∨k=18) by omega,show ¬k=19 by omega,show ¬(k=3∨k=10∨k=11∨k=13∨k=14) by omega,if_false]
theorem ddp_le (k:Int) (t:ByteArray) (M:Nat):∀(l:List Tn) (i:Nat),dpL k t i l≤M↔∀(p:Nat) (z:Tn),l[p]?=some z→arnd k t z.k z.t (i+p)+dpN z≤M
 |[],i=>by simp [dpL]
 |y :: r,i=>by
  rw [dpL_cons,Nat.max_le,ddp_le k t M r (i+1)]
  constructor
  ·rintro ⟨h1,h2⟩ p z hz
   cases p with
   |zero=>obtain rfl:=Option.some.inj hz;exact h1
   |succ p=>have:=h2 p z (by simpa using hz);rw [show i+(p+1)=i+1+p by omega];exact this
  ·intro h
   refine⟨h 0 y rfl,fun p z hz=>?_⟩
   have:=h (p+1) z (by simpa using hz)
   rw [show i+1+p=i+(p+1) by omega]
   exact this
theorem oopn_le {y:Tn} (h:rwB y=true) (hn:0<y.ks.length):opn y.k≤dpL y.k y.t 0 y.ks:=by
 obtain⟨k,t,v,f,ks,p⟩:=y
 obtain⟨_,_,hd⟩:=rw_kd h
 simp only at hd hn ⊢
 have h0:=(ddp_le k t (dpL k t 0 ks) ks 0).1 (Nat.le_refl _)
 have ho:opn k≤1:=by unfold opn;split <;> omega
 by_cases h21:k=21
 ·subst h21
  rw [kd_two (by omega)] at hd
  simp only [Bool.and_eq_true,decide_eq_true_eq,List.length_map] at hd
  have:=h0 1 _ (List.getElem?_eq_getElem (by omega))
  unfold arnd at this
  simp at this
  omega
 ·have:=h0 0 _ (List.getElem?_eq_getElem (by omega))
  unfold arnd at this
  rw [if_neg (by omega)] at this
  omega
theorem rrg_iff {y:Tn} (o:Nat) (h:rwB y=true) (hn:0<y.ks.length):(fmB y && decide (o+dpN y≤24))=true↔∀(p:Nat) (z:Tn),y.ks[p]?=some z→fmB z=true∧o+arnd y.k y.t z.k z.t p+dpN z≤24:=by
 have h1:=oopn_le h hn
 have h2:dpN y=dpL y.k y.t 0 y.ks:=by unfold dpN;omega
 unfold fmB
 rw [h,Bool.true_and,Bool.and_eq_true,decide_eq_true_iff,fmL_all,List.all_eq_true,h2]
 constructor
 ·rintro ⟨a,b⟩ p z hz
  have:=(ddp_le y.k y.t (24 - o) y.ks 0).1 (by omega) p z hz
  rw [Nat.zero_add] at this
  have hb:=(ddp_le y.k y.t (dpL y.k y.t 0 y.ks) y.ks 0).1 (Nat.le_refl _) p z hz
  rw [Nat.zero_add] at hb
  exact⟨a z (List.mem_of_getElem? hz),by omega⟩
 ·intro hh
  have ho:o≤24:=by have:=(hh 0 _ (List.getElem?_eq_getElem hn)).2;omega
  refine⟨fun z hz=>?_,?_⟩
  ·obtain⟨p,hp⟩:=List.getElem?_of_mem hz
   exact(hh p z hp).1
  ·have:=(ddp_le y.k y.t (24 - o) y.ks 0).2 (fun p z hz=>by have:=(hh p z hz).2;rw [Nat.zero_add];omega)
   omega
theorem rrg_none {y:Tn} (o:Nat) (h:rwB y=true) (hn:y.ks=[]) (c:Nat) (hc:opn y.k=c):(fmB y && decide (o+dpN y≤24))=decide (o+c≤24):=by
 have h2:dpN y=c:=by unfold dpN;rw [hn,hc];simp [dpL]
 unfold fmB
 rw [h,hn,h2]
 simp [fmL]
set_option maxRecDepth 100000 in
set_option maxHeartbeats 4000000 in
theorem ropens_any (i:Nat) (z:Tn) (B0:Nat) (y:Tn) (x:List Value) (w:World) (hB:B0≤w.heap.size) (hx:IsN w (fun b=>b<B0) y x) (hz:y.ks[i]?=some z) (h21:y.k=21→i≤1) :
  Calls Tryz.prog 51 #[.agg x.toArray,.int .i64 (i:Int)] w fun e w'=>e=.returned (.int .i64 (arnd y.k y.t z.k z.t i:Int))∧Below w.heap.size w w':=by
 have hx0:=hx
 obtain⟨vk,vn,vs,al,ak,a,ll,cl,lk,ck,cc,rfl,hvv,hr,hbk,hbp⟩:=hx.opn
 obtain⟨k,t,v,f,ks,p⟩:=y
 obtain⟨n,hn⟩:∃n,ks.length=n:=⟨_,rfl⟩
 have hnb:n≤140737488351232:=by rw [←hn];exact hr.len
 simp only [hn] at hx0 hvv hr hbk hbp ⊢
 obtain⟨R,hR⟩:∃R,(.int .i64 (arnd k t z.k z.t i:Int):Value)=R:=⟨_,rfl⟩
 rw [hR]
 have HR:=hide hR
 simp only at hz h21
 have HZ:=hide hz
 obtain⟨w1,hw1⟩:∃w1,w.alloc (.cells #[.int .i64 k,.string t,.int .i64 vk,.int .i64 vn,.string vs,.slice al ll cl,.slice ak lk ck,.bool f,.slice a n cc,.int .i64 p] 28)=w1:=⟨_,rfl⟩
 obtain⟨G,hG⟩:∃G,w.heap.size=G:=⟨_,rfl⟩
 have A1:w1.heap[G]?=some (.cells #[.int .i64 k,.string t,.int .i64 vk,.int .i64 vn,.string vs,.slice al ll cl,.slice ak lk ck,.bool f,.slice a n cc,.int .i64 p] 28 (0,0)):=by rw [←hw1,←hG];exact heap_alloc_new _ _
 have X1:Below G w w1:=by rw [←hw1,←hG];exact(Below.refl _ _).alloc (Nat.le_refl _) _
 have hBG:B0≤G:=by rw [←hG];exact hB
 have HM:Hid (∀u,Below w1.heap.size w1 u→IsN u (fun b=>b<B0) ⟨k,t,v,f,ks,p⟩ [.int .i64 k,.string t,.int .i64 vk,.int .i64 vn,.string vs,.slice al ll cl,.slice ak lk ck,.bool f,.slice a n cc,.int .i64 p]∧RowN u B0 ks a cc∧B0≤u.heap.size∧IsV u B0 v (.agg #[.int .i64 vk,.int .i64 vn,.string vs,.slice al ll cl,.slice ak lk ck])∧Below G w u):=hide (fun u hu=>by
  have h2:=X1.trans (hu.mono (Nat.le_of_lt (lt_of_row A1)))
  exact⟨hx0.laterB (h2.mono hBG),hr.later (h2.mono hBG),Nat.le_trans hBG (by rw [←hG];exact h2.size),hvv.mono (h2.mono hBG),h2⟩)
 have HF:Hid (∀u,Below w1.heap.size w1 u→u.cell? ⟨G,0,none⟩=some (.int .i64 k)∧u.cell? ⟨G,1,none⟩=some (.string t)∧u.cell? ⟨G,2,none⟩=some (.int .i64 vk)∧u.cell? ⟨G,3,none⟩=some (.int .i64 vn)∧u.cell? ⟨G,4,none⟩=some (.string vs)∧u.cell? ⟨G,5,none⟩=some (.slice al ll cl)∧u.cell? ⟨G,6,none⟩=some (.slice ak lk ck)∧u.cell? ⟨G,7,none⟩=some (.bool f)∧u.cell? ⟨G,8,none⟩=some (.slice a n cc)∧u.cell? ⟨G,9,none⟩=some (.int .i64 p)):=hide (fun u hu=>row_ten (Below.cellsAt hu A1))
 have HN:=hide hn
 have HS0:Hid (Below w1.heap.size w1 w1):=hide (Below.refl _ _)
 have HW:=hide hw1
 clear hz A1 X1 hw1 hx hx0 hr hvv hB hBG hn hR
 go_enter Tryz.func51,Tryz.ntmps51
 go_upto_region 1 with fail
 rw [unhide HW]
 try rw [hG]
 clear HW
 obtain⟨x0,x1,x2,x3,x4,x5,x6,x7,x8,x9⟩:=unhide HF w1 (Below.refl _ _)
 by_cases h4:k=4
 ·subst h4
  have CE:=hide (risex_any 4 w1)
  rw [show isEx 4=false from rfl] at CE
  go_wp2_with fail
  refine(unhide CE).mono ?_
  rintro e w2 ⟨rfl,bb⟩
  have HS2:=hide bb
  clear bb CE x0 x1 x2 x3 x4 x5 x6 x7 x8 x9
  obtain⟨x0,x1,x2,x3,x4,x5,x6,x7,x8,x9⟩:=unhide HF w2 (unhide HS2)
  have HV:=hide (show R=.int .i64 1 by rw [←unhide HR];simp [arnd,opn,brk])
  clear HR
  go_wp2_with fail
  go_ret
  have hbz:=((unhide HM) w2 (unhide HS2)).2.2.2.2
  exact⟨by rw [unhide HV] <;> rfl,by first|exact hbz|(rw [hG];exact hbz)⟩
 have b4:(k == 4)=false:=by simpa using h4
 by_cases h16:k=16
 ·subst h16
  have CE:=hide (risex_any 16 w1)
  rw [show isEx 16=true from rfl] at CE
  go_wp2_with fail
  refine(unhide CE).mono ?_
  rintro e w2 ⟨rfl,bb⟩
  have HS2:=hide bb
  clear bb CE x0 x1 x2 x3 x4 x5 x6 x7 x8 x9
  obtain⟨x0,x1,x2,x3,x4,x5,x6,x7,x8,x9⟩:=unhide HF w2 (unhide HS2)
  have CB:=hide (rbracket_any i z B0 ⟨16,t,v,f,ks,p⟩ _ w2 ((unhide HM) w2 (unhide HS2)).2.2.1 ((unhide HM) w2 (unhide HS2)).1 (unhide HZ))
  obtain⟨Q,hQ⟩:∃Q,brk 16 t z.k z.t i=Q:=⟨_,rfl⟩
  simp only at CB
  rw [hQ] at CB
  have HQ:=hide hQ
  clear hQ
  go_wp2_with fail
  refine(unhide CB).mono ?_
  rintro e w3 ⟨rfl,bb⟩
  have HS3:=hide ((unhide HS2).trans (bb.mono (unhide HS2).size))
  clear bb CB x0 x1 x2 x3 x4 x5 x6 x7 x8 x9
  cases Q with
  |false=>
   have HV:=hide (show R=.int .i64 (1) by rw [←unhide HR];unfold arnd;rw [unhide HQ];simp [opn])
   clear HR HQ
   go_wp2_with fail
   go_ret
   have hbz:=((unhide HM) w3 (unhide HS3)).2.2.2.2
   exact⟨by rw [unhide HV] <;> rfl,by first|exact hbz|(rw [hG];exact hbz)⟩
  |true=>
   have HV:=hide (show R=.int .i64 2 by rw [←unhide HR];unfold arnd;rw [unhide HQ];simp [opn])
   clear HR HQ
   have hw:IntKind.i64.wrap (1+1)=1+1:=by rw [IntKind.wrap_i64];omega
   go_wp2_with fail
   go_ret
   have hbz:=((unhide HM) w3 (unhide HS3)).2.2.2.2
   exact⟨by rw [unhide HV] <;> rfl,by first|exact hbz|(rw [hG];exact hbz)⟩
 have b16:(k == 16)=false:=by simpa using h16
 by_cases h15:k=15
 ·subst h15
  have CE:=hide (risex_any 15 w1)
  rw [show isEx 15=true from rfl] at CE
  go_wp2_with fail
  refine(unhide CE).mono ?_
  rintro e w2 ⟨rfl,bb⟩
  have HS2:=hide bb
  clear bb CE x0 x1 x2 x3 x4 x5 x6 x7 x8 x9
  obtain⟨x0,x1,x2,x3,x4,x5,x6,x7,x8,x9⟩:=unhide HF w2 (unhide HS2)
  have CB:=hide (rbracket_any i z B0 ⟨15,t,v,f,ks,p⟩ _ w2 ((unhide HM) w2 (unhide HS2)).2.2.1 ((unhide HM) w2 (unhide HS2)).1 (unhide HZ))
  obtain⟨Q,hQ⟩:∃Q,brk 15 t z.k z.t i=Q:=⟨_,rfl⟩
  simp only at CB
  rw [hQ] at CB
  have HQ:=hide hQ
  clear hQ
  go_wp2_with fail
  refine(unhide CB).mono ?_
  rintro e w3 ⟨rfl,bb⟩
  have HS3:=hide ((unhide HS2).trans (bb.mono (unhide HS2).size))
  clear bb CB x0 x1 x2 x3 x4 x5 x6 x7 x8 x9
  cases Q with
  |false=>
   have HV:=hide (show R=.int .i64 (1) by rw [←unhide HR];unfold arnd;rw [unhide HQ];simp [opn])
   clear HR HQ
   go_wp2_with fail
   go_ret
   have hbz:=((unhide HM) w3 (unhide HS3)).2.2.2.2
   exact⟨by rw [unhide HV] <;> rfl,by first|exact hbz|(rw [hG];exact hbz)⟩
  |true=>
   have HV:=hide (show R=.int .i64 2 by rw [←unhide HR];unfold arnd;rw [unhide HQ];simp [opn])
   clear HR HQ
   have hw:IntKind.i64.wrap (1+1)=1+1:=by rw [IntKind.wrap_i64];omega
   go_wp2_with fail
   go_ret
   have hbz:=((unhide HM) w3 (unhide HS3)).2.2.2.2
   exact⟨by rw [unhide HV] <;> rfl,by first|exact hbz|(rw [hG];exact hbz)⟩
 have b15:(k == 15)=false:=by simpa using h15
 by_cases h18:k=18
 ·subst h18
  have CE:=hide (risex_any 18 w1)
  rw [show isEx 18=true from rfl] at CE
  go_wp2_with fail
  refine(unhide CE).mono ?_
  rintro e w2 ⟨rfl,bb⟩
  have HS2:=hide bb
  clear bb CE x0 x1 x2 x3 x4 x5 x6 x7 x8 x9
  obtain⟨x0,x1,x2,x3,x4,x5,x6,x7,x8,x9⟩:=unhide HF w2 (unhide HS2)
  have CB:=hide (rbracket_any i z B0 ⟨18,t,v,f,ks,p⟩ _ w2 ((unhide HM) w2 (unhide HS2)).2.2.1 ((unhide HM) w2 (unhide HS2)).1 (unhide HZ))
  obtain⟨Q,hQ⟩:∃Q,brk 18 t z.k z.t i=Q:=⟨_,rfl⟩
  simp only at CB
  rw [hQ] at CB
  have HQ:=hide hQ
  clear hQ
  go_wp2_with fail
  refine(unhide CB).mono ?_
  rintro e w3 ⟨rfl,bb⟩
  have HS3:=hide ((unhide HS2).trans (bb.mono (unhide HS2).size))
  clear bb CB x0 x1 x2 x3 x4 x5 x6 x7 x8 x9
  cases Q with
  |false=>
   have HV:=hide (show R=.int .i64 (1) by rw [←unhide HR];unfold arnd;rw [unhide HQ];simp [opn])
   clear HR HQ
   go_wp2_with fail
   go_ret
   have hbz:=((unhide HM) w3 (unhide HS3)).2.2.2.2
   exact⟨by rw [unhide HV] <;> rfl,by first|exact hbz|(rw [hG];exact hbz)⟩
  |true=>
   have HV:=hide (show R=.int .i64 2 by rw [←unhide HR];unfold arnd;rw [unhide HQ];simp [opn])
   clear HR HQ
   have hw:IntKind.i64.wrap (1+1)=1+1:=by rw [IntKind.wrap_i64];omega
   go_wp2_with fail
   go_ret
   have hbz:=((unhide HM) w3 (unhide HS3)).2.2.2.2
   exact⟨by rw [unhide HV] <;> rfl,by first|exact hbz|(rw [hG];exact hbz)⟩
 have b18:(k == 18)=false:=by simpa using h18
 by_cases h19:k=19
 ·subst h19
  have CE:=hide (risex_any 19 w1)
  rw [show isEx 19=true from rfl] at CE
  go_wp2_with fail
  refine(unhide CE).mono ?_
  rintro e w2 ⟨rfl,bb⟩
  have HS2:=hide bb
  clear bb CE x0 x1 x2 x3 x4 x5 x6 x7 x8 x9
  obtain⟨x0,x1,x2,x3,x4,x5,x6,x7,x8,x9⟩:=unhide HF w2 (unhide HS2)
  have HV:=hide (show R=.int .i64 1 by rw [←unhide HR];simp [arnd,opn,brk])
  clear HR
  go_wp2_with fail
  go_ret
  have hbz:=((unhide HM) w2 (unhide HS2)).2.2.2.2
  exact⟨by rw [unhide HV] <;> rfl,by first|exact hbz|(rw [hG];exact hbz)⟩
 have b19:(k == 19)=false:=by simpa using h19
 by_cases g21:k=21
 ·have hi1:=h21 g21
  subst g21
  have hi01:i=0∨i=1:=by omega
  rcases hi01 with rfl|rfl
  ·have CE:=hide (risex_any 21 w1)
   rw [show isEx 21=true from rfl] at CE
   go_wp2_with fail
   refine(unhide CE).mono ?_
   rintro e w2 ⟨rfl,bb⟩
   have HS2:=hide bb
   clear bb CE x0 x1 x2 x3 x4 x5 x6 x7 x8 x9
   obtain⟨x0,x1,x2,x3,x4,x5,x6,x7,x8,x9⟩:=unhide HF w2 (unhide HS2)
   have CB:=hide (rbracket_any 0 z B0 ⟨21,t,v,f,ks,p⟩ _ w2 ((unhide HM) w2 (unhide HS2)).2.2.1 ((unhide HM) w2 (unhide HS2)).1 (unhide HZ))
   obtain⟨Q,hQ⟩:∃Q,brk 21 t z.k z.t 0=Q:=⟨_,rfl⟩
   simp only at CB
   rw [hQ] at CB
   have HQ:=hide hQ
   clear hQ
   go_wp2_with fail
   refine(unhide CB).mono ?_
   rintro e w3 ⟨rfl,bb⟩
   have HS3:=hide ((unhide HS2).trans (bb.mono (unhide HS2).size))
   clear bb CB x0 x1 x2 x3 x4 x5 x6 x7 x8 x9
   cases Q with
   |false=>
    have HV:=hide (show R=.int .i64 (0) by rw [←unhide HR];unfold arnd;rw [unhide HQ];simp [opn])
    clear HR HQ
    go_wp2_with fail
    go_ret
    have hbz:=((unhide HM) w3 (unhide HS3)).2.2.2.2
    exact⟨by rw [unhide HV] <;> rfl,by first|exact hbz|(rw [hG];exact hbz)⟩
   |true=>
    have HV:=hide (show R=.int .i64 1 by rw [←unhide HR];unfold arnd;rw [unhide HQ];simp [opn])
    clear HR HQ
    have hw:IntKind.i64.wrap 1=0+1:=by rw [IntKind.wrap_i64];omega
    go_wp2_with fail
    go_ret
    have hbz:=((unhide HM) w3 (unhide HS3)).2.2.2.2
    exact⟨by rw [unhide HV] <;> rfl,by first|exact hbz|(rw [hG];exact hbz)⟩
  ·have CE:=hide (risex_any 21 w1)
   rw [show isEx 21=true from rfl] at CE
   go_wp2_with fail
   refine(unhide CE).mono ?_
   rintro e w2 ⟨rfl,bb⟩
   have HS2:=hide bb
   clear bb CE x0 x1 x2 x3 x4 x5 x6 x7 x8 x9
   obtain⟨x0,x1,x2,x3,x4,x5,x6,x7,x8,x9⟩:=unhide HF w2 (unhide HS2)
   have CB:=hide (rbracket_any 1 z B0 ⟨21,t,v,f,ks,p⟩ _ w2 ((unhide HM) w2 (unhide HS2)).2.2.1 ((unhide HM) w2 (unhide HS2)).1 (unhide HZ))
   obtain⟨Q,hQ⟩:∃Q,brk 21 t z.k z.t 1=Q:=⟨_,rfl⟩
   simp only at CB
   rw [hQ] at CB
   have HQ:=hide hQ
   clear hQ
   go_wp2_with fail
   refine(unhide CB).mono ?_
   rintro e w3 ⟨rfl,bb⟩
   have HS3:=hide ((unhide HS2).trans (bb.mono (unhide HS2).size))
   clear bb CB x0 x1 x2 x3 x4 x5 x6 x7 x8 x9
   cases Q with
   |false=>
    have HV:=hide (show R=.int .i64 (1) by rw [←unhide HR];unfold arnd;rw [unhide HQ];simp [opn])
    clear HR HQ
    go_wp2_with fail
    go_ret
    have hbz:=((unhide HM) w3 (unhide HS3)).2.2.2.2
    exact⟨by rw [unhide HV] <;> rfl,by first|exact hbz|(rw [hG];exact hbz)⟩
   |true=>
    have HV:=hide (show R=.int .i64 2 by rw [←unhide HR];unfold arnd;rw [unhide HQ];simp [opn])
    clear HR HQ
    have hw:IntKind.i64.wrap (1+1)=1+1:=by rw [IntKind.wrap_i64];omega
    go_wp2_with fail
    go_ret
    have hbz:=((unhide HM) w3 (unhide HS3)).2.2.2.2
    exact⟨by rw [unhide HV] <;> rfl,by first|exact hbz|(rw [hG];exact hbz)⟩
 have b21:(k == 21)=false:=by simpa using g21
 have hop:opn k=0:=by unfold opn;rw [if_neg (by omega)]
 have b19:(k != 19)=true:=by simpa using h19
 have CE:=hide (risex_any k w1)
 obtain⟨r,hr9⟩:∃r,isEx k=r:=⟨_,rfl⟩
 rw [hr9] at CE
 have HRR:=hide (And.intro hr9 hop)
 clear hr9 hop
 go_wp2_with fail
 refine(unhide CE).mono ?_
 rintro e w2 ⟨rfl,bb⟩
 have HS2:=hide bb
 clear bb CE x0 x1 x2 x3 x4 x5 x6 x7 x8 x9
 obtain⟨x0,x1,x2,x3,x4,x5,x6,x7,x8,x9⟩:=unhide HF w2 (unhide HS2)
 cases r with
 |false=>
  have hbf:brk k t z.k z.t i=false:=by
    have hx:=(unhide HRR).1
    unfold isEx at hx
    rw [decide_eq_false_iff_not] at hx
    unfold brk
    rw [if_neg (by omega),if_neg (by omega),if_neg (by omega)]
  have HV:=hide (show R=.int .i64 0 by rw [←unhide HR];unfold arnd;rw [hbf,(unhide HRR).2];simp)
  clear HR hbf
  go_wp2_with fail
  go_ret
  have hbz:=((unhide HM) w2 (unhide HS2)).2.2.2.2
  exact⟨by rw [unhide HV] <;> rfl,by first|exact hbz|(rw [hG];exact hbz)⟩
 |true=>
  have CB:=hide (rbracket_any i z B0 ⟨k,t,v,f,ks,p⟩ _ w2 ((unhide HM) w2 (unhide HS2)).2.2.1 ((unhide HM) w2 (unhide HS2)).1 (unhide HZ))
  obtain⟨Q,hQ⟩:∃Q,brk k t z.k z.t i=Q:=⟨_,rfl⟩
  simp only at CB
  rw [hQ] at CB
  have HQ:=hide hQ
  clear hQ
  go_wp2_with fail
  refine(unhide CB).mono ?_
  rintro e w3 ⟨rfl,bb⟩
  have HS3:=hide ((unhide HS2).trans (bb.mono (unhide HS2).size))
  clear bb CB x0 x1 x2 x3 x4 x5 x6 x7 x8 x9
  cases Q with
  |false=>
   have HV:=hide (show R=.int .i64 (0) by rw [←unhide HR];unfold arnd;rw [unhide HQ,(unhide HRR).2];simp)
   clear HR HQ
   go_wp2_with fail
   go_ret
   have hbz:=((unhide HM) w3 (unhide HS3)).2.2.2.2
   exact⟨by rw [unhide HV] <;> rfl,by first|exact hbz|(rw [hG];exact hbz)⟩
  |true=>
   have HV:=hide (show R=.int .i64 1 by rw [←unhide HR];unfold arnd;rw [unhide HQ,(unhide HRR).2];simp)
   clear HR HQ
   have hw:IntKind.i64.wrap 1=0+1:=by rw [IntKind.wrap_i64];omega
   go_wp2_with fail
   go_ret
   have hbz:=((unhide HM) w3 (unhide HS3)).2.2.2.2
   exact⟨by rw [unhide HV] <;> rfl,by first|exact hbz|(rw [hG];exact hbz)⟩
def RgAt (N:Nat):Prop:=∀(B0:Nat) (y:Tn) (x:List Value) (o:Nat) (w:World),cns [y]≤N→B0≤w.heap.size→IsN w (fun b=>b<B0) y x→o≤24 →
  Calls Tryz.prog 27 #[.agg x.toArray,.int .i64 (o:Int)] w fun e w'=>e=.returned (.bool (fmB y && decide (o+dpN y≤24)))∧Below w.heap.size w w'
set_option maxRecDepth 100000 in
set_option maxHeartbeats 4000000 in
theorem rrg_step (N:Nat) (ih:RgAt N):RgAt (N+1):=by
 intro B0 y x o w hN hB hx ho
 have hx0:=hx
 obtain⟨vk,vn,vs,al,ak,a,ll,cl,lk,ck,cc,rfl,hvv,hr,hbk,hbp⟩:=hx.opn
 obtain⟨k,t,v,f,ks,p⟩:=y
 obtain⟨n,hn⟩:∃n,ks.length=n:=⟨_,rfl⟩
 have hnb:n≤140737488351232:=by rw [←hn];exact hr.len
 simp only [hn] at hx0 hvv hr hbk hbp ⊢
 obtain⟨R,hR⟩:∃R,(.bool (fmB ⟨k,t,v,f,ks,p⟩ && decide (o+dpN ⟨k,t,v,f,ks,p⟩≤24)):Value)=R:=⟨_,rfl⟩
 rw [hR]
 have HR:=hide hR
 obtain⟨w1,hw1⟩:∃w1,w.alloc (.cells #[.int .i64 k,.string t,.int .i64 vk,.int .i64 vn,.string vs,.slice al ll cl,.slice ak lk ck,.bool f,.slice a n cc,.int .i64 p] 28)=w1:=⟨_,rfl⟩
 obtain⟨G,hG⟩:∃G,w.heap.size=G:=⟨_,rfl⟩
 have A1:w1.heap[G]?=some (.cells #[.int .i64 k,.string t,.int .i64 vk,.int .i64 vn,.string vs,.slice al ll cl,.slice ak lk ck,.bool f,.slice a n cc,.int .i64 p] 28 (0,0)):=by rw [←hw1,←hG];exact heap_alloc_new _ _
 have X1:Below G w w1:=by rw [←hw1,←hG];exact(Below.refl _ _).alloc (Nat.le_refl _) _
 have hBG:B0≤G:=by rw [←hG];exact hB
 have HM:Hid (∀u,Below w1.heap.size w1 u→IsN u (fun b=>b<B0) ⟨k,t,v,f,ks,p⟩ [.int .i64 k,.string t,.int .i64 vk,.int .i64 vn,.string vs,.slice al ll cl,.slice ak lk ck,.bool f,.slice a n cc,.int .i64 p]∧RowN u B0 ks a cc∧B0≤u.heap.size∧IsV u B0 v (.agg #[.int .i64 vk,.int .i64 vn,.string vs,.slice al ll cl,.slice ak lk ck])∧Below G w u):=hide (fun u hu=>by
  have h2:=X1.trans (hu.mono (Nat.le_of_lt (lt_of_row A1)))
  exact⟨hx0.laterB (h2.mono hBG),hr.later (h2.mono hBG),Nat.le_trans hBG (by rw [←hG];exact h2.size),hvv.mono (h2.mono hBG),h2⟩)
 have HF:Hid (∀u,Below w1.heap.size w1 u→u.cell? ⟨G,0,none⟩=some (.int .i64 k)∧u.cell? ⟨G,1,none⟩=some (.string t)∧u.cell? ⟨G,2,none⟩=some (.int .i64 vk)∧u.cell? ⟨G,3,none⟩=some (.int .i64 vn)∧u.cell? ⟨G,4,none⟩=some (.string vs)∧u.cell? ⟨G,5,none⟩=some (.slice al ll cl)∧u.cell? ⟨G,6,none⟩=some (.slice ak lk ck)∧u.cell? ⟨G,7,none⟩=some (.bool f)∧u.cell? ⟨G,8,none⟩=some (.slice a n cc)∧u.cell? ⟨G,9,none⟩=some (.int .i64 p)):=hide (fun u hu=>row_ten (Below.cellsAt hu A1))
 have HN:=hide hn
 have HS0:Hid (Below w1.heap.size w1 w1):=hide (Below.refl _ _)
 have HW:=hide hw1
 have hsub:∀z∈ks,cns [z]≤N:=fun z hz=>by
  have h1:=cns_mem ks z hz
  rw [cns_one] at hN
  simp only at hN
  omega
 have HSub:=hide hsub
 clear hsub hN
 clear A1 X1 hw1 hx hx0 hr hvv hB hBG hn hR
 go_enter Tryz.func27,Tryz.ntmps27
 go_upto_region 1 with fail
 rw [unhide HW]
 try rw [hG]
 clear HW
 obtain⟨x0,x1,x2,x3,x4,x5,x6,x7,x8,x9⟩:=unhide HF w1 (Below.refl _ _)
 have CP:=hide (rplain_any B0 ⟨k,t,v,f,ks,p⟩ _ w1 ((unhide HM) w1 (unhide HS0)).2.2.1 ((unhide HM) w1 (unhide HS0)).1)
 obtain⟨q1,hq1⟩:∃q,(txB k t && flB k f && vlB k v)=q:=⟨_,rfl⟩
 simp only at CP
 rw [hq1] at CP
 have HQ1:=hide hq1
 clear hq1
 go_wp2_with fail
 refine(unhide CP).mono ?_
 rintro e w2 ⟨rfl,bb⟩
 have HS2:=hide bb
 clear bb CP x0 x1 x2 x3 x4 x5 x6 x7 x8 x9
 obtain⟨x0,x1,x2,x3,x4,x5,x6,x7,x8,x9⟩:=unhide HF w2 (unhide HS2)
 have CK:=hide (rkids_any B0 ⟨k,t,v,f,ks,p⟩ _ w2 ((unhide HM) w2 (unhide HS2)).2.2.1 ((unhide HM) w2 (unhide HS2)).1)
 simp only at CK
 go_wp2_with fail
 refine(unhide CK).mono ?_
 rintro e w3 ⟨⟨q2,rfl,hq2⟩,bb⟩
 have HQ2:=hide hq2
 have HS3:=hide ((unhide HS2).trans (bb.mono (unhide HS2).size))
 clear bb CK hq2 x0 x1 x2 x3 x4 x5 x6 x7 x8 x9
 obtain⟨x0,x1,x2,x3,x4,x5,x6,x7,x8,x9⟩:=unhide HF w3 (unhide HS3)
 cases q1 with
 |false=>
  have HV:=hide (show R=.bool false by rw [←unhide HR];unfold fmB rwB;rw [unhide HQ1];simp)
  go_wp2_with fail
  go_ret
  have hbz:=((unhide HM) w3 (unhide HS3)).2.2.2.2
  exact⟨by rw [unhide HV] <;> rfl,by first|exact hbz|(rw [hG];exact hbz)⟩
 |true=>
  by_cases hk:1≤k∧k≤22
  ·have k1:¬k<1:=by omega
   have k2:¬22<k:=by omega
   have hkd:=unhide HQ2 hk.1 hk.2
   cases q2 with
   |false=>
    have HV:=hide (show R=.bool false by rw [←unhide HR];unfold fmB rwB;rw [←hkd];simp)
    go_wp2_with fail
    go_ret
    have hbz:=((unhide HM) w3 (unhide HS3)).2.2.2.2
    exact⟨by rw [unhide HV] <;> rfl,by first|exact hbz|(rw [hG];exact hbz)⟩
   |true=>
    have HRW:=hide (show rwB ⟨k,t,v,f,ks,p⟩=true by unfold rwB;rw [unhide HQ1,←hkd];rfl)
    clear hkd HQ1 HQ2
    by_cases hn0:n=0
    ·subst hn0
     have hks:ks=[]:=List.length_eq_zero_iff.1 (unhide HN)
     have HKS:=hide hks
     clear hks
     by_cases h4:k=4
     ·subst h4
      have HV0:=hide (show R=.bool (decide (o+1≤24)) by rw [←unhide HR];rw [rrg_none o (unhide HRW) (unhide HKS) 1 rfl])
      clear HR
      by_cases ho1:o+1≤24
      ·have o1:¬(24:Int)<(o:Int)+1:=by omega
       have o2:IntKind.i64.wrap ((o:Int)+1)=(o:Int)+1:=by rw [IntKind.wrap_i64];omega
       have HV:=hide (show R=.bool true by rw [unhide HV0,decide_eq_true ho1])
       clear HV0
       go_wp2_with fail
       go_loopw [8] (fun x w9=>x=.int .i64 0∧Hid (Below w1.heap.size w1 w9)) (fun _ _=>0)
       case atStart=>exact⟨rfl,HS3⟩
       case round=>
        obtain⟨rfl,HX9⟩:=hrel
        obtain⟨w8,hw8⟩:∃u,u=wr:=⟨_,rfl⟩
        subst hw8
        obtain⟨x0,x1,x2,x3,x4,x5,x6,x7,x8,x9⟩:=unhide HF w8 (unhide HX9)
        go_wp2_with fail
        go_ret
        have hbz:=((unhide HM) w8 (unhide HX9)).2.2.2.2
        exact⟨by rw [unhide HV] <;> rfl,by first|exact hbz|(rw [hG];exact hbz)⟩
      ·have o1:(24:Int)<(o:Int)+1:=by omega
       have o2:IntKind.i64.wrap ((o:Int)+1)=(o:Int)+1:=by rw [IntKind.wrap_i64];omega
       have HV:=hide (show R=.bool false by rw [unhide HV0,decide_eq_false ho1])
       clear HV0
       go_wp2_with fail
       go_ret
       have hbz:=((unhide HM) w3 (unhide HS3)).2.2.2.2
       exact⟨by rw [unhide HV] <;> rfl,by first|exact hbz|(rw [hG];exact hbz)⟩
     have b4:(k == 4)=false:=by simpa using h4
     by_cases h15:k=15
     ·subst h15
      have HV0:=hide (show R=.bool (decide (o+1≤24)) by rw [←unhide HR];rw [rrg_none o (unhide HRW) (unhide HKS) 1 rfl])
      clear HR
      by_cases ho1:o+1≤24
      ·have o1:¬(24:Int)<(o:Int)+1:=by omega
       have o2:IntKind.i64.wrap ((o:Int)+1)=(o:Int)+1:=by rw [IntKind.wrap_i64];omega
       have HV:=hide (show R=.bool true by rw [unhide HV0,decide_eq_true ho1])
       clear HV0
       go_wp2_with fail
       go_loopw [8] (fun x w9=>x=.int .i64 0∧Hid (Below w1.heap.size w1 w9)) (fun _ _=>0)
       case atStart=>exact⟨rfl,HS3⟩
       case round=>
        obtain⟨rfl,HX9⟩:=hrel
        obtain⟨w8,hw8⟩:∃u,u=wr:=⟨_,rfl⟩
        subst hw8
        obtain⟨x0,x1,x2,x3,x4,x5,x6,x7,x8,x9⟩:=unhide HF w8 (unhide HX9)
        go_wp2_with fail
        go_ret
        have hbz:=((unhide HM) w8 (unhide HX9)).2.2.2.2
        exact⟨by rw [unhide HV] <;> rfl,by first|exact hbz|(rw [hG];exact hbz)⟩
      ·have o1:(24:Int)<(o:Int)+1:=by omega
       have o2:IntKind.i64.wrap ((o:Int)+1)=(o:Int)+1:=by rw [IntKind.wrap_i64];omega
       have HV:=hide (show R=.bool false by rw [unhide HV0,decide_eq_false ho1])
       clear HV0
       go_wp2_with fail
       go_ret
       have hbz:=((unhide HM) w3 (unhide HS3)).2.2.2.2
       exact⟨by rw [unhide HV] <;> rfl,by first|exact hbz|(rw [hG];exact hbz)⟩
     have b15:(k == 15)=false:=by simpa using h15
     by_cases h18:k=18
     ·subst h18
      have HV0:=hide (show R=.bool (decide (o+1≤24)) by rw [←unhide HR];rw [rrg_none o (unhide HRW) (unhide HKS) 1 rfl])
      clear HR
      by_cases ho1:o+1≤24
      ·have o1:¬(24:Int)<(o:Int)+1:=by omega
       have o2:IntKind.i64.wrap ((o:Int)+1)=(o:Int)+1:=by rw [IntKind.wrap_i64];omega
       have HV:=hide (show R=.bool true by rw [unhide HV0,decide_eq_true ho1])
       clear HV0
       go_wp2_with fail
       go_loopw [8] (fun x w9=>x=.int .i64 0∧Hid (Below w1.heap.size w1 w9)) (fun _ _=>0)
       case atStart=>exact⟨rfl,HS3⟩
       case round=>
        obtain⟨rfl,HX9⟩:=hrel
        obtain⟨w8,hw8⟩:∃u,u=wr:=⟨_,rfl⟩
        subst hw8
        obtain⟨x0,x1,x2,x3,x4,x5,x6,x7,x8,x9⟩:=unhide HF w8 (unhide HX9)
        go_wp2_with fail
        go_ret
        have hbz:=((unhide HM) w8 (unhide HX9)).2.2.2.2
        exact⟨by rw [unhide HV] <;> rfl,by first|exact hbz|(rw [hG];exact hbz)⟩
      ·have o1:(24:Int)<(o:Int)+1:=by omega
       have o2:IntKind.i64.wrap ((o:Int)+1)=(o:Int)+1:=by rw [IntKind.wrap_i64];omega
       have HV:=hide (show R=.bool false by rw [unhide HV0,decide_eq_false ho1])
       clear HV0
       go_wp2_with fail
       go_ret
       have hbz:=((unhide HM) w3 (unhide HS3)).2.2.2.2
       exact⟨by rw [unhide HV] <;> rfl,by first|exact hbz|(rw [hG];exact hbz)⟩
     have b18:(k == 18)=false:=by simpa using h18
     by_cases h19:k=19
     ·subst h19
      have HV0:=hide (show R=.bool (decide (o+1≤24)) by rw [←unhide HR];rw [rrg_none o (unhide HRW) (unhide HKS) 1 rfl])
      clear HR
      by_cases ho1:o+1≤24
      ·have o1:¬(24:Int)<(o:Int)+1:=by omega
       have o2:IntKind.i64.wrap ((o:Int)+1)=(o:Int)+1:=by rw [IntKind.wrap_i64];omega
       have HV:=hide (show R=.bool true by rw [unhide HV0,decide_eq_true ho1])
       clear HV0
       go_wp2_with fail
       go_loopw [8] (fun x w9=>x=.int .i64 0∧Hid (Below w1.heap.size w1 w9)) (fun _ _=>0)
       case atStart=>exact⟨rfl,HS3⟩
       case round=>
        obtain⟨rfl,HX9⟩:=hrel
        obtain⟨w8,hw8⟩:∃u,u=wr:=⟨_,rfl⟩
        subst hw8
        obtain⟨x0,x1,x2,x3,x4,x5,x6,x7,x8,x9⟩:=unhide HF w8 (unhide HX9)
        go_wp2_with fail
        go_ret
        have hbz:=((unhide HM) w8 (unhide HX9)).2.2.2.2
        exact⟨by rw [unhide HV] <;> rfl,by first|exact hbz|(rw [hG];exact hbz)⟩
      ·have o1:(24:Int)<(o:Int)+1:=by omega
       have o2:IntKind.i64.wrap ((o:Int)+1)=(o:Int)+1:=by rw [IntKind.wrap_i64];omega
       have HV:=hide (show R=.bool false by rw [unhide HV0,decide_eq_false ho1])
       clear HV0
       go_wp2_with fail
       go_ret
       have hbz:=((unhide HM) w3 (unhide HS3)).2.2.2.2
       exact⟨by rw [unhide HV] <;> rfl,by first|exact hbz|(rw [hG];exact hbz)⟩
     have b19:(k == 19)=false:=by simpa using h19
     have hop:opn k=0:=by
      unfold opn
      rw [if_neg]
      intro h
      have hd:=(rw_kd (unhide HRW)).2.2
      simp only at hd
      rw [unhide HKS] at hd
      rcases h with h|h|h|h|h|h
      ·exact h4 h
      ·exact h15 h
      ·subst h;simp [kdB] at hd
      ·exact h18 h
      ·exact h19 h
      ·subst h;simp [kdB] at hd
     have HV0:=hide (show R=.bool (decide (o+0≤24)) by rw [←unhide HR];rw [rrg_none o (unhide HRW) (unhide HKS) 0 hop])
     clear HR
     have o1:¬(24:Int)<(o:Int):=by omega
     have o2:IntKind.i64.wrap (o:Int)=(o:Int):=by rw [IntKind.wrap_i64];omega
     have HV:=hide (show R=.bool true by rw [unhide HV0,decide_eq_true (by omega)])
     clear HV0
     go_wp2_with fail
     go_loopw [8] (fun x w9=>x=.int .i64 0∧Hid (Below w1.heap.size w1 w9)) (fun _ _=>0)
     case atStart=>exact⟨rfl,HS3⟩
     case round=>
      obtain⟨rfl,HX9⟩:=hrel
      obtain⟨w8,hw8⟩:∃u,u=wr:=⟨_,rfl⟩
      subst hw8
      obtain⟨x0,x1,x2,x3,x4,x5,x6,x7,x8,x9⟩:=unhide HF w8 (unhide HX9)
      go_wp2_with fail
      go_ret
      have hbz:=((unhide HM) w8 (unhide HX9)).2.2.2.2
      exact⟨by rw [unhide HV] <;> rfl,by first|exact hbz|(rw [hG];exact hbz)⟩
    ·have hn1:((n:Int) == 0)=false:=by simp;omega
     have o1:¬(24:Int)<(o:Int):=by omega
     have o2:IntKind.i64.wrap (o:Int)=(o:Int):=by rw [IntKind.wrap_i64];omega
     have HI0:=hide (rrg_iff o (unhide HRW) (show 0<ks.length by rw [unhide HN];omega))
     have H21:=hide (show k=21→n≤2 by
  rintro rfl
  have hd:=(rw_kd (unhide HRW)).2.2
  simp only at hd
  rw [kd_two (by omega)] at hd
  simp only [Bool.and_eq_true,decide_eq_true_eq,List.length_map] at hd
  have:=unhide HN
  omega)
     go_wp2_with fail
     clear x0 x1 x2 x3 x4 x5 x6 x7 x8 x9
     go_loopw [8] (fun x w9=>∃(i:Nat),x=.int .i64 (i:Int)∧i≤n∧Hid (Below w1.heap.size w1 w9)∧Hid (∀(p:Nat) (z:Tn),p<i→ks[p]?=some z→fmB z=true∧o+arnd k t z.k z.t p+dpN z≤24)) (fun x _=>n - (intOf x).toNat)
     case atStart=>exact⟨0,rfl,Nat.zero_le _,HS3,hide (fun p z h=>absurd h (by omega))⟩
     case round=>
      obtain⟨i,rfl,hi,HX9,HJ⟩:=hrel
      obtain⟨w8,hw8⟩:∃u,u=wr:=⟨_,rfl⟩
      subst hw8
      obtain⟨x0,x1,x2,x3,x4,x5,x6,x7,x8,x9⟩:=unhide HF w8 (unhide HX9)
      by_cases hlt:i<n
      ·have i1:(i:Int)<(n:Int):=by omega
       obtain⟨z,hz⟩:∃z,ks[i]?=some z:=⟨_,List.getElem?_eq_getElem (by have:=unhide HN;omega)⟩
       have hi21:k=21→i≤1:=fun h=>by have:=unhide H21 h;omega
       have CO:=hide (ropens_any i z B0 ⟨k,t,v,f,ks,p⟩ _ w8 ((unhide HM) w8 (unhide HX9)).2.2.1 ((unhide HM) w8 (unhide HX9)).1 hz hi21)
       obtain⟨A,hA⟩:∃A,arnd k t z.k z.t i=A:=⟨_,rfl⟩
       simp only at CO
       rw [hA] at CO
       have hA2:A≤2:=by rw [←hA];unfold arnd opn;split <;> split <;> (try split) <;> omega
       have HZ:=hide (And.intro hz hA)
       have HI1:=hide (show i+1≤n by omega)
       clear hz hA hi21
       go_wp2_with fail
       refine(unhide CO).mono ?_
       rintro e w5 ⟨rfl,bb⟩
       have HX5:=hide ((unhide HX9).trans (bb.mono (unhide HX9).size))
       clear bb CO x0 x1 x2 x3 x4 x5 x6 x7 x8 x9
       obtain⟨x0,x1,x2,x3,x4,x5,x6,x7,x8,x9⟩:=unhide HF w5 (unhide HX5)
       obtain⟨D,hD⟩:∃D,o+A=D:=⟨_,rfl⟩
       have d1:(o:Int)+(A:Int)=(D:Int):=by omega
       have d2:IntKind.i64.wrap (D:Int)=(D:Int):=by rw [IntKind.wrap_i64];omega
       have HD:=hide hD
       by_cases hd24:D≤24
       ·have d3:¬(24:Int)<(D:Int):=by omega
        clear hD
        have hz:ks[i]?=some z:=(unhide HZ).1
        obtain⟨b,vky,vny,vsy,aly,aky,ay,lly,cly,lky,cky,ny,ccy,rfl,hcy,hby,hny,hzy,hcelly⟩:=((unhide HM) w5 (unhide HX5)).2.1.ten hz
        have e0:w5.cell? (b.add (i * 10))=some (.int .i64 z.k):=hcelly 0 _ rfl
        have e1:w5.cell? ⟨(b.add (i * 10)).block,(b.add (i * 10)).off+1,none⟩=some (.string z.t):=hcelly 1 _ rfl
        have e2:w5.cell? ⟨(b.add (i * 10)).block,(b.add (i * 10)).off+2,none⟩=some (.int .i64 vky):=hcelly 2 _ rfl
        have e3:w5.cell? ⟨(b.add (i * 10)).block,(b.add (i * 10)).off+3,none⟩=some (.int .i64 vny):=hcelly 3 _ rfl
        have e4:w5.cell? ⟨(b.add (i * 10)).block,(b.add (i * 10)).off+4,none⟩=some (.string vsy):=hcelly 4 _ rfl
        have e5:w5.cell? ⟨(b.add (i * 10)).block,(b.add (i * 10)).off+5,none⟩=some (.slice aly lly cly):=hcelly 5 _ rfl
        have e6:w5.cell? ⟨(b.add (i * 10)).block,(b.add (i * 10)).off+6,none⟩=some (.slice aky lky cky):=hcelly 6 _ rfl
        have e7:w5.cell? ⟨(b.add (i * 10)).block,(b.add (i * 10)).off+7,none⟩=some (.bool z.f):=hcelly 7 _ rfl
        have e8:w5.cell? ⟨(b.add (i * 10)).block,(b.add (i * 10)).off+8,none⟩=some (.slice ay ny ccy):=hcelly 8 _ rfl
        have e9:w5.cell? ⟨(b.add (i * 10)).block,(b.add (i * 10)).off+9,none⟩=some (.int .i64 z.p):=hcelly 9 _ rfl
        have CI:=hide (ih B0 z _ D w5 (unhide HSub z (List.mem_of_getElem? hz)) ((unhide HM) w5 (unhide HX5)).2.2.1 hzy hd24)
        obtain⟨r,hrr⟩:∃r,(fmB z && decide (D+dpN z≤24))=r:=⟨_,rfl⟩
        rw [hrr] at CI
        have HRR:=hide hrr
        clear hrr hz hcy hby hny hzy hcelly
        go_wp2_with fail
        refine(unhide CI).mono ?_
        rintro e w6 ⟨rfl,bb⟩
        have HX6:=hide ((unhide HX5).trans (bb.mono (unhide HX5).size))
        clear bb CI e0 e1 e2 e3 e4 e5 e6 e7 e8 e9 x0 x1 x2 x3 x4 x5 x6 x7 x8 x9
        cases r with
        |false=>
         have HV:=hide (show R=.bool false by
   rw [←unhide HR]
   cases hc:(fmB ⟨k,t,v,f,ks,p⟩ && decide (o+dpN ⟨k,t,v,f,ks,p⟩≤24)) with
   |false=>rfl
   |true=>
    exfalso
    have h:=(unhide HI0).1 hc i z (unhide HZ).1
    try simp only at h
    rw [(unhide HZ).2,unhide HD] at h
    have h2:=unhide HRR
    rw [h.1,Bool.true_and,decide_eq_false_iff_not] at h2
    exact h2 h.2)
         go_wp2_with fail
         go_ret
         have hbz:=((unhide HM) w6 (unhide HX6)).2.2.2.2
         exact⟨by rw [unhide HV] <;> rfl,by first|exact hbz|(rw [hG];exact hbz)⟩
        |true=>
         have HJ1:Hid (∀(p:Nat) (z:Tn),p<i+1→ks[p]?=some z→fmB z=true∧o+arnd k t z.k z.t p+dpN z≤24):=hide (fun p y h hp=>by
          by_cases h2:p<i
          ·exact unhide HJ p y h2 hp
          ·obtain rfl:p=i:=by omega
           obtain rfl:=Option.some.inj ((unhide HZ).1.symm.trans hp)
           have h3:=unhide HRR
           rw [Bool.and_eq_true,decide_eq_true_iff] at h3
           rw [(unhide HZ).2,unhide HD]
           exact h3)
         go_wp2_with fail
         go_roundw
         case rel=>exact⟨i+1,by go_num,unhide HI1,HX6,HJ1⟩
         case measure=>have:=unhide HI1;simp [intOf];omega
       ·have d3:(24:Int)<(D:Int):=by omega
        have HND:=hide hd24
        have HV:=hide (show R=.bool false by
   rw [←unhide HR]
   cases hc:(fmB ⟨k,t,v,f,ks,p⟩ && decide (o+dpN ⟨k,t,v,f,ks,p⟩≤24)) with
   |false=>rfl
   |true=>
    exfalso
    have h:=(unhide HI0).1 hc i z (unhide HZ).1
    try simp only at h
    rw [(unhide HZ).2,unhide HD] at h
    exact unhide HND (by omega))
        go_wp2_with fail
        go_ret
        have hbz:=((unhide HM) w5 (unhide HX5)).2.2.2.2
        exact⟨by rw [unhide HV] <;> rfl,by first|exact hbz|(rw [hG];exact hbz)⟩
      ·have i1:¬(i:Int)<(n:Int):=by omega
       have HV:=hide (show R=.bool true by rw [←unhide HR,(unhide HI0).2 (fun p z hz=>unhide HJ p z (by have:=(List.getElem?_eq_some_iff.1 hz).1;have:=unhide HN;omega) hz)])
       go_wp2_with fail
       go_ret
       have hbz:=((unhide HM) w8 (unhide HX9)).2.2.2.2
       exact⟨by rw [unhide HV] <;> rfl,by first|exact hbz|(rw [hG];exact hbz)⟩
  ·cases q2 with
   |false=>
    have HV:=hide (show R=.bool false by rw [←unhide HR];unfold fmB rwB;rw [kd_out hk];simp)
    go_wp2_with fail
    go_ret
    have hbz:=((unhide HM) w3 (unhide HS3)).2.2.2.2
    exact⟨by rw [unhide HV] <;> rfl,by first|exact hbz|(rw [hG];exact hbz)⟩
   |true=>
    by_cases k1:k<1
    ·have HV:=hide (show R=.bool false by rw [←unhide HR];unfold fmB rwB;rw [kd_out hk];simp)
     go_wp2_with fail
     go_ret
     have hbz:=((unhide HM) w3 (unhide HS3)).2.2.2.2
     exact⟨by rw [unhide HV] <;> rfl,by first|exact hbz|(rw [hG];exact hbz)⟩
    ·have k2:22<k:=by omega
     have HV:=hide (show R=.bool false by rw [←unhide HR];unfold fmB rwB;rw [kd_out hk];simp)
     go_wp2_with fail
     go_ret
     have hbz:=((unhide HM) w3 (unhide HS3)).2.2.2.2
     exact⟨by rw [unhide HV] <;> rfl,by first|exact hbz|(rw [hG];exact hbz)⟩
theorem rrg_all:∀N,RgAt N
 |0=>fun B0 y x o w hN=>by rw [cns_one] at hN;omega
 |N+1=>rrg_step N (rrg_all N)
set_option maxRecDepth 100000 in
set_option maxHeartbeats 2000000 in
theorem RightD_any (B0:Nat) (y:Tn) (x:List Value) (w:World) (hB:B0≤w.heap.size) (hx:IsN w (fun b=>b<B0) y x) :
  Calls Tryz.prog 13 #[.agg x.toArray] w fun e w'=>e=.returned (.bool (decide (y.k=1) && rgB y))∧Below w.heap.size w w':=by
 have hx0:=hx
 obtain⟨vk,vn,vs,al,ak,a,ll,cl,lk,ck,cc,rfl,hvv,hr,hbk,hbp⟩:=hx.opn
 obtain⟨k,t,v,f,ks,p⟩:=y
 obtain⟨n,hn⟩:∃n,ks.length=n:=⟨_,rfl⟩
 have hnb:n≤140737488351232:=by rw [←hn];exact hr.len
 simp only [hn] at hx0 hvv hr hbk hbp ⊢
 obtain⟨R,hR⟩:∃R,(.bool (decide (k=1) && rgB ⟨k,t,v,f,ks,p⟩):Value)=R:=⟨_,rfl⟩
 rw [hR]
 have HR:=hide hR
 obtain⟨w1,hw1⟩:∃w1,w.alloc (.cells #[.int .i64 k,.string t,.int .i64 vk,.int .i64 vn,.string vs,.slice al ll cl,.slice ak lk ck,.bool f,.slice a n cc,.int .i64 p] 28)=w1:=⟨_,rfl⟩
 obtain⟨G,hG⟩:∃G,w.heap.size=G:=⟨_,rfl⟩
 have A1:w1.heap[G]?=some (.cells #[.int .i64 k,.string t,.int .i64 vk,.int .i64 vn,.string vs,.slice al ll cl,.slice ak lk ck,.bool f,.slice a n cc,.int .i64 p] 28 (0,0)):=by rw [←hw1,←hG];exact heap_alloc_new _ _
 have X1:Below G w w1:=by rw [←hw1,←hG];exact(Below.refl _ _).alloc (Nat.le_refl _) _
 have hBG:B0≤G:=by rw [←hG];exact hB
 have HM:Hid (∀u,Below w1.heap.size w1 u→IsN u (fun b=>b<B0) ⟨k,t,v,f,ks,p⟩ [.int .i64 k,.string t,.int .i64 vk,.int .i64 vn,.string vs,.slice al ll cl,.slice ak lk ck,.bool f,.slice a n cc,.int .i64 p]∧RowN u B0 ks a cc∧B0≤u.heap.size∧IsV u B0 v (.agg #[.int .i64 vk,.int .i64 vn,.string vs,.slice al ll cl,.slice ak lk ck])∧Below G w u):=hide (fun u hu=>by
  have h2:=X1.trans (hu.mono (Nat.le_of_lt (lt_of_row A1)))
  exact⟨hx0.laterB (h2.mono hBG),hr.later (h2.mono hBG),Nat.le_trans hBG (by rw [←hG];exact h2.size),hvv.mono (h2.mono hBG),h2⟩)
 have HF:Hid (∀u,Below w1.heap.size w1 u→u.cell? ⟨G,0,none⟩=some (.int .i64 k)∧u.cell? ⟨G,1,none⟩=some (.string t)∧u.cell? ⟨G,2,none⟩=some (.int .i64 vk)∧u.cell? ⟨G,3,none⟩=some (.int .i64 vn)∧u.cell? ⟨G,4,none⟩=some (.string vs)∧u.cell? ⟨G,5,none⟩=some (.slice al ll cl)∧u.cell? ⟨G,6,none⟩=some (.slice ak lk ck)∧u.cell? ⟨G,7,none⟩=some (.bool f)∧u.cell? ⟨G,8,none⟩=some (.slice a n cc)∧u.cell? ⟨G,9,none⟩=some (.int .i64 p)):=hide (fun u hu=>row_ten (Below.cellsAt hu A1))
 have HN:=hide hn
 have HS0:Hid (Below w1.heap.size w1 w1):=hide (Below.refl _ _)
 have HW:=hide hw1
 clear A1 X1 hw1 hx hx0 hr hvv hB hBG hn hR
 go_enter Tryz.func13,Tryz.ntmps13
 go_upto_region 1 with fail
 rw [unhide HW]
 try rw [hG]
 clear HW
 obtain⟨x0,x1,x2,x3,x4,x5,x6,x7,x8,x9⟩:=unhide HF w1 (Below.refl _ _)
 by_cases hk:k=1
 ·subst hk
  have CC:=hide (fits_any B0 ⟨1,t,v,f,ks,p⟩ _ w1 ((unhide HM) w1 (unhide HS0)).2.2.1 ((unhide HM) w1 (unhide HS0)).1)
  obtain⟨q,hq⟩:∃q,decide (cns [⟨1,t,v,f,ks,p⟩]≤20000)=q:=⟨_,rfl⟩
  rw [hq] at CC
  have HQ:=hide hq
  clear hq
  go_wp2_with fail
  refine(unhide CC).mono ?_
  rintro e w2 ⟨rfl,bb⟩
  have HS2:=hide bb
  clear bb CC x0 x1 x2 x3 x4 x5 x6 x7 x8 x9
  obtain⟨x0,x1,x2,x3,x4,x5,x6,x7,x8,x9⟩:=unhide HF w2 (unhide HS2)
  cases q with
  |false=>
   have HV:=hide (show R=.bool false by rw [←unhide HR];unfold rgB;rw [unhide HQ];simp)
   go_wp2_with fail
   go_ret
   have hbz:=((unhide HM) w2 (unhide HS2)).2.2.2.2
   exact⟨by rw [unhide HV] <;> rfl,by first|exact hbz|(rw [hG];exact hbz)⟩
  |true=>
   have CR:=hide (rrg_all _ B0 ⟨1,t,v,f,ks,p⟩ _ 0 w2 (Nat.le_refl _) ((unhide HM) w2 (unhide HS2)).2.2.1 ((unhide HM) w2 (unhide HS2)).1 (by omega))
   obtain⟨r,hr9⟩:∃r,(fmB ⟨1,t,v,f,ks,p⟩ && decide (0+dpN ⟨1,t,v,f,ks,p⟩≤24))=r:=⟨_,rfl⟩
   rw [hr9] at CR
   have HV:=hide (show R=.bool r by rw [←unhide HR,←hr9];unfold rgB;rw [unhide HQ,Nat.zero_add];rfl)
   clear hr9 HR
   go_wp2_with fail
   refine(unhide CR).mono ?_
   rintro e w3 ⟨rfl,bb⟩
   have HS3:=hide ((unhide HS2).trans (bb.mono (unhide HS2).size))
   clear bb CR x0 x1 x2 x3 x4 x5 x6 x7 x8 x9
   go_wp2_with fail
   go_ret
   have hbz:=((unhide HM) w3 (unhide HS3)).2.2.2.2
   exact⟨by rw [unhide HV] <;> rfl,by first|exact hbz|(rw [hG];exact hbz)⟩
 ·have b1:(k != 1)=true:=by simpa using hk
  have HV:=hide (show R=.bool false by rw [←unhide HR];simp [hk])
  go_wp2_with fail
  go_ret
  have hbz:=((unhide HM) w1 (unhide HS0)).2.2.2.2
  exact⟨by rw [unhide HV] <;> rfl,by first|exact hbz|(rw [hG];exact hbz)⟩
end Go.Proofs.YtekbmfppfjlboaaGreatDoor
