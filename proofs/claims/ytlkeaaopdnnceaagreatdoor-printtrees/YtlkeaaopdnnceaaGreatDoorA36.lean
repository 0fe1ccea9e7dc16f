/-
  Bytes of a row, as a text.
  The walk of the document's Quote (layer 16); conditions: a text of at most 2^30 bytes.
  rows of bytes; expressions with a text between (the document's).
  an operand (the document's).
  Conditions: where nodes are told of, they lie in memory.
-/
import Derived.Test.YtlkeaaopdnnceaaGreatDoorA15
import Derived.Test.YtlkeaaopdnnceaaGreatDoorA02
import Derived.Test.YtlkeaaopdnnceaaGreatDoorA13
import Derived.Test.YtlkeaaopdnnceaaGreatDoorA35
import Derived.Test.YtlkeaaopdnnceaaGreatDoorA30
import Derived.Lib.AppendStr
set_option linter.unusedVariables false
set_option linter.unusedSimpArgs false
set_option maxRecDepth 100000
set_option maxHeartbeats 8000000
namespace Go.Proofs.YtlkeaaopdnnceaaGreatDoor
open Go.RowKit
set_option linter.unusedVariables false
set_option linter.unusedSimpArgs false
theorem byte_conv {w:World} {base n:Nat} {v:Value} {zs:List Int} (h:w.ownsRow base 5 1 v (n+1) (zs.map (Value.int .u8))) :
  ∃b cap,v=.slice (some ⟨b,0,none⟩) (n+1) cap∧Sem.run Tryz.prog (convert 41 9 (.slice (some ⟨b,0,none⟩) (n+1) cap)) w=.ok (.string (strOfNums zs)) w:=by
 have hl:zs.length=n+1:=by have:=h.1;simpa using this
 rcases h.2 with ⟨_,e⟩|⟨b,cap,cur,rfl,_⟩
 ·omega
 ·refine⟨b,cap,rfl,?_⟩
  refine run_convert_bytes_arg (P:=Tryz.prog) w 41 5 Tryz.underlying41 Tryz.underlying5 b 0 (n+1) cap zs hl (fun j hj=>?_) 9 Tryz.underlying9
  have hc:=h.cells (g:=b) rfl j (.int .u8 (zs.getD j 0)) (by
   rw [List.getElem?_map,List.getD_eq_getElem?_getD,List.getElem?_eq_getElem (by omega)]
   rfl)
  have ha:(⟨b,0,none⟩:Addr).add j=⟨b,0+j,none⟩:=by unfold Addr.add;split <;> simp_all
  rw [ha] at hc
  exact hc
theorem hex_finL:∀d:Fin 16,((hexB[d.val]'(by have:=d.isLt;show d.val<16;omega)).toNat:Int)=hxI (d.val:Int):=by decide +kernel
theorem hex_atL (d:Int) (h0:0≤d) (h1:d<16) (hh:d.toNat<hexB.size):((hexB[d.toNat]'hh).toNat:Int)=hxI d:=by
 obtain⟨k,rfl⟩:∃k:Nat,d=k:=⟨d.toNat,by omega⟩
 exact hex_finL ⟨k,by omega⟩
theorem hx_fin:∀d:Fin 16,UInt8.ofNat (hxI (d.val:Int)).toNat=hx d.val:=by decide +kernel
theorem qI_B (c:UInt8):(qI (c.toNat:Int)).map (fun n=>UInt8.ofNat n.toNat)=qB c:=by
 have hc:=c.toNat_lt
 by_cases h1:c.toNat=34∨c.toNat=92
 ·rw [qB_esc c h1]
  unfold qI
  rw [if_pos (by omega)]
  simp
 ·by_cases h2:32≤c.toNat∧c.toNat≤126
  ·rw [qB_own c h2.1 h2.2 (by omega) (by omega)]
   unfold qI
   rw [if_neg (by omega),if_pos (by omega)]
   simp
  ·rw [qB_num c (by omega)]
   unfold qI
   rw [if_neg (by omega),if_neg (by omega)]
   have e1:=hx_fin ⟨c.toNat / 16,by omega⟩
   have e2:=hx_fin ⟨c.toNat % 16,by omega⟩
   have f1:(c.toNat:Int) / 16=((c.toNat / 16:Nat):Int):=by omega
   have f2:(c.toNat:Int) % 16=((c.toNat % 16:Nat):Int):=by omega
   rw [f1,f2]
   simp only [List.map_cons,List.map_nil,e1,e2]
   rfl
theorem map_flatQ {α β γ:Type} (f:β→γ) (g:α→List β):∀l:List α,(l.flatMap g).map f=l.flatMap fun a=>(g a).map f
 |[]=>rfl
 |a :: l=>by rw [List.flatMap_cons,List.map_append,map_flatQ f g l,List.flatMap_cons]
theorem quoteI_B (s:ByteArray):strOfNums (quoteI s)=bA (quoB s.data.toList):=by
 unfold strOfNums quoteI quoI quoB bA
 rw [show s.data.toList.take s.size=s.data.toList from List.take_of_length_le (Nat.le_refl _)]
 show (⟨(List.map _ (34 :: _++[34])).toArray⟩:ByteArray)=_
 rw [List.map_append,List.map_cons,map_flatQ]
 have:(fun a:UInt8=>(qI (a.toNat:Int)).map (fun n=>UInt8.ofNat n.toNat))=qB:=funext qI_B
 rw [this]
 rfl
theorem quo_convL {w:World} {base n i:Nat} {v:Value} {s:ByteArray} (h:w.ownsRow base 5 1 v (n+1) ((quoI s i).map (Value.int .u8)++[.int .u8 34])) (hi:quoI s i=quoI s s.size) :
  ∃b cap,v=.slice (some ⟨b,0,none⟩) (n+1) cap∧Sem.run Tryz.prog (convert 41 9 (.slice (some ⟨b,0,none⟩) (n+1) cap)) w=.ok (.string (bA (quoB s.data.toList))) w:=by
 have hx:(quoI s i).map (Value.int .u8)++[.int .u8 34]=(quoteI s).map (Value.int .u8):=by
  unfold quoteI
  rw [hi,List.map_append]
  rfl
 rw [hx] at h
 rw [←quoteI_B]
 exact byte_conv h
theorem quoteD_any (s:ByteArray) (hs:s.size≤1073741824) (w:World) :
  Calls Tryz.prog 55 #[.string s] w fun e w'=>e=.returned (.string (bA (quoB s.data.toList)))∧Below w.heap.size w w':=by
 obtain⟨m,hm⟩:∃m,s.size=m:=⟨_,rfl⟩
 obtain⟨g,hg⟩:∃g,w.heap.size=g:=⟨_,rfl⟩
 have HM:=hZ hm
 have hm5:m≤1073741824:=by omega
 obtain⟨w1,hw1⟩:∃w1,w.alloc (.cells #[.int .u8 34] 5)=w1:=⟨_,rfl⟩
 have HQ0:Hid (QRow w1 g (.slice (some ⟨g,0,none⟩) 1 1) 1 ((quoI s 0).map (Value.int .u8))∧Below g w w1):=hZ (by
  refine⟨Or.inr ⟨g,rfl,by simp [quoI],by rw [←hw1,←hg];simp,Nat.le_refl _,fun j u hu=>?_⟩,?_⟩
  ·rw [←hw1,←hg,cell_of_row _ w.heap.size j _ 5 (0,0) (heap_alloc_new w _)]
   simp [quoI] at hu ⊢
   exact hu
  ·rw [←hw1,←hg]
   exact(Below.refl _ _).alloc (Nat.le_refl _) _)
 clear hs hm
 go_enter Tryz.func55,Tryz.ntmps55
 go_wp2_with fail
 clear hw1
 go_loopw [4,5] (fun v x wr=>∃(i n:Nat),x=.int .i64 (i:Int)∧i≤m∧n≤1+4 * i∧Hid (QRow wr g v n ((quoI s i).map (Value.int .u8))∧Below g w wr)) (fun _ x _=>m - (intOf x).toNat)
 case atStart=>exact⟨0,1,rfl,by omega,by omega,HQ0⟩
 case round=>
  clear HQ0
  obtain⟨i,n,rfl,hi,hn4,HQ⟩:=hrel
  obtain⟨ao,cp,rfl⟩:=(uZ HQ).1.form
  by_cases hlt:i<s.size
  ·have i1:(i:Int)<(s.size:Int):=by omega
   have i0:(0:Int)≤(i:Int):=by omega
   obtain⟨c,hc⟩:∃c:Nat,(s[i]'hlt).toNat=c:=⟨_,rfl⟩
   have hc255:c≤255:=by have:=(s[i]'hlt).toNat_lt;omega
   have HN:Hid (quoI s (i+1)=quoI s i++qI (c:Int)):=hZ (by rw [quo_next s i hlt,hc])
   have HI1:Hid (i+1≤m):=hZ (by have:=uZ HM;omega)
   have hbs:g≤wr.heap.size:=by have:=(uZ HQ).2.size;omega
   by_cases hq:c=34∨c=92
   ·have HQI:Hid (qI (c:Int)=[92,(c:Int)]):=hZ (by unfold qI;rw [if_pos (by omega)])
    rcases hq with h34|h92
    ·have b1:((c:Int) == 34)=true:=by simp [h34]
     clear h34
     have tokA:True:=trivial
     go_upto_region 5 with (first|(have _t:=tokA;at_builtin;refine wpl_fewB rfl (.tmp 35) (.tmp 37) rfl g n 2 (.slice ao n cp) _ [.int .u8 92,.int .u8 (c:Int)] rfl (by simp [Value.oneCell']) rfl (uZ HQ).1 (by omega) rfl (by omega) hbs ?_;intro v6 w6 H6;clear tokA))
     have HQ1:Hid (QRow w6 g v6 (n+2) ((quoI s (i+1)).map (Value.int .u8))∧Below g w w6):=hZ (by
      obtain⟨h1,h2⟩:=uZ H6
      refine⟨Or.inl ?_,(uZ HQ).2.trans h2⟩
      rw [uZ HN,uZ HQI,List.map_append]
      exact h1)
     clear H6
     go_wp2_with fail
     go_roundw
     case rel=>exact⟨i+1,n+2,by go_num,uZ HI1,by omega,HQ1⟩
     case measure=>have:=uZ HI1;have:=uZ HM;simp [intOf];omega
    ·have b1:((c:Int) == 34)=false:=by simp;omega
     have b3:((c:Int) == 92)=true:=by simp [h92]
     have b4:¬(c:Int)=34:=by omega
     clear h92
     have tokA:True:=trivial
     go_upto_region 5 with (first|(have _t:=tokA;at_builtin;refine wpl_fewB rfl (.tmp 35) (.tmp 37) rfl g n 2 (.slice ao n cp) _ [.int .u8 92,.int .u8 (c:Int)] rfl (by simp [Value.oneCell']) rfl (uZ HQ).1 (by omega) rfl (by omega) hbs ?_;intro v6 w6 H6;clear tokA))
     have HQ1:Hid (QRow w6 g v6 (n+2) ((quoI s (i+1)).map (Value.int .u8))∧Below g w w6):=hZ (by
      obtain⟨h1,h2⟩:=uZ H6
      refine⟨Or.inl ?_,(uZ HQ).2.trans h2⟩
      rw [uZ HN,uZ HQI,List.map_append]
      exact h1)
     clear H6
     go_wp2_with fail
     go_roundw
     case rel=>exact⟨i+1,n+2,by go_num,uZ HI1,by omega,HQ1⟩
     case measure=>have:=uZ HI1;have:=uZ HM;simp [intOf];omega
   ·have b1:((c:Int) == 34)=false:=by simp;omega
    have b3:((c:Int) == 92)=false:=by simp;omega
    have b4:¬(c:Int)=34:=by omega
    have b5:¬(c:Int)=92:=by omega
    by_cases hp:32≤c∧c≤126
    ·have HQI:Hid (qI (c:Int)=[(c:Int)]):=hZ (by unfold qI;rw [if_neg (by omega),if_pos (by omega)])
     have d1:(32:Int)≤(c:Int):=by omega
     have d2:(c:Int)≤126:=by omega
     clear hp hq
     have tokA:True:=trivial
     go_upto_region 5 with (first|(have _t:=tokA;at_builtin;refine wpl_fewB rfl (.tmp 46) (.tmp 48) rfl g n 1 (.slice ao n cp) _ [.int .u8 (c:Int)] rfl (by simp [Value.oneCell']) rfl (uZ HQ).1 (by omega) rfl (by omega) hbs ?_;intro v6 w6 H6;clear tokA))
     have HQ1:Hid (QRow w6 g v6 (n+1) ((quoI s (i+1)).map (Value.int .u8))∧Below g w w6):=hZ (by
      obtain⟨h1,h2⟩:=uZ H6
      refine⟨Or.inl ?_,(uZ HQ).2.trans h2⟩
      rw [uZ HN,uZ HQI,List.map_append]
      exact h1)
     clear H6
     go_wp2_with fail
     go_roundw
     case rel=>exact⟨i+1,n+1,by go_num,uZ HI1,by omega,HQ1⟩
     case measure=>have:=uZ HI1;have:=uZ HM;simp [intOf];omega
    ·have HQI:Hid (qI (c:Int)=[92,120,hxI ((c:Int) / 16),hxI ((c:Int) % 16)]):=hZ (by unfold qI;rw [if_neg (by omega),if_neg (by omega)])
     have hw16:IntKind.u8.wrap ((c:Int) / 16)=(c:Int) / 16:=by rw [IntKind.wrap_u8];omega
     have hm16:((c:Int)).tmod 16=(c:Int) % 16:=Int.tmod_eq_emod_of_nonneg (by omega)
     by_cases h32:c<32
     ·have d1:¬(32:Int)≤(c:Int):=by omega
      clear hp hq
      go_upto_region 7 with fail
      refine till_begin (S:=fun w'=>True) 11 (by kernel_rfl) ?_
      have HQd:=hZ ((uZ HQ).1.later ((Below.refl wr.heap.size wr).drew))
      have HBd:Hid (Below g w wr.drew):=hZ ((uZ HQ).2.drew)
      have hbd:g≤wr.drew.heap.size:=hbs
      obtain⟨ud,hud⟩:∃ud,wr.drew=ud:=⟨_,rfl⟩
      rw [hud] at HQd HBd hbd ⊢
      clear hud
      refine tK 0 (v:=.slice ao n cp) (some 17) rfl rfl rfl (by kernel_rfl) (fun _ _ _ h=>h) (Or.inl ⟨by rfl,fun u hu=>by go_simp⟩) trivial ?_
      try simp only [Act.put,sA,sB,sC]
      refine tK 1 (v:=.string ⟨#[48,49,50,51,52,53,54,55,56,57,97,98,99,100,101,102]⟩) (some 18) rfl rfl rfl (by kernel_rfl) (fun _ _ _ h=>h) (Or.inl ⟨by rfl,fun u hu=>by go_simp⟩) trivial ?_
      try simp only [Act.put,sA,sB,sC]
      refine tK 2 (v:=.int .u8 (c:Int)) (some 19) rfl rfl rfl (by kernel_rfl) (fun _ _ _ h=>h) (Or.inl ⟨by rfl,fun u hu=>by go_simp⟩) trivial ?_
      try simp only [Act.put,sA,sB,sC]
      refine tK 3 (v:=.int .u8 ((c:Int) / 16)) (some 20) rfl rfl rfl (by kernel_rfl) (fun _ _ _ h=>h) (Or.inl ⟨by rfl,fun u hu=>by go_simp⟩) trivial ?_
      try simp only [Act.put,sA,sB,sC]
      refine tK 4 (v:=.int .u8 (hxI ((c:Int) / 16))) (some 21) rfl rfl rfl (by kernel_rfl) (fun _ _ _ h=>h) (Or.inl ⟨by rfl,fun u hu=>by go_simp;rw [dif_pos ⟨by omega,by omega⟩];exact congrArg (fun z=>Result.ok (Next.value (Value.int IntKind.u8 z)) u) (hex_atL ((c:Int) / 16) (by omega) (by omega) (by show _<16;omega))⟩) trivial ?_
      try simp only [Act.put,sA,sB,sC]
      refine tK 5 (v:=.string ⟨#[48,49,50,51,52,53,54,55,56,57,97,98,99,100,101,102]⟩) (some 22) rfl rfl rfl (by kernel_rfl) (fun _ _ _ h=>h) (Or.inl ⟨by rfl,fun u hu=>by go_simp⟩) trivial ?_
      try simp only [Act.put,sA,sB,sC]
      refine tK 6 (v:=.int .u8 (c:Int)) (some 23) rfl rfl rfl (by kernel_rfl) (fun _ _ _ h=>h) (Or.inl ⟨by rfl,fun u hu=>by go_simp⟩) trivial ?_
      try simp only [Act.put,sA,sB,sC]
      refine tK 7 (v:=.int .u8 ((c:Int) % 16)) (some 24) rfl rfl rfl (by kernel_rfl) (fun _ _ _ h=>h) (Or.inl ⟨by rfl,fun u hu=>by go_simp⟩) trivial ?_
      try simp only [Act.put,sA,sB,sC]
      refine tK 8 (v:=.int .u8 (hxI ((c:Int) % 16))) (some 25) rfl rfl rfl (by kernel_rfl) (fun _ _ _ h=>h) (Or.inl ⟨by rfl,fun u hu=>by go_simp;rw [dif_pos ⟨by omega,by omega⟩];exact congrArg (fun z=>Result.ok (Next.value (Value.int IntKind.u8 z)) u) (hex_atL ((c:Int) % 16) (by omega) (by omega) (by show _<16;omega))⟩) trivial ?_
      try simp only [Act.put,sA,sB,sC]
      refine till_one 9 (by kernel_rfl) rfl (fun K hK=>?_)
      go_simp
      obtain⟨w6,hw6⟩:∃w6,ud.alloc (.cells #[.int .u8 92,.int .u8 120,.int .u8 (hxI ((c:Int) / 16)),.int .u8 (hxI ((c:Int) % 16))] 5)=w6:=⟨_,rfl⟩
      have H6:Hid (w6.heap[ud.heap.size]?=some (.cells #[.int .u8 92,.int .u8 120,.int .u8 (hxI ((c:Int) / 16)),.int .u8 (hxI ((c:Int) % 16))] 5 (0,0))∧Below ud.heap.size ud w6):=hZ (by
       rw [←hw6]
       exact⟨heap_alloc_new ud _,(Below.refl _ _).alloc (Nat.le_refl _) _⟩)
      try rw [hw6]
      refine hK.out _ _ (Or.inr trivial) ?_
      clear hK K hw6
      try simp only [Act.put,sA,sB,sC]
      refine till_one 10 (by kernel_rfl) rfl (fun K hK=>?_)
      refine step_fewB rfl (.tmp 17) (.tmp 26) rfl g n 4 ud.heap.size (.slice ao n cp) _ [.int .u8 92,.int .u8 120,.int .u8 (hxI ((c:Int) / 16)),.int .u8 (hxI ((c:Int) % 16))] rfl (by simp [Value.oneCell']) rfl ((uZ HQd).later (uZ H6).2) (by omega) (uZ H6).1 rfl (by omega) (Nat.le_trans hbd (uZ H6).2.size) ?_
      intro v6 w7 H7
      have HQ1:Hid (QRow w7 g v6 (n+4) ((quoI s (i+1)).map (Value.int .u8))∧Below g w w7):=hZ (by
       obtain⟨h1,h2⟩:=uZ H7
       refine⟨Or.inl ?_,(uZ HBd).trans (((uZ H6).2.mono hbd).trans h2)⟩
       rw [uZ HN,uZ HQI,List.map_append]
       exact h1)
      refine hK.out _ _ (Or.inr trivial) ?_
      clear hK K H7
      try simp only [Act.put,sA,sB,sC]
      refine till_one 11 (by kernel_rfl) rfl (fun K hK=>?_)
      go_simp
      refine hK.out _ _ (Or.inl rfl) ?_
      clear hK K
      try simp only [Act.put,sA,sB,sC]
      refine till_done (by kernel_rfl) ?_ _
      go_wp2_with fail
      go_roundw
      case rel=>exact⟨i+1,n+4,by go_num,uZ HI1,by omega,HQ1⟩
      case measure=>have:=uZ HI1;have:=uZ HM;simp [intOf];omega
     ·have d1:(32:Int)≤(c:Int):=by omega
      have d2:¬(c:Int)≤126:=by omega
      clear hp hq
      go_upto_region 7 with fail
      refine till_begin (S:=fun w'=>True) 11 (by kernel_rfl) ?_
      have HQd:=hZ ((uZ HQ).1.later ((Below.refl wr.heap.size wr).drew))
      have HBd:Hid (Below g w wr.drew):=hZ ((uZ HQ).2.drew)
      have hbd:g≤wr.drew.heap.size:=hbs
      obtain⟨ud,hud⟩:∃ud,wr.drew=ud:=⟨_,rfl⟩
      rw [hud] at HQd HBd hbd ⊢
      clear hud
      refine tK 0 (v:=.slice ao n cp) (some 17) rfl rfl rfl (by kernel_rfl) (fun _ _ _ h=>h) (Or.inl ⟨by rfl,fun u hu=>by go_simp⟩) trivial ?_
      try simp only [Act.put,sA,sB,sC]
      refine tK 1 (v:=.string ⟨#[48,49,50,51,52,53,54,55,56,57,97,98,99,100,101,102]⟩) (some 18) rfl rfl rfl (by kernel_rfl) (fun _ _ _ h=>h) (Or.inl ⟨by rfl,fun u hu=>by go_simp⟩) trivial ?_
      try simp only [Act.put,sA,sB,sC]
      refine tK 2 (v:=.int .u8 (c:Int)) (some 19) rfl rfl rfl (by kernel_rfl) (fun _ _ _ h=>h) (Or.inl ⟨by rfl,fun u hu=>by go_simp⟩) trivial ?_
      try simp only [Act.put,sA,sB,sC]
      refine tK 3 (v:=.int .u8 ((c:Int) / 16)) (some 20) rfl rfl rfl (by kernel_rfl) (fun _ _ _ h=>h) (Or.inl ⟨by rfl,fun u hu=>by go_simp⟩) trivial ?_
      try simp only [Act.put,sA,sB,sC]
      refine tK 4 (v:=.int .u8 (hxI ((c:Int) / 16))) (some 21) rfl rfl rfl (by kernel_rfl) (fun _ _ _ h=>h) (Or.inl ⟨by rfl,fun u hu=>by go_simp;rw [dif_pos ⟨by omega,by omega⟩];exact congrArg (fun z=>Result.ok (Next.value (Value.int IntKind.u8 z)) u) (hex_atL ((c:Int) / 16) (by omega) (by omega) (by show _<16;omega))⟩) trivial ?_
      try simp only [Act.put,sA,sB,sC]
      refine tK 5 (v:=.string ⟨#[48,49,50,51,52,53,54,55,56,57,97,98,99,100,101,102]⟩) (some 22) rfl rfl rfl (by kernel_rfl) (fun _ _ _ h=>h) (Or.inl ⟨by rfl,fun u hu=>by go_simp⟩) trivial ?_
      try simp only [Act.put,sA,sB,sC]
      refine tK 6 (v:=.int .u8 (c:Int)) (some 23) rfl rfl rfl (by kernel_rfl) (fun _ _ _ h=>h) (Or.inl ⟨by rfl,fun u hu=>by go_simp⟩) trivial ?_
      try simp only [Act.put,sA,sB,sC]
      refine tK 7 (v:=.int .u8 ((c:Int) % 16)) (some 24) rfl rfl rfl (by kernel_rfl) (fun _ _ _ h=>h) (Or.inl ⟨by rfl,fun u hu=>by go_simp⟩) trivial ?_
      try simp only [Act.put,sA,sB,sC]
      refine tK 8 (v:=.int .u8 (hxI ((c:Int) % 16))) (some 25) rfl rfl rfl (by kernel_rfl) (fun _ _ _ h=>h) (Or.inl ⟨by rfl,fun u hu=>by go_simp;rw [dif_pos ⟨by omega,by omega⟩];exact congrArg (fun z=>Result.ok (Next.value (Value.int IntKind.u8 z)) u) (hex_atL ((c:Int) % 16) (by omega) (by omega) (by show _<16;omega))⟩) trivial ?_
      try simp only [Act.put,sA,sB,sC]
      refine till_one 9 (by kernel_rfl) rfl (fun K hK=>?_)
      go_simp
      obtain⟨w6,hw6⟩:∃w6,ud.alloc (.cells #[.int .u8 92,.int .u8 120,.int .u8 (hxI ((c:Int) / 16)),.int .u8 (hxI ((c:Int) % 16))] 5)=w6:=⟨_,rfl⟩
      have H6:Hid (w6.heap[ud.heap.size]?=some (.cells #[.int .u8 92,.int .u8 120,.int .u8 (hxI ((c:Int) / 16)),.int .u8 (hxI ((c:Int) % 16))] 5 (0,0))∧Below ud.heap.size ud w6):=hZ (by
       rw [←hw6]
       exact⟨heap_alloc_new ud _,(Below.refl _ _).alloc (Nat.le_refl _) _⟩)
      try rw [hw6]
      refine hK.out _ _ (Or.inr trivial) ?_
      clear hK K hw6
      try simp only [Act.put,sA,sB,sC]
      refine till_one 10 (by kernel_rfl) rfl (fun K hK=>?_)
      refine step_fewB rfl (.tmp 17) (.tmp 26) rfl g n 4 ud.heap.size (.slice ao n cp) _ [.int .u8 92,.int .u8 120,.int .u8 (hxI ((c:Int) / 16)),.int .u8 (hxI ((c:Int) % 16))] rfl (by simp [Value.oneCell']) rfl ((uZ HQd).later (uZ H6).2) (by omega) (uZ H6).1 rfl (by omega) (Nat.le_trans hbd (uZ H6).2.size) ?_
      intro v6 w7 H7
      have HQ1:Hid (QRow w7 g v6 (n+4) ((quoI s (i+1)).map (Value.int .u8))∧Below g w w7):=hZ (by
       obtain⟨h1,h2⟩:=uZ H7
       refine⟨Or.inl ?_,(uZ HBd).trans (((uZ H6).2.mono hbd).trans h2)⟩
       rw [uZ HN,uZ HQI,List.map_append]
       exact h1)
      refine hK.out _ _ (Or.inr trivial) ?_
      clear hK K H7
      try simp only [Act.put,sA,sB,sC]
      refine till_one 11 (by kernel_rfl) rfl (fun K hK=>?_)
      go_simp
      refine hK.out _ _ (Or.inl rfl) ?_
      clear hK K
      try simp only [Act.put,sA,sB,sC]
      refine till_done (by kernel_rfl) ?_ _
      go_wp2_with fail
      go_roundw
      case rel=>exact⟨i+1,n+4,by go_num,uZ HI1,by omega,HQ1⟩
      case measure=>have:=uZ HI1;have:=uZ HM;simp [intOf];omega
  ·have i1:¬(i:Int)<(s.size:Int):=by omega
   have hbs:g≤wr.heap.size:=by have:=(uZ HQ).2.size;omega
   have HN:Hid (quoI s i=quoI s s.size):=hZ (by rw [show i=s.size by have:=uZ HM;omega])
   have tokA:True:=trivial
   go_wp2_with (first|(have _t:=tokA;at_builtin;refine wpl_fewB rfl (.tmp 50) (.tmp 51) rfl g n 1 (.slice ao n cp) _ [.int .u8 34] rfl (by simp [Value.oneCell']) rfl (uZ HQ).1 (by omega) rfl (by omega) hbs ?_;intro v6 w6 H6;clear tokA;obtain⟨b7,c7,rfl,hcv⟩:=quo_convL (uZ H6).1 (uZ HN);have kc:=hcv))
   have HF:=hZ ((uZ HQ).2.trans (uZ H6).2)
   clear H6
   go_ret
   exact⟨rfl,by first|exact uZ HF|(rw [hg];exact uZ HF)⟩
def bc (L:List UInt8):List Value:=L.map fun b=>Value.int .u8 b.toNat
theorem bc_app (L M:List UInt8):bc (L++M)=bc L++bc M:=by simp [bc]
theorem bc_len (L:List UInt8):(bc L).length=L.length:=by simp [bc]
def OwB (w:World) (base:Nat) (v:Value) (L:List UInt8):Prop:=w.ownsRow base 5 1 v L.length (bc L)
theorem OwB.nil (w:World) (base:Nat):OwB w base (.slice none 0 0) []:=World.ownsRow_nil _ _ _ _
theorem OwB.later {w u:World} {base:Nat} {v:Value} {L:List UInt8} (h:OwB w base v L) (hu:Below w.heap.size w u):OwB u base v L:=own_later h (fun b hb _=>hu.block b hb)
theorem OwB.conv {w:World} {base:Nat} {v:Value} {L:List UInt8} (h:OwB w base v L):∃ao cap,v=.slice ao L.length cap∧Sem.run Tryz.prog (convert 41 9 (.slice ao L.length cap)) w=.ok (.string (bA L)) w:=by
 cases L with
 |nil=>
  rcases h.2 with ⟨rfl,_⟩|⟨g,cap,cur,rfl,_⟩
  ·exact⟨none,0,rfl,by simp [convert,run_underlying Tryz.underlying41,run_underlying Tryz.underlying9,run_underlying Tryz.underlying5,bA];rfl⟩
  ·refine⟨_,cap,rfl,?_⟩
   exact run_convert_bytes_arg (P:=Tryz.prog) w 41 5 Tryz.underlying41 Tryz.underlying5 g 0 0 cap [] rfl (fun j hj=>absurd hj (by omega)) 9 Tryz.underlying9
 |cons c L=>
  have e:bc (c :: L)=((c :: L).map (fun b=>(b.toNat:Int))).map (Value.int .u8):=by simp [bc]
  have h2:w.ownsRow base 5 1 v (L.length+1) (((c :: L).map (fun b=>(b.toNat:Int))).map (Value.int .u8)):=by rw [←e];exact h
  obtain⟨b,cap,hv,hc⟩:=byte_conv h2
  refine⟨_,cap,hv,hc.trans ?_⟩
  have e2:strOfNums ((c :: L).map (fun b=>(b.toNat:Int)))=bA (c :: L):=by
   apply bA_eq
   rw [strOfNums_data,List.map_map]
   conv=>rhs;rw [←List.map_id (c :: L)]
   apply List.map_congr_left
   intro a _
   simp
  rw [e2]
theorem wpl_appS {w:World} {ops:Array Oper} {rest:List Oper} {o:Oper} {a:Act} {Q:Exit→Act→World→Prop} (hgd:o.guard=none) (sl x:Operand)
  (ho:o.op=.call { callee:=.builtin .append,args:=#[sl,x],argTypes:=#[41,9] })
  (base:Nat) (v:Value) (L:List UInt8) (s:ByteArray) (hs:a.eval sl=v) (hown:OwB w base v L) (hx:a.eval x=.string s) (hn:L.length+s.size≤140737488355328) (hbase:base≤w.heap.size)
  (h:∀v' w',Hid (OwB w' base v' (L++s.data.toList)∧Below base w w')→wpList Tryz.prog ops Q rest (a.put o.dst v') w'):wpList Tryz.prog ops Q (o :: rest) a w:=by
 obtain⟨i0,hi,hz0,hz1,hz2⟩:=info_parts info5q
 refine Lib.wpList_append_own_string (P:=Tryz.prog) w hgd sl x 41 9 ho base 5 i0 Tryz.underlying41 Tryz.underlying9 hi hz0 hz1 hz2 v L.length (bc L) hs hown s hx (by unfold maxLen;omega) hn hbase ?_
 intro v' w' h1 h2 _
 refine h v' w' ⟨?_,(Below.refl _ _).grown h2 hbase (fun k e=>(hown.lt k e).1)⟩
 unfold OwB
 rw [List.length_append,bc_app]
 exact h1
theorem jl_next (s:List UInt8) (ks:List Tn) (T:Tn→List UInt8) (i:Nat) (z:Tn) (h:ks[i]?=some z):jl s true ((ks.take (i+1)).map T)=jl s true ((ks.take i).map T)++(if i=0 then T z else s++T z):=by
 have hi:=(List.getElem?_eq_some_iff.1 h).1
 rw [List.take_add_one,h,List.map_append]
 show jl s true ((ks.take i).map T++[T z])=_
 rw [jl_app]
 cases i with
 |zero=>simp
 |succ i=>
  cases ks with
  |nil=>simp at h
  |cons y r=>simp
theorem jl_part (s:List UInt8) (T:Tn→List UInt8) (ks:List Tn) (i:Nat):(jl s true ((ks.take i).map T)).length≤(jl s true (ks.map T)).length:=by
 have:=jl_len s true ((ks.take i).map T) ((ks.drop i).map T)
 rw [←List.map_append,List.take_append_drop] at this
 exact this
def ExD (B0:Nat) (y:Tn):Prop:=∀(x:List Value) (u:World),B0≤u.heap.size→IsN u (fun b=>b<B0) y x→Calls Tryz.prog 28 #[.agg x.toArray] u fun e u'=>e=.returned (.string (bA (exT y)))∧Below u.heap.size u u'
theorem join_any (B0:Nat) (y:Tn) (x:List Value) (w:World) (hB:B0≤w.heap.size) (hx:IsN w (fun b=>b<B0) y x) (hE:∀z∈y.ks,ExD B0 z) (hl:(jl [44,32] true (y.ks.map exT)).length≤140737488355328) :
  Calls Tryz.prog 53 #[.agg x.toArray] w fun e w'=>e=.returned (.string (bA (jl [44,32] true (y.ks.map exT))))∧Below w.heap.size w w':=by
 have hx0:=hx
 obtain⟨vk,vn,vs,al,ak,a,ll,cl,lk,ck,cc,rfl,hvv,hr,hbk,hbp⟩:=hx.opn
 obtain⟨k,t,v,f,ks,p⟩:=y
 obtain⟨n,hn⟩:∃n,ks.length=n:=⟨_,rfl⟩
 have hnb:n≤140737488351232:=by rw [←hn];exact hr.len
 simp only at hE hl
 simp only [hn] at hx0 hvv hr hbk hbp ⊢
 obtain⟨R,hR⟩:∃R,(.string (bA (jl [44,32] true (ks.map exT))):Value)=R:=⟨_,rfl⟩
 rw [hR]
 have HR:=hZ hR
 obtain⟨w1,hw1⟩:∃w1,w.alloc (.cells #[.int .i64 k,.string t,.int .i64 vk,.int .i64 vn,.string vs,.slice al ll cl,.slice ak lk ck,.bool f,.slice a n cc,.int .i64 p] 28)=w1:=⟨_,rfl⟩
 obtain⟨G,hG⟩:∃G,w.heap.size=G:=⟨_,rfl⟩
 obtain⟨A1,X1⟩:=al1 hw1 hG
 have hBG:B0≤G:=by rw [←hG];exact hB
 have HM:Hid (NM5 B0 G w w1 ⟨k,t,v,f,ks,p⟩ [.int .i64 k,.string t,.int .i64 vk,.int .i64 vn,.string vs,.slice al ll cl,.slice ak lk ck,.bool f,.slice a n cc,.int .i64 p] ks a cc v (.agg #[.int .i64 vk,.int .i64 vn,.string vs,.slice al ll cl,.slice ak lk ck])):=hZ (fun u hu=>by
  have h2:=X1.trans (hu.mono (Nat.le_of_lt (lt_of_row A1)))
  exact⟨hx0.laterB (h2.mono hBG),hr.later (h2.mono hBG),Nat.le_trans hBG (by rw [←hG];exact h2.size),hvv.mono (h2.mono hBG),h2⟩)
 have HF:Hid (NF10 w1 G (.int .i64 k) (.string t) (.int .i64 vk) (.int .i64 vn) (.string vs) (.slice al ll cl) (.slice ak lk ck) (.bool f) (.slice a n cc) (.int .i64 p)):=hZ (fun u hu=>row_ten (Below.cellsAt hu A1))
 have HN:=hZ hn
 have HS0:Hid (Below w1.heap.size w1 w1):=hZ (Below.refl _ _)
 have HW:=hZ hw1
 have HE:=hZ hE
 have HLn:=hZ hl
 clear hE hl
 clear A1 X1 hw1 hx hx0 hr hvv hB hBG hn hR
 go_enter Tryz.func53,Tryz.ntmps53
 go_upto_region 1 with fail
 rw [uZ HW]
 try rw [hG]
 clear HW
 obtain⟨x0,x1,x2,x3,x4,x5,x6,x7,x8,x9⟩:=uZ HF w1 (Below.refl _ _)
 have hgs:=(uZ HS0).size
 obtain⟨g,hg⟩:∃g,w1.heap.size=g:=⟨_,rfl⟩
 have HG1:=hZ hg
 go_wp2_with fail
 clear x0 x1 x2 x3 x4 x5 x6 x7 x8 x9
 go_loopw [3,4] (fun ov x wr=>∃(i:Nat) (rv:Value),x=.int .i64 (i:Int)∧rv=ov∧i≤n∧Hid (OwB wr g rv (jl [44,32] true ((ks.take i).map exT)))∧Hid (Below w1.heap.size w1 wr)) (fun _ x _=>n - (intOf x).toNat)
 case atStart=>exact⟨0,_,rfl,rfl,Nat.zero_le _,hZ (by simpa [jl] using OwB.nil _ _),HS0⟩
 case round=>
  obtain⟨i,rv,rfl,rfl,hi,HO,HX⟩:=hrel
  obtain⟨w8,hw8⟩:∃u,u=wr:=⟨_,rfl⟩
  subst hw8
  obtain⟨x0,x1,x2,x3,x4,x5,x6,x7,x8,x9⟩:=uZ HF w8 (uZ HX)
  have hgb:g≤w8.heap.size:=by have:=(uZ HX).size;have:=uZ HG1;omega
  by_cases hlt:i<n
  ·have i1:(i:Int)<(n:Int):=by omega
   obtain⟨z,hz⟩:∃z,ks[i]?=some z:=⟨_,List.getElem?_eq_getElem (by have:=uZ HN;omega)⟩
   have HZ:=hZ hz
   have HI1:=hZ (show i+1≤n by omega)
   have HJ:=hZ (jl_next [44,32] ks exT i z hz)
   have HJ2:=hZ (jl_part [44,32] exT ks (i+1))
   by_cases h0:i=0
   ·have h00:=h0
    subst h0
    have hlen:(jl [44,32] true ((ks.take 0).map exT)).length+(exT z).length≤140737488355328:=by
     have h1:=uZ HJ
     have h2:=uZ HJ2
     have h3:=uZ HLn
     rw [if_pos (by trivial)] at h1
     rw [h1,List.length_append] at h2
     try simp only [List.length_append,List.length_cons,List.length_nil] at h2
     omega
    have hni:True:=trivial
    obtain⟨b,vky,vny,vsy,aly,aky,ay,lly,cly,lky,cky,ny,ccy,rfl,hcy,hby,hny,hzy,hcelly⟩:=((uZ HM) w8 (uZ HX)).2.1.ten hz
    have e0:w8.cell? b=some (.int .i64 z.k):=hcelly 0 _ rfl
    have e1:w8.cell? ⟨b.block,b.off+1,none⟩=some (.string z.t):=hcelly 1 _ rfl
    have e2:w8.cell? ⟨b.block,b.off+2,none⟩=some (.int .i64 vky):=hcelly 2 _ rfl
    have e3:w8.cell? ⟨b.block,b.off+3,none⟩=some (.int .i64 vny):=hcelly 3 _ rfl
    have e4:w8.cell? ⟨b.block,b.off+4,none⟩=some (.string vsy):=hcelly 4 _ rfl
    have e5:w8.cell? ⟨b.block,b.off+5,none⟩=some (.slice aly lly cly):=hcelly 5 _ rfl
    have e6:w8.cell? ⟨b.block,b.off+6,none⟩=some (.slice aky lky cky):=hcelly 6 _ rfl
    have e7:w8.cell? ⟨b.block,b.off+7,none⟩=some (.bool z.f):=hcelly 7 _ rfl
    have e8:w8.cell? ⟨b.block,b.off+8,none⟩=some (.slice ay ny ccy):=hcelly 8 _ rfl
    have e9:w8.cell? ⟨b.block,b.off+9,none⟩=some (.int .i64 z.p):=hcelly 9 _ rfl
    have CE:=hZ ((uZ HE) z (List.mem_of_getElem? (uZ HZ)) _ w8 ((uZ HM) w8 (uZ HX)).2.2.1 hzy)
    obtain⟨S,hS⟩:∃S,bA (exT z)=S:=⟨_,rfl⟩
    rw [hS] at CE
    have hSd:S.data.toList=exT z:=by rw [←hS,bA_data]
    have HSd:=hZ hSd
    clear hz hcy hby hny hzy hcelly hS hSd
    go_wp2_with fail
    refine(uZ CE).mono ?_
    rintro e w5 ⟨rfl,bb⟩
    have HX5:=hZ ((uZ HX).trans (bb.mono (uZ HX).size))
    have HO5:=hZ ((uZ HO).later bb)
    have hgb5:g≤w5.heap.size:=Nat.le_trans hgb bb.size
    clear bb CE e0 e1 e2 e3 e4 e5 e6 e7 e8 e9 x0 x1 x2 x3 x4 x5 x6 x7 x8 x9
    have hSs:S.size=(exT z).length:=by rw [←uZ HSd];rfl
    have tokA:True:=trivial
    go_wp2_with (first|(have _t:=tokA;at_builtin;refine wpl_appS rfl (.tmp 16) (.tmp 22) rfl g _ _ S rfl (uZ HO5) rfl (by rw [hSs];exact hlen) hgb5 ?_;intro v6 w6 H6;clear tokA))
    have HO6:=hZ (show OwB w6 g v6 (jl [44,32] true ((ks.take (0+1)).map exT)) by rw [uZ HJ,if_pos (by trivial),←uZ HSd];exact(uZ H6).1)
    have HX6:=hZ ((uZ HX5).trans ((uZ H6).2.mono (by have:=uZ HG1;omega)))
    clear H6 HO5 hlen hSs hni
    go_roundw
    case rel=>exact⟨0+1,_,by go_num,rfl,uZ HI1,HO6,HX6⟩
    case measure=>have:=uZ HI1;simp [intOf];omega
   ·have hlen:(jl [44,32] true ((ks.take i).map exT)).length+2+(exT z).length≤140737488355328:=by
     have h1:=uZ HJ
     have h2:=uZ HJ2
     have h3:=uZ HLn
     rw [if_neg h0] at h1
     rw [h1,List.length_append] at h2
     try simp only [List.length_append,List.length_cons,List.length_nil] at h2
     omega
    have hni:(0:Int)<(i:Int):=by omega
    obtain⟨b,vky,vny,vsy,aly,aky,ay,lly,cly,lky,cky,ny,ccy,rfl,hcy,hby,hny,hzy,hcelly⟩:=((uZ HM) w8 (uZ HX)).2.1.ten hz
    obtain⟨e0,e1,e2,e3,e4,e5,e6,e7,e8,e9⟩:=tenC hcelly
    clear hz hcy hby hny hzy hcelly e0 e1 e2 e3 e4 e5 e6 e7 e8 e9
    have tokA:True:=trivial
    go_upto_region 7 with (first|(have _t:=tokA;at_builtin;refine wpl_appS rfl (.tmp 14) (.const (.string ⟨#[44,32]⟩)) rfl g _ _ ⟨#[44,32]⟩ rfl (uZ HO) rfl (by show _+2≤_;omega) hgb ?_;intro v5 w5 H5;clear tokA))
    have HX5:=hZ ((uZ HX).trans ((uZ H5).2.mono (by have:=uZ HG1;omega)))
    have hgb5:g≤w5.heap.size:=Nat.le_trans hgb (uZ H5).2.size
    clear x0 x1 x2 x3 x4 x5 x6 x7 x8 x9
    obtain⟨x0,x1,x2,x3,x4,x5,x6,x7,x8,x9⟩:=uZ HF w5 (uZ HX5)
    have hz:ks[i]?=some z:=uZ HZ
    obtain⟨b',vky,vny,vsy,aly,aky,ay,lly,cly,lky,cky,ny,ccy,eb,hcy,hby,hny,hzy,hcelly⟩:=((uZ HM) w5 (uZ HX5)).2.1.ten hz
    obtain rfl:b=b':=Option.some.inj eb
    obtain⟨e0,e1,e2,e3,e4,e5,e6,e7,e8,e9⟩:=tenC hcelly
    clear eb
    have CE:=hZ ((uZ HE) z (List.mem_of_getElem? (uZ HZ)) _ w5 ((uZ HM) w5 (uZ HX5)).2.2.1 hzy)
    obtain⟨S,hS⟩:∃S,bA (exT z)=S:=⟨_,rfl⟩
    rw [hS] at CE
    have hSd:S.data.toList=exT z:=by rw [←hS,bA_data]
    have HSd:=hZ hSd
    clear hz hcy hby hny hzy hcelly hS hSd
    go_wp2_with fail
    refine(uZ CE).mono ?_
    rintro e w6 ⟨rfl,bb⟩
    have HX6:=hZ ((uZ HX5).trans (bb.mono (uZ HX5).size))
    have HO6:=hZ ((uZ H5).1.later bb)
    have hgb6:g≤w6.heap.size:=Nat.le_trans hgb5 bb.size
    clear bb CE H5 e0 e1 e2 e3 e4 e5 e6 e7 e8 e9 x0 x1 x2 x3 x4 x5 x6 x7 x8 x9
    have hSs:S.size=(exT z).length:=by rw [←uZ HSd];rfl
    have tokB:True:=trivial
    go_wp2_with (first|(have _t:=tokB;at_builtin;refine wpl_appS rfl (.tmp 16) (.tmp 22) rfl g _ _ S rfl (uZ HO6) rfl (by rw [hSs,List.length_append];show _+2+_≤_;omega) hgb6 ?_;intro v7 w7 H7;clear tokB))
    have HO7:=hZ (show OwB w7 g v7 (jl [44,32] true ((ks.take (i+1)).map exT)) by rw [uZ HJ,if_neg h0,←uZ HSd,←List.append_assoc];exact(uZ H7).1)
    have HX7:=hZ ((uZ HX6).trans ((uZ H7).2.mono (by have:=uZ HG1;omega)))
    clear H7 HO6 hlen hSs h0 hni
    go_roundw
    case rel=>exact⟨i+1,_,by go_num,rfl,uZ HI1,HO7,HX7⟩
    case measure=>have:=uZ HI1;simp [intOf];omega
  ·have i1:¬(i:Int)<(n:Int):=by omega
   have hin:ks.take i=ks:=List.take_of_length_le (by have:=uZ HN;omega)
   have HO2:=hZ (show OwB w8 g rv (jl [44,32] true (ks.map exT)) by have:=uZ HO;rw [hin] at this;exact this)
   obtain⟨ao,cp,rfl,hcv⟩:=(uZ HO2).conv
   have HV:=hZ (show R=.string (bA (jl [44,32] true (ks.map exT))) from (uZ HR).symm)
   clear HO HR hin
   go_wp2_with fail
   go_ret
   have hbz:=((uZ HM) w8 (uZ HX)).2.2.2.2
   exact⟨by rw [uZ HV] <;> rfl,by subst hG;exact hbz⟩
theorem rpart_any (i:Nat) (z:Tn) (B0:Nat) (y:Tn) (x:List Value) (w:World) (hB:B0≤w.heap.size) (hx:IsN w (fun b=>b<B0) y x) (hz:y.ks[i]?=some z) (hE:ExD B0 z) (hl:(exT z).length≤100000000000) :
  Calls Tryz.prog 56 #[.agg x.toArray,.int .i64 (i:Int)] w fun e w'=>e=.returned (.string (bA (opX y.k y.t y.ks (exM y.ks) i)))∧Below w.heap.size w w':=by
 have hx0:=hx
 obtain⟨vk,vn,vs,al,ak,a,ll,cl,lk,ck,cc,rfl,hvv,hr,hbk,hbp⟩:=hx.opn
 obtain⟨k,t,v,f,ks,p⟩:=y
 obtain⟨n,hn⟩:∃n,ks.length=n:=⟨_,rfl⟩
 have hnb:n≤140737488351232:=by rw [←hn];exact hr.len
 simp only [hn] at hx0 hvv hr hbk hbp ⊢
 obtain⟨R,hR⟩:∃R,(.string (bA (opX k t ks (exM ks) i)):Value)=R:=⟨_,rfl⟩
 rw [hR]
 have HR:=hZ hR
 simp only at hz
 obtain⟨b,vky,vny,vsy,aly,aky,ay,lly,cly,lky,cky,ny,ccy,rfl,hcy,hby,hny,hzy,hcelly⟩:=hr.ten hz
 obtain⟨w1,hw1⟩:∃w1,w.alloc (.cells #[.int .i64 k,.string t,.int .i64 vk,.int .i64 vn,.string vs,.slice al ll cl,.slice ak lk ck,.bool f,.slice (some b) n cc,.int .i64 p] 28)=w1:=⟨_,rfl⟩
 obtain⟨G,hG⟩:∃G,w.heap.size=G:=⟨_,rfl⟩
 obtain⟨A1,X1⟩:=al1 hw1 hG
 have hBG:B0≤G:=by rw [←hG];exact hB
 have HM:Hid (NM5 B0 G w w1 ⟨k,t,v,f,ks,p⟩ [.int .i64 k,.string t,.int .i64 vk,.int .i64 vn,.string vs,.slice al ll cl,.slice ak lk ck,.bool f,.slice (some b) n cc,.int .i64 p] ks (some b) cc v (.agg #[.int .i64 vk,.int .i64 vn,.string vs,.slice al ll cl,.slice ak lk ck])):=hZ (fun u hu=>by
  have h2:=X1.trans (hu.mono (Nat.le_of_lt (lt_of_row A1)))
  exact⟨hx0.laterB (h2.mono hBG),hr.later (h2.mono hBG),Nat.le_trans hBG (by rw [←hG];exact h2.size),hvv.mono (h2.mono hBG),h2⟩)
 have HF:Hid (NF10 w1 G (.int .i64 k) (.string t) (.int .i64 vk) (.int .i64 vn) (.string vs) (.slice al ll cl) (.slice ak lk ck) (.bool f) (.slice (some b) n cc) (.int .i64 p)):=hZ (fun u hu=>row_ten (Below.cellsAt hu A1))
 have HN:=hZ hn
 have HS0:Hid (Below w1.heap.size w1 w1):=hZ (Below.refl _ _)
 have HW:=hZ hw1
 have X0y:∀u,Below w1.heap.size w1 u→Below G w u:=fun u h=>X1.trans (h.mono (Nat.le_of_lt (lt_of_row A1)))
 have HK:Hid (∀u,Below w1.heap.size w1 u→(u.cell? (b.add (i * 10))=some (.int .i64 z.k)∧u.cell? (⟨(b.add (i * 10)).block,(b.add (i * 10)).off+1,none⟩)=some (.string z.t)∧u.cell? (⟨(b.add (i * 10)).block,(b.add (i * 10)).off+2,none⟩)=some (.int .i64 vky)∧u.cell? (⟨(b.add (i * 10)).block,(b.add (i * 10)).off+3,none⟩)=some (.int .i64 vny)∧u.cell? (⟨(b.add (i * 10)).block,(b.add (i * 10)).off+4,none⟩)=some (.string vsy)∧u.cell? (⟨(b.add (i * 10)).block,(b.add (i * 10)).off+5,none⟩)=some (.slice aly lly cly)∧u.cell? (⟨(b.add (i * 10)).block,(b.add (i * 10)).off+6,none⟩)=some (.slice aky lky cky)∧u.cell? (⟨(b.add (i * 10)).block,(b.add (i * 10)).off+7,none⟩)=some (.bool z.f)∧u.cell? (⟨(b.add (i * 10)).block,(b.add (i * 10)).off+8,none⟩)=some (.slice ay ny ccy)∧u.cell? (⟨(b.add (i * 10)).block,(b.add (i * 10)).off+9,none⟩)=some (.int .i64 z.p))∧IsN u (fun b=>b<B0) z [.int .i64 z.k,.string z.t,.int .i64 vky,.int .i64 vny,.string vsy,.slice aly lly cly,.slice aky lky cky,.bool z.f,.slice ay ny ccy,.int .i64 z.p]):=hZ (fun u h=>by
  have hc:∀j v,([.int .i64 z.k,.string z.t,.int .i64 vky,.int .i64 vny,.string vsy,.slice aly lly cly,.slice aky lky cky,.bool z.f,.slice ay ny ccy,.int .i64 z.p]:List Value)[j]?=some v→u.cell? ((b.add (i * 10)).add j)=some v:=fun j v hj=>(World.cell?_of_block ((X0y u h).block _ (by rw [block_add,block_add];omega))).trans (hcelly j v hj)
  exact⟨⟨hc 0 _ rfl,hc 1 _ rfl,hc 2 _ rfl,hc 3 _ rfl,hc 4 _ rfl,hc 5 _ rfl,hc 6 _ rfl,hc 7 _ rfl,hc 8 _ rfl,hc 9 _ rfl⟩,hzy.laterB ((X0y u h).mono hBG)⟩)
 have hnccy:n≤cc:=by rw [←hn];exact hcy
 clear hzy hcelly X0y hby hcy
 have HZ:=hZ hz
 have hin:i<n:=by have:=(List.getElem?_eq_some_iff.1 hz).1;omega
 have hii:(i:Int)<(n:Int):=by omega
 have hi0:(0:Int)≤(i:Int):=by omega
 have HE:=hZ hE
 have HQL:=hZ (opX_at k t ks i z hz)
 clear hz hE
 clear A1 X1 hw1 hx hx0 hr hvv hB hBG hn hR
 go_enter Tryz.func56,Tryz.ntmps56
 go_upto_region 1 with fail
 rw [uZ HW]
 try rw [hG]
 clear HW
 obtain⟨x0,x1,x2,x3,x4,x5,x6,x7,x8,x9⟩:=uZ HF w1 (Below.refl _ _)
 obtain⟨y0,y1,y2,y3,y4,y5,y6,y7,y8,y9⟩:=(uZ HK w1 (Below.refl _ _)).1
 have CS:=hZ ((uZ HE) _ w1 ((uZ HM) w1 (uZ HS0)).2.2.1 (uZ HK w1 (Below.refl _ _)).2)
 obtain⟨S,hS⟩:∃S,bA (exT z)=S:=⟨_,rfl⟩
 try simp only at CS
 rw [hS] at CS
 have dS:S.data.toList=exT z:=by rw [←hS,bA_data]
 have sS:S.size≤100000000000:=by
    have e:S.size=(exT z).length:=by rw [←hS,bA_size]
    omega
 clear hS
 have HD:=hZ dS
 clear dS
 go_wp2_with fail
 refine(uZ CS).mono ?_
 rintro e w2 ⟨rfl,bb⟩
 have HS2:=hZ bb
 clear bb CS x0 x1 x2 x3 x4 x5 x6 x7 x8 x9 y0 y1 y2 y3 y4 y5 y6 y7 y8 y9
 obtain⟨x0,x1,x2,x3,x4,x5,x6,x7,x8,x9⟩:=uZ HF w2 (uZ HS2)
 have CB:=hZ (rbracket_any i z B0 ⟨k,t,v,f,ks,p⟩ _ w2 ((uZ HM) w2 (uZ HS2)).2.2.1 ((uZ HM) w2 (uZ HS2)).1 (uZ HZ))
 obtain⟨Q,hQ⟩:∃Q,brk k t z.k z.t i=Q:=⟨_,rfl⟩
 try simp only at CB
 rw [hQ] at CB
 have HQ:=hZ hQ
 clear hQ
 go_wp2_with fail
 refine(uZ CB).mono ?_
 rintro e w3 ⟨rfl,bb⟩
 have HS3:=hZ ((uZ HS2).trans (bb.mono (uZ HS2).size))
 clear bb CB x0 x1 x2 x3 x4 x5 x6 x7 x8 x9
 cases Q with
 |false=>
  have HV:=hZ (show R=.string S by rw [←uZ HR,uZ HQL,uZ HQ,if_neg (by decide),bA_eq S _ (uZ HD)])
  clear HR
  go_wp2_with fail
  go_ret
  have hbz:=((uZ HM) w3 (uZ HS3)).2.2.2.2
  exact⟨by rw [uZ HV] <;> rfl,by subst hG;exact hbz⟩
 |true=>
  have hzA:¬9223372036854775807<1+S.size:=by omega
  obtain⟨A,eA⟩:∃z,(⟨#[40]⟩++S:ByteArray)=z:=⟨_,rfl⟩
  have dA:A.data.toList=40 :: exT z:=by rw [←eA,ByteArray.data_append,Array.toList_append,uZ HD];rfl
  have sA:A.size=1+S.size:=by rw [←eA,ByteArray.size_append];rfl
  have hzB:¬9223372036854775807<A.size+1:=by omega
  obtain⟨B,eB⟩:∃z,(A++⟨#[41]⟩:ByteArray)=z:=⟨_,rfl⟩
  have dB:B.data.toList=40 :: (exT z++[41]):=by rw [←eB,ByteArray.data_append,Array.toList_append,dA];rfl
  have sB:B.size=A.size+1:=by rw [←eB,ByteArray.size_append];rfl
  have HV:=hZ (show R=.string B by rw [←uZ HR,uZ HQL,uZ HQ,if_pos rfl,bA_eq B _ dB])
  clear HR dA dB
  go_wp2_with fail
  go_ret
  have hbz:=((uZ HM) w3 (uZ HS3)).2.2.2.2
  exact⟨by rw [uZ HV] <;> rfl,by subst hG;exact hbz⟩
end Go.Proofs.YtlkeaaopdnnceaaGreatDoor
