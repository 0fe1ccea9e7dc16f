/-
  The walks of lex's isSign and piece; conditions: a text of at most 2^40 bytes.
-/
import Derived.Test.YtilhlmmcdfoaoaaGreatDoorE02
set_option linter.unusedVariables false
set_option linter.unusedSimpArgs false
namespace Go.Proofs.YtilhlmmcdfoaoaaGreatDoor
open Go.RowKit
set_option linter.unusedVariables false
set_option linter.unusedSimpArgs false
theorem sgB_or (l:List UInt8):sgB l=((l == [40]) ||(l == [41]) ||(l == [123]) ||(l == [125]) ||(l == [91]) ||(l == [93]) ||(l == [44]) ||(l == [59]) ||(l == [58]) ||(l == [46]) ||(l == [61]) ||(l == [61,61]) ||(l == [33,61]) ||(l == [60]) ||(l == [60,61]) ||(l == [62]) ||(l == [62,61]) ||(l == [43]) ||(l == [45]) ||(l == [42]) ||(l == [47]) ||(l == [37]) ||(l == [33]) ||(l == [38,38]) ||(l == [124,124])):=by
 have h:((l == [40]) ||(l == [41]) ||(l == [123]) ||(l == [125]) ||(l == [91]) ||(l == [93]) ||(l == [44]) ||(l == [59]) ||(l == [58]) ||(l == [46]) ||(l == [61]) ||(l == [61,61]) ||(l == [33,61]) ||(l == [60]) ||(l == [60,61]) ||(l == [62]) ||(l == [62,61]) ||(l == [43]) ||(l == [45]) ||(l == [42]) ||(l == [47]) ||(l == [37]) ||(l == [33]) ||(l == [38,38]) ||(l == [124,124]))=(sgL.contains l):=by
  rw [Bool.eq_iff_iff]
  simp only [sgL,List.contains_cons,List.contains_nil,Bool.or_eq_true,Bool.or_false]
  constructor
  ·intro h
   repeat' (rcases h with h|h)
   all_goals simp [h]
  ·intro h
   repeat' (rcases h with h|h)
   all_goals simp [h]
 rw [h]
 rfl
set_option maxRecDepth 100000 in
set_option maxHeartbeats 2000000 in
theorem isSign_any (s:ByteArray) (w:World) :
  Calls Tryz.prog 81 #[.string s] w fun e w'=>e=.returned (.bool (sgB s.data.toList))∧w'=w:=by
 rw [←ByteArray.toList_eq]
 obtain⟨R,hR⟩:∃R,sgB s.toList=R:=⟨_,rfl⟩
 rw [sgB_or] at hR
 rw [sgB_or,hR]
 cases h0:s.toList == [40] with
 |true=>
  have hT:R=true:=by rw [←hR];simp [h0]
  rw [hT]
  clear hR hT
  go_enter Tryz.func81,Tryz.ntmps81
  go_wp2_with fail
  go_ret
  exact⟨rfl,rfl⟩
 |false=>
  cases h1:s.toList == [41] with
  |true=>
   have hT:R=true:=by rw [←hR];simp [h0,h1]
   rw [hT]
   clear hR hT
   go_enter Tryz.func81,Tryz.ntmps81
   go_wp2_with fail
   go_ret
   exact⟨rfl,rfl⟩
  |false=>
   cases h2:s.toList == [123] with
   |true=>
    have hT:R=true:=by rw [←hR];simp [h0,h1,h2]
    rw [hT]
    clear hR hT
    go_enter Tryz.func81,Tryz.ntmps81
    go_wp2_with fail
    go_ret
    exact⟨rfl,rfl⟩
   |false=>
    cases h3:s.toList == [125] with
    |true=>
     have hT:R=true:=by rw [←hR];simp [h0,h1,h2,h3]
     rw [hT]
     clear hR hT
     go_enter Tryz.func81,Tryz.ntmps81
     go_wp2_with fail
     go_ret
     exact⟨rfl,rfl⟩
    |false=>
     cases h4:s.toList == [91] with
     |true=>
      have hT:R=true:=by rw [←hR];simp [h0,h1,h2,h3,h4]
      rw [hT]
      clear hR hT
      go_enter Tryz.func81,Tryz.ntmps81
      go_wp2_with fail
      go_ret
      exact⟨rfl,rfl⟩
     |false=>
      cases h5:s.toList == [93] with
      |true=>
       have hT:R=true:=by rw [←hR];simp [h0,h1,h2,h3,h4,h5]
       rw [hT]
       clear hR hT
       go_enter Tryz.func81,Tryz.ntmps81
       go_wp2_with fail
       go_ret
       exact⟨rfl,rfl⟩
      |false=>
       cases h6:s.toList == [44] with
       |true=>
        have hT:R=true:=by rw [←hR];simp [h0,h1,h2,h3,h4,h5,h6]
        rw [hT]
        clear hR hT
        go_enter Tryz.func81,Tryz.ntmps81
        go_wp2_with fail
        go_ret
        exact⟨rfl,rfl⟩
       |false=>
        cases h7:s.toList == [59] with
        |true=>
         have hT:R=true:=by rw [←hR];simp [h0,h1,h2,h3,h4,h5,h6,h7]
         rw [hT]
         clear hR hT
         go_enter Tryz.func81,Tryz.ntmps81
         go_wp2_with fail
         go_ret
         exact⟨rfl,rfl⟩
        |false=>
         cases h8:s.toList == [58] with
         |true=>
          have hT:R=true:=by rw [←hR];simp [h0,h1,h2,h3,h4,h5,h6,h7,h8]
          rw [hT]
          clear hR hT
          go_enter Tryz.func81,Tryz.ntmps81
          go_wp2_with fail
          go_ret
          exact⟨rfl,rfl⟩
         |false=>
          cases h9:s.toList == [46] with
          |true=>
           have hT:R=true:=by rw [←hR];simp [h0,h1,h2,h3,h4,h5,h6,h7,h8,h9]
           rw [hT]
           clear hR hT
           go_enter Tryz.func81,Tryz.ntmps81
           go_wp2_with fail
           go_ret
           exact⟨rfl,rfl⟩
          |false=>
           cases h10:s.toList == [61] with
           |true=>
            have hT:R=true:=by rw [←hR];simp [h0,h1,h2,h3,h4,h5,h6,h7,h8,h9,h10]
            rw [hT]
            clear hR hT
            go_enter Tryz.func81,Tryz.ntmps81
            go_wp2_with fail
            go_ret
            exact⟨rfl,rfl⟩
           |false=>
            cases h11:s.toList == [61,61] with
            |true=>
             have hT:R=true:=by rw [←hR];simp [h0,h1,h2,h3,h4,h5,h6,h7,h8,h9,h10,h11]
             rw [hT]
             clear hR hT
             go_enter Tryz.func81,Tryz.ntmps81
             go_wp2_with fail
             go_ret
             exact⟨rfl,rfl⟩
            |false=>
             cases h12:s.toList == [33,61] with
             |true=>
              have hT:R=true:=by rw [←hR];simp [h0,h1,h2,h3,h4,h5,h6,h7,h8,h9,h10,h11,h12]
              rw [hT]
              clear hR hT
              go_enter Tryz.func81,Tryz.ntmps81
              go_wp2_with fail
              go_ret
              exact⟨rfl,rfl⟩
             |false=>
              cases h13:s.toList == [60] with
              |true=>
               have hT:R=true:=by rw [←hR];simp [h0,h1,h2,h3,h4,h5,h6,h7,h8,h9,h10,h11,h12,h13]
               rw [hT]
               clear hR hT
               go_enter Tryz.func81,Tryz.ntmps81
               go_wp2_with fail
               go_ret
               exact⟨rfl,rfl⟩
              |false=>
               cases h14:s.toList == [60,61] with
               |true=>
                have hT:R=true:=by rw [←hR];simp [h0,h1,h2,h3,h4,h5,h6,h7,h8,h9,h10,h11,h12,h13,h14]
                rw [hT]
                clear hR hT
                go_enter Tryz.func81,Tryz.ntmps81
                go_wp2_with fail
                go_ret
                exact⟨rfl,rfl⟩
               |false=>
                cases h15:s.toList == [62] with
                |true=>
                 have hT:R=true:=by rw [←hR];simp [h0,h1,h2,h3,h4,h5,h6,h7,h8,h9,h10,h11,h12,h13,h14,h15]
                 rw [hT]
                 clear hR hT
                 go_enter Tryz.func81,Tryz.ntmps81
                 go_wp2_with fail
                 go_ret
                 exact⟨rfl,rfl⟩
                |false=>
                 cases h16:s.toList == [62,61] with
                 |true=>
                  have hT:R=true:=by rw [←hR];simp [h0,h1,h2,h3,h4,h5,h6,h7,h8,h9,h10,h11,h12,h13,h14,h15,h16]
                  rw [hT]
                  clear hR hT
                  go_enter Tryz.func81,Tryz.ntmps81
                  go_wp2_with fail
                  go_ret
                  exact⟨rfl,rfl⟩
                 |false=>
                  cases h17:s.toList == [43] with
                  |true=>
                   have hT:R=true:=by rw [←hR];simp [h0,h1,h2,h3,h4,h5,h6,h7,h8,h9,h10,h11,h12,h13,h14,h15,h16,h17]
                   rw [hT]
                   clear hR hT
                   go_enter Tryz.func81,Tryz.ntmps81
                   go_wp2_with fail
                   go_ret
                   exact⟨rfl,rfl⟩
                  |false=>
                   cases h18:s.toList == [45] with
                   |true=>
                    have hT:R=true:=by rw [←hR];simp [h0,h1,h2,h3,h4,h5,h6,h7,h8,h9,h10,h11,h12,h13,h14,h15,h16,h17,h18]
                    rw [hT]
                    clear hR hT
                    go_enter Tryz.func81,Tryz.ntmps81
                    go_wp2_with fail
                    go_ret
                    exact⟨rfl,rfl⟩
                   |false=>
                    cases h19:s.toList == [42] with
                    |true=>
                     have hT:R=true:=by rw [←hR];simp [h0,h1,h2,h3,h4,h5,h6,h7,h8,h9,h10,h11,h12,h13,h14,h15,h16,h17,h18,h19]
                     rw [hT]
                     clear hR hT
                     go_enter Tryz.func81,Tryz.ntmps81
                     go_wp2_with fail
                     go_ret
                     exact⟨rfl,rfl⟩
                    |false=>
                     cases h20:s.toList == [47] with
                     |true=>
                      have hT:R=true:=by rw [←hR];simp [h0,h1,h2,h3,h4,h5,h6,h7,h8,h9,h10,h11,h12,h13,h14,h15,h16,h17,h18,h19,h20]
                      rw [hT]
                      clear hR hT
                      go_enter Tryz.func81,Tryz.ntmps81
                      go_wp2_with fail
                      go_ret
                      exact⟨rfl,rfl⟩
                     |false=>
                      cases h21:s.toList == [37] with
                      |true=>
                       have hT:R=true:=by rw [←hR];simp [h0,h1,h2,h3,h4,h5,h6,h7,h8,h9,h10,h11,h12,h13,h14,h15,h16,h17,h18,h19,h20,h21]
                       rw [hT]
                       clear hR hT
                       go_enter Tryz.func81,Tryz.ntmps81
                       go_wp2_with fail
                       go_ret
                       exact⟨rfl,rfl⟩
                      |false=>
                       cases h22:s.toList == [33] with
                       |true=>
                        have hT:R=true:=by rw [←hR];simp [h0,h1,h2,h3,h4,h5,h6,h7,h8,h9,h10,h11,h12,h13,h14,h15,h16,h17,h18,h19,h20,h21,h22]
                        rw [hT]
                        clear hR hT
                        go_enter Tryz.func81,Tryz.ntmps81
                        go_wp2_with fail
                        go_ret
                        exact⟨rfl,rfl⟩
                       |false=>
                        cases h23:s.toList == [38,38] with
                        |true=>
                         have hT:R=true:=by rw [←hR];simp [h0,h1,h2,h3,h4,h5,h6,h7,h8,h9,h10,h11,h12,h13,h14,h15,h16,h17,h18,h19,h20,h21,h22,h23]
                         rw [hT]
                         clear hR hT
                         go_enter Tryz.func81,Tryz.ntmps81
                         go_wp2_with fail
                         go_ret
                         exact⟨rfl,rfl⟩
                        |false=>
                         cases h24:s.toList == [124,124] with
                         |true=>
                          have hT:R=true:=by rw [←hR];simp [h0,h1,h2,h3,h4,h5,h6,h7,h8,h9,h10,h11,h12,h13,h14,h15,h16,h17,h18,h19,h20,h21,h22,h23,h24]
                          rw [hT]
                          clear hR hT
                          go_enter Tryz.func81,Tryz.ntmps81
                          go_wp2_with fail
                          go_ret
                          exact⟨rfl,rfl⟩
                         |false=>
                          have hT:R=false:=by rw [←hR];simp [h0,h1,h2,h3,h4,h5,h6,h7,h8,h9,h10,h11,h12,h13,h14,h15,h16,h17,h18,h19,h20,h21,h22,h23,h24]
                          rw [hT]
                          clear hR hT
                          go_enter Tryz.func81,Tryz.ntmps81
                          go_wp2_with fail
                          go_ret
                          exact⟨rfl,rfl⟩
def pcV:Option (UInt8 × Nat)→Value
 |none=>.tuple #[.int .u8 0,.int .i64 0]
 |some (b,n)=>.tuple #[.int .u8 (b.toNat:Int),.int .i64 (n:Int)]
theorem pcV_some (b:UInt8) (n:Nat):pcV (some (b,n))=.tuple #[.int .u8 (b.toNat:Int),.int .i64 (n:Int)]:=rfl
def hexI (c:UInt8):Int:=match hexV c with|none=>-1|some a=>(a:Int)
theorem index_fin:∀c:Fin 256,Lib.indexByte [48,49,50,51,52,53,54,55,56,57,97,98,99,100,101,102] (UInt8.ofNat c.val)=hexI (UInt8.ofNat c.val):=by decide +kernel
theorem index_hex (c:UInt8):Lib.indexByte [48,49,50,51,52,53,54,55,56,57,97,98,99,100,101,102] c=hexI c:=by
 have h:=index_fin ⟨c.toNat,c.toNat_lt⟩
 simpa using h
theorem hexV_lt {c:UInt8} {a:Nat} (h:hexV c=some a):a<16:=by
 unfold hexV at h
 split at h
 ·simp at h;omega
 ·split at h
  ·simp at h;omega
  ·cases h
theorem index_any (c:UInt8) (z:Int) (hz:(c.toNat:Int)=z) (w:World) :
  Calls Tryz.prog 100 #[.string ⟨#[48,49,50,51,52,53,54,55,56,57,97,98,99,100,101,102]⟩,.int .u8 z] w fun e w'=>e=.returned (.int .i64 (hexI c))∧w'=w:=by
 have h:=Tryz.strings_IndexByte ⟨#[48,49,50,51,52,53,54,55,56,57,97,98,99,100,101,102]⟩ z w
 have e:z.toNat.toUInt8=c:=by
  rw [←hz]
  simp
 rw [e,show (⟨#[48,49,50,51,52,53,54,55,56,57,97,98,99,100,101,102]⟩:ByteArray).data.toList=[48,49,50,51,52,53,54,55,56,57,97,98,99,100,101,102] from rfl,index_hex] at h
 exact h
theorem below_drewN' (n:Nat) (w:World):Below w.heap.size w (w.drewN n):=⟨rfl,rfl,rfl,Nat.le_refl _,fun _ _=>rfl⟩
theorem or_fin:∀a:Fin 16,∀b:Fin 16,bits .or .i64 ((a.val:Int) * 16) (b.val:Int)=16 * (a.val:Int)+(b.val:Int):=by decide +kernel
theorem or_hex (a b:Nat) (ha:a<16) (hb:b<16):bits .or .i64 ((a:Int) * 16) (b:Int)=16 * (a:Int)+(b:Int):=or_fin ⟨a,ha⟩ ⟨b,hb⟩
set_option maxRecDepth 100000 in
set_option maxHeartbeats 1000000 in
theorem piece_any (s:ByteArray) (h0:0<s.size) (hs:s.size≤1099511627776) (w:World) :
  Calls Tryz.prog 77 #[.string s] w fun e w'=>e=.returned (pcV (pcL s.data.toList))∧Below w.heap.size w w':=by
 have hs2:(s.size:Int)≤1099511627776:=by omega
 have hd0:=drop_at s 0 h0
 rw [List.drop_zero] at hd0
 obtain⟨c,hc⟩:∃c,s[0]'h0=c:=⟨_,rfl⟩
 rw [hc] at hd0
 obtain⟨z,hz⟩:∃z:Nat,c.toNat=z:=⟨_,rfl⟩
 have hzi:((s[0]'h0).toNat:Int)=(z:Int):=by rw [hc,hz]
 have hcz:(c.toNat:Int)=(z:Int):=by rw [hz]
 have z1:(z:Int)≤255:=by have:=c.toNat_lt;omega
 obtain⟨R,hR⟩:∃R,pcL s.data.toList=R:=⟨_,rfl⟩
 have hR2:=hR
 rw [hd0,pcL_cons,hz] at hR2
 rw [hR]
 by_cases hb:z<32∨126<z
 ·rw [if_pos hb] at hR2
  subst hR2
  unfold pcV
  clear hR
  rcases hb with g|g
  ·have i1:(z:Int)<32:=by omega
   go_enter Tryz.func77,Tryz.ntmps77
   go_wp2_with fail
   go_ret2
   exact⟨rfl,Below.refl _ _⟩
  ·have i0:¬(z:Int)<32:=by omega
   have i1:(126:Int)<(z:Int):=by omega
   go_enter Tryz.func77,Tryz.ntmps77
   go_wp2_with fail
   go_ret2
   exact⟨rfl,Below.refl _ _⟩
 rw [if_neg hb] at hR2
 have i0:¬(z:Int)<32:=by omega
 have i1:¬(126:Int)<(z:Int):=by omega
 by_cases h92:¬z=92
 ·rw [if_neg h92] at hR2
  subst hR2
  rw [pcV_some,hcz]
  have i2:((z:Int) == 92)=false:=beq_eq_false_iff_ne.2 (by omega)
  have i3:¬(z:Int)=92:=by omega
  have i4:((z:Int) != 92)=true:=by simp [i3]
  clear hR
  go_enter Tryz.func77,Tryz.ntmps77
  go_wp2_with fail
  go_ret2
  exact⟨rfl,Below.refl _ _⟩
 replace h92:z=92:=Decidable.of_not_not h92
 rw [if_pos h92] at hR2
 have i2:((z:Int) == 92)=true:=beq_iff_eq.2 (by omega)
 have i4:((z:Int) != 92)=false:=by simp [show (z:Int)=92 by omega]
 have hl1:(s.data.toList.drop 1).length=s.size - 1:=by rw [List.length_drop,len_list]
 by_cases hn2:s.size<2
 ·have e1:s.data.toList.drop 1=[]:=List.eq_nil_of_length_eq_zero (by omega)
  rw [Nat.zero_add,e1] at hR2
  have hR3:R=none:=hR2.symm
  subst hR3
  unfold pcV
  have j1:¬(2:Int)≤(s.size:Int):=by omega
  have j2:¬(4:Int)≤(s.size:Int):=by omega
  clear hR hR2 h92
  go_enter Tryz.func77,Tryz.ntmps77
  go_wp2_with fail
  go_ret2
  exact⟨rfl,Below.refl _ _⟩
 have hlt1:1<s.size:=by omega
 have hd1:=drop_at s 1 hlt1
 obtain⟨d,hd⟩:∃d,s[1]'hlt1=d:=⟨_,rfl⟩
 rw [hd] at hd1
 obtain⟨y,hy⟩:∃y:Nat,d.toNat=y:=⟨_,rfl⟩
 have hyi:((s[1]'hlt1).toNat:Int)=(y:Int):=by rw [hd,hy]
 have hdy:(d.toNat:Int)=(y:Int):=by rw [hy]
 have y1:(y:Int)≤255:=by have:=d.toNat_lt;omega
 have j1:(2:Int)≤(s.size:Int):=by omega
 rw [Nat.zero_add,hd1,escP_cons,hy] at hR2
 by_cases hq:y=34∨y=92
 ·rw [if_pos hq] at hR2
  subst hR2
  rw [pcV_some,hdy]
  clear hR h92 hd hd1
  rcases hq with g|g
  ·have k1:((y:Int) == 34)=true:=beq_iff_eq.2 (by omega)
   have k2:(y:Int)=34:=by omega
   rw [k2]
   rw [k2] at hyi
   clear k2 hy hdy g k1 y1
   go_enter Tryz.func77,Tryz.ntmps77
   go_wp2_with fail
   go_ret2
   exact⟨rfl,Below.refl _ _⟩
  ·have k2:(y:Int)=92:=by omega
   rw [k2]
   rw [k2] at hyi
   clear k2 hy hdy g y1
   go_enter Tryz.func77,Tryz.ntmps77
   go_wp2_with fail
   go_ret2
   exact⟨rfl,Below.refl _ _⟩
 rw [if_neg hq] at hR2
 have k1:((y:Int) == 34)=false:=beq_eq_false_iff_ne.2 (by omega)
 have k2:((y:Int) == 92)=false:=beq_eq_false_iff_ne.2 (by omega)
 have k3:¬(y:Int)=34:=by omega
 have k4:¬(y:Int)=92:=by omega
 by_cases hx:¬y=120
 ·rw [if_neg hx] at hR2
  subst hR2
  unfold pcV
  have k5:((y:Int) == 120)=false:=beq_eq_false_iff_ne.2 (by omega)
  have k6:¬(y:Int)=120:=by omega
  clear hR h92
  by_cases hn4:(4:Int)≤(s.size:Int)
  all_goals
   go_enter Tryz.func77,Tryz.ntmps77
   go_wp2_with fail
   go_ret2
   exact⟨rfl,Below.refl _ _⟩
 replace hx:y=120:=Decidable.of_not_not hx
 rw [if_pos hx] at hR2
 have k5:((y:Int) == 120)=true:=beq_iff_eq.2 (by omega)
 have k6:(y:Int)=120:=by omega
 rw [k6] at hyi
 clear k1 k2 k3 k4 k5 k6 y1 hdy
 by_cases hn4:s.size<4
 ·have e1:hexP (s.data.toList.drop (1+1))=none:=by
   have hl:(s.data.toList.drop (1+1)).length=s.size - 2:=by rw [List.length_drop,len_list]
   match s.data.toList.drop (1+1),hl with
   |[],_=>rfl
   |[_],_=>rfl
   |_ :: _ :: _,hl=>simp at hl;omega
  rw [e1] at hR2
  subst hR2
  unfold pcV
  have j2:¬(4:Int)≤(s.size:Int):=by omega
  clear hR h92
  go_enter Tryz.func77,Tryz.ntmps77
  go_wp2_with fail
  go_ret2
  exact⟨rfl,Below.refl _ _⟩
 have j2:(4:Int)≤(s.size:Int):=by omega
 have hlt2:2<s.size:=by omega
 have hlt3:3<s.size:=by omega
 obtain⟨e,he⟩:∃e,s[2]'hlt2=e:=⟨_,rfl⟩
 obtain⟨f,hf⟩:∃f,s[3]'hlt3=f:=⟨_,rfl⟩
 have hd2:=drop_at s 2 hlt2
 have hd3:=drop_at s 3 hlt3
 rw [he] at hd2
 rw [hf] at hd3
 rw [show 1+1=2 from rfl,hd2,show 2+1=3 from rfl,hd3] at hR2
 obtain⟨x2,hx2⟩:∃x:Int,(e.toNat:Int)=x:=⟨_,rfl⟩
 obtain⟨x3,hx3⟩:∃x:Int,(f.toNat:Int)=x:=⟨_,rfl⟩
 have he2:((s[2]'hlt2).toNat:Int)=x2:=by rw [he,hx2]
 have hf2:((s[3]'hlt3).toNat:Int)=x3:=by rw [hf,hx3]
 have C2:=hZ (fun u=>index_any e x2 hx2 u)
 have C3:=hZ (fun u=>index_any f x3 hx3 u)
 obtain⟨A,hA⟩:∃A,hexI e=A:=⟨_,rfl⟩
 obtain⟨B,hB⟩:∃B,hexI f=B:=⟨_,rfl⟩
 rw [hA] at C2
 rw [hB] at C3
 have HZ2:Hid (hexP (e :: f :: s.data.toList.drop (3+1))=R):=hZ hR2
 have HAB:=hZ (And.intro hA hB)
 have hAr:-1≤A∧A≤15:=by
  rw [←hA]
  unfold hexI
  cases h:hexV e with
  |none=>simp
  |some a=>have:=hexV_lt h;simp;omega
 have hBr:-1≤B∧B≤15:=by
  rw [←hB]
  unfold hexI
  cases h:hexV f with
  |none=>simp
  |some a=>have:=hexV_lt h;simp;omega
 clear hR hR2 hd0 hd1 hd2 hd3 hl1 h92 hx hn4 hn2 hb hA hB hx2 hx3 he hf hc hd hy hz
 go_enter Tryz.func77,Tryz.ntmps77
 go_upto_region 9 with fail
 go_quiet ((go_at_call 100;first|exact Calls.quiet_of_same ((uZ C2) _)|exact Calls.quiet_of_same ((uZ C3) _)))
 have HB:Hid (Below w.heap.size w (w.drewN nq)):=hZ (below_drewN' nq w)
 by_cases hA0:0≤A
 ·by_cases hB0:0≤B
  ·obtain⟨a,rfl⟩:∃a:Nat,A=(a:Int):=⟨A.toNat,by omega⟩
   obtain⟨b,rfl⟩:∃b:Nat,B=(b:Int):=⟨B.toNat,by omega⟩
   have HQ:Hid (R=some (UInt8.ofNat (16 * a+b),4)∧a<16∧b<16):=hZ (by
    obtain⟨h1,h2⟩:=uZ HAB
    have h3:=uZ HZ2
    unfold hexI at h1 h2
    cases he:hexV e with
    |none=>rw [he] at h1;simp only at h1;omega
    |some a'=>
     cases hf:hexV f with
     |none=>rw [hf] at h2;simp only at h2;omega
     |some b'=>
      rw [he] at h1
      rw [hf] at h2
      simp only at h1 h2
      obtain rfl:a'=a:=by omega
      obtain rfl:b'=b:=by omega
      refine⟨?_,hexV_lt he,hexV_lt hf⟩
      rw [←h3]
      simp only [hexP,he,hf])
   have hor:=or_hex a b (uZ HQ).2.1 (uZ HQ).2.2
   have hwr:IntKind.u8.wrap (16 * (a:Int)+(b:Int))=16 * (a:Int)+(b:Int):=by rw [IntKind.wrap_u8];omega
   have hof:Hid (((UInt8.ofNat (16 * a+b)).toNat:Int)=16 * (a:Int)+(b:Int)):=hZ (by
    rw [UInt8.toNat_ofNat']
    omega)
   go_wp2_with fail
   go_ret2
   refine⟨?_,uZ HB⟩
   rw [(uZ HQ).1]
   rw [pcV_some,uZ hof]
   rfl
  ·have HQ:Hid (R=none):=hZ (by
    obtain⟨h1,h2⟩:=uZ HAB
    rw [←uZ HZ2]
    unfold hexI at h2
    cases hf:hexV f with
    |none=>simp only [hexP,hf];cases hexV e <;> rfl
    |some b'=>rw [hf] at h2;simp at h2;omega)
   go_wp2_with fail
   go_ret2
   exact⟨by rw [uZ HQ];rfl,uZ HB⟩
 ·have HQ:Hid (R=none):=hZ (by
   obtain⟨h1,h2⟩:=uZ HAB
   rw [←uZ HZ2]
   unfold hexI at h1
   cases he:hexV e with
   |none=>simp only [hexP,he]
   |some b'=>rw [he] at h1;simp at h1;omega)
  go_wp2_with fail
  go_ret2
  exact⟨by rw [uZ HQ];rfl,uZ HB⟩
end Go.Proofs.YtilhlmmcdfoaoaaGreatDoor
