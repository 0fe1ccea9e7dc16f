/-
  Layer 17 (parse): what a job reads it takes off; with fuel enough a job comes to an end; plain lists, no conditions.
-/
import Derived.Test.YtjdpaihhhjdgmaaGreatDoorA26
set_option linter.unusedVariables false
set_option linter.unusedSimpArgs false
set_option maxRecDepth 100000
set_option maxHeartbeats 8000000
namespace Go.Proofs.YtjdpaihhhjdgmaaGreatDoor
set_option linter.unusedVariables false
set_option linter.unusedSimpArgs false
theorem thnE {α β:Type} {y:Rs α} {k:α→List Tk→Option (Rs β)} {r:β × List Tk} (h:thn y k=some (.ok r)):∃a l,y=.ok (a,l)∧k a l=some (.ok r):=by
 cases y with
 |error e=>cases h
 |ok x=>exact⟨x.1,x.2,rfl,h⟩
theorem bndE {α β:Type} {y:Option (Rs α)} {k:α→List Tk→Option (Rs β)} {r:β × List Tk} (h:bnd y k=some (.ok r)):∃a l,y=some (.ok (a,l))∧k a l=some (.ok r):=by
 cases y with
 |none=>cases h
 |some x=>
  obtain⟨a,l,rfl,h2⟩:=thnE h
  exact⟨a,l,rfl,h2⟩
theorem okE {n m:List Nd} {l l':List Tk} (h:okN n l=some (.ok (m,l'))):n=m∧l=l':=by cases h;exact⟨rfl,rfl⟩
theorem hd_len {l:List Tk} (h:¬(hdT l).k=0):l.tail.length+1=l.length:=by
 cases l with
 |nil=>exact absurd rfl h
 |cons a r=>rfl
theorem tail_le (l:List Tk):l.tail.length≤l.length:=by rw [List.length_tail];omega
theorem isT_len {k:Nat} {s:List UInt8} {l:List Tk} (hk:¬k=0) (h:isT k s l=true):l.tail.length+1=l.length:=hd_len (by unfold isT at h;have:=of_decide_eq_true h;omega)
theorem isS_len {s:List UInt8} {l:List Tk} (h:isS s l=true):l.tail.length+1=l.length:=isT_len (by decide) h
theorem isK_len {s:List UInt8} {l:List Tk} (h:isK s l=true):l.tail.length+1=l.length:=isT_len (by decide) h
theorem pSg_len {s:List UInt8} {l l':List Tk} {t:Tk} (h:pSg s l=.ok (t,l')):l'.length+1=l.length:=by
 unfold pSg at h
 split at h
 ·rename_i hs;cases h;exact isS_len hs
 ·cases h
theorem pKy_len {s:List UInt8} {l l':List Tk} {t:Tk} (h:pKy s l=.ok (t,l')):l'.length+1=l.length:=by
 unfold pKy at h
 split at h
 ·rename_i hs;cases h;exact isK_len hs
 ·cases h
theorem pNm_len {l l':List Tk} {t:Tk} (h:pNm l=.ok (t,l')):l'.length+1=l.length:=by
 unfold pNm at h
 split at h
 ·rename_i hs;cases h;exact hd_len (by omega)
 ·cases h
theorem ent_len {s:List UInt8} {d:Nat} {l l':List Tk} {t:Tk} (h:ent s d l=.ok (t,l')):l'.length+1=l.length:=by
 unfold ent at h
 split at h
 ·rename_i hs
  split at h
  ·cases h
  ·cases h;exact isS_len hs
 ·cases h
def twoJ (j:Nat):Nat:=if j=20 then 2 else 0
def LenJ (r:Jb):Prop:=∀j x acc l d ns l',(¬j=27∧(j=2∨j=3→1≤x))→r j x acc l d=some (.ok (ns,l'))→ns.length+l'.length+twoJ j≤acc.length+l.length
theorem lit_len {vk vn:Nat} {vs:List UInt8} {l l':List Tk} {ns:List Nd} (hl:l.tail.length+1=l.length) (h:litN vk vn vs l=some (.ok (ns,l'))):ns.length+l'.length≤l.length:=by
 obtain⟨rfl,rfl⟩:=okE h
 simp only [List.length_cons,List.length_nil]
 omega
theorem part_len {r:Jb} (ih:LenJ r) {x:Nat} {l l':List Tk} {d:Nat} {ns:List Nd} (h:jPart r x l d=some (.ok (ns,l'))):ns.length+l'.length≤l.length:=by
 unfold jPart at h
 split at h
 ·have:=ih 25 0 [] l d ns l' ⟨by decide,by omega⟩ h;simpa [twoJ] using this
 ·split at h
  ·have:=ih 8 0 [] l d ns l' ⟨by decide,by omega⟩ h;simpa [twoJ] using this
  ·have:=ih 0 0 [] l d ns l' ⟨by decide,by omega⟩ h;simpa [twoJ] using this
theorem fn_len {r:Jb} (ih:LenJ r) {b:Bool} {p:Nat} {l l':List Tk} {d:Nat} {ns:List Nd} (h:jFn r b p l d=some (.ok (ns,l'))):ns.length+l'.length≤l.length:=by
 unfold jFn at h
 obtain⟨t1,l1,h1,h⟩:=thnE h
 obtain⟨t2,l2,h2,h⟩:=thnE h
 obtain⟨t3,l3,h3,h⟩:=thnE h
 obtain⟨n4,l4,h4,h⟩:=bndE h
 obtain⟨t5,l5,h5,h⟩:=thnE h
 obtain⟨n6,l6,h6,h⟩:=bndE h
 obtain⟨rfl,rfl⟩:=okE h
 have a1:=pKy_len h1
 have a2:=pNm_len h2
 have a3:=pSg_len h3
 have a4:=ih 6 0 [] l3 d n4 l4 ⟨by decide,by omega⟩ h4
 have a5:=pSg_len h5
 have a6:=ih 10 0 [] l5 d n6 l6 ⟨by decide,by omega⟩ h6
 simp only [twoJ,List.length_cons,List.length_nil,reduceIte,Nat.reduceEqDiff] at *
 omega
theorem step_len {r:Jb} (ih:LenJ r):LenJ (stepJ r):=by
 intro j x acc l d ns l' hj h
 match j,hj,h with
 |0,_,h=>
  simp only [stepJ] at h
  have a0:=ih 2 1 [] l d ns l' ⟨by decide,by omega⟩ h
  try simp only [twoJ,List.length_append,List.length_cons,List.length_nil,List.length_map,Nat.reduceEqDiff,if_false,if_true,Nat.add_zero,reduceIte] at *
  omega
 |1,_,h=>
  simp only [stepJ,jUnary] at h
  split at h
  ·obtain⟨t,l1,h1,h⟩:=thnE h
   obtain⟨n2,l2,h2,h⟩:=bndE h
   obtain⟨rfl,rfl⟩:=okE h
   have a1:=ent_len h1
   have a2:=ih 1 0 [] l1 (d+1) n2 l2 ⟨by decide,by omega⟩ h2
   try simp only [twoJ,List.length_append,List.length_cons,List.length_nil,List.length_map,Nat.reduceEqDiff,if_false,if_true,Nat.add_zero,reduceIte] at *
   omega
  ·have a0:=ih 24 0 [] l d ns l' ⟨by decide,by omega⟩ h
   try simp only [twoJ,List.length_append,List.length_cons,List.length_nil,List.length_map,Nat.reduceEqDiff,if_false,if_true,Nat.add_zero,reduceIte] at *
   omega
 |2,hj,h=>
  have hx:=hj.2 (Or.inl rfl)
  simp only [stepJ,jBinary] at h
  split at h
  ·have a0:=ih 1 0 [] l d ns l' ⟨by decide,by omega⟩ h
   try simp only [twoJ,List.length_append,List.length_cons,List.length_nil,List.length_map,Nat.reduceEqDiff,if_false,if_true,Nat.add_zero,reduceIte] at *
   omega
  ·obtain⟨n1,l1,h1,h⟩:=bndE h
   have a1:=ih 2 (x+1) [] l d n1 l1 ⟨by decide,by omega⟩ h1
   have a2:=ih 3 x n1 l1 d ns l' ⟨by decide,fun _=>hx⟩ h
   try simp only [twoJ,List.length_append,List.length_cons,List.length_nil,List.length_map,Nat.reduceEqDiff,if_false,if_true,Nat.add_zero,reduceIte] at *
   omega
 |3,hj,h=>
  have hx:=hj.2 (Or.inr rfl)
  simp only [stepJ,jBinL] at h
  split at h
  ·rename_i hr
   have hl:l.tail.length+1=l.length:=hd_len (fun e=>by unfold rowT at hr;rw [e] at hr;simp at hr;omega)
   obtain⟨n1,l1,h1,h⟩:=bndE h
   have a1:=ih 2 (x+1) [] l.tail d n1 l1 ⟨by decide,by omega⟩ h1
   split at h
   ·obtain⟨rfl,rfl⟩:=okE h
    try simp only [twoJ,List.length_append,List.length_cons,List.length_nil,List.length_map,Nat.reduceEqDiff,if_false,if_true,Nat.add_zero,reduceIte] at *
    omega
   ·have a2:=ih 3 x _ l1 d ns l' ⟨by decide,fun _=>hx⟩ h
    try simp only [twoJ,List.length_append,List.length_cons,List.length_nil,List.length_map,Nat.reduceEqDiff,if_false,if_true,Nat.add_zero,reduceIte] at *
    omega
  ·obtain⟨rfl,rfl⟩:=okE h
   try simp only [twoJ,List.length_append,List.length_cons,List.length_nil,List.length_map,Nat.reduceEqDiff,if_false,if_true,Nat.add_zero,reduceIte] at *
   omega
 |4,_,h=>
  simp only [stepJ,jReL] at h
  split at h
  ·obtain⟨t,l1,h1,h⟩:=thnE h
   obtain⟨n2,l2,h2,h⟩:=bndE h
   obtain⟨t3,l3,h3,h⟩:=thnE h
   have a1:=ent_len h1
   have a2:=ih 0 0 [] l1 (d+1) n2 l2 ⟨by decide,by omega⟩ h2
   have a3:=pSg_len h3
   have a4:=ih 4 0 _ l3 d ns l' ⟨by decide,by omega⟩ h
   try simp only [twoJ,List.length_append,List.length_cons,List.length_nil,List.length_map,Nat.reduceEqDiff,if_false,if_true,Nat.add_zero,reduceIte] at *
   omega
  ·split at h
   ·rename_i hs
    obtain⟨t,l1,h1,h⟩:=thnE h
    have a0:=isS_len hs
    have a1:=pNm_len h1
    have a4:=ih 4 0 _ l1 d ns l' ⟨by decide,by omega⟩ h
    try simp only [twoJ,List.length_append,List.length_cons,List.length_nil,List.length_map,Nat.reduceEqDiff,if_false,if_true,Nat.add_zero,reduceIte] at *
    omega
   ·obtain⟨rfl,rfl⟩:=okE h
    try simp only [twoJ,List.length_append,List.length_cons,List.length_nil,List.length_map,Nat.reduceEqDiff,if_false,if_true,Nat.add_zero,reduceIte] at *
    omega
 |5,_,h=>
  simp only [stepJ,jOperand] at h
  split at h
  ·have a0:=ih 21 0 [] l d ns l' ⟨by decide,by omega⟩ h
   try simp only [twoJ,List.length_append,List.length_cons,List.length_nil,List.length_map,Nat.reduceEqDiff,if_false,if_true,Nat.add_zero,reduceIte] at *
   omega
  ·split at h
   ·rename_i hk
    have a0:=lit_len (hd_len (by omega)) h
    try simp only [twoJ,List.length_append,List.length_cons,List.length_nil,List.length_map,Nat.reduceEqDiff,if_false,if_true,Nat.add_zero,reduceIte] at *
    omega
   ·split at h
    ·rename_i hk
     have a0:=lit_len (hd_len (by omega)) h
     try simp only [twoJ,List.length_append,List.length_cons,List.length_nil,List.length_map,Nat.reduceEqDiff,if_false,if_true,Nat.add_zero,reduceIte] at *
     omega
    ·split at h
     ·rename_i hk
      have a0:=lit_len (isK_len hk) h
      try simp only [twoJ,List.length_append,List.length_cons,List.length_nil,List.length_map,Nat.reduceEqDiff,if_false,if_true,Nat.add_zero,reduceIte] at *
      omega
     ·split at h
      ·rename_i hk
       have a0:=lit_len (isK_len hk) h
       try simp only [twoJ,List.length_append,List.length_cons,List.length_nil,List.length_map,Nat.reduceEqDiff,if_false,if_true,Nat.add_zero,reduceIte] at *
       omega
      ·split at h
       ·rename_i hk
        have a0:=lit_len (isK_len hk) h
        try simp only [twoJ,List.length_append,List.length_cons,List.length_nil,List.length_map,Nat.reduceEqDiff,if_false,if_true,Nat.add_zero,reduceIte] at *
        omega
       ·split at h
        ·have a0:=ih 22 2 [] l d ns l' ⟨by decide,by omega⟩ h
         try simp only [twoJ,List.length_append,List.length_cons,List.length_nil,List.length_map,Nat.reduceEqDiff,if_false,if_true,Nat.add_zero,reduceIte] at *
         omega
        ·split at h
         ·have a0:=ih 22 3 [] l d ns l' ⟨by decide,by omega⟩ h
          try simp only [twoJ,List.length_append,List.length_cons,List.length_nil,List.length_map,Nat.reduceEqDiff,if_false,if_true,Nat.add_zero,reduceIte] at *
          omega
         ·have a0:=ih 23 0 [] l d ns l' ⟨by decide,by omega⟩ h
          try simp only [twoJ,List.length_append,List.length_cons,List.length_nil,List.length_map,Nat.reduceEqDiff,if_false,if_true,Nat.add_zero,reduceIte] at *
          omega
 |6,_,h=>
  simp only [stepJ,jParts] at h
  split at h
  ·obtain⟨rfl,rfl⟩:=okE h
   try simp only [twoJ,List.length_append,List.length_cons,List.length_nil,List.length_map,Nat.reduceEqDiff,if_false,if_true,Nat.add_zero,reduceIte] at *
   omega
  ·obtain⟨n1,l1,h1,h⟩:=bndE h
   have a1:=part_len ih h1
   have a2:=ih 7 x n1 l1 d ns l' ⟨by decide,by omega⟩ h
   try simp only [twoJ,List.length_append,List.length_cons,List.length_nil,List.length_map,Nat.reduceEqDiff,if_false,if_true,Nat.add_zero,reduceIte] at *
   omega
 |7,_,h=>
  simp only [stepJ,jPaL] at h
  split at h
  ·obtain⟨n1,l1,h1,h⟩:=bndE h
   have a1:=part_len ih h1
   have a0:=tail_le l
   have a2:=ih 7 x _ l1 d ns l' ⟨by decide,by omega⟩ h
   try simp only [twoJ,List.length_append,List.length_cons,List.length_nil,List.length_map,Nat.reduceEqDiff,if_false,if_true,Nat.add_zero,reduceIte] at *
   omega
  ·obtain⟨rfl,rfl⟩:=okE h
   try simp only [twoJ,List.length_append,List.length_cons,List.length_nil,List.length_map,Nat.reduceEqDiff,if_false,if_true,Nat.add_zero,reduceIte] at *
   omega
 |8,_,h=>
  simp only [stepJ,jPair] at h
  split at h
  ·cases h
  ·obtain⟨t,l1,h1,h⟩:=thnE h
   obtain⟨n2,l2,h2,h⟩:=bndE h
   obtain⟨rfl,rfl⟩:=okE h
   have a1:=pSg_len h1
   have a0:=tail_le l
   have a2:=ih 0 0 [] l1 d n2 l2 ⟨by decide,by omega⟩ h2
   try simp only [twoJ,List.length_append,List.length_cons,List.length_nil,List.length_map,Nat.reduceEqDiff,if_false,if_true,Nat.add_zero,reduceIte] at *
   omega
 |9,_,h=>
  simp only [stepJ,jStat] at h
  split at h
  ·have a0:=ih 16 0 [] l d ns l' ⟨by decide,by omega⟩ h
   try simp only [twoJ,List.length_append,List.length_cons,List.length_nil,List.length_map,Nat.reduceEqDiff,if_false,if_true,Nat.add_zero,reduceIte] at *
   omega
  ·split at h
   ·have a0:=ih 15 0 [] l d ns l' ⟨by decide,by omega⟩ h
    try simp only [twoJ,List.length_append,List.length_cons,List.length_nil,List.length_map,Nat.reduceEqDiff,if_false,if_true,Nat.add_zero,reduceIte] at *
    omega
   ·split at h
    ·have a0:=ih 12 0 [] l d ns l' ⟨by decide,by omega⟩ h
     try simp only [twoJ,List.length_append,List.length_cons,List.length_nil,List.length_map,Nat.reduceEqDiff,if_false,if_true,Nat.add_zero,reduceIte] at *
     omega
    ·split at h
     ·have a0:=ih 17 0 [] l d ns l' ⟨by decide,by omega⟩ h
      try simp only [twoJ,List.length_append,List.length_cons,List.length_nil,List.length_map,Nat.reduceEqDiff,if_false,if_true,Nat.add_zero,reduceIte] at *
      omega
     ·split at h
      ·have a0:=ih 18 0 [] l d ns l' ⟨by decide,by omega⟩ h
       try simp only [twoJ,List.length_append,List.length_cons,List.length_nil,List.length_map,Nat.reduceEqDiff,if_false,if_true,Nat.add_zero,reduceIte] at *
       omega
      ·split at h
       ·have a0:=ih 26 10 [] l d ns l' ⟨by decide,by omega⟩ h
        try simp only [twoJ,List.length_append,List.length_cons,List.length_nil,List.length_map,Nat.reduceEqDiff,if_false,if_true,Nat.add_zero,reduceIte] at *
        omega
       ·split at h
        ·have a0:=ih 26 11 [] l d ns l' ⟨by decide,by omega⟩ h
         try simp only [twoJ,List.length_append,List.length_cons,List.length_nil,List.length_map,Nat.reduceEqDiff,if_false,if_true,Nat.add_zero,reduceIte] at *
         omega
        ·have a0:=ih 19 0 [] l d ns l' ⟨by decide,by omega⟩ h
         try simp only [twoJ,List.length_append,List.length_cons,List.length_nil,List.length_map,Nat.reduceEqDiff,if_false,if_true,Nat.add_zero,reduceIte] at *
         omega
 |10,_,h=>
  simp only [stepJ,jBlock] at h
  obtain⟨t,l1,h1,h⟩:=thnE h
  obtain⟨n2,l2,h2,h⟩:=bndE h
  obtain⟨t3,l3,h3,h⟩:=thnE h
  obtain⟨rfl,rfl⟩:=okE h
  have a1:=ent_len h1
  have a2:=ih 11 0 [] l1 (d+1) n2 l2 ⟨by decide,by omega⟩ h2
  have a3:=pSg_len h3
  try simp only [twoJ,List.length_append,List.length_cons,List.length_nil,List.length_map,Nat.reduceEqDiff,if_false,if_true,Nat.add_zero,reduceIte] at *
  omega
 |11,_,h=>
  simp only [stepJ,jBlL] at h
  split at h
  ·obtain⟨rfl,rfl⟩:=okE h
   try simp only [twoJ,List.length_append,List.length_cons,List.length_nil,List.length_map,Nat.reduceEqDiff,if_false,if_true,Nat.add_zero,reduceIte] at *
   omega
  ·obtain⟨n1,l1,h1,h⟩:=bndE h
   have a1:=ih 9 0 [] l d n1 l1 ⟨by decide,by omega⟩ h1
   have a2:=ih 11 0 _ l1 d ns l' ⟨by decide,by omega⟩ h
   try simp only [twoJ,List.length_append,List.length_cons,List.length_nil,List.length_map,Nat.reduceEqDiff,if_false,if_true,Nat.add_zero,reduceIte] at *
   omega
 |12,_,h=>
  simp only [stepJ,jChoice] at h
  obtain⟨n1,l1,h1,h⟩:=bndE h
  have a1:=ih 20 0 [] l.tail d n1 l1 ⟨by decide,by omega⟩ h1
  have a0:=tail_le l
  have a5:=tail_le l1
  split at h
  ·rename_i he
   have a6:=isK_len he
   split at h
   ·obtain⟨n2,l2,h2,h⟩:=bndE h
    obtain⟨rfl,rfl⟩:=okE h
    have a2:=ih 12 0 [] l1.tail d n2 l2 ⟨by decide,by omega⟩ h2
    try simp only [twoJ,List.length_append,List.length_cons,List.length_nil,List.length_map,Nat.reduceEqDiff,if_false,if_true,Nat.add_zero,reduceIte] at *
    omega
   ·obtain⟨n2,l2,h2,h⟩:=bndE h
    obtain⟨rfl,rfl⟩:=okE h
    have a2:=ih 10 0 [] l1.tail d n2 l2 ⟨by decide,by omega⟩ h2
    try simp only [twoJ,List.length_append,List.length_cons,List.length_nil,List.length_map,Nat.reduceEqDiff,if_false,if_true,Nat.add_zero,reduceIte] at *
    omega
  ·obtain⟨rfl,rfl⟩:=okE h
   try simp only [twoJ,List.length_append,List.length_cons,List.length_nil,List.length_map,Nat.reduceEqDiff,if_false,if_true,Nat.add_zero,reduceIte] at *
   omega
 |13,_,h=>
  simp only [stepJ,jFun] at h
  split at h
  ·have a0:=fn_len ih h
   have a1:=tail_le l
   try simp only [twoJ,List.length_append,List.length_cons,List.length_nil,List.length_map,Nat.reduceEqDiff,if_false,if_true,Nat.add_zero,reduceIte] at *
   omega
  ·have a0:=fn_len ih h
   try simp only [twoJ,List.length_append,List.length_cons,List.length_nil,List.length_map,Nat.reduceEqDiff,if_false,if_true,Nat.add_zero,reduceIte] at *
   omega
 |14,_,h=>
  simp only [stepJ,jPrL] at h
  split at h
  ·obtain⟨rfl,rfl⟩:=okE h
   try simp only [twoJ,List.length_append,List.length_cons,List.length_nil,List.length_map,Nat.reduceEqDiff,if_false,if_true,Nat.add_zero,reduceIte] at *
   omega
  ·obtain⟨n1,l1,h1,h⟩:=bndE h
   have a1:=ih 13 0 [] l d n1 l1 ⟨by decide,by omega⟩ h1
   have a2:=ih 14 0 _ l1 d ns l' ⟨by decide,by omega⟩ h
   try simp only [twoJ,List.length_append,List.length_cons,List.length_nil,List.length_map,Nat.reduceEqDiff,if_false,if_true,Nat.add_zero,reduceIte] at *
   omega
 |15,_,h=>
  simp only [stepJ,jLet] at h
  obtain⟨t,l1,h1,h⟩:=thnE h
  have a1:=pNm_len h1
  have a0:=tail_le l
  split at h
  ·obtain⟨n2,l2,h2,h⟩:=bndE h
   obtain⟨t3,l3,h3,h⟩:=thnE h
   obtain⟨rfl,rfl⟩:=okE h
   have a5:=tail_le l1
   have a2:=ih 0 0 [] l1.tail d n2 l2 ⟨by decide,by omega⟩ h2
   have a3:=pSg_len h3
   try simp only [twoJ,List.length_append,List.length_cons,List.length_nil,List.length_map,Nat.reduceEqDiff,if_false,if_true,Nat.add_zero,reduceIte] at *
   omega
  ·obtain⟨t3,l3,h3,h⟩:=thnE h
   obtain⟨rfl,rfl⟩:=okE h
   have a3:=pSg_len h3
   try simp only [twoJ,List.length_append,List.length_cons,List.length_nil,List.length_map,Nat.reduceEqDiff,if_false,if_true,Nat.add_zero,reduceIte] at *
   omega
 |16,_,h=>
  simp only [stepJ,jSet] at h
  obtain⟨t,l1,h1,h⟩:=thnE h
  obtain⟨t5,l5,h5,h⟩:=thnE h
  obtain⟨n2,l2,h2,h⟩:=bndE h
  obtain⟨t3,l3,h3,h⟩:=thnE h
  obtain⟨rfl,rfl⟩:=okE h
  have a1:=pNm_len h1
  have a5:=pSg_len h5
  have a2:=ih 0 0 [] l5 d n2 l2 ⟨by decide,by omega⟩ h2
  have a3:=pSg_len h3
  try simp only [twoJ,List.length_append,List.length_cons,List.length_nil,List.length_map,Nat.reduceEqDiff,if_false,if_true,Nat.add_zero,reduceIte] at *
  omega
 |17,_,h=>
  simp only [stepJ,jLoop] at h
  obtain⟨n1,l1,h1,h⟩:=bndE h
  obtain⟨rfl,rfl⟩:=okE h
  have a1:=ih 20 0 [] l.tail d n1 l1 ⟨by decide,by omega⟩ h1
  have a0:=tail_le l
  try simp only [twoJ,List.length_append,List.length_cons,List.length_nil,List.length_map,Nat.reduceEqDiff,if_false,if_true,Nat.add_zero,reduceIte] at *
  omega
 |18,_,h=>
  simp only [stepJ,jGive] at h
  split at h
  ·obtain⟨t3,l3,h3,h⟩:=thnE h
   obtain⟨rfl,rfl⟩:=okE h
   have a3:=pSg_len h3
   have a0:=tail_le l
   try simp only [twoJ,List.length_append,List.length_cons,List.length_nil,List.length_map,Nat.reduceEqDiff,if_false,if_true,Nat.add_zero,reduceIte] at *
   omega
  ·obtain⟨n2,l2,h2,h⟩:=bndE h
   obtain⟨t3,l3,h3,h⟩:=thnE h
   obtain⟨rfl,rfl⟩:=okE h
   have a0:=tail_le l
   have a2:=ih 0 0 [] l.tail d n2 l2 ⟨by decide,by omega⟩ h2
   have a3:=pSg_len h3
   try simp only [twoJ,List.length_append,List.length_cons,List.length_nil,List.length_map,Nat.reduceEqDiff,if_false,if_true,Nat.add_zero,reduceIte] at *
   omega
 |19,_,h=>
  simp only [stepJ,jDo] at h
  obtain⟨n2,l2,h2,h⟩:=bndE h
  obtain⟨t3,l3,h3,h⟩:=thnE h
  obtain⟨rfl,rfl⟩:=okE h
  have a2:=ih 0 0 [] l d n2 l2 ⟨by decide,by omega⟩ h2
  have a3:=pSg_len h3
  try simp only [twoJ,List.length_append,List.length_cons,List.length_nil,List.length_map,Nat.reduceEqDiff,if_false,if_true,Nat.add_zero,reduceIte] at *
  omega
 |20,_,h=>
  simp only [stepJ,jGuard] at h
  obtain⟨t,l1,h1,h⟩:=thnE h
  obtain⟨n2,l2,h2,h⟩:=bndE h
  obtain⟨t3,l3,h3,h⟩:=thnE h
  obtain⟨n4,l4,h4,h⟩:=bndE h
  obtain⟨rfl,rfl⟩:=okE h
  have a1:=pSg_len h1
  have a2:=ih 0 0 [] l1 d n2 l2 ⟨by decide,by omega⟩ h2
  have a3:=pSg_len h3
  have a4:=ih 10 0 [] l3 d n4 l4 ⟨by decide,by omega⟩ h4
  try simp only [twoJ,List.length_append,List.length_cons,List.length_nil,List.length_map,Nat.reduceEqDiff,if_false,if_true,Nat.add_zero,reduceIte] at *
  omega
 |21,_,h=>
  simp only [stepJ,jName] at h
  obtain⟨t,l1,h1,h⟩:=thnE h
  have a1:=pNm_len h1
  split at h
  ·obtain⟨n2,l2,h2,h⟩:=bndE h
   obtain⟨rfl,rfl⟩:=okE h
   have a2:=ih 22 1 [] l1 d n2 l2 ⟨by decide,by omega⟩ h2
   try simp only [twoJ,List.length_append,List.length_cons,List.length_nil,List.length_map,Nat.reduceEqDiff,if_false,if_true,Nat.add_zero,reduceIte] at *
   omega
  ·obtain⟨rfl,rfl⟩:=okE h
   try simp only [twoJ,List.length_append,List.length_cons,List.length_nil,List.length_map,Nat.reduceEqDiff,if_false,if_true,Nat.add_zero,reduceIte] at *
   omega
 |22,_,h=>
  simp only [stepJ,jWithin] at h
  obtain⟨t,l1,h1,h⟩:=thnE h
  obtain⟨n2,l2,h2,h⟩:=bndE h
  obtain⟨t3,l3,h3,h⟩:=thnE h
  obtain⟨rfl,rfl⟩:=okE h
  have a1:=ent_len h1
  have a2:=ih 6 x [] l1 (d+1) n2 l2 ⟨by decide,by omega⟩ h2
  have a3:=pSg_len h3
  try simp only [twoJ,List.length_append,List.length_cons,List.length_nil,List.length_map,Nat.reduceEqDiff,if_false,if_true,Nat.add_zero,reduceIte] at *
  omega
 |23,_,h=>
  simp only [stepJ,jGroup] at h
  obtain⟨t,l1,h1,h⟩:=thnE h
  obtain⟨n2,l2,h2,h⟩:=bndE h
  obtain⟨t3,l3,h3,h⟩:=thnE h
  obtain⟨rfl,rfl⟩:=okE h
  have a1:=ent_len h1
  have a2:=ih 0 0 [] l1 (d+1) n2 l2 ⟨by decide,by omega⟩ h2
  have a3:=pSg_len h3
  try simp only [twoJ,List.length_append,List.length_cons,List.length_nil,List.length_map,Nat.reduceEqDiff,if_false,if_true,Nat.add_zero,reduceIte] at *
  omega
 |24,_,h=>
  simp only [stepJ,jReached] at h
  obtain⟨n1,l1,h1,h⟩:=bndE h
  have a1:=ih 5 0 [] l d n1 l1 ⟨by decide,by omega⟩ h1
  have a2:=ih 4 0 n1 l1 d ns l' ⟨by decide,by omega⟩ h
  try simp only [twoJ,List.length_append,List.length_cons,List.length_nil,List.length_map,Nat.reduceEqDiff,if_false,if_true,Nat.add_zero,reduceIte] at *
  omega
 |25,_,h=>
  simp only [stepJ,jParam] at h
  obtain⟨t,l1,h1,h⟩:=thnE h
  obtain⟨rfl,rfl⟩:=okE h
  have a1:=pNm_len h1
  try simp only [twoJ,List.length_append,List.length_cons,List.length_nil,List.length_map,Nat.reduceEqDiff,if_false,if_true,Nat.add_zero,reduceIte] at *
  omega
 |26,_,h=>
  simp only [stepJ,jWord] at h
  obtain⟨t3,l3,h3,h⟩:=thnE h
  obtain⟨rfl,rfl⟩:=okE h
  have a3:=pSg_len h3
  have a0:=tail_le l
  try simp only [twoJ,List.length_append,List.length_cons,List.length_nil,List.length_map,Nat.reduceEqDiff,if_false,if_true,Nat.add_zero,reduceIte] at *
  omega
 |27,hj,h=>exact absurd rfl hj.1
 |j+28,_,h=>cases h
theorem PJ_len:∀f,LenJ (PJ f)
 |0=>fun j x acc l d ns l' _ h=>by cases h
 |f+1=>step_len (PJ_len f)
end Go.Proofs.YtjdpaihhhjdgmaaGreatDoor
