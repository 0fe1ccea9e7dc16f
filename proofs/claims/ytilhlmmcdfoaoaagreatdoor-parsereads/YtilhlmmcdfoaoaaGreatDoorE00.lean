/-
  Tokens, as functions of lists of bytes; no conditions.
  Layer 17 (parse): trees, and what the reader makes of tokens, as functions of lists; plain, no conditions.
  Layer 17 (parse): the document's reader of expressions, as a function of tokens and a state that keeps the first error; plain lists, no conditions.
  A fact put out of the walk's sight, and taken out again; no conditions.
-/
import Derived.WalkKit
set_option linter.unusedVariables false
set_option linter.unusedSimpArgs false
namespace Go.Proofs.YtilhlmmcdfoaoaaGreatDoor
set_option linter.unusedVariables false
set_option linter.unusedSimpArgs false
def lxDig (c:UInt8):Bool:=decide (48≤c.toNat∧c.toNat≤57)
def lxLet (c:UInt8):Bool:=decide (97≤c.toNat∧c.toNat≤122∨65≤c.toNat∧c.toNat≤90∨c.toNat=95)
def lxW (c:UInt8):Bool:=lxLet c ||lxDig c
def lxB (c:UInt8):Bool:=decide (c.toNat=32∨c.toNat=9∨c.toNat=10∨c.toNat=13)
def blk:Bool→List UInt8→Nat
 |_,[]=>0
 |true,c :: r=>blk (decide (c.toNat≠10)) r+1
 |false,c :: r=>if lxB c=true then blk false r+1 else if c.toNat=47∧r.head?=some 47 then blk true r+1 else 0
def keyL:List (List UInt8):=[[102,110],[101,120,112,111,114,116],[108,101,116],[105,102],[101,108,115,101],[119,104,105,108,101],[114,101,116,117,114,110],[98,114,101,97,107],[99,111,110,116,105,110,117,101],[116,114,117,101],[102,97,108,115,101],[117,110,105,116]]
def keyB (w:List UInt8):Bool:=keyL.contains w
def sgL:List (List UInt8):=[[61,61],[33,61],[60,61],[62,61],[38,38],[124,124],[40],[41],[123],[125],[91],[93],[44],[59],[58],[46],[61],[60],[62],[43],[45],[42],[47],[37],[33]]
def sgB (w:List UInt8):Bool:=sgL.contains w
def sgN (l:List UInt8):Nat:=if 2≤l.length∧sgB (l.take 2)=true then 2 else if sgB (l.take 1)=true then 1 else 0
def valD (w:List UInt8):Nat:=w.foldl (fun n c=>10 * n+(c.toNat - 48)) 0
def intV (w:List UInt8):Option Nat:=if w.all lxDig=true∧(w.length≤1∨w.head?≠some 48)∧valD w≤9223372036854775807 then some (valD w) else none
def hexV (c:UInt8):Option Nat:=if 48≤c.toNat∧c.toNat≤57 then some (c.toNat - 48) else if 97≤c.toNat∧c.toNat≤102 then some (c.toNat - 87) else none
def hexP:List UInt8→Option (UInt8 × Nat)
 |e :: f :: _=>match hexV e,hexV f with
  |some a,some b=>some (UInt8.ofNat (16 * a+b),4)
  |_,_=>none
 |_=>none
def escP:List UInt8→Option (UInt8 × Nat)
 |[]=>none
 |d :: r=>if d.toNat=34∨d.toNat=92 then some (d,2) else if d.toNat=120 then hexP r else none
def pcL:List UInt8→Option (UInt8 × Nat)
 |[]=>none
 |c :: r=>if c.toNat<32∨126<c.toNat then none else if c.toNat=92 then escP r else some (c,1)
def pcs:Nat→List UInt8→Option (List UInt8 × Nat)
 |0,_=>none
 |_+1,[]=>none
 |f+1,c :: r=>if c.toNat=34 then some ([],1) else match pcL (c :: r) with
  |none=>none
  |some (b,n)=>match pcs f ((c :: r).drop n) with
   |none=>none
   |some (bs,m)=>some (b :: bs,n+m)
def bytC:Option (List UInt8 × Nat)→Option (List UInt8 × Nat)
 |none=>none
 |some (bs,m)=>if bs.length≤2047 then some (bs,m+1) else none
def bytV (l:List UInt8):Option (List UInt8 × Nat):=bytC (pcs (l.length+1) l)
structure Tk where
 k:Nat
 t:List UInt8
 n:Nat
 p:Nat
def wrdT (w:List UInt8):Except Nat (Tk × Nat):=if keyB w=true then .ok (⟨2,w,0,0⟩,w.length) else if 20<w.length then .error 164 else .ok (⟨1,w,0,0⟩,w.length)
def numT (w:List UInt8):Except Nat (Tk × Nat):=match intV w with
 |none=>.error 162
 |some n=>.ok (⟨3,[],n,0⟩,w.length)
def bytT (l:List UInt8):Except Nat (Tk × Nat):=match bytV l with
 |none=>.error 163
 |some (bs,m)=>.ok (⟨4,bs,0,0⟩,m)
def sgnT (l:List UInt8):Except Nat (Tk × Nat):=if sgN l=0 then .error 161 else .ok (⟨5,l.take (sgN l),0,0⟩,sgN l)
def fstT:List UInt8→Except Nat (Tk × Nat)
 |[]=>.error 161
 |c :: r=>if lxLet c=true then wrdT ((c :: r).takeWhile lxW) else if lxDig c=true then numT ((c :: r).takeWhile lxW) else if c.toNat=34 then bytT r else sgnT (c :: r)
def Tk.at (t:Tk) (p:Nat):Tk:=⟨t.k,t.t,t.n,p⟩
def endT (p:Nat):Tk:=⟨0,[],0,p⟩
def preT (ts:List Tk):Except (Nat × Nat) (List Tk)→Except (Nat × Nat) (List Tk)
 |.error e=>.error e
 |.ok us=>.ok (ts++us)
def lpT:Nat→Nat→List UInt8→Except (Nat × Nat) (List Tk)
 |0,_,_=>.error (0,0)
 |_+1,p,[]=>.ok [endT p]
 |f+1,p,c :: r=>match fstT (c :: r) with
  |.error e=>.error (p,e)
  |.ok (t,n)=>preT [t.at p] (lpT f (p+n+blk false ((c :: r).drop n)) (((c :: r).drop n).drop (blk false ((c :: r).drop n))))
def allT (l:List UInt8):Except (Nat × Nat) (List Tk):=if 8192<l.length then .error (0,160) else lpT (l.length+1) (blk false l) (l.drop (blk false l))
theorem fst_cons (c:UInt8) (r:List UInt8):fstT (c :: r)=if lxLet c=true then wrdT ((c :: r).takeWhile lxW) else if lxDig c=true then numT ((c :: r).takeWhile lxW) else if c.toNat=34 then bytT r else sgnT (c :: r):=rfl
theorem pcL_cons (c:UInt8) (r:List UInt8):pcL (c :: r)=if c.toNat<32∨126<c.toNat then none else if c.toNat=92 then escP r else some (c,1):=rfl
theorem escP_cons (d:UInt8) (r:List UInt8):escP (d :: r)=if d.toNat=34∨d.toNat=92 then some (d,2) else if d.toNat=120 then hexP r else none:=rfl
theorem preT_nil (r:Except (Nat × Nat) (List Tk)):preT [] r=r:=by cases r <;> rfl
theorem preT_add (a b:List Tk) (r:Except (Nat × Nat) (List Tk)):preT a (preT b r)=preT (a++b) r:=by
 cases r with
 |error e=>rfl
 |ok us=>simp [preT]
theorem blk_le:∀(b:Bool) (l:List UInt8),blk b l≤l.length
 |_,[]=>by simp [blk]
 |true,c :: r=>by have:=blk_le (decide (c.toNat≠10)) r;simp only [blk,List.length_cons];omega
 |false,c :: r=>by
  have h1:=blk_le false r
  have h2:=blk_le true r
  simp only [blk,List.length_cons]
  split
  ·omega
  ·split <;> omega
theorem blk_take:∀(b:Bool) (l:List UInt8) (m:Nat),blk b l≤m→blk b (l.take m)=blk b l
 |_,[],m,_=>by simp
 |true,c :: r,m,h=>by
  simp only [blk] at h ⊢
  obtain⟨q,rfl⟩:∃q,m=q+1:=⟨m - 1,by omega⟩
  rw [List.take_succ_cons]
  simp only [blk]
  rw [blk_take _ r q (by omega)]
 |false,c :: r,m,h=>by
  by_cases h1:lxB c=true
  ·simp only [blk,h1,if_true] at h ⊢
   obtain⟨q,rfl⟩:∃q,m=q+1:=⟨m - 1,by omega⟩
   rw [List.take_succ_cons]
   simp only [blk,h1,if_true]
   rw [blk_take _ r q (by omega)]
  ·by_cases h2:c.toNat=47∧r.head?=some 47
   ·simp only [blk,h1,h2,if_true,and_self,if_false,Bool.false_eq_true] at h ⊢
    obtain⟨q,rfl⟩:∃q,m=q+1:=⟨m - 1,by omega⟩
    have hb:1≤blk true r:=by
     cases r with
     |nil=>simp at h2
     |cons d r=>simp [blk]
    obtain⟨q',rfl⟩:∃q',q=q'+1:=⟨q - 1,by omega⟩
    rw [List.take_succ_cons]
    have hh:(r.take (q'+1)).head?=some 47:=by
     cases r with
     |nil=>simp at h2
     |cons d r=>simpa using h2.2
    simp only [blk,h1,h2.1,hh,if_true,and_self,if_false,Bool.false_eq_true]
    rw [blk_take _ r (q'+1) (by omega)]
   ·have h0:blk false (c :: r)=0:=by simp only [blk,h1,h2,if_false,Bool.false_eq_true]
    rw [h0]
    cases m with
    |zero=>simp [blk]
    |succ q=>
     rw [List.take_succ_cons]
     have hh:¬(c.toNat=47∧(r.take q).head?=some 47):=fun ⟨a,b⟩=>h2 ⟨a,by
      cases r with
      |nil=>simp at b
      |cons d r=>
       cases q with
       |zero=>simp at b
       |succ q=>simpa using b⟩
     simp only [blk,h1,hh,if_false,Bool.false_eq_true]
theorem tw_take (p:UInt8→Bool):∀(l:List UInt8) (m:Nat),(l.takeWhile p).length≤m→(l.take m).takeWhile p=l.takeWhile p
 |[],_,_=>by simp
 |c :: r,m,h=>by
  cases hc:p c with
  |false=>
   cases m with
   |zero=>simp [List.takeWhile_cons,hc]
   |succ q=>simp [List.takeWhile_cons,hc]
  |true=>
   rw [List.takeWhile_cons,if_pos hc] at h ⊢
   cases m with
   |zero=>simp at h
   |succ q=>
    rw [List.take_succ_cons,List.takeWhile_cons,if_pos hc,tw_take p r q (by simpa using h)]
theorem tw_le (p:UInt8→Bool):∀(l:List UInt8),(l.takeWhile p).length≤l.length
 |[]=>by simp
 |c :: r=>by
  rw [List.takeWhile_cons]
  split
  ·have:=tw_le p r;simp;exact this
  ·simp
theorem pcL_pos {l:List UInt8} {b:UInt8} {n:Nat} (h:pcL l=some (b,n)):1≤n∧n≤l.length:=by
 cases l with
 |nil=>simp [pcL] at h
 |cons c r=>
  rw [pcL_cons] at h
  split at h
  ·simp at h
  ·split at h
   ·cases r with
    |nil=>simp [escP] at h
    |cons d r=>
     rw [escP_cons] at h
     split at h
     ·simp at h;simp;omega
     ·split at h
      ·unfold hexP at h
       split at h
       ·split at h
        ·simp at h;simp;omega
        ·simp at h
       ·simp at h
      ·simp at h
   ·simp at h;simp;omega
theorem pcL_take {l:List UInt8} {b:UInt8} {n m:Nat} (h:pcL l=some (b,n)) (hm:n≤m):pcL (l.take m)=some (b,n):=by
 cases l with
 |nil=>simp [pcL] at h
 |cons c r=>
  have hp:=pcL_pos h
  obtain⟨q,rfl⟩:∃q,m=q+1:=⟨m - 1,by omega⟩
  rw [List.take_succ_cons]
  rw [pcL_cons] at h ⊢
  split
  ·rename_i g;rw [if_pos g] at h;exact h
  ·rename_i g
   rw [if_neg g] at h
   split
   ·rename_i g2
    rw [if_pos g2] at h
    cases r with
    |nil=>simp [escP] at h
    |cons d r=>
     rw [escP_cons] at h
     by_cases g3:d.toNat=34∨d.toNat=92
     ·rw [if_pos g3] at h
      simp at h
      obtain⟨q',rfl⟩:∃q',q=q'+1:=⟨q - 1,by omega⟩
      rw [List.take_succ_cons,escP_cons,if_pos g3]
      simpa using h
     ·rw [if_neg g3] at h
      by_cases g4:d.toNat=120
      ·rw [if_pos g4] at h
       unfold hexP at h
       split at h
       ·rename_i e f r'
        have hn:n=4:=by
         split at h
         ·simp at h;omega
         ·simp at h
        subst hn
        obtain⟨q',rfl⟩:∃q',q=q'+1+1+1:=⟨q - 3,by omega⟩
        simp only [List.take_succ_cons]
        rw [escP_cons,if_neg g3,if_pos g4]
        unfold hexP
        exact h
       ·simp at h
      ·rw [if_neg g4] at h
       simp at h
   ·rename_i g2
    rw [if_neg g2] at h
    exact h
theorem pcs_pos:∀(f:Nat) {l:List UInt8} {bs:List UInt8} {n:Nat},pcs f l=some (bs,n)→bs.length+1≤n∧n≤l.length
 |0,_,_,_,h=>by simp [pcs] at h
 |f+1,[],_,_,h=>by simp [pcs] at h
 |f+1,c :: r,bs,n,h=>by
  unfold pcs at h
  split at h
  ·simp at h;obtain⟨rfl,rfl⟩:=h;simp
  ·cases hp:pcL (c :: r) with
   |none=>rw [hp] at h;simp at h
   |some x=>
    obtain⟨b,k⟩:=x
    rw [hp] at h
    simp only at h
    cases hq:pcs f ((c :: r).drop k) with
    |none=>rw [hq] at h;simp at h
    |some y=>
     obtain⟨bs',m⟩:=y
     rw [hq] at h
     simp at h
     obtain⟨rfl,rfl⟩:=h
     have h1:=pcs_pos f hq
     have h2:=pcL_pos hp
     rw [List.length_drop] at h1
     simp only [List.length_cons] at h1 h2 ⊢
     omega
theorem pcs_take:∀(f:Nat) {l:List UInt8} {bs:List UInt8} {n:Nat} (f' m:Nat),pcs f l=some (bs,n)→n≤m→(l.take m).length<f'→pcs f' (l.take m)=some (bs,n)
 |0,_,_,_,_,_,h,_,_=>by simp [pcs] at h
 |f+1,[],_,_,_,_,h,_,_=>by simp [pcs] at h
 |f+1,c :: r,bs,n,f',m,h,hm,hf=>by
  have hpos:=pcs_pos _ h
  obtain⟨q,rfl⟩:∃q,m=q+1:=⟨m - 1,by omega⟩
  obtain⟨g,rfl⟩:∃g,f'=g+1:=⟨f' - 1,by omega⟩
  unfold pcs at h
  rw [List.take_succ_cons] at hf ⊢
  unfold pcs
  by_cases h0:c.toNat=34
  ·rw [if_pos h0] at h ⊢;exact h
  ·rw [if_neg h0] at h ⊢
   cases hp:pcL (c :: r) with
   |none=>rw [hp] at h;simp at h
   |some x=>
    obtain⟨b,k⟩:=x
    rw [hp] at h
    simp only at h
    cases hq:pcs f ((c :: r).drop k) with
    |none=>rw [hq] at h;simp at h
    |some y=>
     obtain⟨bs',j⟩:=y
     rw [hq] at h
     simp at h
     obtain⟨rfl,rfl⟩:=h
     have hk:=pcL_pos hp
     have hj:=pcs_pos f hq
     have h1:pcL (c :: r.take q)=some (b,k):=by
      have:=pcL_take (m:=q+1) hp (by omega)
      rwa [List.take_succ_cons] at this
     rw [h1]
     simp only
     have h2:(c :: r.take q).drop k=((c :: r).drop k).take (q+1 - k):=by
      rw [←List.take_succ_cons,List.drop_take]
     rw [h2,pcs_take f g (q+1 - k) hq (by omega) (by
      rw [←h2,List.length_drop]
      simp only [List.length_cons] at hf ⊢
      omega)]
theorem sgN_le (l:List UInt8):sgN l≤l.length:=by
 unfold sgN
 split
 ·rename_i h;exact h.1
 ·split
  ·rename_i h
   cases l with
   |nil=>simp [sgB,sgL] at h
   |cons c r=>simp
  ·omega
theorem sgN_take (l:List UInt8) (m:Nat) (h1:1≤sgN l) (h2:sgN l≤m):sgN (l.take m)=sgN l:=by
 have hl:=sgN_le l
 by_cases hm:2≤m
 ·have t2:(l.take m).take 2=l.take 2:=by rw [List.take_take,Nat.min_eq_left hm]
  have t1:(l.take m).take 1=l.take 1:=by rw [List.take_take,Nat.min_eq_left (by omega)]
  have hi:(2≤(l.take m).length)↔2≤l.length:=by rw [List.length_take];omega
  unfold sgN
  rw [t2,t1]
  simp only [hi]
 ·have h3:sgN l=1:=by omega
  have h4:m=1:=by omega
  subst h4
  have h5:sgB (l.take 1)=true:=by
   unfold sgN at h3
   split at h3
   ·omega
   ·split at h3
    ·assumption
    ·omega
  rw [h3]
  unfold sgN
  rw [if_neg (by rw [List.length_take];omega),List.take_take,Nat.min_eq_left (Nat.le_refl _),if_pos h5]
theorem fst_take {l:List UInt8} {t:Tk} {n:Nat} (m:Nat) (h:fstT l=.ok (t,n)) (hm:n≤m):1≤n∧n≤l.length∧fstT (l.take m)=.ok (t,n):=by
 cases l with
 |nil=>simp [fstT] at h
 |cons c r=>
  rw [fst_cons] at h
  by_cases h1:lxLet c=true
  ·rw [if_pos h1] at h
   have hn:n=((c :: r).takeWhile lxW).length:=by
    unfold wrdT at h
    split at h
    ·simp at h;omega
    ·split at h
     ·simp at h
     ·simp at h;omega
   have hw:lxW c=true:=by unfold lxW;rw [h1];rfl
   have h3:1≤n:=by rw [hn,List.takeWhile_cons,if_pos hw];simp
   have h4:n≤(c :: r).length:=by rw [hn];exact tw_le _ _
   refine⟨h3,h4,?_⟩
   have ht:=tw_take lxW (c :: r) m (by omega)
   obtain⟨q,rfl⟩:∃q,m=q+1:=⟨m - 1,by omega⟩
   rw [List.take_succ_cons] at ht ⊢
   rw [fst_cons]
   rw [if_pos h1,ht]
   exact h
  ·rw [if_neg h1] at h
   by_cases h2:lxDig c=true
   ·rw [if_pos h2] at h
    have hn:n=((c :: r).takeWhile lxW).length:=by
     unfold numT at h
     split at h
     ·simp at h
     ·simp at h;omega
    have hw:lxW c=true:=by unfold lxW;rw [h2];simp
    have h3:1≤n:=by rw [hn,List.takeWhile_cons,if_pos hw];simp
    have h4:n≤(c :: r).length:=by rw [hn];exact tw_le _ _
    refine⟨h3,h4,?_⟩
    have ht:=tw_take lxW (c :: r) m (by omega)
    obtain⟨q,rfl⟩:∃q,m=q+1:=⟨m - 1,by omega⟩
    rw [List.take_succ_cons] at ht ⊢
    rw [fst_cons]
    rw [if_neg h1,if_pos h2,ht]
    exact h
   ·rw [if_neg h2] at h
    by_cases h3:c.toNat=34
    ·rw [if_pos h3] at h
     unfold bytT bytV at h
     cases hp:pcs (r.length+1) r with
     |none=>rw [hp] at h;simp [bytC] at h
     |some x=>
      obtain⟨bs,k⟩:=x
      rw [hp] at h
      by_cases hl:bs.length≤2047
      ·simp [bytC,hl] at h
       obtain⟨rfl,rfl⟩:=h
       have hk:=pcs_pos _ hp
       refine⟨by omega,by simp;omega,?_⟩
       obtain⟨q,rfl⟩:∃q,m=q+1:=⟨m - 1,by omega⟩
       rw [List.take_succ_cons]
       rw [fst_cons]
       rw [if_neg h1,if_neg h2,if_pos h3]
       unfold bytT bytV
       rw [pcs_take _ _ q hp (by omega) (Nat.lt_succ_self _)]
       simp [bytC,hl]
      ·simp [bytC,hl] at h
    ·rw [if_neg h3] at h
     unfold sgnT at h
     by_cases h4:sgN (c :: r)=0
     ·rw [if_pos h4] at h;simp at h
     ·rw [if_neg h4] at h
      simp at h
      obtain⟨rfl,rfl⟩:=h
      refine⟨by omega,sgN_le _,?_⟩
      have ht:=sgN_take (c :: r) m (by omega) hm
      have hk:((c :: r).take m).take (sgN (c :: r))=(c :: r).take (sgN (c :: r)):=by rw [List.take_take,Nat.min_eq_left hm]
      obtain⟨q,rfl⟩:∃q,m=q+1:=⟨m - 1,by omega⟩
      rw [List.take_succ_cons] at ht hk ⊢
      rw [fst_cons]
      rw [if_neg h1,if_neg h2,if_neg h3]
      unfold sgnT
      rw [ht,if_neg h4,hk]
theorem fst_pos {l:List UInt8} {t:Tk} {n:Nat} (h:fstT l=.ok (t,n)):1≤n∧n≤l.length:=by
 have:=fst_take n h (Nat.le_refl _)
 exact⟨this.1,this.2.1⟩
theorem fst_zero {l:List UInt8} {t:Tk} {n:Nat} (h:fstT l=.ok (t,n)):t.p=0∧1≤t.k:=by
 cases l with
 |nil=>simp [fstT] at h
 |cons c r=>
  rw [fst_cons] at h
  split at h
  ·unfold wrdT at h
   split at h
   ·simp at h;rw [←h.1];simp
   ·split at h
    ·simp at h
    ·simp at h;rw [←h.1];simp
  ·split at h
   ·unfold numT at h
    split at h
    ·simp at h
    ·simp at h;rw [←h.1];simp
   ·split at h
    ·unfold bytT at h
     split at h
     ·simp at h
     ·simp at h;rw [←h.1];simp
    ·unfold sgnT at h
     split at h
     ·simp at h
     ·simp at h;rw [←h.1];simp
structure Nd where
 mk ::
 k:Nat
 t:List UInt8
 vk:Nat
 vn:Nat
 vs:List UInt8
 f:Bool
 ks:List Nd
 p:Nat
def nd0 (k:Nat) (t:List UInt8) (ks:List Nd) (p:Nat):Nd:=⟨k,t,0,0,[],false,ks,p⟩
abbrev Rs (α:Type):Type:=Except (Nat × Nat) (α × List Tk)
def hdT (l:List Tk):Tk:=l.headD (endT 0)
def isT (k:Nat) (s:List UInt8) (l:List Tk):Bool:=decide ((hdT l).k=k∧(hdT l).t=s)
def isS (s:List UInt8) (l:List Tk):Bool:=isT 5 s l
def isK (s:List UInt8) (l:List Tk):Bool:=isT 2 s l
def pSg (s:List UInt8) (l:List Tk):Rs Tk:=if isS s l=true then .ok (hdT l,l.tail) else .error (170,(hdT l).p)
def pKy (s:List UInt8) (l:List Tk):Rs Tk:=if isK s l=true then .ok (hdT l,l.tail) else .error (170,(hdT l).p)
def pNm (l:List Tk):Rs Tk:=if (hdT l).k=1 then .ok (hdT l,l.tail) else .error (170,(hdT l).p)
def ent (s:List UInt8) (d:Nat) (l:List Tk):Rs Tk:=if isS s l=true then (if d=24 then .error (171,(hdT l).p) else .ok (hdT l,l.tail)) else .error (170,(hdT l).p)
def thn {α β:Type} (x:Rs α) (k:α→List Tk→Option (Rs β)):Option (Rs β):=
 match x with
 |.error e=>some (.error e)
 |.ok (a,l)=>k a l
def bnd {α β:Type} (x:Option (Rs α)) (k:α→List Tk→Option (Rs β)):Option (Rs β):=
 match x with
 |none=>none
 |some y=>thn y k
def okN (n:List Nd) (l:List Tk):Option (Rs (List Nd)):=some (.ok (n,l))
def rowS (t:List UInt8):Nat:=
 if t=[124,124] then 1 else if t=[38,38] then 2 else
 if t=[61,61]∨t=[33,61]∨t=[60]∨t=[60,61]∨t=[62]∨t=[62,61] then 3 else
 if t=[43]∨t=[45] then 4 else if t=[42]∨t=[47]∨t=[37] then 5 else 0
def rowT (l:List Tk):Nat:=if (hdT l).k=5 then rowS (hdT l).t else 0
abbrev Jb:Type:=Nat→Nat→List Nd→List Tk→Nat→Option (Rs (List Nd))
def opX (x:Nat):List UInt8:=if x=2 then [91] else if x=3 then [123] else [40]
def clX (x:Nat):List UInt8:=if x=2 then [93] else if x=3 then [125] else [41]
def kdX (x:Nat):Nat:=if x=2 then 18 else if x=3 then 19 else 15
def jUnary (r:Jb) (l:List Tk) (d:Nat):Option (Rs (List Nd)):=
 if isS [45] l=true∨isS [33] l=true then thn (ent (hdT l).t d l) (fun t l1=>bnd (r 1 0 [] l1 (d+1)) (fun ns l2=>okN [nd0 16 t.t ns t.p] l2)) else r 24 0 [] l d
def jBinary (r:Jb) (x:Nat) (l:List Tk) (d:Nat):Option (Rs (List Nd)):=
 if 5<x then r 1 0 [] l d else bnd (r 2 (x+1) [] l d) (fun ns l1=>r 3 x ns l1 d)
def jBinL (r:Jb) (x:Nat) (acc:List Nd) (l:List Tk) (d:Nat):Option (Rs (List Nd)):=
 if rowT l=x then bnd (r 2 (x+1) [] l.tail d) (fun ns l1=>if x=3 then okN [nd0 17 (hdT l).t (acc++ns) (hdT l).p] l1 else r 3 x [nd0 17 (hdT l).t (acc++ns) (hdT l).p] l1 d) else okN acc l
def jReached (r:Jb) (l:List Tk) (d:Nat):Option (Rs (List Nd)):=bnd (r 5 0 [] l d) (fun ns l1=>r 4 0 ns l1 d)
def jReL (r:Jb) (acc:List Nd) (l:List Tk) (d:Nat):Option (Rs (List Nd)):=
 if isS [91] l=true then thn (ent [91] d l) (fun t l1=>bnd (r 0 0 [] l1 (d+1)) (fun ns l2=>thn (pSg [93] l2) (fun _ l3=>r 4 0 [nd0 21 [] (acc++ns) t.p] l3 d)))
 else if isS [46] l=true then thn (pNm l.tail) (fun t l2=>r 4 0 [nd0 22 t.t acc (hdT l).p] l2 d) else okN acc l
def litN (vk vn:Nat) (vs:List UInt8) (l:List Tk):Option (Rs (List Nd)):=okN [⟨13,[],vk,vn,vs,false,[],(hdT l).p⟩] l.tail
def jOperand (r:Jb) (l:List Tk) (d:Nat):Option (Rs (List Nd)):=
 if (hdT l).k=1 then r 21 0 [] l d else if (hdT l).k=3 then litN 2 (hdT l).n [] l else if (hdT l).k=4 then litN 3 0 (hdT l).t l else
 if isK [116,114,117,101] l=true then litN 1 1 [] l else if isK [102,97,108,115,101] l=true then litN 1 0 [] l else if isK [117,110,105,116] l=true then litN 0 0 [] l else
 if isS [91] l=true then r 22 2 [] l d else if isS [123] l=true then r 22 3 [] l d else r 23 0 [] l d
def jName (r:Jb) (l:List Tk) (d:Nat):Option (Rs (List Nd)):=
 thn (pNm l) (fun t l1=>if isS [40] l1=true then bnd (r 22 1 [] l1 d) (fun ns l2=>okN (ns.map (fun n=>⟨n.k,t.t,n.vk,n.vn,n.vs,n.f,n.ks,t.p⟩)) l2) else okN [nd0 14 t.t [] t.p] l1)
def jWithin (r:Jb) (x:Nat) (l:List Tk) (d:Nat):Option (Rs (List Nd)):=
 thn (ent (opX x) d l) (fun t l1=>bnd (r 6 x [] l1 (d+1)) (fun ns l2=>thn (pSg (clX x) l2) (fun _ l3=>okN [nd0 (kdX x) [] ns t.p] l3)))
def jPart (r:Jb) (x:Nat) (l:List Tk) (d:Nat):Option (Rs (List Nd)):=if x=0 then r 25 0 [] l d else if x=3 then r 8 0 [] l d else r 0 0 [] l d
def jParts (r:Jb) (x:Nat) (l:List Tk) (d:Nat):Option (Rs (List Nd)):=
 if isS (clX x) l=true then okN [] l else bnd (jPart r x l d) (fun ns l1=>r 7 x ns l1 d)
def jPaL (r:Jb) (x:Nat) (acc:List Nd) (l:List Tk) (d:Nat):Option (Rs (List Nd)):=
 if isS [44] l=true then bnd (jPart r x l.tail d) (fun ns l1=>r 7 x (acc++ns) l1 d) else okN acc l
def jParam (l:List Tk):Option (Rs (List Nd)):=thn (pNm l) (fun t l1=>okN [nd0 3 t.t [] t.p] l1)
def jPair (r:Jb) (l:List Tk) (d:Nat):Option (Rs (List Nd)):=
 if ¬(hdT l).k=1∧(¬(hdT l).k=4∨32<(hdT l).t.length) then some (.error (170,(hdT l).p)) else
 thn (pSg [58] l.tail) (fun _ l1=>bnd (r 0 0 [] l1 d) (fun ns l2=>okN [nd0 20 (hdT l).t ns (hdT l).p] l2))
def jGroup (r:Jb) (l:List Tk) (d:Nat):Option (Rs (List Nd)):=
 thn (ent [40] d l) (fun _ l1=>bnd (r 0 0 [] l1 (d+1)) (fun ns l2=>thn (pSg [41] l2) (fun _ l3=>okN ns l3)))
def jStat (r:Jb) (l:List Tk) (d:Nat):Option (Rs (List Nd)):=
 if (hdT l).k=1∧isS [61] l.tail=true then r 16 0 [] l d else
 if isK [108,101,116] l=true then r 15 0 [] l d else if isK [105,102] l=true then r 12 0 [] l d else
 if isK [119,104,105,108,101] l=true then r 17 0 [] l d else if isK [114,101,116,117,114,110] l=true then r 18 0 [] l d else
 if isK [98,114,101,97,107] l=true then r 26 10 [] l d else if isK [99,111,110,116,105,110,117,101] l=true then r 26 11 [] l d else r 19 0 [] l d
def jLet (r:Jb) (l:List Tk) (d:Nat):Option (Rs (List Nd)):=
 thn (pNm l.tail) (fun t l2=>if isS [61] l2=true then bnd (r 0 0 [] l2.tail d) (fun ns l3=>thn (pSg [59] l3) (fun _ l4=>okN [nd0 5 t.t ns (hdT l).p] l4)) else thn (pSg [59] l2) (fun _ l4=>okN [nd0 5 t.t [] (hdT l).p] l4))
def jSet (r:Jb) (l:List Tk) (d:Nat):Option (Rs (List Nd)):=
 thn (pNm l) (fun t l1=>thn (pSg [61] l1) (fun _ l2=>bnd (r 0 0 [] l2 d) (fun ns l3=>thn (pSg [59] l3) (fun _ l4=>okN [nd0 6 t.t ns t.p] l4))))
def jGuard (r:Jb) (l:List Tk) (d:Nat):Option (Rs (List Nd)):=
 thn (pSg [40] l) (fun _ l1=>bnd (r 0 0 [] l1 d) (fun c l2=>thn (pSg [41] l2) (fun _ l3=>bnd (r 10 0 [] l3 d) (fun b l4=>okN (c++b) l4))))
def jChoice (r:Jb) (l:List Tk) (d:Nat):Option (Rs (List Nd)):=
 bnd (r 20 0 [] l.tail d) (fun ks l1=>if isK [101,108,115,101] l1=true then
  (if isK [105,102] l1.tail=true then bnd (r 12 0 [] l1.tail d) (fun x l2=>okN [nd0 7 [] (ks++x) (hdT l).p] l2) else bnd (r 10 0 [] l1.tail d) (fun x l2=>okN [nd0 7 [] (ks++x) (hdT l).p] l2)) else okN [nd0 7 [] ks (hdT l).p] l1)
def jLoop (r:Jb) (l:List Tk) (d:Nat):Option (Rs (List Nd)):=bnd (r 20 0 [] l.tail d) (fun ks l1=>okN [nd0 8 [] ks (hdT l).p] l1)
def jGive (r:Jb) (l:List Tk) (d:Nat):Option (Rs (List Nd)):=
 if isS [59] l.tail=true then thn (pSg [59] l.tail) (fun _ l2=>okN [nd0 9 [] [] (hdT l).p] l2) else bnd (r 0 0 [] l.tail d) (fun ns l2=>thn (pSg [59] l2) (fun _ l3=>okN [nd0 9 [] ns (hdT l).p] l3))
def jWord (x:Nat) (l:List Tk):Option (Rs (List Nd)):=thn (pSg [59] l.tail) (fun _ l2=>okN [nd0 x [] [] (hdT l).p] l2)
def jDo (r:Jb) (l:List Tk) (d:Nat):Option (Rs (List Nd)):=bnd (r 0 0 [] l d) (fun ns l1=>thn (pSg [59] l1) (fun _ l2=>okN [nd0 12 [] ns (hdT l).p] l2))
def jBlock (r:Jb) (l:List Tk) (d:Nat):Option (Rs (List Nd)):=
 thn (ent [123] d l) (fun t l1=>bnd (r 11 0 [] l1 (d+1)) (fun ks l2=>thn (pSg [125] l2) (fun _ l3=>okN [nd0 4 [] ks t.p] l3)))
def jBlL (r:Jb) (acc:List Nd) (l:List Tk) (d:Nat):Option (Rs (List Nd)):=
 if isS [125] l=true then okN acc l else bnd (r 9 0 [] l d) (fun ns l1=>r 11 0 (acc++ns) l1 d)
def jFn (r:Jb) (b:Bool) (p:Nat) (l:List Tk) (d:Nat):Option (Rs (List Nd)):=
 thn (pKy [102,110] l) (fun _ l2=>thn (pNm l2) (fun t l3=>thn (pSg [40] l3) (fun _ l4=>bnd (r 6 0 [] l4 d) (fun ps l5=>thn (pSg [41] l5) (fun _ l6=>bnd (r 10 0 [] l6 d) (fun bl l7=>okN [⟨2,t.t,0,0,[],b,ps++bl,p⟩] l7))))))
def jFun (r:Jb) (l:List Tk) (d:Nat):Option (Rs (List Nd)):=
 if isK [101,120,112,111,114,116] l=true then jFn r true (hdT l).p l.tail d else jFn r false (hdT l).p l d
def jPrL (r:Jb) (acc:List Nd) (l:List Tk) (d:Nat):Option (Rs (List Nd)):=
 if (hdT l).k=0 then okN acc l else bnd (r 13 0 [] l d) (fun ns l1=>r 14 0 (acc++ns) l1 d)
def stepJ (r:Jb):Jb:=fun j x acc l d=>match j with
 |0=>r 2 1 [] l d
 |1=>jUnary r l d
 |2=>jBinary r x l d
 |3=>jBinL r x acc l d
 |4=>jReL r acc l d
 |5=>jOperand r l d
 |6=>jParts r x l d
 |7=>jPaL r x acc l d
 |8=>jPair r l d
 |9=>jStat r l d
 |10=>jBlock r l d
 |11=>jBlL r acc l d
 |12=>jChoice r l d
 |13=>jFun r l d
 |14=>jPrL r acc l d
 |15=>jLet r l d
 |16=>jSet r l d
 |17=>jLoop r l d
 |18=>jGive r l d
 |19=>jDo r l d
 |20=>jGuard r l d
 |21=>jName r l d
 |22=>jWithin r x l d
 |23=>jGroup r l d
 |24=>jReached r l d
 |25=>jParam l
 |26=>jWord x l
 |27=>bnd (r 14 0 [] l d) (fun ks l1=>okN [nd0 1 [] ks 0] l1)
 |_=>none
def PJ:Nat→Jb
 |0=>fun _ _ _ _ _=>none
 |f+1=>stepJ (PJ f)
structure Sg where
 i:Nat
 o:Int
 e:Nat
 a:Nat
def wrI (z:Int):Int:=Go.RowKit.wrap64 z
def tkQ (T:List Tk) (σ:Sg):Tk:=hdT (T.drop σ.i)
def isQ (T:List Tk) (k:Nat) (s:List UInt8) (σ:Sg):Bool:=decide (σ.e=0∧(tkQ T σ).k=k∧(k=1∨k=3∨k=4∨k=0∨(tkQ T σ).t=s))
def nxQ (T:List Tk) (σ:Sg):Sg:=if σ.i+1<T.length then ⟨σ.i+1,σ.o,σ.e,σ.a⟩ else σ
def wrQ (T:List Tk) (er:Nat) (σ:Sg):Sg:=if σ.e=0 then ⟨σ.i,σ.o,er,(tkQ T σ).p⟩ else σ
def muQ (T:List Tk) (k:Nat) (s:List UInt8) (σ:Sg):Tk × Sg:=if isQ T k s σ=true then (tkQ T σ,nxQ T σ) else (⟨0,[],0,0⟩,wrQ T 170 σ)
def opQ (T:List Tk) (σ:Sg):Tk × Sg:=if 24≤σ.o then (⟨0,[],0,0⟩,wrQ T 171 σ) else (tkQ T σ,nxQ T ⟨σ.i,wrI (σ.o+1),σ.e,σ.a⟩)
def dnQ (σ:Sg):Sg:=⟨σ.i,wrI (σ.o - 1),σ.e,σ.a⟩
def clQ (T:List Tk) (s:List UInt8) (σ:Sg):Sg:=dnQ (muQ T 5 s σ).2
def lvT (t:Tk):Nat:=if t.k=5 then rowS t.t else 0
abbrev Jq:Type:=Nat→Nat→List Nd→Sg→Option (List Nd × Sg)
def bq (o:Option (List Nd × Sg)) (k:List Nd→Sg→Option (List Nd × Sg)):Option (List Nd × Sg):=match o with
 |none=>none
 |some (ns,σ)=>k ns σ
def okq (ns:List Nd) (σ:Sg):Option (List Nd × Sg):=some (ns,σ)
def ndz:Nd:=⟨0,[],0,0,[],false,[],0⟩
def qRow (T:List Tk) (r:Jq) (x:Nat) (σ:Sg):=if 5<x then r 1 0 [] σ else bq (r 2 (x+1) [] σ) (fun ns σ1=>r 3 x ns σ1)
def qRowL (T:List Tk) (r:Jq) (x:Nat) (acc:List Nd) (σ:Sg):=
 if σ.e=0∧lvT (tkQ T σ)=x then bq (r 2 (x+1) [] (nxQ T σ)) (fun ns σ1=>if x=3 then okq [nd0 17 (tkQ T σ).t (acc++ns) (tkQ T σ).p] σ1 else r 3 x [nd0 17 (tkQ T σ).t (acc++ns) (tkQ T σ).p] σ1) else okq acc σ
def qUnary (T:List Tk) (r:Jq) (σ:Sg):=
 if isQ T 5 [45] σ=true∨isQ T 5 [33] σ=true then (if (opQ T σ).2.e=0 then bq (r 1 0 [] (opQ T σ).2) (fun ns σ2=>okq [nd0 16 (opQ T σ).1.t ns (opQ T σ).1.p] (dnQ σ2)) else okq [ndz] (opQ T σ).2) else r 24 0 [] σ
def qPost (T:List Tk) (r:Jq) (σ:Sg):=bq (r 5 0 [] σ) (fun ns σ1=>r 4 0 ns σ1)
def qPostL (T:List Tk) (r:Jq) (acc:List Nd) (σ:Sg):=
 if σ.e=0 then
  (if isQ T 5 [91] σ=true then (if (opQ T σ).2.e=0 then bq (r 0 0 [] (opQ T σ).2) (fun ns σ2=>r 4 0 [nd0 21 [] (acc++ns) (opQ T σ).1.p] (clQ T [93] σ2)) else okq acc (opQ T σ).2)
   else if isQ T 5 [46] σ=true then r 4 0 [nd0 22 (muQ T 1 [] (nxQ T σ)).1.t acc (tkQ T σ).p] (muQ T 1 [] (nxQ T σ)).2 else okq acc σ)
 else okq acc σ
def litQ (T:List Tk) (vk vn:Nat) (vs:List UInt8) (σ:Sg):=okq [⟨13,[],vk,vn,vs,false,[],(tkQ T σ).p⟩] (nxQ T σ)
def qPrim (T:List Tk) (r:Jq) (σ:Sg):=
 if σ.e=0 then
  (if (tkQ T σ).k=3 then litQ T 2 (tkQ T σ).n [] σ else if (tkQ T σ).k=4 then litQ T 3 0 (tkQ T σ).t σ
   else if (tkQ T σ).k=2∧(tkQ T σ).t=[116,114,117,101] then litQ T 1 1 [] σ else if (tkQ T σ).k=2∧(tkQ T σ).t=[102,97,108,115,101] then litQ T 1 0 [] σ
   else if (tkQ T σ).k=2∧(tkQ T σ).t=[117,110,105,116] then litQ T 0 0 [] σ
   else if (tkQ T σ).k=1 then (if isQ T 5 [40] (nxQ T σ)=true then bq (r 6 41 [] (opQ T (nxQ T σ)).2) (fun ns σ3=>okq [nd0 15 (tkQ T σ).t ns (tkQ T σ).p] σ3) else okq [nd0 14 (tkQ T σ).t [] (tkQ T σ).p] (nxQ T σ))
   else r 23 0 [] σ)
 else okq [ndz] σ
def qBrack (T:List Tk) (r:Jq) (σ:Sg):=
 if (tkQ T σ).k=5∧((tkQ T σ).t=[40]∨(tkQ T σ).t=[91]∨(tkQ T σ).t=[123]) then
  (if (opQ T σ).2.e=0 then
   (if (tkQ T σ).t=[40] then bq (r 0 0 [] (opQ T σ).2) (fun ns σ2=>okq ns (clQ T [41] σ2))
    else if (tkQ T σ).t=[91] then bq (r 6 93 [] (opQ T σ).2) (fun ns σ2=>okq [nd0 18 [] ns (tkQ T σ).p] σ2)
    else bq (r 8 0 [] (opQ T σ).2) (fun ns σ2=>okq [nd0 19 [] ns (tkQ T σ).p] σ2))
   else okq [ndz] (opQ T σ).2)
 else okq [ndz] (wrQ T 170 σ)
def chQ (x:Nat):List UInt8:=if x=41 then [41] else [93]
def qList (T:List Tk) (r:Jq) (x:Nat) (σ:Sg):=if isQ T 5 (chQ x) σ=true then okq [] (clQ T (chQ x) σ) else r 7 x [] σ
def qListL (T:List Tk) (r:Jq) (x:Nat) (acc:List Nd) (σ:Sg):=
 if σ.e=0 then bq (r 0 0 [] σ) (fun ns σ1=>if isQ T 5 [44] σ1=true then r 7 x (acc++ns) (nxQ T σ1) else okq (acc++ns) (clQ T (chQ x) σ1)) else okq acc (clQ T (chQ x) σ)
def qPairs (T:List Tk) (r:Jq) (σ:Sg):=if isQ T 5 [125] σ=true then okq [] (clQ T [125] σ) else r 9 0 [] σ
def qPairL (T:List Tk) (r:Jq) (acc:List Nd) (σ:Sg):=
 if σ.e=0 then
  (if (¬(tkQ T σ).k=1∧¬(tkQ T σ).k=4)∨32<(tkQ T σ).t.length then okq acc (wrQ T 170 σ)
   else bq (r 0 0 [] (muQ T 5 [58] (nxQ T σ)).2) (fun ns σ3=>if isQ T 5 [44] σ3=true then r 9 0 (acc++[nd0 20 (tkQ T σ).t ns (tkQ T σ).p]) (nxQ T σ3) else okq (acc++[nd0 20 (tkQ T σ).t ns (tkQ T σ).p]) (clQ T [125] σ3)))
 else okq acc (clQ T [125] σ)
def stepQ (T:List Tk) (r:Jq):Jq:=fun j x acc σ=>match j with
 |0=>r 2 1 [] σ
 |1=>qUnary T r σ
 |2=>qRow T r x σ
 |3=>qRowL T r x acc σ
 |4=>qPostL T r acc σ
 |5=>qPrim T r σ
 |6=>qList T r x σ
 |7=>qListL T r x acc σ
 |8=>qPairs T r σ
 |9=>qPairL T r acc σ
 |23=>qBrack T r σ
 |24=>qPost T r σ
 |_=>none
def RJ (T:List Tk):Nat→Jq
 |0=>fun _ _ _ _=>none
 |f+1=>stepQ T (RJ T f)
open Go.RowKit
theorem hZ {p:Prop} (h:p):Hid p:=h
theorem uZ {p:Prop} (h:Hid p):p:=h
theorem sA {α:Type} (l:List α) (i:Nat) (a:α):l.toArray.setIfInBounds i a=(l.set i a).toArray:=by simp
theorem sB {α:Type} (x y:α) (l:List α):(x :: l).set 0 y=y :: l:=rfl
theorem sC {α:Type} (x y:α) (l:List α) (i:Nat):(x :: l).set (i+1) y=x :: l.set i y:=rfl
end Go.Proofs.YtilhlmmcdfoaoaaGreatDoor
