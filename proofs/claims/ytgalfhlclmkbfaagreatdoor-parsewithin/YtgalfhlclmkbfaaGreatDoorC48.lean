/-
  Layer 17 (parse): an expression alone, and within a function; plain lists, no conditions.
  Layer 17 (parse): the number of an error is never 0; plain lists, no conditions.
-/
import Derived.Test.YtgalfhlclmkbfaaGreatDoorC46
import Derived.Test.YtgalfhlclmkbfaaGreatDoorC13
import Derived.Test.YtgalfhlclmkbfaaGreatDoorC01
set_option linter.unusedVariables false
set_option linter.unusedSimpArgs false
namespace Go.Proofs.YtgalfhlclmkbfaaGreatDoor
set_option linter.unusedVariables false
set_option linter.unusedSimpArgs false

/-- a token that begins no expression -/
def noE (l : List Tk) : Prop := (hdT l).k = 0 ∨ isS [59] l = true
theorem noE_k {l : List Tk} (h : noE l) : ((hdT l).k = 0 ∨ ((hdT l).k = 5 ∧ (hdT l).t = [59])) := by
  rcases h with h | h
  · exact .inl h
  · rw [isS_def] at h
    exact .inr (of_decide_eq_true h)
theorem noE_s {l : List Tk} (h : noE l) (s : List UInt8) (hs : ¬ s = [59]) : isS s l = false := by
  rw [isS_def]
  rcases noE_k h with e | ⟨e1, e2⟩
  · exact decide_eq_false (fun x => by omega)
  · exact decide_eq_false (fun x => hs (by rw [← x.2, e2]))
theorem noE_ky {l : List Tk} (h : noE l) (s : List UInt8) : isK s l = false := by
  rw [isK_def]
  rcases noE_k h with e | ⟨e1, e2⟩
  · exact decide_eq_false (fun x => by omega)
  · exact decide_eq_false (fun x => by omega)
theorem bndX {α β : Type} {y : Option (Rs α)} {k : α → List Tk → Option (Rs β)} {r : β × List Tk} (h : bnd y k = some (.ok r)) : ∃ a l, y = some (.ok (a, l)) ∧ k a l = some (.ok r) := by
  cases y with
  | none => cases h
  | some x =>
    cases x with
    | error e => cases h
    | ok z => exact ⟨z.1, z.2, rfl, h⟩

def jbE (j : Nat) : Bool := j == 0 || j == 1 || j == 2 || j == 5 || j == 23 || j == 24
theorem no_expr : ∀ (f j x : Nat) (l : List Tk) (d : Nat) (r : List Nd × List Tk), jbE j = true → noE l → ¬ PJ f j x [] l d = some (.ok r)
  | 0, j, x, l, d, r, hj, h => fun e => by cases e
  | f + 1, j, x, l, d, r, hj, h => by
    have hk := noE_k h
    have hb : ∀ (j x : Nat) (k : List Nd → List Tk → Option (Rs (List Nd))), jbE j = true → ¬ bnd (PJ f j x [] l d) k = some (.ok r) := fun j x k hj e => by
      obtain ⟨a, l1, e1, _⟩ := bndX e
      exact no_expr f j x l d _ hj h e1
    have hc : j = 0 ∨ j = 1 ∨ j = 2 ∨ j = 5 ∨ j = 23 ∨ j = 24 := by
      unfold jbE at hj
      simp only [Bool.or_eq_true, beq_iff_eq] at hj
      omega
    rcases hc with rfl | rfl | rfl | rfl | rfl | rfl
    · show ¬ PJ f 2 1 [] l d = some (.ok r)
      exact no_expr f 2 1 l d r rfl h
    · show ¬ jUnary (PJ f) l d = some (.ok r)
      unfold jUnary
      rw [if_neg (by rw [noE_s h [45] (by decide), noE_s h [33] (by decide)]; simp)]
      exact no_expr f 24 0 l d r rfl h
    · show ¬ jBinary (PJ f) x l d = some (.ok r)
      unfold jBinary
      split
      · exact no_expr f 1 0 l d r rfl h
      · exact hb 2 (x + 1) _ rfl
    · show ¬ jOperand (PJ f) l d = some (.ok r)
      unfold jOperand
      rw [if_neg (by omega), if_neg (by omega), if_neg (by omega), if_neg (by rw [noE_ky h]; simp), if_neg (by rw [noE_ky h]; simp), if_neg (by rw [noE_ky h]; simp), if_neg (by rw [noE_s h _ (by decide)]; simp), if_neg (by rw [noE_s h _ (by decide)]; simp)]
      exact no_expr f 23 0 l d r rfl h
    · show ¬ jGroup (PJ f) l d = some (.ok r)
      unfold jGroup ent
      rw [if_neg (by rw [noE_s h _ (by decide)]; simp)]
      intro e
      cases e
    · show ¬ jReached (PJ f) l d = some (.ok r)
      unfold jReached
      exact hb 5 0 _ rfl

/-- what stands ahead of an expression within a function -/
def wrH : List Tk := [⟨2, [102, 110], 0, 0⟩, ⟨1, [102], 0, 3⟩, ⟨5, [40], 0, 4⟩, ⟨5, [41], 0, 5⟩, ⟨5, [123], 0, 7⟩, ⟨2, [114, 101, 116, 117, 114, 110], 0, 9⟩]
def wrA : List UInt8 := [102, 110, 32, 102, 40, 41, 32, 123, 32, 114, 101, 116, 117, 114, 110, 32]
def wrZ : List UInt8 := [59, 32, 125]

theorem wr_head (Y : List UInt8) : gpT false 0 (wrA ++ Y) = preT wrH (gpT false 16 Y) := by
  have h := gp_app 15 false 0 [102, 110, 32, 102, 40, 41, 32, 123, 32, 114, 101, 116, 117, 114, 110] wrH 15 (by decide) (by kernel_rfl)
  obtain ⟨b', hb⟩ := h
  have h2 := hb 32 Y (by decide +kernel)
  have h3 := hb 32 [] (by decide +kernel)
  have hb0 : b' = false := by
    cases b' with
    | false => rfl
    | true =>
      exfalso
      have h4 := hb 32 [97] (by decide +kernel)
      have e1 : gpT false 0 ([102, 110, 32, 102, 40, 41, 32, 123, 32, 114, 101, 116, 117, 114, 110] ++ 32 :: [97]) = .ok (wrH ++ [⟨1, [97], 0, 16⟩, endT 17]) := by kernel_rfl
      have e2 : gpT true (0 + ([102, 110, 32, 102, 40, 41, 32, 123, 32, 114, 101, 116, 117, 114, 110] : List UInt8).length) (32 :: [97]) = .ok [endT 17] := by kernel_rfl
      rw [e1, e2] at h4
      simp only [preT, Except.ok.injEq] at h4
      have := congrArg List.length h4
      simp at this
  subst hb0
  show gpT false 0 ([102, 110, 32, 102, 40, 41, 32, 123, 32, 114, 101, 116, 117, 114, 110] ++ 32 :: Y) = _
  rw [h2]
  congr 1
  exact gp_full (b := false) (p := 15) (l := [32]) (by decide +kernel) Y

theorem wr_all {s : List UInt8} {us : List Tk} {e : Nat} (h : allT s = .ok (us ++ [endT e])) (hl : (wrA ++ (s ++ wrZ)).length ≤ 8192) :
    ∃ us' z', allT (wrA ++ (s ++ wrZ)) = .ok (wrH ++ (us' ++ z')) ∧ us.map keyT = us'.map keyT ∧ (z' = [endT (16 + s.length + 3)] ∨ z' = [⟨5, [59], 0, 16 + s.length⟩, ⟨5, [125], 0, 16 + s.length + 2⟩, endT (16 + s.length + 3)]) := by
  have hs := all_small h
  rw [gp_all hs] at h
  obtain ⟨vs, hv, hk⟩ := gp_move 16 h
  have hb := blk_le false s
  obtain ⟨us', hu'⟩ := (lp_all _ _ _ _ (by rw [List.length_drop]; omega) hv).1
  subst hu'
  obtain ⟨b', hb'⟩ := gp_app _ _ _ _ _ _ (Nat.le_refl _) hv
  have h1 := hb' 59 [32, 125] fr59
  have hkk : us.map keyT = us'.map keyT := by
    rw [List.map_append, List.map_append] at hk
    exact (List.append_inj' hk rfl).1.symm
  rw [gp_all hl, wr_head]
  have h2 : gpT false 16 (s ++ wrZ) = preT us' (gpT b' (16 + s.length) [59, 32, 125]) := h1
  rw [h2, preT_add]
  cases b' with
  | false => exact ⟨us', [⟨5, [59], 0, 16 + s.length⟩, ⟨5, [125], 0, 16 + s.length + 2⟩, endT (16 + s.length + 3)], by rw [← List.append_assoc]; rfl, hkk, .inr rfl⟩
  | true => exact ⟨us', [endT (16 + s.length + 3)], by rw [← List.append_assoc]; rfl, hkk, .inl rfl⟩

/-- the tree of a function that returns an expression -/
def wrN (ns : List Nd) : Nd := nd0 1 [] [⟨2, [102], 0, 0, [], false, [nd0 4 [] [nd0 9 [] ns 9] 7], 0⟩] 0

theorem PJ10 (f x : Nat) (acc : List Nd) (l : List Tk) (d : Nat) : PJ (f + 1) 10 x acc l d = jBlock (PJ f) l d := rfl
theorem PJ11 (f x : Nat) (acc : List Nd) (l : List Tk) (d : Nat) : PJ (f + 1) 11 x acc l d = jBlL (PJ f) acc l d := rfl
theorem PJ13 (f x : Nat) (acc : List Nd) (l : List Tk) (d : Nat) : PJ (f + 1) 13 x acc l d = jFun (PJ f) l d := rfl
theorem PJ14 (f x : Nat) (acc : List Nd) (l : List Tk) (d : Nat) : PJ (f + 1) 14 x acc l d = jPrL (PJ f) acc l d := rfl
theorem jFun_wr (r : Jb) (l : List Tk) : jFun r (wrH ++ l) 0 = bnd (r 6 0 [] (⟨5, [41], 0, 5⟩ :: ⟨5, [123], 0, 7⟩ :: ⟨2, [114, 101, 116, 117, 114, 110], 0, 9⟩ :: l) 0) (fun ps l5 => thn (pSg [41] l5) (fun _ l6 => bnd (r 10 0 [] l6 0) (fun bl l7 => okN [⟨2, [102], 0, 0, [], false, ps ++ bl, 0⟩] l7))) := rfl
theorem PJ6_wr (f : Nat) (l : List Tk) : PJ (f + 1) 6 0 [] (⟨5, [41], 0, 5⟩ :: l) 0 = okN [] (⟨5, [41], 0, 5⟩ :: l) := rfl
theorem jFun2_wr (f : Nat) (l : List Tk) : jFun (PJ (f + 1)) (wrH ++ l) 0 = bnd (PJ (f + 1) 10 0 [] (⟨5, [123], 0, 7⟩ :: ⟨2, [114, 101, 116, 117, 114, 110], 0, 9⟩ :: l) 0) (fun bl l7 => okN [⟨2, [102], 0, 0, [], false, [] ++ bl, 0⟩] l7) := by
  rw [jFun_wr, PJ6_wr]
  rfl
theorem jPrL_wr (r : Jb) (l : List Tk) : jPrL r [] (wrH ++ l) 0 = bnd (r 13 0 [] (wrH ++ l) 0) (fun ns l1 => r 14 0 ([] ++ ns) l1 0) := rfl
theorem jBlock_wr (r : Jb) (l : List Tk) : jBlock r (⟨5, [123], 0, 7⟩ :: l) 0 = bnd (r 11 0 [] l 1) (fun ks l2 => thn (pSg [125] l2) (fun _ l3 => okN [nd0 4 [] ks 7] l3)) := rfl
theorem wr_read {F : Nat} {l z' : List Tk} {q q2 q3 : Nat} {ns : List Nd} (hz : z' = [⟨5, [59], 0, q⟩, ⟨5, [125], 0, q2⟩, endT q3]) (hn : isS [59] l = false) (h : PJ F 0 0 [] l 1 = some (.ok (ns, z'))) :
    PJ (F + 1 + 1 + 1 + 1 + 1 + 1 + 1) 27 0 [] (wrH ++ l) 0 = some (.ok ([wrN ns], [endT q3])) := by
  subst hz
  have h18 : PJ (F + 1) 18 0 [] (⟨2, [114, 101, 116, 117, 114, 110], 0, 9⟩ :: l) 1 = some (.ok ([nd0 9 [] ns 9], [⟨5, [125], 0, q2⟩, endT q3])) := by
    show jGive (PJ F) _ 1 = _
    unfold jGive
    rw [List.tail_cons, if_neg (by rw [hn]; simp), h]
    rfl
  have h9 : PJ (F + 1 + 1) 9 0 [] (⟨2, [114, 101, 116, 117, 114, 110], 0, 9⟩ :: l) 1 = some (.ok ([nd0 9 [] ns 9], [⟨5, [125], 0, q2⟩, endT q3])) := h18
  have h11 : PJ (F + 1 + 1 + 1) 11 0 [] (⟨2, [114, 101, 116, 117, 114, 110], 0, 9⟩ :: l) 1 = some (.ok ([nd0 9 [] ns 9], [⟨5, [125], 0, q2⟩, endT q3])) := by
    rw [PJ11]
    unfold jBlL
    rw [if_neg (by intro e; cases e), h9]
    rfl
  have h10 : PJ (F + 1 + 1 + 1 + 1) 10 0 [] (⟨5, [123], 0, 7⟩ :: ⟨2, [114, 101, 116, 117, 114, 110], 0, 9⟩ :: l) 0 = some (.ok ([nd0 4 [] [nd0 9 [] ns 9] 7], [endT q3])) := by
    rw [PJ10, jBlock_wr, h11]
    rfl
  have h13 : PJ (F + 1 + 1 + 1 + 1 + 1) 13 0 [] (wrH ++ l) 0 = some (.ok ([⟨2, [102], 0, 0, [], false, [nd0 4 [] [nd0 9 [] ns 9] 7], 0⟩], [endT q3])) := by
    rw [PJ13, jFun2_wr, h10]
    rfl
  have h14 : PJ (F + 1 + 1 + 1 + 1 + 1 + 1) 14 0 [] (wrH ++ l) 0 = some (.ok ([⟨2, [102], 0, 0, [], false, [nd0 4 [] [nd0 9 [] ns 9] 7], 0⟩], [endT q3])) := by
    rw [PJ14, jPrL_wr, h13]
    rfl
  show bnd (PJ (F + 1 + 1 + 1 + 1 + 1 + 1) 14 0 [] (wrH ++ l) 0) _ = _
  rw [h14]
  rfl

theorem wr_no {F : Nat} {l : List Tk} {c p : Nat} (hn : isS [59] l = false) (h : PJ F 0 0 [] l 1 = some (.error (c, p))) : PJ (F + 1 + 1 + 1 + 1 + 1 + 1 + 1) 27 0 [] (wrH ++ l) 0 = some (.error (c, p)) := by
  have h18 : PJ (F + 1) 18 0 [] (⟨2, [114, 101, 116, 117, 114, 110], 0, 9⟩ :: l) 1 = some (.error (c, p)) := by
    show jGive (PJ F) _ 1 = _
    unfold jGive
    rw [List.tail_cons, if_neg (by rw [hn]; simp), h]
    rfl
  have h9 : PJ (F + 1 + 1) 9 0 [] (⟨2, [114, 101, 116, 117, 114, 110], 0, 9⟩ :: l) 1 = some (.error (c, p)) := h18
  have h11 : PJ (F + 1 + 1 + 1) 11 0 [] (⟨2, [114, 101, 116, 117, 114, 110], 0, 9⟩ :: l) 1 = some (.error (c, p)) := by
    rw [PJ11]
    unfold jBlL
    rw [if_neg (by intro e; cases e), h9]
    rfl
  have h10 : PJ (F + 1 + 1 + 1 + 1) 10 0 [] (⟨5, [123], 0, 7⟩ :: ⟨2, [114, 101, 116, 117, 114, 110], 0, 9⟩ :: l) 0 = some (.error (c, p)) := by
    rw [PJ10, jBlock_wr, h11]
    rfl
  have h13 : PJ (F + 1 + 1 + 1 + 1 + 1) 13 0 [] (wrH ++ l) 0 = some (.error (c, p)) := by
    rw [PJ13, jFun2_wr, h10]
    rfl
  have h14 : PJ (F + 1 + 1 + 1 + 1 + 1 + 1) 14 0 [] (wrH ++ l) 0 = some (.error (c, p)) := by
    rw [PJ14, jPrL_wr, h13]
    rfl
  show bnd (PJ (F + 1 + 1 + 1 + 1 + 1 + 1) 14 0 [] (wrH ++ l) 0) _ = _
  rw [h14]
  rfl
theorem wr_end {F : Nat} {l : List Tk} {q : Nat} {ns : List Nd} (hn : isS [59] l = false) (h : PJ F 0 0 [] l 1 = some (.ok (ns, [endT q]))) : PJ (F + 1 + 1 + 1 + 1 + 1 + 1 + 1) 27 0 [] (wrH ++ l) 0 = some (.error (170, q)) := by
  have h18 : PJ (F + 1) 18 0 [] (⟨2, [114, 101, 116, 117, 114, 110], 0, 9⟩ :: l) 1 = some (.error (170, q)) := by
    show jGive (PJ F) _ 1 = _
    unfold jGive
    rw [List.tail_cons, if_neg (by rw [hn]; simp), h]
    rfl
  have h9 : PJ (F + 1 + 1) 9 0 [] (⟨2, [114, 101, 116, 117, 114, 110], 0, 9⟩ :: l) 1 = some (.error (170, q)) := h18
  have h11 : PJ (F + 1 + 1 + 1) 11 0 [] (⟨2, [114, 101, 116, 117, 114, 110], 0, 9⟩ :: l) 1 = some (.error (170, q)) := by
    rw [PJ11]
    unfold jBlL
    rw [if_neg (by intro e; cases e), h9]
    rfl
  have h10 : PJ (F + 1 + 1 + 1 + 1) 10 0 [] (⟨5, [123], 0, 7⟩ :: ⟨2, [114, 101, 116, 117, 114, 110], 0, 9⟩ :: l) 0 = some (.error (170, q)) := by
    rw [PJ10, jBlock_wr, h11]
    rfl
  have h13 : PJ (F + 1 + 1 + 1 + 1 + 1) 13 0 [] (wrH ++ l) 0 = some (.error (170, q)) := by
    rw [PJ13, jFun2_wr, h10]
    rfl
  have h14 : PJ (F + 1 + 1 + 1 + 1 + 1 + 1) 14 0 [] (wrH ++ l) 0 = some (.error (170, q)) := by
    rw [PJ14, jPrL_wr, h13]
    rfl
  show bnd (PJ (F + 1 + 1 + 1 + 1 + 1 + 1) 14 0 [] (wrH ++ l) 0) _ = _
  rw [h14]
  rfl

/-- within a function: the same tree, or an error -/
theorem wr_both {s : List UInt8} {ts : List Tk} {F : Nat} {ns : List Nd} {l1 : List Tk} (ha : allT s = .ok ts) (h : PJ F 0 0 [] ts 0 = some (.ok (ns, l1))) (h0 : (hdT l1).k = 0) (hl : (wrA ++ (s ++ wrZ)).length ≤ 8192) :
    ∃ ts', allT (wrA ++ (s ++ wrZ)) = .ok ts' ∧ ((∃ c p, PJ (F + 1 + 1 + 1 + 1 + 1 + 1 + 1) 27 0 [] ts' 0 = some (.error (c, p)) ∧ ¬ c = 0) ∨ ∃ ns' q, PJ (F + 1 + 1 + 1 + 1 + 1 + 1 + 1) 27 0 [] ts' 0 = some (.ok ([wrN ns'], [endT q])) ∧ npL ns = npL ns') := by
  obtain ⟨us, hus⟩ := (all_ok ha).1
  have hk1 : ∀ t ∈ us, 1 ≤ t.k := by
    rw [all_split (all_small ha)] at ha
    have : ∀ (f p : Nat) (l : List UInt8) (ts : List Tk), lpT f p l = .ok ts → ∀ us e, ts = us ++ [endT e] → ∀ t ∈ us, 1 ≤ t.k := by
      intro f
      induction f with
      | zero => intro p l ts h; simp [lpT] at h
      | succ f ih =>
        intro p l ts h us e he t ht
        cases l with
        | nil =>
          simp only [lpT, Except.ok.injEq] at h
          subst h
          have := congrArg List.length he
          simp at this
          subst this
          cases ht
        | cons c r =>
          obtain ⟨t0, n, vs, g1, g2, rfl⟩ := lp_ok h
          cases us with
          | nil => cases ht
          | cons u us =>
            simp only [List.cons_append, List.cons.injEq] at he
            rcases List.mem_cons.1 ht with rfl | ht
            · rw [← he.1]
              exact (fst_zero g1).2
            · exact ih _ _ _ g2 us e he.2 t ht
    exact this _ _ _ _ ha us _ hus
  subst hus
  obtain ⟨us', z', hw, hkk, hz⟩ := wr_all ha hl
  refine ⟨_, hw, ?_⟩
  have hzn : z' ≠ [] := by rcases hz with rfl | rfl <;> simp
  have hzk : ((hdT z').k = 0 ∧ (hdT z').t = [] ∧ (hdT z').n = 0) ∨ ((hdT z').k = 5 ∧ (hdT z').t = [59]) := by
    rcases hz with rfl | rfl
    · exact .inl ⟨rfl, rfl, rfl⟩
    · exact .inr ⟨rfl, rfl⟩
  have hns : isS [59] (us' ++ z') = false := by
    cases us with
    | nil => exact absurd h (no_expr F 0 0 _ 0 _ rfl (.inl rfl))
    | cons u us =>
      cases us' with
      | nil => cases hkk
      | cons u' us' =>
        have hk2 := key_hd (l := u :: us) (l' := u' :: us') hkk
        cases hx : isS [59] (u' :: us' ++ z') with
        | false => rfl
        | true =>
          exfalso
          rw [isS_def] at hx
          have hx := of_decide_eq_true hx
          refine no_expr F 0 0 _ 0 _ rfl (.inr ?_) h
          rw [isS_def]
          have e1 : u.k = u'.k := hk2.1
          have e2 : u.t = u'.t := hk2.2.1
          exact decide_eq_true ⟨e1.trans hx.1, e2.trans hx.2⟩
  rcases within_fn (d' := 1) hzn hzk hkk hk1 (Nat.zero_le _) h h0 with ⟨ns', h2, hnp⟩ | ⟨q, h2⟩
  · rcases hz with rfl | hz
    · exact .inl ⟨170, _, wr_end hns h2, by decide⟩
    · exact .inr ⟨ns', _, wr_read hz hns h2, hnp⟩
  · exact .inl ⟨171, q, wr_no hns h2, by decide⟩
end Go.Proofs.YtgalfhlclmkbfaaGreatDoor

namespace Go.Proofs.YtgalfhlclmkbfaaGreatDoor
set_option linter.unusedVariables false
set_option linter.unusedSimpArgs false

def Gd (o : Option (Rs (List Nd))) : Prop := ∀ c p, o = some (.error (c, p)) → ¬ c = 0
def Gy (y : Rs Tk) : Prop := ∀ c p, y = .error (c, p) → ¬ c = 0
theorem gd_none : Gd none := fun c p h => by cases h
theorem gd_ok (n : List Nd) (l : List Tk) : Gd (okN n l) := fun c p h => by cases h
theorem gd_err (p : Nat) : Gd (some (.error (170, p))) := fun c q h => by cases h; decide
theorem gd_thn {y : Rs Tk} {k : Tk → List Tk → Option (Rs (List Nd))} (h : Gy y) (hk : ∀ a l, Gd (k a l)) : Gd (thn y k) := by
  cases y with
  | error e => intro c p he; cases he; exact h _ _ rfl
  | ok x => exact hk x.1 x.2
theorem gd_bnd {o : Option (Rs (List Nd))} {k : List Nd → List Tk → Option (Rs (List Nd))} (h : Gd o) (hk : ∀ a l, Gd (k a l)) : Gd (bnd o k) := by
  cases o with
  | none => exact gd_none
  | some y =>
    cases y with
    | error e => intro c p he; cases he; exact h _ _ rfl
    | ok x => exact hk x.1 x.2
theorem gd_ite {p : Prop} [Decidable p] {a b : Option (Rs (List Nd))} (h1 : Gd a) (h2 : Gd b) : Gd (if p then a else b) := by split <;> assumption
theorem gy_sg (s : List UInt8) (l : List Tk) : Gy (pSg s l) := by
  intro c p h
  unfold pSg at h
  split at h
  · cases h
  · cases h; decide
theorem gy_ky (s : List UInt8) (l : List Tk) : Gy (pKy s l) := by
  intro c p h
  unfold pKy at h
  split at h
  · cases h
  · cases h; decide
theorem gy_nm (l : List Tk) : Gy (pNm l) := by
  intro c p h
  unfold pNm at h
  split at h
  · cases h
  · cases h; decide
theorem gy_ent (s : List UInt8) (d : Nat) (l : List Tk) : Gy (ent s d l) := by
  intro c p h
  unfold ent at h
  split at h
  · split at h
    · cases h; decide
    · cases h
  · cases h; decide
theorem gd_step {r : Jb} (ih : ∀ j x acc l d, Gd (r j x acc l d)) (j x : Nat) (acc : List Nd) (l : List Tk) (d : Nat) : Gd (stepJ r j x acc l d) := by
  unfold stepJ
  split
  all_goals
    try simp only [jUnary, jBinary, jBinL, jReached, jReL, litN, jOperand, jName, jWithin, jPart, jParts, jPaL, jParam, jPair, jGroup, jStat, jLet, jSet, jGuard, jChoice, jLoop, jGive, jWord, jDo, jBlock, jBlL, jFn, jFun, jPrL]
    repeat' (first | exact ih _ _ _ _ _ | exact gd_ok _ _ | exact gd_none | exact gd_err _ | refine gd_ite ?_ ?_ | refine gd_thn (gy_sg _ _) (fun _ _ => ?_) | refine gd_thn (gy_ky _ _) (fun _ _ => ?_) | refine gd_thn (gy_nm _) (fun _ _ => ?_) | refine gd_thn (gy_ent _ _ _) (fun _ _ => ?_) | refine gd_bnd ?_ (fun _ _ => ?_))
theorem PJ_err : ∀ (f j x : Nat) (acc : List Nd) (l : List Tk) (d : Nat), Gd (PJ f j x acc l d)
  | 0, _, _, _, _, _ => gd_none
  | f + 1, j, x, acc, l, d => gd_step (PJ_err f) j x acc l d
end Go.Proofs.YtgalfhlclmkbfaaGreatDoor
