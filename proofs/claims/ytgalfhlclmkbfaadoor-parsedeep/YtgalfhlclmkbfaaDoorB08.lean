/-
  Layer 17 (parse): what opens so many brackets, signs or blocks: its tokens, and what is read of them; plain lists, no conditions.
  A fact put out of the walk's sight, and taken out again; no conditions.
-/
import Derived.Test.YtgalfhlclmkbfaaDoorB06
import Derived.Test.YtgalfhlclmkbfaaDoorB07
import Derived.WalkKit
set_option linter.unusedVariables false
set_option linter.unusedSimpArgs false
namespace Go.Proofs.YtgalfhlclmkbfaaDoor
set_option linter.unusedVariables false
set_option linter.unusedSimpArgs false

/-- a sign of one byte that begins no other -/
def sg1 (c : UInt8) : Bool := sgB [c] && sgL.all (fun g => !(g.head? == some c && g.length == 2)) && !lxLet c && !lxDig c && !(c.toNat == 34) && !lxB c && !(c.toNat == 47)

theorem gp_sg1 {c : UInt8} (h : sg1 c = true) (p : Nat) (Y : List UInt8) : gpT false p (c :: Y) = preT [⟨5, [c], 0, p⟩] (gpT false (p + 1) Y) := by
  unfold sg1 at h
  simp only [Bool.and_eq_true, Bool.not_eq_true', beq_eq_false_iff_ne, ne_eq] at h
  obtain ⟨⟨⟨⟨⟨⟨h1, h2⟩, h3⟩, h4⟩, h5⟩, h6⟩, h7⟩ := h
  have hb : blk false (c :: Y) = 0 := by rw [blk_fc, if_neg (by rw [h6]; simp), if_neg (fun e => h7 e.1)]
  have hs : sgN (c :: Y) = 1 := by
    unfold sgN
    rw [if_neg, if_pos (by rw [List.take_succ_cons, List.take_zero]; exact h1)]
    rintro ⟨e1, e2⟩
    cases Y with
    | nil => simp at e1
    | cons d Z =>
      have hm : [c, d] ∈ sgL := by
        unfold sgB at e2
        simpa using e2
      have := List.all_eq_true.1 h2 _ hm
      simp at this
  have hf : fstT ((c :: Y).drop (blk false (c :: Y))) = .ok (⟨5, [c], 0, 0⟩, 1) := by
    rw [hb, List.drop_zero, fst_cons, if_neg (by rw [h3]; simp), if_neg (by rw [h4]; simp), if_neg h5]
    unfold sgnT
    rw [hs]
    rfl
  rw [gp_tok hf, hb]
  rfl

/-- a word, behind it what goes on with none -/
theorem gp_wd {w : List UInt8} {t : Tk} (hw : w.all lxW = true) (h0 : ∃ c r, w = c :: r ∧ lxLet c = true) (ht : wrdT w = .ok (t, w.length)) (p : Nat) {d : UInt8} (hd : lxW d = false) (Y : List UInt8) : gpT false p (w ++ d :: Y) = preT [t.at p] (gpT false (p + w.length) (d :: Y)) := by
  obtain ⟨c, r, rfl, hc⟩ := h0
  have hcw : lxW c = true := by unfold lxW; rw [hc]; rfl
  have hb : blk false (c :: r ++ d :: Y) = 0 := let_plain hcw _
  have hf : fstT ((c :: r ++ d :: Y).drop (blk false (c :: r ++ d :: Y))) = .ok (t, (c :: r).length) := by
    rw [hb, List.drop_zero]
    have htw := tw_app lxW (c :: r) Y d hw hd
    rw [List.cons_append] at htw ⊢
    rw [fst_cons, if_pos hc, htw]
    exact ht
  rw [gp_tok hf, hb, List.drop_zero, Nat.add_zero, List.drop_left]

theorem gp_one (p : Nat) {Y : List UInt8} (hY : Y.head?.all (fun d => !lxW d) = true) : gpT false p (49 :: Y) = preT [⟨3, [], 1, p⟩] (gpT false (p + 1) Y) := by
  have htw : (49 :: Y).takeWhile lxW = [49] := by
    cases Y with
    | nil => rfl
    | cons d Z =>
      have hd : lxW d = false := by simpa using hY
      exact tw_app lxW [49] Z d (by decide +kernel) hd
  have hb : blk false (49 :: Y) = 0 := let_plain (by decide +kernel) _
  have hf : fstT ((49 :: Y).drop (blk false (49 :: Y))) = .ok (⟨3, [], 1, 0⟩, 1) := by
    rw [hb, List.drop_zero, fst_cons, if_neg (by decide +kernel), if_pos (by decide +kernel), htw]
    rfl
  rw [gp_tok hf, hb]
  rfl

def rpB (o : List UInt8) : Nat → List UInt8
  | 0 => []
  | n + 1 => o ++ rpB o n
theorem rpB_snoc (o : List UInt8) : ∀ n, rpB o (n + 1) = rpB o n ++ o
  | 0 => by simp [rpB]
  | n + 1 => by
    show o ++ rpB o (n + 1) = (o ++ rpB o n) ++ o
    rw [rpB_snoc o n, List.append_assoc]
theorem rpB_len (o : List UInt8) : ∀ n, (rpB o n).length = n * o.length
  | 0 => by simp [rpB]
  | n + 1 => by rw [rpB, List.length_append, rpB_len o n, Nat.succ_mul]; omega
/-- tokens of a text, so many times -/
def rpT (o : Nat → List Tk) (m : Nat) : Nat → Nat → List Tk
  | 0, _ => []
  | n + 1, p => o p ++ rpT o m n (p + m)
theorem rpT_add (o : Nat → List Tk) (m : Nat) : ∀ (a b p : Nat), rpT o m (a + b) p = rpT o m a p ++ rpT o m b (p + a * m)
  | 0, b, p => by simp [rpT]
  | a + 1, b, p => by
    rw [Nat.succ_add, rpT, rpT, rpT_add o m a b (p + m), List.append_assoc]
    congr 3
    rw [Nat.succ_mul]
    omega
theorem gp_rep {o : List UInt8} {oT : Nat → List Tk} (h : ∀ p Y, gpT false p (o ++ Y) = preT (oT p) (gpT false (p + o.length) Y)) : ∀ (n p : Nat) (Y : List UInt8), gpT false p (rpB o n ++ Y) = preT (rpT oT o.length n p) (gpT false (p + n * o.length) Y)
  | 0, p, Y => by simp [rpB, rpT, preT_nil]
  | n + 1, p, Y => by
    rw [rpB, List.append_assoc, h, gp_rep h n, preT_add, rpT]
    congr 2
    rw [Nat.succ_mul]
    omega

def opB (k : Nat) : List UInt8 := if k = 1 then [91] else if k = 2 then [123, 97, 58] else if k = 3 then [45] else if k = 4 then [102, 40] else if k = 5 then [97, 91] else if k = 6 then [119, 104, 105, 108, 101, 40, 97, 41, 123] else [40]
def clB (k : Nat) : List UInt8 := if k = 1 then [93] else if k = 2 then [125] else if k = 3 then [] else if k = 5 then [93] else if k = 6 then [125] else [41]
def sgK (c : UInt8) (p : Nat) : Tk := ⟨5, [c], 0, p⟩
def opK (k p : Nat) : List Tk := if k = 1 then [sgK 91 p] else if k = 2 then [sgK 123 p, ⟨1, [97], 0, p + 1⟩, sgK 58 (p + 2)] else if k = 3 then [sgK 45 p] else if k = 4 then [⟨1, [102], 0, p⟩, sgK 40 (p + 1)] else if k = 5 then [⟨1, [97], 0, p⟩, sgK 91 (p + 1)] else if k = 6 then [⟨2, [119, 104, 105, 108, 101], 0, p⟩, sgK 40 (p + 5), ⟨1, [97], 0, p + 6⟩, sgK 41 (p + 7), sgK 123 (p + 8)] else [sgK 40 p]
def clK (k p : Nat) : List Tk := if k = 1 then [sgK 93 p] else if k = 2 then [sgK 125 p] else if k = 3 then [] else if k = 5 then [sgK 93 p] else if k = 6 then [sgK 125 p] else [sgK 41 p]

theorem wd_a : wrdT [97] = .ok (⟨1, [97], 0, 0⟩, 1) := by kernel_rfl
theorem wd_f : wrdT [102] = .ok (⟨1, [102], 0, 0⟩, 1) := by kernel_rfl
theorem wd_w : wrdT [119, 104, 105, 108, 101] = .ok (⟨2, [119, 104, 105, 108, 101], 0, 0⟩, 5) := by kernel_rfl
theorem gp_a (p : Nat) {d : UInt8} (hd : lxW d = false) (Y : List UInt8) : gpT false p (97 :: d :: Y) = preT [⟨1, [97], 0, p⟩] (gpT false (p + 1) (d :: Y)) := gp_wd (w := [97]) (by decide +kernel) ⟨97, [], rfl, by decide +kernel⟩ wd_a p hd Y
theorem gp_f (p : Nat) {d : UInt8} (hd : lxW d = false) (Y : List UInt8) : gpT false p (102 :: d :: Y) = preT [⟨1, [102], 0, p⟩] (gpT false (p + 1) (d :: Y)) := gp_wd (w := [102]) (by decide +kernel) ⟨102, [], rfl, by decide +kernel⟩ wd_f p hd Y
theorem gp_w (p : Nat) {d : UInt8} (hd : lxW d = false) (Y : List UInt8) : gpT false p (119 :: 104 :: 105 :: 108 :: 101 :: d :: Y) = preT [⟨2, [119, 104, 105, 108, 101], 0, p⟩] (gpT false (p + 5) (d :: Y)) := gp_wd (w := [119, 104, 105, 108, 101]) (by decide +kernel) ⟨119, [104, 105, 108, 101], rfl, by decide +kernel⟩ wd_w p hd Y

theorem gp_op (k : Nat) (p : Nat) (Y : List UInt8) : gpT false p (opB k ++ Y) = preT (opK k p) (gpT false (p + (opB k).length) Y) := by
  unfold opB opK sgK
  split
  · exact gp_sg1 (c := 91) (by decide +kernel) p Y
  split
  · show gpT false p (123 :: 97 :: 58 :: Y) = _
    rw [gp_sg1 (by decide +kernel), gp_a _ (by decide +kernel), gp_sg1 (by decide +kernel), preT_add, preT_add]
    rfl
  split
  · exact gp_sg1 (c := 45) (by decide +kernel) p Y
  split
  · show gpT false p (102 :: 40 :: Y) = _
    rw [gp_f _ (by decide +kernel), gp_sg1 (by decide +kernel), preT_add]
    rfl
  split
  · show gpT false p (97 :: 91 :: Y) = _
    rw [gp_a _ (by decide +kernel), gp_sg1 (by decide +kernel), preT_add]
    rfl
  split
  · show gpT false p (119 :: 104 :: 105 :: 108 :: 101 :: 40 :: 97 :: 41 :: 123 :: Y) = _
    rw [gp_w _ (by decide +kernel), gp_sg1 (by decide +kernel), gp_a _ (by decide +kernel), gp_sg1 (by decide +kernel), gp_sg1 (by decide +kernel), preT_add, preT_add, preT_add, preT_add]
    rfl
  · exact gp_sg1 (c := 40) (by decide +kernel) p Y
theorem gp_cl (k : Nat) (p : Nat) (Y : List UInt8) : gpT false p (clB k ++ Y) = preT (clK k p) (gpT false (p + (clB k).length) Y) := by
  unfold clB clK sgK
  split
  · exact gp_sg1 (c := 93) (by decide +kernel) p Y
  split
  · exact gp_sg1 (c := 125) (by decide +kernel) p Y
  split
  · exact (preT_nil _).symm
  split
  · exact gp_sg1 (c := 93) (by decide +kernel) p Y
  split
  · exact gp_sg1 (c := 125) (by decide +kernel) p Y
  · exact gp_sg1 (c := 41) (by decide +kernel) p Y

/-- brackets and signs, so many, about a 1 -/
def dpB (k n : Nat) : List UInt8 := rpB (opB k) n ++ 49 :: rpB (clB k) n
def dpZ (k n : Nat) : List Tk := ⟨3, [], 1, n * (opB k).length⟩ :: (rpT (clK k) (clB k).length n (n * (opB k).length + 1) ++ [endT (n * (opB k).length + 1 + n * (clB k).length)])
theorem op_len (k : Nat) : (opB k).length ≤ 9 := by unfold opB; repeat' split <;> try decide
theorem cl_len (k : Nat) : (clB k).length ≤ 1 := by unfold clB; repeat' split <;> try decide
theorem cl_hd (k n : Nat) : (rpB (clB k) n).head?.all (fun d => !lxW d) = true := by
  cases n with
  | zero => rfl
  | succ n =>
    by_cases h3 : k = 3
    · subst h3
      have : ∀ m, rpB (clB 3) m = [] := fun m => by
        induction m with
        | zero => rfl
        | succ m ih => rw [rpB, ih]; rfl
      rw [this]; rfl
    · unfold rpB clB
      rw [if_neg h3]
      repeat' split
      all_goals kernel_rfl
theorem dp_all (k n : Nat) (hn : n ≤ 200) : allT (dpB k n) = .ok (rpT (opK k) (opB k).length n 0 ++ dpZ k n) := by
  have h1 := op_len k
  have h2 := cl_len k
  have h3 : n * (opB k).length ≤ 200 * 9 := Nat.mul_le_mul hn h1
  have h4 : n * (clB k).length ≤ 200 * 1 := Nat.mul_le_mul hn h2
  have hl : (dpB k n).length ≤ 8192 := by unfold dpB; rw [List.length_append, List.length_cons, rpB_len, rpB_len]; omega
  rw [gp_all hl]
  unfold dpB
  rw [gp_rep (fun p Y => gp_op k p Y), gp_one _ (cl_hd k n), show rpB (clB k) n = rpB (clB k) n ++ [] from (List.append_nil _).symm, gp_rep (fun p Y => gp_cl k p Y), gp_nil, Nat.zero_add]
  rfl

/-- is an expression read, with its end behind it? -/
def rdOk (r : Option (Rs (List Nd))) : Bool := match r with
  | some (.ok (ns, l)) => ns.length == 1 && (hdT l).k == 0
  | _ => false
def rdEr (r : Option (Rs (List Nd))) (p : Nat) : Bool := match r with
  | some (.error (c, q)) => c == 171 && q == p
  | _ => false
def dpP (k : Nat) : Nat := if k = 1 then 24 else if k = 2 then 72 else if k = 3 then 24 else if k = 4 then 49 else if k = 5 then 49 else 24
theorem dp_few : (List.range 6).all (fun k => (List.range 25).all (fun n => rdOk (PJ 3000 0 0 [] (rpT (opK k) (opB k).length n 0 ++ dpZ k n) 0))) = true := by decide +kernel
theorem dp_many : (List.range 6).all (fun k => rdEr (PJ 3000 0 0 [] (rpT (opK k) (opB k).length 25 0 ++ [endT 99999]) 0) (dpP k)) = true := by decide +kernel
theorem rdOk_of {r : Option (Rs (List Nd))} (h : rdOk r = true) : ∃ n l, r = some (.ok ([n], l)) ∧ (hdT l).k = 0 := by
  match r, h with
  | some (.ok (ns, l)), h =>
    simp only [rdOk, Bool.and_eq_true, beq_iff_eq] at h
    obtain ⟨n, rfl⟩ := List.length_eq_one_iff.1 h.1
    exact ⟨n, l, rfl, h.2⟩
theorem rdEr_of {r : Option (Rs (List Nd))} {p : Nat} (h : rdEr r p = true) : r = some (.error (171, p)) := by
  match r, h with
  | some (.error (c, q)), h =>
    simp only [rdEr, Bool.and_eq_true, beq_iff_eq] at h
    rw [h.1, h.2]
theorem all_in {n : Nat} {f : Nat → Bool} (h : (List.range n).all f = true) (k : Nat) (hk : k < n) : f k = true := List.all_eq_true.1 h k (List.mem_range.2 hk)
theorem dp_le (k n : Nat) (hk : k < 6) (hn : n ≤ 24) : ∃ nd l, PJ 3000 0 0 [] (rpT (opK k) (opB k).length n 0 ++ dpZ k n) 0 = some (.ok ([nd], l)) ∧ (hdT l).k = 0 := rdOk_of (all_in (all_in dp_few k hk) n (by omega))
theorem dp_gt (k n : Nat) (hk : k < 6) (hn : 25 ≤ n) : PJ 3000 0 0 [] (rpT (opK k) (opB k).length n 0 ++ dpZ k n) 0 = some (.error (171, dpP k)) := by
  have h1 := rdEr_of (all_in dp_many k hk)
  obtain ⟨m, rfl⟩ : ∃ m, n = 25 + m := ⟨n - 25, by omega⟩
  rw [rpT_add, List.append_assoc]
  refine stops (z := [endT 99999]) rfl (by decide) ⟨[], 99999, rfl⟩ ?_ h1 ?_
  · have : ∀ k < 6, rpT (opK k) (opB k).length 25 0 ≠ [] := by decide +kernel
    exact this k hk
  · intro t ht
    rw [List.mem_singleton] at ht
    subst ht
    show ¬ 99999 = dpP k
    unfold dpP
    repeat' split
    all_goals decide
/-- blocks within each other -/
def blB (n : Nat) : List UInt8 := [102, 110, 32, 102, 40, 41, 123] ++ (rpB (opB 6) n ++ rpB (clB 6) n) ++ [125]
def hdB : List Tk := [⟨2, [102, 110], 0, 0⟩, ⟨1, [102], 0, 3⟩, sgK 40 4, sgK 41 5, sgK 123 6]
def blZ (n : Nat) : List Tk := rpT (clK 6) 1 n (7 + n * 9) ++ [sgK 125 (7 + n * 9 + n), endT (7 + n * 9 + n + 1)]
theorem gp_hd (Y : List UInt8) : gpT false 0 ([102, 110, 32, 102, 40, 41, 123] ++ Y) = preT hdB (gpT false 7 Y) := by
  show gpT false 0 ([102, 110] ++ 32 :: 102 :: 40 :: 41 :: 123 :: Y) = _
  rw [gp_wd (w := [102, 110]) (t := ⟨2, [102, 110], 0, 0⟩) (by decide +kernel) ⟨102, [110], rfl, by decide +kernel⟩ (by kernel_rfl) 0 (by decide +kernel)]
  have h1 : ∀ (p : Nat) (Z : List UInt8), gpT false p (32 :: Z) = gpT false (p + 1) Z := fun p Z => gp_full (b := false) (l := [32]) (by decide +kernel) Z
  rw [h1, gp_f _ (by decide +kernel), gp_sg1 (by decide +kernel), gp_sg1 (by decide +kernel), gp_sg1 (by decide +kernel), preT_add, preT_add, preT_add, preT_add]
  rfl
theorem bl_all (n : Nat) (hn : n ≤ 200) : allT (blB n) = .ok (hdB ++ (rpT (opK 6) 9 n 7 ++ blZ n)) := by
  have e1 : (opB 6).length = 9 := rfl
  have e2 : (clB 6).length = 1 := rfl
  have hl : (blB n).length ≤ 8192 := by
    unfold blB
    rw [List.length_append, List.length_append, List.length_append, rpB_len, rpB_len, e1, e2]
    simp only [List.length_cons, List.length_nil]
    omega
  rw [gp_all hl]
  unfold blB
  rw [List.append_assoc, gp_hd, List.append_assoc, gp_rep (fun p Y => gp_op 6 p Y), gp_rep (fun p Y => gp_cl 6 p Y), gp_sg1 (by decide +kernel), gp_nil, e1, e2, Nat.mul_one]
  unfold blZ preT sgK
  simp only [List.append_assoc, List.cons_append, List.nil_append]
theorem bl_few : (List.range 24).all (fun n => rdOk (PJ 3000 27 0 [] (hdB ++ (rpT (opK 6) 9 n 7 ++ blZ n)) 0)) = true := by decide +kernel
theorem bl_many : rdEr (PJ 3000 27 0 [] (hdB ++ (rpT (opK 6) 9 24 7 ++ [endT 99999])) 0) 222 = true := by decide +kernel
theorem bl_le (n : Nat) (hn : n ≤ 23) : ∃ nd l, PJ 3000 27 0 [] (hdB ++ (rpT (opK 6) 9 n 7 ++ blZ n)) 0 = some (.ok ([nd], l)) ∧ (hdT l).k = 0 := rdOk_of (all_in bl_few n (by omega))
theorem bl_gt (n : Nat) (hn : 24 ≤ n) : PJ 3000 27 0 [] (hdB ++ (rpT (opK 6) 9 n 7 ++ blZ n)) 0 = some (.error (171, 222)) := by
  have h1 := rdEr_of bl_many
  obtain ⟨m, rfl⟩ : ∃ m, n = 24 + m := ⟨n - 24, by omega⟩
  rw [rpT_add, List.append_assoc, ← List.append_assoc]
  rw [← List.append_assoc] at h1
  refine stops (z := [endT 99999]) rfl (by decide) ⟨[], 99999, rfl⟩ (by simp [hdB]) h1 ?_
  intro t ht
  rw [List.mem_singleton] at ht
  subst ht
  show ¬ 99999 = 222
  decide
end Go.Proofs.YtgalfhlclmkbfaaDoor

namespace Go.Proofs.YtgalfhlclmkbfaaDoor
open Go.RowKit
theorem hide {p : Prop} (h : p) : Hid p := h
theorem unhide {p : Prop} (h : Hid p) : p := h
end Go.Proofs.YtgalfhlclmkbfaaDoor
