/-
  The walks of the document's Right, Weight, deep, Depth; no conditions but the form's own reach.
  The order of values, as numbers and lists; the walks of cmp.Compare at int, int64, string and of the document's texts; no conditions.
-/
import Derived.Test.YtgkmdjmigehmeaaGreatDoorJ10
import Derived.Test.YtgkmdjmigehmeaaGreatDoorJ07
import Derived.BigQuiet
import Derived.WalkSmall
set_option linter.unusedVariables false
set_option linter.unusedSimpArgs false
namespace Go.Proofs.YtgkmdjmigehmeaaGreatDoor
open Go.RowKit

theorem weighR_any : ∀ b, WeighAt b
  | 0 => weigh_zero
  | b + 1 => weigh_step b (weighR_any b)

theorem wgh_right (v : Vl) : (wgh 8 v 0 ≤ 2048 ↔ rightB v = true) ∧ (rightB v = true → wgh 8 v 0 = wt v) ∧ (rightB v = false → wgh 8 v 0 = 2049) := by
  have h0 : rightB v = (okB 8 v && decide (0 + wt v ≤ 2048)) := by unfold rightB; rw [Nat.zero_add]
  have h1 : rightB v = true → wgh 8 v 0 = wt v := by
    intro h
    rw [h0] at h
    unfold wgh
    rw [if_pos h, Nat.zero_add]
  have h2 : rightB v = false → wgh 8 v 0 = 2049 := by
    intro h
    rw [h0] at h
    unfold wgh
    rw [if_neg (by rw [h]; simp)]
  refine ⟨⟨fun h => ?_, fun h => ?_⟩, h1, h2⟩
  · cases hr : rightB v with
    | true => rfl
    | false => rw [h2 hr] at h; omega
  · rw [h1 h]
    unfold rightB at h
    rw [Bool.and_eq_true, decide_eq_true_eq] at h
    exact h.2

set_option maxRecDepth 100000 in
set_option maxHeartbeats 400000 in
theorem right_ref (v : Vl) (x : Value) (B : Nat) (w : World) (hv : IsV w B v x) (hBs : B ≤ w.heap.size) :
    Calls Tryz.prog 26 #[x] w fun e w' => e = .returned (.bool (rightB v)) ∧ Below w.heap.size w w' := by
  obtain ⟨k', n', s', l', ks', al', ak', cl', ck', hy', hx⟩ := hv.shape
  obtain ⟨ll, hll⟩ : ∃ ll, l'.length = ll := ⟨_, rfl⟩
  obtain ⟨m, hm⟩ : ∃ m, ks'.length = m := ⟨_, rfl⟩
  rw [hll, hm] at hx
  subst hx
  obtain ⟨w1, hw1⟩ : ∃ w1, w.alloc (.cells #[.int .i64 k', .int .i64 n', .string s', .slice al' ll cl', .slice ak' m ck'] 25) = w1 := ⟨_, rfl⟩
  have BX := Box.mk' w (.int .i64 k') (.int .i64 n') (.string s') (.slice al' ll cl') (.slice ak' m ck')
  rw [hw1] at BX
  obtain ⟨c0, c1, c2, c3, c4⟩ := row_cell BX.row
  have z1 := BX.size
  have HB := hide BX.below
  have CW := hide (weighR_any 8 v _ 0 0 B w1 (by omega) (hv.mono (BX.below.mono hBs)) (by omega) (by omega))
  have HR : Hid (decide ((wgh 8 v 0 : Int) ≤ 2048) = rightB v) := hide (by
    cases hr : rightB v with
    | true => exact decide_eq_true (by have := (wgh_right v).1.2 hr; omega)
    | false => exact decide_eq_false (by rw [(wgh_right v).2.2 hr]; omega))
  obtain ⟨W, hW⟩ : ∃ W, wgh 8 v 0 = W := ⟨_, rfl⟩
  rw [hW] at CW HR
  clear BX hv hy' hW
  go_enter Tryz.func26, Tryz.ntmps26
  go_wp2_with fail
  refine (unhide CW).mono ?_
  rintro e w2 ⟨rfl, b2⟩
  have B2 := hide b2
  clear b2 CW
  go_wp2_with fail
  go_ret
  exact ⟨by rw [← unhide HR]; rfl, (unhide HB).trans ((unhide B2).mono (by omega))⟩

end Go.Proofs.YtgkmdjmigehmeaaGreatDoor

namespace Go.Proofs.YtgkmdjmigehmeaaGreatDoor
open Go.RowKit

def cmpI (a b : Int) : Int := if a < b then -1 else if b < a then 1 else 0
def cmpS (a b : ByteArray) : Int := if Op.bytesLess a.toList b.toList = true then -1 else if Op.bytesLess b.toList a.toList = true then 1 else 0

/-- the order of two heads, what stands within settled -/
def ordN (k n : Int) (s : ByteArray) (k' n' : Int) (s' : ByteArray) (c : Int) : Int :=
  if cmpI k k' ≠ 0 then cmpI k k' else if cmpI n n' ≠ 0 then cmpI n n' else if cmpS s s' ≠ 0 then cmpS s s' else c

def ordL : Bool → List Vl → List ByteArray → List Vl → List ByteArray → Int
  | _, [], _, [], _ => 0
  | _, [], _, _ :: _, _ => -1
  | _, _ :: _, _, [], _ => 1
  | r, .mk k n s l q :: xs, ks, .mk k' n' s' l' q' :: ys, ks' =>
    if r = true ∧ cmpS (ks.headD ⟨#[]⟩) (ks'.headD ⟨#[]⟩) ≠ 0 then cmpS (ks.headD ⟨#[]⟩) (ks'.headD ⟨#[]⟩) else if ordN k n s k' n' s' (ordL (decide (k = 5)) l q l' q') ≠ 0 then ordN k n s k' n' s' (ordL (decide (k = 5)) l q l' q') else ordL r xs ks.tail ys ks'.tail
def ord : Vl → Vl → Int
  | .mk k n s l ks, .mk k' n' s' l' ks' =>
    if cmpI k k' ≠ 0 then cmpI k k' else if cmpI n n' ≠ 0 then cmpI n n' else if cmpS s s' ≠ 0 then cmpS s s' else ordL (decide (k = 5)) l ks l' ks'
theorem ordL_cons (r : Bool) (x : Vl) (xs : List Vl) (ks : List ByteArray) (y : Vl) (ys : List Vl) (ks' : List ByteArray) : ordL r (x :: xs) ks (y :: ys) ks' =
    if r = true ∧ cmpS (ks.headD ⟨#[]⟩) (ks'.headD ⟨#[]⟩) ≠ 0 then cmpS (ks.headD ⟨#[]⟩) (ks'.headD ⟨#[]⟩) else if ord x y ≠ 0 then ord x y else ordL r xs ks.tail ys ks'.tail := by
  cases x
  cases y
  rw [ordL]
  rfl

theorem cmpI_self (a : Int) : cmpI a a = 0 := by simp [cmpI]
theorem bl_irr : ∀ (a : List UInt8), Op.bytesLess a a = false
  | [] => rfl
  | x :: r => by
    simp only [Op.bytesLess, bl_irr r, Bool.and_false, Bool.or_false]
    exact decide_eq_false (fun e => by have := UInt8.lt_iff_toNat_lt.1 e; omega)
theorem cmpS_self (a : ByteArray) : cmpS a a = 0 := by simp [cmpS, bl_irr]

theorem ordL_self : ∀ (r : Bool) (l : List Vl) (ks : List ByteArray), ordL r l ks l ks = 0
  | _, [], _ => by simp [ordL]
  | r, .mk k n s l q :: xs, ks => by
    have h1 := ordL_self (decide (k = 5)) l q
    have h2 := ordL_self r xs ks.tail
    rw [ordL_cons, cmpS_self]
    simp only [ord, cmpI_self, cmpS_self, h1, h2]
    simp
theorem ord_self (v : Vl) : ord v v = 0 := by
  cases v with
  | mk k n s l ks =>
    simp only [ord, cmpI_self, cmpS_self, ordL_self]
    simp

theorem cmpS_zero (a b : ByteArray) : (cmpS a b = 0) ↔ a.toList = b.toList := by
  have h := bl_not a.toList b.toList
  unfold cmpS
  constructor
  · intro hc
    cases h1 : Op.bytesLess a.toList b.toList with
    | true => simp [h1] at hc
    | false =>
      cases h2 : Op.bytesLess b.toList a.toList with
      | true => simp [h1, h2] at hc
      | false =>
        rw [h1, h2] at h
        simp at h
        exact h.symm
  · intro e
    rw [e]
    simp [bl_irr]

/-- one element more -/
theorem ordL_step (r : Bool) (l l' : List Vl) (ks ks' : List ByteArray) (i : Nat) (x y : Vl) (hx : l[i]? = some x) (hy : l'[i]? = some y) :
    ordL r (l.drop i) (ks.drop i) (l'.drop i) (ks'.drop i) = if r = true ∧ cmpS (ks.getD i ⟨#[]⟩) (ks'.getD i ⟨#[]⟩) ≠ 0 then cmpS (ks.getD i ⟨#[]⟩) (ks'.getD i ⟨#[]⟩) else if ord x y ≠ 0 then ord x y else ordL r (l.drop (i + 1)) (ks.drop (i + 1)) (l'.drop (i + 1)) (ks'.drop (i + 1)) := by
  obtain ⟨h1, rfl⟩ := List.getElem?_eq_some_iff.1 hx
  obtain ⟨h2, rfl⟩ := List.getElem?_eq_some_iff.1 hy
  rw [List.drop_eq_getElem_cons h1, List.drop_eq_getElem_cons h2]
  have e1 : ∀ (k : List ByteArray), (k.drop i).headD ⟨#[]⟩ = k.getD i ⟨#[]⟩ := fun k => by
    rw [List.getD_eq_getElem?_getD, List.headD_eq_head?_getD, List.head?_drop]
  have e2 : ∀ (k : List ByteArray), (k.drop i).tail = k.drop (i + 1) := fun k => by rw [List.tail_drop]
  rw [ordL_cons]
  simp only [e1, e2]

theorem ordL_nl (r : Bool) (ks : List ByteArray) (l' : List Vl) (ks' : List ByteArray) (h : 0 < l'.length) : ordL r [] ks l' ks' = -1 := by
  cases l' with
  | nil => simp at h
  | cons y ys => simp only [ordL]
theorem ordL_ln (r : Bool) (l : List Vl) (ks ks' : List ByteArray) (h : 0 < l.length) : ordL r l ks [] ks' = 1 := by
  cases l with
  | nil => simp at h
  | cons y ys => simp only [ordL]

theorem ordL_end (r : Bool) (l l' : List Vl) (ks ks' : List ByteArray) (i : Nat) (h : i = min l.length l'.length) :
    ordL r (l.drop i) (ks.drop i) (l'.drop i) (ks'.drop i) = cmpI (l.length : Int) (l'.length : Int) := by
  unfold cmpI
  by_cases h1 : l.length < l'.length
  · rw [List.drop_eq_nil_of_le (show l.length ≤ i by omega), if_pos (by omega)]
    exact ordL_nl r _ _ _ (by rw [List.length_drop]; omega)
  · by_cases h2 : l'.length < l.length
    · rw [List.drop_eq_nil_of_le (show l'.length ≤ i by omega), if_neg (by omega), if_pos (by omega)]
      exact ordL_ln r _ _ _ (by rw [List.length_drop]; omega)
    · rw [List.drop_eq_nil_of_le (show l.length ≤ i by omega), List.drop_eq_nil_of_le (show l'.length ≤ i by omega), if_neg (by omega), if_neg (by omega)]
      simp only [ordL]

theorem nan_i (a : Int) (w : World) : Calls Tryz.prog 184 #[.int .i64 a] w fun e w' => e = .returned (.bool false) ∧ w' = w := by
  go_enter Tryz.func184, Tryz.ntmps184
  go_wp2
  go_ret
  exact ⟨by simp, rfl⟩
theorem nan_j (a : Int) (w : World) : Calls Tryz.prog 185 #[.int .i64 a] w fun e w' => e = .returned (.bool false) ∧ w' = w := by
  go_enter Tryz.func185, Tryz.ntmps185
  go_wp2
  go_ret
  exact ⟨by simp, rfl⟩
theorem nan_s (a : ByteArray) (w : World) : Calls Tryz.prog 160 #[.string a] w fun e w' => e = .returned (.bool false) ∧ w' = w := by
  go_enter Tryz.func160, Tryz.ntmps160
  go_wp2
  go_ret
  exact ⟨by simp, rfl⟩

set_option maxRecDepth 100000 in
set_option maxHeartbeats 400000 in
theorem cmp_i (a b : Int) (w : World) : Calls Tryz.prog 167 #[.int .i64 a, .int .i64 b] w fun e w' => e = .returned (.int .i64 (cmpI a b)) ∧ w' = w := by
  have C1 := hide (nan_i a w)
  have C2 := hide (nan_i b w)
  go_enter Tryz.func167, Tryz.ntmps167
  go_wp2_with fail
  refine (unhide C1).mono ?_
  rintro e w' ⟨rfl, rfl⟩
  go_wp2_with fail
  refine (unhide C2).mono ?_
  rintro e w' ⟨rfl, rfl⟩
  clear C1 C2
  go_wp2_with fail
  all_goals (go_ret; exact ⟨by simp_all [cmpI] <;> (intros; omega), rfl⟩)

set_option maxRecDepth 100000 in
set_option maxHeartbeats 400000 in
theorem cmp_j (a b : Int) (w : World) : Calls Tryz.prog 168 #[.int .i64 a, .int .i64 b] w fun e w' => e = .returned (.int .i64 (cmpI a b)) ∧ w' = w := by
  have C1 := hide (nan_j a w)
  have C2 := hide (nan_j b w)
  go_enter Tryz.func168, Tryz.ntmps168
  go_wp2_with fail
  refine (unhide C1).mono ?_
  rintro e w' ⟨rfl, rfl⟩
  go_wp2_with fail
  refine (unhide C2).mono ?_
  rintro e w' ⟨rfl, rfl⟩
  clear C1 C2
  go_wp2_with fail
  all_goals (go_ret; exact ⟨by simp_all [cmpI] <;> (intros; omega), rfl⟩)

set_option maxRecDepth 100000 in
set_option maxHeartbeats 400000 in
theorem cmp_s (a b : ByteArray) (w : World) : Calls Tryz.prog 153 #[.string a, .string b] w fun e w' => e = .returned (.int .i64 (cmpS a b)) ∧ w' = w := by
  have C1 := hide (nan_s a w)
  have C2 := hide (nan_s b w)
  have hn := bl_not b.toList a.toList
  cases h1 : Op.bytesLess a.toList b.toList with
  | true =>
    have HG : Hid (cmpS a b = -1) := hide (by simp [cmpS, h1])
    go_enter Tryz.func153, Tryz.ntmps153
    go_wp2_with fail
    refine (unhide C1).mono ?_
    rintro e w' ⟨rfl, rfl⟩
    go_wp2_with fail
    refine (unhide C2).mono ?_
    rintro e w' ⟨rfl, rfl⟩
    clear C1 C2
    go_wp2_with fail
    go_ret
    exact ⟨by rw [unhide HG]; rfl, rfl⟩
  | false =>
    have hg : (Op.bytesLess a.toList b.toList || a.toList == b.toList) = !(Op.bytesLess b.toList a.toList) := by rw [hn, Bool.not_not]
    rw [h1, Bool.false_or] at hg
    cases h2 : Op.bytesLess b.toList a.toList with
    | true =>
      have HG : Hid (cmpS a b = 1) := hide (by simp [cmpS, h1, h2])
      rw [h2] at hg
      have hgt : (!(Op.bytesLess a.toList b.toList || a.toList == b.toList)) = true := by rw [h1, hg]; rfl
      clear hn
      go_enter Tryz.func153, Tryz.ntmps153
      go_wp2_with fail
      refine (unhide C1).mono ?_
      rintro e w' ⟨rfl, rfl⟩
      go_wp2_with fail
      refine (unhide C2).mono ?_
      rintro e w' ⟨rfl, rfl⟩
      clear C1 C2
      go_wp2_with fail
      go_ret
      exact ⟨by rw [unhide HG]; rfl, rfl⟩
    | false =>
      have HG : Hid (cmpS a b = 0) := hide (by simp [cmpS, h1, h2])
      rw [h2] at hg
      have hgt : (!(Op.bytesLess a.toList b.toList || a.toList == b.toList)) = false := by rw [h1, hg]; rfl
      clear hn
      go_enter Tryz.func153, Tryz.ntmps153
      go_wp2_with fail
      refine (unhide C1).mono ?_
      rintro e w' ⟨rfl, rfl⟩
      go_wp2_with fail
      refine (unhide C2).mono ?_
      rintro e w' ⟨rfl, rfl⟩
      clear C1 C2
      go_wp2_with fail
      go_ret
      exact ⟨by rw [unhide HG]; rfl, rfl⟩

set_option maxRecDepth 100000 in
set_option maxHeartbeats 400000 in
theorem texts_any (a b : ByteArray) (w : World) : Calls Tryz.prog 143 #[.string a, .string b] w fun e w' => e = .returned (.int .i64 (cmpS a b)) ∧ w' = w := by
  have hn := bl_not b.toList a.toList
  cases h1 : Op.bytesLess a.toList b.toList with
  | true =>
    have HG : Hid (cmpS a b = -1) := hide (by simp [cmpS, h1])
    clear hn
    go_enter Tryz.func143, Tryz.ntmps143
    go_wp2_with fail
    go_ret
    exact ⟨by rw [unhide HG]; rfl, rfl⟩
  | false =>
    have hg : (Op.bytesLess a.toList b.toList || a.toList == b.toList) = !(Op.bytesLess b.toList a.toList) := by rw [hn, Bool.not_not]
    rw [h1, Bool.false_or] at hg
    cases h2 : Op.bytesLess b.toList a.toList with
    | true =>
      have HG : Hid (cmpS a b = 1) := hide (by simp [cmpS, h1, h2])
      rw [h2] at hg
      clear hn
      go_enter Tryz.func143, Tryz.ntmps143
      go_wp2_with fail
      go_ret
      exact ⟨by rw [unhide HG]; rfl, rfl⟩
    | false =>
      have HG : Hid (cmpS a b = 0) := hide (by simp [cmpS, h1, h2])
      rw [h2] at hg
      clear hn
      go_enter Tryz.func143, Tryz.ntmps143
      go_wp2_with fail
      go_ret
      exact ⟨by rw [unhide HG]; rfl, rfl⟩
end Go.Proofs.YtgkmdjmigehmeaaGreatDoor
