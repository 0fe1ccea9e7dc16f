/-
  The walk of the document's plain: are the fields that a kind does not use zero? no conditions but the form's own reach.
  The walk of the document's weighed (it calls itself): a value's weight, above the greatest where it is not right; no conditions but the form's own reach.
-/
import Derived.Test.YtcknoeepdjhnoaaGreatDoorH03
import Derived.Test.YtcknoeepdjhnoaaGreatDoorH05
import Derived.BigQuiet
set_option linter.unusedVariables false
set_option linter.unusedSimpArgs false
namespace Go.Proofs.YtcknoeepdjhnoaaGreatDoor
open Go.RowKit
set_option linter.unusedVariables false

set_option maxRecDepth 100000 in
set_option maxHeartbeats 800000 in
theorem plain0 (n : Int) (s : ByteArray) (ll m : Nat) (al ak : Option Addr) (cl ck : Nat) (w : World) :
    Calls Tryz.prog 107 #[.agg #[.int .i64 0, .int .i64 n, .string s, .slice al ll cl, .slice ak m ck]] w fun e w' => e = .returned (.bool (formM 0 n s ll m true)) ∧ Below w.heap.size w w' := by
  have BEL : Hid (∀ o, Below w.heap.size w (w.alloc o)) := hide (fun o => (Below.refl _ _).alloc (Nat.le_refl _) o)
  go_enter Tryz.func107, Tryz.ntmps107
  go_wp2_with fail
  all_goals (go_ret; exact ⟨by simp_all [formM, beq0], unhide BEL _⟩)

set_option maxRecDepth 100000 in
set_option maxHeartbeats 800000 in
theorem plain1 (n : Int) (s : ByteArray) (ll m : Nat) (al ak : Option Addr) (cl ck : Nat) (w : World) :
    Calls Tryz.prog 107 #[.agg #[.int .i64 1, .int .i64 n, .string s, .slice al ll cl, .slice ak m ck]] w fun e w' => e = .returned (.bool (formM 1 n s ll m true)) ∧ Below w.heap.size w w' := by
  have BEL : Hid (∀ o, Below w.heap.size w (w.alloc o)) := hide (fun o => (Below.refl _ _).alloc (Nat.le_refl _) o)
  go_enter Tryz.func107, Tryz.ntmps107
  go_wp2_with fail
  all_goals (go_ret; exact ⟨by simp_all [formM, beq0], unhide BEL _⟩)

set_option maxRecDepth 100000 in
set_option maxHeartbeats 800000 in
theorem plain2 (n : Int) (s : ByteArray) (ll m : Nat) (al ak : Option Addr) (cl ck : Nat) (w : World) :
    Calls Tryz.prog 107 #[.agg #[.int .i64 2, .int .i64 n, .string s, .slice al ll cl, .slice ak m ck]] w fun e w' => e = .returned (.bool (formM 2 n s ll m true)) ∧ Below w.heap.size w w' := by
  have BEL : Hid (∀ o, Below w.heap.size w (w.alloc o)) := hide (fun o => (Below.refl _ _).alloc (Nat.le_refl _) o)
  go_enter Tryz.func107, Tryz.ntmps107
  go_wp2_with fail
  all_goals (go_ret; exact ⟨by simp_all [formM, beq0], unhide BEL _⟩)

set_option maxRecDepth 100000 in
set_option maxHeartbeats 800000 in
theorem plain3 (n : Int) (s : ByteArray) (ll m : Nat) (al ak : Option Addr) (cl ck : Nat) (w : World) :
    Calls Tryz.prog 107 #[.agg #[.int .i64 3, .int .i64 n, .string s, .slice al ll cl, .slice ak m ck]] w fun e w' => e = .returned (.bool (formM 3 n s ll m true)) ∧ Below w.heap.size w w' := by
  have BEL : Hid (∀ o, Below w.heap.size w (w.alloc o)) := hide (fun o => (Below.refl _ _).alloc (Nat.le_refl _) o)
  go_enter Tryz.func107, Tryz.ntmps107
  go_wp2_with fail
  all_goals (go_ret; exact ⟨by simp_all [formM, beq0], unhide BEL _⟩)

set_option maxRecDepth 100000 in
set_option maxHeartbeats 800000 in
theorem plain4 (n : Int) (s : ByteArray) (ll m : Nat) (al ak : Option Addr) (cl ck : Nat) (w : World) :
    Calls Tryz.prog 107 #[.agg #[.int .i64 4, .int .i64 n, .string s, .slice al ll cl, .slice ak m ck]] w fun e w' => e = .returned (.bool (formM 4 n s ll m true)) ∧ Below w.heap.size w w' := by
  have BEL : Hid (∀ o, Below w.heap.size w (w.alloc o)) := hide (fun o => (Below.refl _ _).alloc (Nat.le_refl _) o)
  go_enter Tryz.func107, Tryz.ntmps107
  go_wp2_with fail
  all_goals (go_ret; exact ⟨by simp_all [formM, beq0], unhide BEL _⟩)

set_option maxRecDepth 100000 in
set_option maxHeartbeats 800000 in
theorem plain5 (n : Int) (s : ByteArray) (ll m : Nat) (al ak : Option Addr) (cl ck : Nat) (w : World) :
    Calls Tryz.prog 107 #[.agg #[.int .i64 5, .int .i64 n, .string s, .slice al ll cl, .slice ak m ck]] w fun e w' => e = .returned (.bool (formM 5 n s ll m true)) ∧ Below w.heap.size w w' := by
  have BEL : Hid (∀ o, Below w.heap.size w (w.alloc o)) := hide (fun o => (Below.refl _ _).alloc (Nat.le_refl _) o)
  by_cases hn : n = 0
  · subst hn
    by_cases hs : s.toList = []
    · by_cases hml : m = ll
      · subst hml
        have HG : Hid (formM 5 0 s m m true = true) := hide (by simp [formM, hs])
        go_enter Tryz.func107, Tryz.ntmps107
        go_wp2_with fail
        all_goals (go_ret; exact ⟨by rw [unhide HG]; rfl, unhide BEL _⟩)
      · have HG : Hid (formM 5 0 s ll m true = false) := hide (by simp [formM, hml])
        have hml' : ¬ (m : Int) = (ll : Int) := by omega
        have hmb : Hid (((m : Int) == (ll : Int)) = false) := hide (by simpa using hml')
        go_enter Tryz.func107, Tryz.ntmps107
        go_wp2_with fail
        all_goals (go_ret; exact ⟨by rw [unhide HG, ← unhide hmb]; rfl, unhide BEL _⟩)
    · have HG : Hid (formM 5 0 s ll m true = false) := hide (by simp [formM, hs])
      go_enter Tryz.func107, Tryz.ntmps107
      go_wp2_with fail
      all_goals (go_ret; exact ⟨by rw [unhide HG]; rfl, unhide BEL _⟩)
  · have HG : Hid (formM 5 n s ll m true = false) := hide (by simp [formM, hn])
    go_enter Tryz.func107, Tryz.ntmps107
    go_wp2_with fail
    all_goals (go_ret; exact ⟨by rw [unhide HG]; rfl, unhide BEL _⟩)

set_option maxRecDepth 100000 in
set_option maxHeartbeats 800000 in
theorem plainX (kind : Int) (k0 : ¬ kind = 0) (k1 : ¬ kind = 1) (k2 : ¬ kind = 2) (k3 : ¬ kind = 3) (k4 : ¬ kind = 4) (k5 : ¬ kind = 5) (n : Int) (s : ByteArray) (ll m : Nat) (al ak : Option Addr) (cl ck : Nat) (w : World) :
    Calls Tryz.prog 107 #[.agg #[.int .i64 kind, .int .i64 n, .string s, .slice al ll cl, .slice ak m ck]] w fun e w' => e = .returned (.bool (formM kind n s ll m true)) ∧ Below w.heap.size w w' := by
  have BEL : Hid (∀ o, Below w.heap.size w (w.alloc o)) := hide (fun o => (Below.refl _ _).alloc (Nat.le_refl _) o)
  go_enter Tryz.func107, Tryz.ntmps107
  go_wp2_with fail
  all_goals (go_ret; exact ⟨by simp_all [formM], unhide BEL _⟩)

theorem plain_any (kind n : Int) (s : ByteArray) (ll m : Nat) (al ak : Option Addr) (cl ck : Nat) (w : World) :
    Calls Tryz.prog 107 #[.agg #[.int .i64 kind, .int .i64 n, .string s, .slice al ll cl, .slice ak m ck]] w fun e w' => e = .returned (.bool (formM kind n s ll m true)) ∧ Below w.heap.size w w' := by
  by_cases k0 : kind = 0
  · subst k0; exact plain0 n s ll m al ak cl ck w
  by_cases k1 : kind = 1
  · subst k1; exact plain1 n s ll m al ak cl ck w
  by_cases k2 : kind = 2
  · subst k2; exact plain2 n s ll m al ak cl ck w
  by_cases k3 : kind = 3
  · subst k3; exact plain3 n s ll m al ak cl ck w
  by_cases k4 : kind = 4
  · subst k4; exact plain4 n s ll m al ak cl ck w
  by_cases k5 : kind = 5
  · subst k5; exact plain5 n s ll m al ak cl ck w
  exact plainX kind k0 k1 k2 k3 k4 k5 n s ll m al ak cl ck w
end Go.Proofs.YtcknoeepdjhnoaaGreatDoor

namespace Go.Proofs.YtcknoeepdjhnoaaGreatDoor
open Go.RowKit

/-- what weighed answers -/
def wgh (b : Nat) (v : Vl) (sofar : Nat) : Nat := if (okB b v && decide (sofar + wt v ≤ 2048)) = true then sofar + wt v else 2049

def WeighAt (b : Nat) : Prop := ∀ (v : Vl) (x : Value) (around sofar B : Nat) (w : World), around + b = 8 → IsV w B v x → B ≤ w.heap.size → sofar ≤ 4096 →
  Calls Tryz.prog 95 #[x, .int .i64 (around : Int), .int .i64 (sofar : Int)] w fun e w' => e = .returned (.int .i64 (wgh b v sofar : Int)) ∧ Below w.heap.size w w'

theorem form_true {kind n : Int} {s : ByteArray} {ll m : Nat} {R : Bool} (h : formM kind n s ll m true = false) : formM kind n s ll m R = false := by
  unfold formM at h ⊢
  repeat' split at h
  all_goals first
    | (subst_vars; simp_all; done)
    | simp_all

set_option maxRecDepth 100000 in
set_option maxHeartbeats 400000 in
theorem weigh_zero : WeighAt 0 := by
  intro v x around sofar B w hab hv hBs hso
  obtain ⟨k', n', s', l', ks', al', ak', cl', ck', hy', hx⟩ := hv.shape
  obtain ⟨ll, hll⟩ : ∃ ll, l'.length = ll := ⟨_, rfl⟩
  obtain ⟨m, hm⟩ : ∃ m, ks'.length = m := ⟨_, rfl⟩
  rw [hll, hm] at hx
  subst hx
  obtain ⟨w1, hw1⟩ : ∃ w1, w.alloc (.cells #[.int .i64 k', .int .i64 n', .string s', .slice al' ll cl', .slice ak' m ck'] 42) = w1 := ⟨_, rfl⟩
  have BX := Box.mk' w (.int .i64 k') (.int .i64 n') (.string s') (.slice al' ll cl') (.slice ak' m ck')
  rw [hw1] at BX
  obtain ⟨c0, c1, c2, c3, c4⟩ := row_cell BX.row
  have z1 := BX.size
  have HB := hide BX.below
  obtain rfl : around = 8 := by omega
  have HG : Hid (wgh 0 v sofar = 2049) := hide (by simp [wgh, okB])
  have CP := hide (plain_any k' n' s' ll m al' ak' cl' ck' w1)
  obtain ⟨F, hF⟩ : ∃ F, formM k' n' s' ll m true = F := ⟨_, rfl⟩
  rw [hF] at CP
  clear BX hv hy' hF
  go_enter Tryz.func95, Tryz.ntmps95
  go_wp2_with fail
  refine (unhide CP).mono ?_
  rintro e w2 ⟨rfl, b2⟩
  have B2 := hide b2
  clear b2 CP
  cases F with
  | false =>
    go_wp2_with fail
    go_ret
    exact ⟨by rw [unhide HG]; rfl, (unhide HB).trans ((unhide B2).mono (by omega))⟩
  | true =>
    go_wp2_with fail
    go_ret
    exact ⟨by rw [unhide HG]; rfl, (unhide HB).trans ((unhide B2).mono (by omega))⟩

/-! ### What weighed has in hand at element i -/
def kw (kind : Int) (ks : List ByteArray) (i : Nat) : Nat := if kind = 5 then keysW (ks.take i) else 0
def prv (ks : List ByteArray) (i : Nat) : Option ByteArray := if i = 0 then none else ks[i - 1]?

structure InvW (b : Nat) (kind n : Int) (t : ByteArray) (l : List Vl) (ks : List ByteArray) (sofar i W : Nat) : Prop where
  good : W ≤ 2048 → okL b (l.take i) = true ∧ W = sofar + 1 + kw kind ks i + wtL (l.take i) ∧ (kind = 5 → risingFrom none ks = risingFrom (prv ks i) (ks.drop i))
  bad : 2049 ≤ W → wgh (b + 1) (.mk kind n t l ks) sofar = 2049

theorem keysW_take_le (ks : List ByteArray) (i : Nat) : keysW (ks.take i) ≤ keysW ks := by
  have h := keysW_app (ks.take i) (ks.drop i)
  rw [List.take_append_drop] at h
  omega

theorem size_zero {t : ByteArray} (h : t.toList = []) : t.size = 0 := by
  rw [ByteArray.toList_eq] at h
  have h1 : t.data.size = 0 := by rw [← Array.length_toList, h]; rfl
  exact h1

theorem wgh_no {b : Nat} {v : Vl} {sofar : Nat} (h : okB b v = false ∨ 2048 < sofar + wt v) : wgh b v sofar = 2049 := by
  unfold wgh
  rw [if_neg]
  intro hc
  rw [Bool.and_eq_true, decide_eq_true_eq] at hc
  rcases h with h | h
  · rw [h] at hc; cases hc.1
  · omega

theorem wgh_yes {b : Nat} {v : Vl} {sofar : Nat} (h : okB b v = true) (h2 : sofar + wt v ≤ 2048) : wgh b v sofar = sofar + wt v := by
  unfold wgh
  rw [if_pos]
  rw [Bool.and_eq_true, decide_eq_true_eq]
  exact ⟨h, h2⟩

theorem wgh_le (b : Nat) (v : Vl) (sofar : Nat) : wgh b v sofar ≤ 2049 := by
  unfold wgh
  by_cases h : (okB b v && decide (sofar + wt v ≤ 2048)) = true
  · rw [if_pos h]
    rw [Bool.and_eq_true, decide_eq_true_eq] at h
    omega
  · rw [if_neg h]
    omega

theorem InvW.start {b : Nat} {kind n : Int} {t : ByteArray} {l : List Vl} {ks : List ByteArray} {sofar : Nat} (hs : sofar ≤ 2048) : InvW b kind n t l ks sofar 0 (sofar + 1) := by
  refine ⟨fun _ => ⟨by simp [okL], by simp [kw, wtL, keysW], fun _ => by simp [prv]⟩, fun h => wgh_no (Or.inr ?_)⟩
  have := wt_pos (.mk kind n t l ks)
  omega

theorem InvW.next {b : Nat} {kind n : Int} {t : ByteArray} {l : List Vl} {ks : List ByteArray} {sofar i W W' : Nat} {y : Vl} (h : InvW b kind n t l ks sofar i W) (hW : W ≤ 2048) (hy : l[i]? = some y)
    (h5 : kind = 5 → ∃ k, ks[i]? = some k ∧ risingFrom none ks = risingFrom (some k) (ks.drop (i + 1)) ∧ W' = W + (1 + k.size)) (hn : ¬ kind = 5 → W' = W) : InvW b kind n t l ks sofar (i + 1) (wgh b y W') := by
  obtain ⟨g1, g2, g3⟩ := h.good hW
  have hkw : W' = sofar + 1 + kw kind ks (i + 1) + wtL (l.take i) ∧ (kind = 5 → risingFrom none ks = risingFrom (prv ks (i + 1)) (ks.drop (i + 1))) ∧ kw kind ks (i + 1) ≤ keysW ks := by
    by_cases hk : kind = 5
    · obtain ⟨k, k1, k2, k3⟩ := h5 hk
      have e := keysW_next ks i k k1
      have e2 := keysW_take_le ks (i + 1)
      unfold kw at g2 ⊢
      rw [if_pos hk] at g2 ⊢
      refine ⟨by omega, fun _ => ?_, e2⟩
      unfold prv
      rw [if_neg (by omega), show i + 1 - 1 = i by omega, k1]
      exact k2
    · have e := hn hk
      unfold kw at g2 ⊢
      rw [if_neg hk] at g2 ⊢
      exact ⟨by omega, fun h => absurd h hk, by omega⟩
  obtain ⟨e1, e2, e3⟩ := hkw
  have e4 := wt_le_wtL l i y hy
  by_cases ho : okB b y = true
  · by_cases hw : W' + wt y ≤ 2048
    · rw [wgh_yes ho hw]
      refine ⟨fun _ => ⟨by rw [okL_next b l i y hy, g1, ho]; rfl, by rw [wtL_next l i y hy]; omega, e2⟩, fun h => by omega⟩
    · rw [wgh_no (Or.inr (by omega))]
      refine ⟨fun h => by omega, fun _ => wgh_no (Or.inr ?_)⟩
      simp only [wt]
      omega
  · have ho' : okB b y = false := by simpa using ho
    rw [wgh_no (Or.inl ho')]
    refine ⟨fun h => by omega, fun _ => wgh_no (Or.inl ?_)⟩
    simp only [okB]
    rw [okL_of_take b l i y hy ho', Bool.and_false]
end Go.Proofs.YtcknoeepdjhnoaaGreatDoor
