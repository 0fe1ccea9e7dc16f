/-
  The walk of formed: has a value what its kind asks for? no conditions but the form's own reach.
-/
import Derived.Test.YtfdnhpmldnmncaaVKeys
namespace Go.Proofs.Ytfdnhpmldnmncaa
open Go.RowKit
set_option linter.unusedVariables false

theorem beq0 (m : Nat) : ((m : Int) == 0) = decide (m = 0) := by by_cases h : m = 0 <;> simp [h]
set_option maxRecDepth 100000 in
set_option maxHeartbeats 400000 in
theorem formed0 (n : Int) (s : ByteArray) (ll m : Nat) (al ak : Option Addr) (cl ck : Nat) (w : World) (R : Bool) (hl : ll ≤ 140737488351232) (hm : m ≤ 140737488351232)
    (HC : ∀ o, Hid (Calls Try.prog 79 #[.slice ak m ck] (w.alloc o) fun e w' => e = .returned (.bool R) ∧ w' = w.alloc o)) :
    Calls Try.prog 73 #[.agg #[.int .i64 0, .int .i64 n, .string s, .slice al ll cl, .slice ak m ck]] w fun e w' => e = .returned (.bool (formM 0 n s ll m R)) ∧ Below w.heap.size w w' := by
  have BEL : Hid (∀ o, Below w.heap.size w (w.alloc o)) := hide (fun o => (Below.refl _ _).alloc (Nat.le_refl _) o)
  go_enter Try.func73, Try.ntmps73
  go_wp2_with fail
  all_goals (go_ret; exact ⟨by simp_all [formM, beq0], unhide BEL _⟩)

set_option maxRecDepth 100000 in
set_option maxHeartbeats 400000 in
theorem formed1 (n : Int) (s : ByteArray) (ll m : Nat) (al ak : Option Addr) (cl ck : Nat) (w : World) (R : Bool) (hl : ll ≤ 140737488351232) (hm : m ≤ 140737488351232)
    (HC : ∀ o, Hid (Calls Try.prog 79 #[.slice ak m ck] (w.alloc o) fun e w' => e = .returned (.bool R) ∧ w' = w.alloc o)) :
    Calls Try.prog 73 #[.agg #[.int .i64 1, .int .i64 n, .string s, .slice al ll cl, .slice ak m ck]] w fun e w' => e = .returned (.bool (formM 1 n s ll m R)) ∧ Below w.heap.size w w' := by
  have BEL : Hid (∀ o, Below w.heap.size w (w.alloc o)) := hide (fun o => (Below.refl _ _).alloc (Nat.le_refl _) o)
  go_enter Try.func73, Try.ntmps73
  go_wp2_with fail
  all_goals (go_ret; exact ⟨by simp_all [formM, beq0], unhide BEL _⟩)

set_option maxRecDepth 100000 in
set_option maxHeartbeats 400000 in
theorem formed2 (n : Int) (s : ByteArray) (ll m : Nat) (al ak : Option Addr) (cl ck : Nat) (w : World) (R : Bool) (hl : ll ≤ 140737488351232) (hm : m ≤ 140737488351232)
    (HC : ∀ o, Hid (Calls Try.prog 79 #[.slice ak m ck] (w.alloc o) fun e w' => e = .returned (.bool R) ∧ w' = w.alloc o)) :
    Calls Try.prog 73 #[.agg #[.int .i64 2, .int .i64 n, .string s, .slice al ll cl, .slice ak m ck]] w fun e w' => e = .returned (.bool (formM 2 n s ll m R)) ∧ Below w.heap.size w w' := by
  have BEL : Hid (∀ o, Below w.heap.size w (w.alloc o)) := hide (fun o => (Below.refl _ _).alloc (Nat.le_refl _) o)
  go_enter Try.func73, Try.ntmps73
  go_wp2_with fail
  all_goals (go_ret; exact ⟨by simp_all [formM, beq0], unhide BEL _⟩)

set_option maxRecDepth 100000 in
set_option maxHeartbeats 400000 in
theorem formed3 (n : Int) (s : ByteArray) (ll m : Nat) (al ak : Option Addr) (cl ck : Nat) (w : World) (R : Bool) (hl : ll ≤ 140737488351232) (hm : m ≤ 140737488351232)
    (HC : ∀ o, Hid (Calls Try.prog 79 #[.slice ak m ck] (w.alloc o) fun e w' => e = .returned (.bool R) ∧ w' = w.alloc o)) :
    Calls Try.prog 73 #[.agg #[.int .i64 3, .int .i64 n, .string s, .slice al ll cl, .slice ak m ck]] w fun e w' => e = .returned (.bool (formM 3 n s ll m R)) ∧ Below w.heap.size w w' := by
  have BEL : Hid (∀ o, Below w.heap.size w (w.alloc o)) := hide (fun o => (Below.refl _ _).alloc (Nat.le_refl _) o)
  go_enter Try.func73, Try.ntmps73
  go_wp2_with fail
  all_goals (go_ret; exact ⟨by simp_all [formM, beq0], unhide BEL _⟩)

set_option maxRecDepth 100000 in
set_option maxHeartbeats 400000 in
theorem formed4 (n : Int) (s : ByteArray) (ll m : Nat) (al ak : Option Addr) (cl ck : Nat) (w : World) (R : Bool) (hl : ll ≤ 140737488351232) (hm : m ≤ 140737488351232)
    (HC : ∀ o, Hid (Calls Try.prog 79 #[.slice ak m ck] (w.alloc o) fun e w' => e = .returned (.bool R) ∧ w' = w.alloc o)) :
    Calls Try.prog 73 #[.agg #[.int .i64 4, .int .i64 n, .string s, .slice al ll cl, .slice ak m ck]] w fun e w' => e = .returned (.bool (formM 4 n s ll m R)) ∧ Below w.heap.size w w' := by
  have BEL : Hid (∀ o, Below w.heap.size w (w.alloc o)) := hide (fun o => (Below.refl _ _).alloc (Nat.le_refl _) o)
  go_enter Try.func73, Try.ntmps73
  go_wp2_with fail
  all_goals (go_ret; exact ⟨by simp_all [formM, beq0], unhide BEL _⟩)

set_option maxRecDepth 100000 in
set_option maxHeartbeats 400000 in
theorem formed5a (n : Int) (s : ByteArray) (ll m : Nat) (al ak : Option Addr) (cl ck : Nat) (w : World) (R : Bool) (hl : ll ≤ 140737488351232) (hm : m ≤ 140737488351232)
    (HC : ∀ o, Hid (Calls Try.prog 79 #[.slice ak m ck] (w.alloc o) fun e w' => e = .returned (.bool R) ∧ w' = w.alloc o)) (hn : ¬ n = 0) :
    Calls Try.prog 73 #[.agg #[.int .i64 5, .int .i64 n, .string s, .slice al ll cl, .slice ak m ck]] w fun e w' => e = .returned (.bool (formM 5 n s ll m R)) ∧ Below w.heap.size w w' := by
  have BEL : Hid (∀ o, Below w.heap.size w (w.alloc o)) := hide (fun o => (Below.refl _ _).alloc (Nat.le_refl _) o)
  have HG : Hid (formM 5 n s ll m R = false) := hide (by simp [formM, hn])
  go_enter Try.func73, Try.ntmps73
  go_wp2_with fail
  all_goals (go_ret; exact ⟨by rw [unhide HG]; rfl, unhide BEL _⟩)

set_option maxRecDepth 100000 in
set_option maxHeartbeats 400000 in
theorem formed5b (n : Int) (s : ByteArray) (ll m : Nat) (al ak : Option Addr) (cl ck : Nat) (w : World) (R : Bool) (hl : ll ≤ 140737488351232) (hm : m ≤ 140737488351232)
    (HC : ∀ o, Hid (Calls Try.prog 79 #[.slice ak m ck] (w.alloc o) fun e w' => e = .returned (.bool R) ∧ w' = w.alloc o)) (hn : n = 0) (hs : ¬ s.toList = []) :
    Calls Try.prog 73 #[.agg #[.int .i64 5, .int .i64 n, .string s, .slice al ll cl, .slice ak m ck]] w fun e w' => e = .returned (.bool (formM 5 n s ll m R)) ∧ Below w.heap.size w w' := by
  have BEL : Hid (∀ o, Below w.heap.size w (w.alloc o)) := hide (fun o => (Below.refl _ _).alloc (Nat.le_refl _) o)
  subst hn
  have HG : Hid (formM 5 0 s ll m R = false) := hide (by simp [formM, hs])
  go_enter Try.func73, Try.ntmps73
  go_wp2_with fail
  all_goals (go_ret; exact ⟨by rw [unhide HG]; rfl, unhide BEL _⟩)

set_option maxRecDepth 100000 in
set_option maxHeartbeats 400000 in
theorem formed5c (n : Int) (s : ByteArray) (ll m : Nat) (al ak : Option Addr) (cl ck : Nat) (w : World) (R : Bool) (hl : ll ≤ 140737488351232) (hm : m ≤ 140737488351232)
    (HC : ∀ o, Hid (Calls Try.prog 79 #[.slice ak m ck] (w.alloc o) fun e w' => e = .returned (.bool R) ∧ w' = w.alloc o)) (hn : n = 0) (hs : s.toList = []) (hml : ¬ m = ll) :
    Calls Try.prog 73 #[.agg #[.int .i64 5, .int .i64 n, .string s, .slice al ll cl, .slice ak m ck]] w fun e w' => e = .returned (.bool (formM 5 n s ll m R)) ∧ Below w.heap.size w w' := by
  have BEL : Hid (∀ o, Below w.heap.size w (w.alloc o)) := hide (fun o => (Below.refl _ _).alloc (Nat.le_refl _) o)
  subst hn
  have HG : Hid (formM 5 0 s ll m R = false) := hide (by simp [formM, hml])
  have hml' : ¬ (m : Int) = (ll : Int) := by omega
  go_enter Try.func73, Try.ntmps73
  go_wp2_with fail
  all_goals (go_ret; exact ⟨by rw [unhide HG]; rfl, unhide BEL _⟩)

set_option maxRecDepth 100000 in
set_option maxHeartbeats 400000 in
theorem formed5d0 (n : Int) (s : ByteArray) (ll m : Nat) (al ak : Option Addr) (cl ck : Nat) (w : World) (R : Bool) (hl : ll ≤ 140737488351232) (hm : m ≤ 140737488351232)
    (HC : ∀ o, Hid (Calls Try.prog 79 #[.slice ak m ck] (w.alloc o) fun e w' => e = .returned (.bool R) ∧ w' = w.alloc o)) (hn : n = 0) (hs : s.toList = []) (hml : m = ll) (hm0 : m = 0) :
    Calls Try.prog 73 #[.agg #[.int .i64 5, .int .i64 n, .string s, .slice al ll cl, .slice ak m ck]] w fun e w' => e = .returned (.bool (formM 5 n s ll m R)) ∧ Below w.heap.size w w' := by
  have BEL : Hid (∀ o, Below w.heap.size w (w.alloc o)) := hide (fun o => (Below.refl _ _).alloc (Nat.le_refl _) o)
  subst hn
  subst hml
  subst hm0
  have HG : Hid (formM 5 0 s 0 0 R = R) := hide (by simp [formM, hs])
  obtain ⟨w1, hw1⟩ : ∃ w1, w.alloc (.cells #[.int .i64 5, .int .i64 0, .string s, .slice al 0 cl, .slice ak 0 ck] 51) = w1 := ⟨_, rfl⟩
  have HC1 := HC (.cells #[.int .i64 5, .int .i64 0, .string s, .slice al 0 cl, .slice ak 0 ck] 51)
  rw [hw1] at HC1
  have B1 := unhide BEL (.cells #[.int .i64 5, .int .i64 0, .string s, .slice al 0 cl, .slice ak 0 ck] 51)
  have BX := Box.mk' w (.int .i64 5) (.int .i64 0) (.string s) (.slice al 0 cl) (.slice ak 0 ck)
  rw [hw1] at B1 BX
  obtain ⟨c0, c1, c2, c3, c4⟩ := row_cell BX.row
  have HB1 := hide B1
  clear HC BEL B1 BX
  go_enter Try.func73, Try.ntmps73
  go_wp2_with fail
  refine (unhide HC1).mono ?_
  rintro e w2 ⟨rfl, rfl⟩
  go_wp2_with fail
  go_ret
  exact ⟨by rw [unhide HG]; rfl, unhide HB1⟩

set_option maxRecDepth 100000 in
set_option maxHeartbeats 400000 in
theorem formed5d1 (n : Int) (s : ByteArray) (ll m : Nat) (al ak : Option Addr) (cl ck : Nat) (w : World) (R : Bool) (hl : ll ≤ 140737488351232) (hm : m ≤ 140737488351232)
    (HC : ∀ o, Hid (Calls Try.prog 79 #[.slice ak m ck] (w.alloc o) fun e w' => e = .returned (.bool R) ∧ w' = w.alloc o)) (hn : n = 0) (hs : s.toList = []) (hml : m = ll) (hm0 : ¬ m = 0) :
    Calls Try.prog 73 #[.agg #[.int .i64 5, .int .i64 n, .string s, .slice al ll cl, .slice ak m ck]] w fun e w' => e = .returned (.bool (formM 5 n s ll m R)) ∧ Below w.heap.size w w' := by
  have BEL : Hid (∀ o, Below w.heap.size w (w.alloc o)) := hide (fun o => (Below.refl _ _).alloc (Nat.le_refl _) o)
  subst hn
  subst hml
  have HG : Hid (formM 5 0 s m m R = R) := hide (by simp [formM, hs])
  obtain ⟨w1, hw1⟩ : ∃ w1, w.alloc (.cells #[.int .i64 5, .int .i64 0, .string s, .slice al m cl, .slice ak m ck] 51) = w1 := ⟨_, rfl⟩
  have HC1 := HC (.cells #[.int .i64 5, .int .i64 0, .string s, .slice al m cl, .slice ak m ck] 51)
  rw [hw1] at HC1
  have B1 := unhide BEL (.cells #[.int .i64 5, .int .i64 0, .string s, .slice al m cl, .slice ak m ck] 51)
  have BX := Box.mk' w (.int .i64 5) (.int .i64 0) (.string s) (.slice al m cl) (.slice ak m ck)
  rw [hw1] at B1 BX
  obtain ⟨c0, c1, c2, c3, c4⟩ := row_cell BX.row
  have HB1 := hide B1
  clear HC BEL B1 BX
  go_enter Try.func73, Try.ntmps73
  go_wp2_with fail
  refine (unhide HC1).mono ?_
  rintro e w2 ⟨rfl, rfl⟩
  go_wp2_with fail
  go_ret
  exact ⟨by rw [unhide HG]; rfl, unhide HB1⟩

theorem formed5 (n : Int) (s : ByteArray) (ll m : Nat) (al ak : Option Addr) (cl ck : Nat) (w : World) (R : Bool) (hl : ll ≤ 140737488351232) (hm : m ≤ 140737488351232)
    (HC : ∀ o, Hid (Calls Try.prog 79 #[.slice ak m ck] (w.alloc o) fun e w' => e = .returned (.bool R) ∧ w' = w.alloc o)) :
    Calls Try.prog 73 #[.agg #[.int .i64 5, .int .i64 n, .string s, .slice al ll cl, .slice ak m ck]] w fun e w' => e = .returned (.bool (formM 5 n s ll m R)) ∧ Below w.heap.size w w' := by
  by_cases hn : n = 0
  · by_cases hs : s.toList = []
    · by_cases hml : m = ll
      · by_cases hm0 : m = 0
        · exact formed5d0 n s ll m al ak cl ck w R hl hm HC hn hs hml hm0
        · exact formed5d1 n s ll m al ak cl ck w R hl hm HC hn hs hml hm0
      · exact formed5c n s ll m al ak cl ck w R hl hm HC hn hs hml
    · exact formed5b n s ll m al ak cl ck w R hl hm HC hn hs
  · exact formed5a n s ll m al ak cl ck w R hl hm HC hn

set_option maxRecDepth 100000 in
set_option maxHeartbeats 400000 in
theorem formedX (kind : Int) (k0 : ¬ kind = 0) (k1 : ¬ kind = 1) (k2 : ¬ kind = 2) (k3 : ¬ kind = 3) (k4 : ¬ kind = 4) (k5 : ¬ kind = 5) (n : Int) (s : ByteArray) (ll m : Nat) (al ak : Option Addr) (cl ck : Nat) (w : World) (R : Bool) (hl : ll ≤ 140737488351232) (hm : m ≤ 140737488351232)
    (HC : ∀ o, Hid (Calls Try.prog 79 #[.slice ak m ck] (w.alloc o) fun e w' => e = .returned (.bool R) ∧ w' = w.alloc o)) :
    Calls Try.prog 73 #[.agg #[.int .i64 kind, .int .i64 n, .string s, .slice al ll cl, .slice ak m ck]] w fun e w' => e = .returned (.bool (formM kind n s ll m R)) ∧ Below w.heap.size w w' := by
  have BEL : Hid (∀ o, Below w.heap.size w (w.alloc o)) := hide (fun o => (Below.refl _ _).alloc (Nat.le_refl _) o)
  go_enter Try.func73, Try.ntmps73
  go_wp2_with fail
  all_goals (go_ret; exact ⟨by simp_all [formM, beq0], unhide BEL _⟩)

theorem formed_any (kind n : Int) (s : ByteArray) (ll : Nat) (ks : List ByteArray) (al ak : Option Addr) (cl ck : Nat) (w : World) (h : IsK w ks ak ck) (hl : ll ≤ 140737488351232) :
    Calls Try.prog 73 #[.agg #[.int .i64 kind, .int .i64 n, .string s, .slice al ll cl, .slice ak ks.length ck]] w fun e w' => e = .returned (.bool (formB kind n s ll ks)) ∧ Below w.heap.size w w' := by
  have HC : ∀ o, Hid (Calls Try.prog 79 #[.slice ak ks.length ck] (w.alloc o) fun e w' => e = .returned (.bool (risingFrom none ks)) ∧ w' = w.alloc o) := fun o => hide (rising_any ks ak ck (w.alloc o) (h.mono ((Below.refl _ _).alloc (Nat.le_refl _) o)))
  have hm : ks.length ≤ 140737488351232 := h.bnd
  rw [formB_is]
  by_cases k0 : kind = 0
  · subst k0; exact formed0 n s ll _ al ak cl ck w _ hl hm HC
  by_cases k1 : kind = 1
  · subst k1; exact formed1 n s ll _ al ak cl ck w _ hl hm HC
  by_cases k2 : kind = 2
  · subst k2; exact formed2 n s ll _ al ak cl ck w _ hl hm HC
  by_cases k3 : kind = 3
  · subst k3; exact formed3 n s ll _ al ak cl ck w _ hl hm HC
  by_cases k4 : kind = 4
  · subst k4; exact formed4 n s ll _ al ak cl ck w _ hl hm HC
  by_cases k5 : kind = 5
  · subst k5; exact formed5 n s ll _ al ak cl ck w _ hl hm HC
  exact formedX kind k0 k1 k2 k3 k4 k5 n s ll _ al ak cl ck w _ hl hm HC
end Go.Proofs.Ytfdnhpmldnmncaa
