/-
  The walk of the document's plain: are the fields that a kind does not use zero? no conditions but the form's own reach.
-/
import Derived.Test.YtghegjmmgcnabaaGreatDoorVForm
namespace Go.Proofs.YtghegjmmgcnabaaGreatDoor
open Go.RowKit
set_option linter.unusedVariables false

set_option maxRecDepth 100000 in
set_option maxHeartbeats 800000 in
theorem plain0 (n : Int) (s : ByteArray) (ll m : Nat) (al ak : Option Addr) (cl ck : Nat) (w : World) :
    Calls Tryz.prog 96 #[.agg #[.int .i64 0, .int .i64 n, .string s, .slice al ll cl, .slice ak m ck]] w fun e w' => e = .returned (.bool (formM 0 n s ll m true)) ∧ Below w.heap.size w w' := by
  have BEL : Hid (∀ o, Below w.heap.size w (w.alloc o)) := hide (fun o => (Below.refl _ _).alloc (Nat.le_refl _) o)
  go_enter Tryz.func96, Tryz.ntmps96
  go_wp2_with fail
  all_goals (go_ret; exact ⟨by simp_all [formM, beq0], unhide BEL _⟩)

set_option maxRecDepth 100000 in
set_option maxHeartbeats 800000 in
theorem plain1 (n : Int) (s : ByteArray) (ll m : Nat) (al ak : Option Addr) (cl ck : Nat) (w : World) :
    Calls Tryz.prog 96 #[.agg #[.int .i64 1, .int .i64 n, .string s, .slice al ll cl, .slice ak m ck]] w fun e w' => e = .returned (.bool (formM 1 n s ll m true)) ∧ Below w.heap.size w w' := by
  have BEL : Hid (∀ o, Below w.heap.size w (w.alloc o)) := hide (fun o => (Below.refl _ _).alloc (Nat.le_refl _) o)
  go_enter Tryz.func96, Tryz.ntmps96
  go_wp2_with fail
  all_goals (go_ret; exact ⟨by simp_all [formM, beq0], unhide BEL _⟩)

set_option maxRecDepth 100000 in
set_option maxHeartbeats 800000 in
theorem plain2 (n : Int) (s : ByteArray) (ll m : Nat) (al ak : Option Addr) (cl ck : Nat) (w : World) :
    Calls Tryz.prog 96 #[.agg #[.int .i64 2, .int .i64 n, .string s, .slice al ll cl, .slice ak m ck]] w fun e w' => e = .returned (.bool (formM 2 n s ll m true)) ∧ Below w.heap.size w w' := by
  have BEL : Hid (∀ o, Below w.heap.size w (w.alloc o)) := hide (fun o => (Below.refl _ _).alloc (Nat.le_refl _) o)
  go_enter Tryz.func96, Tryz.ntmps96
  go_wp2_with fail
  all_goals (go_ret; exact ⟨by simp_all [formM, beq0], unhide BEL _⟩)

set_option maxRecDepth 100000 in
set_option maxHeartbeats 800000 in
theorem plain3 (n : Int) (s : ByteArray) (ll m : Nat) (al ak : Option Addr) (cl ck : Nat) (w : World) :
    Calls Tryz.prog 96 #[.agg #[.int .i64 3, .int .i64 n, .string s, .slice al ll cl, .slice ak m ck]] w fun e w' => e = .returned (.bool (formM 3 n s ll m true)) ∧ Below w.heap.size w w' := by
  have BEL : Hid (∀ o, Below w.heap.size w (w.alloc o)) := hide (fun o => (Below.refl _ _).alloc (Nat.le_refl _) o)
  go_enter Tryz.func96, Tryz.ntmps96
  go_wp2_with fail
  all_goals (go_ret; exact ⟨by simp_all [formM, beq0], unhide BEL _⟩)

set_option maxRecDepth 100000 in
set_option maxHeartbeats 800000 in
theorem plain4 (n : Int) (s : ByteArray) (ll m : Nat) (al ak : Option Addr) (cl ck : Nat) (w : World) :
    Calls Tryz.prog 96 #[.agg #[.int .i64 4, .int .i64 n, .string s, .slice al ll cl, .slice ak m ck]] w fun e w' => e = .returned (.bool (formM 4 n s ll m true)) ∧ Below w.heap.size w w' := by
  have BEL : Hid (∀ o, Below w.heap.size w (w.alloc o)) := hide (fun o => (Below.refl _ _).alloc (Nat.le_refl _) o)
  go_enter Tryz.func96, Tryz.ntmps96
  go_wp2_with fail
  all_goals (go_ret; exact ⟨by simp_all [formM, beq0], unhide BEL _⟩)

set_option maxRecDepth 100000 in
set_option maxHeartbeats 800000 in
theorem plain5 (n : Int) (s : ByteArray) (ll m : Nat) (al ak : Option Addr) (cl ck : Nat) (w : World) :
    Calls Tryz.prog 96 #[.agg #[.int .i64 5, .int .i64 n, .string s, .slice al ll cl, .slice ak m ck]] w fun e w' => e = .returned (.bool (formM 5 n s ll m true)) ∧ Below w.heap.size w w' := by
  have BEL : Hid (∀ o, Below w.heap.size w (w.alloc o)) := hide (fun o => (Below.refl _ _).alloc (Nat.le_refl _) o)
  by_cases hn : n = 0
  · subst hn
    by_cases hs : s.toList = []
    · by_cases hml : m = ll
      · subst hml
        have HG : Hid (formM 5 0 s m m true = true) := hide (by simp [formM, hs])
        go_enter Tryz.func96, Tryz.ntmps96
        go_wp2_with fail
        all_goals (go_ret; exact ⟨by rw [unhide HG]; rfl, unhide BEL _⟩)
      · have HG : Hid (formM 5 0 s ll m true = false) := hide (by simp [formM, hml])
        have hml' : ¬ (m : Int) = (ll : Int) := by omega
        have hmb : Hid (((m : Int) == (ll : Int)) = false) := hide (by simpa using hml')
        go_enter Tryz.func96, Tryz.ntmps96
        go_wp2_with fail
        all_goals (go_ret; exact ⟨by rw [unhide HG, ← unhide hmb]; rfl, unhide BEL _⟩)
    · have HG : Hid (formM 5 0 s ll m true = false) := hide (by simp [formM, hs])
      go_enter Tryz.func96, Tryz.ntmps96
      go_wp2_with fail
      all_goals (go_ret; exact ⟨by rw [unhide HG]; rfl, unhide BEL _⟩)
  · have HG : Hid (formM 5 n s ll m true = false) := hide (by simp [formM, hn])
    go_enter Tryz.func96, Tryz.ntmps96
    go_wp2_with fail
    all_goals (go_ret; exact ⟨by rw [unhide HG]; rfl, unhide BEL _⟩)

set_option maxRecDepth 100000 in
set_option maxHeartbeats 800000 in
theorem plainX (kind : Int) (k0 : ¬ kind = 0) (k1 : ¬ kind = 1) (k2 : ¬ kind = 2) (k3 : ¬ kind = 3) (k4 : ¬ kind = 4) (k5 : ¬ kind = 5) (n : Int) (s : ByteArray) (ll m : Nat) (al ak : Option Addr) (cl ck : Nat) (w : World) :
    Calls Tryz.prog 96 #[.agg #[.int .i64 kind, .int .i64 n, .string s, .slice al ll cl, .slice ak m ck]] w fun e w' => e = .returned (.bool (formM kind n s ll m true)) ∧ Below w.heap.size w w' := by
  have BEL : Hid (∀ o, Below w.heap.size w (w.alloc o)) := hide (fun o => (Below.refl _ _).alloc (Nat.le_refl _) o)
  go_enter Tryz.func96, Tryz.ntmps96
  go_wp2_with fail
  all_goals (go_ret; exact ⟨by simp_all [formM], unhide BEL _⟩)

theorem plain_any (kind n : Int) (s : ByteArray) (ll m : Nat) (al ak : Option Addr) (cl ck : Nat) (w : World) :
    Calls Tryz.prog 96 #[.agg #[.int .i64 kind, .int .i64 n, .string s, .slice al ll cl, .slice ak m ck]] w fun e w' => e = .returned (.bool (formM kind n s ll m true)) ∧ Below w.heap.size w w' := by
  by_cases k0 : kind = 0
  · subst k0; exact plain0 n s ll m al ak cl ck w
  by_cases k1 : kind = 1
  · subst k1; exact plain1 n s ll m al ak cl ck w
  by_cases k2 : kind = 2
  · subst k2; exact plain2 n s ll m al ak cl ck w
  by_cases k3 : kind = 3
  · subst k3; exact plain3 n s ll m al ak cl ck w
  by_cases k4 : kind = 4
  · subst k4; exact plain4 n s ll m al ak cl ck w
  by_cases k5 : kind = 5
  · subst k5; exact plain5 n s ll m al ak cl ck w
  exact plainX kind k0 k1 k2 k3 k4 k5 n s ll m al ak cl ck w
end Go.Proofs.YtghegjmmgcnabaaGreatDoor
