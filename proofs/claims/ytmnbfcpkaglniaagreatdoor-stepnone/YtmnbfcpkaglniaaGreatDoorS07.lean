/-
  The walk of formed: has a value what its kind asks for? no conditions but the form's own reach.
  The walk of alone: what a value weighs without its elements; conditions: keys of at most 32 bytes, the form's own reach.
-/
import Derived.Test.YtmnbfcpkaglniaaGreatDoorS06
set_option linter.unusedVariables false
set_option linter.unusedSimpArgs false
namespace Go.Proofs.YtmnbfcpkaglniaaGreatDoor
open Go.RowKit
set_option linter.unusedVariables false
theorem beq0 (m : Nat) : ((m : Int) == 0) = decide (m = 0) := by by_cases h : m = 0 <;> simp [h]
set_option maxRecDepth 100000 in
set_option maxHeartbeats 400000 in
theorem formed0 (n : Int) (s : ByteArray) (ll m : Nat) (al ak : Option Addr) (cl ck : Nat) (w : World) (R : Bool) (hl : ll ≤ 140737488351232) (hm : m ≤ 140737488351232)
    (HC : ∀ o, Hid (Calls Tryz.prog 156 #[.slice ak m ck] (w.alloc o) fun e w' => e = .returned (.bool R) ∧ w' = w.alloc o)) :
    Calls Tryz.prog 113 #[.agg #[.int .i64 0, .int .i64 n, .string s, .slice al ll cl, .slice ak m ck]] w fun e w' => e = .returned (.bool (formM 0 n s ll m R)) ∧ Below w.heap.size w w' := by
  have BEL : Hid (∀ o, Below w.heap.size w (w.alloc o)) := hide (fun o => (Below.refl _ _).alloc (Nat.le_refl _) o)
  go_enter Tryz.func113, Tryz.ntmps113
  go_wp2_with fail
  all_goals (go_ret; exact ⟨by simp_all [formM, beq0], unhide BEL _⟩)
set_option maxRecDepth 100000 in
set_option maxHeartbeats 400000 in
theorem formed1 (n : Int) (s : ByteArray) (ll m : Nat) (al ak : Option Addr) (cl ck : Nat) (w : World) (R : Bool) (hl : ll ≤ 140737488351232) (hm : m ≤ 140737488351232)
    (HC : ∀ o, Hid (Calls Tryz.prog 156 #[.slice ak m ck] (w.alloc o) fun e w' => e = .returned (.bool R) ∧ w' = w.alloc o)) :
    Calls Tryz.prog 113 #[.agg #[.int .i64 1, .int .i64 n, .string s, .slice al ll cl, .slice ak m ck]] w fun e w' => e = .returned (.bool (formM 1 n s ll m R)) ∧ Below w.heap.size w w' := by
  have BEL : Hid (∀ o, Below w.heap.size w (w.alloc o)) := hide (fun o => (Below.refl _ _).alloc (Nat.le_refl _) o)
  go_enter Tryz.func113, Tryz.ntmps113
  go_wp2_with fail
  all_goals (go_ret; exact ⟨by simp_all [formM, beq0], unhide BEL _⟩)
set_option maxRecDepth 100000 in
set_option maxHeartbeats 400000 in
theorem formed2 (n : Int) (s : ByteArray) (ll m : Nat) (al ak : Option Addr) (cl ck : Nat) (w : World) (R : Bool) (hl : ll ≤ 140737488351232) (hm : m ≤ 140737488351232)
    (HC : ∀ o, Hid (Calls Tryz.prog 156 #[.slice ak m ck] (w.alloc o) fun e w' => e = .returned (.bool R) ∧ w' = w.alloc o)) :
    Calls Tryz.prog 113 #[.agg #[.int .i64 2, .int .i64 n, .string s, .slice al ll cl, .slice ak m ck]] w fun e w' => e = .returned (.bool (formM 2 n s ll m R)) ∧ Below w.heap.size w w' := by
  have BEL : Hid (∀ o, Below w.heap.size w (w.alloc o)) := hide (fun o => (Below.refl _ _).alloc (Nat.le_refl _) o)
  go_enter Tryz.func113, Tryz.ntmps113
  go_wp2_with fail
  all_goals (go_ret; exact ⟨by simp_all [formM, beq0], unhide BEL _⟩)
set_option maxRecDepth 100000 in
set_option maxHeartbeats 400000 in
theorem formed3 (n : Int) (s : ByteArray) (ll m : Nat) (al ak : Option Addr) (cl ck : Nat) (w : World) (R : Bool) (hl : ll ≤ 140737488351232) (hm : m ≤ 140737488351232)
    (HC : ∀ o, Hid (Calls Tryz.prog 156 #[.slice ak m ck] (w.alloc o) fun e w' => e = .returned (.bool R) ∧ w' = w.alloc o)) :
    Calls Tryz.prog 113 #[.agg #[.int .i64 3, .int .i64 n, .string s, .slice al ll cl, .slice ak m ck]] w fun e w' => e = .returned (.bool (formM 3 n s ll m R)) ∧ Below w.heap.size w w' := by
  have BEL : Hid (∀ o, Below w.heap.size w (w.alloc o)) := hide (fun o => (Below.refl _ _).alloc (Nat.le_refl _) o)
  go_enter Tryz.func113, Tryz.ntmps113
  go_wp2_with fail
  all_goals (go_ret; exact ⟨by simp_all [formM, beq0], unhide BEL _⟩)
set_option maxRecDepth 100000 in
set_option maxHeartbeats 400000 in
theorem formed4 (n : Int) (s : ByteArray) (ll m : Nat) (al ak : Option Addr) (cl ck : Nat) (w : World) (R : Bool) (hl : ll ≤ 140737488351232) (hm : m ≤ 140737488351232)
    (HC : ∀ o, Hid (Calls Tryz.prog 156 #[.slice ak m ck] (w.alloc o) fun e w' => e = .returned (.bool R) ∧ w' = w.alloc o)) :
    Calls Tryz.prog 113 #[.agg #[.int .i64 4, .int .i64 n, .string s, .slice al ll cl, .slice ak m ck]] w fun e w' => e = .returned (.bool (formM 4 n s ll m R)) ∧ Below w.heap.size w w' := by
  have BEL : Hid (∀ o, Below w.heap.size w (w.alloc o)) := hide (fun o => (Below.refl _ _).alloc (Nat.le_refl _) o)
  go_enter Tryz.func113, Tryz.ntmps113
  go_wp2_with fail
  all_goals (go_ret; exact ⟨by simp_all [formM, beq0], unhide BEL _⟩)
set_option maxRecDepth 100000 in
set_option maxHeartbeats 400000 in
theorem formed5a (n : Int) (s : ByteArray) (ll m : Nat) (al ak : Option Addr) (cl ck : Nat) (w : World) (R : Bool) (hl : ll ≤ 140737488351232) (hm : m ≤ 140737488351232)
    (HC : ∀ o, Hid (Calls Tryz.prog 156 #[.slice ak m ck] (w.alloc o) fun e w' => e = .returned (.bool R) ∧ w' = w.alloc o)) (hn : ¬ n = 0) :
    Calls Tryz.prog 113 #[.agg #[.int .i64 5, .int .i64 n, .string s, .slice al ll cl, .slice ak m ck]] w fun e w' => e = .returned (.bool (formM 5 n s ll m R)) ∧ Below w.heap.size w w' := by
  have BEL : Hid (∀ o, Below w.heap.size w (w.alloc o)) := hide (fun o => (Below.refl _ _).alloc (Nat.le_refl _) o)
  have HG : Hid (formM 5 n s ll m R = false) := hide (by simp [formM, hn])
  go_enter Tryz.func113, Tryz.ntmps113
  go_wp2_with fail
  all_goals (go_ret; exact ⟨by rw [unhide HG]; rfl, unhide BEL _⟩)
set_option maxRecDepth 100000 in
set_option maxHeartbeats 400000 in
theorem formed5b (n : Int) (s : ByteArray) (ll m : Nat) (al ak : Option Addr) (cl ck : Nat) (w : World) (R : Bool) (hl : ll ≤ 140737488351232) (hm : m ≤ 140737488351232)
    (HC : ∀ o, Hid (Calls Tryz.prog 156 #[.slice ak m ck] (w.alloc o) fun e w' => e = .returned (.bool R) ∧ w' = w.alloc o)) (hn : n = 0) (hs : ¬ s.toList = []) :
    Calls Tryz.prog 113 #[.agg #[.int .i64 5, .int .i64 n, .string s, .slice al ll cl, .slice ak m ck]] w fun e w' => e = .returned (.bool (formM 5 n s ll m R)) ∧ Below w.heap.size w w' := by
  have BEL : Hid (∀ o, Below w.heap.size w (w.alloc o)) := hide (fun o => (Below.refl _ _).alloc (Nat.le_refl _) o)
  subst hn
  have HG : Hid (formM 5 0 s ll m R = false) := hide (by simp [formM, hs])
  go_enter Tryz.func113, Tryz.ntmps113
  go_wp2_with fail
  all_goals (go_ret; exact ⟨by rw [unhide HG]; rfl, unhide BEL _⟩)
set_option maxRecDepth 100000 in
set_option maxHeartbeats 400000 in
theorem formed5c (n : Int) (s : ByteArray) (ll m : Nat) (al ak : Option Addr) (cl ck : Nat) (w : World) (R : Bool) (hl : ll ≤ 140737488351232) (hm : m ≤ 140737488351232)
    (HC : ∀ o, Hid (Calls Tryz.prog 156 #[.slice ak m ck] (w.alloc o) fun e w' => e = .returned (.bool R) ∧ w' = w.alloc o)) (hn : n = 0) (hs : s.toList = []) (hml : ¬ m = ll) :
    Calls Tryz.prog 113 #[.agg #[.int .i64 5, .int .i64 n, .string s, .slice al ll cl, .slice ak m ck]] w fun e w' => e = .returned (.bool (formM 5 n s ll m R)) ∧ Below w.heap.size w w' := by
  have BEL : Hid (∀ o, Below w.heap.size w (w.alloc o)) := hide (fun o => (Below.refl _ _).alloc (Nat.le_refl _) o)
  subst hn
  have HG : Hid (formM 5 0 s ll m R = false) := hide (by simp [formM, hml])
  have hml' : ¬ (m : Int) = (ll : Int) := by omega
  go_enter Tryz.func113, Tryz.ntmps113
  go_wp2_with fail
  all_goals (go_ret; exact ⟨by rw [unhide HG]; rfl, unhide BEL _⟩)
set_option maxRecDepth 100000 in
set_option maxHeartbeats 400000 in
theorem formed5d0 (n : Int) (s : ByteArray) (ll m : Nat) (al ak : Option Addr) (cl ck : Nat) (w : World) (R : Bool) (hl : ll ≤ 140737488351232) (hm : m ≤ 140737488351232)
    (HC : ∀ o, Hid (Calls Tryz.prog 156 #[.slice ak m ck] (w.alloc o) fun e w' => e = .returned (.bool R) ∧ w' = w.alloc o)) (hn : n = 0) (hs : s.toList = []) (hml : m = ll) (hm0 : m = 0) :
    Calls Tryz.prog 113 #[.agg #[.int .i64 5, .int .i64 n, .string s, .slice al ll cl, .slice ak m ck]] w fun e w' => e = .returned (.bool (formM 5 n s ll m R)) ∧ Below w.heap.size w w' := by
  have BEL : Hid (∀ o, Below w.heap.size w (w.alloc o)) := hide (fun o => (Below.refl _ _).alloc (Nat.le_refl _) o)
  subst hn
  subst hml
  subst hm0
  have HG : Hid (formM 5 0 s 0 0 R = R) := hide (by simp [formM, hs])
  obtain ⟨w1, hw1⟩ : ∃ w1, w.alloc (.cells #[.int .i64 5, .int .i64 0, .string s, .slice al 0 cl, .slice ak 0 ck] 29) = w1 := ⟨_, rfl⟩
  have HC1 := HC (.cells #[.int .i64 5, .int .i64 0, .string s, .slice al 0 cl, .slice ak 0 ck] 29)
  rw [hw1] at HC1
  have B1 := unhide BEL (.cells #[.int .i64 5, .int .i64 0, .string s, .slice al 0 cl, .slice ak 0 ck] 29)
  have BX := Box.mk' w (.int .i64 5) (.int .i64 0) (.string s) (.slice al 0 cl) (.slice ak 0 ck)
  rw [hw1] at B1 BX
  obtain ⟨c0, c1, c2, c3, c4⟩ := row_cell BX.row
  have HB1 := hide B1
  clear HC BEL B1 BX
  go_enter Tryz.func113, Tryz.ntmps113
  go_wp2_with fail
  refine (unhide HC1).mono ?_
  rintro e w2 ⟨rfl, rfl⟩
  go_wp2_with fail
  go_ret
  exact ⟨by rw [unhide HG]; rfl, unhide HB1⟩
set_option maxRecDepth 100000 in
set_option maxHeartbeats 400000 in
theorem formed5d1 (n : Int) (s : ByteArray) (ll m : Nat) (al ak : Option Addr) (cl ck : Nat) (w : World) (R : Bool) (hl : ll ≤ 140737488351232) (hm : m ≤ 140737488351232)
    (HC : ∀ o, Hid (Calls Tryz.prog 156 #[.slice ak m ck] (w.alloc o) fun e w' => e = .returned (.bool R) ∧ w' = w.alloc o)) (hn : n = 0) (hs : s.toList = []) (hml : m = ll) (hm0 : ¬ m = 0) :
    Calls Tryz.prog 113 #[.agg #[.int .i64 5, .int .i64 n, .string s, .slice al ll cl, .slice ak m ck]] w fun e w' => e = .returned (.bool (formM 5 n s ll m R)) ∧ Below w.heap.size w w' := by
  have BEL : Hid (∀ o, Below w.heap.size w (w.alloc o)) := hide (fun o => (Below.refl _ _).alloc (Nat.le_refl _) o)
  subst hn
  subst hml
  have HG : Hid (formM 5 0 s m m R = R) := hide (by simp [formM, hs])
  obtain ⟨w1, hw1⟩ : ∃ w1, w.alloc (.cells #[.int .i64 5, .int .i64 0, .string s, .slice al m cl, .slice ak m ck] 29) = w1 := ⟨_, rfl⟩
  have HC1 := HC (.cells #[.int .i64 5, .int .i64 0, .string s, .slice al m cl, .slice ak m ck] 29)
  rw [hw1] at HC1
  have B1 := unhide BEL (.cells #[.int .i64 5, .int .i64 0, .string s, .slice al m cl, .slice ak m ck] 29)
  have BX := Box.mk' w (.int .i64 5) (.int .i64 0) (.string s) (.slice al m cl) (.slice ak m ck)
  rw [hw1] at B1 BX
  obtain ⟨c0, c1, c2, c3, c4⟩ := row_cell BX.row
  have HB1 := hide B1
  clear HC BEL B1 BX
  go_enter Tryz.func113, Tryz.ntmps113
  go_wp2_with fail
  refine (unhide HC1).mono ?_
  rintro e w2 ⟨rfl, rfl⟩
  go_wp2_with fail
  go_ret
  exact ⟨by rw [unhide HG]; rfl, unhide HB1⟩
theorem formed5 (n : Int) (s : ByteArray) (ll m : Nat) (al ak : Option Addr) (cl ck : Nat) (w : World) (R : Bool) (hl : ll ≤ 140737488351232) (hm : m ≤ 140737488351232)
    (HC : ∀ o, Hid (Calls Tryz.prog 156 #[.slice ak m ck] (w.alloc o) fun e w' => e = .returned (.bool R) ∧ w' = w.alloc o)) :
    Calls Tryz.prog 113 #[.agg #[.int .i64 5, .int .i64 n, .string s, .slice al ll cl, .slice ak m ck]] w fun e w' => e = .returned (.bool (formM 5 n s ll m R)) ∧ Below w.heap.size w w' := by
  by_cases hn : n = 0
  · by_cases hs : s.toList = []
    · by_cases hml : m = ll
      · by_cases hm0 : m = 0
        · exact formed5d0 n s ll m al ak cl ck w R hl hm HC hn hs hml hm0
        · exact formed5d1 n s ll m al ak cl ck w R hl hm HC hn hs hml hm0
      · exact formed5c n s ll m al ak cl ck w R hl hm HC hn hs hml
    · exact formed5b n s ll m al ak cl ck w R hl hm HC hn hs
  · exact formed5a n s ll m al ak cl ck w R hl hm HC hn
set_option maxRecDepth 100000 in
set_option maxHeartbeats 400000 in
theorem formedX (kind : Int) (k0 : ¬ kind = 0) (k1 : ¬ kind = 1) (k2 : ¬ kind = 2) (k3 : ¬ kind = 3) (k4 : ¬ kind = 4) (k5 : ¬ kind = 5) (n : Int) (s : ByteArray) (ll m : Nat) (al ak : Option Addr) (cl ck : Nat) (w : World) (R : Bool) (hl : ll ≤ 140737488351232) (hm : m ≤ 140737488351232)
    (HC : ∀ o, Hid (Calls Tryz.prog 156 #[.slice ak m ck] (w.alloc o) fun e w' => e = .returned (.bool R) ∧ w' = w.alloc o)) :
    Calls Tryz.prog 113 #[.agg #[.int .i64 kind, .int .i64 n, .string s, .slice al ll cl, .slice ak m ck]] w fun e w' => e = .returned (.bool (formM kind n s ll m R)) ∧ Below w.heap.size w w' := by
  have BEL : Hid (∀ o, Below w.heap.size w (w.alloc o)) := hide (fun o => (Below.refl _ _).alloc (Nat.le_refl _) o)
  go_enter Tryz.func113, Tryz.ntmps113
  go_wp2_with fail
  all_goals (go_ret; exact ⟨by simp_all [formM, beq0], unhide BEL _⟩)
theorem formed_any (kind n : Int) (s : ByteArray) (ll : Nat) (ks : List ByteArray) (al ak : Option Addr) (cl ck : Nat) (w : World) (h : IsK w ks ak ck) (hl : ll ≤ 140737488351232) :
    Calls Tryz.prog 113 #[.agg #[.int .i64 kind, .int .i64 n, .string s, .slice al ll cl, .slice ak ks.length ck]] w fun e w' => e = .returned (.bool (formB kind n s ll ks)) ∧ Below w.heap.size w w' := by
  have HC : ∀ o, Hid (Calls Tryz.prog 156 #[.slice ak ks.length ck] (w.alloc o) fun e w' => e = .returned (.bool (risingFrom none ks)) ∧ w' = w.alloc o) := fun o => hide (rising_any ks ak ck (w.alloc o) (h.mono ((Below.refl _ _).alloc (Nat.le_refl _) o)))
  have hm : ks.length ≤ 140737488351232 := h.bnd
  rw [formB_is]
  by_cases k0 : kind = 0
  · subst k0; exact formed0 n s ll _ al ak cl ck w _ hl hm HC
  by_cases k1 : kind = 1
  · subst k1; exact formed1 n s ll _ al ak cl ck w _ hl hm HC
  by_cases k2 : kind = 2
  · subst k2; exact formed2 n s ll _ al ak cl ck w _ hl hm HC
  by_cases k3 : kind = 3
  · subst k3; exact formed3 n s ll _ al ak cl ck w _ hl hm HC
  by_cases k4 : kind = 4
  · subst k4; exact formed4 n s ll _ al ak cl ck w _ hl hm HC
  by_cases k5 : kind = 5
  · subst k5; exact formed5 n s ll _ al ak cl ck w _ hl hm HC
  exact formedX kind k0 k1 k2 k3 k4 k5 n s ll _ al ak cl ck w _ hl hm HC
theorem keysW_app (a b : List ByteArray) : keysW (a ++ b) = keysW a + keysW b := by
  induction a with
  | nil => simp [keysW]
  | cons x r ih => simp [keysW, ih]; omega
theorem keysW_next (l : List ByteArray) (i : Nat) (t : ByteArray) (h : l[i]? = some t) : keysW (l.take (i + 1)) = keysW (l.take i) + (1 + t.size) := by
  obtain ⟨hi, rfl⟩ := List.getElem?_eq_some_iff.1 h
  rw [List.take_succ_eq_append_getElem hi, keysW_app]
  simp [keysW]
theorem keysW_le (l : List ByteArray) (h : ∀ t ∈ l, t.size ≤ 32) : keysW l ≤ 33 * l.length := by
  induction l with
  | nil => simp [keysW]
  | cons x r ih =>
    have h1 := h x (by simp)
    have h2 := ih (fun t ht => h t (by simp [ht]))
    simp [keysW]
    omega
set_option maxRecDepth 100000 in
set_option maxHeartbeats 400000 in
theorem alone_any (kind n : Int) (s : ByteArray) (ll : Nat) (ks : List ByteArray) (al ak : Option Addr) (cl ck : Nat) (w : World) (h : IsK w ks ak ck) (hs : s.size ≤ 140737488351232) (h32 : ∀ t ∈ ks, t.size ≤ 32) :
    Calls Tryz.prog 114 #[.agg #[.int .i64 kind, .int .i64 n, .string s, .slice al ll cl, .slice ak ks.length ck]] w fun e w' => e = .returned (.int .i64 ((1 + s.size + keysW ks : Nat) : Int)) ∧ Below w.heap.size w w' := by
  obtain ⟨m, hm⟩ : ∃ m, ks.length = m := ⟨_, rfl⟩
  obtain ⟨w1, hw1⟩ : ∃ w1, w.alloc (.cells #[.int .i64 kind, .int .i64 n, .string s, .slice al ll cl, .slice ak m ck] 29) = w1 := ⟨_, rfl⟩
  have BX := Box.mk' w (.int .i64 kind) (.int .i64 n) (.string s) (.slice al ll cl) (.slice ak m ck)
  rw [hw1] at BX
  obtain ⟨c0, c1, c2, c3, c4⟩ := row_cell BX.row
  have HH := hide (h.mono BX.below)
  have HB := hide BX.below
  have hn := h.len
  have hb := h.bnd
  have HKW := hide (fun i => keysW_le (ks.take i) (fun t ht => h32 t (List.mem_of_mem_take ht)))
  have HS := hide h32
  rw [hm] at hn hb ⊢
  have HM := hide hm
  clear BX h h32 hm
  obtain ⟨S, hS⟩ : ∃ S, s.size = S := ⟨_, rfl⟩
  rw [hS] at hs ⊢
  go_enter Tryz.func114, Tryz.ntmps114
  go_wp2_with fail
  go_loopw [3, 13] (fun y x wr => ∃ i : Nat, i ≤ m ∧ x = .int .i64 i ∧ y = .int .i64 ((1 + S + keysW (ks.take i) : Nat) : Int) ∧ wr = w1) (fun _ x _ => m - (intOf x).toNat)
  case atStart => exact ⟨0, by omega, rfl, by simp [keysW], rfl⟩
  case round =>
    obtain ⟨i, hi, rfl, rfl, rfl⟩ := hrel
    by_cases hlt : i < m
    · obtain ⟨t, ht⟩ : ∃ t, ks[i]? = some t := ⟨_, List.getElem?_eq_getElem (by have := unhide HM; omega)⟩
      obtain ⟨a, rfl⟩ : ∃ a, ak = some a := by
        cases ak with
        | none => have := (unhide HH).none rfl; have := unhide HM; omega
        | some a => exact ⟨a, rfl⟩
      have c5 := (unhide HH).cell a rfl i t ht
      have t32 := unhide HS t (List.mem_of_getElem? ht)
      have hnx := keysW_next ks i t ht
      have hkw := unhide HKW i
      rw [List.length_take, Nat.min_eq_left (by have := unhide HM; omega)] at hkw
      obtain ⟨X, hX⟩ : ∃ X, keysW (ks.take i) = X := ⟨_, rfl⟩
      obtain ⟨u, hu⟩ : ∃ u, t.size = u := ⟨_, rfl⟩
      rw [hX, hu] at hnx
      rw [hX] at hkw ⊢
      rw [hu] at t32
      have HNX := hide hnx
      have e1 : (((1 + S + X : Nat) : Int) + (1 + (u : Int))) = ((1 + S + (X + (1 + u)) : Nat) : Int) := by omega
      have e2 : IntKind.i64.wrap (1 + (u : Int)) = 1 + (u : Int) := by rw [IntKind.wrap_i64]; omega
      have e3 : IntKind.i64.wrap (((1 + S + X : Nat) : Int) + (1 + (u : Int))) = ((1 + S + (X + (1 + u)) : Nat) : Int) := by rw [IntKind.wrap_i64]; omega
      clear hnx ht
      obtain ⟨Y, hY⟩ : ∃ Y, 1 + S + X = Y := ⟨_, rfl⟩
      rw [hY] at e1 e3 ⊢
      go_wp2_with fail
      go_roundw
      case rel => exact ⟨i + 1, by omega, by go_num, by rw [unhide HNX]; go_num, trivial⟩
      case measure => simp [intOf]; omega
    · have hi' : i = m := by omega
      subst hi'
      go_wp2_with fail
      go_ret
      exact ⟨by rw [List.take_of_length_le (by have := unhide HM; omega)]; rfl, unhide HB⟩
end Go.Proofs.YtmnbfcpkaglniaaGreatDoor
