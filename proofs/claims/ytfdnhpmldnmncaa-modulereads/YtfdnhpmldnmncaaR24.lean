/-
  The document's own reader of wire: a key; conditions: the weight so far is at most 2048, the form's own reach.
-/
import Derived.Test.YtfdnhpmldnmncaaR11
namespace Go.Proofs.Ytfdnhpmldnmncaa
open Go.RowKit
set_option linter.unusedVariables false
set_option linter.unusedSimpArgs false

set_option maxRecDepth 100000 in
set_option maxHeartbeats 400000 in
theorem key_f_bad (gr : Nat) (ao : Option Addr) (len cap : Nat) (p t : Int) (zs : List Int) (fi : Bool) (la : ByteArray) (w : World) (h : Rf w gr (.slice ao len cap) p t 0 0) (hS : Src w gr ao len cap zs) (n nx e : Int) (hr : uintAt zs p = (n, nx, e)) (he : ¬ e = 0) :
    Calls Try.prog 71 #[.pointer (some ⟨gr, 0, none⟩), .bool fi, .string la] w fun x w' => ∃ s p' t', x = .returned (.string s) ∧ Rf w' gr (.slice ao len cap) p' t' 41 p ∧ Beside gr w w' := by
  obtain ⟨c0, c1, c2, c3, c4, f1, f2, f3, f4⟩ := h.cells
  have CI := hide (refUint_any ao len cap p zs w hS.row hS.cap)
  rw [hr] at CI
  dsimp only at CI
  have hb : (e != 0) = true := by simp [he]
  have CW := hide (wrong_ok gr _ p t 0 41 p w h)
  clear h hr hS
  go_enter Try.func71, Try.ntmps71
  go_wp2_with fail
  refine (unhide CI).mono ?_
  rintro e' w1 ⟨rfl, rfl⟩
  go_wp2_with fail
  refine (unhide CW).mono ?_
  rintro x w2 ⟨rfl, r2, b2⟩
  go_wp2_with fail
  go_ret
  exact ⟨_, _, _, rfl, r2, b2⟩

set_option maxRecDepth 100000 in
set_option maxHeartbeats 400000 in
theorem key_f_long (gr : Nat) (ao : Option Addr) (len cap : Nat) (p t : Int) (zs : List Int) (fi : Bool) (la : ByteArray) (w : World) (h : Rf w gr (.slice ao len cap) p t 0 0) (hS : Src w gr ao len cap zs) (n nx : Int) (hr : uintAt zs p = (n, nx, 0)) (hn : 32 < n) :
    Calls Try.prog 71 #[.pointer (some ⟨gr, 0, none⟩), .bool fi, .string la] w fun x w' => ∃ s p' t', x = .returned (.string s) ∧ Rf w' gr (.slice ao len cap) p' t' 41 p ∧ Beside gr w w' := by
  obtain ⟨c0, c1, c2, c3, c4, f1, f2, f3, f4⟩ := h.cells
  have CI := hide (refUint_any ao len cap p zs w hS.row hS.cap)
  rw [hr] at CI
  dsimp only at CI
  have CW := hide (wrong_ok gr _ p t 0 41 p w h)
  clear h hr hS
  go_enter Try.func71, Try.ntmps71
  go_wp2_with fail
  refine (unhide CI).mono ?_
  rintro e' w1 ⟨rfl, rfl⟩
  go_wp2_with fail
  refine (unhide CW).mono ?_
  rintro x w2 ⟨rfl, r2, b2⟩
  go_wp2_with fail
  go_ret
  exact ⟨_, _, _, rfl, r2, b2⟩

set_option maxRecDepth 100000 in
set_option maxHeartbeats 400000 in
theorem key_f_short (gr : Nat) (ao : Option Addr) (len cap : Nat) (p t : Int) (zs : List Int) (fi : Bool) (la : ByteArray) (w : World) (h : Rf w gr (.slice ao len cap) p t 0 0) (hS : Src w gr ao len cap zs) (m nx : Nat) (hr : uintAt zs p = ((m : Int), (nx : Int), 0)) (hm : m ≤ 32) (hnx : nx ≤ len) (hn : (len : Int) - (nx : Int) < (m : Int)) :
    Calls Try.prog 71 #[.pointer (some ⟨gr, 0, none⟩), .bool fi, .string la] w fun x w' => ∃ s p' t', x = .returned (.string s) ∧ Rf w' gr (.slice ao len cap) p' t' 41 p ∧ Beside gr w w' := by
  obtain ⟨c0, c1, c2, c3, c4, f1, f2, f3, f4⟩ := h.cells
  have CI := hide (refUint_any ao len cap p zs w hS.row hS.cap)
  rw [hr] at CI
  dsimp only at CI
  have CW := hide (wrong_ok gr _ p t 0 41 p w h)
  have hl : len ≤ 9223372036854775807 := by have := hS.cap; have := hS.row.le; unfold maxLen at *; omega
  have g0 : ¬ (32 : Int) < (m : Int) := by omega
  have w1 : IntKind.i64.wrap (m : Int) = (m : Int) := by rw [IntKind.wrap_i64]; omega
  have w2 : IntKind.i64.wrap ((len : Int) - (nx : Int)) = (len : Int) - (nx : Int) := by rw [IntKind.wrap_i64]; omega
  clear h hr hS
  go_enter Try.func71, Try.ntmps71
  go_wp2_with fail
  refine (unhide CI).mono ?_
  rintro e' w1 ⟨rfl, rfl⟩
  go_wp2_with fail
  refine (unhide CW).mono ?_
  rintro x w2 ⟨rfl, r2, b2⟩
  go_wp2_with fail
  go_ret
  exact ⟨_, _, _, rfl, r2, b2⟩

set_option maxRecDepth 100000 in
set_option maxHeartbeats 400000 in
theorem key_f_order (gr : Nat) (ao : Option Addr) (len cap : Nat) (p t : Int) (zs : List Int) (la : ByteArray) (w : World) (h : Rf w gr (.slice ao len cap) p t 0 0) (hS : Src w gr ao len cap zs) (m nx : Nat) (hr : uintAt zs p = ((m : Int), (nx : Int), 0)) (hm : m ≤ 32) (hnx : nx + m ≤ len) (ht : 0 ≤ t ∧ t ≤ 2048) (s : ByteArray) (hs : strOfNums ((zs.drop nx).take m) = s) (hsz : s.size = m) (hle : (Op.bytesLess s.toList la.toList || s.toList == la.toList) = true) :
    Calls Try.prog 71 #[.pointer (some ⟨gr, 0, none⟩), .bool false, .string la] w fun x w' => ∃ s p' t', x = .returned (.string s) ∧ Rf w' gr (.slice ao len cap) p' t' 41 p ∧ Beside gr w w' := by
  obtain ⟨c0, c1, c2, c3, c4, f1, f2, f3, f4⟩ := h.cells
  have CI := hide (refUint_any ao len cap p zs w hS.row hS.cap)
  rw [hr] at CI
  dsimp only at CI
  have hl := hS.row.length
  have hle' := hS.row.le
  have hcp : cap ≤ 9223372036854775807 := by have := hS.cap; unfold maxLen at this; omega
  have CW := hide (wrong_ok gr _ p t 0 41 p w h)
  have g0 : ¬ (32 : Int) < (m : Int) := by omega
  have w1 : IntKind.i64.wrap (m : Int) = (m : Int) := by rw [IntKind.wrap_i64]; omega
  have w2 : IntKind.i64.wrap ((len : Int) - (nx : Int)) = (len : Int) - (nx : Int) := by rw [IntKind.wrap_i64]; omega
  have w3 : IntKind.i64.wrap ((nx : Int) + (m : Int)) = (nx : Int) + (m : Int) := by rw [IntKind.wrap_i64]; omega
  have w4 : IntKind.i64.wrap (1 + (m : Int)) = 1 + (m : Int) := by rw [IntKind.wrap_i64]; omega
  have g1 : ¬ (len : Int) - (nx : Int) < (m : Int) := by omega
  have hnl : (nx : Int) ≤ (len : Int) := by omega
  have hz8 : (s.size : Int) = (m : Int) := by omega
  obtain ⟨u0, k0, a0, _, _, b0, n0, _, _⟩ := uint_form zs p hS.row.small (by rw [hr])
  rw [hr] at n0
  dsimp only at n0
  obtain ⟨b, off, rfl, hcell⟩ := hS.row.at (by omega)
  by_cases hc : cap = nx
  · have hm0 : m = 0 := by omega
    subst hm0
    have k2 : Sem.run Try.prog (convert 22 9 (.slice (some ⟨b, off, none⟩) 0 0)) w = .ok (.string s) w := by rw [← hs]; exact conv_row hl hcell 0 0 0 (by omega) 0
    clear h hr hS hcell hs hl a0 b0 n0 hsz
    obtain rfl : nx = len := by omega
    subst hc
    go_enter Try.func71, Try.ntmps71
    go_wp2_with fail
    refine (unhide CI).mono ?_
    rintro e' w1 ⟨rfl, rfl⟩
    go_wp2_with fail
    refine (unhide CW).mono ?_
    rintro x w2 ⟨rfl, r2, b2⟩
    go_wp2_with fail
    go_ret
    exact ⟨_, _, _, rfl, r2, b2⟩
  · have k2 : Sem.run Try.prog (convert 22 9 (.slice (some ⟨b, off + nx, none⟩) m (cap - nx))) w = .ok (.string s) w := by rw [← hs]; exact conv_row hl hcell nx m (cap - nx) (by omega) 0
    clear h hr hS hcell hs hl a0 b0 n0 hsz
    go_enter Try.func71, Try.ntmps71
    go_wp2_with fail
    refine (unhide CI).mono ?_
    rintro e' w1 ⟨rfl, rfl⟩
    go_wp2_with fail
    refine (unhide CW).mono ?_
    rintro x w2 ⟨rfl, r2, b2⟩
    go_wp2_with fail
    go_ret
    exact ⟨_, _, _, rfl, r2, b2⟩

set_option maxRecDepth 100000 in
set_option maxHeartbeats 400000 in
theorem key_f_heavy0 (gr : Nat) (ao : Option Addr) (len cap : Nat) (p t : Int) (zs : List Int) (la : ByteArray) (w : World) (h : Rf w gr (.slice ao len cap) p t 0 0) (hS : Src w gr ao len cap zs) (m nx : Nat) (hr : uintAt zs p = ((m : Int), (nx : Int), 0)) (hm : m ≤ 32) (hnx : nx + m ≤ len) (ht : 0 ≤ t ∧ t ≤ 2048) (s : ByteArray) (hs : strOfNums ((zs.drop nx).take m) = s) (hsz : s.size = m) (hh : 2048 < t + (1 + (m : Int))) :
    Calls Try.prog 71 #[.pointer (some ⟨gr, 0, none⟩), .bool true, .string la] w fun x w' => ∃ s p' t', x = .returned (.string s) ∧ Rf w' gr (.slice ao len cap) p' t' 42 p ∧ Beside gr w w' := by
  obtain ⟨c0, c1, c2, c3, c4, f1, f2, f3, f4⟩ := h.cells
  have CI := hide (refUint_any ao len cap p zs w hS.row hS.cap)
  rw [hr] at CI
  dsimp only at CI
  have hl := hS.row.length
  have hle' := hS.row.le
  have hcp : cap ≤ 9223372036854775807 := by have := hS.cap; unfold maxLen at this; omega
  have CW := hide (heavier_bad gr _ ((nx : Int) + (m : Int)) t (1 + (m : Int)) 0 p _ (h.setAt _) ht (by omega) hh)
  have g0 : ¬ (32 : Int) < (m : Int) := by omega
  have w1 : IntKind.i64.wrap (m : Int) = (m : Int) := by rw [IntKind.wrap_i64]; omega
  have w2 : IntKind.i64.wrap ((len : Int) - (nx : Int)) = (len : Int) - (nx : Int) := by rw [IntKind.wrap_i64]; omega
  have w3 : IntKind.i64.wrap ((nx : Int) + (m : Int)) = (nx : Int) + (m : Int) := by rw [IntKind.wrap_i64]; omega
  have w4 : IntKind.i64.wrap (1 + (m : Int)) = 1 + (m : Int) := by rw [IntKind.wrap_i64]; omega
  have g1 : ¬ (len : Int) - (nx : Int) < (m : Int) := by omega
  have hnl : (nx : Int) ≤ (len : Int) := by omega
  have hz8 : (s.size : Int) = (m : Int) := by omega
  obtain ⟨u0, k0, a0, _, _, b0, n0, _, _⟩ := uint_form zs p hS.row.small (by rw [hr])
  rw [hr] at n0
  dsimp only at n0
  obtain ⟨b, off, rfl, hcell⟩ := hS.row.at (by omega)
  by_cases hc : cap = nx
  · have hm0 : m = 0 := by omega
    subst hm0
    have k2 : Sem.run Try.prog (convert 22 9 (.slice (some ⟨b, off, none⟩) 0 0)) w = .ok (.string s) w := by rw [← hs]; exact conv_row hl hcell 0 0 0 (by omega) 0
    clear h hr hS hcell hs hl a0 b0 n0 hsz
    obtain rfl : nx = len := by omega
    subst hc
    go_enter Try.func71, Try.ntmps71
    go_wp2_with fail
    refine (unhide CI).mono ?_
    rintro e' w1 ⟨rfl, rfl⟩
    go_wp2_with fail
    refine (unhide CW).mono ?_
    rintro x w2 ⟨rfl, r2, b2⟩
    go_wp2_with fail
    go_ret
    exact ⟨_, _, _, rfl, r2, ((Beside.refl _ _).set).trans b2⟩
  · have k2 : Sem.run Try.prog (convert 22 9 (.slice (some ⟨b, off + nx, none⟩) m (cap - nx))) w = .ok (.string s) w := by rw [← hs]; exact conv_row hl hcell nx m (cap - nx) (by omega) 0
    clear h hr hS hcell hs hl a0 b0 n0 hsz
    go_enter Try.func71, Try.ntmps71
    go_wp2_with fail
    refine (unhide CI).mono ?_
    rintro e' w1 ⟨rfl, rfl⟩
    go_wp2_with fail
    refine (unhide CW).mono ?_
    rintro x w2 ⟨rfl, r2, b2⟩
    go_wp2_with fail
    go_ret
    exact ⟨_, _, _, rfl, r2, ((Beside.refl _ _).set).trans b2⟩

set_option maxRecDepth 100000 in
set_option maxHeartbeats 400000 in
theorem key_f_heavy1 (gr : Nat) (ao : Option Addr) (len cap : Nat) (p t : Int) (zs : List Int) (la : ByteArray) (w : World) (h : Rf w gr (.slice ao len cap) p t 0 0) (hS : Src w gr ao len cap zs) (m nx : Nat) (hr : uintAt zs p = ((m : Int), (nx : Int), 0)) (hm : m ≤ 32) (hnx : nx + m ≤ len) (ht : 0 ≤ t ∧ t ≤ 2048) (s : ByteArray) (hs : strOfNums ((zs.drop nx).take m) = s) (hsz : s.size = m) (hle : (Op.bytesLess s.toList la.toList || s.toList == la.toList) = false) (hh : 2048 < t + (1 + (m : Int))) :
    Calls Try.prog 71 #[.pointer (some ⟨gr, 0, none⟩), .bool false, .string la] w fun x w' => ∃ s p' t', x = .returned (.string s) ∧ Rf w' gr (.slice ao len cap) p' t' 42 p ∧ Beside gr w w' := by
  obtain ⟨c0, c1, c2, c3, c4, f1, f2, f3, f4⟩ := h.cells
  have CI := hide (refUint_any ao len cap p zs w hS.row hS.cap)
  rw [hr] at CI
  dsimp only at CI
  have hl := hS.row.length
  have hle' := hS.row.le
  have hcp : cap ≤ 9223372036854775807 := by have := hS.cap; unfold maxLen at this; omega
  have CW := hide (heavier_bad gr _ ((nx : Int) + (m : Int)) t (1 + (m : Int)) 0 p _ (h.setAt _) ht (by omega) hh)
  have g0 : ¬ (32 : Int) < (m : Int) := by omega
  have w1 : IntKind.i64.wrap (m : Int) = (m : Int) := by rw [IntKind.wrap_i64]; omega
  have w2 : IntKind.i64.wrap ((len : Int) - (nx : Int)) = (len : Int) - (nx : Int) := by rw [IntKind.wrap_i64]; omega
  have w3 : IntKind.i64.wrap ((nx : Int) + (m : Int)) = (nx : Int) + (m : Int) := by rw [IntKind.wrap_i64]; omega
  have w4 : IntKind.i64.wrap (1 + (m : Int)) = 1 + (m : Int) := by rw [IntKind.wrap_i64]; omega
  have g1 : ¬ (len : Int) - (nx : Int) < (m : Int) := by omega
  have hnl : (nx : Int) ≤ (len : Int) := by omega
  have hz8 : (s.size : Int) = (m : Int) := by omega
  obtain ⟨u0, k0, a0, _, _, b0, n0, _, _⟩ := uint_form zs p hS.row.small (by rw [hr])
  rw [hr] at n0
  dsimp only at n0
  obtain ⟨b, off, rfl, hcell⟩ := hS.row.at (by omega)
  by_cases hc : cap = nx
  · have hm0 : m = 0 := by omega
    subst hm0
    have k2 : Sem.run Try.prog (convert 22 9 (.slice (some ⟨b, off, none⟩) 0 0)) w = .ok (.string s) w := by rw [← hs]; exact conv_row hl hcell 0 0 0 (by omega) 0
    clear h hr hS hcell hs hl a0 b0 n0 hsz
    obtain rfl : nx = len := by omega
    subst hc
    go_enter Try.func71, Try.ntmps71
    go_wp2_with fail
    refine (unhide CI).mono ?_
    rintro e' w1 ⟨rfl, rfl⟩
    go_wp2_with fail
    refine (unhide CW).mono ?_
    rintro x w2 ⟨rfl, r2, b2⟩
    go_wp2_with fail
    go_ret
    exact ⟨_, _, _, rfl, r2, ((Beside.refl _ _).set).trans b2⟩
  · have k2 : Sem.run Try.prog (convert 22 9 (.slice (some ⟨b, off + nx, none⟩) m (cap - nx))) w = .ok (.string s) w := by rw [← hs]; exact conv_row hl hcell nx m (cap - nx) (by omega) 0
    clear h hr hS hcell hs hl a0 b0 n0 hsz
    go_enter Try.func71, Try.ntmps71
    go_wp2_with fail
    refine (unhide CI).mono ?_
    rintro e' w1 ⟨rfl, rfl⟩
    go_wp2_with fail
    refine (unhide CW).mono ?_
    rintro x w2 ⟨rfl, r2, b2⟩
    go_wp2_with fail
    go_ret
    exact ⟨_, _, _, rfl, r2, ((Beside.refl _ _).set).trans b2⟩

set_option maxRecDepth 100000 in
set_option maxHeartbeats 400000 in
theorem key_f_ok0 (gr : Nat) (ao : Option Addr) (len cap : Nat) (p t : Int) (zs : List Int) (la : ByteArray) (w : World) (h : Rf w gr (.slice ao len cap) p t 0 0) (hS : Src w gr ao len cap zs) (m nx : Nat) (hr : uintAt zs p = ((m : Int), (nx : Int), 0)) (hm : m ≤ 32) (hnx : nx + m ≤ len) (ht : 0 ≤ t ∧ t ≤ 2048) (s : ByteArray) (hs : strOfNums ((zs.drop nx).take m) = s) (hsz : s.size = m) (hh : ¬ 2048 < t + (1 + (m : Int))) :
    Calls Try.prog 71 #[.pointer (some ⟨gr, 0, none⟩), .bool true, .string la] w fun x w' => x = .returned (.string s) ∧ Rf w' gr (.slice ao len cap) ((nx : Int) + (m : Int)) (t + (1 + (m : Int))) 0 0 ∧ Beside gr w w' := by
  obtain ⟨c0, c1, c2, c3, c4, f1, f2, f3, f4⟩ := h.cells
  have CI := hide (refUint_any ao len cap p zs w hS.row hS.cap)
  rw [hr] at CI
  dsimp only at CI
  have hl := hS.row.length
  have hle' := hS.row.le
  have hcp : cap ≤ 9223372036854775807 := by have := hS.cap; unfold maxLen at this; omega
  have CW := hide (heavier_ok gr _ ((nx : Int) + (m : Int)) t (1 + (m : Int)) 0 0 p _ (h.setAt _) ht (by omega) hh)
  have g0 : ¬ (32 : Int) < (m : Int) := by omega
  have w1 : IntKind.i64.wrap (m : Int) = (m : Int) := by rw [IntKind.wrap_i64]; omega
  have w2 : IntKind.i64.wrap ((len : Int) - (nx : Int)) = (len : Int) - (nx : Int) := by rw [IntKind.wrap_i64]; omega
  have w3 : IntKind.i64.wrap ((nx : Int) + (m : Int)) = (nx : Int) + (m : Int) := by rw [IntKind.wrap_i64]; omega
  have w4 : IntKind.i64.wrap (1 + (m : Int)) = 1 + (m : Int) := by rw [IntKind.wrap_i64]; omega
  have g1 : ¬ (len : Int) - (nx : Int) < (m : Int) := by omega
  have hnl : (nx : Int) ≤ (len : Int) := by omega
  have hz8 : (s.size : Int) = (m : Int) := by omega
  obtain ⟨u0, k0, a0, _, _, b0, n0, _, _⟩ := uint_form zs p hS.row.small (by rw [hr])
  rw [hr] at n0
  dsimp only at n0
  obtain ⟨b, off, rfl, hcell⟩ := hS.row.at (by omega)
  by_cases hc : cap = nx
  · have hm0 : m = 0 := by omega
    subst hm0
    have k2 : Sem.run Try.prog (convert 22 9 (.slice (some ⟨b, off, none⟩) 0 0)) w = .ok (.string s) w := by rw [← hs]; exact conv_row hl hcell 0 0 0 (by omega) 0
    clear h hr hS hcell hs hl a0 b0 n0 hsz
    obtain rfl : nx = len := by omega
    subst hc
    go_enter Try.func71, Try.ntmps71
    go_wp2_with fail
    refine (unhide CI).mono ?_
    rintro e' w1 ⟨rfl, rfl⟩
    go_wp2_with fail
    refine (unhide CW).mono ?_
    rintro x w2 ⟨rfl, r2, b2⟩
    go_wp2_with fail
    go_ret
    exact ⟨rfl, r2, ((Beside.refl _ _).set).trans b2⟩
  · have k2 : Sem.run Try.prog (convert 22 9 (.slice (some ⟨b, off + nx, none⟩) m (cap - nx))) w = .ok (.string s) w := by rw [← hs]; exact conv_row hl hcell nx m (cap - nx) (by omega) 0
    clear h hr hS hcell hs hl a0 b0 n0 hsz
    go_enter Try.func71, Try.ntmps71
    go_wp2_with fail
    refine (unhide CI).mono ?_
    rintro e' w1 ⟨rfl, rfl⟩
    go_wp2_with fail
    refine (unhide CW).mono ?_
    rintro x w2 ⟨rfl, r2, b2⟩
    go_wp2_with fail
    go_ret
    exact ⟨rfl, r2, ((Beside.refl _ _).set).trans b2⟩

set_option maxRecDepth 100000 in
set_option maxHeartbeats 400000 in
theorem key_f_ok1 (gr : Nat) (ao : Option Addr) (len cap : Nat) (p t : Int) (zs : List Int) (la : ByteArray) (w : World) (h : Rf w gr (.slice ao len cap) p t 0 0) (hS : Src w gr ao len cap zs) (m nx : Nat) (hr : uintAt zs p = ((m : Int), (nx : Int), 0)) (hm : m ≤ 32) (hnx : nx + m ≤ len) (ht : 0 ≤ t ∧ t ≤ 2048) (s : ByteArray) (hs : strOfNums ((zs.drop nx).take m) = s) (hsz : s.size = m) (hle : (Op.bytesLess s.toList la.toList || s.toList == la.toList) = false) (hh : ¬ 2048 < t + (1 + (m : Int))) :
    Calls Try.prog 71 #[.pointer (some ⟨gr, 0, none⟩), .bool false, .string la] w fun x w' => x = .returned (.string s) ∧ Rf w' gr (.slice ao len cap) ((nx : Int) + (m : Int)) (t + (1 + (m : Int))) 0 0 ∧ Beside gr w w' := by
  obtain ⟨c0, c1, c2, c3, c4, f1, f2, f3, f4⟩ := h.cells
  have CI := hide (refUint_any ao len cap p zs w hS.row hS.cap)
  rw [hr] at CI
  dsimp only at CI
  have hl := hS.row.length
  have hle' := hS.row.le
  have hcp : cap ≤ 9223372036854775807 := by have := hS.cap; unfold maxLen at this; omega
  have CW := hide (heavier_ok gr _ ((nx : Int) + (m : Int)) t (1 + (m : Int)) 0 0 p _ (h.setAt _) ht (by omega) hh)
  have g0 : ¬ (32 : Int) < (m : Int) := by omega
  have w1 : IntKind.i64.wrap (m : Int) = (m : Int) := by rw [IntKind.wrap_i64]; omega
  have w2 : IntKind.i64.wrap ((len : Int) - (nx : Int)) = (len : Int) - (nx : Int) := by rw [IntKind.wrap_i64]; omega
  have w3 : IntKind.i64.wrap ((nx : Int) + (m : Int)) = (nx : Int) + (m : Int) := by rw [IntKind.wrap_i64]; omega
  have w4 : IntKind.i64.wrap (1 + (m : Int)) = 1 + (m : Int) := by rw [IntKind.wrap_i64]; omega
  have g1 : ¬ (len : Int) - (nx : Int) < (m : Int) := by omega
  have hnl : (nx : Int) ≤ (len : Int) := by omega
  have hz8 : (s.size : Int) = (m : Int) := by omega
  obtain ⟨u0, k0, a0, _, _, b0, n0, _, _⟩ := uint_form zs p hS.row.small (by rw [hr])
  rw [hr] at n0
  dsimp only at n0
  obtain ⟨b, off, rfl, hcell⟩ := hS.row.at (by omega)
  by_cases hc : cap = nx
  · have hm0 : m = 0 := by omega
    subst hm0
    have k2 : Sem.run Try.prog (convert 22 9 (.slice (some ⟨b, off, none⟩) 0 0)) w = .ok (.string s) w := by rw [← hs]; exact conv_row hl hcell 0 0 0 (by omega) 0
    clear h hr hS hcell hs hl a0 b0 n0 hsz
    obtain rfl : nx = len := by omega
    subst hc
    go_enter Try.func71, Try.ntmps71
    go_wp2_with fail
    refine (unhide CI).mono ?_
    rintro e' w1 ⟨rfl, rfl⟩
    go_wp2_with fail
    refine (unhide CW).mono ?_
    rintro x w2 ⟨rfl, r2, b2⟩
    go_wp2_with fail
    go_ret
    exact ⟨rfl, r2, ((Beside.refl _ _).set).trans b2⟩
  · have k2 : Sem.run Try.prog (convert 22 9 (.slice (some ⟨b, off + nx, none⟩) m (cap - nx))) w = .ok (.string s) w := by rw [← hs]; exact conv_row hl hcell nx m (cap - nx) (by omega) 0
    clear h hr hS hcell hs hl a0 b0 n0 hsz
    go_enter Try.func71, Try.ntmps71
    go_wp2_with fail
    refine (unhide CI).mono ?_
    rintro e' w1 ⟨rfl, rfl⟩
    go_wp2_with fail
    refine (unhide CW).mono ?_
    rintro x w2 ⟨rfl, r2, b2⟩
    go_wp2_with fail
    go_ret
    exact ⟨rfl, r2, ((Beside.refl _ _).set).trans b2⟩

/-- how key ends -/
def ResKf (gr : Nat) (bv : Value) (w : World) (r : Except (Int × Int) (ByteArray × Nat × Nat)) (e : Ending) (w' : World) : Prop :=
  match r with
  | .error p => ∃ s p' t', e = .returned (.string s) ∧ Rf w' gr bv p' t' p.1 p.2 ∧ Beside gr w w'
  | .ok (s, a', t') => e = .returned (.string s) ∧ Rf w' gr bv a' t' 0 0 ∧ Beside gr w w'

theorem key_f (zs : List Int) (last : Option ByteArray) (la : ByteArray) (hla : ∀ x, last = some x → la = x) (a t gr : Nat) (ao : Option Addr) (len cap : Nat) (w : World) (h : Rf w gr (.slice ao len cap) a t 0 0) (hS : Src w gr ao len cap zs) (ht : t ≤ 2048) :
    Calls Try.prog 71 #[.pointer (some ⟨gr, 0, none⟩), .bool last.isNone, .string la] w fun e w' => ResKf gr (.slice ao len cap) w (rdKey zs last a t) e w' := by
  cases hu : uintAt zs a with
  | mk n r =>
    obtain ⟨nx, e⟩ := r
    by_cases h0 : e = 0
    · subst h0
      obtain ⟨u0, k0, a0, _, _, b0, n0, _, p0⟩ := uint_form zs a hS.row.small (by rw [hu])
      rw [hu] at n0 p0
      dsimp only at n0 p0
      obtain ⟨m, rfl⟩ := Int.eq_ofNat_of_zero_le p0
      obtain ⟨nx, rfl⟩ : ∃ k : Nat, nx = k := ⟨_, n0⟩
      have hlen := hS.row.length
      by_cases h1 : 32 < m
      · have hk : rdKey zs last a t = .error (41, (a : Int)) := by
          unfold rdKey
          rw [hu]
          rw [if_pos (by simp [textOfU]; rw [if_pos (by omega)]; decide)]
        rw [hk]
        exact key_f_long gr ao len cap a t zs _ la w h hS m nx hu (by omega)
      by_cases h2 : (len : Int) - (nx : Int) < (m : Int)
      · have hk : rdKey zs last a t = .error (41, (a : Int)) := by
          unfold rdKey
          rw [hu]
          rw [if_pos (by simp [textOfU]; rw [if_neg (by omega), if_pos (by omega)]; decide)]
        rw [hk]
        exact key_f_short gr ao len cap a t zs _ la w h hS m nx hu (by omega) (by omega) h2
      have hsm : ∀ c ∈ (zs.drop nx).take m, 0 ≤ c ∧ c ≤ 255 := fun c hc => hS.row.small c (List.mem_of_mem_drop (List.mem_of_mem_take hc))
      obtain ⟨s, hs⟩ : ∃ s, strOfNums ((zs.drop nx).take m) = s := ⟨_, rfl⟩
      have hsz : s.size = m := by rw [← hs, str_size _ hsm, List.length_take, List.length_drop]; omega
      have hT : textOfU zs 32 (uintAt zs a) = (s, (nx : Int) + m, 0) := by
        rw [hu]
        unfold textOfU
        rw [if_neg (by simp), if_neg (by omega), if_neg (by dsimp only; omega)]
        simp [hs]
      have hk : rdKey zs last a t = if notBehind s last = true then .error (41, (a : Int)) else if 2048 < t + (1 + m) then .error (42, (a : Int)) else .ok (s, nx + m, t + (1 + m)) := by
        unfold rdKey
        rw [hT]
        simp only [ne_eq, not_true, if_false, hsz]
        rw [show ((nx : Int) + (m : Int)).toNat = nx + m by omega]
      rw [hk]
      cases last with
      | none =>
        simp only [notBehind, Bool.false_eq_true, if_false, Option.isNone]
        by_cases hh : 2048 < t + (1 + m)
        · rw [if_pos hh]
          exact key_f_heavy0 gr ao len cap a t zs la w h hS m nx hu (by omega) (by omega) (by omega) s hs hsz (by omega)
        · rw [if_neg hh]
          refine (key_f_ok0 gr ao len cap a t zs la w h hS m nx hu (by omega) (by omega) (by omega) s hs hsz (by omega)).mono fun e w' ⟨he, r, b⟩ => ⟨he, ?_, b⟩
          rw [show ((t + (1 + m) : Nat) : Int) = (t : Int) + (1 + (m : Int)) by omega, show ((nx + m : Nat) : Int) = (nx : Int) + (m : Int) by omega]
          exact r
      | some x =>
        obtain rfl := hla x rfl
        simp only [Option.isNone]
        by_cases hb : notBehind s (some la) = true
        · rw [if_pos hb]
          exact key_f_order gr ao len cap a t zs la w h hS m nx hu (by omega) (by omega) (by omega) s hs hsz hb
        · rw [if_neg hb]
          have hb' : (Op.bytesLess s.toList la.toList || s.toList == la.toList) = false := by simpa [notBehind] using hb
          by_cases hh : 2048 < t + (1 + m)
          · rw [if_pos hh]
            exact key_f_heavy1 gr ao len cap a t zs la w h hS m nx hu (by omega) (by omega) (by omega) s hs hsz hb' (by omega)
          · rw [if_neg hh]
            refine (key_f_ok1 gr ao len cap a t zs la w h hS m nx hu (by omega) (by omega) (by omega) s hs hsz hb' (by omega)).mono fun e w' ⟨he, r, b⟩ => ⟨he, ?_, b⟩
            rw [show ((t + (1 + m) : Nat) : Int) = (t : Int) + (1 + (m : Int)) by omega, show ((nx + m : Nat) : Int) = (nx : Int) + (m : Int) by omega]
            exact r
    · have hk : rdKey zs last a t = .error (41, (a : Int)) := by
        unfold rdKey
        rw [hu]
        rw [if_pos (by simp [textOfU, h0])]
      rw [hk]
      exact key_f_bad gr ao len cap a t zs _ la w h hS n nx e hu h0
end Go.Proofs.Ytfdnhpmldnmncaa
