/-
  The reader of wire: a key that stands; conditions: the weight so far is at most 2048, the form's own reach.
-/
import Derived.Test.YtfdnhpmldnmncaaWRd2
namespace Go.Proofs.Ytfdnhpmldnmncaa
open Go.RowKit

theorem key_heavy0 (gr : Nat) (ao : Option Addr) (len cap : Nat) (p t : Int) (zs : List Int) (ak : Option Addr) (ck : Nat) (w : World) (h : Rdr w gr (.slice ao len cap) p t) (hS : Src w gr ao len cap zs) (ht : 0 ≤ t ∧ t ≤ 2048) (s : ByteArray) (nx : Int) (hr : textOfU zs 32 (uintAt zs p) = (s, nx, 0)) (hs : s.size ≤ 32) (hh : 2048 < t + (1 + (s.size : Int))) :
    Calls Try.prog 92 #[.pointer (some ⟨gr, 0, none⟩), .slice ak 0 ck] w fun e w' => e = fault 42 p ∧ Beside gr w w' := by
  obtain ⟨c0, c1, c2, f1, f2⟩ := h.cells
  have CI := hide (text_any ao len cap p 32 zs w hS.row hS.cap (by omega))
  rw [hr] at CI
  dsimp only at CI
  have hw2 : IntKind.i64.wrap (1 + (s.size : Int)) = 1 + (s.size : Int) := by rw [IntKind.wrap_i64]; omega
  have CW := hide (weigh_bad gr _ p t (1 + s.size) p w h ht (by omega) hh)
  clear h hr hS
  go_enter Try.func92, Try.ntmps92
  go_wp2_with fail
  refine (unhide CI).mono ?_
  rintro e' w1 ⟨rfl, rfl⟩
  go_wp2_with fail
  refine (unhide CW).mono ?_
  rintro e w2 ⟨rfl, b2⟩
  unfold fault
  go_wp2_with fail
  exact ⟨rfl, rfl, b2⟩

theorem key_ok0 (gr : Nat) (ao : Option Addr) (len cap : Nat) (p t : Int) (zs : List Int) (ak : Option Addr) (ck : Nat) (w : World) (h : Rdr w gr (.slice ao len cap) p t) (hS : Src w gr ao len cap zs) (ht : 0 ≤ t ∧ t ≤ 2048) (s : ByteArray) (nx : Int) (hr : textOfU zs 32 (uintAt zs p) = (s, nx, 0)) (hs : s.size ≤ 32) (hh : ¬ 2048 < t + (1 + (s.size : Int))) :
    Calls Try.prog 92 #[.pointer (some ⟨gr, 0, none⟩), .slice ak 0 ck] w fun e w' => e = .returned (.string s) ∧ Rdr w' gr (.slice ao len cap) nx (t + (1 + s.size)) ∧ Beside gr w w' := by
  obtain ⟨c0, c1, c2, f1, f2⟩ := h.cells
  have CI := hide (text_any ao len cap p 32 zs w hS.row hS.cap (by omega))
  rw [hr] at CI
  dsimp only at CI
  have hw2 : IntKind.i64.wrap (1 + (s.size : Int)) = 1 + (s.size : Int) := by rw [IntKind.wrap_i64]; omega
  have CW := hide (weigh_ok gr _ p t (1 + s.size) p w h ht (by omega) hh)
  clear h hr hS
  go_enter Try.func92, Try.ntmps92
  go_wp2_with fail
  refine (unhide CI).mono ?_
  rintro e' w1 ⟨rfl, rfl⟩
  go_wp2_with fail
  refine (unhide CW).mono ?_
  rintro e w2 ⟨rfl, r2, b2⟩
  clear c0 c1 c2 f1 f2
  obtain ⟨c0, c1, c2, f1, f2⟩ := r2.cells
  have HR := hide r2
  clear r2
  go_wp2_with fail
  go_ret
  exact ⟨rfl, (unhide HR).setAt _, b2.set⟩

theorem key_heavy1 (gr : Nat) (ao : Option Addr) (len cap : Nat) (p t : Int) (zs : List Int) (m ck : Nat) (l : ByteArray) (ab of : Nat) (w : World) (h : Rdr w gr (.slice ao len cap) p t) (hS : Src w gr ao len cap zs) (ht : 0 ≤ t ∧ t ≤ 2048) (s : ByteArray) (nx : Int) (hr : textOfU zs 32 (uintAt zs p) = (s, nx, 0)) (hs : s.size ≤ 32) (hm : m + 1 ≤ ck ∧ ck ≤ maxLen) (hl : w.cell? ⟨ab, of + m, none⟩ = some (.string l)) (hle : (Op.bytesLess s.toList l.toList || s.toList == l.toList) = false) (hh : 2048 < t + (1 + (s.size : Int))) :
    Calls Try.prog 92 #[.pointer (some ⟨gr, 0, none⟩), .slice (some ⟨ab, of, none⟩) (m + 1) ck] w fun e w' => e = fault 42 p ∧ Beside gr w w' := by
  obtain ⟨c0, c1, c2, f1, f2⟩ := h.cells
  have CI := hide (text_any ao len cap p 32 zs w hS.row hS.cap (by omega))
  rw [hr] at CI
  dsimp only at CI
  have hm2 : m + 1 ≤ 9223372036854775807 := by have := hm.2; unfold maxLen at this; omega
  have i0 : (0 : Int) < ((m + 1 : Nat) : Int) := by omega
  have hw : IntKind.i64.wrap (((m + 1 : Nat) : Int) - 1) = (m : Int) := by rw [IntKind.wrap_i64]; omega
  have hw2 : IntKind.i64.wrap (1 + (s.size : Int)) = 1 + (s.size : Int) := by rw [IntKind.wrap_i64]; omega
  have CW := hide (weigh_bad gr _ p t (1 + s.size) p w h ht (by omega) hh)
  clear h hr hS
  go_enter Try.func92, Try.ntmps92
  go_wp2_with fail
  refine (unhide CI).mono ?_
  rintro e' w1 ⟨rfl, rfl⟩
  go_wp2_with fail
  refine (unhide CW).mono ?_
  rintro e w2 ⟨rfl, b2⟩
  unfold fault
  go_wp2_with fail
  exact ⟨rfl, rfl, b2⟩

theorem key_ok1 (gr : Nat) (ao : Option Addr) (len cap : Nat) (p t : Int) (zs : List Int) (m ck : Nat) (l : ByteArray) (ab of : Nat) (w : World) (h : Rdr w gr (.slice ao len cap) p t) (hS : Src w gr ao len cap zs) (ht : 0 ≤ t ∧ t ≤ 2048) (s : ByteArray) (nx : Int) (hr : textOfU zs 32 (uintAt zs p) = (s, nx, 0)) (hs : s.size ≤ 32) (hm : m + 1 ≤ ck ∧ ck ≤ maxLen) (hl : w.cell? ⟨ab, of + m, none⟩ = some (.string l)) (hle : (Op.bytesLess s.toList l.toList || s.toList == l.toList) = false) (hh : ¬ 2048 < t + (1 + (s.size : Int))) :
    Calls Try.prog 92 #[.pointer (some ⟨gr, 0, none⟩), .slice (some ⟨ab, of, none⟩) (m + 1) ck] w fun e w' => e = .returned (.string s) ∧ Rdr w' gr (.slice ao len cap) nx (t + (1 + s.size)) ∧ Beside gr w w' := by
  obtain ⟨c0, c1, c2, f1, f2⟩ := h.cells
  have CI := hide (text_any ao len cap p 32 zs w hS.row hS.cap (by omega))
  rw [hr] at CI
  dsimp only at CI
  have hm2 : m + 1 ≤ 9223372036854775807 := by have := hm.2; unfold maxLen at this; omega
  have i0 : (0 : Int) < ((m + 1 : Nat) : Int) := by omega
  have hw : IntKind.i64.wrap (((m + 1 : Nat) : Int) - 1) = (m : Int) := by rw [IntKind.wrap_i64]; omega
  have hw2 : IntKind.i64.wrap (1 + (s.size : Int)) = 1 + (s.size : Int) := by rw [IntKind.wrap_i64]; omega
  have CW := hide (weigh_ok gr _ p t (1 + s.size) p w h ht (by omega) hh)
  clear h hr hS
  go_enter Try.func92, Try.ntmps92
  go_wp2_with fail
  refine (unhide CI).mono ?_
  rintro e' w1 ⟨rfl, rfl⟩
  go_wp2_with fail
  refine (unhide CW).mono ?_
  rintro e w2 ⟨rfl, r2, b2⟩
  clear c0 c1 c2 f1 f2
  obtain ⟨c0, c1, c2, f1, f2⟩ := r2.cells
  have HR := hide r2
  clear r2
  go_wp2_with fail
  go_ret
  exact ⟨rfl, (unhide HR).setAt _, b2.set⟩
end Go.Proofs.Ytfdnhpmldnmncaa
