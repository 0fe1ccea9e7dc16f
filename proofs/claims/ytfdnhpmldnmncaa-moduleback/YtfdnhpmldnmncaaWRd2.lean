/-
  The reader of wire: a number, a text, a count, a key, each with the fault that it panics with; conditions: the weight so far is at most 2048, the form's own reach.
-/
import Derived.Test.YtfdnhpmldnmncaaWRd
namespace Go.Proofs.Ytfdnhpmldnmncaa
open Go.RowKit

theorem Src.drewN {w : World} {gr : Nat} {ao : Option Addr} {len cap : Nat} {zs : List Int} (h : Src w gr ao len cap zs) (n : Nat) : Src (w.drewN n) gr ao len cap zs :=
  h.later ((Beside.refl _ _).drew n)

/-- number: its first byte is where the bytes part from a number's -/
theorem number_bad (gr : Nat) (ao : Option Addr) (len cap : Nat) (p t : Int) (zs : List Int) (w : World) (h : Rdr w gr (.slice ao len cap) p t) (hS : Src w gr ao len cap zs) (n nx e : Int) (hr : intOfU (uintAt zs p) = (n, nx, e)) (he : ¬ e = 0) :
    Calls Try.prog 84 #[.pointer (some ⟨gr, 0, none⟩)] w fun e w' => e = fault 41 p ∧ Beside gr w w' := by
  obtain ⟨c0, c1, c2, f1, f2⟩ := h.cells
  have CI := fun k => hide (int_any ao len cap p zs (w.drewN k) (hS.drewN k).row hS.cap)
  rw [hr] at CI
  dsimp only at CI
  clear h hr hS
  go_enter Try.func84, Try.ntmps84
  go_upto_region 1 with fail
  go_quiet ((go_at_call 90; exact Calls.quiet_of_same (unhide (CI _))))
  go_wp2_with fail
  exact ⟨rfl, rfl, (Beside.refl _ _).drew _⟩

theorem number_ok (gr : Nat) (ao : Option Addr) (len cap : Nat) (p t : Int) (zs : List Int) (w : World) (h : Rdr w gr (.slice ao len cap) p t) (hS : Src w gr ao len cap zs) (n nx : Int) (hr : intOfU (uintAt zs p) = (n, nx, 0)) :
    Calls Try.prog 84 #[.pointer (some ⟨gr, 0, none⟩)] w fun e w' => e = .returned (.int .i64 n) ∧ Rdr w' gr (.slice ao len cap) nx t ∧ Beside gr w w' := by
  obtain ⟨c0, c1, c2, f1, f2⟩ := h.cells
  have CI := fun k => hide (int_any ao len cap p zs (w.drewN k) (hS.drewN k).row hS.cap)
  rw [hr] at CI
  dsimp only at CI
  have HR := hide h
  clear h hr hS
  go_enter Try.func84, Try.ntmps84
  go_upto_region 1 with fail
  go_quiet ((go_at_call 90; exact Calls.quiet_of_same (unhide (CI _))))
  go_wp2_with fail
  go_ret
  exact ⟨rfl, ((unhide HR).drewN _).setAt _, ((Beside.refl _ _).drew _).set⟩

/-- text: too long for what may still come -/
theorem text_long (gr : Nat) (ao : Option Addr) (len cap : Nat) (p t q : Int) (zs : List Int) (w : World) (h : Rdr w gr (.slice ao len cap) p t) (hS : Src w gr ao len cap zs) (ht : 0 ≤ t ∧ t ≤ 2048) (s : ByteArray) (nx : Int) (hr : textOfU zs (2048 - t) (uintAt zs p) = (s, nx, 13)) :
    Calls Try.prog 85 #[.pointer (some ⟨gr, 0, none⟩), .int .i64 q] w fun e w' => e = fault 42 q ∧ Beside gr w w' := by
  obtain ⟨c0, c1, c2, f1, f2⟩ := h.cells
  have CI := fun k => hide (text_any ao len cap p (2048 - t) zs (w.drewN k) (hS.drewN k).row hS.cap (by omega))
  have hw : IntKind.i64.wrap (2048 - t) = 2048 - t := by rw [IntKind.wrap_i64]; omega
  rw [hr] at CI
  dsimp only at CI
  clear h hr hS
  go_enter Try.func85, Try.ntmps85
  go_upto_region 1 with fail
  go_quiet ((go_at_call 66; exact Calls.quiet_of_same (unhide (CI _))))
  go_wp2_with fail
  exact ⟨rfl, rfl, (Beside.refl _ _).drew _⟩

theorem text_bad (gr : Nat) (ao : Option Addr) (len cap : Nat) (p t q : Int) (zs : List Int) (w : World) (h : Rdr w gr (.slice ao len cap) p t) (hS : Src w gr ao len cap zs) (ht : 0 ≤ t ∧ t ≤ 2048) (s : ByteArray) (nx e : Int) (hr : textOfU zs (2048 - t) (uintAt zs p) = (s, nx, e)) (h13 : ¬ e = 13) (h0 : ¬ e = 0) :
    Calls Try.prog 85 #[.pointer (some ⟨gr, 0, none⟩), .int .i64 q] w fun e w' => e = fault 41 p ∧ Beside gr w w' := by
  obtain ⟨c0, c1, c2, f1, f2⟩ := h.cells
  have CI := fun k => hide (text_any ao len cap p (2048 - t) zs (w.drewN k) (hS.drewN k).row hS.cap (by omega))
  have hw : IntKind.i64.wrap (2048 - t) = 2048 - t := by rw [IntKind.wrap_i64]; omega
  rw [hr] at CI
  dsimp only at CI
  clear h hr hS
  go_enter Try.func85, Try.ntmps85
  go_upto_region 1 with fail
  go_quiet ((go_at_call 66; exact Calls.quiet_of_same (unhide (CI _))))
  go_wp2_with fail
  exact ⟨rfl, rfl, (Beside.refl _ _).drew _⟩

theorem text_ok (gr : Nat) (ao : Option Addr) (len cap : Nat) (p t q : Int) (zs : List Int) (w : World) (h : Rdr w gr (.slice ao len cap) p t) (hS : Src w gr ao len cap zs) (ht : 0 ≤ t ∧ t ≤ 2048) (s : ByteArray) (nx : Int) (hr : textOfU zs (2048 - t) (uintAt zs p) = (s, nx, 0)) (hs : (s.size : Int) ≤ 2048 - t) :
    Calls Try.prog 85 #[.pointer (some ⟨gr, 0, none⟩), .int .i64 q] w fun e w' => e = .returned (.string s) ∧ Rdr w' gr (.slice ao len cap) nx (t + s.size) ∧ Beside gr w w' := by
  obtain ⟨c0, c1, c2, f1, f2⟩ := h.cells
  have CI := fun k => hide (text_any ao len cap p (2048 - t) zs (w.drewN k) (hS.drewN k).row hS.cap (by omega))
  have hw : IntKind.i64.wrap (2048 - t) = 2048 - t := by rw [IntKind.wrap_i64]; omega
  have CW := fun u (hu : Rdr u gr (.slice ao len cap) nx t) => hide (weigh_ok gr _ nx t s.size q u hu ht (by omega) (by omega))
  rw [hr] at CI
  dsimp only at CI
  have HR := hide h
  clear h hr hS
  go_enter Try.func85, Try.ntmps85
  go_upto_region 1 with fail
  go_quiet ((go_at_call 66; exact Calls.quiet_of_same (unhide (CI _))))
  go_wp2_with fail
  refine (unhide (CW _ (((unhide HR).drewN _).setAt _))).mono ?_
  rintro e w1 ⟨rfl, r1, b1⟩
  go_wp2_with fail
  go_ret
  exact ⟨rfl, r1, (((Beside.refl _ _).drew _).set).trans b1⟩

/-- count: no number -/
theorem count_bad (gr : Nat) (ao : Option Addr) (len cap : Nat) (p t q k : Int) (zs : List Int) (w : World) (h : Rdr w gr (.slice ao len cap) p t) (hS : Src w gr ao len cap zs) (n nx e : Int) (hr : uintAt zs p = (n, nx, e)) (he : ¬ e = 0) :
    Calls Try.prog 91 #[.pointer (some ⟨gr, 0, none⟩), .int .i64 q, .int .i64 k] w fun e w' => e = fault 41 p ∧ Beside gr w w' := by
  obtain ⟨c0, c1, c2, f1, f2⟩ := h.cells
  have CI := fun k => hide (uint_any ao len cap p zs (w.drewN k) (hS.drewN k).row hS.cap)
  rw [hr] at CI
  dsimp only at CI
  clear h hr hS
  go_enter Try.func91, Try.ntmps91
  go_upto_region 1 with fail
  go_quiet ((go_at_call 42; exact Calls.quiet_of_same (unhide (CI _))))
  go_wp2_with fail
  exact ⟨rfl, rfl, (Beside.refl _ _).drew _⟩

/-- more parts than may still come -/
theorem count_many (gr : Nat) (ao : Option Addr) (len cap : Nat) (p t q k : Int) (zs : List Int) (w : World) (h : Rdr w gr (.slice ao len cap) p t) (hS : Src w gr ao len cap zs) (ht : 0 ≤ t ∧ t ≤ 2048) (hk : 1 ≤ k ∧ k ≤ 2) (n nx : Int) (hr : uintAt zs p = (n, nx, 0)) (hn : (2048 - t).tdiv k < n) :
    Calls Try.prog 91 #[.pointer (some ⟨gr, 0, none⟩), .int .i64 q, .int .i64 k] w fun e w' => e = fault 42 q ∧ Beside gr w w' := by
  obtain ⟨c0, c1, c2, f1, f2⟩ := h.cells
  have CI := fun k => hide (uint_any ao len cap p zs (w.drewN k) (hS.drewN k).row hS.cap)
  have hw : IntKind.i64.wrap (2048 - t) = 2048 - t := by rw [IntKind.wrap_i64]; omega
  have hk0 : ¬ k = 0 := by omega
  have hd : 0 ≤ (2048 - t).tdiv k ∧ (2048 - t).tdiv k ≤ 2048 := by
    rw [Int.tdiv_eq_ediv_of_nonneg (by omega)]
    exact ⟨Int.ediv_nonneg (by omega) (by omega), Int.le_trans (Int.ediv_le_self _ (by omega)) (by omega)⟩
  have hw2 : IntKind.i64.wrap ((2048 - t).tdiv k) = (2048 - t).tdiv k := by rw [IntKind.wrap_i64]; omega
  have hw3 : IntKind.u64.wrap ((2048 - t).tdiv k) = (2048 - t).tdiv k := by rw [IntKind.wrap_u64]; omega
  rw [hr] at CI
  dsimp only at CI
  clear h hr hS
  go_enter Try.func91, Try.ntmps91
  go_upto_region 1 with fail
  go_quiet ((go_at_call 42; exact Calls.quiet_of_same (unhide (CI _))))
  go_wp2_with fail
  exact ⟨rfl, rfl, (Beside.refl _ _).drew _⟩

theorem count_ok (gr : Nat) (ao : Option Addr) (len cap : Nat) (p t q k : Int) (zs : List Int) (w : World) (h : Rdr w gr (.slice ao len cap) p t) (hS : Src w gr ao len cap zs) (ht : 0 ≤ t ∧ t ≤ 2048) (hk : 1 ≤ k ∧ k ≤ 2) (n nx : Int) (h0 : 0 ≤ n) (hr : uintAt zs p = (n, nx, 0)) (hn : ¬ (2048 - t).tdiv k < n) :
    Calls Try.prog 91 #[.pointer (some ⟨gr, 0, none⟩), .int .i64 q, .int .i64 k] w fun e w' => e = .returned (.int .i64 n) ∧ Rdr w' gr (.slice ao len cap) nx t ∧ Beside gr w w' := by
  obtain ⟨c0, c1, c2, f1, f2⟩ := h.cells
  have CI := fun k => hide (uint_any ao len cap p zs (w.drewN k) (hS.drewN k).row hS.cap)
  have hw : IntKind.i64.wrap (2048 - t) = 2048 - t := by rw [IntKind.wrap_i64]; omega
  have hk0 : ¬ k = 0 := by omega
  have hd : 0 ≤ (2048 - t).tdiv k ∧ (2048 - t).tdiv k ≤ 2048 := by
    rw [Int.tdiv_eq_ediv_of_nonneg (by omega)]
    exact ⟨Int.ediv_nonneg (by omega) (by omega), Int.le_trans (Int.ediv_le_self _ (by omega)) (by omega)⟩
  have hw2 : IntKind.i64.wrap ((2048 - t).tdiv k) = (2048 - t).tdiv k := by rw [IntKind.wrap_i64]; omega
  have hw3 : IntKind.u64.wrap ((2048 - t).tdiv k) = (2048 - t).tdiv k := by rw [IntKind.wrap_u64]; omega
  have hw4 : IntKind.i64.wrap n = n := by rw [IntKind.wrap_i64]; omega
  rw [hr] at CI
  dsimp only at CI
  have HR := hide h
  clear h hr hS
  go_enter Try.func91, Try.ntmps91
  go_upto_region 1 with fail
  go_quiet ((go_at_call 42; exact Calls.quiet_of_same (unhide (CI _))))
  go_wp2_with fail
  go_ret
  exact ⟨rfl, ((unhide HR).drewN _).setAt _, ((Beside.refl _ _).drew _).set⟩

/-- key: no text, or one too long -/
theorem key_bad (gr : Nat) (ao : Option Addr) (len cap : Nat) (p t : Int) (zs : List Int) (kv : Value) (w : World) (h : Rdr w gr (.slice ao len cap) p t) (hS : Src w gr ao len cap zs) (s : ByteArray) (nx e : Int) (hr : textOfU zs 32 (uintAt zs p) = (s, nx, e)) (he : ¬ e = 0) :
    Calls Try.prog 92 #[.pointer (some ⟨gr, 0, none⟩), kv] w fun e w' => e = fault 41 p ∧ Beside gr w w' := by
  obtain ⟨c0, c1, c2, f1, f2⟩ := h.cells
  have CI := hide (text_any ao len cap p 32 zs w hS.row hS.cap (by omega))
  rw [hr] at CI
  dsimp only at CI
  have hb : (e != 0) = true := by simp [he]
  clear h hr hS
  go_enter Try.func92, Try.ntmps92
  go_wp2_with fail
  refine (unhide CI).mono ?_
  rintro e' w1 ⟨rfl, rfl⟩
  go_wp2_with fail
  exact ⟨rfl, rfl, Beside.refl _ _⟩

/-- key: not behind the one ahead -/
theorem key_order (gr : Nat) (ao : Option Addr) (len cap : Nat) (p t : Int) (zs : List Int) (ak : Option Addr) (m ck : Nat) (l : ByteArray) (w : World) (h : Rdr w gr (.slice ao len cap) p t) (hS : Src w gr ao len cap zs) (s : ByteArray) (nx : Int) (hr : textOfU zs 32 (uintAt zs p) = (s, nx, 0)) (hm : m + 1 ≤ ck ∧ ck ≤ maxLen)
    (ab of : Nat) (ha : ak = some ⟨ab, of, none⟩) (hl : w.cell? ⟨ab, of + m, none⟩ = some (.string l)) (hle : (Op.bytesLess s.toList l.toList || s.toList == l.toList) = true) :
    Calls Try.prog 92 #[.pointer (some ⟨gr, 0, none⟩), .slice ak (m + 1) ck] w fun e w' => e = fault 41 p ∧ Beside gr w w' := by
  obtain ⟨c0, c1, c2, f1, f2⟩ := h.cells
  have CI := hide (text_any ao len cap p 32 zs w hS.row hS.cap (by omega))
  rw [hr] at CI
  dsimp only at CI
  subst ha
  have hm2 : m + 1 ≤ 9223372036854775807 := by have := hm.2; unfold maxLen at this; omega
  have i0 : (0 : Int) < ((m + 1 : Nat) : Int) := by omega
  have hw : IntKind.i64.wrap (((m + 1 : Nat) : Int) - 1) = (m : Int) := by rw [IntKind.wrap_i64]; omega
  clear h hr hS
  go_enter Try.func92, Try.ntmps92
  go_wp2_with fail
  refine (unhide CI).mono ?_
  rintro e' w1 ⟨rfl, rfl⟩
  go_wp2_with fail
  exact ⟨rfl, rfl, Beside.refl _ _⟩
end Go.Proofs.Ytfdnhpmldnmncaa
