/-
  The reader of wire: a number, a text, a count, a key, each with the fault that it panics with; conditions: the weight so far is at most 2048, the form's own reach.
  What the reader of wire reads, as a function of the bytes; that it stays within them and within the greatest weight; no conditions.
  A value's bytes are bytes; no conditions but the form's own reach.
-/
import Derived.Test.YtfdnhpmldnmncaaR08
import Derived.Test.YtfdnhpmldnmncaaR02
import Derived.Test.YtfdnhpmldnmncaaR07
namespace Go.Proofs.Ytfdnhpmldnmncaa
open Go.RowKit

theorem Src.drewN {w : World} {gr : Nat} {ao : Option Addr} {len cap : Nat} {zs : List Int} (h : Src w gr ao len cap zs) (n : Nat) : Src (w.drewN n) gr ao len cap zs :=
  h.later ((Beside.refl _ _).drew n)

/-- number: its first byte is where the bytes part from a number's -/
theorem number_bad (gr : Nat) (ao : Option Addr) (len cap : Nat) (p t : Int) (zs : List Int) (w : World) (h : Rdr w gr (.slice ao len cap) p t) (hS : Src w gr ao len cap zs) (n nx e : Int) (hr : intOfU (uintAt zs p) = (n, nx, e)) (he : ¬ e = 0) :
    Calls Try.prog 84 #[.pointer (some ⟨gr, 0, none⟩)] w fun e w' => e = fault 41 p ∧ Beside gr w w' := by
  obtain ⟨c0, c1, c2, f1, f2⟩ := h.cells
  have CI := fun k => hide (int_any ao len cap p zs (w.drewN k) (hS.drewN k).row hS.cap)
  rw [hr] at CI
  dsimp only at CI
  clear h hr hS
  go_enter Try.func84, Try.ntmps84
  go_upto_region 1 with fail
  go_quiet ((go_at_call 90; exact Calls.quiet_of_same (unhide (CI _))))
  go_wp2_with fail
  exact ⟨rfl, rfl, (Beside.refl _ _).drew _⟩

theorem number_ok (gr : Nat) (ao : Option Addr) (len cap : Nat) (p t : Int) (zs : List Int) (w : World) (h : Rdr w gr (.slice ao len cap) p t) (hS : Src w gr ao len cap zs) (n nx : Int) (hr : intOfU (uintAt zs p) = (n, nx, 0)) :
    Calls Try.prog 84 #[.pointer (some ⟨gr, 0, none⟩)] w fun e w' => e = .returned (.int .i64 n) ∧ Rdr w' gr (.slice ao len cap) nx t ∧ Beside gr w w' := by
  obtain ⟨c0, c1, c2, f1, f2⟩ := h.cells
  have CI := fun k => hide (int_any ao len cap p zs (w.drewN k) (hS.drewN k).row hS.cap)
  rw [hr] at CI
  dsimp only at CI
  have HR := hide h
  clear h hr hS
  go_enter Try.func84, Try.ntmps84
  go_upto_region 1 with fail
  go_quiet ((go_at_call 90; exact Calls.quiet_of_same (unhide (CI _))))
  go_wp2_with fail
  go_ret
  exact ⟨rfl, ((unhide HR).drewN _).setAt _, ((Beside.refl _ _).drew _).set⟩

/-- text: too long for what may still come -/
theorem text_long (gr : Nat) (ao : Option Addr) (len cap : Nat) (p t q : Int) (zs : List Int) (w : World) (h : Rdr w gr (.slice ao len cap) p t) (hS : Src w gr ao len cap zs) (ht : 0 ≤ t ∧ t ≤ 2048) (s : ByteArray) (nx : Int) (hr : textOfU zs (2048 - t) (uintAt zs p) = (s, nx, 13)) :
    Calls Try.prog 85 #[.pointer (some ⟨gr, 0, none⟩), .int .i64 q] w fun e w' => e = fault 42 q ∧ Beside gr w w' := by
  obtain ⟨c0, c1, c2, f1, f2⟩ := h.cells
  have CI := fun k => hide (text_any ao len cap p (2048 - t) zs (w.drewN k) (hS.drewN k).row hS.cap (by omega))
  have hw : IntKind.i64.wrap (2048 - t) = 2048 - t := by rw [IntKind.wrap_i64]; omega
  rw [hr] at CI
  dsimp only at CI
  clear h hr hS
  go_enter Try.func85, Try.ntmps85
  go_upto_region 1 with fail
  go_quiet ((go_at_call 66; exact Calls.quiet_of_same (unhide (CI _))))
  go_wp2_with fail
  exact ⟨rfl, rfl, (Beside.refl _ _).drew _⟩

theorem text_bad (gr : Nat) (ao : Option Addr) (len cap : Nat) (p t q : Int) (zs : List Int) (w : World) (h : Rdr w gr (.slice ao len cap) p t) (hS : Src w gr ao len cap zs) (ht : 0 ≤ t ∧ t ≤ 2048) (s : ByteArray) (nx e : Int) (hr : textOfU zs (2048 - t) (uintAt zs p) = (s, nx, e)) (h13 : ¬ e = 13) (h0 : ¬ e = 0) :
    Calls Try.prog 85 #[.pointer (some ⟨gr, 0, none⟩), .int .i64 q] w fun e w' => e = fault 41 p ∧ Beside gr w w' := by
  obtain ⟨c0, c1, c2, f1, f2⟩ := h.cells
  have CI := fun k => hide (text_any ao len cap p (2048 - t) zs (w.drewN k) (hS.drewN k).row hS.cap (by omega))
  have hw : IntKind.i64.wrap (2048 - t) = 2048 - t := by rw [IntKind.wrap_i64]; omega
  rw [hr] at CI
  dsimp only at CI
  clear h hr hS
  go_enter Try.func85, Try.ntmps85
  go_upto_region 1 with fail
  go_quiet ((go_at_call 66; exact Calls.quiet_of_same (unhide (CI _))))
  go_wp2_with fail
  exact ⟨rfl, rfl, (Beside.refl _ _).drew _⟩

theorem text_ok (gr : Nat) (ao : Option Addr) (len cap : Nat) (p t q : Int) (zs : List Int) (w : World) (h : Rdr w gr (.slice ao len cap) p t) (hS : Src w gr ao len cap zs) (ht : 0 ≤ t ∧ t ≤ 2048) (s : ByteArray) (nx : Int) (hr : textOfU zs (2048 - t) (uintAt zs p) = (s, nx, 0)) (hs : (s.size : Int) ≤ 2048 - t) :
    Calls Try.prog 85 #[.pointer (some ⟨gr, 0, none⟩), .int .i64 q] w fun e w' => e = .returned (.string s) ∧ Rdr w' gr (.slice ao len cap) nx (t + s.size) ∧ Beside gr w w' := by
  obtain ⟨c0, c1, c2, f1, f2⟩ := h.cells
  have CI := fun k => hide (text_any ao len cap p (2048 - t) zs (w.drewN k) (hS.drewN k).row hS.cap (by omega))
  have hw : IntKind.i64.wrap (2048 - t) = 2048 - t := by rw [IntKind.wrap_i64]; omega
  have CW := fun u (hu : Rdr u gr (.slice ao len cap) nx t) => hide (weigh_ok gr _ nx t s.size q u hu ht (by omega) (by omega))
  rw [hr] at CI
  dsimp only at CI
  have HR := hide h
  clear h hr hS
  go_enter Try.func85, Try.ntmps85
  go_upto_region 1 with fail
  go_quiet ((go_at_call 66; exact Calls.quiet_of_same (unhide (CI _))))
  go_wp2_with fail
  refine (unhide (CW _ (((unhide HR).drewN _).setAt _))).mono ?_
  rintro e w1 ⟨rfl, r1, b1⟩
  go_wp2_with fail
  go_ret
  exact ⟨rfl, r1, (((Beside.refl _ _).drew _).set).trans b1⟩

/-- count: no number -/
theorem count_bad (gr : Nat) (ao : Option Addr) (len cap : Nat) (p t q k : Int) (zs : List Int) (w : World) (h : Rdr w gr (.slice ao len cap) p t) (hS : Src w gr ao len cap zs) (n nx e : Int) (hr : uintAt zs p = (n, nx, e)) (he : ¬ e = 0) :
    Calls Try.prog 91 #[.pointer (some ⟨gr, 0, none⟩), .int .i64 q, .int .i64 k] w fun e w' => e = fault 41 p ∧ Beside gr w w' := by
  obtain ⟨c0, c1, c2, f1, f2⟩ := h.cells
  have CI := fun k => hide (uint_any ao len cap p zs (w.drewN k) (hS.drewN k).row hS.cap)
  rw [hr] at CI
  dsimp only at CI
  clear h hr hS
  go_enter Try.func91, Try.ntmps91
  go_upto_region 1 with fail
  go_quiet ((go_at_call 42; exact Calls.quiet_of_same (unhide (CI _))))
  go_wp2_with fail
  exact ⟨rfl, rfl, (Beside.refl _ _).drew _⟩

/-- more parts than may still come -/
theorem count_many (gr : Nat) (ao : Option Addr) (len cap : Nat) (p t q k : Int) (zs : List Int) (w : World) (h : Rdr w gr (.slice ao len cap) p t) (hS : Src w gr ao len cap zs) (ht : 0 ≤ t ∧ t ≤ 2048) (hk : 1 ≤ k ∧ k ≤ 2) (n nx : Int) (hr : uintAt zs p = (n, nx, 0)) (hn : (2048 - t).tdiv k < n) :
    Calls Try.prog 91 #[.pointer (some ⟨gr, 0, none⟩), .int .i64 q, .int .i64 k] w fun e w' => e = fault 42 q ∧ Beside gr w w' := by
  obtain ⟨c0, c1, c2, f1, f2⟩ := h.cells
  have CI := fun k => hide (uint_any ao len cap p zs (w.drewN k) (hS.drewN k).row hS.cap)
  have hw : IntKind.i64.wrap (2048 - t) = 2048 - t := by rw [IntKind.wrap_i64]; omega
  have hk0 : ¬ k = 0 := by omega
  have hd : 0 ≤ (2048 - t).tdiv k ∧ (2048 - t).tdiv k ≤ 2048 := by
    rw [Int.tdiv_eq_ediv_of_nonneg (by omega)]
    exact ⟨Int.ediv_nonneg (by omega) (by omega), Int.le_trans (Int.ediv_le_self _ (by omega)) (by omega)⟩
  have hw2 : IntKind.i64.wrap ((2048 - t).tdiv k) = (2048 - t).tdiv k := by rw [IntKind.wrap_i64]; omega
  have hw3 : IntKind.u64.wrap ((2048 - t).tdiv k) = (2048 - t).tdiv k := by rw [IntKind.wrap_u64]; omega
  rw [hr] at CI
  dsimp only at CI
  clear h hr hS
  go_enter Try.func91, Try.ntmps91
  go_upto_region 1 with fail
  go_quiet ((go_at_call 42; exact Calls.quiet_of_same (unhide (CI _))))
  go_wp2_with fail
  exact ⟨rfl, rfl, (Beside.refl _ _).drew _⟩

theorem count_ok (gr : Nat) (ao : Option Addr) (len cap : Nat) (p t q k : Int) (zs : List Int) (w : World) (h : Rdr w gr (.slice ao len cap) p t) (hS : Src w gr ao len cap zs) (ht : 0 ≤ t ∧ t ≤ 2048) (hk : 1 ≤ k ∧ k ≤ 2) (n nx : Int) (h0 : 0 ≤ n) (hr : uintAt zs p = (n, nx, 0)) (hn : ¬ (2048 - t).tdiv k < n) :
    Calls Try.prog 91 #[.pointer (some ⟨gr, 0, none⟩), .int .i64 q, .int .i64 k] w fun e w' => e = .returned (.int .i64 n) ∧ Rdr w' gr (.slice ao len cap) nx t ∧ Beside gr w w' := by
  obtain ⟨c0, c1, c2, f1, f2⟩ := h.cells
  have CI := fun k => hide (uint_any ao len cap p zs (w.drewN k) (hS.drewN k).row hS.cap)
  have hw : IntKind.i64.wrap (2048 - t) = 2048 - t := by rw [IntKind.wrap_i64]; omega
  have hk0 : ¬ k = 0 := by omega
  have hd : 0 ≤ (2048 - t).tdiv k ∧ (2048 - t).tdiv k ≤ 2048 := by
    rw [Int.tdiv_eq_ediv_of_nonneg (by omega)]
    exact ⟨Int.ediv_nonneg (by omega) (by omega), Int.le_trans (Int.ediv_le_self _ (by omega)) (by omega)⟩
  have hw2 : IntKind.i64.wrap ((2048 - t).tdiv k) = (2048 - t).tdiv k := by rw [IntKind.wrap_i64]; omega
  have hw3 : IntKind.u64.wrap ((2048 - t).tdiv k) = (2048 - t).tdiv k := by rw [IntKind.wrap_u64]; omega
  have hw4 : IntKind.i64.wrap n = n := by rw [IntKind.wrap_i64]; omega
  rw [hr] at CI
  dsimp only at CI
  have HR := hide h
  clear h hr hS
  go_enter Try.func91, Try.ntmps91
  go_upto_region 1 with fail
  go_quiet ((go_at_call 42; exact Calls.quiet_of_same (unhide (CI _))))
  go_wp2_with fail
  go_ret
  exact ⟨rfl, ((unhide HR).drewN _).setAt _, ((Beside.refl _ _).drew _).set⟩

/-- key: no text, or one too long -/
theorem key_bad (gr : Nat) (ao : Option Addr) (len cap : Nat) (p t : Int) (zs : List Int) (kv : Value) (w : World) (h : Rdr w gr (.slice ao len cap) p t) (hS : Src w gr ao len cap zs) (s : ByteArray) (nx e : Int) (hr : textOfU zs 32 (uintAt zs p) = (s, nx, e)) (he : ¬ e = 0) :
    Calls Try.prog 92 #[.pointer (some ⟨gr, 0, none⟩), kv] w fun e w' => e = fault 41 p ∧ Beside gr w w' := by
  obtain ⟨c0, c1, c2, f1, f2⟩ := h.cells
  have CI := hide (text_any ao len cap p 32 zs w hS.row hS.cap (by omega))
  rw [hr] at CI
  dsimp only at CI
  have hb : (e != 0) = true := by simp [he]
  clear h hr hS
  go_enter Try.func92, Try.ntmps92
  go_wp2_with fail
  refine (unhide CI).mono ?_
  rintro e' w1 ⟨rfl, rfl⟩
  go_wp2_with fail
  exact ⟨rfl, rfl, Beside.refl _ _⟩

/-- key: not behind the one ahead -/
theorem key_order (gr : Nat) (ao : Option Addr) (len cap : Nat) (p t : Int) (zs : List Int) (ak : Option Addr) (m ck : Nat) (l : ByteArray) (w : World) (h : Rdr w gr (.slice ao len cap) p t) (hS : Src w gr ao len cap zs) (s : ByteArray) (nx : Int) (hr : textOfU zs 32 (uintAt zs p) = (s, nx, 0)) (hm : m + 1 ≤ ck ∧ ck ≤ maxLen)
    (ab of : Nat) (ha : ak = some ⟨ab, of, none⟩) (hl : w.cell? ⟨ab, of + m, none⟩ = some (.string l)) (hle : (Op.bytesLess s.toList l.toList || s.toList == l.toList) = true) :
    Calls Try.prog 92 #[.pointer (some ⟨gr, 0, none⟩), .slice ak (m + 1) ck] w fun e w' => e = fault 41 p ∧ Beside gr w w' := by
  obtain ⟨c0, c1, c2, f1, f2⟩ := h.cells
  have CI := hide (text_any ao len cap p 32 zs w hS.row hS.cap (by omega))
  rw [hr] at CI
  dsimp only at CI
  subst ha
  have hm2 : m + 1 ≤ 9223372036854775807 := by have := hm.2; unfold maxLen at this; omega
  have i0 : (0 : Int) < ((m + 1 : Nat) : Int) := by omega
  have hw : IntKind.i64.wrap (((m + 1 : Nat) : Int) - 1) = (m : Int) := by rw [IntKind.wrap_i64]; omega
  clear h hr hS
  go_enter Try.func92, Try.ntmps92
  go_wp2_with fail
  refine (unhide CI).mono ?_
  rintro e' w1 ⟨rfl, rfl⟩
  go_wp2_with fail
  exact ⟨rfl, rfl, Beside.refl _ _⟩
end Go.Proofs.Ytfdnhpmldnmncaa

namespace Go.Proofs.Ytfdnhpmldnmncaa
open Go.RowKit

/-- how many parts follow -/
def rdCnt (zs : List Int) (q a t k : Nat) : Except (Int × Int) (Nat × Nat) :=
  if (uintAt zs a).2.2 ≠ 0 then .error (41, (a : Int)) else if (2048 - (t : Int)).tdiv k < (uintAt zs a).1 then .error (42, (q : Int)) else .ok ((uintAt zs a).1.toNat, (uintAt zs a).2.1.toNat)

/-- does a key stand not behind the last one? -/
def notBehind (s : ByteArray) : Option ByteArray → Bool
  | none => false
  | some l => Op.bytesLess s.toList l.toList || s.toList == l.toList

def rdKey (zs : List Int) (last : Option ByteArray) (a t : Nat) : Except (Int × Int) (ByteArray × Nat × Nat) :=
  if (textOfU zs 32 (uintAt zs a)).2.2 ≠ 0 then .error (41, (a : Int)) else if notBehind (textOfU zs 32 (uintAt zs a)).1 last = true then .error (41, (a : Int))
  else if 2048 < t + (1 + (textOfU zs 32 (uintAt zs a)).1.size) then .error (42, (a : Int))
  else .ok ((textOfU zs 32 (uintAt zs a)).1, (textOfU zs 32 (uintAt zs a)).2.1.toNat, t + (1 + (textOfU zs 32 (uintAt zs a)).1.size))

/-- so many values more -/
def rdArr (f : Nat → Nat → Except (Int × Int) (Vl × Nat × Nat)) : Nat → List Vl → Nat → Nat → Except (Int × Int) (List Vl × Nat × Nat)
  | 0, l, a, t => .ok (l, a, t)
  | n + 1, l, a, t => match f a t with
    | .error e => .error e
    | .ok (v, a', t') => rdArr f n (l ++ [v]) a' t'

/-- so many keys with their values more -/
def rdRec (zs : List Int) (f : Nat → Nat → Except (Int × Int) (Vl × Nat × Nat)) : Nat → List Vl → List ByteArray → Nat → Nat → Except (Int × Int) (List Vl × List ByteArray × Nat × Nat)
  | 0, l, ks, a, t => .ok (l, ks, a, t)
  | n + 1, l, ks, a, t => match rdKey zs ks.getLast? a t with
    | .error e => .error e
    | .ok (s, a', t') => match f a' t' with
      | .error e => .error e
      | .ok (v, a'', t'') => rdRec zs f n (l ++ [v]) (ks ++ [s]) a'' t''

def rdNum (zs : List Int) (a t : Nat) : Except (Int × Int) (Vl × Nat × Nat) :=
  if (intOfU (uintAt zs a)).2.2 ≠ 0 then .error (41, (a : Int)) else .ok (.mk 2 (intOfU (uintAt zs a)).1 ⟨#[]⟩ [] [], (intOfU (uintAt zs a)).2.1.toNat, t)

def rdTxt (zs : List Int) (q a t : Nat) : Except (Int × Int) (Vl × Nat × Nat) :=
  if (textOfU zs (2048 - (t : Int)) (uintAt zs a)).2.2 = 13 then .error (42, (q : Int)) else if (textOfU zs (2048 - (t : Int)) (uintAt zs a)).2.2 ≠ 0 then .error (41, (a : Int))
  else .ok (.mk 3 0 (textOfU zs (2048 - (t : Int)) (uintAt zs a)).1 [] [], (textOfU zs (2048 - (t : Int)) (uintAt zs a)).2.1.toNat, t + (textOfU zs (2048 - (t : Int)) (uintAt zs a)).1.size)

def rdAll (zs : List Int) (f : Nat → Nat → Except (Int × Int) (Vl × Nat × Nat)) (q a t : Nat) : Except (Int × Int) (Vl × Nat × Nat) :=
  match rdCnt zs q a t 1 with
  | .error e => .error e
  | .ok (n, a') => match rdArr f n [] a' t with
    | .error e => .error e
    | .ok (l, a'', t'') => .ok (.mk 4 0 ⟨#[]⟩ l [], a'', t'')

def rdPairs (zs : List Int) (f : Nat → Nat → Except (Int × Int) (Vl × Nat × Nat)) (q a t : Nat) : Except (Int × Int) (Vl × Nat × Nat) :=
  match rdCnt zs q a t 2 with
  | .error e => .error e
  | .ok (n, a') => match rdRec zs f n [] [] a' t with
    | .error e => .error e
    | .ok (l, ks, a'', t'') => .ok (.mk 5 0 ⟨#[]⟩ l ks, a'', t'')

/-- the value at a place, and the place behind it and the weight with it -/
def rdV (zs : List Int) : Nat → Nat → Nat → Except (Int × Int) (Vl × Nat × Nat)
  | 0, a, _ => match zs[a]? with
    | none => .error (41, (a : Int))
    | some c => if 6 < c then .error (41, (a : Int)) else .error (42, (a : Int))
  | d + 1, a, t => match zs[a]? with
    | none => .error (41, (a : Int))
    | some c => if 6 < c then .error (41, (a : Int)) else if 2048 < t + 1 then .error (42, (a : Int))
      else if c = 1 then .ok (.mk 1 0 ⟨#[]⟩ [] [], a + 1, t + 1) else if c = 2 then .ok (.mk 1 1 ⟨#[]⟩ [] [], a + 1, t + 1)
      else if c = 3 then rdNum zs (a + 1) (t + 1) else if c = 4 then rdTxt zs a (a + 1) (t + 1)
      else if c = 5 then rdAll zs (rdV zs d) a (a + 1) (t + 1) else if c = 6 then rdPairs zs (rdV zs d) a (a + 1) (t + 1)
      else .ok (.mk 0 0 ⟨#[]⟩ [] [], a + 1, t + 1)

theorem str_nums (xs : List Int) (h : ∀ n ∈ xs, 0 ≤ n ∧ n ≤ 255) : nums (strOfNums xs) = xs :=
  str_inj _ _ (nums_small _) h (nums_str _)
theorem str_size (xs : List Int) (h : ∀ n ∈ xs, 0 ≤ n ∧ n ≤ 255) : (strOfNums xs).size = xs.length := by
  rw [← nums_len, str_nums xs h]

/-- what a text that was read is -/
theorem text_form (zs : List Int) (most : Int) (a : Nat) (hl : ∀ n ∈ zs, 0 ≤ n ∧ n ≤ 255) (h : (textOfU zs most (uintAt zs a)).2.2 = 0) :
    ∃ b : Nat, a ≤ b ∧ b ≤ zs.length ∧ (textOfU zs most (uintAt zs a)).2.1 = (b : Int) ∧ ((textOfU zs most (uintAt zs a)).1.size : Int) ≤ most ∧ tx (textOfU zs most (uintAt zs a)).1 = (zs.drop a).take (b - a) := by
  unfold textOfU at h ⊢
  by_cases h0 : (uintAt zs a).2.2 ≠ 0
  · rw [if_pos h0] at h; exact absurd h h0
  rw [if_neg h0] at h ⊢
  by_cases h1 : most < 0 ∨ most < (uintAt zs a).1
  · rw [if_pos h1] at h; simp at h
  rw [if_neg h1] at h ⊢
  by_cases h2 : (zs.length : Int) - (uintAt zs a).2.1 < (uintAt zs a).1
  · rw [if_pos h2] at h; simp at h
  rw [if_neg h2]
  obtain ⟨a', k, e, hk1, hk2, hk3, hn, henc, hpos⟩ := uint_form zs a hl (by simpa using h0)
  have ea : a' = a := by omega
  subst ea
  generalize hu : uintAt zs a' = r at *
  obtain ⟨n, nx, er⟩ := r
  dsimp only at *
  subst hn
  obtain ⟨N, rfl⟩ : ∃ N : Nat, n = N := ⟨n.toNat, by omega⟩
  have hlen : ((zs.drop (a' + k)).take N).length = N := by rw [List.length_take, List.length_drop]; omega
  have hsm : ∀ c ∈ (zs.drop (a' + k)).take N, 0 ≤ c ∧ c ≤ 255 := fun c hc => hl c (List.mem_of_mem_drop (List.mem_of_mem_take hc))
  have hsz : (strOfNums ((zs.drop (a' + k)).take N)).size = N := by rw [str_size _ hsm, hlen]
  refine ⟨a' + k + N, by omega, by omega, by simp, by simp only [Int.toNat_natCast]; rw [hsz]; omega, ?_⟩
  simp only [Int.toNat_natCast]
  unfold tx
  rw [hsz, henc, str_nums _ hsm, show a' + k + N - a' = k + N by omega]
  rw [List.take_add, List.drop_drop]
end Go.Proofs.Ytfdnhpmldnmncaa

namespace Go.Proofs.Ytfdnhpmldnmncaa
open Go.RowKit

/-- numbers of 64 bits, texts and lists that a machine can hold -/
def fitL : List Vl → Bool
  | [] => true
  | .mk _ n s l ks :: r => (decide (-9223372036854775808 ≤ n ∧ n ≤ 9223372036854775807) && decide (s.size ≤ 140737488351232) && decide (l.length ≤ 140737488351232) && ks.all (fun t => decide (t.size ≤ 140737488351232)) && fitL l) && fitL r
def fitB : Vl → Bool
  | .mk _ n s l ks => decide (-9223372036854775808 ≤ n ∧ n ≤ 9223372036854775807) && decide (s.size ≤ 140737488351232) && decide (l.length ≤ 140737488351232) && ks.all (fun t => decide (t.size ≤ 140737488351232)) && fitL l
theorem fitL_nil : fitL [] = true := by simp only [fitL]
theorem fitL_cons (x : Vl) (r : List Vl) : fitL (x :: r) = (fitB x && fitL r) := by cases x; simp only [fitL, fitB]

theorem fit_of {w : World} {P : Nat → Prop} {kind n : Int} {s : ByteArray} {l : List Vl} {ks : List ByteArray} {al ak : Option Addr} {cl ck : Nat} {V : Nat → List Value} (h : VF w P kind n s l ks al ak cl ck V) (hl : fitL l = true) : fitB (.mk kind n s l ks) = true := by
  simp only [fitB, hl, Bool.and_true, Bool.and_eq_true, decide_eq_true_eq, List.all_eq_true]
  exact ⟨⟨⟨h.bn, h.bs⟩, h.bl⟩, h.bt⟩

theorem IsPL.fit {w : World} {P : Nat → Prop} : ∀ (l : List Vl) (V : Nat → List Value), IsPL w P l V → fitL l = true
  | [], _, _ => fitL_nil
  | .mk kind n s l ks :: r, V, h => by
    simp only [IsPL] at h
    obtain ⟨⟨al, ak, cl, ck, V', _, hf, hl⟩, hr⟩ := h
    rw [fitL_cons, fit_of hf (IsPL.fit l V' hl), IsPL.fit r _ hr]
    rfl

theorem IsP.fit {w : World} {P : Nat → Prop} {v : Vl} {x : Value} (h : IsP w P v x) : fitB v = true := by
  obtain ⟨al, ak, cl, ck, V, _, hf, hl⟩ := h
  cases v with
  | mk kind n s l ks => exact fit_of hf (IsPL.fit l V hl)

theorem IsV.fit {w : World} {B : Nat} {v : Vl} {x : Value} (h : IsV w B v x) : fitB v = true := IsP.fit h

theorem tx_small (s : ByteArray) (hs : s.size ≤ 140737488351232) : ∀ c ∈ tx s, 0 ≤ c ∧ c ≤ 255 := by
  intro c hc
  unfold tx at hc
  rcases List.mem_append.1 hc with h | h
  · exact encF9_bytes _ (by omega) (by omega) c h
  · exact nums_small s c h

theorem foldI_range {n : Int} (h : -9223372036854775808 ≤ n ∧ n ≤ 9223372036854775807) : 0 ≤ foldI n ∧ foldI n ≤ 18446744073709551615 := by
  unfold foldI
  split <;> omega

theorem encN_small {k n : Int} {s : ByteArray} {ll : Nat} {ks : List ByteArray} {body : List Int} (hf : formB k n s ll ks = true) (hn : -9223372036854775808 ≤ n ∧ n ≤ 9223372036854775807) (hs : s.size ≤ 140737488351232) (hl : ll ≤ 140737488351232) (hb : ∀ c ∈ body, 0 ≤ c ∧ c ≤ 255) : ∀ c ∈ encN k n s ll body, 0 ≤ c ∧ c ≤ 255 := by
  have hlen := encF9_bytes (ll : Int) (by omega) (by omega)
  have hfold := encF9_bytes (foldI n) (foldI_range hn).1 (foldI_range hn).2
  have htx := tx_small s hs
  intro c hc
  unfold encN at hc
  rcases form_zero hf with ⟨rfl, _⟩ | ⟨rfl, h01, _⟩ | ⟨rfl, _⟩ | ⟨rfl, _⟩ | ⟨rfl, _⟩ | ⟨rfl, _⟩
  · simp at hc; omega
  · simp at hc; omega
  · simp at hc
    rcases hc with rfl | hc
    · omega
    · exact hfold c hc
  · simp at hc
    rcases hc with rfl | hc
    · omega
    · exact htx c hc
  · simp at hc
    rcases hc with rfl | hc | hc
    · omega
    · exact hlen c hc
    · exact hb c hc
  · simp at hc
    rcases hc with rfl | hc | hc
    · omega
    · exact hlen c hc
    · exact hb c hc

theorem keyAt_small : ∀ (ks : List ByteArray) (i : Nat), (∀ t ∈ ks, t.size ≤ 140737488351232) → (keyAt ks i).size ≤ 140737488351232
  | [], _, _ => by show (0 : Nat) ≤ _; omega
  | t :: _, 0, h => h t (by simp)
  | _ :: r, i + 1, h => keyAt_small r i (fun t ht => h t (by simp [ht]))

theorem wencL_small : ∀ (r : Bool) (l : List Vl) (ks : List ByteArray) (d : Nat), okL d l = true → fitL l = true → (∀ t ∈ ks, t.size ≤ 140737488351232) → ∀ c ∈ wencL r l ks, 0 ≤ c ∧ c ≤ 255
  | _, [], _, _, _, _, _ => by simp [wencL_nil]
  | r, .mk k n s l q :: xs, ks, 0, ho, _, _ => by simp [okL] at ho
  | r, .mk k n s l q :: xs, ks, d + 1, ho, hf, hk => by
    rw [okL_cons, Bool.and_eq_true] at ho
    rw [fitL_cons, Bool.and_eq_true] at hf
    have ho1 := ho.1
    have hf1 := hf.1
    simp only [okB, Bool.and_eq_true] at ho1
    simp only [fitB, Bool.and_eq_true, decide_eq_true_eq, List.all_eq_true] at hf1
    obtain ⟨⟨⟨⟨hn, hs⟩, hl⟩, hq⟩, hfl⟩ := hf1
    have h1 := wencL_small (decide (k = 5)) l q d ho1.2 hfl hq
    have h2 := wencL_small r xs ks.tail (d + 1) ho.2 hf.2 (fun t ht => hk t (List.mem_of_mem_tail ht))
    intro c hc
    rw [wencL_cons] at hc
    simp only [wenc] at hc
    rcases List.mem_append.1 hc with hc | hc
    · rcases List.mem_append.1 hc with hc | hc
      · cases r with
        | false => simp at hc
        | true =>
          rw [if_pos rfl] at hc
          exact tx_small _ (keyAt_small ks 0 hk) c hc
      · exact encN_small ho1.1 hn hs hl h1 c hc
    · exact h2 c hc

theorem wenc_small (v : Vl) (d : Nat) (ho : okB d v = true) (hf : fitB v = true) : ∀ c ∈ wenc v, 0 ≤ c ∧ c ≤ 255 := by
  have h := wencL_small false [v] [] d (by rw [okL_cons, ho, okL_nil]; rfl) (by rw [fitL_cons, hf, fitL_nil]; rfl) (fun t ht => by cases ht)
  rw [wencL_cons, wencL_nil] at h
  simpa using h

theorem wenc_pos (v : Vl) (d : Nat) (ho : okB d v = true) : 1 ≤ (wenc v).length := by
  cases v with
  | mk k n s l ks =>
    cases d with
    | zero => simp [okB] at ho
    | succ d =>
      simp only [okB, Bool.and_eq_true] at ho
      rcases form_zero ho.1 with ⟨rfl, _⟩ | ⟨rfl, _⟩ | ⟨rfl, _⟩ | ⟨rfl, _⟩ | ⟨rfl, _⟩ | ⟨rfl, _⟩
      · rw [wenc0]; simp
      · rw [wenc1]; simp
      · rw [wenc2]; simp
      · rw [wenc3]; simp
      · rw [wenc4]; simp
      · rw [wenc5]; simp
end Go.Proofs.Ytfdnhpmldnmncaa
